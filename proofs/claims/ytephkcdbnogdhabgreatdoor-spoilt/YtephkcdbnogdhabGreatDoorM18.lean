import Derived.Test.YtephkcdbnogdhabGreatDoorM15
import Derived.Test.YtephkcdbnogdhabGreatDoorM16
set_option linter.unusedVariables false
set_option maxHeartbeats 40000000
set_option maxRecDepth 10000
namespace Go.Proofs.YtephkcdbnogdhabGreatDoor
open Go.Proofs.Tryz
open Go renaming World->af,Value->ay,Calls->aH,TypeId->aW,Addr->bG
open Go.RowKit renaming Hid->au,Below->aA,intOf->bH
namespace Pr
open Go.RowKit Rf Cr
open gI (cut fK dZ gy gW h_ bQ gQ fO dw bz gu dL)
theorem Ye{w:af}{base:Nat}{T:aW}{z g n cap:Nat}{xs:List ay}(h:w.ownsRow base T z (.slice (some ⟨g,0,none⟩) n cap) n xs)(j:Nat)(f:j<n*z)(u:ay):(w.setCell ⟨g,j,none⟩ u).ownsRow base T z (.slice (some ⟨g,0,none⟩) n cap) n (xs.set j u):=by
 refine⟨by rw[iH];exact h.1,?_⟩;rcases h.2 with⟨a,_⟩|⟨i,b,cur,a,hb,c,h1,h2,d,e⟩
 ·simp at a
 ·simp at a;obtain⟨rfl,rfl⟩:=a;refine .inr ⟨g,cap,_,rfl,hb,bF c j u,h1,h2,by simpa using d,?_⟩;rw[Array.toList_setIfInBounds,List.take_set,e]
def Fj(E:List (Nat×Nat×Nat×Nat))(m x:Nat):List (Nat×Nat×Nat×Nat):=E.set m ((E.getD m (0,0,0,0)).1,(E.getD m (0,0,0,0)).2.1,(E.getD m (0,0,0,0)).2.2.1,x)
theorem Yf(E:List (Nat×Nat×Nat×Nat))(m x:Nat)(h:m<E.length):fP (Fj E m x)=(fP E).set (m*4+3) (.int .u16 (x:Int)):=by
 induction E generalizing m with
 |nil=>simp at h
 |cons q E a=>
  cases m with
  |zero=>rfl
  |succ m=>
   have e:=a m (by simpa using h);have b:Fj (q::E) (m+1) x=q::Fj E m x:=by simp[Fj]
   have c:fP (q::Fj E m x)=qE q++fP (Fj E m x):=by simp[fP]
   have e3:fP (q::E)=qE q++fP E:=by simp[fP]
   rw[b,c,e3,e,show(m+1)*4+3=m*4+3+1+1+1+1 by omega];simp[qE]
def uU(s:ByteArray)(p:Nat)(E:List (Nat×Nat×Nat×Nat)):Nat->List (Nat×Nat×Nat×Nat)
 |0=>E
 |m+1=>Fj (uU s p E m) m (dL (aF s (p+m)) 8)
theorem vJ(s:ByteArray)(p:Nat)(E:List (Nat×Nat×Nat×Nat))(m:Nat):(uU s p E m).length=E.length:=by
 induction m with
 |zero=>rfl
 |succ m a=>simp[uU,Fj,a]
def G_(s:ByteArray)(p n ne:Nat):Prop:=1<=n/\n<=ne/\p+n<=s.size
def cvF(S:Src)(cb kb:Nat)(ev:ay)(k:Nat):Prop:=UX S cb kb k\/ev.ownBlock=some k
theorem Fp{S:Src}{cb:Nat}{w w':af}{base:Nat}{T:aW}{z:Nat}{v:ay}{n:Nat}{xs:List ay}(h:w.ownsRow base T z v n xs)(b:mP S cb w)(c:LU T=false)(d:Fr (jc S cb) w w'):w'.ownsRow base T z v n xs:=
 fE h (fun k a=>d.block k (h.lt k a).2 (fun e=>by
  rcases h.2 with⟨rfl,_⟩|⟨g,cap,cur,rfl,_,f,_⟩
  ·simp[Value.ownBlock]at a
  ·simp[Value.ownBlock]at a;subst a;exact b.ne f c e))
theorem Qo{w:af}{base a:Nat}{T d:aW}{z e:Nat}{v v':ay}{n f:Nat}{xs b:List ay}(h:w.ownsRow base T z v n xs)(i:w.ownsRow a d e v' f b)(j:T≠d){k:Nat}(c:v.ownBlock=some k):v'.ownBlock≠some k:=by
 rcases h.2 with⟨rfl,_⟩|⟨g,cap,cur,rfl,_,l,_⟩
 ·simp[Value.ownBlock]at c
 ·simp[Value.ownBlock]at c;subst c;exact f_ i l j
theorem Fq(S:Src)(cb:Nat)(s:ByteArray)(w:af)(eb lb:bG)(p n:Nat)(name:ByteArray)(l:List UInt8)(h:CR S cb s w p name n l)(hs:ja w eb S.fb lb S.base)
 (kb base W H D K:Nat) (I:Bool) (ev:ay) (E:List (Nat×Nat×Nat×Nat)) (iW:Bool) (cv:ay) (C:List Nat) (hc:iT w kb base W H D K I ev E iW cv C) (b7:S.base<=kb) (b8:S.base<=base) (hE:E.length<=1000):
 aH prog 109 #[.pointer (some ⟨kb,0,none⟩),.pointer (some ⟨cb,0,none⟩)] w fun e w'=>
  (G_ s p n E.length/\e= .returned .nilIface/\CR S cb s w' (p+n) name 0 (l++cut s p n)/\iT w' kb base W H D K I ev (uU s p E n) iW cv C/\Fr (cvF S cb kb ev) w w')\/
  ((∃T a,e= .returned (.iface T (.pointer (some a)))/\dJ S w' T a (¬G_ s p n E.length))/\mP S cb w'/\Fr (cvF S cb kb ev) w w'):=by
 have m:au (G_ s p n E.length↔1<=n/\n<=E.length/\p+n<=s.size):=Iff.rfl;obtain⟨Q,hQ⟩:∃Q:Prop,Q=G_ s p n E.length:=⟨_,rfl⟩;rw[<-hQ]at m|-;clear hQ;have b9:=h.lf;have hL:=tq S cb s w p n name l h;obtain⟨_,_,c5,_,_,_⟩:=hc.cells;obtain⟨la,cap,rfl⟩:=lZ hc.lU;have HC:au _:=hc;have HH:au _:=h;clear hc h;obtain⟨ne,f⟩:∃ne,ne=E.length:=⟨_,rfl⟩;rw[<-f]at hE m c5;have dV:au (¬Q->∀G (wz:af),wz=w->aH prog 75 #[.string G] wz fun e w'=> ∃a,e= .returned (.iface 93 (.pointer (some a)))/\aA w.heap.size w w'):=(fun _ G wz B=>(cZ G wz).mono (fun e w' ⟨a,b⟩=>⟨_,a,by rw[b,B];exact(aV _ _).alloc (ah _) _⟩):_);by_cases h1:n<1
 ·have O:au (¬Q):=(fun P=>by have:=(m.out.1 P).1;omega:¬_);have e0:n=0:=by omega
  subst e0;go_enter func109,ntmps109
  go_wp2_with fail
  refine hL.mono ?_;rintro e w1 ⟨rfl,hw⟩;have hw:=hw.symm;subst hw;go_wp2_with fail
  refine(dV.out O.out _ _ rfl).mono ?_;rintro e w3 ⟨a,rfl,hb⟩;go_wp2_with fail
  go_ret;exact .inr ⟨⟨_,_,rfl,dJ.uh O.out⟩,(CR.e HH.out).grow (fun k d=>hb.block k d),Fr.jI hb⟩
 by_cases h2:ne<n
 ·have O:au (¬Q):=(fun P=>by have:=(m.out.1 P).2.1;omega:¬_);have d0:decide ((n:Int)<1)=false:=aS (by omega);go_enter func109,ntmps109
  go_wp2_with fail
  refine hL.mono ?_;rintro e w1 ⟨rfl,hw⟩;have hw:=hw.symm;subst hw;go_wp2_with fail
  refine(dV.out O.out _ _ rfl).mono ?_;rintro e w3 ⟨a,rfl,hb⟩;go_wp2_with fail
  go_ret;exact .inr ⟨⟨_,_,rfl,dJ.uh O.out⟩,(CR.e HH.out).grow (fun k d=>hb.block k d),Fr.jI hb⟩
 have d0:decide ((n:Int)<1)=false:=aS (by omega);clear dV;have R:CR S cb s w p name n l:=HH.out;have c:iT w kb base W H D K I (.slice la E.length cap) E iW cv C:=HC.out;obtain⟨g,rfl⟩:∃g,la=some ⟨g,0,none⟩:=by
  rcases c.lU.2 with⟨_,h0⟩|⟨g,F,cur,o,_⟩
  ·omega
  ·simp at o;exact⟨g,o.1⟩
 have a6:¬jc S cb kb:=R.e.ne c.oD (by decide);have U:kb≠g:=fun e=>f_ c.lU c.oD (by decide) (by rw[e];rfl);have c1:=ak c.oD;have c2:base<=g:=(c.lU.lt g rfl).1;have V:au (∀k,cvF S cb kb (.slice (some ⟨g,0,none⟩) E.length cap) k->S.base<=k):=(fun k e=>by
  rcases e with((e|e)|e)|e
  ·exact R.ok.low k e
  ·have:=R.base;omega
  ·omega
  ·have:=(c.lU.lt k e).1;omega:∀k,_)
 have a7:au (∀w',Fr (cvF S cb kb (.slice (some ⟨g,0,none⟩) E.length cap)) w w'->w'.ownsRow base 55 1 cv C.length (dm C)):=(fun w' hf=>fE c.zZ (fun k d=>hf.block k (c.zZ.lt k d).2 (fun e=>by
  rcases e with e|e
  ·rcases c.zZ.2 with⟨rfl,_⟩|⟨g,cap,cur,rfl,_,N,_⟩
   ·simp[Value.ownBlock]at d
   ·simp[Value.ownBlock]at d;subst d;rcases e with e|rfl
    ·exact R.e.ne N (by decide) e
    ·have:=c.oD;rw[N]at this;simp[qF]at this
  ·exact Qo c.zZ c.lU (by decide) d e)):∀w',_)
 have J:au _:=f;clear f R c;go_enter func109,ntmps109
 go_wp2_with fail
 refine hL.mono ?_;rintro e w1 ⟨rfl,hw⟩;have hw:=hw.symm;subst hw;go_wp2_with fail
 clear hL c5 d0;go_loopw [24] (fun iv wr=> ∃i:Nat,i<=n/\iv= .int .i64 (i:Int)/\CR S cb s wr (p+i) name (n-i) (l++cut s p i)/\wr.heap[kb]?=some (qF W H D K I (.slice (some ⟨g,0,none⟩) E.length cap) iW cv)/\wr.ownsRow base 190 4 (.slice (some ⟨g,0,none⟩) E.length cap) E.length (fP (uU s p E i))/\Fr (cvF S cb kb (.slice (some ⟨g,0,none⟩) E.length cap)) w wr) (fun iv _=>n-(bH iv).toNat)
 case atStart=>exact⟨0,aX _,rfl,by simpa [dZ]using HH.out,iT.oD HC.out,iT.lU HC.out,Fr.refl _ _⟩
 case round=>
  obtain⟨i,hi,rfl,L,v,q,hF⟩:=hrel;by_cases c3:i<n;rotate_left
  ·have e:i=n:=by omega
   subst e;go_wp2_with fail
   go_ret;rw[iL]at L;have f:=J.out;exact .inl ⟨m.out.2 ⟨by omega,by omega,L.le⟩,rfl,L,⟨v,by rw[vJ];exact q,a7.out _ hF⟩,hF⟩
  obtain⟨X,M⟩:∃X,n-i=X+1:=⟨n-i-1,by omega⟩;rw[M]at L;have a8:au _:=M;clear M;have Y:ja wr eb S.fb lb S.base:=hs.over (fun k d=>hF.block k (by omega) (fun e=>by have:S.base<=k:=V.out k e;omega));have hN:=yN S cb s wr eb lb _ X name _ L Y;have hb:=bY s (p+i);have j:=fun w'=>Ff (aF s (p+i)) 8 w' (by omega) (.inr (.inr (.inr (.inl rfl))));obtain⟨z,B⟩:∃z,z=dL (aF s (p+i)) 8:=⟨_,rfl⟩;rw[<-B]at j;have HZ:au _:=B;clear B;generalize aF s (p+i)=y at hb j hN;have f:=J.out;have b4:i<ne:=by omega
  have Z:au (∀w1,Fr (jc S cb) wr w1->w1.heap[kb]?=some (qF W H D K I (.slice (some ⟨g,0,none⟩) E.length cap) iW cv)/\w1.ownsRow base 190 4 (.slice (some ⟨g,0,none⟩) E.length cap) E.length (fP (uU s p E i))):=(fun w1 hf=>⟨(hf.block kb (ak v) a6).trans v,Fp q L.e (by decide) hf⟩:∀w1,_);rw[<-f]at Z;clear f;have HF:au _:=hF;clear Y L hF q v;go_wp2_with fail
  refine hN.mono ?_;clear hN;rintro e w1 (⟨hp,rfl,g1,g2⟩|⟨⟨T,a,rfl,g0⟩,g1,g2⟩);rotate_left
  ·have HW:dJ S w1 T a (¬Q):=g0.imp (fun g0 P=>g0 (by have:=(m.out.1 P).2.2;omega));clear g0;go_wp2_with fail
   go_ret;exact .inr ⟨⟨T,a,rfl,HW⟩,g1,Fr.trans HF.out (g2.mono (fun k d=> .inl (.inl d)))⟩
  obtain⟨kB,r⟩:=Z.out w1 g2;have c5:w1.cell? ⟨kb,5,none⟩=some (.slice (some ⟨g,0,none⟩) ne cap):=by simpa [qF]using(cell_of kB 5).1
  have a0:∃u,w1.cell? ⟨g,i*4+3,none⟩=some u:=by
   have h1:=r.cellAt (i*4+3) (by omega);have h2:i*4+3<(fP (uU s p E i)).length:=by rw[r.1];omega
   rw[aB h2]at h1;exact⟨_,h1⟩
  obtain⟨u,a0⟩:=a0;have c6:w1.frozen? ⟨g,i*4+3,none⟩=false:=by
   rcases r.2 with⟨o,_⟩|⟨g',F,cur,o,_,N,_⟩
   ·simp at o
   ·simp at o;rw[o.1];exact(cell_of N _).2
  have a1:au _:=kB;have a2:au _:=r;have a9:au _:=g1;have b0:au _:=g2;clear g1 g2 kB r;go_wp2_with fail
  have A:∀w',aH prog 107 #[.int .u16 (IntKind.u16.wrap (y:Int)),.int .i64 8] w' fun e b1=>e= .returned (.int .u16 ((z:Nat):Int))/\b1=w':=by
   have b2:IntKind.u16.wrap (y:Int)=(y:Int):=by rw[IntKind.wrap_u16];omega
   rw[b2];exact j
  clear j;have b3:∀x,(w1.setCell ⟨g,i*4+3,none⟩ x).cell? ⟨kb,5,none⟩=some (.slice (some ⟨g,0,none⟩) ne cap):=fun x=>(aQ (aC _ _ U)).trans c5;have b5:(0:Int)<=(i:Int):=by omega
  have b6:(i:Int)<(ne:Int):=by omega
  go_region_held3 (fun w'=>w'.cell? ⟨kb,5,none⟩=some (.slice (some ⟨g,0,none⟩) ne cap)) (first|go_keep|exact b3 _) (first
   |(go_at_call 107;refine(A _).mono ?_;rintro e w3 ⟨rfl,rfl⟩))
  all_goals
   go_wp2_with fail
   go_roundw
   case rel=>
    have a3:w1.ownsRow base 190 4 (.slice (some ⟨g,0,none⟩) ne cap) ne (fP (uU s p E i)):=a2.out;have a4:w1.heap[kb]?=some (qF W H D K I (.slice (some ⟨g,0,none⟩) ne cap) iW cv):=a1.out;have f:=J.out;have t:=Ye a3 (i*4+3) (by omega) (.int .u16 (z:Int));rw[<-Yf _ i z (by rw[vJ];omega)]at t;have a5:uU s p E (i+1)=Fj (uU s p E i) i z:=by rw[HZ.out];rfl
    rw[f]at t a4;refine⟨i+1,by omega,by go_num,?_,(aC _ _ U).trans a4,by rw[a5];exact t,?_⟩
    ·have B:CR S cb s w1 (p+i+1) name X (l++cut s p i++[s[p+i]]):=a9.out;have e1:=gy s p i hp;rw[e1,<-bI,show n-(i+1)=X by have:=a8.out;omega,show p+(i+1)=p+i+1 by omega];refine B.over (fun k d=>aC _ _ (fun e=> ?_));rcases d with d|d
     ·rcases a3.2 with⟨o,_⟩|⟨g',F,cur,o,_,N,_⟩
      ·simp at o
      ·simp at o;rw[e,o.1]at d;exact B.e.ne N (by decide) d
     ·omega
    ·exact(Fr.trans HF.out (Fr.mono b0.out (fun k d=> .inl (.inl d)))).set g (i*4+3) (.inr rfl) _|>.drew
   case measure=>simp[bH];omega
structure Cs where
 E:List (Nat×Nat×Nat×Nat)
 iW:Bool
 C:List Nat
structure qj(w:af)(kb base W H D K:Nat)(I:Bool)(st:Cs):Prop where
 at':∃ev cv,iT w kb base W H D K I ev st.E st.iW cv st.C/\(st.E.length=0->ev= .slice none 0 0)/\(st.iW=false->cv= .slice none 0 0)
 kb:base<=kb
 hp:base<=w.heap.size
 zn:st.E.length<=256
 zZ:st.iW=false->st.C=[]
def He(S:Src)(cb base:Nat)(k:Nat):Prop:=jc S cb k\/base<=k
def Yg(s:ByteArray)(p n:Nat)(st:Cs):Cs:=⟨wP s p (n/3),st.iW,st.C⟩
def qM(s:ByteArray)(p n D K:Nat)(st:Cs):Prop:=st.iW=false/\(((K=0\/K=2)/\JY s p n D K)\/(K=3/\G_ s p n st.E.length))
def JZ(s:ByteArray)(p n K:Nat)(st:Cs):Cs:=if K=3 then⟨uU s p st.E n,true,st.C⟩else⟨st.E,true,Lr s p (aT K)⟩
theorem abh{S:Src}{cb kb base:Nat}{w w':af}(h:Fr (UX S cb kb) w w')(a:base<=kb):Fr (He S cb base) w w':=h.mono (fun k e=>e.imp id (fun e=>by omega))
theorem CP(S:Src)(cb:Nat)(s:ByteArray)(w:af)(eb lb:bG)(p n:Nat)(name:ByteArray)(l:List UInt8)(h:CR S cb s w p name n l)(r:ja w eb S.fb lb S.base)
 (kb base W H D K:Nat) (I:Bool) (st:Cs) (c:qj w kb base W H D K I st) (hb:S.base<=base) (hD:eG D) (hK:K<=255) (f:K=3->D<=8):
 aH prog 89 #[.pointer (some ⟨kb,0,none⟩),.pointer (some ⟨cb,0,none⟩)] w fun e w'=>
  (Fh s p n D K st.E.length st.iW/\e= .returned .nilIface/\CR S cb s w' (p+n) name 0 (l++cut s p n)/\qj w' kb base W H D K I (Yg s p n st)/\Fr (He S cb base) w w')\/
  ((∃T a,e= .returned (.iface T (.pointer (some a)))/\dJ S w' T a (¬Fh s p n D K st.E.length st.iW))/\mP S cb w'/\Fr (He S cb base) w w'):=by
 obtain⟨ev,cv,h1,h2,t⟩:=c.at';have b:=c.kb;have g:=c.hp;have o:=c.zn;refine(DY S cb s w eb lb p n name l h r kb base W H D K I ev st.E st.iW cv st.C h1 h2 (by omega) g hD hK (by omega)).mono ?_;rintro e w' (⟨d,rfl,i,⟨j,k⟩,q⟩|⟨⟨T,a,rfl,d⟩,i,k⟩)
 ·have y:n<=3*256/\3<=n:=by
   obtain⟨_,_,_,u,v,_⟩:=d.1;refine⟨?_,u⟩;split at v
   ·next m=>
    have x:pw D<=pw 8:=Ih D 8 (f m);have:pw 8=256:=by decide
    omega
   ·omega
  have hlen:(Yg s p n st).E.length=n/3:=vI _ _ _;refine .inl ⟨d,rfl,i,⟨⟨j,cv,k,fun e=> ?_,t⟩,b,by have:=q.size;omega,by rw[hlen];omega,c.zZ⟩,abh q b⟩;rw[hlen]at e;omega
 ·exact .inr ⟨⟨T,a,rfl,d⟩,i,abh k b⟩
theorem Hf(S:Src)(cb:Nat)(s:ByteArray)(w:af)(eb lb:bG)(p n:Nat)(name:ByteArray)(l:List UInt8)(h:CR S cb s w p name n l)(hs:ja w eb S.fb lb S.base)
 (kb base W H D K:Nat) (I:Bool) (st:Cs) (B:qj w kb base W H D K I st) (hb:S.base<=base) (hD:eG D) (hK:K<=255):
 aH prog 90 #[.pointer (some ⟨kb,0,none⟩),.pointer (some ⟨cb,0,none⟩)] w fun e w'=>
  (qM s p n D K st/\e= .returned .nilIface/\CR S cb s w' (p+n) name 0 (l++cut s p n)/\qj w' kb base W H D K I (JZ s p n K st)/\Fr (He S cb base) w w')\/
  ((∃T a,e= .returned (.iface T (.pointer (some a)))/\dJ S w' T a (¬qM s p n D K st))/\mP S cb w'/\Fr (He S cb base) w w'):=by
 obtain⟨ev,cv,h1,h2,h3⟩:=B.at';have c:=B.kb;have P:=B.hp;have d:=B.zn;have t:=B.zZ;obtain⟨E,iW,C⟩:=st;simp only at h1 h2 h3 d t;have f:au (qM s p n D K ⟨E,iW,C⟩↔iW=false/\(((K=0\/K=2)/\JY s p n D K)\/(K=3/\G_ s p n E.length))):=Iff.rfl;obtain⟨Q,hQ⟩:∃Q:Prop,Q=qM s p n D K ⟨E,iW,C⟩:=⟨_,rfl⟩;rw[<-hQ]at f|-;clear hQ B;obtain⟨ST,u⟩:∃ST,ST=JZ s p n K ⟨E,iW,C⟩:=⟨_,rfl⟩;rw[<-u];have F:au _:=u;clear u;obtain⟨c2,c3,c5,c6,c7,cf⟩:=h1.cells;have f6:=cf 6;clear c2 c5 c7 cf;cases iW with
 |true=>
  have R:au (¬Q):=(fun b=>Bool.noConfusion (f.out.1 b).1:¬_);go_enter func90,ntmps90
  go_wp2_with fail
  refine(cZ _ _).mono ?_;rintro e w3 ⟨rfl,rfl⟩;go_wp2_with fail
  go_ret;exact .inr ⟨⟨_,_,rfl,dJ.uh R.out⟩,h.e.grow (fun k g=>ai _ _ k g),(Fr.refl _ _).alloc _⟩
 |false=>
  have U:=t rfl;subst U;have V:=h3 rfl;subst V;have X:¬jc S cb kb:=h.e.ne h1.oD (by decide);have i:Fr (He S cb base) w (w.setCell ⟨kb,6,none⟩ (.bool true)):=(Fr.refl _ w).set kb 6 (.inr c) _;have r:CR S cb s (w.setCell ⟨kb,6,none⟩ (.bool true)) p name n l:=h.over (fun k g=>aC 6 _ (fun e=>by
   rcases g with g|g
   ·exact X (e▸g)
   ·omega))
  have j:iT (w.setCell ⟨kb,6,none⟩ (.bool true)) kb base W H D K I ev E true (.slice none 0 0) []:=⟨(bF h1.oD 6 _).trans (by simp[qF]),fE h1.lU (fun k g=>aC 6 _ (fun e=>f_ h1.lU h1.oD (by decide) (e▸g))),eX _ _ _ _⟩;have v:ja (w.setCell ⟨kb,6,none⟩ (.bool true)) eb S.fb lb S.base:=hs.over (fun k g=>aC 6 _ (by omega));have y:base<=(w.setCell ⟨kb,6,none⟩ (.bool true)).heap.size:=by simp;exact P
  have a0:(w.setCell ⟨kb,6,none⟩ (.bool true)).cell? ⟨kb,3,none⟩=some (.int .u8 (K:Int)):=by simpa [qF]using(cell_of j.oD 3).1
  have G:=GZ S cb s _ eb lb p n name l r v kb base W H D K I ev E true j (by omega) y hD hK;have J:=Fq S cb s _ eb lb p n name l r v kb base W H D K I ev E true _ _ j (by omega) hb (by omega);have L:au (∀k,cvF S cb kb ev k->He S cb base k):=(fun k e=>by
   rcases e with(e|e)|e
   ·exact .inl e
   ·exact .inr (by omega)
   ·exact .inr (h1.lU.lt k e).1:∀k,_)
  have a1:au _:=j;have Y:au _:=r;clear h1 h j r v hs;by_cases N:K=0\/K=2
  ·have m:au (ST=⟨E,true,Lr s p (aT K)⟩):=(by rw[F.out];unfold JZ;rw[ax (by omega)]:_=_);have o:au (Q↔JY s p n D K):=(f.out.trans ⟨fun b=>by rcases b.2 with x|x;exact x.2;omega,fun b=>⟨rfl,.inl ⟨N,b⟩⟩⟩:_↔_);rcases N with rfl|rfl
   all_goals
    go_enter func90,ntmps90
    go_wp2_with fail
    refine G.mono ?_;rintro e w1 (⟨q,rfl,z,⟨Z,A⟩,M⟩|⟨⟨T,a,rfl,q⟩,z,A⟩)
    ·go_wp2_with fail
     go_ret;rw[m.out];exact .inl ⟨o.out.2 q,rfl,z,⟨⟨ev,Z,A,h2,fun e=>Bool.noConfusion e⟩,c,aY y M.size,d,fun e=>Bool.noConfusion e⟩,i.trans (abh M c)⟩
    ·go_wp2_with fail
     go_ret;exact .inr ⟨⟨T,a,rfl,q.imp (fun q b=>q (o.out.1 b))⟩,z,i.trans (abh A c)⟩
  by_cases O:K=3
  ·have m:au (ST=⟨uU s p E n,true,[]⟩):=(by rw[F.out];unfold JZ;rw[aG O]:_=_);have o:au (Q↔G_ s p n E.length):=(f.out.trans ⟨fun b=>by rcases b.2 with x|x;exact absurd x.1 N;exact x.2,fun b=>⟨rfl,.inr ⟨O,b⟩⟩⟩:_↔_);subst O;go_enter func90,ntmps90
   go_wp2_with fail
   refine J.mono ?_;rintro e w1 (⟨q,rfl,z,A,M⟩|⟨⟨T,a,rfl,q⟩,z,A⟩)
   ·go_wp2_with fail
    go_ret;rw[m.out];exact .inl ⟨o.out.2 q,rfl,z,⟨⟨ev,_,A,fun e=>h2 (by rw[vJ]at e;exact e),fun e=>Bool.noConfusion e⟩,c,aY y M.size,by rw[vJ];exact d,fun e=>Bool.noConfusion e⟩,i.trans (M.mono L.out)⟩
   ·go_wp2_with fail
    go_ret;exact .inr ⟨⟨T,a,rfl,q.imp (fun q b=>q (o.out.1 b))⟩,z,i.trans (A.mono L.out)⟩
  ·have R:au (¬Q):=(fun b=>by rcases(f.out.1 b).2 with x|x;exact N x.1;exact O x.1:¬_);have d0:((K:Int)==0)=false:=by rw[aI];omega
   have d2:((K:Int)==2)=false:=by rw[aI];omega
   have d3:((K:Int)==3)=false:=by rw[aI];omega
   clear G J;go_enter func90,ntmps90
   go_wp2_with fail
   refine(cZ _ _).mono ?_;rintro e w3 ⟨rfl,rfl⟩;go_wp2_with fail
   go_ret;exact .inr ⟨⟨_,_,rfl,dJ.uh R.out⟩,(CR.e Y.out).grow (fun k g=>ai _ _ k g),i.alloc _⟩
end Pr
namespace Pr
open Go.RowKit Rf Cr
def tC(q:Nat×Nat×Nat×Nat):ay:= .agg #[.int .u16 (q.1:Int),.int .u16 (q.2.1:Int),.int .u16 (q.2.2.1:Int),.int .u16 (q.2.2.2:Int)]
theorem M_(E:List (Nat×Nat×Nat×Nat))(i:Nat)(h:i<E.length):
 (fP E)[i*4]?=some (.int .u16 (((E.getD i (0,0,0,0)).1:Nat):Int))/\(fP E)[i*4+1]?=some (.int .u16 (((E.getD i (0,0,0,0)).2.1:Nat):Int))/\(fP E)[i*4+2]?=some (.int .u16 (((E.getD i (0,0,0,0)).2.2.1:Nat):Int))/\(fP E)[i*4+3]?=some (.int .u16 (((E.getD i (0,0,0,0)).2.2.2:Nat):Int)):=by
 induction E generalizing i with
 |nil=>simp at h
 |cons q E a=>
  have e3:fP (q::E)=qE q++fP E:=by simp[fP]
  rw[e3];cases i with
  |zero=>exact⟨rfl,rfl,rfl,rfl⟩
  |succ i=>
   have e:=a i (by simpa using h);rw[show(i+1)*4=i*4+1+1+1+1 by omega];refine⟨?_,?_,?_,?_⟩
   ·have:=e.1;simpa [qE]using this
   ·have:=e.2.1;rw[show i*4+1+1+1+1+1=i*4+1+4 by omega];simpa [qE]using this
   ·have:=e.2.2.1;rw[show i*4+1+1+1+1+2=i*4+2+4 by omega];simpa [qE]using this
   ·have:=e.2.2.2;rw[show i*4+1+1+1+1+3=i*4+3+4 by omega];simpa [qE]using this
theorem Yh(w:af)(kb base W H D K idx:Nat)(I:Bool)(ev:ay)(E:List (Nat×Nat×Nat×Nat))(iW:Bool)(cv:ay)(C:List Nat)(h:iT w kb base W H D K I ev E iW cv C)(f:E.length<=1000)(hi:idx<=65535)(c:E.length<=idx):
 aH prog 126 #[.pointer (some ⟨kb,0,none⟩),.int .i64 (idx:Int)] w fun e w'=> ∃a,e= .returned (.tuple #[tC (0,0,0,0),.iface 93 (.pointer (some a))])/\aA w.heap.size w w':=by
 obtain⟨_,_,c5,_,_,_⟩:=h.cells;obtain⟨la,cap,rfl⟩:=lZ h.lU;have b:=ak h.oD;clear h;generalize E.length=ne at*;have d:∀o,(w.alloc o).cell? ⟨kb,5,none⟩=some (.slice la ne cap):=fun o=>(aQ (ai w o kb b)).trans c5;go_enter func126,ntmps126
 go_wp2_with fail
 refine(cZ _ _).mono ?_;rintro e w1 ⟨rfl,rfl⟩;go_wp2_with fail
 refine a_ (v:= .tuple #[tC (0,0,0,0),.iface 93 (.pointer (some ⟨w.heap.size+1,0,none⟩))]) (by simp[results,results126,go_sem,tC]) rfl ?_;refine⟨_,rfl,?_⟩;exact((aV w.heap.size w).alloc (ah _) _).alloc (by simp) _
theorem UY(w:af)(kb base W H D K idx:Nat)(I:Bool)(ev:ay)(E:List (Nat×Nat×Nat×Nat))(iW:Bool)(cv:ay)(C:List Nat)(h:iT w kb base W H D K I ev E iW cv C)(z:E.length<=1000)(hi:idx<E.length):
 aH prog 126 #[.pointer (some ⟨kb,0,none⟩),.int .i64 (idx:Int)] w fun e w'=>e= .returned (.tuple #[tC (E.getD idx (0,0,0,0)),.nilIface])/\aA w.heap.size w w':=by
 obtain⟨_,_,c5,_,_,_⟩:=h.cells;obtain⟨k,l,m,n⟩:=M_ E idx hi;have a:=h.lU;obtain⟨la,cap,rfl⟩:=lZ h.lU;obtain⟨g,rfl⟩:∃g,la=some ⟨g,0,none⟩:=by
  rcases a.2 with⟨_,h0⟩|⟨g,p,cur,r,_⟩
  ·omega
  ·simp at r;exact⟨g,r.1⟩
 have c:=ak h.oD;have b:=(a.lt g rfl).2;have d:=(a.cellAt (idx*4) (by omega)).trans k;have f:=(a.cellAt (idx*4+1) (by omega)).trans l;have i:=(a.cellAt (idx*4+2) (by omega)).trans m;have j:=(a.cellAt (idx*4+3) (by omega)).trans n;clear h a k l m n;generalize E.getD idx (0,0,0,0)=q at*;obtain⟨s,t,u,x⟩:=q;dsimp only at d f i j;generalize E.length=ne at*;have y:∀o,(w.alloc o).cell? ⟨kb,5,none⟩=some (.slice (some ⟨g,0,none⟩) ne cap):=fun o=>(aQ (ai w o kb c)).trans c5;have A:∀o,(w.alloc o).cell? ⟨g,idx*4,none⟩=some (.int .u16 (s:Int)):=fun o=>(aQ (ai w o g b)).trans d;have s1:∀o,(w.alloc o).cell? ⟨g,idx*4+1,none⟩=some (.int .u16 (t:Int)):=fun o=>(aQ (ai w o g b)).trans f;have s2:∀o,(w.alloc o).cell? ⟨g,idx*4+2,none⟩=some (.int .u16 (u:Int)):=fun o=>(aQ (ai w o g b)).trans i;have B:∀o,(w.alloc o).cell? ⟨g,idx*4+3,none⟩=some (.int .u16 (x:Int)):=fun o=>(aQ (ai w o g b)).trans j;clear d f i j c5;go_enter func126,ntmps126
 go_wp2_with fail
 refine a_ (v:= .tuple #[tC (s,t,u,x),.nilIface]) (by simp[results,results126,go_sem,tC]) rfl ?_;refine⟨rfl,?_⟩;exact(aV w.heap.size w).alloc (ah _) _
def xR(w:af)(v:ay)(L:List Nat):Prop:=∃la cap,v= .slice la L.length cap/\((L=[]/\la=none)\/∃g off,la=some ⟨g,off,none⟩/\∀j,j<L.length->w.cell? ⟨g,off+j,none⟩=some (.int .u16 ((L.getD j 0:Nat):Int)))
theorem Qq{w:af}{base:Nat}{v:ay}{L:List Nat}(h:w.ownsRow base 55 1 v L.length (dm L)):xR w v L:=by
 rcases h.2 with⟨rfl,h0⟩|⟨g,cap,cur,rfl,_⟩
 ·have e:=gm h0;subst e;exact⟨none,0,rfl,.inl ⟨rfl,rfl⟩⟩
 ·refine⟨_,cap,rfl,.inr ⟨g,0,rfl,fun j a=> ?_⟩⟩;rw[fQ];refine(h.cellAt j (by omega)).trans ?_;simp[dm,List.getD,List.getElem?_eq_getElem a]
theorem Yi(w:af)(a b:Nat):(w.drewN a).drewN b=w.drewN (a+b):=by simp[World.drewN,Nat.add_assoc]
theorem Fv{X Y:List Nat}(h:X.length=Y.length)(e:∀i,i<X.length->X.getD i 0=Y.getD i 0):X=Y:=by refine List.ext_getElem h (fun i h1 h2=> ?_);have:=e i h1;simpa [List.getD,List.getElem?_eq_getElem h1,List.getElem?_eq_getElem h2]using this
theorem UZ(X Y:List Nat)(v u:ay)(w:af)(q:xR w v X)(r:xR w u Y)(h1:X.length<=1000)(h2:Y.length<=1000):
 aH prog 127 #[v,u] w fun e w'=>e= .returned (.bool (decide (X=Y)))/\∃nq,w'=w.drewN nq:=by
 obtain⟨la,cap,rfl,q⟩:=q;obtain⟨lb,I,rfl,r⟩:=r;by_cases z:X.length=Y.length;rotate_left
 ·have hd:decide (X=Y)=false:=aS (fun e=>z (by rw[e]));rw[hd];clear hd q r;generalize X.length=n at*;generalize Y.length=m at*;have Q:((n:Int) !=(m:Int))=true:=by rw[ig];omega
  go_enter func127,ntmps127
  go_wp2_with fail
  go_ret;exact⟨rfl,0,rfl⟩
 obtain⟨B,s⟩:∃B,B=decide (X=Y):=⟨_,rfl⟩;rw[<-s];have A:au _:=s;have J:au _:=z;have K:au _:=q;have L:au _:=r;clear s q r;rw[<-z];obtain⟨n,D⟩:∃n,n=X.length:=⟨_,rfl⟩;rw[<-D]at h1|-;have M:au _:=D;clear D z h2;go_enter func127,ntmps127
 go_wp2_with fail
 go_loopw [13] (fun iv wr=> ∃j nq:Nat,j<=n/\iv= .int .i64 (j:Int)/\(∀i,i<j->X.getD i 0=Y.getD i 0)/\wr=w.drewN nq) (fun iv _=>n-(bH iv).toNat)
 case atStart=>exact⟨0,0,aX _,rfl,fun i hi=>absurd hi (Nat.not_lt_zero i),rfl⟩
 case round=>
  obtain⟨j,f,T,rfl,c,a⟩:=hrel;have d:au _:=c;clear c;by_cases R:j<n;rotate_left
  ·have e:j=n:=by omega
   subst e;have C:au _:=a;have s:B=true:=by rw[A.out];exact aZ (Fv J.out (fun i hi=>d.out i (by rw[M.out];exact hi)))
   subst s;clear a A;go_wp2_with fail
   go_ret;exact⟨rfl,f,C.out⟩
  have b:j<X.length:=by have:=M.out;omega
  obtain⟨g,off,E,S⟩:∃g off,la=some ⟨g,off,none⟩/\wr.cell? ⟨g,off+j,none⟩=some (.int .u16 ((X.getD j 0:Nat):Int)):=by
   rcases K.out with⟨e,_⟩|⟨g,off,e,F⟩
   ·rw[e]at b;simp at b
   ·exact⟨g,off,e,by rw[a];exact F j b⟩
  obtain⟨U,N,t,O⟩:∃g off,lb=some ⟨g,off,none⟩/\wr.cell? ⟨g,off+j,none⟩=some (.int .u16 ((Y.getD j 0:Nat):Int)):=by
   have k:j<Y.length:=by have:=J.out;omega
   rcases L.out with⟨e,_⟩|⟨g,off,e,F⟩
   ·rw[e]at k;simp at k
   ·exact⟨g,off,e,by rw[a];exact F j k⟩
  clear K L;subst E;subst t;have l:au (X.getD j 0≠Y.getD j 0->B=false):=(fun h=>by rw[A.out];exact aS (fun e=>h (by rw[e])):_->_);have o:au (∀e:X.getD j 0=Y.getD j 0,∀i,i<j+1->X.getD i 0=Y.getD i 0):=(fun e i hi=>by
   rcases bW i j with h|h
   ·exact d.out i h
   ·rw[show i=j by omega];exact e:∀e,_)
  have C:au _:=a;clear a b A;generalize X.getD j 0=x at*;generalize Y.getD j 0=y at*;by_cases p:x=y
  ·have P:=o.out p;have G:au _:=P;clear P o l;subst p;have H:((x:Int) !=(x:Int))=false:=by simp
   go_wp2_with fail
   go_quiet (fail)
   go_wp2_with fail
   go_roundw
   case rel=>exact⟨j+1,f+nq,by omega,by go_num,G.out,by rw[C.out,Yi]⟩
   case measure=>simp[bH];omega
  ·have hb:=l.out p;subst hb;clear o l;have H:((x:Int) !=(y:Int))=true:=by rw[ig];omega
   go_wp2_with fail
   go_quiet (fail)
   go_wp2_with fail
   go_ret;exact⟨rfl,f+nq,by rw[C.out,Yi]⟩
theorem dW{B:Nat}{a w:af}(h:aA B a w)(b o:Nat)(hb:B<=b)(v:ay):aA B a (w.setCell ⟨b,o,none⟩ v):=
 ⟨h.os,h.tape,h.output,by simp;exact h.size,fun k c=>(aC o v (by omega)).trans (h.block k c)⟩
theorem Na(w:af)(kb base W H D x:Nat)(I:Bool)(ev:ay)(E:List (Nat×Nat×Nat×Nat))(iW:Bool)(cv:ay)(C:List Nat)(v:ay)(h:iT w kb base W H D 3 I ev E iW cv C)(A:E.length<=1000)(G:x<=65535)(J:xR w v [x]):
 aH prog 114 #[.pointer (some ⟨kb,0,none⟩),v] w fun e w'=>
  (x<E.length/\e= .returned (.tuple #[tC (E.getD x (0,0,0,0)),.nilIface])/\aA w.heap.size w w')\/
  (E.length<=x/\(∃a,e= .returned (.tuple #[tC (0,0,0,0),.iface 93 (.pointer (some a))]))/\aA w.heap.size w w'):=by
 obtain⟨la,cap,rfl,m⟩:=J;obtain⟨g,off,rfl,n⟩:∃g off,la=some ⟨g,off,none⟩/\w.cell? ⟨g,off,none⟩=some (.int .u16 (x:Int)):=by
  rcases m with⟨e,_⟩|⟨g,off,e,m⟩
  ·simp at e
  ·exact⟨g,off,e,m 0 (by simp)⟩
 have p:g<w.heap.size:=by
  rcases bW g w.heap.size with r|r
  ·exact r
  ·simp[World.cell?,Array.getElem?_eq_none r]at n
 obtain⟨_,c3,_,_,_,_⟩:=h.cells;have f:=ak h.oD;have B:∀o,iT (w.alloc o) kb base W H D 3 I ev E iW cv C:=fun o=>h.over (fun k i=>ai w o k (by
  rcases i with rfl|i|i
  ·exact f
  ·exact(h.lU.lt k i).2
  ·exact(h.zZ.lt k i).2))
 have K:∀o,(w.alloc o).cell? ⟨kb,3,none⟩=some (.int .u8 3):=fun o=>(aQ (ai w o kb f)).trans c3;have L:∀o,(w.alloc o).cell? ⟨g,off,none⟩=some (.int .u16 (x:Int)):=fun o=>(aQ (ai w o g p)).trans n;clear c3 n m;have F:au _:=B;clear h B;by_cases j:x<E.length
 ·have d:=fun o=>UY (w.alloc o) kb base W H D 3 x I ev E iW cv C (F.out o) A j;generalize E.getD x (0,0,0,0)=q at*;obtain⟨M,N,O,P⟩:=q;unfold tC at d|-;dsimp only at d|-;go_enter func114,ntmps114
  go_wp2_with fail
  refine(d _).mono ?_;rintro e w1 ⟨rfl,hb⟩;have b:w1.heap[w.heap.size]?=some (.cells #[.int .u16 0,.int .u16 0,.int .u16 0,.int .u16 0] 190 (0,0)):=(hb.block w.heap.size (by simp)).trans (aP w _);have s:w1.cell? ⟨w.heap.size,0,none⟩=some (.int .u16 0):=by simpa using(cell_of b 0).1
  have t:w1.cell? ⟨w.heap.size,1,none⟩=some (.int .u16 0):=by simpa using(cell_of b 1).1
  have u:w1.cell? ⟨w.heap.size,2,none⟩=some (.int .u16 0):=by simpa using(cell_of b 2).1
  have y:w1.cell? ⟨w.heap.size,3,none⟩=some (.int .u16 0):=by simpa using(cell_of b 3).1
  have Q:=(cell_of b 0).2;have R:=(cell_of b 1).2;have S:=(cell_of b 2).2;have T:=(cell_of b 3).2;have c:aA w.heap.size w w1:=((aV w.heap.size w).alloc (ah _) _).trans (hb.mono (by simp));have z:au _:=c;clear hb d c b;go_wp2_with fail
  refine a_ (v:= .tuple #[.agg #[.int .u16 (M:Int),.int .u16 (N:Int),.int .u16 (O:Int),.int .u16 (P:Int)],.nilIface]) (by simp[results,results114,go_sem,s,t,u,y]) rfl ?_;exact .inl ⟨j,rfl,(dW (dW (dW (dW z.out _ 0 (ah _) _) _ 1 (ah _) _) _ 2 (ah _) _) _ 3 (ah _) _)⟩
 ·have l:E.length<=x:=by omega
  have d:=fun o=>Yh (w.alloc o) kb base W H D 3 x I ev E iW cv C (F.out o) A G l;unfold tC at d|-;dsimp only at d|-;go_enter func114,ntmps114
  go_wp2_with fail
  refine(d _).mono ?_;rintro e w1 ⟨a,rfl,hb⟩;have b:w1.heap[w.heap.size]?=some (.cells #[.int .u16 0,.int .u16 0,.int .u16 0,.int .u16 0] 190 (0,0)):=(hb.block w.heap.size (by simp)).trans (aP w _);have s:w1.cell? ⟨w.heap.size,0,none⟩=some (.int .u16 0):=by simpa using(cell_of b 0).1
  have t:w1.cell? ⟨w.heap.size,1,none⟩=some (.int .u16 0):=by simpa using(cell_of b 1).1
  have u:w1.cell? ⟨w.heap.size,2,none⟩=some (.int .u16 0):=by simpa using(cell_of b 2).1
  have y:w1.cell? ⟨w.heap.size,3,none⟩=some (.int .u16 0):=by simpa using(cell_of b 3).1
  have Q:=(cell_of b 0).2;have R:=(cell_of b 1).2;have S:=(cell_of b 2).2;have T:=(cell_of b 3).2;have c:aA w.heap.size w w1:=((aV w.heap.size w).alloc (ah _) _).trans (hb.mono (by simp));have z:au _:=c;clear hb d c b;go_wp2_with fail
  refine a_ (v:= .tuple #[.agg #[.int .u16 0,.int .u16 0,.int .u16 0,.int .u16 0],.iface 93 (.pointer (some a))]) (by simp[results,results114,go_sem,s,t,u,y]) rfl ?_;exact .inr ⟨l,⟨a,rfl⟩,(dW (dW (dW (dW z.out _ 0 (ah _) _) _ 1 (ah _) _) _ 2 (ah _) _) _ 3 (ah _) _)⟩
open gI (dL)
def Nb(K D:Nat)(X C:List Nat):Nat×Nat×Nat×Nat:=
 if K=0 then(dL (X.getD 0 0) D,dL (X.getD 0 0) D,dL (X.getD 0 0) D,if X=C then 0 else 65535)
 else if K=4 then(dL (X.getD 0 0) D,dL (X.getD 0 0) D,dL (X.getD 0 0) D,dL (X.getD 1 0) D)
 else if K=2 then(dL (X.getD 0 0) D,dL (X.getD 1 0) D,dL (X.getD 2 0) D,if X=C then 0 else 65535)
 else(dL (X.getD 0 0) D,dL (X.getD 1 0) D,dL (X.getD 2 0) D,dL (X.getD 3 0) D)
def Yj(X:List Nat)(D i:Nat):Obj:= .cells #[.int .u16 ((if 0<i then dL (X.getD 0 0) D else 0:Nat):Int),.int .u16 ((if 1<i then dL (X.getD 1 0) D else 0:Nat):Int),.int .u16 ((if 2<i then dL (X.getD 2 0) D else 0:Nat):Int),.int .u16 ((if 3<i then dL (X.getD 3 0) D else 0:Nat):Int)] 189 (0,0)
theorem Yk{w:af}{b:Nat}{X:List Nat}{D i:Nat}(h:w.heap[b]?=some (Yj X D i))(hi:i<4):(w.setCell ⟨b,i,none⟩ (.int .u16 ((dL (X.getD i 0) D:Nat):Int))).heap[b]?=some (Yj X D (i+1)):=by refine(bF h i _).trans ?_;rcases(by omega:i=0\/i=1\/i=2\/i=3)with rfl|rfl|rfl|rfl<;>simp[Yj]
theorem U_{w:af}{b:Nat}{X:List Nat}{D i:Nat}(h:w.heap[b]?=some (Yj X D i))(hi:i<4):w.cell? ⟨b,i,none⟩=some (.int .u16 0):=by refine(cell_of h i).1.trans ?_;rcases(by omega:i=0\/i=1\/i=2\/i=3)with rfl|rfl|rfl|rfl<;>simp
theorem Yl{X:List Nat}(h:∀x∈X,x<=65535)(i:Nat):X.getD i 0<=65535:=by
 rcases bW i X.length with hi|hi
 ·rw[ag,aB hi];exact h _ (wo hi)
 ·rw[ag,dD hi];exact aX _
theorem xR.over{w w':af}{v:ay}{L:List Nat}(h:xR w v L)(e:∀k,k<w.heap.size->w'.heap[k]?=w.heap[k]?):xR w' v L:=by
 obtain⟨la,cap,rfl,h⟩:=h;refine⟨la,cap,rfl,h.imp id (fun⟨g,off,h1,h2⟩=>⟨g,off,h1,fun j d=> ?_⟩)⟩;have c:=h2 j d;have a:g<w.heap.size:=by
  rcases bW g w.heap.size with b|b
  ·exact b
  ·simp[World.cell?,Array.getElem?_eq_none b]at c
 exact(aQ (e g a)).trans c
theorem Nc(w:af)(kb base W H D K:Nat)(I:Bool)(ev:ay)(E:List (Nat×Nat×Nat×Nat))(iW:Bool)(cv:ay)(C X:List Nat)(v:ay)(h:iT w kb base W H D K I ev E iW cv C)(hK:K=0\/K=2\/K=4\/K=6)(hD:eG D)(hC:C.length<=4)(hX:xR w v X)(f:X.length=aT K)(A:∀x∈X,x<=65535):
 aH prog 114 #[.pointer (some ⟨kb,0,none⟩),v] w fun e w'=>e= .returned (.tuple #[tC (Nb K D X C),.nilIface])/\aA w.heap.size w w':=by
 have j:=ak h.oD;obtain⟨c2,c3,_,_,c7,_⟩:=h.cells;have F:=Qq h.zZ;clear h;have U:X.length<=4:=by rw[f];rcases hK with rfl|rfl|rfl|rfl<;>decide
 have l:=fun o=>UZ X C v cv (w.alloc o) (hX.over (fun k V=>ai w o k V)) (F.over (fun k V=>ai w o k V)) (by omega) (by omega);have k7:∀o,(w.alloc o).cell? ⟨kb,7,none⟩=some cv:=fun o=>(aQ (ai w o kb j)).trans c7;have k3:∀o,(w.alloc o).cell? ⟨kb,3,none⟩=some (.int .u8 (K:Int)):=fun o=>(aQ (ai w o kb j)).trans c3;have d3:((K:Int)==3)=false:=by rw[aI];omega
 obtain⟨b1,b0,rfl,_⟩:=F;obtain⟨la,cap,rfl,G⟩:=hX;have HK:au _:=hK;have Y:au _:=G;have Z:au _:=A;clear G A hK c7;obtain⟨P,hP⟩:∃P,P=Nb K D X C:=⟨_,rfl⟩;rw[<-hP];have HP:au _:=hP;clear hP;obtain⟨n,hn⟩:∃n,n=X.length:=⟨_,rfl⟩;rw[<-hn]at U f l|-;have HN:au _:=hn;clear hn;have a0:au _:=f;clear f;obtain⟨B,hB⟩:∃B,B=decide (X=C):=⟨_,rfl⟩;rw[<-hB]at l;have HB:au _:=hB;have J:au _:=l;clear hB l;generalize a1:C.length=nc at*;clear a1;go_enter func114,ntmps114
 go_wp2_with fail
 refine(J.out _).mono ?_;rintro e w1 ⟨rfl,nq,m⟩;clear J k7 k3;have L:w1.heap.size=w.heap.size+1:=by rw[m];simp
 have p:aA w.heap.size w w1:=by rw[m];exact lI.lJ ((aV _ _).alloc (ah _) _)
 have a:w1.heap[w.heap.size]?=some (.cells #[.int .u16 0,.int .u16 0,.int .u16 0,.int .u16 0] 190 (0,0)):=by rw[m];exact aP w _
 have a2:au _:=a;have M:au _:=p;have a3:au _:=L;have a4:au (w1.cell? ⟨kb,2,none⟩=some (.int .i64 (D:Int))):=((aQ (p.block kb j)).trans c2:_=_);have a5:au (w1.cell? ⟨kb,3,none⟩=some (.int .u8 (K:Int))):=((aQ (p.block kb j)).trans c3:_=_);clear c2 c3 m a p L;have N:au ((if X=C then(0:Nat)else 65535)=cond B 0 65535):=(by rw[HB.out];by_cases O:X=C<;>simp[O]:_=_);cases B
 all_goals
  go_wp2_with fail
  obtain⟨b7,d⟩:∃b,b=w1.heap.size:=⟨_,rfl⟩;rw[<-d];have s:au _:=d;clear d;go_loopw [32] (fun iv wr=> ∃i:Nat,i<=n/\iv= .int .i64 (i:Int)/\wr.heap[b7]?=some (Yj X D i)/\aA b7 w1 wr) (fun iv _=>n-(bH iv).toNat)
  case atStart=>exact⟨0,aX _,rfl,by rw[s.out];exact aP w1 _,by rw[s.out];exact(aV _ _).alloc (ah _) _⟩
  case round=>
   obtain⟨i,hi,rfl,q,c⟩:=hrel;have Q:=a3.out;have d:=s.out;have a6:wr.cell? ⟨kb,2,none⟩=some (.int .i64 (D:Int)):=(aQ (c.block kb (by omega))).trans a4.out;have b2:wr.cell? ⟨kb,3,none⟩=some (.int .u8 (K:Int)):=(aQ (c.block kb (by omega))).trans a5.out;by_cases b3:i<n
   ·have r:i<X.length:=by have:=HN.out;omega
    obtain⟨g,off,a7,b4⟩:∃g off,la=some ⟨g,off,none⟩/\wr.cell? ⟨g,off+i,none⟩=some (.int .u16 ((X.getD i 0:Nat):Int)):=by
     rcases Y.out with⟨e,_⟩|⟨g,off,e,T⟩
     ·rw[e]at r;simp at r
     ·have T:=T i r;have a8:g<w.heap.size:=by
       rcases bW g w.heap.size with O|O
       ·exact O
       ·simp[World.cell?,Array.getElem?_eq_none O]at T
      exact⟨g,off,e,(aQ ((c.block g (by omega)).trans (Below.block M.out g a8))).trans T⟩
    subst a7;have hx:=Yl Z.out i;have hF:=fun w'=>Ff (X.getD i 0) D w' hx hD;have R:au _:=Yk q (by omega);have cz:=U_ q (show i<4 by omega);have fz:=(cell_of q i).2;generalize dL (X.getD i 0) D=z at*;generalize X.getD i 0=x at*;have t:au _:=c;have b5:i<4:=by omega
    clear c q r d Q;go_wp2_with fail
    refine(hF _).mono ?_;rintro e wz ⟨rfl,u⟩;have u:=u.symm;subst u;go_wp2_with fail
    go_roundw
    case rel=>exact⟨i+1,by omega,by go_num,R.out,dW t.out b7 i (ah _) _⟩
    case measure=>simp[bH];omega
   ·have e:i=n:=by omega
    subst e;have t:au (aA w.heap.size w wr):=(jd M.out (c.mono (by omega)):aA _ _ _);have a:wr.heap[w.heap.size]?=some (.cells #[.int .u16 0,.int .u16 0,.int .u16 0,.int .u16 0] 190 (0,0)):=(c.block _ (by omega)).trans a2.out;have z0:wr.cell? ⟨w.heap.size,0,none⟩=some (.int .u16 0):=by simpa using(cell_of a 0).1
    have z1:wr.cell? ⟨w.heap.size,1,none⟩=some (.int .u16 0):=by simpa using(cell_of a 1).1
    have z2:wr.cell? ⟨w.heap.size,2,none⟩=some (.int .u16 0):=by simpa using(cell_of a 2).1
    have z3:wr.cell? ⟨w.heap.size,3,none⟩=some (.int .u16 0):=by simpa using(cell_of a 3).1
    have y0:=(cell_of a 0).2;have y1:=(cell_of a 1).2;have y2:=(cell_of a 2).2;have y3:=(cell_of a 3).2;have p0:=(cell_of q 0).1;have p1:=(cell_of q 1).1;have p2:=(cell_of q 2).1;have p3:=(cell_of q 3).1;have S:=a0.out;have y:=N.out;dsimp only[cond]at y;have a9:au _:=y;clear a q c a6 d Q y N;rcases HK.out with rfl|rfl|rfl|rfl
    all_goals
     simp[aT]at S;subst S;simp at p0 p1 p2 p3;go_wp2_with fail
     refine a_ (v:= .tuple #[tC P,.nilIface]) (by rw[HP.out];unfold Nb;rw[a9.out];simp[results,results114,go_sem,tC,z0,z1,z2,z3]) rfl ?_;exact⟨rfl,dW (dW (dW (dW t.out _ 0 (ah _) _) _ 1 (ah _) _) _ 2 (ah _) _) _ 3 (ah _) _⟩
end Pr
namespace Pr
open Go.RowKit Rf Cr
def uo(row:List Nat)(i n D:Nat):List Nat:=(List.range n).map fun k=>oO row (i*n+k) D
theorem pO(row:List Nat)(i n D:Nat):(uo row i n D).length=n:=by simp[uo]
theorem SX(row:List Nat)(i n D k:Nat)(h:k<n):(uo row i n D).getD k 0=oO row (i*n+k) D:=by rw[ag,aB (by rw[pO];exact h)];simp[uo]
theorem SY(row:List Nat)(i D:Nat)(hb:∀x∈row,x<=255)(hD:eG D):oO row i D<=65535:=by
 unfold oO;split
 ·have h0:=gI.qy hb (2*i);have h1:=gI.qy hb (2*i+1);omega
 ·have hp:2^D<=2^16:=bT (by omega) (by rcases hD with rfl|rfl|rfl|rfl|rfl<;>omega);have:=jR (row.getD (i*D/8) 0/2^(8-D-i*D%8)) (show 0<2^D from Nat.pow_pos (by omega));omega
theorem abk(row:List Nat)(i n D:Nat)(hb:∀x∈row,x<=255)(hD:eG D):∀x∈uo row i n D,x<=65535:=by intro x a;obtain⟨k,_,rfl⟩:=List.mem_map.1 a;exact SY row _ D hb hD
theorem xW{r a:List Nat}(h:r<+:a)(j:Nat)(b:j<r.length):r.getD j 0=a.getD j 0:=by obtain⟨t,rfl⟩:=h;rw[ag,ag,dI b]
theorem DC{r a:List Nat}(h:r<+:a)(i D:Nat)(hD:1<=D)(hi:(i+1)*D<=8*r.length):oO r i D=oO a i D:=by
 unfold oO;split
 ·next e=>
  subst e;rw[xW h (2*i) (by omega),xW h (2*i+1) (by omega)]
 ·have e:(i+1)*D=i*D+D:=by rw[eF];omega
  rw[xW h (i*D/8) (by omega)]
theorem Nl{r a:List Nat}(h:r<+:a)(i n D:Nat)(hD:1<=D)(hi:(i+1)*(D*n)<=8*r.length):uo r i n D=uo a i n D:=by
 refine List.map_congr_left (fun k b=> ?_);have b:k<n:=List.mem_range.1 b;refine DC h _ D hD ?_;have h1:i*n+k+1<=(i+1)*n:=by rw[eF];omega
 have h2:=dM D h1;have c:(i+1)*n*D=(i+1)*(D*n):=by rw[ni,eP n D]
 omega
def J_(K D:Nat)(E:List (Nat×Nat×Nat×Nat))(C:List Nat)(row:List Nat)(i:Nat):Option (Nat×Nat×Nat×Nat):=
 if K=3 then(if oO row i D<E.length then some (E.getD (oO row i D) (0,0,0,0))else none)else some (Nb K D (uo row i (aT K) D) C)
theorem abl(ps:List jX)(W K D:Nat)(E:List (Nat×Nat×Nat×Nat))(C:List Nat)(hD:1<=D):Fz ⟨ps,D*aT K,W,J_ K D E C⟩:=by
 intro r b i h hi;dsimp only at hi|-;unfold J_;by_cases a:K=3
 ·rw[aG a,aG a];have e:aT K=1:=by rw[a];rfl
  rw[e,Nat.mul_one]at hi;rw[DC h i D hD hi]
 ·rw[ax a,ax a,Nl h i (aT K) D hD hi]
theorem Qs(row:List Nat)(i D:Nat)(v:ay)(w:af)(a:vK w v row)(hb:∀x∈row,x<=255)(hD:eG D)(c:(i+1)*D<=8*row.length)(b:row.length<=100000000000):
 aH prog 113 #[v,.int .i64 (i:Int),.int .i64 (D:Int)] w fun e w'=>e= .returned (.int .u16 ((oO row i D:Nat):Int))/\∃nq,w'=w.drewN nq:=by
 have e:(i+1)*D=i*D+D:=by rw[eF];omega
 have hi:i<=i*D:=by
  have:1<=D:=by rcases hD with rfl|rfl|rfl|rfl|rfl<;>omega
  exact Nat.le_mul_of_pos_right i this
 rcases hD with rfl|rfl|rfl|rfl|rfl
 ·exact wQ row i 1 v w a hb (by omega) (by omega) (by omega) (by omega)
 ·exact wQ row i 2 v w a hb (by omega) (by omega) (by omega) (by omega)
 ·exact wQ row i 4 v w a hb (by omega) (by omega) (by omega) (by omega)
 ·exact wQ row i 8 v w a hb (by omega) (by omega) (by omega) (by omega)
 ·exact Qp row i v w a hb (by omega) (by omega)
def zu(W H D K:Nat)(I:Bool)(kb:Nat)(pv:ay):Obj:= .cells #[.int .i64 (W:Int),.int .i64 (H:Int),.int .i64 (D:Int),.int .u8 (K:Int),.bool I,.pointer (some ⟨kb,0,none⟩),pv] 179 (0,0)
def Ko(X:List Nat)(k:Nat):Obj:= .cells #[.int .u16 ((if 0<k then X.getD 0 0 else 0:Nat):Int),.int .u16 ((if 1<k then X.getD 1 0 else 0:Nat):Int),.int .u16 ((if 2<k then X.getD 2 0 else 0:Nat):Int),.int .u16 ((if 3<k then X.getD 3 0 else 0:Nat):Int)] 189 (0,0)
theorem Yp{w:af}{b:Nat}{X:List Nat}{i:Nat}(h:w.heap[b]?=some (Ko X i))(hi:i<4):(w.setCell ⟨b,i,none⟩ (.int .u16 ((X.getD i 0:Nat):Int))).heap[b]?=some (Ko X (i+1)):=by refine(bF h i _).trans ?_;rcases(by omega:i=0\/i=1\/i=2\/i=3)with rfl|rfl|rfl|rfl<;>simp[Ko]
theorem Va{w:af}{b:Nat}{X:List Nat}{i:Nat}(h:w.heap[b]?=some (Ko X i))(hi:i<4):w.cell? ⟨b,i,none⟩=some (.int .u16 0):=by refine(cell_of h i).1.trans ?_;rcases(by omega:i=0\/i=1\/i=2\/i=3)with rfl|rfl|rfl|rfl<;>simp
theorem abm{w:af}{b:Nat}{X:List Nat}{n cap:Nat}(h:w.heap[b]?=some (Ko X n))(a:X.length=n)(c:n<=4):xR w (.slice (some ⟨b,0,none⟩) n cap) X:=by
 refine⟨_,cap,by rw[a],.inr ⟨b,0,rfl,fun j d=> ?_⟩⟩;rw[fQ];refine(cell_of h j).1.trans ?_;rcases(by omega:j=0\/j=1\/j=2\/j=3)with rfl|rfl|rfl|rfl
 ·simp[show 0<n by omega]
 ·simp[show 1<n by omega]
 ·simp[show 2<n by omega]
 ·simp[show 3<n by omega]
theorem vK.over{w w':af}{v:ay}{row:List Nat}(h:vK w v row)(e:∀k,k<w.heap.size->w'.heap[k]?=w.heap[k]?):vK w' v row:=by
 obtain⟨g,off,cap,rfl,c⟩:=h;refine⟨g,off,cap,rfl,fun j d=> ?_⟩;have h1:=c j d;have a:g<w.heap.size:=by
  rcases bW g w.heap.size with b|b
  ·exact b
  ·simp[World.cell?,Array.getElem?_eq_none b]at h1
 exact(aQ (e g a)).trans h1
def Yq(o:Option (Nat×Nat×Nat×Nat))(w:af)(e:Ending)(w':af):Prop:=
 ((∃q,o=some q/\e= .returned (.tuple #[tC q,.nilIface]))\/(o=none/\∃a,e= .returned (.tuple #[tC (0,0,0,0),.iface 93 (.pointer (some a))])))/\aA w.heap.size w w'
theorem Vb(w:af)(kb base W H D K:Nat)(I:Bool)(ev:ay)(E:List (Nat×Nat×Nat×Nat))(iW:Bool)(cv:ay)(C row:List Nat)(i:Nat)(v:ay)(h:iT w kb base W H D K I ev E iW cv C)(hK:K=0\/K=2\/K=3\/K=4\/K=6)(hD:eG D)(d:E.length<=1000)(f:C.length<=4)(hb:∀x∈row,x<=255)(b:xR w v (uo row i (aT K) D)):
 aH prog 114 #[.pointer (some ⟨kb,0,none⟩),v] w (Yq (J_ K D E C row i) w):=by
 by_cases c:K=3
 ·subst c;have e:uo row i (aT 3) D=[oO row i D]:=by
   show [oO row (i*1+0) D]=_;rw[Nat.mul_one,cO]
  rw[e]at b;refine(Na w kb base W H D (oO row i D) I ev E iW cv C v h d (SY row i D hb hD) b).mono ?_;rintro e w' (⟨h1,rfl,h2⟩|⟨h1,⟨a,rfl⟩,h2⟩)
  ·exact⟨.inl ⟨_,by unfold J_;rw[aG rfl,aG h1],rfl⟩,h2⟩
  ·exact⟨.inr ⟨by unfold J_;rw[aG rfl,ax (by omega)],a,rfl⟩,h2⟩
 ·refine(Nc w kb base W H D K I ev E iW cv C (uo row i (aT K) D) v h (by omega) hD f b (pO _ _ _ _) (abk row i _ D hb hD)).mono ?_;rintro e w' ⟨rfl,h2⟩;exact⟨.inl ⟨_,by unfold J_;rw[ax c],rfl⟩,h2⟩
theorem acY(w:af)(b n:Nat)(a:n<=4):(Instr.sliceAt 189 (.pointer (some ⟨b,0,none⟩)) none (some (.int .i64 (n:Int))) none).run prog w= .ok (.slice (some ⟨b,0,none⟩) n 4) w:=by rcases(by omega:n=0\/n=1\/n=2\/n=3\/n=4)with rfl|rfl|rfl|rfl|rfl;all_goals kernel_rfl
theorem Qu(w:af)(vb kb base W H D K:Nat)(I:Bool)(pv ev:ay)(E:List (Nat×Nat×Nat×Nat))(iW:Bool)(cv:ay)(C row:List Nat)(i:Nat)(v:ay)(hV:w.heap[vb]?=some (zu W H D K I kb pv))(h:iT w kb base W H D K I ev E iW cv C)(hK:K=0\/K=2\/K=3\/K=4\/K=6)(hD:eG D)(hE:E.length<=1000)(G:C.length<=4)(hb:∀x∈row,x<=255)(hR:vK w v row)(hi:(i+1)*(D*aT K)<=8*row.length)(a9:row.length<=100000000000):
 aH prog 94 #[.pointer (some ⟨vb,0,none⟩),v,.int .i64 (i:Int)] w (Yq (J_ K D E C row i) w):=by
 have R:=ak hV;have c:∀k,k<w.heap.size->((w.alloc (.cells #[.int .u16 0,.int .u16 0,.int .u16 0,.int .u16 0] 190)).alloc (.cells #[.int .u16 0,.int .u16 0,.int .u16 0,.int .u16 0] 189)).heap[k]?=w.heap[k]?:=fun k j=>(ai _ _ k (by simp;omega)).trans (ai _ _ k j);have b0:=ak h.oD;have hS:=fun w'=>Be K w' (by omega);have c6:1<=D:=by rcases hD with rfl|rfl|rfl|rfl|rfl<;>omega
 have y:1<=aT K/\aT K<=4:=by rcases hK with rfl|rfl|rfl|rfl|rfl<;>decide
 have J:au (∀k,k<aT K->∀w',(∀q,q<w.heap.size->w'.heap[q]?=w.heap[q]?)->aH prog 113 #[v,.int .i64 ((i*aT K+k:Nat):Int),.int .i64 (D:Int)] w' fun e b1=>e= .returned (.int .u16 ((oO row (i*aT K+k) D:Nat):Int))/\∃nq,b1=w'.drewN nq):=(fun k j w' L=>by
  refine Qs row (i*aT K+k) D v w' (hR.over L) hb hD ?_ a9;have h1:i*aT K+k+1<=(i+1)*aT K:=by rw[eF];omega
  have h2:=dM D h1;have h3:(i+1)*aT K*D=(i+1)*(D*aT K):=by rw[ni,eP (aT K) D]
  omega:∀k,_)
 have S:au (∀w' u,(∀q,q<w.heap.size->w'.heap[q]?=w.heap[q]?)->xR w' u (uo row i (aT K) D)->aH prog 114 #[.pointer (some ⟨kb,0,none⟩),u] w' (Yq (J_ K D E C row i) w')):=(fun w' u L hU=>Vb w' kb base W H D K I ev E iW cv C row i u (h.over (fun k j=>L k (by
  rcases j with rfl|j|j
  ·exact b0
  ·exact(h.lU.lt k j).2
  ·exact(h.zZ.lt k j).2))) hK hD hE G hb hU:∀w',_)
 have HX:=pO row i (aT K) D;have b2:au (∀k,k<aT K->(uo row i (aT K) D).getD k 0=oO row (i*aT K+k) D):=(fun k j=>SX row i _ D k j:∀k,_);have c7:i*aT K<=800000000000:=by have h1:i*aT K<=(i+1)*(D*aT K):=bD (by omega) (Nat.le_mul_of_pos_left _ (by omega));omega
 have c8:i<=800000000000:=by have:i<=i*aT K:=Nat.le_mul_of_pos_right i (by omega);omega
 have hmul:(i:Int)*((aT K:Nat):Int)=((i*aT K:Nat):Int):=by simp
 obtain⟨g,off,cap,rfl,-⟩:=hR;obtain⟨o,ho⟩:∃o,o=J_ K D E C row i:=⟨_,rfl⟩;rw[<-ho]at S|-;clear ho c hi h hb;generalize uo row i (aT K) D=X at*;generalize aT K=n at*;generalize hm:i*n=m at*;have HM:au _:=hm;clear hm;have b3:au _:=HX;clear HX;have c1:∀o1 o2,((w.alloc o1).alloc o2).cell? ⟨vb,3,none⟩=some (.int .u8 (K:Int)):=fun o1 o2=>(aQ ((ai _ _ vb (by simp;omega)).trans (ai _ _ vb R))).trans (by simpa [zu]using(cell_of hV 3).1);have HV:au _:=hV;clear hV;go_enter func94,ntmps94
 go_wp2_with fail
 refine(hS _).mono ?_;rintro e w1 ⟨rfl,s⟩;have T:w1.heap[w.heap.size+1]?=some (Ko X 0):=by rw[s];have:=aP (w.alloc (.cells #[.int .u16 0,.int .u16 0,.int .u16 0,.int .u16 0] 190)) (.cells #[.int .u16 0,.int .u16 0,.int .u16 0,.int .u16 0] 189);simpa [Ko]using this
 have U:w1.heap[w.heap.size]?=some (.cells #[.int .u16 0,.int .u16 0,.int .u16 0,.int .u16 0] 190 (0,0)):=by rw[s];exact(ai _ _ _ (by simp)).trans (aP w _)
 have V:aA w.heap.size w w1:=by rw[s];exact((aV _ _).alloc (ah _) _).alloc (by simp) _
 have b4:w1.heap.size=w.heap.size+2:=by rw[s];simp
 have b5:au _:=U;have b7:au _:=T;have Y:au _:=V;clear U T V b4 s c1 hS;obtain⟨M,l⟩:∃b,b=w.heap.size:=⟨_,rfl⟩;obtain⟨A,p⟩:∃b,b=w.heap.size+1:=⟨_,rfl⟩;rw[<-p,<-l];have Z:au _:=l;have a0:au _:=p;clear l p;have a1:∀k,k<w.heap.size->w1.heap[k]?=w.heap[k]?:=fun k j=>Below.block Y.out k j;have b9:au _:=a1;clear a1;obtain⟨c9,y⟩:=y;have d0:=acY w1 A n y;go_wp2_with fail
 go_loopw [20] (fun iv wr=> ∃k:Nat,k<=n/\iv= .int .i64 (k:Int)/\wr.heap[A]?=some (Ko X k)/\aA A w1 wr) (fun iv _=>n-(bH iv).toNat)
 case atStart=>exact⟨0,aX _,rfl,by rw[a0.out];exact b7.out,aV _ _⟩
 case round=>
  obtain⟨k,j,rfl,Q,r⟩:=hrel;have p:=a0.out;have l:=Z.out;have c:∀q,q<w.heap.size->wr.heap[q]?=w.heap[q]?:=fun q hq=>(r.block q (by omega)).trans (b9.out q hq);have B:=(c vb R).trans HV.out;have c2:wr.cell? ⟨vb,2,none⟩=some (.int .i64 (D:Int)):=by simpa using(cell_of B 2).1
  have c5:wr.cell? ⟨vb,5,none⟩=some (.pointer (some ⟨kb,0,none⟩)):=by simpa using(cell_of B 5).1
  by_cases a2:k<n
  ·have G:=J.out k a2 wr c;have a3:au (∀z:Nat,z=X.getD k 0->(wr.setCell ⟨A,k,none⟩ (.int .u16 (z:Int))).heap[A]?=some (Ko X (k+1))):=(fun z hz=>by rw[hz];exact Yp Q (by omega):∀z,_);have cz:=Va Q (show k<4 by omega);have fz:=(cell_of Q k).2;have HZ:au _:=b2.out k a2;rw[Int.natCast_add]at G;generalize oO row (m+k) D=z at*;have c3:au _:=r;have d1:k<4:=by omega
   clear r Q p l B c;go_wp2_with fail
   refine G.mono ?_;rintro e wz ⟨rfl,nq,F⟩;have d2:wz.cell? ⟨A,k,none⟩=some (.int .u16 0):=by rw[F];exact cz
   have d3:wz.frozen? ⟨A,k,none⟩=false:=by rw[F];exact fz
   have a4:au _:=F;clear F cz fz G;go_wp2_with fail
   go_roundw
   case rel=>
    refine⟨k+1,by omega,by go_num,?_,?_⟩
    ·rw[a4.out];exact a3.out _ HZ.out.symm
    ·exact dW (by rw[a4.out];exact lI.lJ c3.out) A k (ah _) _
   case measure=>simp[bH];omega
  ·have e:k=n:=by omega
   subst e;have G:=S.out wr (.slice (some ⟨A,0,none⟩) k 4) c (abm Q b3.out y);have N:wr.heap[M]?=some (.cells #[.int .u16 0,.int .u16 0,.int .u16 0,.int .u16 0] 190 (0,0)):=(r.block _ (by omega)).trans (by rw[Z.out];exact b5.out);have a5:=ak N;have a6:aA w.heap.size w wr:=jd Y.out (r.mono (by omega));have a7:au _:=a6;clear a6 r Q c2 p B c J;go_wp2_with fail
   refine G.mono ?_;rintro e w2 ⟨ho,O⟩;have d:=(O.block M a5).trans N;have z0:w2.cell? ⟨M,0,none⟩=some (.int .u16 0):=by simpa using(cell_of d 0).1
   have z1:w2.cell? ⟨M,1,none⟩=some (.int .u16 0):=by simpa using(cell_of d 1).1
   have z2:w2.cell? ⟨M,2,none⟩=some (.int .u16 0):=by simpa using(cell_of d 2).1
   have z3:w2.cell? ⟨M,3,none⟩=some (.int .u16 0):=by simpa using(cell_of d 3).1
   have y0:=(cell_of d 0).2;have y1:=(cell_of d 1).2;have y2:=(cell_of d 2).2;have y3:=(cell_of d 3).2;have a8:au (aA w.heap.size w w2):=(jd a7.out (O.mono (kD a7.out)):aA _ _ _);have f:w.heap.size<=M:=by omega
   clear O d N l G;rcases ho with⟨q,t,rfl⟩|⟨t,a,rfl⟩
   ·obtain⟨q0,q1,q2,q3⟩:=q;have P:au _:=t;clear t;unfold tC;dsimp only;go_wp2_with fail
    refine a_ (v:= .tuple #[tC (q0,q1,q2,q3),.nilIface]) (by simp[results,results94,go_sem,tC,z0,z1,z2,z3]) rfl ?_;exact⟨.inl ⟨_,P.out,rfl⟩,dW (dW (dW (dW a8.out _ 0 f _) _ 1 f _) _ 2 f _) _ 3 f _⟩
   ·have P:au _:=t;clear t;unfold tC;dsimp only;go_wp2_with fail
    refine a_ (v:= .tuple #[tC (0,0,0,0),.iface 93 (.pointer (some a))]) (by simp[results,results94,go_sem,tC,z0,z1,z2,z3]) rfl ?_;exact⟨.inr ⟨P.out,a,rfl⟩,dW (dW (dW (dW a8.out _ 0 f _) _ 1 f _) _ 2 f _) _ 3 f _⟩
def mM(w:af)(g:Nat)(L:List Nat):Prop:=w.heap[g]?=some (.cells (dm L).toArray 55 (0,0))
theorem Hg{P:Program}{ops:Array Oper}{o:Oper}{a:Act}{w:af}{K:Act->af->Prop}{Q:Exit->Act->af->Prop}{E:Prop}(m:o.guard=none)(d s:Operand)(n r:aW)
 (u:o.op= .call {callee:= .builtin .copy,args:= #[d,s],argTypes:= #[n,r]}) (elem:aW) (hu:P.underlying n=some (.slice elem)) (p:(P.info? elem).map (·.size)=some 1)
 (g off:Nat) (q:bG) (b e c f:Nat) (hd:a.eval d= .slice (some ⟨g,off,none⟩) b e) (x:a.eval s= .slice (some q) c f)
 (cur:Array ay) (t:aW) (y:w.heap[g]?=some (.cells cur t (0,0))) (cs:List ay) (z:cs.length=Nat.min c b)
 (i:∀j v,cs[j]?=some v->w.cell? (q.add j)=some v)
 (k:off+cs.length<=cur.size) (h1:∀v∈cs,v.oneCell'=true)
 (h:K (a.put o.dst (goInt cs.length)) (w.setRow g (cur.toList.take off++cs++cur.toList.drop (off+cs.length)).toArray)):
 if Region.wanted o (yielded ops a.tmps)=true then Oper.wp P o a w K Q else E:=by
 have hw:Region.wanted o (yielded ops a.tmps)=true:=by simp[Region.wanted,m]
 rw[aG hw];have l:=run_copy_row (P:=P) w n r o.type elem g off b e q c f cur t cs hu p y z i k h1;unfold Oper.wp;simp[execOp,u,resolve,invoke,builtin,hd,x,l,Result.andThen];rw[bI]at h;exact h
theorem vK.apart{w w':af}{v:ay}{row L:List Nat}{gp:Nat}(h:vK w v row)(hp:mM w gp L)(e:∀k,k<w.heap.size->k≠gp->w'.heap[k]?=w.heap[k]?):vK w' v row:=by
 obtain⟨g,off,cap,rfl,f⟩:=h;refine⟨g,off,cap,rfl,fun j i=> ?_⟩;have h1:=f j i;have a:g<w.heap.size:=by
  rcases bW g w.heap.size with b|b
  ·exact b
  ·simp[World.cell?,Array.getElem?_eq_none b]at h1
 have c:g≠gp:=fun e=>by
  rw[e,(cell_of hp (off+j)).1]at h1;have h2:(dm L)[off+j]?=some (.int .u8 ((row.getD j 0:Nat):Int)):=by simpa using h1
  unfold dm at h2;rw[fH]at h2;cases d:L[off+j]? with
  |none=>rw[d]at h2;simp at h2
  |some x=>rw[d]at h2;simp at h2
 exact(aQ (e g a c)).trans h1
theorem Qv(L:List Nat)(o:Nat)(q:Nat×Nat×Nat×Nat)(h:o+4<=L.length):(dm L).take o++qE q++(dm L).drop (o+4)=dm (CQ L o q):=by
 have e:CQ L o q=L.take o++[q.1,q.2.1,q.2.2.1,q.2.2.2]++L.drop (o+4):=by
  refine List.ext_getElem? (fun i=> ?_);unfold CQ;simp only[List.getElem?_set,List.length_set];rcases bW i o with hi|hi
  ·rw[bI,dI (by simp;omega),dh hi];simp[show¬o+3=i by omega,show¬o+2=i by omega,show¬o+1=i by omega,show¬o=i by omega]
  ·rcases bW i (o+4)with b|b
   ·rw[bI,fC (by simp;omega),dI (by simp;omega)];have a:(L.take o).length=o:=by simp;omega
    rw[a];rcases(by omega:i=o\/i=o+1\/i=o+2\/i=o+3)with rfl|rfl|rfl|rfl
    ·simp;omega
    ·simp;omega
    ·simp;omega
    ·simp;omega
   ·rw[fC (by simp;omega)];have a:(L.take o++[q.1,q.2.1,q.2.2.1,q.2.2.2]).length=o+4:=by simp;omega
    rw[a,gJ,show o+4+(i-(o+4))=i by omega];simp[show¬o+3=i by omega,show¬o+2=i by omega,show¬o+1=i by omega,show¬o=i by omega]
 rw[e];simp[dm,qE]
theorem acZ:(prog.info? 55).map (fun i=>i.size)=some 1:=by kernel_rfl
theorem ac0(w:af)(b:Nat):(Instr.sliceAt 190 (.pointer (some ⟨b,0,none⟩)) none none none).run prog w= .ok (.slice (some ⟨b,0,none⟩) 4 4) w:=by kernel_rfl
theorem min2(a:Array aW)(t:aW)(x y m:Int)(w:af)(h:m=min x y):(Builtin.min_ a t #[.int .i64 x,.int .i64 y]).run prog w= .ok (.int .i64 m) w:=by
 have e:(Builtin.min_ a t #[.int .i64 x,.int .i64 y]).run prog w= .ok (.int .i64 (if y<x then y else x)) w:=by simp[Builtin.min_,Builtin.min2]
 rw[e,h];congr 2
 split<;>omega
theorem iQ.wW{w:af}{T:aW}{a:bG}(h:iQ w T a)(u m:ay)(b:Nat)(hb:b=w.heap.size):iQ (w.alloc (.cells #[u,m,.iface T (.pointer (some a))] 112)) 110 ⟨b,0,none⟩:=by subst hb;obtain⟨n,h⟩:=h;exact⟨n+1,h.place u m⟩
theorem Yr(q:Nat×Nat×Nat×Nat):∀v∈qE q,v.oneCell'=true:=by intro v a;simp[qE]at a;rcases a with rfl|rfl|rfl|rfl<;>rfl
theorem abn(w:af)(a b c d j:Nat)(v:ay)(h:(qE (a,b,c,d))[j]?=some v):(w.alloc (.cells #[.int .u16 (a:Int),.int .u16 (b:Int),.int .u16 (c:Int),.int .u16 (d:Int)] 190)).cell? ((⟨w.heap.size,0,none⟩:bG).add j)=some v:=by
 have hb:=aP w (.cells #[.int .u16 (a:Int),.int .u16 (b:Int),.int .u16 (c:Int),.int .u16 (d:Int)] 190);have e:(⟨w.heap.size,0,none⟩:bG).add j=⟨w.heap.size,j,none⟩:=by unfold Addr.add;split<;>simp_all
 rw[e];refine(cell_of hb j).1.trans ?_;rcases(by omega:j=0\/j=1\/j=2\/j=3\/4<=j)with rfl|rfl|rfl|rfl|f
 ·simpa [qE]using h
 ·simpa [qE]using h
 ·simpa [qE]using h
 ·simpa [qE]using h
 ·rw[dD (by simp[qE];omega)]at h;cases h
theorem Np(px:Nat->Option qZ)(pos:Nat->Nat)(a i:Nat)(dQ b:List Nat)(q:qZ)(hi:a<=i)(h:gG px pos (i-a) a dQ=some b)(c:px i=some q):gG px pos (i+1-a) a dQ=some (CQ b (pos i) q):=by rw[show i+1-a=(i-a)+1 by omega,wV,h];simp only[Option.bind_some];rw[show a+(i-a)=i by omega,gG,c];rfl
theorem Nq(px:Nat->Option qZ)(pos:Nat->Nat)(a i e:Nat)(dQ b:List Nat)(hi:a<=i)(c:i<e)(h:gG px pos (i-a) a dQ=some b)(d:px i=none):gG px pos (e-a) a dQ=none:=by rw[show e-a=(i-a)+((e-i-1)+1)by omega,wV,h];simp only[Option.bind_some];rw[show a+(i-a)=i by omega,gG,d];rfl
theorem Yt(w:af)(ps:List jX)(vb kb base W H D K np gp y:Nat)(I:Bool)(ev:ay)(E:List (Nat×Nat×Nat×Nat))(iW:Bool)(cv:ay)(C row dQ:List Nat)(t:jX)(v:ay)
 (U:w.heap[vb]?=some (zu W H D K I kb (.slice (some ⟨gp,0,none⟩) np np))) (hP:mM w gp dQ) (c7:dQ.length=np) (c8:np<=4194304) (h:iT w kb base W H D K I ev E iW cv C) (c9:cv.ownBlock≠some gp) (hK:K=0\/K=2\/K=3\/K=4\/K=6) (hD:eG D) (hE:E.length<=1000) (hC:C.length<=4) (hb:∀x∈row,x<=255) (hR:vK w v row) (g4:1<=row.length) (g5:row.length<=1000000000)
 (hW:W<=1048576) (g6:t.W<=1048576) (hx:t.x<=8) (g9:t.sx<=8) (h3:t.y<=8) (d0:t.sy<=8) (hy:y<=1048576) (a5:∀i,i<t.W->rq W t y i+4<=np):
 aH prog 65 #[.pointer (some ⟨vb,0,none⟩),xQ t.x t.sx t.y t.sy t.W t.H,.int .i64 (y:Int),v] w fun e w'=>
  (∃c,vM ⟨ps,D*aT K,W,J_ K D E C⟩ t y row dQ=some c/\e= .returned .nilIface/\mM w' gp c/\Fr (fun k=>k=gp) w w')\/
  (vM ⟨ps,D*aT K,W,J_ K D E C⟩ t y row dQ=none/\(∃T a,e= .returned (.iface T (.pointer (some a)))/\iQ w' T a)/\Fr (fun k=>k=gp) w w'):=by
 have r:=ak U;have d1:=ak hP;have d2:=ak h.oD;have b1:vb≠gp:=fM U hP (by decide);have d3:kb≠gp:=fM h.oD hP (by decide);have d4:ev.ownBlock≠some gp:=f_ h.lU hP (by decide);have d5:1<=D:=by rcases hD with rfl|rfl|rfl|rfl|rfl<;>omega
 have G:D<=16:=by rcases hD with rfl|rfl|rfl|rfl|rfl<;>omega
 have b2:1<=aT K/\aT K<=4:=by rcases hK with rfl|rfl|rfl|rfl|rfl<;>decide
 have z:=fun w'=>zI W H D K I w' G (by omega);have h4:1<=D*aT K:=bD d5 b2.1;have d6:D*aT K<=16*4:=bD G b2.2;have d7:au (∀(i:Nat) (w':af),(∀k,k<w.heap.size->k≠gp->w'.heap[k]?=w.heap[k]?)->(i+1)*(D*aT K)<=8*row.length->aH prog 94 #[.pointer (some ⟨vb,0,none⟩),v,.int .i64 (i:Int)] w' (Yq (J_ K D E C row i) w')):=(fun i w' e hi=>Qu w' vb kb base W H D K I _ ev E iW cv C row i v ((e vb r b1).trans U) (h.over (fun k F=>by
  rcases F with rfl|F|F
  ·exact e _ d2 d3
  ·exact e _ (h.lU.lt k F).2 (fun e=>d4 (e▸F))
  ·exact e _ (h.zZ.lt k F).2 (fun e=>c9 (e▸F)))) hK hD hE hC hb (hR.apart hP e) hi (by omega):∀i,_)
 obtain⟨g,off,cap,rfl,-⟩:=hR;obtain⟨px,b3⟩:∃px,px=J_ K D E C row:=⟨_,rfl⟩;have d8:au (∀(i:Nat) (w':af),(∀k,k<w.heap.size->k≠gp->w'.heap[k]?=w.heap[k]?)->(i+1)*(D*aT K)<=8*row.length->aH prog 94 #[.pointer (some ⟨vb,0,none⟩),.slice (some ⟨g,off,none⟩) row.length cap,.int .i64 (i:Int)] w' (Yq (px i) w')):=(by rw[b3];exact d7.out:∀i,_);clear d7;generalize b4:D*aT K=bits at*;obtain⟨BP,b6⟩:∃BP,BP=vM ⟨ps,bits,W,J_ K D E C⟩ t y row dQ:=⟨_,rfl⟩;rw[<-b6];have a6:BP=gG px (rq W t y) (min (8*row.length/bits) t.W-8*(row.length-1)/bits) (8*(row.length-1)/bits) dQ:=by rw[b6,b3];rfl
 have X:au _:=a6;clear b6 a6 b3 b4 h c9 d4 hb;obtain⟨m1,Y⟩:∃m,m=y*t.sy:=⟨_,rfl⟩;have d9:(y:Int)*(t.sy:Int)=(m1:Int):=by rw[Y];simp
 have e0:m1<=1048576*8:=by rw[Y];exact bD hy d0
 obtain⟨m2,Z⟩:∃m,m=(t.y+m1)*W:=⟨_,rfl⟩;have e1:((t.y:Int)+(m1:Int))*(W:Int)=(m2:Int):=by rw[Z];simp
 have e6:m2<=8388616*1048576:=by rw[Z];exact bD (by omega) hW
 obtain⟨lf,e7⟩:∃m,m=m2+t.x:=⟨_,rfl⟩;have e8:(m2:Int)+(t.x:Int)=(lf:Int):=by omega
 have a7:au (∀i,rq W t y i=4*(lf+i*t.sx)):=(fun i=>by unfold rq;rw[e7,Z,Y]:∀i,_);obtain⟨V,a0⟩:∃i,i=8*(row.length-1)/bits:=⟨_,rfl⟩;obtain⟨en,J⟩:∃i,i=8*row.length/bits:=⟨_,rfl⟩;have e9:(8*((row.length:Int)-1))/(bits:Int)=(V:Int):=by
  have e:(8*((row.length:Int)-1))=((8*(row.length-1):Nat):Int):=by omega
  rw[e,a0];simp
 have f0:(8*(row.length:Int))/(bits:Int)=(en:Int):=by rw[J];simp
 rw[<-a0,<-J]at X;have h5:au _:=J;have f1:V<=8000000000:=by rw[a0];exact aY (Nat.div_le_self _ _) (by omega)
 have f2:en<=8000000000:=by rw[J];exact aY (Nat.div_le_self _ _) (by omega)
 obtain⟨e,he⟩:∃e,e=min en t.W:=⟨_,rfl⟩;rw[<-he]at X;have HE:au _:=he;clear Y Z e7 a0 J he;have HV:au _:=U;have HP:au _:=hP;have f3:au _:=a5;have cW:∀o,(w.alloc o).cell? ⟨vb,0,none⟩=some (.int .i64 (W:Int)):=fun o=>(aQ (ai _ _ vb r)).trans (by simpa [zu]using(cell_of U 0).1);have cH:∀o,(w.alloc o).cell? ⟨vb,1,none⟩=some (.int .i64 (H:Int)):=fun o=>(aQ (ai _ _ vb r)).trans (by simpa [zu]using(cell_of U 1).1);have cD:∀o,(w.alloc o).cell? ⟨vb,2,none⟩=some (.int .i64 (D:Int)):=fun o=>(aQ (ai _ _ vb r)).trans (by simpa [zu]using(cell_of U 2).1);have cK:∀o,(w.alloc o).cell? ⟨vb,3,none⟩=some (.int .u8 (K:Int)):=fun o=>(aQ (ai _ _ vb r)).trans (by simpa [zu]using(cell_of U 3).1);have cI:∀o,(w.alloc o).cell? ⟨vb,4,none⟩=some (.bool I):=fun o=>(aQ (ai _ _ vb r)).trans (by simpa [zu]using(cell_of U 4).1);clear U hP a5;unfold qc at z;unfold xQ;obtain⟨tx,n,ty,a1,tW,tH⟩:=t;dsimp only at*;generalize row.length=rl at*;go_enter func65,ntmps65
 go_wp2_with fail
 go_quiet (fail)
 go_wp2_with fail
 refine(z _).mono ?_;rintro e2 w2 ⟨rfl,b7⟩;have L:w2.heap[w.heap.size]?=some (.cells #[.int .i64 (tx:Int),.int .i64 (n:Int),.int .i64 (ty:Int),.int .i64 (a1:Int),.int .i64 (tW:Int),.int .i64 (tH:Int)] 188 (0,0)):=(b7.block w.heap.size (by simp[World.drewN])).trans (aP w _);have M:aA w.heap.size w w2:=jd (lI.lJ ((aV _ _).alloc (ah _) _)) (b7.mono (by simp[World.drewN]));have d:au _:=M;have q1:w2.cell? ⟨w.heap.size,1,none⟩=some (.int .i64 (n:Int)):=by simpa using(cell_of L 1).1
 have q4:w2.cell? ⟨w.heap.size,4,none⟩=some (.int .i64 (tW:Int)):=by simpa using(cell_of L 4).1
 have A:=ak L;have h6:au _:=L;have b8:w.heap.size≠gp:=by omega
 clear z cW cH cD cK cI b7 M L;obtain⟨b5,a8⟩:∃b,b=w.heap.size:=⟨_,rfl⟩;rw[<-a8]at q1 q4 h6 A b8|-;clear a8;have f4:(8*(rl:Int)).tdiv (bits:Int)=(en:Int):=by rw[ve (by omega)];exact f0
 have f5:(8*((rl:Int)-1)).tdiv (bits:Int)=(V:Int):=by rw[ve (by omega)];exact e9
 have f6:∀ts t w',(Builtin.min_ ts t #[.int .i64 (en:Int),.int .i64 (tW:Int)]).run prog w'= .ok (.int .i64 (e:Int)) w':=fun ts t w'=>min2 ts t _ _ _ w' (by rw[HE.out];omega);go_wp2_with fail
 go_region
 all_goals
  go_wp2_with fail
  go_loopw [12] (fun iv wr=> ∃(i:Nat) (c:List Nat),V<=i/\(i<=V\/i<=e)/\iv= .int .i64 (i:Int)/\gG px (rq W ⟨tx,n,ty,a1,tW,tH⟩ y) (i-V) V dQ=some c/\mM wr gp c/\Fr (fun k=>k=gp) w2 wr) (fun iv _=>e-(bH iv).toNat)
  case atStart=>exact⟨V,dQ,ah _,.inl (ah _),rfl,by rw[iL];rfl,(Below.block d.out gp d1).trans HP.out,(Fr.refl _ _).drew⟩
  case round=>
   obtain⟨i,c,f7,h7,rfl,s,N,f⟩:=hrel;have u:∀k,k<w.heap.size->k≠gp->wr.heap[k]?=w.heap[k]?:=fun k F a2=>(f.block k (aN F (kD d.out)) a2).trans (Below.block d.out k F);have B:Fr (fun k=>k=gp) w wr:=⟨f.os.trans (Below.os d.out),f.tape.trans (Below.tape d.out),f.output.trans (Below.output d.out),aY (kD d.out) f.size,u⟩;by_cases f8:i<e
   ·have a9:i+1<=en:=by have:=HE.out;omega
    have f9:i<tW:=by have:=HE.out;omega
    have hC:=d8.out i wr u (aY (dM _ a9) (by rw[h5.out];exact Nat.div_mul_le_self _ _));have b9:=f3.out i f9;rw[a7.out i]at b9;have c1:=(u vb r b1).trans HV.out;have c6:wr.cell? ⟨vb,6,none⟩=some (.slice (some ⟨gp,0,none⟩) np np):=by simpa using(cell_of c1 6).1
    have O:=ak c1;have P:=ak N;have g0:wr.cell? ⟨b5,1,none⟩=some (.int .i64 (n:Int)):=(aQ (f.block b5 A b8)).trans q1;have Q:b5<wr.heap.size:=aN A f.size;have i5:c.length=np:=(wR _ _ _ _ _ _ s).trans c7;have g1:au (i+1<=e):=(f8:i+1<=e);have a3:au _:=s;have c2:au _:=N;have R:au _:=B;have h8:au _:=f;obtain⟨m3,a4⟩:∃m,m=i*n:=⟨_,rfl⟩;rw[<-a4]at b9;have i3:(i:Int)*(n:Int)=(m3:Int):=by rw[a4];simp
    have h9:au _:=a4;have i6:i<=8000000000:=by omega
    clear s N f B u c1 a4;go_wp2_with fail
    refine hC.mono ?_;rintro e4 w4 ⟨ho,l⟩;rcases ho with⟨q,S,rfl⟩|⟨S,a,rfl⟩
    ·obtain⟨q0,p,q2,q3⟩:=q;have c3:au _:=S;have i7:∀o,(w4.alloc o).cell? ⟨vb,6,none⟩=some (.slice (some ⟨gp,0,none⟩) np np):=fun o=>(aQ ((ai _ _ vb (aN O l.size)).trans (l.block vb O))).trans c6;have i9:∀o,(w4.alloc o).cell? ⟨b5,1,none⟩=some (.int .i64 (n:Int)):=fun o=>(aQ ((ai _ _ b5 (aN Q l.size)).trans (l.block b5 Q))).trans g0;have s:∀o,mM (w4.alloc o) gp c:=fun o=>((ai _ _ gp (aN P l.size)).trans (l.block gp P)).trans c2.out;have b0:au _:=s;have c5:au _:=l;have i4:=fun w'=>ac0 w' w4.heap.size;clear S s l hC g0 c6 q1;unfold tC;dsimp only;obtain⟨o,ho⟩:∃o,o=4*(lf+m3):=⟨_,rfl⟩;have j0:IntKind.i64.wrap (4*IntKind.i64.wrap ((lf:Int)+IntKind.i64.wrap (m3:Int)))=(o:Int):=by
      have v1:IntKind.i64.wrap (m3:Int)=(m3:Int):=by rw[eY];omega
      have v2:IntKind.i64.wrap ((lf:Int)+(m3:Int))=(lf:Int)+(m3:Int):=by rw[eY];omega
      have v3:IntKind.i64.wrap (4*((lf:Int)+(m3:Int)))=4*((lf:Int)+(m3:Int)):=by rw[eY];omega
      rw[v1,v2,v3,ho];omega
     have j1:(o:Int)<=(np:Int):=by omega
     have j2:¬np=o:=by omega
     have j3:o+4<=np:=by omega
     have HO:au (o=rq W ⟨tx,n,ty,a1,tW,tH⟩ y i):=(by rw[a7.out i,ho,h9.out]:_=_);have g2:au (∀(j:Nat) (v:ay),(qE (q0,p,q2,q3))[j]?=some v->(w4.alloc (.cells #[.int .u16 (q0:Int),.int .u16 (p:Int),.int .u16 (q2:Int),.int .u16 (q3:Int)] 190)).cell? ((⟨w4.heap.size,0,none⟩:bG).add j)=some v):=(fun j v hj=>abn w4 _ _ _ _ j v hj:∀j,_);have g3:au (∀v∈qE (q0,p,q2,q3),v.oneCell'=true):=(Yr _:∀v,_);have i1:au ((qE (q0,p,q2,q3)).length=Nat.min 4 (np-o)):=((sH (by omega)).symm:4=Nat.min 4 (np-o));have i2:au (o+(qE (q0,p,q2,q3)).length<=(dm c).toArray.size):=(by simp[qE,dm];omega:_<=_);clear ho b9;clear d9 e1 e8 e9 f0 f4 f5 f6 e0 e6 f1 f2 h4 d6 hW g6 hx g9 h3 d0 hy c8 g4 g5 r d1 d2 b1 d3 d5 G b2 a9 f9 O P Q h7 A b8 hK hD hE hC c7 q4;go_wp2_with fail
     go_region_law (first
      |(refine Hg (by rfl) _ _ _ _ (by rfl) 55 underlying33 acZ gp o ⟨w4.heap.size,0,none⟩ (np-o) (np-o) 4 4 (by rfl) (by rfl) (dm c).toArray 55 (b0.out _) (qE (q0,p,q2,q3)) i1.out g2.out i2.out g3.out ?_))
     all_goals
      go_wp2_with fail
      go_roundw
      case rel=>
       refine⟨i+1,CQ c (rq W ⟨tx,n,ty,a1,tW,tH⟩ y i) (q0,p,q2,q3),by omega,.inr g1.out,by go_num,Np _ _ _ _ _ _ _ f7 a3.out c3.out,?_,?_⟩
       ·refine(setRow_heap _ gp _ _ _ _ (b0.out _)).trans ?_;rw[<-bI,show o+(qE (q0,p,q2,q3)).length=o+4 from rfl,Qv c o _ (by omega),HO.out]
       ·have hz:Fr (fun k=>k=gp) w2 (w4.alloc (.cells #[.int .u16 (q0:Int),.int .u16 (p:Int),.int .u16 (q2:Int),.int .u16 (q3:Int)] 190)):=(Fr.trans h8.out (Fr.jI c5.out)).alloc _;exact⟨hz.os,hz.tape,hz.output,by rw[setRow_size];exact hz.size,fun k F a2=>(setRow_other _ gp k _ a2).trans (hz.block k F a2)⟩
      case measure=>have:=g1.out;simp[bH];omega
    ·have c3:au _:=S;have c5:au _:=l;clear S l hC;unfold tC;dsimp only;go_wp2_with fail
     refine(at_one _ _ _ _ _).mono ?_;rintro e5 w5 ⟨rfl,rfl⟩;go_wp2_with fail
     go_ret;refine .inr ⟨by rw[X.out];exact Nq _ _ _ _ _ _ _ f7 f8 a3.out c3.out,⟨_,_,rfl,iQ.wW (iQ.mk _ _) _ _ _ (by simp)⟩,?_⟩;exact((Fr.trans R.out (Fr.jI c5.out)).alloc _).alloc _
   ·have a3:au _:=s;have c2:au _:=N;have R:au _:=B;clear s N B f u;go_wp2_with fail
    go_ret;exact .inl ⟨c,by rw[X.out,show e-V=i-V by omega];exact a3.out,rfl,c2.out,R.out⟩
def lQ(t:jX):List ay:=[.int .i64 (t.x:Int),.int .i64 (t.sx:Int),.int .i64 (t.y:Int),.int .i64 (t.sy:Int),.int .i64 (t.W:Int),.int .i64 (t.H:Int)]
def bV(ps:List jX):List ay:=ps.flatMap lQ
theorem Nr(ps:List jX)(i j:Nat)(t:jX)(h:ps[i]?=some t)(b:j<6):(bV ps)[i*6+j]?=(lQ t)[j]?:=by
 induction ps generalizing i with
 |nil=>simp at h
 |cons q ps a=>
  have e3:bV (q::ps)=lQ q++bV ps:=by simp[bV]
  rw[e3];cases i with
  |zero=>
   have e:q=t:=by simpa using h
   subst e;rw[Nat.zero_mul,fQ,dI (by simp[lQ];omega)]
  |succ i=>have e:=a i (by simpa using h);rw[fC (by simp[lQ];omega),show(i+1)*6+j-(lQ q).length=i*6+j by simp[lQ];omega];exact e
def dH(bits:Nat)(pv c:ay)(pt y told d:Nat)(a b:ay)(at' f:Nat):Obj:= .cells #[.int .i64 (bits:Int),pv,c,.int .i64 (pt:Int),.int .i64 (y:Int),.int .i64 (told:Int),.int .i64 (d:Int),a,b,.int .i64 (at':Int),.int .u8 (f:Int)] 186 (0,0)
theorem jf{w:af}{base:Nat}{pv:ay}{ps:List jX}(h:w.ownsRow base 188 6 pv ps.length (bV ps))(i:Nat)(t:jX)(a:ps[i]?=some t):∃g cap,pv= .slice (some ⟨g,0,none⟩) ps.length cap/\g<w.heap.size/\∀j,j<6->w.cell? ⟨g,i*6+j,none⟩=(lQ t)[j]?:=by
 have hi:i<ps.length:=(List.getElem?_eq_some_iff.1 a).1;obtain⟨la,cap,rfl⟩:=lZ h;obtain⟨g,rfl⟩:∃g,la=some ⟨g,0,none⟩:=by
  rcases h.2 with⟨_,h0⟩|⟨g,b,cur,c,_⟩
  ·omega
  ·simp at c;exact⟨g,c.1⟩
 refine⟨g,cap,rfl,(h.lt g rfl).2,fun j d=> ?_⟩;exact(h.cellAt (i*6+j) (by omega)).trans (Nr ps i j t a d)
theorem Hl(rb bits pt y told d at' f base:Nat)(pv c a b:ay)(ps:List jX)(w:af)(h:w.heap[rb]?=some (dH bits pv c pt y told d a b at' f))(hp:w.ownsRow base 188 6 pv ps.length (bV ps))(he:pt=ps.length)(g:ps.length<=100):
 aH prog 93 #[.pointer (some ⟨rb,0,none⟩)] w fun e w'=>e= .returned (.tuple #[])/\∃nq,w'=w.drewN nq:=by
 have c1:w.cell? ⟨rb,1,none⟩=some pv:=by simpa [dH]using(cell_of h 1).1
 have c3:w.cell? ⟨rb,3,none⟩=some (.int .i64 (pt:Int)):=by simpa [dH]using(cell_of h 3).1
 obtain⟨la,cap,rfl⟩:=lZ hp;clear hp h;generalize ps.length=n at*;subst he;go_enter func93,ntmps93
 go_wp2_with fail
 go_quiet (fail)
 go_wp2_with fail
 go_end0
 exact⟨rfl,_,rfl⟩
def xX:Prop:=∀(rb bits pt y told d at' f base:Nat) (pv c a b:ay) (ps:List jX) (t:jX) (w:af),w.heap[rb]?=some (dH bits pv c pt y told d a b at' f)->w.ownsRow base 188 6 pv ps.length (bV ps)->ps[pt]?=some t->ps.length<=100->bits<=64->t.W<=1048576->
 aH prog 93 #[.pointer (some ⟨rb,0,none⟩)] w fun e w'=>e= .returned (.tuple #[])/\∃g7 g8,g7≠g8/\w.heap.size<=g7/\w.heap.size<=g8/\
  w'.heap[rb]?=some (dH bits pv c pt y told (aJ bits) (.slice (some ⟨g7,0,none⟩) (aJ bits+bJ bits t.W) (aJ bits+bJ bits t.W)) (.slice (some ⟨g8,0,none⟩) (aJ bits+bJ bits t.W) (aJ bits+bJ bits t.W)) 0 0)/\jb w' g7 (List.replicate (aJ bits+bJ bits t.W) 0)/\jb w' g8 (List.replicate (aJ bits+bJ bits t.W) 0)/\Fr (fun k=>k=rb) w w'
theorem ql{w:af}{b o:Nat}{v:ay}:Fr (fun k=>k=b) w (w.setCell ⟨b,o,none⟩ v):=⟨rfl,rfl,rfl,by simp,fun k c a=>aC o v a⟩
theorem qG{w:af}{rb bits pt y told d at' f:Nat}{pv c a b:ay}(h:w.heap[rb]?=some (dH bits pv c pt y told d a b at' f))(o:Nat)(v:ay):(w.setCell ⟨rb,o,none⟩ v).heap[rb]?=some (.cells ((#[.int .i64 (bits:Int),pv,c,.int .i64 (pt:Int),.int .i64 (y:Int),.int .i64 (told:Int),.int .i64 (d:Int),a,b,.int .i64 (at':Int),.int .u8 (f:Int)]:Array ay).setIfInBounds o v) 186 (0,0)):=bF h o v
theorem Vd(rb bits pt y told d at' f base n g7 g8:Nat)(pv l:ay)(ps:List jX)(t:jX)(w:af)(h:w.heap[rb]?=some (dH bits pv l pt y told d (.slice (some ⟨g7,0,none⟩) n n) (.slice (some ⟨g8,0,none⟩) n n) at' f))(hp:w.ownsRow base 188 6 pv ps.length (bV ps))(x:ps[pt]?=some t)(S:ps.length<=100)(T:y+1<t.H)(hH:t.H<=1048576)(K:told<=100000000):
 aH prog 123 #[.pointer (some ⟨rb,0,none⟩)] w fun e w'=>e= .returned (.tuple #[])/\w'.heap[rb]?=some (dH bits pv l pt (y+1) (told+1) d (.slice (some ⟨g8,0,none⟩) n n) (.slice (some ⟨g7,0,none⟩) n n) 0 f)/\Fr (fun k=>k=rb) w w':=by
 have D:pt<ps.length:=(List.getElem?_eq_some_iff.1 x).1;obtain⟨g,cap,rfl,z,o⟩:=jf hp pt t x;have s:=o 5 (by omega);have A:g≠rb:=fun e=>by
  rcases hp.2 with⟨u,_⟩|⟨U,E,cur,u,_,F,_⟩
  ·simp at u
  ·simp at u;rw[<-u.1,e,h]at F;simp[dH]at F
 have s:w.cell? ⟨g,pt*6+5,none⟩=some (.int .i64 (t.H:Int)):=by simpa [lQ]using s
 have L:=(cell_of h 4).2;have M:=(cell_of h 5).2;have c4:w.cell? ⟨rb,4,none⟩=some (.int .i64 (y:Int)):=by simpa [dH]using(cell_of h 4).1
 have c5:w.cell? ⟨rb,5,none⟩=some (.int .i64 (told:Int)):=by simpa [dH]using(cell_of h 5).1
 have h2:((w.setCell ⟨rb,5,none⟩ (.int .i64 ((told:Int)+1))).setCell ⟨rb,4,none⟩ (.int .i64 ((y:Int)+1))).heap[rb]?=some (dH bits (.slice (some ⟨g,0,none⟩) ps.length cap) l pt (y+1) (told+1) d (.slice (some ⟨g7,0,none⟩) n n) (.slice (some ⟨g8,0,none⟩) n n) at' f):=(bF (qG h 5 _) 4 _).trans (by simp[dH]);have c:Fr (fun k=>k=rb) w ((w.setCell ⟨rb,5,none⟩ (.int .i64 ((told:Int)+1))).setCell ⟨rb,4,none⟩ (.int .i64 ((y:Int)+1))):=ql.trans ql;have G:((w.setCell ⟨rb,5,none⟩ (.int .i64 ((told:Int)+1))).setCell ⟨rb,4,none⟩ (.int .i64 ((y:Int)+1))).cell? ⟨g,pt*6+5,none⟩=some (.int .i64 (t.H:Int)):=(aQ (c.block g z A)).trans s;have N:(w.setCell ⟨rb,5,none⟩ (.int .i64 ((told:Int)+1))).cell? ⟨rb,4,none⟩=some (.int .i64 (y:Int)):=EX c4 (by omega);have b:au _:=h2;have p:au _:=c;have q:au _:=G;generalize ps.length=m at*;generalize t.H=O at*;clear o hp x h s h2 c G;go_enter func123,ntmps123
 go_upto_region 2 with fail
 generalize (w.setCell ⟨rb,5,none⟩ (.int .i64 ((told:Int)+1))).setCell ⟨rb,4,none⟩ (.int .i64 ((y:Int)+1))=w2 at*;have V:w2.cell? ⟨rb,1,none⟩=some (.slice (some ⟨g,0,none⟩) m cap):=by simpa [dH]using(cell_of b.out 1).1
 have W:w2.cell? ⟨rb,3,none⟩=some (.int .i64 (pt:Int)):=by simpa [dH]using(cell_of b.out 3).1
 have X:w2.cell? ⟨rb,4,none⟩=some (.int .i64 ((y:Int)+1)):=by simpa [dH]using(cell_of b.out 4).1
 have Y:=q.out;have P:(pt:Int)<(m:Int):=by omega
 have Q:(y:Int)+1<(O:Int):=by omega
 clear q c4 c5 N L M;go_quiet (fail)
 go_wp2_with fail
 have a:(w2.drewN nq).heap[rb]?=some (dH bits (.slice (some ⟨g,0,none⟩) m cap) l pt (y+1) (told+1) d (.slice (some ⟨g7,0,none⟩) n n) (.slice (some ⟨g8,0,none⟩) n n) at' f):=b.out;refine(JM rb n n n (some ⟨g7,0,none⟩) (some ⟨g8,0,none⟩) (at':Int) _ (by simpa [dH]using(cell_of a 7).1) (by simpa [dH]using(cell_of a 8).1) (by simpa [dH]using(cell_of a 9).1) (fun i=>(cell_of a i).2)).mono ?_;rintro e I ⟨rfl,B,j⟩;have J:I.heap[rb]?=some (dH bits (.slice (some ⟨g,0,none⟩) m cap) l pt (y+1) (told+1) d (.slice (some ⟨g8,0,none⟩) n n) (.slice (some ⟨g7,0,none⟩) n n) 0 f):=by rw[j];exact(bF (bF (qG a 7 _) 8 _) 9 _).trans (by simp[dH])
 have r:Fr (fun k=>k=rb) w I:=by rw[j];exact Fr.drewN (Fr.trans (Fr.drewN p.out nq) (ql.trans (ql.trans ql))) B
 have R:au _:=J;have C:au _:=r;clear j J r a b p;go_wp2_with fail
 refine a_ (v:= .tuple #[]) (by simp[results,results123,go_sem]) rfl ?_;exact⟨rfl,R.out,C.out⟩
theorem Ns(rb bits pt y told d at' f base:Nat)(pv n a b:ay)(ps:List jX)(t:jX)(w:af)(h:w.heap[rb]?=some (dH bits pv n pt y told d a b at' f))(hp:w.ownsRow base 188 6 pv ps.length (bV ps))(A:ps[pt]?=some t)(hl:ps.length<=100)(hy:¬y+1<t.H)(hH:t.H<=1048576)(O:y<=1048576)(P:told<=100000000)
 (R:af->af->Prop) (G:∀w2,w2.heap[rb]?=some (dH bits pv n (pt+1) 0 (told+1) d a b at' f)->Fr (fun k=>k=rb) w w2->aH prog 93 #[.pointer (some ⟨rb,0,none⟩)] w2 fun e w'=>e= .returned (.tuple #[])/\R w2 w'):
 aH prog 123 #[.pointer (some ⟨rb,0,none⟩)] w fun e w'=>e= .returned (.tuple #[])/\∃w2,w2.heap[rb]?=some (dH bits pv n (pt+1) 0 (told+1) d a b at' f)/\Fr (fun k=>k=rb) w w2/\R w2 w':=by
 have I:pt<ps.length:=(List.getElem?_eq_some_iff.1 A).1;obtain⟨g,cap,rfl,B,p⟩:=jf hp pt t A;have x:=p 5 (by omega);have C:g≠rb:=fun e=>by
  rcases hp.2 with⟨z,_⟩|⟨g',J,cur,z,_,K,_⟩
  ·simp at z
  ·simp at z;rw[<-z.1,e,h]at K;simp[dH]at K
 have x:w.cell? ⟨g,pt*6+5,none⟩=some (.int .i64 (t.H:Int)):=by simpa [lQ]using x
 have Q:=(cell_of h 4).2;have S:=(cell_of h 5).2;have c4:w.cell? ⟨rb,4,none⟩=some (.int .i64 (y:Int)):=by simpa [dH]using(cell_of h 4).1
 have c5:w.cell? ⟨rb,5,none⟩=some (.int .i64 (told:Int)):=by simpa [dH]using(cell_of h 5).1
 have h2:((w.setCell ⟨rb,5,none⟩ (.int .i64 ((told:Int)+1))).setCell ⟨rb,4,none⟩ (.int .i64 ((y:Int)+1))).heap[rb]?=some (dH bits (.slice (some ⟨g,0,none⟩) ps.length cap) n pt (y+1) (told+1) d a b at' f):=(bF (qG h 5 _) 4 _).trans (by simp[dH]);have j:Fr (fun k=>k=rb) w ((w.setCell ⟨rb,5,none⟩ (.int .i64 ((told:Int)+1))).setCell ⟨rb,4,none⟩ (.int .i64 ((y:Int)+1))):=ql.trans ql;have L:((w.setCell ⟨rb,5,none⟩ (.int .i64 ((told:Int)+1))).setCell ⟨rb,4,none⟩ (.int .i64 ((y:Int)+1))).cell? ⟨g,pt*6+5,none⟩=some (.int .i64 (t.H:Int)):=(aQ (j.block g B C)).trans x;have T:(w.setCell ⟨rb,5,none⟩ (.int .i64 ((told:Int)+1))).cell? ⟨rb,4,none⟩=some (.int .i64 (y:Int)):=EX c4 (by omega);have c:au _:=h2;have q:au _:=j;have r:au _:=L;have s:au _:=G;generalize ps.length=m at*;generalize t.H=U at*;clear p hp A h x h2 j L G;go_enter func123,ntmps123
 go_upto_region 2 with fail
 generalize (w.setCell ⟨rb,5,none⟩ (.int .i64 ((told:Int)+1))).setCell ⟨rb,4,none⟩ (.int .i64 ((y:Int)+1))=w2 at*;have V:w2.cell? ⟨rb,1,none⟩=some (.slice (some ⟨g,0,none⟩) m cap):=by simpa [dH]using(cell_of c.out 1).1
 have W:w2.cell? ⟨rb,3,none⟩=some (.int .i64 (pt:Int)):=by simpa [dH]using(cell_of c.out 3).1
 have X:w2.cell? ⟨rb,4,none⟩=some (.int .i64 ((y:Int)+1)):=by simpa [dH]using(cell_of c.out 4).1
 have Y:=r.out;have Z:(pt:Int)<(m:Int):=by omega
 have a0:¬((y:Int)+1<(U:Int)):=by omega
 clear r c4 c5 T Q S;go_quiet (fail)
 obtain⟨w3,i⟩:∃w3,w3=w2.drewN nq:=⟨_,rfl⟩;rw[<-i];have o:w3.heap[rb]?=some (dH bits (.slice (some ⟨g,0,none⟩) m cap) n pt (y+1) (told+1) d a b at' f):=by rw[i];exact c.out
 have u:Fr (fun k=>k=rb) w w3:=by rw[i];exact Fr.drewN q.out nq
 have j3:w3.cell? ⟨rb,3,none⟩=some (.int .i64 (pt:Int)):=by simpa [dH]using(cell_of o 3).1
 have j4:w3.cell? ⟨rb,4,none⟩=some (.int .i64 ((y:Int)+1)):=by simpa [dH]using(cell_of o 4).1
 have a1:=(cell_of o 3).2;have a2:=(cell_of o 4).2;have D:((w3.setCell ⟨rb,3,none⟩ (.int .i64 ((pt:Int)+1))).setCell ⟨rb,4,none⟩ (.int .i64 0)).heap[rb]?=some (dH bits (.slice (some ⟨g,0,none⟩) m cap) n (pt+1) 0 (told+1) d a b at' f):=(bF (qG o 3 _) 4 _).trans (by simp[dH]);have l:Fr (fun k=>k=rb) w ((w3.setCell ⟨rb,3,none⟩ (.int .i64 ((pt:Int)+1))).setCell ⟨rb,4,none⟩ (.int .i64 0)):=u.trans (ql.trans ql);have M:au _:=s.out _ D l;have E:au _:=D;have F:au _:=l;clear V W X Y o u D l c q i s;go_wp2_with fail
 refine aU M.out ?_;rintro e w5 ⟨rfl,N⟩;have HR:au _:=N;clear N M;go_wp2_with fail
 first
  |go_end0
  |refine a_ (v:= .tuple #[]) (by simp[results,results123,go_sem]) rfl ?_
 exact⟨rfl,_,E.out,F.out,HR.out⟩
end Pr
end Go.Proofs.YtephkcdbnogdhabGreatDoor
