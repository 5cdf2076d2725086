import Derived.Test.YtephkcdbnogdhabGreatDoorM2
import Derived.Test.YtephkcdbnogdhabGreatDoorM7
set_option linter.unusedVariables false
set_option maxHeartbeats 40000000
set_option maxRecDepth 10000
namespace Go.Proofs.YtephkcdbnogdhabGreatDoor
open Go.Proofs.Tryz
open Go renaming World->af,Value->ay,Calls->aH
open Go.RowKit renaming Hid->au,intOf->bH
namespace Pr
open Go.RowKit Rf
open gI (bz gu)
theorem Src.Ok.one{S:Src}(hS:S.Ok)(w:af)(s:ByteArray)(t:Nat)(hK:S.K w s t)(i:t<=s.size):
 aH prog 101 #[.iface S.T (.pointer (some S.a))] w fun e w'=>
  (t<s.size/\e= .returned (.tuple #[.int .u8 ((aF s t:Nat):Int),.nilIface])/\S.K w' s (t+1)/\Fr S.F w w')\/
  (∃x T a,e= .returned (.tuple #[.int .u8 x,.iface T (.pointer (some a))])/\dJ S w' T a (¬t<s.size)/\S.KE w'/\Fr S.F w w'):=by
 by_cases h:t<s.size
 ·refine(hS.PG w s t hK h).mono ?_;rintro e w' (⟨b,c,d⟩|⟨x,T,a,b,c,d,f,g⟩)
  ·exact .inl ⟨h,b,c,d⟩
  ·exact .inr ⟨x,T,a,b,.inr ⟨c,d⟩,f,g⟩
 ·have e:t=s.size:=by omega
  subst e;refine(hS.wE w s hK).mono ?_;rintro e w' ⟨x,T,a,b,c,d,f⟩;exact .inr ⟨x,T,a,b,c.imp (fun _=>h),d,f⟩
theorem Src.Ok.pF{S:Src}(hS:S.Ok){w w':af}(h:S.KE w)(e:∀k,k<w.heap.size->w'.heap[k]?=w.heap[k]?):S.KE w':=
 hS.pg h (fun k a=>e k (a.elim (fun a=>hS.lt h a) (fun a=>by have:=hS.hb h;omega)))
theorem Src.Ok.L_{S:Src}(hS:S.Ok){w w':af}{s:ByteArray}{t:Nat}(h:S.K w s t)(e:∀k,k<w.heap.size->w'.heap[k]?=w.heap[k]?):S.K w' s t:=
 hS.iq h (fun k a=>e k (a.elim (fun a=>hS.lt (hS.ke h) a) (fun a=>by have:=hS.hb (hS.ke h);omega)))
def Match(s:ByteArray)(t:Nat)(x:ByteArray):Prop:=t+x.size<=s.size/\∀i,i<x.size->aF s (t+i)=aF x i
theorem zV(S:Src)(hS:S.Ok)(s x o:ByteArray)(t:Nat)(w:af)(hK:S.K w s t)(A:t<=s.size)(H:x.size<=1000):
 aH prog 79 #[.iface S.T (.pointer (some S.a)),.string x,.string o] w fun e w'=>
  (Match s t x/\e= .returned .nilIface/\S.K w' s (t+x.size)/\Fr S.F w w')\/
  ((∃T a,e= .returned (.iface T (.pointer (some a)))/\dJ S w' T a (¬Match s t x))/\S.KE w'/\Fr S.F w w'):=by
 have l:au (Match s t x↔t+x.size<=s.size/\∀i,i<x.size->aF s (t+i)=aF x i):=Iff.rfl;obtain⟨Q,v⟩:∃Q:Prop,Q=Match s t x:=⟨_,rfl⟩;rw[<-v]at l|-;clear v;go_enter func79,ntmps79
 go_wp2_with fail
 go_loopw [12] (fun iv wr=> ∃j:Nat,j<=x.size/\iv= .int .i64 (j:Int)/\t+j<=s.size/\(∀i,i<j->aF s (t+i)=aF x i)/\S.K wr s (t+j)/\Fr S.F w wr) (fun iv _=>x.size-(bH iv).toNat)
 case atStart=>exact⟨0,aX _,rfl,A,fun i hi=>absurd hi (Nat.not_lt_zero i),hK,Fr.refl _ _⟩
 case round=>
  obtain⟨j,I,rfl,hle,b,d,hF⟩:=hrel;have c:au _:=b;clear b hK;by_cases f:j<x.size
  ·have J:(x[j]).toNat=aF x j:=(mQ x j f).symm;have p:=bY s (t+j);have q:=hS.one wr s (t+j) d hle;obtain⟨y,r⟩:∃y,y=aF s (t+j):=⟨_,rfl⟩;rw[<-r]at q p;have z:au _:=r;clear r;go_wp2_with fail
   refine q.mono ?_;clear q;rintro e w1 (⟨g,rfl,m,n⟩|⟨L,T,a,rfl,g,m,n⟩)
   ·by_cases he:y=aF x j
    ·have d1:((y:Int) !=(((x[j]).toNat:Nat):Int))=false:=by rw[di];omega
     have B:au (aF s (t+j)=aF x j):=(by rw[<-z.out];exact he:_=_);clear he;go_wp2_with fail
     go_roundw
     case rel=>
      refine⟨j+1,by omega,by go_num,by omega,fun i hi=> ?_,m,hF.trans n⟩;rcases bW i j with h|h
      ·exact c.out i h
      ·have:i=j:=by omega
       rw[this];exact B.out
     case measure=>simp[bH];omega
    ·have d1:((y:Int) !=(((x[j]).toNat:Nat):Int))=true:=by rw[ig];omega
     have C:au (¬Q):=(fun u=>he (z.out.trans ((l.out.1 u).2 j f)):¬_);clear he;go_wp2_with fail
     refine(cZ _ _).mono ?_;rintro e w3 ⟨rfl,rfl⟩;go_wp2_with fail
     go_ret;exact .inr ⟨⟨_,_,rfl,dJ.uh C.out⟩,hS.pF (hS.ke m) (fun k D=>ai _ _ k D),(hF.trans n).alloc _⟩
   ·have E:dJ S w1 T a (¬Q):=g.imp (fun g u=>g (by have:=(l.out.1 u).1;omega));clear g;go_wp2_with fail
    go_ret;exact .inr ⟨⟨T,a,rfl,E⟩,m,hF.trans n⟩
  ·have e:j=x.size:=by omega
   subst e;have G:au Q:=(l.out.2 ⟨hle,c.out⟩:Q);go_wp2_with fail
   go_ret;exact .inl ⟨G.out,rfl,d,hF⟩
def zF(s:ByteArray)(t:Nat):Nat->Nat
 |0=>0
 |j+1=>256*zF s t j+aF s (t+j)
theorem Xq(s:ByteArray)(t j:Nat):zF s t j<256^j:=by
 induction j with
 |zero=>simp[zF]
 |succ j a=>rw[zF,lH];have:=bY s (t+j);omega
theorem PO(s:ByteArray)(t:Nat):zF s t 4=bz s t:=by simp only[zF,bz,Nat.add_zero];omega
def pG(s:ByteArray)(t:Nat):Prop:=t+4<=s.size/\bz s t<=2147483647
theorem Uk(s:ByteArray)(t:Nat):bz s t<=2147483647↔aF s t<=127:=by have h0:=bY s t;have h1:=bY s (t+1);have h2:=bY s (t+2);have a:=bY s (t+3);unfold bz;omega
theorem aaV(c b:Nat)(a:c<16777216)(hb:b<256):bits BinOp.or IntKind.i64 ((c:Int)*256) (b:Int)=((256*c+b:Nat):Int):=by
 have h:=zU (c*256) b (by omega) (by omega);have e:c*256|||b=256*c+b:=by rw[eP c];exact(jZ (i:=8) (by omega) c).symm
 rw[e]at h;rw[<-h];congr 1
theorem Bd(S:Src)(hS:S.Ok)(s:ByteArray)(t:Nat)(w:af)(hK:S.K w s t)(J:t<=s.size):
 aH prog 85 #[.iface S.T (.pointer (some S.a))] w fun e w'=>
  (pG s t/\e= .returned (.tuple #[.int .i64 ((bz s t:Nat):Int),.nilIface])/\S.K w' s (t+4)/\Fr S.F w w')\/
  ((∃T a,e= .returned (.tuple #[.int .i64 0,.iface T (.pointer (some a))])/\dJ S w' T a (¬pG s t))/\S.KE w'/\Fr S.F w w'):=by
 have r:au (pG s t↔t+4<=s.size/\aF s t<=127):=(by unfold pG;rw[Uk]:_↔_);have L:au (zF s t 4=bz s t):=PO s t;obtain⟨Q,E⟩:∃Q:Prop,Q=pG s t:=⟨_,rfl⟩;rw[<-E]at r|-;clear E;generalize bz s t=X at*;go_enter func85,ntmps85
 go_wp2_with fail
 go_loopw [4,8] (fun cv iv wr=> ∃j c:Nat,j<=4/\iv= .int .i64 (j:Int)/\c=zF s t j/\cv= .int .i64 (c:Int)/\t+j<=s.size/\(0<j->aF s t<=127)/\S.K wr s (t+j)/\Fr S.F w wr) (fun _ iv _=>4-(bH iv).toNat)
 case atStart=>exact⟨0,0,aX _,rfl,rfl,rfl,J,fun h=>absurd h (Nat.lt_irrefl 0),hK,Fr.refl _ _⟩
 case round=>
  obtain⟨j,c,Y,rfl,G,rfl,hle,h0,m,hF⟩:=hrel;have g:au _:=G;have n:au _:=h0;clear G h0 hK;by_cases M:j<4
  ·have u:c<16777216:=by
    have:=Xq s t j;rw[<-g.out]at this;have Z:256^j<=256^3:=bT (by omega) (by omega);omega
   have v:=bY s (t+j);have x:=hS.one wr s (t+j) m hle;obtain⟨y,z⟩:∃y,y=aF s (t+j):=⟨_,rfl⟩;rw[<-z]at x v;have A:au _:=z;clear z;have N:=aaV c y u (by omega);go_wp2_with fail
   refine x.mono ?_;clear x;rintro e w1 (⟨o,rfl,p,q⟩|⟨x0,T,a,rfl,o,p,q⟩);rotate_left
   ·have O:dJ S w1 T a (¬Q):=o.imp (fun o B=>o (by have:=(r.out.1 B).1;omega));clear o;go_wp2_with fail
    go_ret2;exact .inr ⟨⟨T,a,rfl,O⟩,p,hF.trans q⟩
   by_cases b:j=0/\127<y
   ·obtain⟨d,C⟩:=b;subst d;have P:au (¬Q):=(fun B=>by have:=(r.out.1 B).2;have h2:=A.out;rw[cO]at h2;omega:¬_);go_wp2_with fail
    refine(cZ _ _).mono ?_;rintro e w3 ⟨rfl,rfl⟩;go_wp2_with fail
    go_ret2;exact .inr ⟨⟨_,_,rfl,dJ.uh P.out⟩,hS.pF (hS.ke p) (fun k D=>ai _ _ k D),(hF.trans q).alloc _⟩
   ·have H:au (¬(j=0/\127<y)):=b;clear b;have f:au (∀i,S.K i s (t+j+1)->Fr S.F w i->∃l I:Nat,l<=4/\Value.int .i64 ((j:Int)+1)= .int .i64 (l:Int)/\I=zF s t l/\Value.int .i64 ((256*c+y:Nat):Int)= .int .i64 (I:Int)/\t+l<=s.size/\(0<l->aF s t<=127)/\S.K i s (t+l)/\Fr S.F w i):=(fun i D R=>⟨j+1,256*c+y,by omega,by go_num,by rw[zF,<-g.out,<-A.out],rfl,by omega,fun _=>by
     rcases Nat.eq_zero_or_pos j with h|h
     ·have h1:=H.out;have h2:=A.out;subst h;rw[cO]at h2;omega
     ·exact n.out h,D,R⟩:∀i,_)
    rcases Nat.eq_zero_or_pos j with d|d
    ·have C:¬127<y:=fun h=>H.out ⟨d,h⟩;subst d;have U:=f.out;clear f;go_wp2_with fail
     go_roundw
     case rel=>exact U _ p (hF.trans q)
     case measure=>simp[bH]
    ·have V:((j:Int)==0)=false:=by rw[aI];omega
     go_wp2_with fail
     go_roundw
     case rel=>exact f.out _ p (hF.trans q)
     case measure=>simp[bH];omega
  ·have e:j=4:=by omega
   subst e;have W:au Q:=(r.out.2 ⟨hle,n.out (by omega)⟩:Q);go_wp2_with fail
   go_ret2;exact .inl ⟨W.out,uP (by rw[g.out,L.out]),m,hF⟩
theorem Cj{a b:Bool}(h:a=b):Ending.returned (.bool a)= .returned (.bool b):=by rw[h]
def aT(k:Nat):Nat:=if k=0\/k=3 then 1 else if k=4 then 2 else if k=2 then 3 else if k=6 then 4 else 0
theorem Be(k:Nat)(w:af)(d:k<=255):
 aH prog 110 #[.int .u8 (k:Int)] w fun e w'=>e= .returned (.int .i64 ((aT k:Nat):Int))/\w'=w:=by
 by_cases h0:k=0
 ·subst h0;go_enter func110,ntmps110
  go_wp2
  go_ret;exact⟨rfl,rfl⟩
 by_cases c:k=3
 ·subst c;go_enter func110,ntmps110
  go_wp2
  go_ret;exact⟨rfl,rfl⟩
 by_cases a:k=4
 ·subst a;go_enter func110,ntmps110
  go_wp2
  go_ret;exact⟨rfl,rfl⟩
 by_cases h2:k=2
 ·subst h2;go_enter func110,ntmps110
  go_wp2
  go_ret;exact⟨rfl,rfl⟩
 by_cases b:k=6
 ·subst b;go_enter func110,ntmps110
  go_wp2
  go_ret;exact⟨rfl,rfl⟩
 have e:aT k=0:=by unfold aT;rw[ax (by omega),ax a,ax h2,ax b]
 rw[e];have f:((k:Int)==0)=false:=by rw[aI];omega
 have d3:((k:Int)==3)=false:=by rw[aI];omega
 have d4:((k:Int)==4)=false:=by rw[aI];omega
 have d2:((k:Int)==2)=false:=by rw[aI];omega
 have g:((k:Int)==6)=false:=by rw[aI];omega
 go_enter func110,ntmps110
 go_wp2
 go_ret;exact⟨rfl,rfl⟩
def rW(k d:Nat):Bool:=
 if d=1\/d=2\/d=4 then(k==0||k==3)else if d=8 then decide (0<aT k)else if d=16 then(decide (0<aT k)&&k !=3)else false
theorem Du(k d:Nat)(w:af)(j:k<=255)(hd:d<=255):
 aH prog 102 #[.int .u8 (k:Int),.int .i64 (d:Int)] w fun e w'=>e= .returned (.bool (rW k d))/\w'=w:=by
 have hS:=Be k w j;by_cases h1:d=1\/d=2\/d=4
 ·have e:rW k d=(k==0||k==3):=by unfold rW;rw[aG h1]
  rw[e];clear e hS;by_cases g:k=0
  ·subst g;rcases h1 with rfl|rfl|rfl
   all_goals
    go_enter func102,ntmps102
    go_wp2_with fail
    go_ret;exact⟨rfl,rfl⟩
  ·by_cases a:k=3
   ·subst a;rcases h1 with rfl|rfl|rfl
    all_goals
     go_enter func102,ntmps102
     go_wp2_with fail
     go_ret;exact⟨rfl,rfl⟩
   ·have l:(k==0)=false:=by rw[aI];exact g
    have e3:(k==3)=false:=by rw[aI];exact a
    rw[l,e3];have o:((k:Int)==0)=false:=by rw[aI];omega
    have d3:((k:Int)==3)=false:=by rw[aI];omega
    rcases h1 with rfl|rfl|rfl
    all_goals
     go_enter func102,ntmps102
     go_wp2_with fail
     go_ret;exact⟨Cj (by first|rfl|simp),rfl⟩
 by_cases h:d=8
 ·subst h;have e:rW k 8=decide (0<aT k):=rfl;rw[e];have f:aT k<=4:=by unfold aT;split<;>(try split)<;>(try split)<;>(try split)<;>omega
  generalize aT k=i at*;clear e h1;go_enter func102,ntmps102
  go_wp2_with fail
  refine hS.mono ?_;rintro e w' ⟨rfl,rfl⟩;go_wp2_with fail
  go_ret;exact⟨Cj (by simp),rfl⟩
 by_cases b:d=16
 ·subst b;have e:rW k 16=(decide (0<aT k)&&k !=3):=rfl;rw[e];have f:aT k<=4:=by unfold aT;split<;>(try split)<;>(try split)<;>(try split)<;>omega
  have c:aT k=0\/0<aT k:=by omega
  generalize aT k=i at*;clear e h1;rcases c with c|c
  ·subst c;go_enter func102,ntmps102
   go_wp2_with fail
   refine hS.mono ?_;rintro e w' ⟨rfl,rfl⟩;go_wp2_with fail
   go_ret;exact⟨rfl,rfl⟩
  ·have m:decide ((0:Int)<(i:Int))=true:=aZ (by omega);rw[aZ c,Bool.true_and];by_cases a:k=3
   ·subst a;go_enter func102,ntmps102
    go_wp2_with fail
    refine hS.mono ?_;rintro e w' ⟨rfl,rfl⟩;go_wp2_with fail
    go_ret;exact⟨rfl,rfl⟩
   ·have e3:(k !=3)=true:=by rw[ig];exact a
    rw[e3];have d3:((k:Int) !=3)=true:=by rw[ig];omega
    go_enter func102,ntmps102
    go_wp2_with fail
    refine hS.mono ?_;rintro e w' ⟨rfl,rfl⟩;go_wp2_with fail
    go_ret;exact⟨Cj (by first|rfl|simp),rfl⟩
 have e:rW k d=false:=by unfold rW;rw[ax h1,ax h,ax b]
 rw[e];have d1:((d:Int)==1)=false:=by rw[aI];omega
 have d2:((d:Int)==2)=false:=by rw[aI];omega
 have d4:((d:Int)==4)=false:=by rw[aI];omega
 have p:((d:Int)==8)=false:=by rw[aI];omega
 have n:((d:Int)==16)=false:=by rw[aI];omega
 clear hS;go_enter func102,ntmps102
 go_wp2_with fail
 go_ret;exact⟨rfl,rfl⟩
def qC(s:ByteArray)(t:Nat):Prop:=pG s t/\0<bz s t
theorem MG(S:Src)(hS:S.Ok)(s:ByteArray)(t:Nat)(w:af)(hK:S.K w s t)(m:t<=s.size):
 aH prog 81 #[.iface S.T (.pointer (some S.a))] w fun e w'=>
  (qC s t/\e= .returned (.tuple #[.int .i64 ((bz s t:Nat):Int),.nilIface])/\S.K w' s (t+4)/\Fr S.F w w')\/
  ((∃T a,e= .returned (.tuple #[.int .i64 0,.iface T (.pointer (some a))])/\dJ S w' T a (¬qC s t))/\S.KE w'/\Fr S.F w w'):=by
 have b:au (qC s t↔pG s t/\0<bz s t):=Iff.rfl;obtain⟨Q,j⟩:∃Q:Prop,Q=qC s t:=⟨_,rfl⟩;rw[<-j]at b|-;clear j;have l:=Bd S hS s t w hK m;have o:au (pG s t->bz s t<=2147483647):=(fun h=>h.2:_->_);generalize bz s t=n at*;go_enter func81,ntmps81
 go_wp2_with fail
 refine l.mono ?_;clear l;rintro e w1 (⟨c,rfl,d,f⟩|⟨⟨T,a,rfl,c⟩,d,f⟩)
 ·have v:=o.out c;have p:au _:=c;clear c;by_cases h0:n=0
  ·subst h0;have q:au (¬Q):=(fun g=>by have:=(b.out.1 g).2;omega:¬_);go_wp2_with fail
   refine(cZ _ _).mono ?_;rintro e w3 ⟨rfl,rfl⟩;go_wp2_with fail
   go_ret2;exact .inr ⟨⟨_,_,rfl,dJ.uh q.out⟩,hS.pF (hS.ke d) (fun k r=>ai _ _ k r),f.alloc _⟩
  ·have i:au Q:=(b.out.2 ⟨p.out,by omega⟩:Q);have x:((n:Int)==0)=false:=by rw[aI];omega
   go_wp2_with fail
   go_ret2;exact .inl ⟨i.out,rfl,d,f⟩
 ·have u:dJ S w1 T a (¬Q):=c.imp (fun c g=>c (b.out.1 g).1);clear c;go_wp2_with fail
  go_ret2;exact .inr ⟨⟨T,a,rfl,u⟩,d,f⟩
def wJ(s:ByteArray)(t:Nat):Prop:=t+2<=s.size/\rW (aF s (t+1)) (aF s t)=true
theorem XI(k d:Nat)(h:rW k d=true):rW 0 d=true:=by
 unfold rW at h|-;by_cases h1:d=1\/d=2\/d=4
 ·rw[aG h1];rfl
 ·rw[ax h1]at h|-;by_cases b:d=8
  ·rw[aG b];decide
  ·rw[ax b]at h|-;by_cases a:d=16
   ·rw[aG a];decide
   ·rw[ax a]at h;cases h
theorem XJ(S:Src)(hS:S.Ok)(s:ByteArray)(t:Nat)(w:af)(hK:S.K w s t)(A:t<=s.size):
 aH prog 82 #[.iface S.T (.pointer (some S.a))] w fun e w'=>
  (wJ s t/\e= .returned (.tuple #[.int .i64 ((aF s t:Nat):Int),.int .u8 ((aF s (t+1):Nat):Int),.nilIface])/\S.K w' s (t+2)/\Fr S.F w w')\/
  ((∃T a,e= .returned (.tuple #[.int .i64 0,.int .u8 0,.iface T (.pointer (some a))])/\dJ S w' T a (¬wJ s t))/\S.KE w'/\Fr S.F w w'):=by
 have c:au (wJ s t↔t+2<=s.size/\rW (aF s (t+1)) (aF s t)=true):=Iff.rfl;obtain⟨Q,y⟩:∃Q:Prop,Q=wJ s t:=⟨_,rfl⟩;rw[<-y]at c|-;clear y;have B:=bY s t;have C:=bY s (t+1);have z:=hS.one w s t hK A;have i:=fun w' h1 h2=>hS.one w' s (t+1) h1 h2;have o:au (rW (aF s (t+1)) (aF s t)=true->rW 0 (aF s t)=true):=XI _ _;have p:=fun w'=>Du 0 (aF s t) w' (by omega) (by omega);have q:=fun w'=>Du (aF s (t+1)) (aF s t) w' (by omega) (by omega);generalize aF s t=d at*;generalize aF s (t+1)=k at*;generalize rW k d=D at*;generalize rW 0 d=E at*;go_enter func82,ntmps82
 go_wp2_with fail
 refine z.mono ?_;clear z;rintro e w1 (⟨g,rfl,l,h⟩|⟨G,T,a,rfl,g,l,h⟩);rotate_left
 ·have r:dJ S w1 T a (¬Q):=g.imp (fun g f=>g (by have:=(c.out.1 f).1;omega));clear g;go_wp2_with fail
  go_ret3
  exact .inr ⟨⟨T,a,rfl,r⟩,l,h⟩
 go_wp2_with fail
 refine(p _).mono ?_;rintro e H ⟨rfl,b⟩;have b:=b.symm;subst b;cases E with
 |false=>
  have u:au (¬Q):=(fun f=>by have:=o.out (c.out.1 f).2;exact Bool.noConfusion this:¬_);go_wp2_with fail
  refine(cZ _ _).mono ?_;rintro e w3 ⟨rfl,rfl⟩;go_wp2_with fail
  go_ret3
  exact .inr ⟨⟨_,_,rfl,dJ.uh u.out⟩,hS.pF (hS.ke l) (fun k v=>ai _ _ k v),h.alloc _⟩
 |true=>
  go_wp2_with fail
  refine(i _ l g).mono ?_;clear i;rintro e w2 (⟨j,rfl,m,n⟩|⟨G,T,a,rfl,j,m,n⟩);rotate_left
  ·have r:dJ S w2 T a (¬Q):=j.imp (fun j f=>j (by have:=(c.out.1 f).1;omega));clear j;go_wp2_with fail
   go_ret3
   exact .inr ⟨⟨T,a,rfl,r⟩,m,h.trans n⟩
  go_wp2_with fail
  refine(q _).mono ?_;rintro e H ⟨rfl,b⟩;have b:=b.symm;subst b;cases D with
  |false=>
   have u:au (¬Q):=(fun f=>Bool.noConfusion (c.out.1 f).2:¬_);go_wp2_with fail
   refine(cZ _ _).mono ?_;rintro e w3 ⟨rfl,rfl⟩;go_wp2_with fail
   go_ret3
   exact .inr ⟨⟨_,_,rfl,dJ.uh u.out⟩,hS.pF (hS.ke m) (fun k v=>ai _ _ k v),(h.trans n).alloc _⟩
  |true=>
   have x:au Q:=(c.out.2 ⟨by omega,rfl⟩:Q);go_wp2_with fail
   go_ret3
   exact .inl ⟨x.out,rfl,m,h.trans n⟩
def wK(s:ByteArray)(t:Nat):Prop:=t+1<=s.size/\aF s t<=1
theorem XK(S:Src)(hS:S.Ok)(s:ByteArray)(t:Nat)(w:af)(hK:S.K w s t)(n:t<=s.size):
 aH prog 83 #[.iface S.T (.pointer (some S.a))] w fun e w'=>
  (wK s t/\e= .returned (.tuple #[.bool (decide (aF s t=1)),.nilIface])/\S.K w' s (t+1)/\Fr S.F w w')\/
  ((∃T a,e= .returned (.tuple #[.bool false,.iface T (.pointer (some a))])/\dJ S w' T a (¬wK s t))/\S.KE w'/\Fr S.F w w'):=by
 have b:au (wK s t↔t+1<=s.size/\aF s t<=1):=Iff.rfl;obtain⟨Q,l⟩:∃Q:Prop,Q=wK s t:=⟨_,rfl⟩;rw[<-l]at b|-;clear l;have o:=bY s t;have m:=hS.one w s t hK n;generalize aF s t=d at*;go_enter func83,ntmps83
 go_wp2_with fail
 refine m.mono ?_;clear m;rintro e w1 (⟨c,rfl,g,h⟩|⟨u,T,a,rfl,c,g,h⟩);rotate_left
 ·have p:dJ S w1 T a (¬Q):=c.imp (fun c j=>c (by have:=(b.out.1 j).1;omega));clear c;go_wp2_with fail
  go_ret2;exact .inr ⟨⟨T,a,rfl,p⟩,g,h⟩
 have i:au (t+1<=s.size):=c;clear c;rcases(by omega:d=0\/d=1\/1<d)with rfl|rfl|hd
 ·have f:au Q:=(b.out.2 ⟨i.out,by omega⟩:Q);go_wp2_with fail
  go_ret2;exact .inl ⟨f.out,rfl,g,h⟩
 ·have f:au Q:=(b.out.2 ⟨i.out,by omega⟩:Q);go_wp2_with fail
  go_ret2;exact .inl ⟨f.out,rfl,g,h⟩
 ·have q:au (¬Q):=(fun j=>by have:=(b.out.1 j).2;omega:¬_);go_wp2_with fail
  refine(cZ _ _).mono ?_;rintro e w3 ⟨rfl,rfl⟩;go_wp2_with fail
  go_ret2;exact .inr ⟨⟨_,_,rfl,dJ.uh q.out⟩,hS.pF (hS.ke g) (fun k r=>ai _ _ k r),h.alloc _⟩
def qc(W H D K:Nat)(I:Bool):ay:= .agg #[.int .i64 (W:Int),.int .i64 (H:Int),.int .i64 (D:Int),.int .u8 (K:Int),.bool I]
def Cm:ByteArray:=⟨#[0,0]⟩
def CB(s:ByteArray)(t:Nat):Prop:=qC s t/\qC s (t+4)/\wJ s (t+8)/\Match s (t+10) Cm/\wK s (t+12)
def uG(W H D K:Nat)(I:Bool):Array ay:= #[.int .i64 (W:Int),.int .i64 (H:Int),.int .i64 (D:Int),.int .u8 (K:Int),.bool I]
structure MJ(S:Src)(w0 w:af)(rb hb:Nat)(W H D K:Nat)(I:Bool):Prop where
 r:w.heap[rb]?=some (.cells (uG 0 0 0 0 false) 102 (0,0))
 h:w.heap[hb]?=some (.cells (uG W H D K I) 102 (0,0))
 nr:¬S.F rb
 nh:¬S.F hb
 ne:rb≠hb
 br:S.base<=rb
 bh:S.base<=hb
 SE:w0.heap.size<=rb
 oh:w0.heap.size<=hb
 fr:Fr S.F w0 w
theorem MJ.src{S:Src}{w0 w w':af}{rb hb W H D K:Nat}{I:Bool}(h:MJ S w0 w rb hb W H D K I)(a:Fr S.F w w'):MJ S w0 w' rb hb W H D K I:=
 ⟨(a.block rb (ak h.r) h.nr).trans h.r,(a.block hb (ak h.h) h.nh).trans h.h,h.nr,h.nh,h.ne,h.br,h.bh,h.SE,h.oh,h.fr.trans a⟩
theorem MJ.set{S:Src}{w0 w:af}{rb hb W H D K W' H' D' K':Nat}{I I':Bool}(h:MJ S w0 w rb hb W H D K I)(i:Nat)(v:ay)(a:(uG W H D K I).setIfInBounds i v=uG W' H' D' K' I'):MJ S w0 (w.setCell ⟨hb,i,none⟩ v) rb hb W' H' D' K' I':=
 ⟨(aC i v h.ne).trans h.r,(bF h.h i v).trans (by rw[a]),h.nr,h.nh,h.ne,h.br,h.bh,h.SE,h.oh,h.fr.dY hb i h.oh v⟩
theorem MJ.k{S:Src}(hS:S.Ok){w0 w:af}{rb hb W H D K:Nat}{I:Bool}{s:ByteArray}{t:Nat}(h:MJ S w0 w rb hb W H D K I)(i:Nat)(v:ay)(a:S.K w s t):S.K (w.setCell ⟨hb,i,none⟩ v) s t:=
 hS.iq a (fun k a=>aC i v (fun e=>a.elim (fun a=>h.nh (e▸a)) (fun a=>by have:=h.bh;omega)))
theorem MJ.cells{S:Src}{w0 w:af}{rb hb W H D K:Nat}{I:Bool}(h:MJ S w0 w rb hb W H D K I):
 (w.cell? ⟨hb,0,none⟩=some (.int .i64 (W:Int))/\w.cell? ⟨hb,1,none⟩=some (.int .i64 (H:Int))/\w.cell? ⟨hb,2,none⟩=some (.int .i64 (D:Int))/\w.cell? ⟨hb,3,none⟩=some (.int .u8 (K:Int))/\w.cell? ⟨hb,4,none⟩=some (.bool I))/\(∀i,w.frozen? ⟨hb,i,none⟩=false)/\
 (w.cell? ⟨rb,0,none⟩=some (.int .i64 0)/\w.cell? ⟨rb,1,none⟩=some (.int .i64 0)/\w.cell? ⟨rb,2,none⟩=some (.int .i64 0)/\w.cell? ⟨rb,3,none⟩=some (.int .u8 0)/\w.cell? ⟨rb,4,none⟩=some (.bool false))/\(∀i,w.frozen? ⟨rb,i,none⟩=false):=
 ⟨⟨by simpa [uG]using(cell_of h.h 0).1,by simpa [uG]using(cell_of h.h 1).1,by simpa [uG]using(cell_of h.h 2).1,by simpa [uG]using(cell_of h.h 3).1,by simpa [uG]using(cell_of h.h 4).1⟩,fun i=>(cell_of h.h i).2,⟨by simpa [uG]using(cell_of h.r 0).1,by simpa [uG]using(cell_of h.r 1).1,by simpa [uG]using(cell_of h.r 2).1,by simpa [uG]using(cell_of h.r 3).1,by simpa [uG]using(cell_of h.r 4).1⟩,fun i=>(cell_of h.r i).2⟩
theorem MJ.out{S:Src}(hS:S.Ok){w0 w:af}{rb hb W H D K:Nat}{I:Bool}(h:MJ S w0 w rb hb W H D K I)(v0 v1 v2 b v4:ay):
 Fr S.F w0 (((((w.setCell ⟨rb,0,none⟩ v0).setCell ⟨rb,1,none⟩ v1).setCell ⟨rb,2,none⟩ v2).setCell ⟨rb,3,none⟩ b).setCell ⟨rb,4,none⟩ v4)/\
 ∀k,k≠rb->(((((w.setCell ⟨rb,0,none⟩ v0).setCell ⟨rb,1,none⟩ v1).setCell ⟨rb,2,none⟩ v2).setCell ⟨rb,3,none⟩ b).setCell ⟨rb,4,none⟩ v4).heap[k]?=w.heap[k]?:=
 ⟨((((h.fr.dY rb 0 h.SE v0).dY rb 1 h.SE v1).dY rb 2 h.SE v2).dY rb 3 h.SE b).dY rb 4 h.SE v4,fun k a=>(aC 4 _ a).trans ((aC 3 _ a).trans ((aC 2 _ a).trans ((aC 1 _ a).trans (aC 0 _ a))))⟩
theorem MJ.start{S:Src}(hS:S.Ok)(w:af)(a:S.KE w):MJ S w ((w.alloc (.cells (uG 0 0 0 0 false) 102)).alloc (.cells (uG 0 0 0 0 false) 102)) w.heap.size (w.heap.size+1) 0 0 0 0 false:=by
 have hb:=hS.hb a;refine⟨?_,?_,fun e=>by have:=hS.lt a e;omega,fun e=>by have:=hS.lt a e;omega,by omega,hb,by omega,ah _,by omega,((Fr.refl _ w).alloc _).alloc _⟩
 ·rw[ai _ _ _ (by simp)];exact(gY w _).1
 ·have:=(gY (w.alloc (.cells (uG 0 0 0 0 false) 102)) (.cells (uG 0 0 0 0 false) 102)).1;rw[sG]at this;exact this
theorem MJ.fin{S:Src}(hS:S.Ok){w0 w w':af}{rb hb W H D K:Nat}{I:Bool}(h:MJ S w0 w rb hb W H D K I)(e:∀k,k≠rb->k≠hb->w'.heap[k]?=w.heap[k]?):
 (∀T a P,dJ S w T a P->dJ S w' T a P)/\(S.KE w->S.KE w')/\∀s t,S.K w s t->S.K w' s t:=by
 have b:∀k,S.F k\/k<S.base->w'.heap[k]?=w.heap[k]?:=fun k b=>e k (fun e=>b.elim (fun b=>h.nr (e▸b)) (fun b=>by have:=h.br;omega)) (fun e=>b.elim (fun b=>h.nh (e▸b)) (fun b=>by have:=h.bh;omega));refine⟨fun T a P hw=>hw.over (fun k cur f b=>e k (fun e=> ?_) (fun e=> ?_)),fun h=>hS.pg h b,fun s t h=>hS.iq h b⟩
 ·rw[e,h.r]at b;simp at b
 ·rw[e,h.h]at b;simp at b
theorem UG(S:Src)(hS:S.Ok)(s:ByteArray)(t:Nat)(w:af)(hK:S.K w s t)(ht:t<=s.size):
 aH prog 55 #[.iface S.T (.pointer (some S.a))] w fun e w'=>
  (CB s t/\e= .returned (.tuple #[qc (bz s t) (bz s (t+4)) (aF s (t+8)) (aF s (t+9)) (decide (aF s (t+12)=1)),.nilIface])/\S.K w' s (t+13)/\Fr S.F w w')\/
  ((∃T a,e= .returned (.tuple #[qc 0 0 0 0 false,.iface T (.pointer (some a))])/\dJ S w' T a (¬CB s t))/\S.KE w'/\Fr S.F w w'):=by
 have u:au (CB s t↔qC s t/\qC s (t+4)/\wJ s (t+8)/\Match s (t+10) Cm/\wK s (t+12)):=Iff.rfl;obtain⟨Q,hQ⟩:∃Q:Prop,Q=CB s t:=⟨_,rfl⟩;rw[<-hQ]at u|-;clear hQ;have x:=MJ.start hS w (hS.ke hK);have Z:=hS.L_ hK (w':=(w.alloc (.cells (uG 0 0 0 0 false) 102)).alloc (.cells (uG 0 0 0 0 false) 102)) (fun k hk=>(ai _ _ k (by simp;omega)).trans (ai w _ k hk));have a5:(w.alloc (.cells (uG 0 0 0 0 false) 102)).alloc (.cells (uG 0 0 0 0 false) 102)=(w.alloc (.cells #[.int .i64 0,.int .i64 0,.int .i64 0,.int .u8 0,.bool false] 102)).alloc (.cells #[.int .i64 0,.int .i64 0,.int .i64 0,.int .u8 0,.bool false] 102):=rfl;rw[a5]at x Z;clear a5;go_enter func55,ntmps55
 go_wp2_with fail
 generalize (w.alloc (.cells #[.int .i64 0,.int .i64 0,.int .i64 0,.int .u8 0,.bool false] 102)).alloc (.cells #[.int .i64 0,.int .i64 0,.int .i64 0,.int .u8 0,.bool false] 102)=w0 at*;generalize w.heap.size+1=hb at*;generalize c9:w.heap.size=rb at*;have a6:=x.ne;have c8:=rG a6;refine(MG S hS s t _ Z ht).mono ?_;rintro e w1 (⟨i,rfl,j,l⟩|⟨⟨T,a,rfl,i⟩,j,l⟩);rotate_left
 ·have f:=x.src l;have O:dJ S w1 T a (¬Q):=i.imp (fun q P=>q (u.out.1 P).1);obtain⟨⟨y,z,A,C,D⟩,g,⟨m,n,o,p,r⟩,bf⟩:=f.cells;have x0:=bf 0;have x1:=bf 1;have x2:=bf 2;have x3:=bf 3;have x4:=bf 4;have J:=g 0;have L:=g 1;have M:=g 2;have N:=g 3;have E:=g 4;have R:au (S.KE w1):=j;clear i g bf j;go_wp2_with fail
  refine a_ (v:= .tuple #[qc 0 0 0 0 false,.iface T (.pointer (some a))]) (by simp[results,results55,go_sem,qc,m,n,o,p,r]) rfl ?_;obtain⟨G,H⟩:=(f.set 0 (.int .i64 0) rfl).out hS (.int .i64 0) (.int .i64 0) (.int .i64 0) (.int .u8 0) (.bool false);obtain⟨u1,u2,u3⟩:=f.fin hS (fun k h1 h2=>(H k h1).trans (aC 0 _ h2));exact .inr ⟨⟨T,a,rfl,u1 _ _ _ O⟩,u2 R.out,G⟩
 have f:=x.src l;have H1:au (qC s t):=i;have a7:t+4<=s.size:=i.1.1;clear i l x;obtain⟨⟨y,z,A,C,D⟩,g,⟨m,n,o,p,r⟩,bf⟩:=f.cells;have J:=g 0;have L:=g 1;have M:=g 2;have N:=g 3;have E:=g 4;clear g bf m n o p r;have a8:=f.k hS 0 (.int .i64 ((bz s t:Nat):Int)) j;have V:=f.set (W':=bz s t) (H':=0) (D':=0) (K':=0) (I':=false) 0 (.int .i64 ((bz s t:Nat):Int)) rfl;clear f j;go_wp2_with fail
 clear y z A C D J L M N E;generalize w1.setCell ⟨hb,0,none⟩ (.int .i64 ((bz s t:Nat):Int))=v1 at*;refine(MG S hS s (t+4) _ a8 a7).mono ?_;rintro e w2 (⟨i,rfl,j,l⟩|⟨⟨T,a,rfl,i⟩,j,l⟩);rotate_left
 ·have f:=V.src l;have O:dJ S w2 T a (¬Q):=i.imp (fun q P=>q (u.out.1 P).2.1);obtain⟨⟨y,z,A,C,D⟩,g,⟨m,n,o,p,r⟩,bf⟩:=f.cells;have x0:=bf 0;have x1:=bf 1;have x2:=bf 2;have x3:=bf 3;have x4:=bf 4;have J:=g 0;have L:=g 1;have M:=g 2;have N:=g 3;have E:=g 4;have R:au (S.KE w2):=j;clear i g bf j;go_wp2_with fail
  refine a_ (v:= .tuple #[qc 0 0 0 0 false,.iface T (.pointer (some a))]) (by simp[results,results55,go_sem,qc,m,n,o,p,r]) rfl ?_;obtain⟨G,H⟩:=(f.set 1 (.int .i64 0) rfl).out hS (.int .i64 0) (.int .i64 0) (.int .i64 0) (.int .u8 0) (.bool false);obtain⟨u1,u2,u3⟩:=f.fin hS (fun k h1 h2=>(H k h1).trans (aC 1 _ h2));exact .inr ⟨⟨T,a,rfl,u1 _ _ _ O⟩,u2 R.out,G⟩
 have f:=V.src l;have H2:au (qC s (t+4)):=i;have a9:t+4+4<=s.size:=i.1.1;clear i l V;obtain⟨⟨y,z,A,C,D⟩,g,⟨m,n,o,p,r⟩,bf⟩:=f.cells;have J:=g 0;have L:=g 1;have M:=g 2;have N:=g 3;have E:=g 4;clear g bf m n o p r;have b5:=f.k hS 1 (.int .i64 ((bz s (t+4):Nat):Int)) j;have W:=f.set (W':=bz s t) (H':=bz s (t+4)) (D':=0) (K':=0) (I':=false) 1 (.int .i64 ((bz s (t+4):Nat):Int)) rfl;clear f j;go_wp2_with fail
 clear y z A C D J L M N E;generalize w2.setCell ⟨hb,1,none⟩ (.int .i64 ((bz s (t+4):Nat):Int))=v2 at*;refine(XJ S hS s (t+8) _ b5 a9).mono ?_;rintro e w3 (⟨i,rfl,j,l⟩|⟨⟨T,a,rfl,i⟩,j,l⟩);rotate_left
 ·have f:=W.src l;have O:dJ S w3 T a (¬Q):=i.imp (fun q P=>q (u.out.1 P).2.2.1);obtain⟨⟨y,z,A,C,D⟩,g,⟨m,n,o,p,r⟩,bf⟩:=f.cells;have x0:=bf 0;have x1:=bf 1;have x2:=bf 2;have x3:=bf 3;have x4:=bf 4;have J:=g 0;have L:=g 1;have M:=g 2;have N:=g 3;have E:=g 4;have R:au (S.KE w3):=j;clear i g bf j;go_wp2_with fail
  refine a_ (v:= .tuple #[qc 0 0 0 0 false,.iface T (.pointer (some a))]) (by simp[results,results55,go_sem,qc,m,n,o,p,r]) rfl ?_;obtain⟨G,H⟩:=((f.set 2 (.int .i64 0) rfl).set 3 (.int .u8 0) rfl).out hS (.int .i64 0) (.int .i64 0) (.int .i64 0) (.int .u8 0) (.bool false);obtain⟨u1,u2,u3⟩:=f.fin hS (fun k h1 h2=>(H k h1).trans ((aC 3 _ h2).trans (aC 2 _ h2)));exact .inr ⟨⟨T,a,rfl,u1 _ _ _ O⟩,u2 R.out,G⟩
 have f:=W.src l;have H3:au (wJ s (t+8)):=i;have b6:t+8+2<=s.size:=i.1;clear i l W;obtain⟨⟨y,z,A,C,D⟩,g,⟨m,n,o,p,r⟩,bf⟩:=f.cells;have J:=g 0;have L:=g 1;have M:=g 2;have N:=g 3;have E:=g 4;clear g bf m n o p r;have U:=f.k hS 2 (.int .i64 ((aF s (t+8):Nat):Int)) j;have I:=f.set (W':=bz s t) (H':=bz s (t+4)) (D':=aF s (t+8)) (K':=0) (I':=false) 2 (.int .i64 ((aF s (t+8):Nat):Int)) rfl;have b7:=I.k hS 3 (.int .u8 ((aF s (t+9):Nat):Int)) U;have X:=I.set (W':=bz s t) (H':=bz s (t+4)) (D':=aF s (t+8)) (K':=aF s (t+9)) (I':=false) 3 (.int .u8 ((aF s (t+9):Nat):Int)) rfl;clear f j U I;go_wp2_with fail
 clear y z A C D J L M N E;generalize (w3.setCell ⟨hb,2,none⟩ (.int .i64 ((aF s (t+8):Nat):Int))).setCell ⟨hb,3,none⟩ (.int .u8 ((aF s (t+9):Nat):Int))=v3 at*;have hE:=fun b8=>zV S hS s Cm b8 (t+10) v3 b7 b6 (by decide);have b9:Cm.size=2:=rfl;rw[b9]at hE;have HM:au (Match s (t+10) Cm->t+12<=s.size):=(fun h=>h.1:_->_);have c1:au (Q->Match s (t+10) Cm):=(fun h=>(u.out.1 h).2.2.2.1:_->_);have c2:au (qC s t->qC s (t+4)->wJ s (t+8)->Match s (t+10) Cm->wK s (t+12)->Q):=(fun a b c d e=>u.out.2 ⟨a,b,c,d,e⟩:_->_);have c3:au (Q->wK s (t+12)):=(fun h=>(u.out.1 h).2.2.2.2:_->_);generalize Match s (t+10) Cm=MM at*;unfold Cm at hE;refine(hE _).mono ?_;clear hE;rintro e w4 (⟨i,rfl,j,l⟩|⟨⟨T,a,rfl,i⟩,j,l⟩);rotate_left
 ·have f:=X.src l;have O:dJ S w4 T a (¬Q):=i.imp (fun q P=>q (c1.out P));obtain⟨⟨y,z,A,C,D⟩,g,⟨m,n,o,p,r⟩,bf⟩:=f.cells;have x0:=bf 0;have x1:=bf 1;have x2:=bf 2;have x3:=bf 3;have x4:=bf 4;have J:=g 0;have L:=g 1;have M:=g 2;have N:=g 3;have E:=g 4;have R:au (S.KE w4):=j;clear i g bf j;go_wp2_with fail
  refine a_ (v:= .tuple #[qc 0 0 0 0 false,.iface T (.pointer (some a))]) (by simp[results,results55,go_sem,qc,m,n,o,p,r]) rfl ?_;obtain⟨G,H⟩:=f.out hS (.int .i64 0) (.int .i64 0) (.int .i64 0) (.int .u8 0) (.bool false);obtain⟨u1,u2,u3⟩:=f.fin hS (fun k h1 _=>H k h1);exact .inr ⟨⟨T,a,rfl,u1 _ _ _ O⟩,u2 R.out,G⟩
 have f:=X.src l;have H4:au MM:=i;have c5:t+12<=s.size:=HM.out i;clear i l X;go_wp2_with fail
 refine(XK S hS s (t+12) _ j c5).mono ?_;rintro e w5 (⟨i,rfl,k1,k2⟩|⟨⟨T,a,rfl,i⟩,j,l⟩);rotate_left
 ·have f:=f.src l;have O:dJ S w5 T a (¬Q):=i.imp (fun q P=>q (c3.out P));obtain⟨⟨y,z,A,C,D⟩,g,⟨m,n,o,p,r⟩,bf⟩:=f.cells;have x0:=bf 0;have x1:=bf 1;have x2:=bf 2;have x3:=bf 3;have x4:=bf 4;have J:=g 0;have L:=g 1;have M:=g 2;have N:=g 3;have E:=g 4;have R:au (S.KE w5):=j;clear i g bf j;go_wp2_with fail
  refine a_ (v:= .tuple #[qc 0 0 0 0 false,.iface T (.pointer (some a))]) (by simp[results,results55,go_sem,qc,m,n,o,p,r]) rfl ?_;obtain⟨G,H⟩:=(f.set 4 (.bool false) rfl).out hS (.int .i64 0) (.int .i64 0) (.int .i64 0) (.int .u8 0) (.bool false);obtain⟨u1,u2,u3⟩:=f.fin hS (fun k h1 h2=>(H k h1).trans (aC 4 _ h2));exact .inr ⟨⟨T,a,rfl,u1 _ _ _ O⟩,u2 R.out,G⟩
 have Y:=f.src k2;have c6:au Q:=(c2.out H1.out H2.out H3.out H4.out i:Q);clear i j k2 f;obtain⟨⟨y,z,A,C,D⟩,g,⟨m,n,o,p,r⟩,bf⟩:=Y.cells;have E:=g 4;have x0:=bf 0;have x1:=bf 1;have x2:=bf 2;have x3:=bf 3;have x4:=bf 4;have c7:au (S.K w5 s (t+12+1)):=k1;clear g bf k1;generalize hB:decide (aF s (t+12)=1)=B at*;have HB:au _:=hB;clear hB;go_wp2_with fail
 refine a_ (v:= .tuple #[qc (bz s t) (bz s (t+4)) (aF s (t+8)) (aF s (t+9)) B,.nilIface]) (by simp[results,results55,go_sem,qc,m,n,o,p,r]) rfl ?_;obtain⟨G,H⟩:=(Y.set (W':=bz s t) (H':=bz s (t+4)) (D':=aF s (t+8)) (K':=aF s (t+9)) (I':=B) 4 (.bool B) rfl).out hS (.int .i64 ((bz s t:Nat):Int)) (.int .i64 ((bz s (t+4):Nat):Int)) (.int .i64 ((aF s (t+8):Nat):Int)) (.int .u8 ((aF s (t+9):Nat):Int)) (.bool B);obtain⟨u1,u2,u3⟩:=Y.fin hS (fun k h1 h2=>(H k h1).trans (aC 4 _ h2));exact .inl ⟨c6.out,by rw[HB.out],u3 _ _ c7.out,G⟩
end Pr
end Go.Proofs.YtephkcdbnogdhabGreatDoor
