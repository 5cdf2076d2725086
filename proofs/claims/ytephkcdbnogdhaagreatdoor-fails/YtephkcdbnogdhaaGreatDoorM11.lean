import Derived.Test.YtephkcdbnogdhaaGreatDoorM2
import Derived.Test.YtephkcdbnogdhaaGreatDoorM7
set_option linter.unusedVariables false
set_option maxHeartbeats 40000000
set_option maxRecDepth 10000
namespace Go.Proofs.YtephkcdbnogdhaaGreatDoor
open Go.Proofs.Tryz
open Go renaming World->af,Value->ay,Calls->aF
open Go.RowKit renaming Hid->ah,intOf->aX
namespace Pr
open Go.RowKit Rf
open h_ (aT fV)
theorem Src.Ok.one{S:Src}(hS:S.Ok)(w:af)(s:ByteArray)(t:Nat)(hK:S.K w s t)(i:t<=s.size):
 aF prog 193 #[.iface S.T (.pointer (some S.a))] w fun e w'=>
  (t<s.size/\e= .returned (.tuple #[.int .u8 ((aA s t:Nat):Int),.nilIface])/\S.K w' s (t+1)/\Fr S.F w w')\/
  (∃x T a,e= .returned (.tuple #[.int .u8 x,.iface T (.pointer (some a))])/\dO S w' T a (¬t<s.size)/\S.KE w'/\Fr S.F w w'):=by
 by_cases h:t<s.size
 ·refine(hS.Tm w s t hK h).mono ?_;rintro e w' (⟨b,c,d⟩|⟨x,T,a,b,c,d,f,g⟩)
  ·exact .inl ⟨h,b,c,d⟩
  ·exact .inr ⟨x,T,a,b,.inr ⟨c,d⟩,f,g⟩
 ·have e:t=s.size:=by omega
  subst e;refine(hS.xx w s hK).mono ?_;rintro e w' ⟨x,T,a,b,c,d,f⟩;exact .inr ⟨x,T,a,b,c.imp (fun _=>h),d,f⟩
theorem Src.Ok.qK{S:Src}(hS:S.Ok){w w':af}(h:S.KE w)(e:∀k,k<w.heap.size->w'.heap[k]?=w.heap[k]?):S.KE w':=
 hS.qH h (fun k a=>e k (a.elim (fun a=>hS.lt h a) (fun a=>by have:=hS.hb h;omega)))
theorem Src.Ok.Pv{S:Src}(hS:S.Ok){w w':af}{s:ByteArray}{t:Nat}(h:S.K w s t)(e:∀k,k<w.heap.size->w'.heap[k]?=w.heap[k]?):S.K w' s t:=
 hS.iJ h (fun k a=>e k (a.elim (fun a=>hS.lt (hS.ke h) a) (fun a=>by have:=hS.hb (hS.ke h);omega)))
def Match(s:ByteArray)(t:Nat)(x:ByteArray):Prop:=t+x.size<=s.size/\∀i,i<x.size->aA s (t+i)=aA x i
theorem AY(S:Src)(hS:S.Ok)(s x o:ByteArray)(t:Nat)(w:af)(hK:S.K w s t)(B:t<=s.size)(hx:x.size<=1000):
 aF prog 174 #[.iface S.T (.pointer (some S.a)),.string x,.string o] w fun e w'=>
  (Match s t x/\e= .returned .nilIface/\S.K w' s (t+x.size)/\Fr S.F w w')\/
  ((∃T a,e= .returned (.iface T (.pointer (some a)))/\dO S w' T a (¬Match s t x))/\S.KE w'/\Fr S.F w w'):=by
 have l:ah (Match s t x↔t+x.size<=s.size/\∀i,i<x.size->aA s (t+i)=aA x i):=Iff.rfl;obtain⟨Q,z⟩:∃Q:Prop,Q=Match s t x:=⟨_,rfl⟩;rw[<-z]at l|-;clear z;go_enter func174,ntmps174
 go_wp2_with fail
 go_loopw [12] (fun p wr=> ∃j:Nat,j<=x.size/\p= .int .i64 (j:Int)/\t+j<=s.size/\(∀i,i<j->aA s (t+i)=aA x i)/\S.K wr s (t+j)/\Fr S.F w wr) (fun p _=>x.size-(aX p).toNat)
 case atStart=>exact⟨0,aU _,rfl,B,fun i hi=>absurd hi (qw i),hK,Fr.refl _ _⟩
 case round=>
  obtain⟨j,J,rfl,hle,b,d,hF⟩:=hrel;have c:ah _:=b;clear b hK;by_cases f:j<x.size
  ·have L:(x[j]).toNat=aA x j:=(dL x j f).symm;have q:=dH s (t+j);have r:=hS.one wr s (t+j) d hle;obtain⟨y,u⟩:∃y,y=aA s (t+j):=⟨_,rfl⟩;rw[<-u]at r q;have A:ah _:=u;clear u;go_wp2_with fail
   refine r.mono ?_;clear r;rintro e w1 (⟨g,rfl,m,n⟩|⟨x0,T,a,rfl,g,m,n⟩)
   ·by_cases he:y=aA x j
    ·have C:((y:Int) !=(((x[j]).toNat:Nat):Int))=false:=by rw[bn];omega
     have D:ah (aA s (t+j)=aA x j):=(by rw[<-A.out];exact he:_=_);clear he;go_wp2_with fail
     go_roundw
     case rel=>
      refine⟨j+1,by omega,by go_num,by omega,fun i hi=> ?_,m,hF.trans n⟩;rcases bU i j with h|h
      ·exact c.out i h
      ·have:i=j:=by omega
       rw[this];exact D.out
     case measure=>simp[aX];omega
    ·have C:((y:Int) !=(((x[j]).toNat:Nat):Int))=true:=by rw[dG];omega
     have E:ah (¬Q):=(fun v=>he (A.out.trans ((l.out.1 v).2 j f)):¬_);clear he;go_wp2_with fail
     refine(dJ _ _).mono ?_;rintro e w3 ⟨rfl,rfl⟩;go_wp2_with fail
     go_ret;exact .inr ⟨⟨_,_,rfl,dO.ve E.out⟩,hS.qK (hS.ke m) (fun k G=>aj _ _ k G),(hF.trans n).alloc _⟩
   ·have H:dO S w1 T a (¬Q):=g.imp (fun g v=>g (by have:=(l.out.1 v).1;omega));clear g;go_wp2_with fail
    go_ret;exact .inr ⟨⟨T,a,rfl,H⟩,m,hF.trans n⟩
  ·have e:j=x.size:=by omega
   subst e;have I:ah Q:=(l.out.2 ⟨hle,c.out⟩:Q);go_wp2_with fail
   go_ret;exact .inl ⟨I.out,rfl,d,hF⟩
def Ai(s:ByteArray)(t:Nat):Nat->Nat
 |0=>0
 |j+1=>256*Ai s t j+aA s (t+j)
theorem ZG(s:ByteArray)(t j:Nat):Ai s t j<256^j:=by
 induction j with
 |zero=>simp[Ai]
 |succ j a=>rw[Ai,iD];have:=dH s (t+j);omega
theorem Tz(s:ByteArray)(t:Nat):Ai s t 4=aT s t:=by simp only[Ai,aT,Nat.add_zero];omega
def oU(s:ByteArray)(t:Nat):Prop:=t+4<=s.size/\aT s t<=2147483647
theorem Xf(s:ByteArray)(t:Nat):aT s t<=2147483647↔aA s t<=127:=by have a:=dH s t;have b:=dH s (t+1);have c:=dH s (t+2);have h3:=dH s (t+3);unfold aT;omega
theorem acH(c b:Nat)(a:c<16777216)(hb:b<256):bits BinOp.or IntKind.i64 ((c:Int)*256) (b:Int)=((256*c+b:Nat):Int):=by
 have h:=AX (c*256) b (by omega) (by omega);have e:c*256|||b=256*c+b:=by rw[eu c];exact(lq (i:=8) (by omega) c).symm
 rw[e]at h;rw[<-h];congr 1
theorem KA(S:Src)(hS:S.Ok)(s:ByteArray)(t:Nat)(w:af)(hK:S.K w s t)(N:t<=s.size):
 aF prog 180 #[.iface S.T (.pointer (some S.a))] w fun e w'=>
  (oU s t/\e= .returned (.tuple #[.int .i64 ((aT s t:Nat):Int),.nilIface])/\S.K w' s (t+4)/\Fr S.F w w')\/
  ((∃T a,e= .returned (.tuple #[.int .i64 0,.iface T (.pointer (some a))])/\dO S w' T a (¬oU s t))/\S.KE w'/\Fr S.F w w'):=by
 have r:ah (oU s t↔t+4<=s.size/\aA s t<=127):=(by unfold oU;rw[Xf]:_↔_);have O:ah (Ai s t 4=aT s t):=Tz s t;obtain⟨Q,H⟩:∃Q:Prop,Q=oU s t:=⟨_,rfl⟩;rw[<-H]at r|-;clear H;generalize aT s t=F4 at*;go_enter func180,ntmps180
 go_wp2_with fail
 go_loopw [4,8] (fun cv u wr=> ∃j c:Nat,j<=4/\u= .int .i64 (j:Int)/\c=Ai s t j/\cv= .int .i64 (c:Int)/\t+j<=s.size/\(0<j->aA s t<=127)/\S.K wr s (t+j)/\Fr S.F w wr) (fun _ u _=>4-(aX u).toNat)
 case atStart=>exact⟨0,0,aU _,rfl,rfl,rfl,N,fun h=>absurd h (Nat.lt_irrefl 0),hK,Fr.refl _ _⟩
 case round=>
  obtain⟨j,c,hj,rfl,I,rfl,hle,J,m,hF⟩:=hrel;have g:ah _:=I;have n:ah _:=J;clear I J hK;by_cases P:j<4
  ·have v:c<16777216:=by
    have:=ZG s t j;rw[<-g.out]at this;have h3:256^j<=256^3:=b_ (by omega) (by omega);omega
   have x:=dH s (t+j);have z:=hS.one wr s (t+j) m hle;obtain⟨y,A⟩:∃y,y=aA s (t+j):=⟨_,rfl⟩;rw[<-A]at z x;have B:ah _:=A;clear A;have R:=acH c y v (by omega);go_wp2_with fail
   refine z.mono ?_;clear z;rintro e w1 (⟨o,rfl,p,q⟩|⟨x0,T,a,rfl,o,p,q⟩);rotate_left
   ·have U:dO S w1 T a (¬Q):=o.imp (fun o C=>o (by have:=(r.out.1 C).1;omega));clear o;go_wp2_with fail
    go_ret2;exact .inr ⟨⟨T,a,rfl,U⟩,p,hF.trans q⟩
   by_cases b:j=0/\127<y
   ·obtain⟨d,D⟩:=b;subst d;have V:ah (¬Q):=(fun C=>by have:=(r.out.1 C).2;have E:=B.out;rw[eH]at E;omega:¬_);go_wp2_with fail
    refine(dJ _ _).mono ?_;rintro e w3 ⟨rfl,rfl⟩;go_wp2_with fail
    go_ret2;exact .inr ⟨⟨_,_,rfl,dO.ve V.out⟩,hS.qK (hS.ke p) (fun k G=>aj _ _ k G),(hF.trans q).alloc _⟩
   ·have L:ah (¬(j=0/\127<y)):=b;clear b;have f:ah (∀i,S.K i s (t+j+1)->Fr S.F w i->∃l M:Nat,l<=4/\Value.int .i64 ((j:Int)+1)= .int .i64 (l:Int)/\M=Ai s t l/\Value.int .i64 ((256*c+y:Nat):Int)= .int .i64 (M:Int)/\t+l<=s.size/\(0<l->aA s t<=127)/\S.K i s (t+l)/\Fr S.F w i):=(fun i G W=>⟨j+1,256*c+y,by omega,by go_num,by rw[Ai,<-g.out,<-B.out],rfl,by omega,fun _=>by
     rcases Nat.eq_zero_or_pos j with h|h
     ·have h1:=L.out;have E:=B.out;subst h;rw[eH]at E;omega
     ·exact n.out h,G,W⟩:∀i,_)
    rcases Nat.eq_zero_or_pos j with d|d
    ·have D:¬127<y:=fun h=>L.out ⟨d,h⟩;subst d;have X:=f.out;clear f;go_wp2_with fail
     go_roundw
     case rel=>exact X _ p (hF.trans q)
     case measure=>simp[aX]
    ·have Y:((j:Int)==0)=false:=by rw[ax];omega
     go_wp2_with fail
     go_roundw
     case rel=>exact f.out _ p (hF.trans q)
     case measure=>simp[aX];omega
  ·have e:j=4:=by omega
   subst e;have Z:ah Q:=(r.out.2 ⟨hle,n.out (by omega)⟩:Q);go_wp2_with fail
   go_ret2;exact .inl ⟨Z.out,vW (by rw[g.out,O.out]),m,hF⟩
theorem DJ{a b:Bool}(h:a=b):Ending.returned (.bool a)= .returned (.bool b):=by rw[h]
def bF(k:Nat):Nat:=if k=0\/k=3 then 1 else if k=4 then 2 else if k=2 then 3 else if k=6 then 4 else 0
theorem Ci(k:Nat)(w:af)(d:k<=255):
 aF prog 213 #[.int .u8 (k:Int)] w fun e w'=>e= .returned (.int .i64 ((bF k:Nat):Int))/\w'=w:=by
 by_cases c:k=0
 ·subst c;go_enter func213,ntmps213
  go_wp2
  go_ret;exact⟨rfl,rfl⟩
 by_cases h3:k=3
 ·subst h3;go_enter func213,ntmps213
  go_wp2
  go_ret;exact⟨rfl,rfl⟩
 by_cases a:k=4
 ·subst a;go_enter func213,ntmps213
  go_wp2
  go_ret;exact⟨rfl,rfl⟩
 by_cases b:k=2
 ·subst b;go_enter func213,ntmps213
  go_wp2
  go_ret;exact⟨rfl,rfl⟩
 by_cases h6:k=6
 ·subst h6;go_enter func213,ntmps213
  go_wp2
  go_ret;exact⟨rfl,rfl⟩
 have e:bF k=0:=by unfold bF;rw[au (by omega),au a,au b,au h6]
 rw[e];have f:((k:Int)==0)=false:=by rw[ax];omega
 have d3:((k:Int)==3)=false:=by rw[ax];omega
 have g:((k:Int)==4)=false:=by rw[ax];omega
 have h:((k:Int)==2)=false:=by rw[ax];omega
 have i:((k:Int)==6)=false:=by rw[ax];omega
 go_enter func213,ntmps213
 go_wp2
 go_ret;exact⟨rfl,rfl⟩
def vC(k d:Nat):Bool:=
 if d=1\/d=2\/d=4 then(k==0||k==3)else if d=8 then decide (0<bF k)else if d=16 then(decide (0<bF k)&&k !=3)else false
theorem EE(k d:Nat)(w:af)(l:k<=255)(hd:d<=255):
 aF prog 205 #[.int .u8 (k:Int),.int .i64 (d:Int)] w fun e w'=>e= .returned (.bool (vC k d))/\w'=w:=by
 have hS:=Ci k w l;by_cases a:d=1\/d=2\/d=4
 ·have e:vC k d=(k==0||k==3):=by unfold vC;rw[aC a]
  rw[e];clear e hS;by_cases i:k=0
  ·subst i;rcases a with rfl|rfl|rfl
   all_goals
    go_enter func205,ntmps205
    go_wp2_with fail
    go_ret;exact⟨rfl,rfl⟩
  ·by_cases b:k=3
   ·subst b;rcases a with rfl|rfl|rfl
    all_goals
     go_enter func205,ntmps205
     go_wp2_with fail
     go_ret;exact⟨rfl,rfl⟩
   ·have m:(k==0)=false:=by rw[ax];exact i
    have g:(k==3)=false:=by rw[ax];exact b
    rw[m,g];have p:((k:Int)==0)=false:=by rw[ax];omega
    have d3:((k:Int)==3)=false:=by rw[ax];omega
    rcases a with rfl|rfl|rfl
    all_goals
     go_enter func205,ntmps205
     go_wp2_with fail
     go_ret;exact⟨DJ (by first|rfl|simp),rfl⟩
 by_cases h8:d=8
 ·subst h8;have e:vC k 8=decide (0<bF k):=rfl;rw[e];have h:bF k<=4:=by unfold bF;split<;>(try split)<;>(try split)<;>(try split)<;>omega
  generalize bF k=j at*;clear e a;go_enter func205,ntmps205
  go_wp2_with fail
  refine hS.mono ?_;rintro e w' ⟨rfl,rfl⟩;go_wp2_with fail
  go_ret;exact⟨DJ (by simp),rfl⟩
 by_cases c:d=16
 ·subst c;have e:vC k 16=(decide (0<bF k)&&k !=3):=rfl;rw[e];have h:bF k<=4:=by unfold bF;split<;>(try split)<;>(try split)<;>(try split)<;>omega
  have f:bF k=0\/0<bF k:=by omega
  generalize bF k=j at*;clear e a;rcases f with f|f
  ·subst f;go_enter func205,ntmps205
   go_wp2_with fail
   refine hS.mono ?_;rintro e w' ⟨rfl,rfl⟩;go_wp2_with fail
   go_ret;exact⟨rfl,rfl⟩
  ·have n:decide ((0:Int)<(j:Int))=true:=aZ (by omega);rw[aZ f,Bool.true_and];by_cases b:k=3
   ·subst b;go_enter func205,ntmps205
    go_wp2_with fail
    refine hS.mono ?_;rintro e w' ⟨rfl,rfl⟩;go_wp2_with fail
    go_ret;exact⟨rfl,rfl⟩
   ·have g:(k !=3)=true:=by rw[dG];exact b
    rw[g];have d3:((k:Int) !=3)=true:=by rw[dG];omega
    go_enter func205,ntmps205
    go_wp2_with fail
    refine hS.mono ?_;rintro e w' ⟨rfl,rfl⟩;go_wp2_with fail
    go_ret;exact⟨DJ (by first|rfl|simp),rfl⟩
 have e:vC k d=false:=by unfold vC;rw[au a,au h8,au c]
 rw[e];have q:((d:Int)==1)=false:=by rw[ax];omega
 have r:((d:Int)==2)=false:=by rw[ax];omega
 have s:((d:Int)==4)=false:=by rw[ax];omega
 have t:((d:Int)==8)=false:=by rw[ax];omega
 have o:((d:Int)==16)=false:=by rw[ax];omega
 clear hS;go_enter func205,ntmps205
 go_wp2_with fail
 go_ret;exact⟨rfl,rfl⟩
def qM(s:ByteArray)(t:Nat):Prop:=oU s t/\0<aT s t
theorem PG(S:Src)(hS:S.Ok)(s:ByteArray)(t:Nat)(w:af)(hK:S.K w s t)(m:t<=s.size):
 aF prog 176 #[.iface S.T (.pointer (some S.a))] w fun e w'=>
  (qM s t/\e= .returned (.tuple #[.int .i64 ((aT s t:Nat):Int),.nilIface])/\S.K w' s (t+4)/\Fr S.F w w')\/
  ((∃T a,e= .returned (.tuple #[.int .i64 0,.iface T (.pointer (some a))])/\dO S w' T a (¬qM s t))/\S.KE w'/\Fr S.F w w'):=by
 have b:ah (qM s t↔oU s t/\0<aT s t):=Iff.rfl;obtain⟨Q,j⟩:∃Q:Prop,Q=qM s t:=⟨_,rfl⟩;rw[<-j]at b|-;clear j;have l:=KA S hS s t w hK m;have o:ah (oU s t->aT s t<=2147483647):=(fun h=>h.2:_->_);generalize aT s t=n at*;go_enter func176,ntmps176
 go_wp2_with fail
 refine l.mono ?_;clear l;rintro e w1 (⟨c,rfl,d,f⟩|⟨⟨T,a,rfl,c⟩,d,f⟩)
 ·have x:=o.out c;have p:ah _:=c;clear c;by_cases q:n=0
  ·subst q;have r:ah (¬Q):=(fun g=>by have:=(b.out.1 g).2;omega:¬_);go_wp2_with fail
   refine(dJ _ _).mono ?_;rintro e w3 ⟨rfl,rfl⟩;go_wp2_with fail
   go_ret2;exact .inr ⟨⟨_,_,rfl,dO.ve r.out⟩,hS.qK (hS.ke d) (fun k u=>aj _ _ k u),f.alloc _⟩
  ·have i:ah Q:=(b.out.2 ⟨p.out,by omega⟩:Q);have y:((n:Int)==0)=false:=by rw[ax];omega
   go_wp2_with fail
   go_ret2;exact .inl ⟨i.out,rfl,d,f⟩
 ·have v:dO S w1 T a (¬Q):=c.imp (fun c g=>c (b.out.1 g).1);clear c;go_wp2_with fail
  go_ret2;exact .inr ⟨⟨T,a,rfl,v⟩,d,f⟩
def vZ(s:ByteArray)(t:Nat):Prop:=t+2<=s.size/\vC (aA s (t+1)) (aA s t)=true
theorem ZU(k d:Nat)(h:vC k d=true):vC 0 d=true:=by
 unfold vC at h|-;by_cases b:d=1\/d=2\/d=4
 ·rw[aC b];rfl
 ·rw[au b]at h|-;by_cases h8:d=8
  ·rw[aC h8];decide
  ·rw[au h8]at h|-;by_cases a:d=16
   ·rw[aC a];decide
   ·rw[au a]at h;cases h
theorem ZV(S:Src)(hS:S.Ok)(s:ByteArray)(t:Nat)(w:af)(hK:S.K w s t)(A:t<=s.size):
 aF prog 177 #[.iface S.T (.pointer (some S.a))] w fun e w'=>
  (vZ s t/\e= .returned (.tuple #[.int .i64 ((aA s t:Nat):Int),.int .u8 ((aA s (t+1):Nat):Int),.nilIface])/\S.K w' s (t+2)/\Fr S.F w w')\/
  ((∃T a,e= .returned (.tuple #[.int .i64 0,.int .u8 0,.iface T (.pointer (some a))])/\dO S w' T a (¬vZ s t))/\S.KE w'/\Fr S.F w w'):=by
 have c:ah (vZ s t↔t+2<=s.size/\vC (aA s (t+1)) (aA s t)=true):=Iff.rfl;obtain⟨Q,y⟩:∃Q:Prop,Q=vZ s t:=⟨_,rfl⟩;rw[<-y]at c|-;clear y;have B:=dH s t;have C:=dH s (t+1);have z:=hS.one w s t hK A;have i:=fun w' D E=>hS.one w' s (t+1) D E;have o:ah (vC (aA s (t+1)) (aA s t)=true->vC 0 (aA s t)=true):=ZU _ _;have p:=fun w'=>EE 0 (aA s t) w' (by omega) (by omega);have q:=fun w'=>EE (aA s (t+1)) (aA s t) w' (by omega) (by omega);generalize aA s t=d at*;generalize aA s (t+1)=k at*;generalize vC k d=G at*;generalize vC 0 d=H at*;go_enter func177,ntmps177
 go_wp2_with fail
 refine z.mono ?_;clear z;rintro e w1 (⟨g,rfl,l,h⟩|⟨x0,T,a,rfl,g,l,h⟩);rotate_left
 ·have r:dO S w1 T a (¬Q):=g.imp (fun g f=>g (by have:=(c.out.1 f).1;omega));clear g;go_wp2_with fail
  go_ret3
  exact .inr ⟨⟨T,a,rfl,r⟩,l,h⟩
 go_wp2_with fail
 refine(p _).mono ?_;rintro e I ⟨rfl,b⟩;have b:=b.symm;subst b;cases H with
 |false=>
  have u:ah (¬Q):=(fun f=>by have:=o.out (c.out.1 f).2;exact Bool.noConfusion this:¬_);go_wp2_with fail
  refine(dJ _ _).mono ?_;rintro e w3 ⟨rfl,rfl⟩;go_wp2_with fail
  go_ret3
  exact .inr ⟨⟨_,_,rfl,dO.ve u.out⟩,hS.qK (hS.ke l) (fun k v=>aj _ _ k v),h.alloc _⟩
 |true=>
  go_wp2_with fail
  refine(i _ l g).mono ?_;clear i;rintro e w2 (⟨j,rfl,m,n⟩|⟨x0,T,a,rfl,j,m,n⟩);rotate_left
  ·have r:dO S w2 T a (¬Q):=j.imp (fun j f=>j (by have:=(c.out.1 f).1;omega));clear j;go_wp2_with fail
   go_ret3
   exact .inr ⟨⟨T,a,rfl,r⟩,m,h.trans n⟩
  go_wp2_with fail
  refine(q _).mono ?_;rintro e I ⟨rfl,b⟩;have b:=b.symm;subst b;cases G with
  |false=>
   have u:ah (¬Q):=(fun f=>Bool.noConfusion (c.out.1 f).2:¬_);go_wp2_with fail
   refine(dJ _ _).mono ?_;rintro e w3 ⟨rfl,rfl⟩;go_wp2_with fail
   go_ret3
   exact .inr ⟨⟨_,_,rfl,dO.ve u.out⟩,hS.qK (hS.ke m) (fun k v=>aj _ _ k v),(h.trans n).alloc _⟩
  |true=>
   have x:ah Q:=(c.out.2 ⟨by omega,rfl⟩:Q);go_wp2_with fail
   go_ret3
   exact .inl ⟨x.out,rfl,m,h.trans n⟩
def v_(s:ByteArray)(t:Nat):Prop:=t+1<=s.size/\aA s t<=1
theorem ZW(S:Src)(hS:S.Ok)(s:ByteArray)(t:Nat)(w:af)(hK:S.K w s t)(n:t<=s.size):
 aF prog 178 #[.iface S.T (.pointer (some S.a))] w fun e w'=>
  (v_ s t/\e= .returned (.tuple #[.bool (decide (aA s t=1)),.nilIface])/\S.K w' s (t+1)/\Fr S.F w w')\/
  ((∃T a,e= .returned (.tuple #[.bool false,.iface T (.pointer (some a))])/\dO S w' T a (¬v_ s t))/\S.KE w'/\Fr S.F w w'):=by
 have b:ah (v_ s t↔t+1<=s.size/\aA s t<=1):=Iff.rfl;obtain⟨Q,l⟩:∃Q:Prop,Q=v_ s t:=⟨_,rfl⟩;rw[<-l]at b|-;clear l;have o:=dH s t;have m:=hS.one w s t hK n;generalize aA s t=d at*;go_enter func178,ntmps178
 go_wp2_with fail
 refine m.mono ?_;clear m;rintro e w1 (⟨c,rfl,g,h⟩|⟨x0,T,a,rfl,c,g,h⟩);rotate_left
 ·have p:dO S w1 T a (¬Q):=c.imp (fun c j=>c (by have:=(b.out.1 j).1;omega));clear c;go_wp2_with fail
  go_ret2;exact .inr ⟨⟨T,a,rfl,p⟩,g,h⟩
 have i:ah (t+1<=s.size):=c;clear c;rcases(by omega:d=0\/d=1\/1<d)with rfl|rfl|hd
 ·have f:ah Q:=(b.out.2 ⟨i.out,by omega⟩:Q);go_wp2_with fail
  go_ret2;exact .inl ⟨f.out,rfl,g,h⟩
 ·have f:ah Q:=(b.out.2 ⟨i.out,by omega⟩:Q);go_wp2_with fail
  go_ret2;exact .inl ⟨f.out,rfl,g,h⟩
 ·have q:ah (¬Q):=(fun j=>by have:=(b.out.1 j).2;omega:¬_);go_wp2_with fail
  refine(dJ _ _).mono ?_;rintro e w3 ⟨rfl,rfl⟩;go_wp2_with fail
  go_ret2;exact .inr ⟨⟨_,_,rfl,dO.ve q.out⟩,hS.qK (hS.ke g) (fun k r=>aj _ _ k r),h.alloc _⟩
def qX(W H D K:Nat)(I:Bool):ay:= .agg #[.int .i64 (W:Int),.int .i64 (H:Int),.int .i64 (D:Int),.int .u8 (K:Int),.bool I]
def DK:ByteArray:=⟨#[0,0]⟩
def DL(s:ByteArray)(t:Nat):Prop:=qM s t/\qM s (t+4)/\vZ s (t+8)/\Match s (t+10) DK/\v_ s (t+12)
def vO(W H D K:Nat)(I:Bool):Array ay:= #[.int .i64 (W:Int),.int .i64 (H:Int),.int .i64 (D:Int),.int .u8 (K:Int),.bool I]
structure PI(S:Src)(w0 w:af)(rb hb:Nat)(W H D K:Nat)(I:Bool):Prop where
 r:w.heap[rb]?=some (.cells (vO 0 0 0 0 false) 221 (0,0))
 h:w.heap[hb]?=some (.cells (vO W H D K I) 221 (0,0))
 nr:¬S.F rb
 nh:¬S.F hb
 ne:rb≠hb
 br:S.base<=rb
 bh:S.base<=hb
 VF:w0.heap.size<=rb
 oh:w0.heap.size<=hb
 fr:Fr S.F w0 w
theorem PI.src{S:Src}{w0 w w':af}{rb hb W H D K:Nat}{I:Bool}(h:PI S w0 w rb hb W H D K I)(a:Fr S.F w w'):PI S w0 w' rb hb W H D K I:=
 ⟨(a.block rb (ai h.r) h.nr).trans h.r,(a.block hb (ai h.h) h.nh).trans h.h,h.nr,h.nh,h.ne,h.br,h.bh,h.VF,h.oh,h.fr.trans a⟩
theorem PI.set{S:Src}{w0 w:af}{rb hb W H D K W' H' D' K':Nat}{I I':Bool}(h:PI S w0 w rb hb W H D K I)(i:Nat)(v:ay)(a:(vO W H D K I).setIfInBounds i v=vO W' H' D' K' I'):PI S w0 (w.setCell ⟨hb,i,none⟩ v) rb hb W' H' D' K' I':=
 ⟨(aB i v h.ne).trans h.r,(bG h.h i v).trans (by rw[a]),h.nr,h.nh,h.ne,h.br,h.bh,h.VF,h.oh,h.fr.eF hb i h.oh v⟩
theorem PI.k{S:Src}(hS:S.Ok){w0 w:af}{rb hb W H D K:Nat}{I:Bool}{s:ByteArray}{t:Nat}(h:PI S w0 w rb hb W H D K I)(i:Nat)(v:ay)(a:S.K w s t):S.K (w.setCell ⟨hb,i,none⟩ v) s t:=
 hS.iJ a (fun k a=>aB i v (fun e=>a.elim (fun a=>h.nh (e▸a)) (fun a=>by have:=h.bh;omega)))
theorem PI.cells{S:Src}{w0 w:af}{rb hb W H D K:Nat}{I:Bool}(h:PI S w0 w rb hb W H D K I):
 (w.cell? ⟨hb,0,none⟩=some (.int .i64 (W:Int))/\w.cell? ⟨hb,1,none⟩=some (.int .i64 (H:Int))/\w.cell? ⟨hb,2,none⟩=some (.int .i64 (D:Int))/\w.cell? ⟨hb,3,none⟩=some (.int .u8 (K:Int))/\w.cell? ⟨hb,4,none⟩=some (.bool I))/\(∀i,w.frozen? ⟨hb,i,none⟩=false)/\
 (w.cell? ⟨rb,0,none⟩=some (.int .i64 0)/\w.cell? ⟨rb,1,none⟩=some (.int .i64 0)/\w.cell? ⟨rb,2,none⟩=some (.int .i64 0)/\w.cell? ⟨rb,3,none⟩=some (.int .u8 0)/\w.cell? ⟨rb,4,none⟩=some (.bool false))/\(∀i,w.frozen? ⟨rb,i,none⟩=false):=
 ⟨⟨by simpa [vO]using(cell_of h.h 0).1,by simpa [vO]using(cell_of h.h 1).1,by simpa [vO]using(cell_of h.h 2).1,by simpa [vO]using(cell_of h.h 3).1,by simpa [vO]using(cell_of h.h 4).1⟩,fun i=>(cell_of h.h i).2,⟨by simpa [vO]using(cell_of h.r 0).1,by simpa [vO]using(cell_of h.r 1).1,by simpa [vO]using(cell_of h.r 2).1,by simpa [vO]using(cell_of h.r 3).1,by simpa [vO]using(cell_of h.r 4).1⟩,fun i=>(cell_of h.r i).2⟩
theorem PI.out{S:Src}(hS:S.Ok){w0 w:af}{rb hb W H D K:Nat}{I:Bool}(h:PI S w0 w rb hb W H D K I)(v0 v1 v2 b v4:ay):
 Fr S.F w0 (((((w.setCell ⟨rb,0,none⟩ v0).setCell ⟨rb,1,none⟩ v1).setCell ⟨rb,2,none⟩ v2).setCell ⟨rb,3,none⟩ b).setCell ⟨rb,4,none⟩ v4)/\
 ∀k,k≠rb->(((((w.setCell ⟨rb,0,none⟩ v0).setCell ⟨rb,1,none⟩ v1).setCell ⟨rb,2,none⟩ v2).setCell ⟨rb,3,none⟩ b).setCell ⟨rb,4,none⟩ v4).heap[k]?=w.heap[k]?:=
 ⟨((((h.fr.eF rb 0 h.VF v0).eF rb 1 h.VF v1).eF rb 2 h.VF v2).eF rb 3 h.VF b).eF rb 4 h.VF v4,fun k a=>(aB 4 _ a).trans ((aB 3 _ a).trans ((aB 2 _ a).trans ((aB 1 _ a).trans (aB 0 _ a))))⟩
theorem PI.start{S:Src}(hS:S.Ok)(w:af)(a:S.KE w):PI S w ((w.alloc (.cells (vO 0 0 0 0 false) 221)).alloc (.cells (vO 0 0 0 0 false) 221)) w.heap.size (w.heap.size+1) 0 0 0 0 false:=by
 have hb:=hS.hb a;refine⟨?_,?_,fun e=>by have:=hS.lt a e;omega,fun e=>by have:=hS.lt a e;omega,by omega,hb,by omega,ag _,by omega,((Fr.refl _ w).alloc _).alloc _⟩
 ·rw[aj _ _ _ (by simp)];exact(dR w _).1
 ·have:=(dR (w.alloc (.cells (vO 0 0 0 0 false) 221)) (.cells (vO 0 0 0 0 false) 221)).1;rw[qh]at this;exact this
theorem PI.fin{S:Src}(hS:S.Ok){w0 w w':af}{rb hb W H D K:Nat}{I:Bool}(h:PI S w0 w rb hb W H D K I)(e:∀k,k≠rb->k≠hb->w'.heap[k]?=w.heap[k]?):
 (∀T a P,dO S w T a P->dO S w' T a P)/\(S.KE w->S.KE w')/\∀s t,S.K w s t->S.K w' s t:=by
 have b:∀k,S.F k\/k<S.base->w'.heap[k]?=w.heap[k]?:=fun k b=>e k (fun e=>b.elim (fun b=>h.nr (e▸b)) (fun b=>by have:=h.br;omega)) (fun e=>b.elim (fun b=>h.nh (e▸b)) (fun b=>by have:=h.bh;omega));refine⟨fun T a P hw=>hw.over (fun k cur f b=>e k (fun e=> ?_) (fun e=> ?_)),fun h=>hS.qH h b,fun s t h=>hS.iJ h b⟩
 ·rw[e,h.r]at b;simp at b
 ·rw[e,h.h]at b;simp at b
theorem Xx(S:Src)(hS:S.Ok)(s:ByteArray)(t:Nat)(w:af)(hK:S.K w s t)(ht:t<=s.size):
 aF prog 147 #[.iface S.T (.pointer (some S.a))] w fun e w'=>
  (DL s t/\e= .returned (.tuple #[qX (aT s t) (aT s (t+4)) (aA s (t+8)) (aA s (t+9)) (decide (aA s (t+12)=1)),.nilIface])/\S.K w' s (t+13)/\Fr S.F w w')\/
  ((∃T a,e= .returned (.tuple #[qX 0 0 0 0 false,.iface T (.pointer (some a))])/\dO S w' T a (¬DL s t))/\S.KE w'/\Fr S.F w w'):=by
 have u:ah (DL s t↔qM s t/\qM s (t+4)/\vZ s (t+8)/\Match s (t+10) DK/\v_ s (t+12)):=Iff.rfl;obtain⟨Q,hQ⟩:∃Q:Prop,Q=DL s t:=⟨_,rfl⟩;rw[<-hQ]at u|-;clear hQ;have x:=PI.start hS w (hS.ke hK);have a6:=hS.Pv hK (w':=(w.alloc (.cells (vO 0 0 0 0 false) 221)).alloc (.cells (vO 0 0 0 0 false) 221)) (fun k hk=>(aj _ _ k (by simp;omega)).trans (aj w _ k hk));have a7:(w.alloc (.cells (vO 0 0 0 0 false) 221)).alloc (.cells (vO 0 0 0 0 false) 221)=(w.alloc (.cells #[.int .i64 0,.int .i64 0,.int .i64 0,.int .u8 0,.bool false] 221)).alloc (.cells #[.int .i64 0,.int .i64 0,.int .i64 0,.int .u8 0,.bool false] 221):=rfl;rw[a7]at x a6;clear a7;go_enter func147,ntmps147
 go_wp2_with fail
 generalize (w.alloc (.cells #[.int .i64 0,.int .i64 0,.int .i64 0,.int .u8 0,.bool false] 221)).alloc (.cells #[.int .i64 0,.int .i64 0,.int .i64 0,.int .u8 0,.bool false] 221)=w0 at*;generalize w.heap.size+1=hb at*;generalize d2:w.heap.size=rb at*;have a8:=x.ne;have d1:=r_ a8;refine(PG S hS s t _ a6 ht).mono ?_;rintro e w1 (⟨i,rfl,j,l⟩|⟨⟨T,a,rfl,i⟩,j,l⟩);rotate_left
 ·have f:=x.src l;have R:dO S w1 T a (¬Q):=i.imp (fun q U=>q (u.out.1 U).1);obtain⟨⟨y,z,A,C,D⟩,g,⟨m,n,o,p,r⟩,bf⟩:=f.cells;have x0:=bf 0;have x1:=bf 1;have x2:=bf 2;have x3:=bf 3;have x4:=bf 4;have L:=g 0;have M:=g 1;have N:=g 2;have O:=g 3;have E:=g 4;have V:ah (S.KE w1):=j;clear i g bf j;go_wp2_with fail
  refine aI (v:= .tuple #[qX 0 0 0 0 false,.iface T (.pointer (some a))]) (by simp[results,results147,go_sem,qX,m,n,o,p,r]) rfl ?_;obtain⟨G,H⟩:=(f.set 0 (.int .i64 0) rfl).out hS (.int .i64 0) (.int .i64 0) (.int .i64 0) (.int .u8 0) (.bool false);obtain⟨u1,u2,u3⟩:=f.fin hS (fun k I P=>(H k I).trans (aB 0 _ P));exact .inr ⟨⟨T,a,rfl,u1 _ _ _ R⟩,u2 V.out,G⟩
 have f:=x.src l;have H1:ah (qM s t):=i;have a9:t+4<=s.size:=i.1.1;clear i l x;obtain⟨⟨y,z,A,C,D⟩,g,⟨m,n,o,p,r⟩,bf⟩:=f.cells;have L:=g 0;have M:=g 1;have N:=g 2;have O:=g 3;have E:=g 4;clear g bf m n o p r;have b5:=f.k hS 0 (.int .i64 ((aT s t:Nat):Int)) j;have X:=f.set (W':=aT s t) (H':=0) (D':=0) (K':=0) (I':=false) 0 (.int .i64 ((aT s t:Nat):Int)) rfl;clear f j;go_wp2_with fail
 clear y z A C D L M N O E;generalize w1.setCell ⟨hb,0,none⟩ (.int .i64 ((aT s t:Nat):Int))=v1 at*;refine(PG S hS s (t+4) _ b5 a9).mono ?_;rintro e w2 (⟨i,rfl,j,l⟩|⟨⟨T,a,rfl,i⟩,j,l⟩);rotate_left
 ·have f:=X.src l;have R:dO S w2 T a (¬Q):=i.imp (fun q U=>q (u.out.1 U).2.1);obtain⟨⟨y,z,A,C,D⟩,g,⟨m,n,o,p,r⟩,bf⟩:=f.cells;have x0:=bf 0;have x1:=bf 1;have x2:=bf 2;have x3:=bf 3;have x4:=bf 4;have L:=g 0;have M:=g 1;have N:=g 2;have O:=g 3;have E:=g 4;have V:ah (S.KE w2):=j;clear i g bf j;go_wp2_with fail
  refine aI (v:= .tuple #[qX 0 0 0 0 false,.iface T (.pointer (some a))]) (by simp[results,results147,go_sem,qX,m,n,o,p,r]) rfl ?_;obtain⟨G,H⟩:=(f.set 1 (.int .i64 0) rfl).out hS (.int .i64 0) (.int .i64 0) (.int .i64 0) (.int .u8 0) (.bool false);obtain⟨u1,u2,u3⟩:=f.fin hS (fun k I P=>(H k I).trans (aB 1 _ P));exact .inr ⟨⟨T,a,rfl,u1 _ _ _ R⟩,u2 V.out,G⟩
 have f:=X.src l;have H2:ah (qM s (t+4)):=i;have b6:t+4+4<=s.size:=i.1.1;clear i l X;obtain⟨⟨y,z,A,C,D⟩,g,⟨m,n,o,p,r⟩,bf⟩:=f.cells;have L:=g 0;have M:=g 1;have N:=g 2;have O:=g 3;have E:=g 4;clear g bf m n o p r;have b7:=f.k hS 1 (.int .i64 ((aT s (t+4):Nat):Int)) j;have Y:=f.set (W':=aT s t) (H':=aT s (t+4)) (D':=0) (K':=0) (I':=false) 1 (.int .i64 ((aT s (t+4):Nat):Int)) rfl;clear f j;go_wp2_with fail
 clear y z A C D L M N O E;generalize w2.setCell ⟨hb,1,none⟩ (.int .i64 ((aT s (t+4):Nat):Int))=v2 at*;refine(ZV S hS s (t+8) _ b7 b6).mono ?_;rintro e w3 (⟨i,rfl,j,l⟩|⟨⟨T,a,rfl,i⟩,j,l⟩);rotate_left
 ·have f:=Y.src l;have R:dO S w3 T a (¬Q):=i.imp (fun q U=>q (u.out.1 U).2.2.1);obtain⟨⟨y,z,A,C,D⟩,g,⟨m,n,o,p,r⟩,bf⟩:=f.cells;have x0:=bf 0;have x1:=bf 1;have x2:=bf 2;have x3:=bf 3;have x4:=bf 4;have L:=g 0;have M:=g 1;have N:=g 2;have O:=g 3;have E:=g 4;have V:ah (S.KE w3):=j;clear i g bf j;go_wp2_with fail
  refine aI (v:= .tuple #[qX 0 0 0 0 false,.iface T (.pointer (some a))]) (by simp[results,results147,go_sem,qX,m,n,o,p,r]) rfl ?_;obtain⟨G,H⟩:=((f.set 2 (.int .i64 0) rfl).set 3 (.int .u8 0) rfl).out hS (.int .i64 0) (.int .i64 0) (.int .i64 0) (.int .u8 0) (.bool false);obtain⟨u1,u2,u3⟩:=f.fin hS (fun k I P=>(H k I).trans ((aB 3 _ P).trans (aB 2 _ P)));exact .inr ⟨⟨T,a,rfl,u1 _ _ _ R⟩,u2 V.out,G⟩
 have f:=Y.src l;have H3:ah (vZ s (t+8)):=i;have b8:t+8+2<=s.size:=i.1;clear i l Y;obtain⟨⟨y,z,A,C,D⟩,g,⟨m,n,o,p,r⟩,bf⟩:=f.cells;have L:=g 0;have M:=g 1;have N:=g 2;have O:=g 3;have E:=g 4;clear g bf m n o p r;have W:=f.k hS 2 (.int .i64 ((aA s (t+8):Nat):Int)) j;have J:=f.set (W':=aT s t) (H':=aT s (t+4)) (D':=aA s (t+8)) (K':=0) (I':=false) 2 (.int .i64 ((aA s (t+8):Nat):Int)) rfl;have b9:=J.k hS 3 (.int .u8 ((aA s (t+9):Nat):Int)) W;have Z:=J.set (W':=aT s t) (H':=aT s (t+4)) (D':=aA s (t+8)) (K':=aA s (t+9)) (I':=false) 3 (.int .u8 ((aA s (t+9):Nat):Int)) rfl;clear f j W J;go_wp2_with fail
 clear y z A C D L M N O E;generalize (w3.setCell ⟨hb,2,none⟩ (.int .i64 ((aA s (t+8):Nat):Int))).setCell ⟨hb,3,none⟩ (.int .u8 ((aA s (t+9):Nat):Int))=v3 at*;have hE:=fun c3=>AY S hS s DK c3 (t+10) v3 b9 b8 (by decide);have c4:DK.size=2:=rfl;rw[c4]at hE;have HM:ah (Match s (t+10) DK->t+12<=s.size):=(fun h=>h.1:_->_);have c5:ah (Q->Match s (t+10) DK):=(fun h=>(u.out.1 h).2.2.2.1:_->_);have c6:ah (qM s t->qM s (t+4)->vZ s (t+8)->Match s (t+10) DK->v_ s (t+12)->Q):=(fun a b c d e=>u.out.2 ⟨a,b,c,d,e⟩:_->_);have c7:ah (Q->v_ s (t+12)):=(fun h=>(u.out.1 h).2.2.2.2:_->_);generalize Match s (t+10) DK=MM at*;unfold DK at hE;refine(hE _).mono ?_;clear hE;rintro e w4 (⟨i,rfl,j,l⟩|⟨⟨T,a,rfl,i⟩,j,l⟩);rotate_left
 ·have f:=Z.src l;have R:dO S w4 T a (¬Q):=i.imp (fun q U=>q (c5.out U));obtain⟨⟨y,z,A,C,D⟩,g,⟨m,n,o,p,r⟩,bf⟩:=f.cells;have x0:=bf 0;have x1:=bf 1;have x2:=bf 2;have x3:=bf 3;have x4:=bf 4;have L:=g 0;have M:=g 1;have N:=g 2;have O:=g 3;have E:=g 4;have V:ah (S.KE w4):=j;clear i g bf j;go_wp2_with fail
  refine aI (v:= .tuple #[qX 0 0 0 0 false,.iface T (.pointer (some a))]) (by simp[results,results147,go_sem,qX,m,n,o,p,r]) rfl ?_;obtain⟨G,H⟩:=f.out hS (.int .i64 0) (.int .i64 0) (.int .i64 0) (.int .u8 0) (.bool false);obtain⟨u1,u2,u3⟩:=f.fin hS (fun k I _=>H k I);exact .inr ⟨⟨T,a,rfl,u1 _ _ _ R⟩,u2 V.out,G⟩
 have f:=Z.src l;have H4:ah MM:=i;have c8:t+12<=s.size:=HM.out i;clear i l Z;go_wp2_with fail
 refine(ZW S hS s (t+12) _ j c8).mono ?_;rintro e w5 (⟨i,rfl,k1,k2⟩|⟨⟨T,a,rfl,i⟩,j,l⟩);rotate_left
 ·have f:=f.src l;have R:dO S w5 T a (¬Q):=i.imp (fun q U=>q (c7.out U));obtain⟨⟨y,z,A,C,D⟩,g,⟨m,n,o,p,r⟩,bf⟩:=f.cells;have x0:=bf 0;have x1:=bf 1;have x2:=bf 2;have x3:=bf 3;have x4:=bf 4;have L:=g 0;have M:=g 1;have N:=g 2;have O:=g 3;have E:=g 4;have V:ah (S.KE w5):=j;clear i g bf j;go_wp2_with fail
  refine aI (v:= .tuple #[qX 0 0 0 0 false,.iface T (.pointer (some a))]) (by simp[results,results147,go_sem,qX,m,n,o,p,r]) rfl ?_;obtain⟨G,H⟩:=(f.set 4 (.bool false) rfl).out hS (.int .i64 0) (.int .i64 0) (.int .i64 0) (.int .u8 0) (.bool false);obtain⟨u1,u2,u3⟩:=f.fin hS (fun k I P=>(H k I).trans (aB 4 _ P));exact .inr ⟨⟨T,a,rfl,u1 _ _ _ R⟩,u2 V.out,G⟩
 have a5:=f.src k2;have c9:ah Q:=(c6.out H1.out H2.out H3.out H4.out i:Q);clear i j k2 f;obtain⟨⟨y,z,A,C,D⟩,g,⟨m,n,o,p,r⟩,bf⟩:=a5.cells;have E:=g 4;have x0:=bf 0;have x1:=bf 1;have x2:=bf 2;have x3:=bf 3;have x4:=bf 4;have d0:ah (S.K w5 s (t+12+1)):=k1;clear g bf k1;generalize hB:decide (aA s (t+12)=1)=B at*;have HB:ah _:=hB;clear hB;go_wp2_with fail
 refine aI (v:= .tuple #[qX (aT s t) (aT s (t+4)) (aA s (t+8)) (aA s (t+9)) B,.nilIface]) (by simp[results,results147,go_sem,qX,m,n,o,p,r]) rfl ?_;obtain⟨G,H⟩:=(a5.set (W':=aT s t) (H':=aT s (t+4)) (D':=aA s (t+8)) (K':=aA s (t+9)) (I':=B) 4 (.bool B) rfl).out hS (.int .i64 ((aT s t:Nat):Int)) (.int .i64 ((aT s (t+4):Nat):Int)) (.int .i64 ((aA s (t+8):Nat):Int)) (.int .u8 ((aA s (t+9):Nat):Int)) (.bool B);obtain⟨u1,u2,u3⟩:=a5.fin hS (fun k I P=>(H k I).trans (aB 4 _ P));exact .inl ⟨c9.out,by rw[HB.out],u3 _ _ d0.out,G⟩
end Pr
end Go.Proofs.YtephkcdbnogdhaaGreatDoor
