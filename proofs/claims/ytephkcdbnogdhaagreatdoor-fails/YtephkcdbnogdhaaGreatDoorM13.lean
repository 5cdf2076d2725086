import Derived.Test.YtephkcdbnogdhaaGreatDoorM5
import Derived.Test.YtephkcdbnogdhaaGreatDoorM6
import Derived.Test.YtephkcdbnogdhaaGreatDoorM11
set_option linter.unusedVariables false
set_option maxHeartbeats 40000000
set_option maxRecDepth 10000
namespace Go.Proofs.YtephkcdbnogdhaaGreatDoor
open Go.Proofs.Tryz
open Go renaming World->af,Value->ay,Calls->aF,Addr->bP
open Go.RowKit renaming Hid->ah,Below->aJ,intOf->aX
namespace h_
open Go.RowKit Rf
def BN(tr:ByteArray)(X:List Nat)(i:Nat):Prop:=256*aA tr (2*i)+aA tr (2*i+1)=X.getD i 0
theorem BO(W H D K I:Nat)(pl tr da:ByteArray)(pb tb:Bool)(X:List Nat)(g cap cv:Nat)(w:af)(hK:(K=0/\X.length=1)\/(K=2/\X.length=3))(hc:∀j,j<X.length->w.cell? ⟨g,j,none⟩=some (.int .i64 ((X.getD j 0:Nat):Int)))(hg:g<w.heap.size)(hX:∀j,j<X.length->X.getD j 0<=65535)
 (a4:1<=D) (hD:D<=16) (yj:tb=true->tr.size=2*X.length) (E:(tb=true/\∀i,i<X.length->BN tr X i)->cv=0) (F:¬(tb=true/\∀i,i<X.length->BN tr X i)->cv=65535):
 aF prog 101 #[nV W H D K I pl tr pb tb da,.slice (some ⟨g,0,none⟩) X.length cap] w fun e w'=>SC w e w' (some (if K=0 then(di (X.getD 0 0) D,di (X.getD 0 0) D,di (X.getD 0 0) D,cv)else(di (X.getD 0 0) D,di (X.getD 1 0) D,di (X.getD 2 0) D,cv)))/\aJ w.heap.size w w':=by
 unfold nV;have d:ah _:=CF.start w W H D K I pl tr pb tb da g X hg hc;have G:ah (∀(x:Nat) w',x<=65535->aF prog 130 #[.int .i64 (x:Int),.int .i64 (D:Int)] w' fun e a5=>e= .returned (.int .u16 (di x D:Int))/\∃nq,a5=w'.drewN nq):=(fun x w' hx=>yI x D w' hx a4 hD:∀x w',_);have k3:((K:Int)==3)=false:=by rw[ax];omega
 have k4:((K:Int)==4)=false:=by rw[ax];omega
 have k6:((K:Int)==6)=false:=by rw[ax];omega
 have S:ah _:=E;have J:ah _:=F;have t:ah _:=hX;have a6:ah _:=yj;clear hc hg E F hX yj;have T:=t.out 0 (by omega);obtain⟨x0,z⟩:∃x,x=X.getD 0 0:=⟨_,rfl⟩;obtain⟨x1,L⟩:∃x,x=X.getD 1 0:=⟨_,rfl⟩;obtain⟨x2,M⟩:∃x,x=X.getD 2 0:=⟨_,rfl⟩;rw[<-z]at T;rw[<-z,<-L,<-M];have A:ah _:=z;have B:ah _:=L;have C:ah _:=M;clear z L M;obtain⟨n,hn⟩:∃n,n=X.length:=⟨_,rfl⟩;rw[<-hn]at hK|-;have r:ah _:=hn;clear hn;cases tb with
 |false=>
  have a7:cv=65535:=J.out (fun h=>by cases h.1);subst a7;rcases hK with⟨rfl,rfl⟩|⟨rfl,rfl⟩
  ·go_enter func101,ntmps101
   go_upto_region 1 with fail
   revert d;generalize (w.alloc _)=w1;intro d;obtain⟨l,m,o,p,q⟩:=CF.cells d.out;have zs:=CF.s d.out 0 (by rw[<-r.out];omega);rw[<-A.out]at zs;go_wp2_with fail
   refine bz (G.out x0 _ T) ?_;rintro e w2 ⟨rfl,nq,rfl⟩;have f:ah _:=CF.drew d.out nq;clear d;have d:ah _:=f.out;clear f l m o p q;revert d;generalize World.drewN _ nq=w1;intro d;obtain⟨l,m,o,p,q⟩:=CF.cells d.out;go_wp2_with fail
   refine aI (v:= .tuple #[.slice (some ⟨w1.heap.size,0,none⟩) 4 4,.bool true]) (by simp[results,results101,go_sem]) rfl ?_;exact pY d.out.bl
  ·have U:=t.out 1 (by rw[<-r.out];omega);have V:=t.out 2 (by rw[<-r.out];omega);rw[<-B.out]at U;rw[<-C.out]at V;go_enter func101,ntmps101
   go_upto_region 1 with fail
   revert d;generalize (w.alloc _)=w1;intro d;obtain⟨l,m,o,p,q⟩:=CF.cells d.out;have zs:=CF.s d.out 0 (by rw[<-r.out];omega);have N:=CF.s d.out 1 (by rw[<-r.out];omega);have O:=CF.s d.out 2 (by rw[<-r.out];omega);rw[<-A.out]at zs;rw[<-B.out]at N;rw[<-C.out]at O;go_wp2_with fail
   refine Qt.ji 16 (by kernel_rfl) (by kernel_rfl) ?_;simp only[List.take_succ_cons,List.take_zero,List.drop_succ_cons,List.drop_zero];repeat (go_big_quiet_step ((go_at_call 130;(first|exact g_ (G.out _ _ T)|exact g_ (G.out _ _ U)|exact g_ (G.out _ _ V)))))
   refine wpQuiet_nil ?_;intro _ P;obtain⟨nq,u⟩:=P;subst u;have f:ah _:=CF.drew d.out nq;clear d;have d:ah _:=f.out;clear f l m o p q;revert d;generalize World.drewN _ nq=w1;intro d;obtain⟨l,m,o,p,q⟩:=CF.cells d.out;go_wp2_with fail
   refine aI (v:= .tuple #[.slice (some ⟨w1.heap.size,0,none⟩) 4 4,.bool true]) (by simp[results,results101,go_sem]) rfl ?_;exact pY d.out.bl
 |true=>
  have yj:=a6.out rfl;have b5:n<=3:=by omega
  go_enter func101,ntmps101
  go_upto_region 1 with fail
  revert d;generalize (w.alloc _)=w1;intro d;obtain⟨l,m,o,p,q⟩:=CF.cells d.out;go_wp2_with fail
  clear l m o p q;go_loopw [7,10] (fun a8 iv wr=> ∃j c:Nat,j<=n/\iv= .int .i64 (j:Int)/\a8= .int .u16 (c:Int)/\((∀i,i<j->BN tr X i)->c=0)/\((¬ ∀i,i<j->BN tr X i)->c=65535)/\CF w wr W H D K I pl tr pb true da g X) (fun _ iv _=>n-(aX iv).toNat)
  case atStart=>exact⟨0,0,aU _,rfl,rfl,fun _=>rfl,fun h=>absurd (fun i hi=>absurd hi (qw i)) h,d.out⟩
  case round=>
   obtain⟨j,c,hj,rfl,rfl,Y,Z,a0⟩:=hrel;have a1:ah _:=Y;have a2:ah _:=Z;clear d Y Z;have d:ah _:=a0;clear a0;obtain⟨l,m,o,p,q⟩:=CF.cells d.out;by_cases a9:j<n
   ·obtain⟨k,hk⟩:∃k,k=2*j:=⟨_,rfl⟩;obtain⟨Q,a3⟩:∃Q,Q=k+1:=⟨_,rfl⟩;have b0:tr.size=2*n:=by rw[r.out];exact yj
    have n1:k<tr.size:=by omega
    have n2:Q<tr.size:=by omega
    have v0:IntKind.i64.wrap (2*(j:Int))=(k:Int):=by rw[bK];omega
    have v1:IntKind.i64.wrap ((k:Int)+1)=(Q:Int):=by rw[bK];omega
    have v2:2*(j:Int)=(k:Int):=by omega
    have v3:(k:Int)+1=(Q:Int):=by omega
    obtain⟨a,e1⟩:∃a,tr[k].toNat=a:=⟨_,rfl⟩;obtain⟨b,e2⟩:∃b,tr[Q].toNat=b:=⟨_,rfl⟩;have y:ah (BN tr X j↔256*a+b=X.getD j 0):=(by unfold BN;rw[<-hk,<-a3,dL tr k n1,dL tr Q n2,e1,e2]:_↔_);have zj:=CF.s d.out j (by rw[<-r.out];exact a9);have b6:a<256:=by rw[<-e1];exact BA _
    have b7:b<256:=by rw[<-e2];exact BA _
    obtain⟨x,hx⟩:∃x,x=X.getD j 0:=⟨_,rfl⟩;rw[<-hx]at zj y;clear b0 hk a3 hx;by_cases hq:256*a+b=x
    ·have b1:(256*(a:Int)+(b:Int) !=(x:Int))=false:=by rw[bn];omega
     have b2:256*(a:Int)+(b:Int)=(x:Int):=by omega
     have R:ah (BN tr X j):=y.out.2 hq;clear hq y;go_wp2_with fail
     go_quiet (fail)
     have f:ah _:=CF.drew d.out nq;clear d;have d:ah _:=f.out;clear f l m o p q;revert d;generalize World.drewN _ nq=w1;intro d;obtain⟨l,m,o,p,q⟩:=CF.cells d.out;go_wp2_with fail
     go_roundw
     case rel=>
      refine⟨j+1,c,by omega,by go_num,rfl,fun h=>a1.out (fun i hi=>h i (by omega)),fun h=>a2.out (fun h2=>h (fun i hi=> ?_)),d.out⟩;rcases bU i j with hh|hh
      ·exact h2 i hh
      ·rw[show i=j by omega];exact R.out
     case measure=>simp[aX];omega
    ·have b1:(256*(a:Int)+(b:Int) !=(x:Int))=true:=by rw[dG];omega
     have b2:¬(256*(a:Int)+(b:Int)=(x:Int)):=by omega
     have R:ah (¬BN tr X j):=(fun h=>hq (y.out.1 h):¬_);clear hq y;go_wp2_with fail
     go_quiet (fail)
     have f:ah _:=CF.drew d.out nq;clear d;have d:ah _:=f.out;clear f l m o p q;revert d;generalize World.drewN _ nq=w1;intro d;obtain⟨l,m,o,p,q⟩:=CF.cells d.out;go_wp2_with fail
     go_roundw
     case rel=>exact⟨j+1,65535,by omega,by go_num,rfl,fun h=>absurd (h j (by omega)) R.out,fun _=>rfl,d.out⟩
     case measure=>simp[aX];omega
   ·have b3:j=n:=by omega
    have b4:c=cv:=by
     have e:=r.out;by_cases h:∀i,i<j->BN tr X i
     ·rw[a1.out h,S.out ⟨by trivial,fun i hi=>h i (by omega)⟩]
     ·rw[a2.out h,J.out (fun h2=>h (fun i hi=>h2.2 i (by omega)))]
    subst b4;subst b3;rcases hK with⟨rfl,rfl⟩|⟨rfl,rfl⟩
    ·have zs:=CF.s d.out 0 (by rw[<-r.out];omega);rw[<-A.out]at zs;go_wp2_with fail
     refine bz (G.out x0 _ T) ?_;rintro e w2 ⟨rfl,nq,rfl⟩;have f:ah _:=CF.drew d.out nq;clear d;have d:ah _:=f.out;clear f l m o p q;revert d;generalize World.drewN _ nq=w1;intro d;obtain⟨l,m,o,p,q⟩:=CF.cells d.out;go_wp2_with fail
     refine aI (v:= .tuple #[.slice (some ⟨w1.heap.size,0,none⟩) 4 4,.bool true]) (by simp[results,results101,go_sem]) rfl ?_;exact pY d.out.bl
    ·have U:=t.out 1 (by rw[<-r.out];omega);have V:=t.out 2 (by rw[<-r.out];omega);rw[<-B.out]at U;rw[<-C.out]at V;have zs:=CF.s d.out 0 (by rw[<-r.out];omega);have N:=CF.s d.out 1 (by rw[<-r.out];omega);have O:=CF.s d.out 2 (by rw[<-r.out];omega);rw[<-A.out]at zs;rw[<-B.out]at N;rw[<-C.out]at O;go_wp2_with fail
     refine Qt.ji 16 (by kernel_rfl) (by kernel_rfl) ?_;simp only[List.take_succ_cons,List.take_zero,List.drop_succ_cons,List.drop_zero];repeat (go_big_quiet_step ((go_at_call 130;(first|exact g_ (G.out _ _ T)|exact g_ (G.out _ _ U)|exact g_ (G.out _ _ V)))))
     refine wpQuiet_nil ?_;intro _ P;obtain⟨nq,u⟩:=P;subst u;have f:ah _:=CF.drew d.out nq;clear d;have d:ah _:=f.out;clear f l m o p q;revert d;generalize World.drewN _ nq=w1;intro d;obtain⟨l,m,o,p,q⟩:=CF.cells d.out;go_wp2_with fail
     refine aI (v:= .tuple #[.slice (some ⟨w1.heap.size,0,none⟩) 4 4,.bool true]) (by simp[results,results101,go_sem]) rfl ?_;exact pY d.out.bl
end h_
namespace Pr
open Go.RowKit Rf
open h_ (mg iT uq)
theorem Gz(a b:Int)(w:af)(f: -2000<=a)(g:a<=2000)(h: -2000<=b)(h3:b<=2000):
 aF prog 240 #[.int .i64 a,.int .i64 b] w fun e w'=>e= .returned (.int .i64 (mg a b))/\w'=w:=by
 obtain⟨V,c⟩:∃V,V=mg a b:=⟨_,rfl⟩;rw[<-c];have d:ah _:=c;clear c;go_enter func240,ntmps240
 go_wp2_with fail
 all_goals
  go_ret;refine⟨dP ?_,rfl⟩;rw[d.out];unfold mg;split<;>omega
theorem PK(l a c:Nat)(w:af)(t:l<=255)(u:a<=255)(v:c<=255):
 aF prog 239 #[.int .i64 (l:Int),.int .i64 (a:Int),.int .i64 (c:Int)] w fun e w'=>e= .returned (.int .u8 ((iT 4 l a c:Nat):Int))/\w'=w:=by
 have k:mg ((l:Int)+a-c) l=mg a c:=by unfold mg;split<;>split<;>omega
 have m:mg ((l:Int)+a-c) a=mg l c:=by unfold mg;split<;>split<;>omega
 have n:mg ((l:Int)+a-c) c=mg ((l:Int)+a) (2*(c:Int)):=by unfold mg;split<;>split<;>omega
 have b:iT 4 l a c=if mg a c<=mg l c/\mg a c<=mg ((l:Int)+a) (2*(c:Int))then l else if mg l c<=mg ((l:Int)+a) (2*(c:Int))then a else c:=by show(if _ then l else _)=_;rw[k,m,n];first|rfl|simp
 obtain⟨V,o⟩:∃V,V=iT 4 l a c:=⟨_,rfl⟩;rw[<-o]at b|-;clear o;have d:=Gz (a:Int) (c:Int) w (by omega) (by omega) (by omega) (by omega);have f:=Gz (l:Int) (c:Int) w (by omega) (by omega) (by omega) (by omega);have D3:=Gz ((l:Int)+a) (2*(c:Int)) w (by omega) (by omega) (by omega) (by omega);clear k m n;generalize mg (a:Int) c=p at*;generalize mg (l:Int) c=g at*;generalize mg ((l:Int)+a) (2*(c:Int))=i at*;have j:ah _:=b;clear b;by_cases q:p<=g
 ·by_cases r:p<=i
  ·go_enter func239,ntmps239
   go_wp2_with fail
   refine d.mono ?_;rintro e w1 ⟨rfl,hw⟩;have hw:=hw.symm;subst hw;go_wp2_with fail
   refine f.mono ?_;rintro e w1 ⟨rfl,hw⟩;have hw:=hw.symm;subst hw;go_wp2_with fail
   refine D3.mono ?_;rintro e w1 ⟨rfl,hw⟩;have hw:=hw.symm;subst hw;go_wp2_with fail
   go_ret;refine⟨dP ?_,rfl⟩;rw[j.out,aC ⟨q,r⟩]
  ·have s:¬g<=i:=by omega
   go_enter func239,ntmps239
   go_wp2_with fail
   refine d.mono ?_;rintro e w1 ⟨rfl,hw⟩;have hw:=hw.symm;subst hw;go_wp2_with fail
   refine f.mono ?_;rintro e w1 ⟨rfl,hw⟩;have hw:=hw.symm;subst hw;go_wp2_with fail
   refine D3.mono ?_;rintro e w1 ⟨rfl,hw⟩;have hw:=hw.symm;subst hw;go_wp2_with fail
   go_ret;refine⟨dP ?_,rfl⟩;rw[j.out,au (fun h=>by omega)];rw[au (by omega)]
 ·by_cases s:g<=i
  all_goals
   go_enter func239,ntmps239
   go_wp2_with fail
   refine d.mono ?_;rintro e w1 ⟨rfl,hw⟩;have hw:=hw.symm;subst hw;go_wp2_with fail
   refine f.mono ?_;rintro e w1 ⟨rfl,hw⟩;have hw:=hw.symm;subst hw;go_wp2_with fail
   refine D3.mono ?_;rintro e w1 ⟨rfl,hw⟩;have hw:=hw.symm;subst hw;go_wp2_with fail
   go_ret;refine⟨dP ?_,rfl⟩;rw[j.out,au (fun h=>by omega)];first|rw[aC (by omega)]|rw[au (by omega)]
theorem Xy(f l a c:Nat)(w:af)(p:f<=255)(g:l<=255)(h:a<=255)(i:c<=255):
 aF prog 237 #[.int .u8 (f:Int),.int .u8 (l:Int),.int .u8 (a:Int),.int .u8 (c:Int)] w fun e w'=>e= .returned (.int .u8 ((iT f l a c:Nat):Int))/\w'=w:=by
 have b:=PK l a c w g h i;have h3:iT 3 l a c=(l+a)/2:=rfl;rcases(by omega:f=1\/f=2\/f=3\/f=4\/(f≠1/\f≠2/\f≠3/\f≠4))with rfl|rfl|rfl|rfl|⟨j,k,m,n⟩
 ·go_enter func237,ntmps237
  go_wp2_with fail
  go_ret;exact⟨rfl,rfl⟩
 ·go_enter func237,ntmps237
  go_wp2_with fail
  go_ret;exact⟨rfl,rfl⟩
 ·have o:ah _:=h3;clear h3;go_enter func237,ntmps237
  go_wp2_with fail
  go_ret;refine⟨dP ?_,rfl⟩;rw[o.out];omega
 ·clear h3;generalize iT 4 l a c=V at*;go_enter func237,ntmps237
  go_wp2_with fail
  refine b.mono ?_;rintro e w1 ⟨rfl,hw⟩;have hw:=hw.symm;subst hw;go_wp2_with fail
  go_ret;exact⟨rfl,rfl⟩
 ·have d:iT f l a c=0:=by unfold iT;rw[au j,au k,au m,au n]
  rw[d];have q:((f:Int)==1)=false:=by rw[ax];omega
  have r:((f:Int)==2)=false:=by rw[ax];omega
  have d3:((f:Int)==3)=false:=by rw[ax];omega
  have s:((f:Int)==4)=false:=by rw[ax];omega
  clear d h3 b;go_enter func237,ntmps237
  go_wp2_with fail
  go_ret;exact⟨rfl,rfl⟩
def cO(e f t:Nat):Nat:=if e<=f then 0 else(e-f-1)/t+1
theorem jX(e f t:Nat)(w:af)(he:e<=4294967296)(g:f<=8)(d:t=1\/t=2\/t=4\/t=8):
 aF prog 214 #[.int .i64 (e:Int),.int .i64 (f:Int),.int .i64 (t:Int)] w fun x w'=>x= .returned (.int .i64 ((cO e f t:Nat):Int))/\w'=w:=by
 obtain⟨V,c⟩:∃V,V=cO e f t:=⟨_,rfl⟩;rw[<-c];have a:ah _:=c;clear c;by_cases h:e<=f
 ·have b:cO e f t=0:=by unfold cO;rw[aC h]
  rw[b]at a;rw[a.out];go_enter func214,ntmps214
  go_wp2_with fail
  go_ret;exact⟨rfl,rfl⟩
 ·have b:cO e f t=(e-f-1)/t+1:=by unfold cO;rw[au h]
  rw[b]at a;clear b;rcases d with rfl|rfl|rfl|rfl
  all_goals
   go_enter func214,ntmps214
   go_wp2_with fail
   go_ret;refine⟨dP ?_,rfl⟩;rw[a.out];omega
theorem Ap(W H D K:Nat)(I:Bool)(w:af)(hD:D<=16)(hK:K<=255):
 aF prog 186 #[qX W H D K I] w fun e w'=>e= .returned (.int .i64 ((D*bF K:Nat):Int))/\aJ w.heap.size w w':=by
 have a:bF K<=4:=by unfold bF;(repeat' split)<;>omega
 have hS:=fun w'=>Ci K w' hK;have hm:D*bF K<=16*4:=bT hD a;unfold qX;generalize bF K=n at*;have hmul:(D:Int)*(n:Int)=((D*n:Nat):Int):=by rw[Int.natCast_mul]
 generalize D*n=M at*;go_enter func186,ntmps186
 go_wp2_with fail
 go_quiet ((go_at_call 213;exact jB (hS _)))
 go_wp2_with fail
 go_ret;exact⟨rfl,kW.cZ ((aP _ _).alloc (ag _) _)⟩
end Pr
namespace Pr
open Go.RowKit Rf
theorem wo(rb t n cap:Nat)(la:Option bP)(w:af)(b:w.cell? ⟨rb,9,none⟩=some (.int .i64 (t:Int)))(c:w.cell? ⟨rb,7,none⟩=some (.slice la n cap)):
 aF prog 220 #[.pointer (some ⟨rb,6,none⟩)] w fun e w'=>e= .returned (.bool (decide (t=n)))/\∃nq,w'=w.drewN nq:=by
 by_cases h:t=n
 ·have hd:decide (t=n)=true:=aZ h;rw[hd];clear hd;subst h;go_enter func220,ntmps220
  go_wp2_with fail
  go_quiet (fail)
  go_wp2_with fail
  go_ret;exact⟨by first|rfl|simp,_,rfl⟩
 ·have hd:decide (t=n)=false:=aS h;rw[hd];clear hd;have a:((t:Int)==(n:Int))=false:=by rw[ax];omega
  go_enter func220,ntmps220
  go_wp2_with fail
  go_quiet (fail)
  go_wp2_with fail
  go_ret;exact⟨by first|rfl|simp[a]|(simp;omega),_,rfl⟩
theorem Nj(rb n cap a:Nat)(la lb:Option bP)(t:Int)(w:af)(b:w.cell? ⟨rb,7,none⟩=some (.slice la n cap))(c:w.cell? ⟨rb,8,none⟩=some (.slice lb n a))(d:w.cell? ⟨rb,9,none⟩=some (.int .i64 t))(f:∀i,w.frozen? ⟨rb,i,none⟩=false):
 aF prog 238 #[.pointer (some ⟨rb,6,none⟩)] w fun e w'=>e= .returned (.tuple #[])/\∃nq,w'=(((w.setCell ⟨rb,7,none⟩ (.slice lb n a)).setCell ⟨rb,8,none⟩ (.slice la n cap)).setCell ⟨rb,9,none⟩ (.int .i64 0)).drewN nq:=by
 go_enter func238,ntmps238
 go_wp2_with fail
 go_region
 all_goals
  go_wp2_with fail
  go_end0
  first
   |exact⟨rfl,1,rfl⟩
   |exact⟨rfl,_,rfl⟩
end Pr
namespace kW
open Go.RowKit Rf
theorem UJ(L:List Nat)(k:Nat)(h:k<L.length):L.take (k+1)=L.take k++[L.getD k 0]:=by rw[lN h];simp[List.getD,List.getElem?_eq_getElem h]
theorem sK(L:List Nat)(v0:ay)(w:af)(hI:jZ w v0 L)(hlen:L.length<=400):
 aF prog 120 #[v0] w fun e w'=>e= .returned (.bool (sD L))/\w'=w:=by
 obtain⟨g,off,cap,cur,rfl,p,a,d⟩:=hI;go_enter func120,ntmps120
 go_wp2
 go_loop [3,4] (fun c i=> ∃k x:Nat,k<=L.length/\x=wE (L.take k)/\x<=400/\c= .int .i64 x/\i= .int .i64 k) (fun _ i=>L.length-(aX i).toNat)
 case atStart=>exact⟨0,0,by omega,rfl,by omega,rfl,rfl⟩
 case round=>
  obtain⟨k,x,r,hx,l,rfl,rfl⟩:=hrel;by_cases f:k<L.length
  ·have m:w.cell? ⟨g,off+k,none⟩=some (.int .i64 ((L.getD k 0:Nat):Int)):=(iR a _).trans (d k f);have H:=OY (L.take k) (L.getD k 0);rw[<-UJ L k f,<-hx]at H;have h:=SV (L.take (k+1));have j:(L.take (k+1)).length<=400:=by rw[jl];omega
   generalize L.getD k 0=z at*;by_cases q:0<z
   ·rw[aC q]at H;have n:ah _:=H;have o:x+1<=400:=by omega
    clear hx H h j;go_wp2
    go_round
    case rel=>exact⟨k+1,x+1,by omega,n.out.symm,o,by go_num,by go_num⟩
    case measure=>simp[aX];omega
   ·rw[au q]at H;have n:ah _:=H;clear hx H h j;go_wp2
    go_round
    case rel=>exact⟨k+1,x,by omega,n.out.symm,l,by go_num,by go_num⟩
    case measure=>simp[aX];omega
  ·obtain rfl:k=L.length:=by omega
   have H:ah (sD L=(x==1)):=(by unfold sD;rw[hx,sS]:_=_);clear hx;go_wp2
   go_ret;exact⟨by rw[H.out];exact gY (fun b=>Ending.returned (Value.bool b)) (by rw[uB];simp;omega),rfl⟩
end kW
namespace h_
open Go.RowKit Rf
def YE(d:ByteArray)(D K:Nat):Prop:=d.size=2*fB K/\∀i,i<fB K->256*aA d (2*i)+aA d (2*i+1)<pw D
theorem IA(W H D K I:Nat)(pl tr da d:ByteArray)(pb tb:Bool)(B:Bool)(J:B=true↔YE d D K)(w:af)(hK:K=0\/K=2)(S:1<=D)(hD:D<=16)(hd:d.size<=140737488354000):
 aF prog 94 #[nV W H D K I pl tr pb tb da,.string d] w fun e w'=>e= .returned (.bool B)/\aJ w.heap.size w w':=by
 have hS:=fun w'=>vJ W H D K I w' (by omega);have L:=fun w'=>kW.uo D (D:Int) rfl w' (by omega);have T:pw D<=65536:=by unfold pw;exact(b_ (by omega) hD:2^D<=2^16)
 have U:fB K<=3:=by rcases hK with rfl|rfl<;>decide
 have f:ah (B=true↔d.size=2*fB K/\∀i,i<fB K->256*aA d (2*i)+aA d (2*i+1)<pw D):=(J:_↔_);have N:ah _:=L;have y:ah _:=hS;clear J hS L;unfold nV;unfold oQ at y;generalize fB K=n at*;generalize pw D=M at*;have k3:((K:Int)==3)=false:=by rw[ax];omega
 by_cases a:d.size=2*n;rotate_left
 ·have p:B=false:=by
   cases B
   ·rfl
   ·exact absurd (f.out.1 rfl).1 a
  subst p;have z:((d.size:Int) !=2*(n:Int))=true:=by rw[dG];omega
  clear a f;rcases hK with rfl|rfl
  all_goals
   go_enter func94,ntmps94
   go_wp2_with fail
   refine bz (y.out _) ?_;rintro e w1 ⟨rfl,b⟩;have g:ah (aJ w.heap.size w w1):=(gI ((aP w.heap.size w).alloc (ag _) _) (b.mono (by simp)):aJ _ _ _);clear b;go_wp2_with fail
   go_ret;exact⟨rfl,g.out⟩
 ·have z:((d.size:Int) !=2*(n:Int))=false:=by rw[bn];omega
  have t:ah _:=a;obtain⟨ds,V⟩:∃x,x=d.size:=⟨_,rfl⟩;clear a;rcases hK with rfl|rfl
  all_goals
   go_enter func94,ntmps94
   go_wp2_with fail
   refine bz (y.out _) ?_;rintro e w1 ⟨rfl,b⟩;have g:ah (aJ w.heap.size w w1):=(gI ((aP w.heap.size w).alloc (ag _) _) (b.mono (by simp)):aJ _ _ _);have O:w1.cell? ⟨w.heap.size,2,none⟩=some (.int .i64 (D:Int)):=by have:=(b.block w.heap.size (by simp)).trans (aO w _);simpa using(Pr.cell_of this 2).1
   have X:ah _:=O;clear b O;go_wp2_with fail
   go_loopw [5] (fun A wr=> ∃j nq k:Nat,j<=n/\k=2*j/\A= .int .i64 (k:Int)/\(∀k,k<j->256*aA d (2*k)+aA d (2*k+1)<M)/\wr=w1.drewN nq) (fun A _=>2*n-(aX A).toNat)
   case atStart=>exact⟨0,0,0,aU _,rfl,rfl,fun k s=>absurd s (qw k),rfl⟩
   case round=>
    obtain⟨j,C,k,hj,s,rfl,m,q⟩:=hrel;have a:=t.out;have o:ah _:=m;have r:ah _:=q;have c2:wr.cell? ⟨w.heap.size,2,none⟩=some (.int .i64 (D:Int)):=by rw[q];exact X.out
    clear m q;by_cases E:j<n
    ·obtain⟨c,u⟩:∃c,c=k+1:=⟨_,rfl⟩;have Y:(k:Int)<(d.size:Int):=by omega
     have b2:(c:Int)<(d.size:Int):=by omega
     have Z:k<d.size:=by omega
     have n2:c<d.size:=by omega
     have v1:IntKind.i64.wrap ((k:Int)+1)=(c:Int):=by rw[bK];omega
     have v2:(k:Int)+1=(c:Int):=by omega
     have P:ah (aA d (2*j)=d[k].toNat):=(by rw[<-s];exact dL d k Z:_=_);have Q:ah (aA d (2*j+1)=d[c].toNat):=(by rw[<-s,<-u];exact dL d c n2:_=_);have R:ah _:=s;clear a s u;have a0:d[k].toNat<256:=BA _;have a1:d[c].toNat<256:=BA _;by_cases l:256*d[k].toNat+d[c].toNat<M
     ·have v:¬((M:Int)<=256*(d[k].toNat:Int)+(d[c].toNat:Int)):=by omega
      have F:ah (256*aA d (2*j)+aA d (2*j+1)<M):=(by rw[P.out,Q.out];exact l:_<_);clear l;go_wp2_with fail
      go_quiet ((go_at_call 46;exact jB (N.out _)))
      go_wp2_with fail
      go_roundw
      case rel=>
       refine⟨j+1,C+nq,k+2,by omega,by have:=R.out;omega,by go_num,fun i hi=> ?_,by rw[r.out];simp[World.drewN,Nat.add_assoc]⟩;rcases bU i j with h|h
       ·exact o.out i h
       ·rw[show i=j by omega];exact F.out
      case measure=>have:=R.out;simp[aX];omega
     ·have v:(M:Int)<=256*(d[k].toNat:Int)+(d[c].toNat:Int):=by omega
      have p:B=false:=by
       cases B
       ·rfl
       ·have:=(f.out.1 rfl).2 j E;rw[P.out,Q.out]at this;exact absurd this l
      subst p;clear l;go_wp2_with fail
      go_quiet ((go_at_call 46;exact jB (N.out _)))
      go_wp2_with fail
      go_ret;exact⟨rfl,kW.cZ (by rw[r.out];exact kW.cZ g.out)⟩
    ·have e:j=n:=by omega
     subst e;have Y:¬((k:Int)<(d.size:Int)):=by omega
     have G:B=true:=f.out.2 ⟨t.out,o.out⟩;subst G;clear a;go_wp2_with fail
     go_ret;exact⟨rfl,by rw[r.out];exact kW.cZ g.out⟩
end h_
end Go.Proofs.YtephkcdbnogdhaaGreatDoor
