import Derived.ChangeArms
import Derived.ChangeAt
import Derived.ChangeShapes
import Derived.ChangeSlices
import Derived.OpenShut
import Derived.SizedLaws
import Derived.WideShapes
import Derived.Test.YtephkcdbnogdhaaGreatDoorM12
import Derived.Test.YtephkcdbnogdhaaGreatDoorM13
set_option linter.unusedVariables false
set_option maxHeartbeats 40000000
set_option maxRecDepth 10000
namespace Go.Proofs.YtephkcdbnogdhaaGreatDoor
open Go.Proofs.Tryz
open Go renaming World->af,Value->ay,Calls->aF,TypeId->aY,Addr->bP
open Go.RowKit renaming Hid->ah,Below->aJ
namespace h_
open Go.RowKit Rf
open Pr (wJ)
theorem ig.at{w:af}{v:ay}{X:List Nat}(h:ig w v X)(hp:0<X.length):∃g cap,v= .slice (some ⟨g,0,none⟩) X.length cap/\g<w.heap.size/\∀j,j<X.length->w.cell? ⟨g,j,none⟩=some (.int .i64 ((X.getD j 0:Nat):Int)):=by
 obtain⟨la,cap,rfl,b⟩:=h;obtain⟨g,e,c,_⟩:=b 0 hp;subst e;refine⟨g,cap,rfl,c,fun j d=> ?_⟩;obtain⟨i,a,_,f⟩:=b j d;injection a with a
 injection a with a
 subst a;exact f
instance (tr:ByteArray) (X:List Nat) (i:Nat):Decidable (BN tr X i):=inferInstanceAs (Decidable (_=_))
theorem SG(W H D K I:Nat)(pl tr da:ByteArray)(pb tb:Bool)(o:ay)(X:List Nat)(w:af)(q:ig w o X)(hlen:X.length=fB K)(hK:K=0\/K=2\/K=3\/K=4\/K=6)(hb:∀x∈X,x<=65535)(b:1<=D)(hD:D<=16)
 (ql:pl.size<=140737488354000) (d:tr.size<=140737488354000) (h3:K=3->pl.size%3=0) (yj:(K=0\/K=2)->tb=true->tr.size=2*fB K):
 aF prog 101 #[nV W H D K I pl tr pb tb da,o] w fun e w'=>SC w e w' (wJ K D pl tr tb X)/\aJ w.heap.size w w':=by
 have a:∀j,j<X.length->X.getD j 0<=65535:=fun j p=>by rw[ak,aG p];exact hb _ (xm p)
 have hp:0<X.length:=by rw[hlen];rcases hK with rfl|rfl|rfl|rfl|rfl<;>decide
 obtain⟨g,cap,rfl,f,k⟩:=q.at hp;rcases hK with rfl|rfl|rfl|rfl|rfl
 ·have h:=BO W H D 0 I pl tr da pb tb X g cap (if tb=true/\∀i,i<X.length->BN tr X i then 0 else 65535) w (.inl ⟨rfl,hlen⟩) k f a b hD (fun e=>by rw[yj (.inl rfl) e,hlen]) (fun h=>aC h) (fun h=>au h);have e:wJ 0 D pl tr tb X=some (di (X.getD 0 0) D,di (X.getD 0 0) D,di (X.getD 0 0) D,if tb=true/\∀i,i<X.length->BN tr X i then 0 else 65535):=by
   unfold wJ;rw[au (by decide),au (by decide),au (by decide),aC rfl];rfl
  rw[e];rw[aC rfl]at h;exact h
 ·have h:=BO W H D 2 I pl tr da pb tb X g cap (if tb=true/\∀i,i<X.length->BN tr X i then 0 else 65535) w (.inr ⟨rfl,hlen⟩) k f a b hD (fun e=>by rw[yj (.inr rfl) e,hlen]) (fun h=>aC h) (fun h=>au h);have e:wJ 2 D pl tr tb X=some (di (X.getD 0 0) D,di (X.getD 1 0) D,di (X.getD 2 0) D,if tb=true/\∀i,i<X.length->BN tr X i then 0 else 65535):=by
   unfold wJ;rw[au (by decide),au (by decide),au (by decide),au (by decide)];rfl
  rw[e];rw[au (by decide)]at h;exact h
 ·have l:X.length=1:=hlen;obtain⟨x0,rfl⟩:∃x0,X=[x0]:=by
   match X,l with
   | [x0],_=>exact⟨_,rfl⟩
  exact MH W H D I pl tr da pb tb x0 g cap w (k 0 (by simp)) f (a 0 (by simp)) ql d (h3 rfl)
 ·have l:X.length=2:=hlen;obtain⟨x0,c,rfl⟩:∃x0 c,X=[x0,c]:=by
   match X,l with
   | [x0,c],_=>exact⟨_,_,rfl⟩
  exact OJ W H D I pl tr da pb tb x0 c g cap w k f (a 0 (by simp)) (a 1 (by simp)) b hD
 ·have l:X.length=4:=hlen;obtain⟨x0,c,m,n,rfl⟩:∃x0 c m n,X=[x0,c,m,n]:=by
   match X,l with
   | [x0,c,m,n],_=>exact⟨_,_,_,_,rfl⟩
  exact SE W H D I pl tr da pb tb x0 c m n g cap w k f (a 0 (by simp)) (a 1 (by simp)) (a 2 (by simp)) (a 3 (by simp)) b hD
end h_
namespace h_
open Go.RowKit Rf Cr
theorem lV{B:Nat}{a w:af}(h:aJ B a w)(b o:Nat)(hb:B<=b)(v:ay):aJ B a (w.setCell ⟨b,o,none⟩ v):=
 ⟨h.os,h.tape,h.output,by simp;exact h.size,fun k c=>(Pr.aB o v (by omega)).trans (h.block k c)⟩
def MR(e:Ending):Prop:=∃c1 c2 z,e= .returned (.tuple #[.agg #[.string c1,.string c2],.int .i64 z,.bool false])
theorem TE(s:ByteArray)(p:Nat)(w:af)(hp:p<=281474976710656)(hs:s.size<=140737488354000)(h:s.size<p+12):
 aF prog 51 #[.string s,.int .i64 (p:Int)] w fun e w'=>MR e/\aJ w.heap.size w w':=by
 have hi:(s.size:Int)<(p:Int)+12:=by omega
 go_enter func51,ntmps51
 go_wp2_with fail
 refine aI (v:= .tuple #[.agg #[.string ByteArray.empty,.string ByteArray.empty],.int .i64 0,.bool false]) (by simp[results,results51,go_sem];rfl) rfl ?_;exact⟨⟨_,_,_,rfl⟩,(aP w.heap.size w).alloc (ag _) _⟩
theorem Xt(s:ByteArray)(p:Nat)(w:af)(hs:s.size<=140737488354000)(h:p+12<=s.size)(hb:2147483647<aT s p\/s.size<p+12+aT s p):
 aF prog 51 #[.string s,.int .i64 (p:Int)] w fun e w'=>MR e/\aJ w.heap.size w w':=by
 have hi:¬((s.size:Int)<(p:Int)+12):=by omega
 have hF:=fun w'=>yH (s.extract p s.size) w' (by simp;omega);rw[su]at hF;have f:=fV s p;have ql:p<=s.size:=by omega
 generalize aT s p=n at*;have b:ah _:=hF;clear hF;rcases bU 2147483647 n with c|c
 ·have a:(2147483647:Int)<(n:Int):=by omega
  clear hb;go_enter func51,ntmps51
  go_wp2_with fail
  refine bz (b.out _) ?_;rintro e w1 ⟨rfl,nq,rfl⟩;go_wp2_with fail
  refine aI (v:= .tuple #[.agg #[.string ByteArray.empty,.string ByteArray.empty],.int .i64 0,.bool false]) (by simp[results,results51,go_sem];rfl) rfl ?_;exact⟨⟨_,_,_,rfl⟩,lV (lV (kW.cZ ((aP w.heap.size w).alloc (ag _) _)) _ _ (ag _) _) _ _ (ag _) _⟩
 ·have a:¬((2147483647:Int)<(n:Int)):=by omega
  have d:(s.size:Int)<(p:Int)+12+(n:Int):=by omega
  clear hb;go_enter func51,ntmps51
  go_wp2_with fail
  refine bz (b.out _) ?_;rintro e w1 ⟨rfl,nq,rfl⟩;go_wp2_with fail
  refine aI (v:= .tuple #[.agg #[.string ByteArray.empty,.string ByteArray.empty],.int .i64 0,.bool false]) (by simp[results,results51,go_sem];rfl) rfl ?_;exact⟨⟨_,_,_,rfl⟩,lV (lV (kW.cZ ((aP w.heap.size w).alloc (ag _) _)) _ _ (ag _) _) _ _ (ag _) _⟩
end h_
namespace Pr
open Go.RowKit Rf
open h_ (iT uq)
theorem GG{w:af}{g i j:Nat}{v x:ay}(h:w.cell? ⟨g,i,none⟩=some x)(c:i≠j):(w.setCell ⟨g,j,none⟩ v).cell? ⟨g,i,none⟩=some x:=by have:=World.cell?_setCell_other (w:=w) (a:=⟨g,j,none⟩) (b:=⟨g,i,none⟩) (v:=v) (fun e=>c (by cases e;rfl));rw[this];exact h
theorem TG(rb b:Nat)(w:af)(c:w.cell? ⟨rb,9,none⟩=some (.int .i64 0))(hb:b<=255)(d:4<b):
 aF prog 218 #[.pointer (some ⟨rb,6,none⟩),.int .u8 (b:Int)] w fun e w'=> ∃a,e= .returned (.iface 142 (.pointer (some a)))/\aJ w.heap.size w w':=by
 go_enter func218,ntmps218
 go_wp2_with fail
 refine(dJ _ _).mono ?_;rintro e w1 ⟨rfl,rfl⟩;go_wp2_with fail
 go_ret;exact⟨_,rfl,(aP w.heap.size w).alloc (ag _) _⟩
theorem GH(rb d b:Nat)(fv:ay)(w:af)(c:w.cell? ⟨rb,6,none⟩=some (.int .i64 (d:Int)))(f:w.cell? ⟨rb,9,none⟩=some (.int .i64 0))(a:w.cell? ⟨rb,10,none⟩=some fv)(g:∀i,w.frozen? ⟨rb,i,none⟩=false)(h:b<=4):
 aF prog 218 #[.pointer (some ⟨rb,6,none⟩),.int .u8 (b:Int)] w fun e w'=>e= .returned .nilIface/\w'=(w.setCell ⟨rb,10,none⟩ (.int .u8 (b:Int))).setCell ⟨rb,9,none⟩ (.int .i64 (d:Int)):=by
 go_enter func218,ntmps218
 go_wp2_with fail
 go_ret;exact⟨rfl,rfl⟩
theorem MZ(rb d n cap g t l f b g7 g8 x y z:Nat)(u:ay)(w:af)(J:w.cell? ⟨rb,6,none⟩=some (.int .i64 (d:Int)))(B:w.cell? ⟨rb,7,none⟩=some (.slice (some ⟨g7,0,none⟩) n cap))(C:w.cell? ⟨rb,8,none⟩=some (.slice (some ⟨g8,0,none⟩) n g))(D:w.cell? ⟨rb,9,none⟩=some (.int .i64 (t:Int)))(h:w.cell? ⟨rb,10,none⟩=some (.int .u8 (f:Int)))
 (E:∀i,w.frozen? ⟨rb,i,none⟩=false) (K:1<=d) (p:t=l+d) (L:t<n) (hn:n<=1000000000) (hx:w.cell? ⟨g7,l,none⟩=some (.int .u8 (x:Int))) (F:w.cell? ⟨g8,t,none⟩=some (.int .u8 (y:Int))) (G:w.cell? ⟨g8,l,none⟩=some (.int .u8 (z:Int)))
 (bf:f<=255) (bb:b<=255) (M:x<=255) (r:y<=255) (N:z<=255) (H:w.cell? ⟨g7,t,none⟩=some u) (j:w.frozen? ⟨g7,t,none⟩=false) (o:rb≠g7) (I:g8≠g7):
 aF prog 218 #[.pointer (some ⟨rb,6,none⟩),.int .u8 (b:Int)] w fun e w'=>e= .returned .nilIface/\∃nq,w'=((w.setCell ⟨g7,t,none⟩ (.int .u8 (((b+iT f x y z)%256:Nat):Int))).setCell ⟨rb,9,none⟩ (.int .i64 ((t+1:Nat):Int))).drewN nq:=by
 have O:=fun w'=>Xy f x y z w' bf M r N
 generalize iT f x y z=q at*;obtain⟨V,s⟩:∃V,V=(b+q)%256:=⟨_,rfl⟩;rw[<-s];have P:ah _:=s;clear s;have Q:IntKind.u8.wrap ((b:Int)+(q:Int))=(V:Int):=by rw[IntKind.wrap_u8,P.out];omega
 have R:(t:Int)-(d:Int)=(l:Int):=by omega
 have d0:((t:Int)==0)=false:=by rw[ax];omega
 have S:l<n:=by omega
 have k:l≠t:=by omega
 clear p;go_enter func218,ntmps218
 go_wp2_with fail
 go_quiet (fail)
 go_wp2_with fail
 obtain⟨c,a⟩:∃c,c=w.drewN nq:=⟨_,rfl⟩;rw[<-a];have T:c.cell? ⟨rb,7,none⟩=some (.slice (some ⟨g7,0,none⟩) n cap):=by rw[a];exact B
 have U:c.cell? ⟨rb,8,none⟩=some (.slice (some ⟨g8,0,none⟩) n g):=by rw[a];exact C
 have W:c.cell? ⟨rb,9,none⟩=some (.int .i64 (t:Int)):=by rw[a];exact D
 have A:c.cell? ⟨rb,10,none⟩=some (.int .u8 (f:Int)):=by rw[a];exact h
 have X:c.cell? ⟨g7,l,none⟩=some (.int .u8 (x:Int)):=by rw[a];exact hx
 have Y:c.cell? ⟨g8,t,none⟩=some (.int .u8 (y:Int)):=by rw[a];exact F
 have Z:c.cell? ⟨g8,l,none⟩=some (.int .u8 (z:Int)):=by rw[a];exact G
 have kc:c.cell? ⟨g7,t,none⟩=some u:=by rw[a];exact H
 have kf:c.frozen? ⟨g7,t,none⟩=false:=by rw[a];exact j
 have kr:∀i,c.frozen? ⟨rb,i,none⟩=false:=fun i=>by rw[a];exact E i
 have m:ah _:=a;have hS:∀v,(c.setCell ⟨g7,t,none⟩ v).cell? ⟨rb,7,none⟩=some (.slice (some ⟨g7,0,none⟩) n cap)/\(c.setCell ⟨g7,t,none⟩ v).cell? ⟨rb,8,none⟩=some (.slice (some ⟨g8,0,none⟩) n g)/\(c.setCell ⟨g7,t,none⟩ v).cell? ⟨rb,9,none⟩=some (.int .i64 (t:Int))/\(c.setCell ⟨g7,t,none⟩ v).cell? ⟨rb,10,none⟩=some (.int .u8 (f:Int))/\(c.setCell ⟨g7,t,none⟩ v).cell? ⟨g7,l,none⟩=some (.int .u8 (x:Int))/\(c.setCell ⟨g7,t,none⟩ v).cell? ⟨g8,t,none⟩=some (.int .u8 (y:Int))/\(c.setCell ⟨g7,t,none⟩ v).cell? ⟨g8,l,none⟩=some (.int .u8 (z:Int)):=fun v=>⟨(aV (aB _ _ o)).trans T,(aV (aB _ _ o)).trans U,(aV (aB _ _ o)).trans W,(aV (aB _ _ o)).trans A,GG X k,(aV (aB _ _ I)).trans Y,(aV (aB _ _ I)).trans Z⟩
 clear a J B C D h hx F G H j E k
 go_region_held3 (fun w'=>w'.cell? ⟨rb,7,none⟩=some (.slice (some ⟨g7,0,none⟩) n cap)/\w'.cell? ⟨rb,8,none⟩=some (.slice (some ⟨g8,0,none⟩) n g)/\w'.cell? ⟨rb,9,none⟩=some (.int .i64 (t:Int))/\w'.cell? ⟨rb,10,none⟩=some (.int .u8 (f:Int))/\w'.cell? ⟨g7,l,none⟩=some (.int .u8 (x:Int))/\w'.cell? ⟨g8,t,none⟩=some (.int .u8 (y:Int))/\w'.cell? ⟨g8,l,none⟩=some (.int .u8 (z:Int))) (first|go_keep|exact hS _) (first
  |(go_at_call 237;refine(O _).mono ?_;rintro e w3 ⟨rfl,rfl⟩))
 all_goals
  go_wp2_with fail
  go_ret
  first
   |(refine⟨rfl,nq+1,?_⟩;rw[m.out];rfl)
   |(refine⟨rfl,nq+1,?_⟩;rw[m.out,Int.natCast_add];rfl)
end Pr
namespace h_
open Go.RowKit Rf
theorem Rx(x:Nat)(X:Int)(w:af)(a:X=(x:Int))(hx:x<256):(convert 45 9 (.slice (some ⟨w.heap.size,0,none⟩) 1 1)).run prog (w.alloc (.cells #[.int .u8 X] 5))= .ok (.string ⟨#[UInt8.ofNat x]⟩) (w.alloc (.cells #[.int .u8 X] 5)):=
 Pr.ad9 _ _ 1 [UInt8.ofNat x] (fun i hi=>by
  have hi:i<1:=hi;have b:i=0:=by omega
  subst b;have:=World.cell?_alloc_mark w #[.int .u8 X] 5 (0,0) 0;refine this.trans ?_;show some (Value.int .u8 X)=some (.int .u8 (((UInt8.ofNat x).toNat:Nat):Int));rw[tN,a,show x%2^8=x from iH hx])
def pq(d:Nat):ByteArray:=if 10<=d then⟨#[32,49]⟩++⟨#[UInt8.ofNat (48+d%10)]⟩++⟨#[32]⟩else⟨#[32]⟩++⟨#[UInt8.ofNat (48+d)]⟩++⟨#[32]⟩
theorem JF(d:Nat)(w:af)(hd:d<20):
 aF prog 93 #[.int .i64 (d:Int)] w fun e w'=>e= .returned (.string (pq d))/\aJ w.heap.size w w':=by
 obtain⟨V,f⟩:∃V,V=pq d:=⟨_,rfl⟩;rw[<-f];have g:ah _:=f;clear f;by_cases b:10<=d
 ·have hi:(10:Int)<=(d:Int):=by omega
  have h:=Rx (48+d%10) (48+(d:Int)%10) w (by omega) (by omega);have a:ah (V=⟨#[32,49]⟩++⟨#[UInt8.ofNat (48+d%10)]⟩++⟨#[32]⟩):=(by rw[g.out];unfold pq;rw[aC b]:_=_);generalize UInt8.ofNat (48+d%10)=c at*;go_enter func93,ntmps93
  go_wp2_with fail
  go_ret;exact⟨by rw[a.out];rfl,(aP w.heap.size w).alloc (ag _) _⟩
 ·have hi:¬((10:Int)<=(d:Int)):=by omega
  have h:=Rx (48+d) (48+(d:Int)) w (by omega) (by omega);have a:ah (V=⟨#[32]⟩++⟨#[UInt8.ofNat (48+d)]⟩++⟨#[32]⟩):=(by rw[g.out];unfold pq;rw[au b]:_=_);generalize UInt8.ofNat (48+d)=c at*;go_enter func93,ntmps93
  go_wp2_with fail
  go_ret;exact⟨by rw[a.out];rfl,(aP w.heap.size w).alloc (ag _) _⟩
end h_
namespace Pr
open Go.RowKit Rf
open h_ (RZ pq)
def uZ(K:Nat):ByteArray:=[⟨#[32,49,32,50,32,52,32,56,32,49,54,32]⟩,⟨#[]⟩,⟨#[32,56,32,49,54,32]⟩,⟨#[32,49,32,50,32,52,32,56,32]⟩,⟨#[32,56,32,49,54,32]⟩,⟨#[]⟩,⟨#[32,56,32,49,54,32]⟩].getD K ⟨#[]⟩
def inL(l s:List UInt8):Bool:=(List.range (l.length+1)).any fun i=>decide (i+s.length<=l.length)&&((l.drop i).take s.length==s)
theorem Ry(l s:ByteArray):RZ l s↔inL l.data.toList s.data.toList=true:=by
 have a:∀i,l.extract i (i+s.size)=s↔((l.data.toList.drop i).take s.data.toList.length==s.data.toList)=true:=fun i=>by
  rw[iV];have e:(l.extract i (i+s.size)).data.toList=(l.data.toList.drop i).take s.size:=by rw[fG,ni,jU,show i+s.size-i=s.size by omega]
  have hs:s.data.toList.length=s.size:=by simp
  rw[hs,<-e];constructor
  ·intro h;rw[h]
  ·intro h;have b:(l.extract i (i+s.size)).data=s.data:=Array.toList_inj.1 h;cases s;cases c:l.extract i (i+_);rw[c]at b;exact gY _ b
 have d:l.data.toList.length=l.size:=by simp
 have hs:s.data.toList.length=s.size:=by simp
 unfold RZ inL;rw[List.any_eq_true];constructor
 ·rintro⟨i,f,b⟩;exact⟨i,List.mem_range.2 (by omega),by rw[gQ];exact⟨aZ (by omega),(a i).1 b⟩⟩
 ·rintro⟨i,_,h⟩;rw[gQ]at h;exact⟨i,by have:=nS h.1;omega,(a i).2 h.2⟩
theorem Rz:∀K,K<7->∀D,D<17->inL (uZ K).data.toList (pq D).data.toList=vC K D:=by decide
end Pr
namespace Pr
open Go.RowKit Rf Cr
open h_ (aT RZ pq)
def headD(d:ByteArray):Prop:=aA d 9<7/\aA d 8<17/\RZ (uZ (aA d 9)) (pq (aA d 8))/\(0<aT d 0/\0<aT d 4/\aT d 0<=2147483647/\aT d 4<=2147483647)/\aA d 10=0/\aA d 11=0/\aA d 12<2
end Pr
namespace Rf
theorem abY(L:List Int)(i:Nat):∀m k,(∀j,j<i->k+j<L.length/\L.getD (k+j) 0=0)->qm L (m+i) k=qm L m (k+i):=by
 induction i with
 |zero=>intro m k _;rfl
 |succ i b=>intro m k h;obtain⟨c,a⟩:=h 0 (by omega);rw[eH]at c a;rw[show m+(i+1)=(m+i)+1 by omega,qm,au (by omega),a,au (by omega),aC rfl,b m (k+1) (fun j d=>by have:=h (j+1) (by omega);rw[show k+(j+1)=k+1+j by omega]at this;exact this),show k+1+i=k+(i+1)by omega]
theorem adP(L:List Int)(i k:Nat)(hi:i<=100)(h:∀j,j<i->k+j<L.length/\L.getD (k+j) 0=0):qm L 101 k=qm L (100-i+1) (k+i):=by have:=abY L i (100-i+1) k h;rw[show 100-i+1+i=101 by omega]at this;exact this
def aef(L:List Int):Prop:=∀k,∃a,qm L 101 k=some a
theorem IX{L:List Int}(h:aef L)(t:Nat):∃k,jJ L t=some k:=by
 induction t with
 |zero=>exact⟨0,rfl⟩
 |succ t a=>obtain⟨k,b⟩:=a;rw[jJ,b];exact h k
structure Dc(L:List Int)(e:Nat):Prop where
 Di:e<=100
 run:∀k,k<=L.length->∃i,i<=100/\(∀j,j<i->k+j<L.length/\L.getD (k+j) 0=0)/\((k+i=L.length/\i<=e)\/(k+i<L.length/\0<L.getD (k+i) 0))
theorem Dc.nil:Dc [] 0:=⟨by omega,fun k a=>⟨0,by omega,fun j b=>by omega,.inl ⟨by simp at a;simp[a],ag _⟩⟩⟩
theorem mZ(L:List Int)(n:Int)(j:Nat):(L++[n]).getD j 0=if j<L.length then L.getD j 0 else if j=L.length then n else 0:=by
 simp only[List.getD_eq_getElem?_getD];by_cases h:j<L.length
 ·rw[aC h,dh h]
 ·rw[au h,dw (by omega)];by_cases a:j=L.length
  ·rw[aC a,a];simp
  ·rw[au a,fE (by simp;omega)];rfl
theorem Dc.more{L:List Int}{e:Nat}(h:Dc L e){n:Int}(d:0<n):Dc (L++[n]) 0:=by
 refine⟨by omega,fun k f=> ?_⟩;rw[bQ,kD]at f|-;by_cases g:k<=L.length
 ·obtain⟨i,l,m,h3⟩:=h.run k g;refine⟨i,l,fun j c=> ?_,.inr ?_⟩
  ·obtain⟨a,b⟩:=m j c;exact⟨by omega,by rw[mZ,aC a];exact b⟩
  ·rcases h3 with⟨a,b⟩|⟨a,b⟩
   ·exact⟨by omega,by rw[mZ,au (by omega),aC a];exact d⟩
   ·exact⟨by omega,by rw[mZ,aC a];exact b⟩
 ·exact⟨0,by omega,fun j c=>by omega,.inl ⟨by omega,ag _⟩⟩
theorem Dc.zero{L:List Int}{e:Nat}(h:Dc L e)(he:e+1<=100):Dc (L++[0]) (e+1):=by
 refine⟨he,fun k l=> ?_⟩;rw[bQ,kD]at l|-;by_cases m:k<=L.length
 ·obtain⟨i,n,g,h3⟩:=h.run k m;rcases h3 with⟨a,b⟩|⟨a,b⟩
  ·refine⟨i+1,by omega,fun j f=> ?_,.inl ⟨by omega,by omega⟩⟩;rcases(by omega:j<i\/j=i)with f|rfl
   ·obtain⟨c,d⟩:=g j f;exact⟨by omega,by rw[mZ,aC c];exact d⟩
   ·exact⟨by omega,by rw[mZ,au (by omega),aC a]⟩
  ·refine⟨i,n,fun j f=> ?_,.inr ⟨by omega,by rw[mZ,aC a];exact b⟩⟩;obtain⟨c,d⟩:=g j f;exact⟨by omega,by rw[mZ,aC c];exact d⟩
 ·exact⟨0,by omega,fun j f=>by omega,.inl ⟨by omega,by omega⟩⟩
theorem Dc.aeg{L:List Int}{e:Nat}(h:Dc L e):aef L:=by
 intro k;by_cases c:k<=L.length
 ·obtain⟨i,d,f,h3⟩:=h.run k c;rw[adP L i k d f,qm];rcases h3 with⟨a,b⟩|⟨a,b⟩
  ·exact⟨_,aC (by omega)⟩
  ·rw[au (by omega),au (by omega),au (by omega)];exact⟨_,rfl⟩
 ·exact⟨k,by rw[show(101:Nat)=100+1 from rfl,qm,aC (by omega)]⟩
structure Ou(L:List Int)(i e sure:Nat):Prop where
 le:e<=i
 Di:e<=100
 pos:jJ L sure=some (i-e)
 run:∀j,i-e<=j->j<i->L.getD j 0=0
theorem Ou.start(L:List Int):Ou L 0 0 0:=⟨by omega,by omega,rfl,fun j _ h=>by omega⟩
theorem Ou.ask{L:List Int}{i e sure:Nat}(h:Ou L i e sure)(hi:i<L.length):jJ L (sure+1)=qm L (100-e+1) i:=by rw[jJ,h.pos];show qm L 101 (i-e)=_;have a:=h.le;rw[adP L e (i-e) h.Di (fun j b=>⟨by omega,h.run _ (by omega) (by omega)⟩),show i-e+e=i by omega]
theorem Ou.more{L:List Int}{i e sure:Nat}(h:Ou L i e sure)(hi:i<L.length)(c:0<L.getD i 0):Ou L (i+1) 0 (sure+1):=by refine⟨by omega,by omega,?_,fun j a b=>by omega⟩;rw[h.ask hi,qm,au (by omega),au (by omega),au (by omega)];rfl
theorem Ou.zero{L:List Int}{i e sure:Nat}(h:Ou L i e sure)(hi:i<L.length)(c:L.getD i 0=0)(he:e+1<=100):Ou L (i+1) (e+1) sure:=by
 have f:=h.le;refine⟨by omega,he,by rw[h.pos];congr 1;omega,fun j a b=> ?_⟩;rcases(by omega:j<i\/j=i)with d|rfl
 ·exact h.run j (by omega) d
 ·exact c
theorem Ou.fail{L:List Int}{i e sure:Nat}(h:Ou L i e sure)(hi:i<L.length)(a:L.getD i 0<0):jJ L (sure+1)=none:=by rw[h.ask hi,qm,au (by omega),aC a]
theorem Ou.afx{L:List Int}{i e sure:Nat}(h:Ou L i e sure)(hi:i<L.length)(a:L.getD i 0=0)(he:100<e+1):jJ L (sure+1)=none:=by
 have:=h.Di;obtain rfl:e=100:=by omega
 rw[h.ask hi,qm,au (by omega),au (by omega),aC a];rfl
theorem adQ{L:List Int}{t s:Nat}(h:∃k,jJ L s=some k)(b:t<=s):∃k,jJ L t=some k:=by
 cases hp:jJ L t with
 |none=>have:=wP L t (s-t) hp;rw[show t+(s-t)=s by omega]at this;obtain⟨k,a⟩:=h;rw[this]at a;cases a
 |some k=>exact⟨k,rfl⟩
theorem afR(L:List Int)(k:Nat)(h:L.length<=k):qm L 101 k=some k:=by rw[show(101:Nat)=100+1 from rfl,qm,aC h]
theorem Ou.done{L:List Int}{i e sure:Nat}(h:Ou L i e sure)(hi:i=L.length)(t:Nat):∃k,jJ L t=some k:=by
 have f:=h.le;have a:jJ L (sure+1)=some L.length:=by rw[jJ,h.pos];show qm L 101 (i-e)=_;rw[adP L e (i-e) h.Di (fun j g=>⟨by omega,h.run _ (by omega) (by omega)⟩),show i-e+e=i by omega,qm,aC (by omega),hi]
 have b:∀d,jJ L (sure+1+d)=some L.length:=fun d=>by
  induction d with
  |zero=>exact a
  |succ d c=>rw[<-kF,jJ,c];exact afR L _ (ag _)
 exact adQ ⟨_,b t⟩ (by omega)
end Rf
open Go.ChangeShapes Go.WideShapes Go.ChangeAt Go.RowKit
theorem ab2:prog.cellsOf 3=1:=by kernel_rfl
theorem Vh{z:Int}(h:(Lit.int .i64 z).wf=true): -9223372036854775808<=z/\z<=9223372036854775807:=bounds_i64 h
set_option maxRecDepth 100000 in
theorem WE{H:Type}{enc:aY×ay->H}{W:af}{base:Nat}{v:ay}{d:DataW H}{ps:List MemPlace}(c:Value.okWide prog W .any base 29 v)(hd:DataW.Trod enc prog W 0 (fun _=>true) true 29 v d ps):
 ∃(la:Option bP) (n cap:Nat) (L:List Int),v= .slice la n cap/\L.length=n/\(∀i,i<n->∃a:bP,la=some a/\a.block<W.heap.size/\W.cell? (a.add i)=some (.int .i64 (L.getD i 0))/\ -9223372036854775808<=L.getD i 0/\L.getD i 0<=9223372036854775807)/\(n=0\/∃el sp:List (DataW H),d= .slice el sp/\el.length=n):=by
 obtain⟨g,p,f,rfl⟩:=okWide_slice underlying29 c;obtain⟨fuel,q⟩:=hd;have h:DataW.trod enc prog W 0 (fun _=>true) true fuel 29 [.slice g p f]=some (d,ps):=q;rcases open_ints underlying29 underlying3 ab2 h with⟨b,r⟩|⟨a,len,cap,zs,b,_,j,_,k,hx,l,hw⟩
 ·injection b with b _
  exact⟨none,0,0,[],b,rfl,fun i hi=>absurd hi (qw _),.inl rfl⟩
 ·injection b with b _
  have m:len<=zs.length:=by rw[k];simp;exact j
  refine⟨some a,len,cap,zs.take len,b,by simp;omega,fun i hi=>⟨a,rfl,?_,?_⟩,.inr ⟨_,_,gY Prod.fst hx,?_⟩⟩
  ·have:=l 0 (by omega);have o:=World.block_lt_of_cell? W _ this;rw[Pr.Cf]at o;exact o
  ·have e:(zs.take len).getD i 0=zs.getD i 0:=by
    simp only[List.getD_eq_getElem?_getD];rw[dU hi]
   rw[e];refine⟨l i (by omega),?_⟩;have hm:zs.getD i 0∈zs:=by rw[ak,aG (show i<zs.length by omega)];exact xm _
   exact Vh (hw _ hm)
  ·simp[lits];omega
end Go.Proofs.YtephkcdbnogdhaaGreatDoor
