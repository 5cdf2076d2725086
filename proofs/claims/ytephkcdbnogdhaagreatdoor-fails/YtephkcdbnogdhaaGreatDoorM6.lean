import Derived.Test.YtephkcdbnogdhaaGreatDoorM2
import Derived.Test.YtephkcdbnogdhaaGreatDoorM3
set_option linter.unusedVariables false
set_option maxHeartbeats 40000000
set_option maxRecDepth 10000
namespace Go.Proofs.YtephkcdbnogdhaaGreatDoor
open Go.Proofs.Tryz
open Go renaming World->af,Value->ay,Calls->aF
open Go.RowKit renaming Hid->ah,Below->aJ,intOf->aX
namespace h_
open Go.RowKit Rf
def dX(I:Nat):List (Nat×Nat×Nat×Nat):=if I=0 then [(0,1,0,1)]else [(0,8,0,8),(4,8,0,8),(0,4,4,8),(2,4,0,4),(0,2,2,4),(1,2,0,2),(0,1,1,2)]
def rM(l:List (Nat×Nat×Nat×Nat)):List ay:=l.flatMap fun x=>[.int .i64 (x.1:Int),.int .i64 (x.2.1:Int),.int .i64 (x.2.2.1:Int),.int .i64 (x.2.2.2:Int)]
def Zf(w:af)(v:ay)(l:List (Nat×Nat×Nat×Nat)):Prop:=∃g,v= .slice (some ⟨g,0,none⟩) l.length l.length/\w.heap[g]?=some (.cells (rM l).toArray 169 (0,0))
theorem FM(W H D K I:Nat)(w:af)(hI:I<=1):
 aF prog 95 #[oQ W H D K I] w fun e w'=> ∃v,e= .returned v/\Zf w' v (dX I)/\aJ w.heap.size w w':=by
 unfold oQ;rcases(by omega:I=0\/I=1)with rfl|rfl
 ·go_enter func95,ntmps95
  go_wp2_with fail
  go_ret;refine⟨_,rfl,⟨w.heap.size+1,rfl,?_⟩,((aP _ _).alloc (ag _) _).alloc (by simp) _⟩;have:=(dR (w.alloc (.cells #[.int .i64 (W:Int),.int .i64 (H:Int),.int .i64 (D:Int),.int .i64 (K:Int),.int .i64 0] 109)) (.cells (rM (dX 0)).toArray 169 (0,0))).1;rw[qh]at this;exact this
 ·go_enter func95,ntmps95
  go_wp2_with fail
  go_ret;refine⟨_,rfl,⟨w.heap.size+1,rfl,?_⟩,((aP _ _).alloc (ag _) _).alloc (by simp) _⟩;have:=(dR (w.alloc (.cells #[.int .i64 (W:Int),.int .i64 (H:Int),.int .i64 (D:Int),.int .i64 (K:Int),.int .i64 1] 109)) (.cells (rM (dX 1)).toArray 169 (0,0))).1;rw[qh]at this;exact this
def nV(W H D K I:Nat)(pl tr:ByteArray)(pb tb:Bool)(da:ByteArray):ay:= .agg #[.int .i64 (W:Int),.int .i64 (H:Int),.int .i64 (D:Int),.int .i64 (K:Int),.int .i64 (I:Int),.string pl,.string tr,.bool pb,.bool tb,.string da]
theorem MF(W H D I:Nat)(pl tr da d:ByteArray)(pb tb:Bool)(w:af)(hp:pl.size<=140737488354000)(hd:d.size<=140737488354000):
 aF prog 94 #[nV W H D 3 I pl tr pb tb da,.string d] w fun e w'=>e= .returned (.bool (pb&&(decide (1<=d.size)&&decide (d.size<=pl.size/3))))/\aJ w.heap.size w w':=by
 unfold nV;cases pb
 ·go_enter func94,ntmps94
  go_wp2_with fail
  go_ret;exact⟨by first|rfl|simp,(aP w.heap.size w).alloc (ag _) _⟩
 ·by_cases a:1<=d.size
  ·have c:(1:Int)<=(d.size:Int):=by omega
   by_cases b:d.size<=pl.size/3
   ·have f:(d.size:Int)<=(pl.size:Int)/3:=by omega
    rw[aZ a,aZ b];clear a b;go_enter func94,ntmps94
    go_wp2_with fail
    go_ret;exact⟨by first|rfl|simp,(aP w.heap.size w).alloc (ag _) _⟩
   ·have f:¬((d.size:Int)<=(pl.size:Int)/3):=by omega
    rw[aZ a,aS b];clear a b;go_enter func94,ntmps94
    go_wp2_with fail
    go_ret;exact⟨by first|rfl|(simp;omega),(aP w.heap.size w).alloc (ag _) _⟩
  ·have c:¬((1:Int)<=(d.size:Int)):=by omega
   rw[aS a];clear a;go_enter func94,ntmps94
   go_wp2_with fail
   go_ret;exact⟨by first|rfl|(simp;omega),(aP w.heap.size w).alloc (ag _) _⟩
theorem WN(W H D K I:Nat)(pl tr da d:ByteArray)(pb tb:Bool)(w:af)(hK:K=4\/K=6):
 aF prog 94 #[nV W H D K I pl tr pb tb da,.string d] w fun e w'=>e= .returned (.bool false)/\aJ w.heap.size w w':=by
 unfold nV;rcases hK with rfl|rfl
 all_goals
  go_enter func94,ntmps94
  go_wp2_with fail
  go_ret;exact⟨by first|rfl|simp,(aP w.heap.size w).alloc (ag _) _⟩
def SC(w:af)(e:Ending)(w':af):Option (Nat×Nat×Nat×Nat)->Prop
 |none=>e= .returned (.tuple #[.slice none 0 0,.bool false])
 |some c=> ∃k,w.heap.size<=k/\e= .returned (.tuple #[.slice (some ⟨k,0,none⟩) 4 4,.bool true])/\w'.heap[k]?=some (.cells #[.int .u16 (c.1:Int),.int .u16 (c.2.1:Int),.int .u16 (c.2.2.1:Int),.int .u16 (c.2.2.2:Int)] 39 (0,0))
theorem Zl(s:ByteArray)(i t:Nat):aA (s.extract i s.size) t=aA s (i+t):=by
 have e:(s.extract i s.size).data.toList=s.data.toList.drop i:=by
  rw[fG,ni,jU];have a:s.size=s.data.toList.length:=by simp
  rw[a,<-iI,sS]
 unfold aA;rw[e,ak,ak,iZ]
def aeo(W H D K I:Nat)(pl tr:ByteArray)(pb tb:Bool)(da:ByteArray):Obj:= .cells #[.int .i64 (W:Int),.int .i64 (H:Int),.int .i64 (D:Int),.int .i64 (K:Int),.int .i64 (I:Int),.string pl,.string tr,.bool pb,.bool tb,.string da] 113
structure CF(w w1:af)(W H D K I:Nat)(pl tr:ByteArray)(pb tb:Bool)(da:ByteArray)(g:Nat)(X:List Nat):Prop where
 b:w1.heap[w.heap.size]?=some (.cells #[.int .i64 (W:Int),.int .i64 (H:Int),.int .i64 (D:Int),.int .i64 (K:Int),.int .i64 (I:Int),.string pl,.string tr,.bool pb,.bool tb,.string da] 113 (0,0))
 s:∀j,j<X.length->w1.cell? ⟨g,j,none⟩=some (.int .i64 ((X.getD j 0:Nat):Int))
 bl:aJ w.heap.size w w1
theorem CF.drew{w w1:af}{W H D K I:Nat}{pl tr:ByteArray}{pb tb:Bool}{da:ByteArray}{g:Nat}{X:List Nat}(h:CF w w1 W H D K I pl tr pb tb da g X)(n:Nat):CF w (w1.drewN n) W H D K I pl tr pb tb da g X:=
 ⟨h.b,h.s,kW.cZ h.bl⟩
theorem CF.start(w:af)(W H D K I:Nat)(pl tr:ByteArray)(pb tb:Bool)(da:ByteArray)(g:Nat)(X:List Nat)(a:g<w.heap.size)(b:∀j,j<X.length->w.cell? ⟨g,j,none⟩=some (.int .i64 ((X.getD j 0:Nat):Int))):
 CF w (w.alloc (.cells #[.int .i64 (W:Int),.int .i64 (H:Int),.int .i64 (D:Int),.int .i64 (K:Int),.int .i64 (I:Int),.string pl,.string tr,.bool pb,.bool tb,.string da] 113)) W H D K I pl tr pb tb da g X:=
 ⟨aO w _,fun j c=>(((aP w.heap.size w).alloc (ag _) _).cell a).trans (b j c),(aP w.heap.size w).alloc (ag _) _⟩
theorem CF.cells{w w1:af}{W H D K I:Nat}{pl tr:ByteArray}{pb tb:Bool}{da:ByteArray}{g:Nat}{X:List Nat}(h:CF w w1 W H D K I pl tr pb tb da g X):
 w1.cell? ⟨w.heap.size,2,none⟩=some (.int .i64 (D:Int))/\w1.cell? ⟨w.heap.size,3,none⟩=some (.int .i64 (K:Int))/\w1.cell? ⟨w.heap.size,5,none⟩=some (.string pl)/\w1.cell? ⟨w.heap.size,6,none⟩=some (.string tr)/\w1.cell? ⟨w.heap.size,8,none⟩=some (.bool tb):=
 ⟨by simpa using(Pr.cell_of h.b 2).1,by simpa using(Pr.cell_of h.b 3).1,by simpa using(Pr.cell_of h.b 5).1,by simpa using(Pr.cell_of h.b 6).1,by simpa using(Pr.cell_of h.b 8).1⟩
theorem pY{w w1:af}{r g b a:Nat}(hb:aJ w.heap.size w w1):SC w (.returned (.tuple #[.slice (some ⟨w1.heap.size,0,none⟩) 4 4,.bool true])) (w1.alloc (.cells #[.int .u16 (r:Int),.int .u16 (g:Int),.int .u16 (b:Int),.int .u16 (a:Int)] 39)) (some (r,g,b,a))/\aJ w.heap.size w (w1.alloc (.cells #[.int .u16 (r:Int),.int .u16 (g:Int),.int .u16 (b:Int),.int .u16 (a:Int)] 39)):=
 ⟨⟨w1.heap.size,hb.size,rfl,aO w1 _⟩,hb.alloc hb.size _⟩
theorem MH(W H D I:Nat)(pl tr da:ByteArray)(pb tb:Bool)(i g cap:Nat)(w:af)(B:w.cell? ⟨g,0,none⟩=some (.int .i64 (i:Int)))(C:g<w.heap.size)(hi:i<=65535)(ql:pl.size<=140737488354000)(yj:tr.size<=140737488354000)(h3:pl.size%3=0):
 aF prog 101 #[nV W H D 3 I pl tr pb tb da,.slice (some ⟨g,0,none⟩) 1 cap] w fun e w'=>SC w e w' (if pl.size<=3*i then none else some (di (aA pl (3*i)) 8,di (aA pl (3*i+1)) 8,di (aA pl (3*i+2)) 8,if i<tr.size then di (aA tr i) 8 else 65535))/\aJ w.heap.size w w':=by
 unfold nV;have a:ah _:=CF.start w W H D 3 I pl tr pb tb da g [i] C (fun j M=>by
  have:j=0:=by simp at M;omega
  subst this;exact B)
 clear B C;by_cases t:pl.size<=3*i
 ·rw[aC t];have u:(pl.size:Int)<=3*(i:Int):=by omega
  have N:ah (SC w (.returned (.tuple #[.slice none 0 0,.bool false])) w none):=(rfl:Ending.returned _=_);go_enter func101,ntmps101
  go_upto_region 1 with fail
  revert a;generalize (w.alloc _)=w1;intro a;obtain⟨c,d,f,h,l⟩:=CF.cells a.out;have zs:=CF.s a.out 0 (by simp);simp at zs;go_wp2_with fail
  go_quiet (fail)
  go_wp2_with fail
  refine aI (v:= .tuple #[.slice none 0 0,.bool false]) (by simp[results,results101,go_sem]) rfl ?_;exact⟨N.out,(a.out.drew _).bl⟩
 ·rw[au t];obtain⟨k,r⟩:∃k,k=3*i:=⟨_,rfl⟩;obtain⟨X,q⟩:∃X,X=pl.extract k pl.size:=⟨_,rfl⟩;have y:3<=X.size:=by rw[q];simp;omega
  have E:aA X 0=aA pl (3*i):=by rw[q,<-r];exact Zl pl k 0
  have F:aA X 1=aA pl (3*i+1):=by rw[q,<-r];exact Zl pl k 1
  have G:aA X 2=aA pl (3*i+2):=by rw[q,<-r];exact Zl pl k 2
  rw[<-E,<-F,<-G];have O:0<X.size:=by omega
  have P:1<X.size:=by omega
  have Q:2<X.size:=by omega
  have V:=(dL X 0 O).symm;have Y:=(dL X 1 P).symm;have Z:=(dL X 2 Q).symm;have J:=fC X 0;have K:=fC X 1;have L:=fC X 2;have n:ah (∀(x:Nat) w',x<256->aF prog 130 #[.int .i64 (x:Int),.int .i64 8] w' fun e o=>e= .returned (.int .u16 (di x 8:Int))/\∃nq,o=w'.drewN nq):=(fun x w' hx=>yI x 8 w' (by omega) (by omega) (by omega):∀x w',_);have R:ah (∀(x:Nat) w',x<256->aF prog 130 #[.int .i64 (IntKind.i64.wrap (x:Int)),.int .i64 8] w' fun e o=>e= .returned (.int .u16 (di x 8:Int))/\∃nq,o=w'.drewN nq):=(fun x w' hx=>by
   have:=yI x 8 w' (by omega) (by omega) (by omega);have e:IntKind.i64.wrap (x:Int)=(x:Int):=by rw[bK];omega
   rw[e];exact this:∀x w',_)
  have u:¬((pl.size:Int)<=(k:Int)):=by omega
  have v2:3*(i:Int)=(k:Int):=by omega
  have b3:(0:Int)<=(k:Int):=by omega
  have b4:(k:Int)<=(pl.size:Int):=by omega
  have S:pl.extract k pl.size=X:=q.symm;clear E F G q r y t h3;generalize aA X 0=x0 at*;generalize aA X 1=x1 at*;generalize aA X 2=x2 at*;by_cases z:i<tr.size
  ·rw[aC z];have A:(i:Int)<(tr.size:Int):=by omega
   have e3:=(dL tr i z).symm;have T:=fC tr i;generalize aA tr i=U at*;go_enter func101,ntmps101
   go_upto_region 1 with fail
   revert a;generalize (w.alloc _)=w1;intro a;obtain⟨c,d,f,h,l⟩:=CF.cells a.out;have zs:=CF.s a.out 0 (by simp);simp at zs;go_wp2_with fail
   go_quiet (fail)
   have b:ah _:=CF.drew a.out nq;clear a;have a:ah _:=b.out;clear b c d f h l;revert a;generalize World.drewN _ nq=w1;intro a;obtain⟨c,d,f,h,l⟩:=CF.cells a.out;have zs:=CF.s a.out 0 (by simp);simp at zs;go_wp2_with fail
   go_quiet (fail)
   have b:ah _:=CF.drew a.out nq;clear a;have a:ah _:=b.out;clear b c d f h l;revert a;generalize World.drewN _ nq=w1;intro a;obtain⟨c,d,f,h,l⟩:=CF.cells a.out;have zs:=CF.s a.out 0 (by simp);simp at zs;go_wp2_with fail
   go_quiet ((go_at_call 130;exact g_ (n.out U _ T)))
   have b:ah _:=CF.drew a.out nq;clear a;have a:ah _:=b.out;clear b c d f h l;revert a;generalize World.drewN _ nq=w1;intro a;obtain⟨c,d,f,h,l⟩:=CF.cells a.out;have zs:=CF.s a.out 0 (by simp);simp at zs;go_wp2_with fail
   go_quiet (fail)
   have b:ah _:=CF.drew a.out nq;clear a;have a:ah _:=b.out;clear b c d f h l;revert a;generalize World.drewN _ nq=w1;intro a;obtain⟨c,d,f,h,l⟩:=CF.cells a.out;go_wp2_with fail
   refine Qt.ji 13 (by kernel_rfl) (by kernel_rfl) ?_;simp only[List.take_succ_cons,List.take_zero,List.drop_succ_cons,List.drop_zero];repeat (go_big_quiet_step ((go_at_call 130;(first|exact g_ (n.out _ _ J)|exact g_ (n.out _ _ K)|exact g_ (n.out _ _ L)))))
   refine wpQuiet_nil ?_;intro _ p;obtain⟨nq,m⟩:=p;subst m;have b:ah _:=CF.drew a.out nq;clear a;have a:ah _:=b.out;clear b c d f h l;revert a;generalize World.drewN _ nq=w1;intro a;obtain⟨c,d,f,h,l⟩:=CF.cells a.out;go_wp2_with fail
   refine aI (v:= .tuple #[.slice (some ⟨w1.heap.size,0,none⟩) 4 4,.bool true]) (by simp[results,results101,go_sem]) rfl ?_;exact pY a.out.bl
  ·rw[au z];have A:¬((i:Int)<(tr.size:Int)):=by omega
   go_enter func101,ntmps101
   go_upto_region 1 with fail
   revert a;generalize (w.alloc _)=w1;intro a;obtain⟨c,d,f,h,l⟩:=CF.cells a.out;have zs:=CF.s a.out 0 (by simp);simp at zs;go_wp2_with fail
   go_quiet (fail)
   have b:ah _:=CF.drew a.out nq;clear a;have a:ah _:=b.out;clear b c d f h l;revert a;generalize World.drewN _ nq=w1;intro a;obtain⟨c,d,f,h,l⟩:=CF.cells a.out;have zs:=CF.s a.out 0 (by simp);simp at zs;go_wp2_with fail
   go_quiet (fail)
   have b:ah _:=CF.drew a.out nq;clear a;have a:ah _:=b.out;clear b c d f h l;revert a;generalize World.drewN _ nq=w1;intro a;obtain⟨c,d,f,h,l⟩:=CF.cells a.out;have zs:=CF.s a.out 0 (by simp);simp at zs;go_wp2_with fail
   go_quiet (fail)
   have b:ah _:=CF.drew a.out nq;clear a;have a:ah _:=b.out;clear b c d f h l;revert a;generalize World.drewN _ nq=w1;intro a;obtain⟨c,d,f,h,l⟩:=CF.cells a.out;go_wp2_with fail
   refine Qt.ji 13 (by kernel_rfl) (by kernel_rfl) ?_;simp only[List.take_succ_cons,List.take_zero,List.drop_succ_cons,List.drop_zero];repeat (go_big_quiet_step ((go_at_call 130;(first|exact g_ (n.out _ _ J)|exact g_ (n.out _ _ K)|exact g_ (n.out _ _ L)))))
   refine wpQuiet_nil ?_;intro _ p;obtain⟨nq,m⟩:=p;subst m;have b:ah _:=CF.drew a.out nq;clear a;have a:ah _:=b.out;clear b c d f h l;revert a;generalize World.drewN _ nq=w1;intro a;obtain⟨c,d,f,h,l⟩:=CF.cells a.out;go_wp2_with fail
   refine aI (v:= .tuple #[.slice (some ⟨w1.heap.size,0,none⟩) 4 4,.bool true]) (by simp[results,results101,go_sem]) rfl ?_;exact pY a.out.bl
theorem OJ(W H D I:Nat)(pl tr da:ByteArray)(pb tb:Bool)(x0 d g cap:Nat)(w:af)(o:∀j,j< [x0,d].length->w.cell? ⟨g,j,none⟩=some (.int .i64 (([x0,d].getD j 0:Nat):Int)))(p:g<w.heap.size)(r:x0<=65535)(t:d<=65535)(m:1<=D)(hD:D<=16):
 aF prog 101 #[nV W H D 4 I pl tr pb tb da,.slice (some ⟨g,0,none⟩) 2 cap] w fun e w'=>SC w e w' (some (di x0 D,di x0 D,di x0 D,di d D))/\aJ w.heap.size w w':=by
 unfold nV;have a:ah _:=CF.start w W H D 4 I pl tr pb tb da g [x0,d] p o;have q:ah (∀(x:Nat) w',x<=65535->aF prog 130 #[.int .i64 (x:Int),.int .i64 (D:Int)] w' fun e n=>e= .returned (.int .u16 (di x D:Int))/\∃nq,n=w'.drewN nq):=(fun x w' hx=>yI x D w' hx m hD:∀x w',_);clear o p;go_enter func101,ntmps101
 go_upto_region 1 with fail
 revert a;generalize (w.alloc _)=w1;intro a;obtain⟨f,h,i,k,l⟩:=CF.cells a.out;have zs:=CF.s a.out 0 (by simp);have c:=CF.s a.out 1 (by simp);simp at zs c;go_wp2_with fail
 refine bz (q.out x0 _ r) ?_;rintro e w2 ⟨rfl,nq,rfl⟩;have b:ah _:=CF.drew a.out nq;clear a;have a:ah _:=b.out;clear b f h i k l;revert a;generalize World.drewN _ nq=w1;intro a;obtain⟨f,h,i,k,l⟩:=CF.cells a.out;have zs:=CF.s a.out 0 (by simp);have c:=CF.s a.out 1 (by simp);simp at zs c;go_wp2_with fail
 refine bz (q.out d _ t) ?_;rintro e w2 ⟨rfl,nq,rfl⟩;have b:ah _:=CF.drew a.out nq;clear a;have a:ah _:=b.out;clear b f h i k l;revert a;generalize World.drewN _ nq=w1;intro a;obtain⟨f,h,i,k,l⟩:=CF.cells a.out;go_wp2_with fail
 refine aI (v:= .tuple #[.slice (some ⟨w1.heap.size,0,none⟩) 4 4,.bool true]) (by simp[results,results101,go_sem]) rfl ?_;exact pY a.out.bl
theorem SE(W H D I:Nat)(pl tr da:ByteArray)(pb tb:Bool)(x0 c d f g cap:Nat)(w:af)(q:∀j,j< [x0,c,d,f].length->w.cell? ⟨g,j,none⟩=some (.int .i64 (([x0,c,d,f].getD j 0:Nat):Int)))(r:g<w.heap.size)(B:x0<=65535)(C:c<=65535)(E:d<=65535)(F:f<=65535)(k:1<=D)(hD:D<=16):
 aF prog 101 #[nV W H D 6 I pl tr pb tb da,.slice (some ⟨g,0,none⟩) 4 cap] w fun e w'=>SC w e w' (some (di x0 D,di c D,di d D,di f D))/\aJ w.heap.size w w':=by
 unfold nV;have a:ah _:=CF.start w W H D 6 I pl tr pb tb da g [x0,c,d,f] r q;have i:ah (∀(x:Nat) w',x<=65535->aF prog 130 #[.int .i64 (x:Int),.int .i64 (D:Int)] w' fun e l=>e= .returned (.int .u16 (di x D:Int))/\∃nq,l=w'.drewN nq):=(fun x w' hx=>yI x D w' hx k hD:∀x w',_);clear q r;go_enter func101,ntmps101
 go_upto_region 1 with fail
 revert a;generalize (w.alloc _)=w1;intro a;obtain⟨t,u,y,z,A⟩:=CF.cells a.out;have zs:=CF.s a.out 0 (by simp);have m:=CF.s a.out 1 (by simp);have n:=CF.s a.out 2 (by simp);have o:=CF.s a.out 3 (by simp);simp at zs m n o;go_wp2_with fail
 refine Qt.ji 20 (by kernel_rfl) (by kernel_rfl) ?_;simp only[List.take_succ_cons,List.take_zero,List.drop_succ_cons,List.drop_zero];repeat (go_big_quiet_step ((go_at_call 130;(first|exact g_ (i.out _ _ B)|exact g_ (i.out _ _ C)|exact g_ (i.out _ _ E)|exact g_ (i.out _ _ F)))))
 refine wpQuiet_nil ?_;intro _ p;obtain⟨nq,h⟩:=p;subst h;have b:ah _:=CF.drew a.out nq;clear a;have a:ah _:=b.out;clear b t u y z A;revert a;generalize World.drewN _ nq=w1;intro a;obtain⟨t,u,y,z,A⟩:=CF.cells a.out;go_wp2_with fail
 refine aI (v:= .tuple #[.slice (some ⟨w1.heap.size,0,none⟩) 4 4,.bool true]) (by simp[results,results101,go_sem]) rfl ?_;exact pY a.out.bl
def x_(D K W H:Nat)(q:Nat×Nat×Nat×Nat):Nat:=if 0<manyN q.1 q.2.1 W then manyN q.2.2.1 q.2.2.2 H*(1+uF D K (manyN q.1 q.2.1 W))else 0
def lG(D K W H:Nat)(l:List (Nat×Nat×Nat×Nat)):Nat:=(l.map (x_ D K W H)).sum
theorem SI(D K W H:Nat)(l:List (Nat×Nat×Nat×Nat))(i:Nat)(q:Nat×Nat×Nat×Nat)(h:l[i]?=some q):lG D K W H (l.take (i+1))=lG D K W H (l.take i)+x_ D K W H q:=by unfold lG;rw[BC,h,List.map_append,List.sum_append];simp
theorem J_(l:List (Nat×Nat×Nat×Nat))(i:Nat)(q:Nat×Nat×Nat×Nat)(h:l[i]?=some q):(rM l)[i*4]?=some (.int .i64 (q.1:Int))/\(rM l)[i*4+1]?=some (.int .i64 (q.2.1:Int))/\(rM l)[i*4+2]?=some (.int .i64 (q.2.2.1:Int))/\(rM l)[i*4+3]?=some (.int .i64 (q.2.2.2:Int)):=by
 induction l generalizing i with
 |nil=>simp at h
 |cons x l a=>
  have b:rM (x::l)=[.int .i64 (x.1:Int),.int .i64 (x.2.1:Int),.int .i64 (x.2.2.1:Int),.int .i64 (x.2.2.2:Int)]++rM l:=by simp[rM]
  rw[b];cases i with
  |zero=>
   have e:x=q:=by simpa using h
   subst e;exact⟨rfl,rfl,rfl,rfl⟩
  |succ i=>
   have e:=a i (by simpa using h);rw[show(i+1)*4=i*4+4 by omega];refine⟨?_,?_,?_,?_⟩
   ·rw[dw (by simp)];simpa using e.1
   ·rw[dw (by simp),show i*4+4+1-[Value.int .i64 (x.1:Int),.int .i64 (x.2.1:Int),.int .i64 (x.2.2.1:Int),.int .i64 (x.2.2.2:Int)].length=i*4+1 by simp];exact e.2.1
   ·rw[dw (by simp),show i*4+4+2-[Value.int .i64 (x.1:Int),.int .i64 (x.2.1:Int),.int .i64 (x.2.2.1:Int),.int .i64 (x.2.2.2:Int)].length=i*4+2 by simp];exact e.2.2.1
   ·rw[dw (by simp),show i*4+4+3-[Value.int .i64 (x.1:Int),.int .i64 (x.2.1:Int),.int .i64 (x.2.2.1:Int),.int .i64 (x.2.2.2:Int)].length=i*4+3 by simp];exact e.2.2.2
theorem FU(I:Nat)(hI:I<=1):(dX I).length<=7/\∀q∈dX I,q.1<=8/\1<=q.2.1/\q.2.1<=8/\q.2.2.1<=8/\1<=q.2.2.2/\q.2.2.2<=8:=by
 rcases(by omega:I=0\/I=1)with rfl|rfl
 ·refine⟨by decide,fun q a=> ?_⟩;simp[dX]at a;subst a;decide
 ·refine⟨by decide,fun q a=> ?_⟩;simp[dX]at a;rcases a with rfl|rfl|rfl|rfl|rfl|rfl|rfl<;>decide
theorem FV(a d n:Nat)(hd:1<=d):manyN a d n<=n:=by
 unfold manyN;split
 ·omega
 ·have:=qy (n-a-1) d;omega
end h_
namespace h_
open Go.RowKit Rf Cr
def cut(s:ByteArray)(i n:Nat):List UInt8:=(s.data.toList.drop i).take n
theorem yP(s:ByteArray)(i j:Nat):(s.extract i j).data.toList=cut s i (j-i):=by rw[fG,ni,jU];rfl
def jo(l:List UInt8):Nat:=4294967295-ET 4294967295 l
def dF(x i:Nat):Bool:=(65<=x&&x<=90)||(97<=x&&x<=122&&i !=2)
theorem su(s:ByteArray)(i:Nat):aT (s.extract i s.size) 0=aT s i:=by
 have e:∀t,aA (s.extract i s.size) t=aA s (i+t):=fun t=>by
  have e:(s.extract i s.size).data.toList=s.data.toList.drop i:=by
   rw[fG,ni,jU];have a:s.size=s.data.toList.length:=by simp
   rw[a,<-iI,sS]
  unfold aA;rw[e,ak,ak,iZ]
 unfold aT;rw[e,e,e,e];rfl
end h_
namespace h_
open Go.RowKit Rf
theorem Wq(a d n k:Nat)(hd:1<=d):k<manyN a d n↔a+k*d<n:=by
 unfold manyN;by_cases h:n<=a
 ·rw[aC h];constructor
  ·intro e;omega
  ·intro e;have:=aU (k*d);omega
 ·rw[au h];have b:k<(n-a-1)/d+1↔k<=(n-a-1)/d:=by omega
  rw[b,Nat.le_div_iff_mul_le (by omega)];omega
theorem Rq(n:Nat):madeCells #[.int .i64 0] n=Array.replicate n (Value.int .i64 0):=by
 apply Array.ext
 ·rw[og];simp
 ·intro i a b;have h:i<n:=by rw[og]at a;exact a
  have e:(madeCells #[.int .i64 0] n)[i]?=some (.int .i64 0):=by simp[madeCells,h];simp[Nat.mod_one]
  rw[xZ a]at e;rw[dB e];simp
theorem abz(W:af)(n:Nat)(e:n<=100000000):(Instr.makeSlice 29 (.int .i64 (n:Int)) (.int .i64 (n:Int))).run prog W= .ok (.slice (some ⟨W.heap.size,0,none⟩) n n) (W.alloc (.cells (Array.replicate n (Value.int .i64 0)) 3)):=by obtain⟨d,hi,a,b,c⟩:=info_parts kW.tZ;have h:=run_make (P:=prog) W 29 3 d _ underlying29 hi a .i64 .i64 (n:Int) (n:Int) (by omega) (by omega) (by rw[c];omega) (by omega);rw[h,b,<-Rq];simp[Value.cells]
theorem Yz(w:af)(n:Nat):ig (w.alloc (.cells (Array.replicate n (Value.int .i64 0)) 3)) (.slice (some ⟨w.heap.size,0,none⟩) n n) (List.replicate n 0):=by
 refine⟨some ⟨w.heap.size,0,none⟩,n,by simp,fun i hi=>⟨w.heap.size,rfl,by simp,?_⟩⟩;have a:i<n:=by simpa using hi
 rw[(Pr.cell_of (aO w _) i).1];simp[a,List.getD_eq_getElem?_getD]
def RZ(l s:ByteArray):Prop:=∃i,i+s.size<=l.size/\l.extract i (i+s.size)=s
theorem UZ(x y:ByteArray):(x.toList==y.toList)=decide (x=y):=by
 by_cases h:x=y
 ·subst h;simp
 ·rw[aS h,ax];intro e;apply h;rw[bD,bD]at e;cases x;cases y;simp at e;rw[e]
theorem U_(l s:ByteArray)(B:Bool)(q:B=true↔RZ l s)(w:af)(y:l.size<=1000)(hs:s.size<=1000):
 aF prog 92 #[.string l,.string s] w fun e w'=>e= .returned (.bool B)/\w'=w:=by
 have d:ah _:=q;clear q;go_enter func92,ntmps92
 go_wp2_with fail
 go_loopw [5] (fun f wr=> ∃i:Nat,i<=l.size+1/\f= .int .i64 (i:Int)/\(∀j,j<i->j+s.size<=l.size->l.extract j (j+s.size)≠s)/\wr=w) (fun f _=>l.size+1-(aX f).toNat)
 case atStart=>exact⟨0,by omega,rfl,fun j r=>absurd r (qw j),rfl⟩
 case round=>
  obtain⟨i,hi,rfl,a,c⟩:=hrel;have c:=c.symm;subst c;have b:ah _:=a;clear a;by_cases g:i+s.size<=l.size
  ·have u:(i:Int)+(s.size:Int)<=(l.size:Int):=by omega
   have z:(0:Int)<=(i:Int):=by omega
   have A:(i:Int)<=(i:Int)+(s.size:Int):=by omega
   have C:((i:Int)+(s.size:Int)).toNat=i+s.size:=by omega
   have t:=UZ (l.extract i (i+s.size)) s;by_cases heq:l.extract i (i+s.size)=s
   ·have k:ah (RZ l s):=(⟨i,g,heq⟩:RZ l s);rw[aZ heq]at t;clear heq;go_wp2_with fail
    go_ret;exact⟨by rw[d.out.2 k.out];rfl,rfl⟩
   ·have m:ah (l.extract i (i+s.size)≠s):=(heq:_≠_);rw[aS heq]at t;clear heq;go_wp2_with fail
    go_roundw
    case rel=>
     refine⟨i+1,by omega,by go_num,fun j r n=> ?_,by first|rfl|trivial⟩;rcases bU j i with h|h
     ·exact b.out j h n
     ·rw[show j=i by omega];exact m.out
    case measure=>simp[aX];omega
  ·have u:¬((i:Int)+(s.size:Int)<=(l.size:Int)):=by omega
   have o:ah (¬RZ l s):=(fun⟨j,v,x⟩=>b.out j (by omega) v x:¬_);go_wp2_with fail
   go_ret;have p:B=false:=by cases B;rfl;exact absurd (d.out.1 rfl) o.out
   exact⟨by rw[p];rfl,rfl⟩
end h_
end Go.Proofs.YtephkcdbnogdhaaGreatDoor
