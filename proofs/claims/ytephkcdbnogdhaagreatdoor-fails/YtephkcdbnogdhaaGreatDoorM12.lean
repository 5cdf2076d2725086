import Derived.Test.YtephkcdbnogdhaaGreatDoorM6
import Derived.Test.YtephkcdbnogdhaaGreatDoorM8
import Derived.Test.YtephkcdbnogdhaaGreatDoorM11
set_option linter.unusedVariables false
set_option maxHeartbeats 40000000
set_option maxRecDepth 10000
namespace Go.Proofs.YtephkcdbnogdhaaGreatDoor
open Go.Proofs.Tryz
open Go renaming World->af,Value->ay,Calls->aF,TypeId->aY,Addr->bP
open Go.RowKit renaming Hid->ah,Below->aJ,intOf->aX
namespace Rf
def qm(L:List Int):Nat->Nat->Option Nat
 |0,_=>none
 |m+1,k=>if L.length<=k then some k else if L.getD k 0<0 then none else if L.getD k 0=0 then qm L m (k+1)else some (k+1)
def jJ(L:List Int):Nat->Option Nat
 |0=>some 0
 |t+1=>(jJ L t).bind (qm L 101)
theorem acM(L:List Int)(m:Nat):∀k a,k<=L.length->qm L m k=some a->a<=L.length:=by
 induction m with
 |zero=>intro k a _ h;cases h
 |succ m b=>
  intro k a c h;rw[qm]at h;split at h
  ·cases h;exact c
  ·split at h
   ·cases h
   ·split at h
    ·exact b _ _ (by omega) h
    ·cases h;omega
theorem wP(L:List Int)(t d:Nat)(h:jJ L t=none):jJ L (t+d)=none:=by
 induction d with
 |zero=>exact h
 |succ d a=>rw[<-kF,jJ,a];rfl
end Rf
namespace Pr
open Go.RowKit Rf
def qf(w:af)(base:Nat)(sl:ay)(L:List Int):Prop:=∃(la:Option bP) (cap:Nat),sl= .slice la L.length cap/\L.length<=140737488351232/\∀i,i<L.length->∃a:bP,la=some a/\a.block<base/\w.cell? (a.add i)=some (.int .i64 (L.getD i 0))/\ -9223372036854775808<=L.getD i 0/\L.getD i 0<=9223372036854775807
theorem xA{w w':af}{a:bP}(h:w'.heap[a.block]?=w.heap[a.block]?):w'.cell? a=w.cell? a:=by simp[World.cell?,h]
theorem Cf(a:bP)(n:Nat):(a.add n).block=a.block:=by unfold Addr.add;split<;>rfl
theorem qf.over{w w':af}{base:Nat}{sl:ay}{L:List Int}(h:qf w base sl L)(e:∀k,k<base->w'.heap[k]?=w.heap[k]?):qf w' base sl L:=by obtain⟨la,cap,c,d,h3⟩:=h;refine⟨la,cap,c,d,fun i hi=> ?_⟩;obtain⟨a,f,b,g,j⟩:=h3 i hi;exact⟨a,f,b,(xA (a:=a.add i) (e _ (by rw[Cf];exact b))).trans g,j⟩
theorem Py(sb base:Nat)(rest:ByteArray)(sl:ay)(L:List Int)(asked:Int)(w:af)(h:w.heap[sb]?=some (.cells #[.string rest,sl,.int .i64 (L.length:Int)] 158 (0,0)))(hS:qf w base sl L):
 aF prog 265 #[.pointer (some ⟨sb,0,none⟩),.int .i64 asked] w fun e w'=>e= .returned (.int .i64 asked)/\∃nq,w'=w.drewN nq:=by
 obtain⟨la,cap,rfl,b,a⟩:=hS;clear a;have c1:w.cell? ⟨sb,1,none⟩=some (.slice la L.length cap):=by simpa using(cell_of h 1).1
 have c2:w.cell? ⟨sb,2,none⟩=some (.int .i64 (L.length:Int)):=by simpa using(cell_of h 2).1
 generalize L.length=n at*;go_enter func265,ntmps265
 go_wp2_with fail
 go_quiet (fail)
 go_wp2_with fail
 go_ret;exact⟨rfl,_,rfl⟩
theorem acN(sb base:Nat)(rest:ByteArray)(sl:ay)(L:List Int)(k:Nat)(asked:Int)(w:af)(h:w.heap[sb]?=some (.cells #[.string rest,sl,.int .i64 (k:Int)] 158 (0,0)))(hS:qf w base sl L)(g:k<L.length)(i:base<=sb):
 aF prog 265 #[.pointer (some ⟨sb,0,none⟩),.int .i64 asked] w fun e w'=>e= .returned (.int .i64 (L.getD k 0))/\w'.heap[sb]?=some (.cells #[.string rest,sl,.int .i64 ((k+1:Nat):Int)] 158 (0,0))/\Fr (fun b=>b=sb) w w':=by
 obtain⟨la,cap,rfl,t,d⟩:=hS;obtain⟨a,rfl,u,f,j,l⟩:=d k g;clear d;have c1:w.cell? ⟨sb,1,none⟩=some (.slice (some a) L.length cap):=by simpa using(cell_of h 1).1
 have c2:w.cell? ⟨sb,2,none⟩=some (.int .i64 (k:Int)):=by simpa using(cell_of h 2).1
 have m:=(cell_of h 2).2;have o:ah (∀nq x,((w.drewN nq).setCell ⟨sb,2,none⟩ x).cell? (a.add k)=some (.int .i64 (L.getD k 0))):=(fun nq x=>(xA (a:=a.add k) (w:=w) (aB (w:=w.drewN nq) 2 x (show(a.add k).block≠sb by rw[Cf];omega))).trans f:∀nq x,_);have p:ah (∀nq,((w.drewN nq).setCell ⟨sb,2,none⟩ (.int .i64 ((k:Int)+1))).heap[sb]?=some (.cells #[.string rest,.slice (some a) L.length cap,.int .i64 ((k+1:Nat):Int)] 158 (0,0))):=(fun nq=>by have:=bG (w:=w.drewN nq) h 2 (.int .i64 ((k:Int)+1));rw[this];simp:∀nq,_)
 have q:ah (∀nq x,Fr (fun b=>b=sb) w ((w.drewN nq).setCell ⟨sb,2,none⟩ x)):=(fun nq x=>((Fr.refl (fun b=>b=sb) w).drewN nq).set sb 2 (show sb=sb from rfl) x:∀nq x,Fr (fun b=>b=sb) w ((w.drewN nq).setCell ⟨sb,2,none⟩ x));clear h f;generalize L.getD k 0=v at*;generalize L.length=n at*;have r:((k:Int)==(n:Int))=false:=by rw[ax];omega
 go_enter func265,ntmps265
 go_wp2_with fail
 go_quiet (fail)
 have y:=o.out nq (.int .i64 ((k:Int)+1));have c:=p.out nq;have d3:=q.out nq (.int .i64 ((k:Int)+1));go_wp2_with fail
 generalize ((w.drewN nq).setCell ⟨sb,2,none⟩ (.int .i64 ((k:Int)+1)))=w2 at*;have z:w2.cell? ⟨sb,1,none⟩=some (.slice (some a) n cap):=by simpa using(cell_of c 1).1
 have A:w2.cell? ⟨sb,2,none⟩=some (.int .i64 ((k:Int)+1)):=by simpa using(cell_of c 2).1
 have s:ah _:=c;clear c1 c2 m c;go_quiet (fail)
 go_wp2_with fail
 go_ret;exact⟨rfl,s.out,d3.drewN _⟩
end Pr
namespace Pr
open Go.RowKit Rf
theorem afC(s:ByteArray):s.extract 0 s.size=s:=by apply oJ;rw[fG];have:s.size=s.data.size:=rfl;rw[this];exact Array.extract_size
theorem at_one(unit:ByteArray)(n:Int)(T:aY)(a:bP)(w:af):
 aF prog 86 #[.string unit,.int .i64 n,.iface T (.pointer (some a))] w fun e w'=>e= .returned (.iface 214 (.pointer (some ⟨w.heap.size,0,none⟩)))/\w'=w.alloc (.cells #[.string unit,.int .i64 n,.iface T (.pointer (some a))] 216):=by
 go_enter func86,ntmps86
 go_wp2
 go_ret;exact⟨rfl,rfl⟩
theorem aff(a:Array aY)(t:aY)(x y z m:Int)(w:af)(h:m=min (min x y) z):(Builtin.min_ a t #[.int .i64 x,.int .i64 y,.int .i64 z]).run prog w= .ok (.int .i64 m) w:=by
 have e:(Builtin.min_ a t #[.int .i64 x,.int .i64 y,.int .i64 z]).run prog w= .ok (.int .i64 (if z<(if y<x then y else x)then z else(if y<x then y else x))) w:=by simp[Builtin.min_,Builtin.min2]
 rw[e];have:(if z<(if y<x then y else x)then z else(if y<x then y else x))=m:=by split<;>split<;>omega
 rw[this]
def DC(L:List Int)(k:Nat):Int:=if k<L.length then L.getD k 0 else 1
def yQ(L:List Int)(k:Nat):Nat:=if k<L.length then k+1 else k
def zZ(rest:ByteArray)(sl:ay)(k:Nat):Obj:= .cells #[.string rest,sl,.int .i64 (k:Int)] 158 (0,0)
theorem Gw(sb base:Nat)(rest:ByteArray)(sl:ay)(L:List Int)(k:Nat)(w:af)(h:w.heap[sb]?=some (zZ rest sl k))(hS:qf w base sl L)(d:k<=L.length)(c:base<=sb):
 aF prog 265 #[.pointer (some ⟨sb,0,none⟩),.int .i64 1] w fun e w'=>e= .returned (.int .i64 (DC L k))/\w'.heap[sb]?=some (zZ rest sl (yQ L k))/\Fr (fun b=>b=sb) w w':=by
 unfold DC yQ;by_cases a:k<L.length
 ·rw[aC a,aC a];exact acN sb base rest sl L k 1 w h hS a c
 ·rw[au a,au a];have e:k=L.length:=by omega
  subst e;refine(Py sb base rest sl L 1 w h hS).mono ?_;rintro e w' ⟨rfl,nq,rfl⟩;exact⟨rfl,h,(Fr.refl _ w).drewN nq⟩
theorem ZL(sb:Nat)(eb:bP)(rest:ByteArray)(sl:ay)(k:Nat)(w:af)(h:w.heap[sb]?=some (zZ rest sl k))(a:rest.size=0)(b:oK w eb):
 aF prog 264 #[.pointer (some ⟨sb,0,none⟩),.int .i64 1] w fun e w'=>e= .returned (.tuple #[.string ⟨#[]⟩,.iface 362 (.pointer (some eb))])/\∃nq,w'=w.drewN nq:=by
 have c0:w.cell? ⟨sb,0,none⟩=some (.string rest):=by simpa using(cell_of h 0).1
 have c:=Xb rest a;unfold oK at b;go_enter func264,ntmps264
 go_wp2_with fail
 go_quiet (fail)
 go_wp2_with fail
 go_ret2;exact⟨rfl,_,rfl⟩
theorem Xk(sb base:Nat)(rest:ByteArray)(sl:ay)(L:List Int)(k:Nat)(w:af)(h:w.heap[sb]?=some (zZ rest sl k))(f:0<rest.size)(o:rest.size<=140737488354000)(hS:qf w base sl L)(g:k<=L.length)(a:base<=sb)(i:DC L k=0):
 aF prog 264 #[.pointer (some ⟨sb,0,none⟩),.int .i64 1] w fun e w'=>e= .returned (.tuple #[.string ⟨#[]⟩,.nilIface])/\w'.heap[sb]?=some (zZ rest sl (yQ L k))/\Fr (fun b=>b=sb) w w':=by
 have c0:w.cell? ⟨sb,0,none⟩=some (.string rest):=by simpa using(cell_of h 0).1
 have j:=BX rest f;have N:=Gw sb base rest sl L k w h hS g a;rw[i]at N;have d:=fun l t w=>aff l t 0 1 (rest.size:Int) 0 w (by omega);go_enter func264,ntmps264
 go_wp2_with fail
 refine N.mono ?_;rintro e w1 ⟨rfl,c,m⟩;have p:w1.cell? ⟨sb,0,none⟩=some (.string rest):=by simpa using(cell_of c 0).1
 have q:=(cell_of c 0).2;have n:ah _:=bG c 0 (.string rest);clear c0 N;go_wp2_with fail
 go_ret2;refine⟨rfl,?_,m.set sb 0 rfl _⟩;refine n.out.trans ?_;simp[zZ]
theorem Xl(sb base:Nat)(rest:ByteArray)(sl:ay)(L:List Int)(k:Nat)(w:af)(h:w.heap[sb]?=some (zZ rest sl k))(f:0<rest.size)(n:rest.size<=140737488354000)(hS:qf w base sl L)(g:k<=L.length)(a:base<=sb)(o:0<DC L k):
 aF prog 264 #[.pointer (some ⟨sb,0,none⟩),.int .i64 1] w fun e w'=>e= .returned (.tuple #[.string (rest.extract 0 1),.nilIface])/\w'.heap[sb]?=some (zZ (rest.extract 1 rest.size) sl (yQ L k))/\Fr (fun b=>b=sb) w w':=by
 have c0:w.cell? ⟨sb,0,none⟩=some (.string rest):=by simpa using(cell_of h 0).1
 have i:=BX rest f;have N:=Gw sb base rest sl L k w h hS g a;generalize DC L k=v at*;have d:=fun j t w=>aff j t v 1 (rest.size:Int) 1 w (by omega);go_enter func264,ntmps264
 go_wp2_with fail
 refine N.mono ?_;rintro e w1 ⟨rfl,c,l⟩;have p:w1.cell? ⟨sb,0,none⟩=some (.string rest):=by simpa using(cell_of c 0).1
 have q:=(cell_of c 0).2;have m:ah _:=bG c 0 (.string (rest.extract 1 rest.size));clear c0 N;go_wp2_with fail
 go_ret2;refine⟨rfl,?_,l.set sb 0 rfl _⟩;refine m.out.trans ?_;simp[zZ]
theorem Xm(sb base:Nat)(fb:bP)(rest:ByteArray)(sl:ay)(L:List Int)(k:Nat)(w:af)(h:w.heap[sb]?=some (zZ rest sl k))(i:0<rest.size)(hS:qf w base sl L)(j:k<=L.length)(c:base<=sb)(p:DC L k<0)(hF:lS w fb)(q:7<=sb):
 aF prog 264 #[.pointer (some ⟨sb,0,none⟩),.int .i64 1] w fun e w'=>(∃T a,e= .returned (.tuple #[.string ⟨#[]⟩,.iface T (.pointer (some a))])/\uI fb w' T a)/\w'.heap[sb]?=some (zZ rest sl (yQ L k))/\Fr (fun b=>b=sb) w w':=by
 have c0:w.cell? ⟨sb,0,none⟩=some (.string rest):=by simpa using(cell_of h 0).1
 have l:=BX rest i;have N:=Gw sb base rest sl L k w h hS j c;have m:yQ L k<=140737488351233:=by obtain⟨la,cap,_,r,_⟩:=hS;unfold yQ;split<;>omega
 generalize DC L k=v at*;generalize yQ L k=o at*;go_enter func264,ntmps264
 go_wp2_with fail
 refine N.mono ?_;rintro e w1 ⟨rfl,d,g⟩;have f:lS w1 fb:=hF.over (g.block _ (by have:=ai h;omega) (show 0≠sb by omega));have s:w1.cell? ⟨sb,2,none⟩=some (.int .i64 (o:Int)):=by simpa using(cell_of d 2).1
 unfold lS at f;clear c0 N;go_wp2_with fail
 go_region_with ((go_at_call 86;refine(at_one _ _ _ _ _).mono ?_;rintro e w3 ⟨rfl,rfl⟩))
 all_goals
  go_wp2_with fail
  go_ret2;refine⟨⟨_,_,rfl,1,qF.place (Q:=fun T a=>(T=362/\a=fb)\/T=376) (n:=0) (.inl ⟨rfl,rfl⟩) _ _⟩,?_,?_⟩
  ·exact(aj _ _ _ (ai d)).trans d
  ·exact g.drew.alloc _
theorem ZM(L:List Int)(m k:Nat):qm L (m+1) k=if DC L k<0 then none else if DC L k=0 then qm L m (yQ L k)else some (yQ L k):=by
 unfold DC yQ;rw[qm];by_cases h:k<L.length
 ·rw[au (by omega),aC h,aC h]
 ·rw[aC (by omega),au h,au h,au (by omega),au (by omega)]
theorem acO(L:List Int)(k:Nat)(h:k<=L.length):yQ L k<=L.length:=by unfold yQ;split<;>omega
theorem Gx(v:ay)(w:af):(Go.method 494 100 v "Give").run prog w= .ok (264,v) w:=by kernel_rfl
def MQ(sb t:Nat):Obj:= .cells #[.iface 100 (.pointer (some ⟨sb,0,none⟩)),.int .i64 (t:Int)] 156 (0,0)
theorem TB(s:ByteArray)(h:0<s.size):(s.extract 0 1).size=1:=by simp;omega
theorem TC(s:ByteArray)(h:0<s.size)(a:0<(s.extract 0 1).size):((s.extract 0 1)[0]).toNat=aA s 0:=by
 have e:(s.extract 0 1)[0]=s[0]:=by simp[ByteArray.getElem_eq_getElem_data,ByteArray.data_extract]
 rw[e,dL s 0 h]
theorem acP(gb sb base:Nat)(fb:bP)(rest:ByteArray)(sl:ay)(L:List Int)(k t:Nat)(w:af)(x:w.heap[gb]?=some (MQ sb t))(h:w.heap[sb]?=some (zZ rest sl k))(n:0<rest.size)(F:rest.size<=140737488354000)(hS:qf w base sl L)(G:k<=L.length)(i:base<=sb)(hF:lS w fb)(N:7<=base):
 aF prog 263 #[.pointer (some ⟨gb,0,none⟩)] w fun e w'=>
  (∃v,qm L 101 k=some v/\e= .returned (.tuple #[.int .u8 ((aA rest 0:Nat):Int),.nilIface])/\w'.heap[sb]?=some (zZ (rest.extract 1 rest.size) sl v)/\Fr (fun b=>b=sb) w w')\/
  (qm L 101 k=none/\(∃T a,e= .returned (.tuple #[.int .u8 0,.iface T (.pointer (some a))])/\uI fb w' T a)/\(∃v,w'.heap[sb]?=some (zZ rest sl v))/\Fr (fun b=>b=sb) w w'):=by
 have O:=Gx;have y:gb≠sb:=fU x h (by decide);obtain⟨R,z⟩:∃R,R=qm L 101 k:=⟨_,rfl⟩;rw[<-z];have H:ah _:=z;clear z;go_enter func263,ntmps263
 go_wp2_with fail
 go_loopw [6] (fun A wr=> ∃j c:Nat,j<=101/\A= .int .i64 (j:Int)/\R=qm L (101-j) c/\c<=L.length/\wr.heap[sb]?=some (zZ rest sl c)/\Fr (fun b=>b=sb) w wr) (fun A _=>101-(aX A).toNat)
 case atStart=>exact⟨0,k,aU _,rfl,H.out,G,h,Fr.refl _ _⟩
 case round=>
  obtain⟨j,c,P,rfl,o,f,p,d⟩:=hrel;have q:ah _:=o;clear o;have B:wr.heap[gb]?=some (MQ sb t):=(d.block gb (ai x) y).trans x;have l:qf wr base sl L:=hS.over (fun b hb=>d.block b (by have:=ai h;omega) (by omega));have C:lS wr fb:=hF.over (d.block _ (by have:=ai h;omega) (by omega));have c0:wr.cell? ⟨gb,0,none⟩=some (.iface 100 (.pointer (some ⟨sb,0,none⟩))):=by simpa using(cell_of B 0).1
  by_cases I:j<101
  ·have D:ah (R=if DC L c<0 then none else if DC L c=0 then qm L (100-j) (yQ L c)else some (yQ L c)):=(by
    rw[q.out,show 101-j=(100-j)+1 by omega];exact ZM L _ c:_=_)
   rcases Int.lt_trichotomy (DC L c) 0 with hs|hs|hs
   ·have g:=Xm sb base fb rest sl L c wr p n l f i hs C (by omega);have m:ah (R=none):=(by rw[D.out,aC hs]:_=_);clear hs;go_wp2_with fail
    refine g.mono ?_;rintro e w1 ⟨⟨T,a,rfl,J⟩,r,s⟩;clear g c0;go_wp2_with fail
    go_ret2;exact .inr ⟨m.out,⟨T,a,rfl,J⟩,⟨_,r⟩,d.trans s⟩
   ·have g:=Xk sb base rest sl L c wr p n F l f i hs;have m:ah (R=qm L (101-(j+1)) (yQ L c)):=(by rw[D.out,au (by omega),aC hs,show 101-(j+1)=100-j by omega]:_=_);have E:=acO L c f;clear hs;go_wp2_with fail
    refine g.mono ?_;rintro e w1 ⟨rfl,r,s⟩;clear g c0;go_wp2_with fail
    go_roundw
    case rel=>exact⟨j+1,_,by omega,by go_num,m.out,E,r,d.trans s⟩
    case measure=>simp[aX];omega
   ·have g:=Xl sb base rest sl L c wr p n F l f i hs;have m:ah (R=some (yQ L c)):=(by rw[D.out,au (by omega),au (by omega)]:_=_);have u:=TB rest n;have K:ah _:=TC rest n (by rw[u];omega);clear hs;go_wp2_with fail
    refine g.mono ?_;rintro e w1 ⟨rfl,r,s⟩;clear g c0;have M:=BX (rest.extract 0 1) (by rw[u];omega);go_wp2_with fail
    go_ret2;exact .inl ⟨_,m.out,vW (gY Nat.cast K.out),r,d.trans s⟩
  ·have m:ah (R=none):=(by rw[q.out,show 101-j=0 by omega];rfl:_=_);go_wp2_with fail
   go_ret2;exact .inr ⟨m.out,⟨_,_,rfl,0,.inr rfl⟩,⟨_,(aj _ _ _ (ai p)).trans p⟩,d.alloc _⟩
theorem acQ(gb sb:Nat)(eb:bP)(rest:ByteArray)(sl:ay)(k t:Nat)(w:af)(b:w.heap[gb]?=some (MQ sb t))(h:w.heap[sb]?=some (zZ rest sl k))(c:rest.size=0)(d:oK w eb):
 aF prog 263 #[.pointer (some ⟨gb,0,none⟩)] w fun e w'=>e= .returned (.tuple #[.int .u8 0,.iface 362 (.pointer (some eb))])/\∃nq,w'=w.drewN nq:=by
 have g:=Gx;have c0:w.cell? ⟨gb,0,none⟩=some (.iface 100 (.pointer (some ⟨sb,0,none⟩))):=by simpa using(cell_of b 0).1
 have a:=ZL sb eb rest sl k w h c d;go_enter func263,ntmps263
 go_wp2_with fail
 refine wp_loop_rounds 1 ?_;rw[yB];go_wp2_with fail
 refine a.mono ?_;rintro e w1 ⟨rfl,nq,hw⟩;have f:ah _:=hw;clear hw a;go_wp2_with fail
 go_ret2;exact⟨rfl,nq,f.out⟩
theorem vM(v:ay)(w:af):(Go.method 494 98 v "NextByte").run prog w= .ok (262,v) w:=by kernel_rfl
structure DD where
 gb:Nat
 sb:Nat
 base:Nat
 b:ByteArray
 sl:ay
 L:List Int
 eb:bP
 fb:bP
 lb:bP
structure Ew(D:DD)(w:af)(t k:Nat):Prop where
 g:w.heap[D.gb]?=some (MQ D.sb t)
 s:w.heap[D.sb]?=some (zZ (D.b.extract t D.b.size) D.sl k)
 scr:qf w D.base D.sl D.L
 qL:jI w D.eb D.fb D.lb D.base
 afF:t<=D.b.size
 aew:k<=D.L.length
 bs:D.base<=D.sb
 bg:D.base<=D.gb
 Di:D.b.size<=140737488354000
structure ZN(D:DD)(w:af):Prop where
 g:∃t,w.heap[D.gb]?=some (MQ D.sb t)
 s:∃r k,w.heap[D.sb]?=some (zZ r D.sl k)
 qL:jI w D.eb D.fb D.lb D.base
 bs:D.base<=D.sb
 bg:D.base<=D.gb
def DD.F(D:DD)(k:Nat):Prop:=k=D.sb\/k=D.gb
theorem Ew.e{D:DD}{w:af}{t k:Nat}(h:Ew D w t k):ZN D w:=⟨⟨t,h.g⟩,⟨_,k,h.s⟩,h.qL,h.bs,h.bg⟩
theorem Ew.over{D:DD}{w w':af}{t k:Nat}(h:Ew D w t k)(e:∀i,D.F i\/i<D.base->w'.heap[i]?=w.heap[i]?):Ew D w' t k:=
 ⟨(e _ (.inl (.inr rfl))).trans h.g,(e _ (.inl (.inl rfl))).trans h.s,h.scr.over (fun i hi=>e i (.inr hi)),h.qL.over (fun i hi=>e i (.inr hi)),h.afF,h.aew,h.bs,h.bg,h.Di⟩
theorem ZN.over{D:DD}{w w':af}(h:ZN D w)(e:∀i,D.F i\/i<D.base->w'.heap[i]?=w.heap[i]?):ZN D w':=by obtain⟨⟨t,a⟩,⟨r,k,b⟩,h3,c,d⟩:=h;exact⟨⟨t,(e _ (.inl (.inr rfl))).trans a⟩,⟨r,k,(e _ (.inl (.inl rfl))).trans b⟩,h3.over (fun i hi=>e i (.inr hi)),c,d⟩
theorem Ew.ne{D:DD}{w:af}{t k:Nat}(h:Ew D w t k):D.gb≠D.sb:=fU h.g h.s (by decide)
theorem Ew.lt{D:DD}{w:af}{t k:Nat}(h:Ew D w t k):D.base<=w.heap.size:=by have:=ai h.s;have:=h.bs;omega
theorem KG(D:DD)(t k:Nat)(w:af)(h:Ew D w t k)(y:t<D.b.size):
 aF prog 262 #[.pointer (some ⟨D.gb,0,none⟩)] w fun e w'=>
  (∃f,qm D.L 101 k=some f/\e= .returned (.tuple #[.int .u8 ((aA D.b t:Nat):Int),.nilIface])/\Ew D w' (t+1) f/\Fr D.F w w')\/
  (qm D.L 101 k=none/\(∃T a,e= .returned (.tuple #[.int .u8 0,.iface T (.pointer (some a))])/\uI D.fb w' T a)/\ZN D w'/\Fr D.F w w'):=by
 have j:=h.ne;have z:=h.lt;have r:=h.qL.ng;have l:(D.b.extract t D.b.size).size=D.b.size-t:=p_ D.b t;have v:=acP D.gb D.sb D.base D.fb (D.b.extract t D.b.size) D.sl D.L k t w h.g h.s (by rw[l];omega) (by rw[l];have:=h.Di;omega) h.scr h.aew h.bs h.qL.fa r;have A:ah (aA (D.b.extract t D.b.size) 0=aA D.b t):=(uO D.b t 0:_=_);have B:ah ((D.b.extract t D.b.size).extract 1 (D.b.extract t D.b.size).size=D.b.extract (t+1) D.b.size):=(Xa D.b t y:_=_);have C:t<=140737488354000:=by have:=h.Di;omega
 clear l;generalize D.b.extract t D.b.size=rest at*;go_enter func262,ntmps262
 go_wp2_with fail
 refine v.mono ?_;clear v;rintro e w1 (⟨f,m,rfl,o,p⟩|⟨m,⟨T,a,rfl,o⟩,⟨f,p⟩,x⟩)
 ·have c:w1.heap[D.gb]?=some (MQ D.sb t):=(p.block D.gb (ai h.g) j).trans h.g;have c1:w1.cell? ⟨D.gb,1,none⟩=some (.int .i64 (t:Int)):=by simpa using(cell_of c 1).1
  have H:=(cell_of c 1).2;have q:ah _:=m;have E:ah _:=bG c 1 (.int .i64 ((t:Int)+1));clear m;go_wp2_with fail
  go_ret2;have hF:Fr D.F w (w1.setCell ⟨D.gb,1,none⟩ (.int .i64 ((t:Int)+1))):=(p.mono (fun b hb=> .inl hb)).set D.gb 1 (.inr rfl) _;have d:∀i,i<D.base->(w1.setCell ⟨D.gb,1,none⟩ (.int .i64 ((t:Int)+1))).heap[i]?=w.heap[i]?:=fun i hi=>hF.block i (by omega) (fun e=>by have:=h.bs;have:=h.bg;rcases e with e|e<;>omega);refine .inl ⟨f,q.out,vW (gY Nat.cast A.out),⟨E.out.trans (by simp[MQ]),(aB 1 _ (r_ j)).trans (o.trans (by rw[B.out])),h.scr.over d,h.qL.over d,by omega,acM D.L 101 k f h.aew q.out,h.bs,h.bg,h.Di⟩,hF⟩
 ·have c:w1.heap[D.gb]?=some (MQ D.sb t):=(x.block D.gb (ai h.g) j).trans h.g;have c1:w1.cell? ⟨D.gb,1,none⟩=some (.int .i64 (t:Int)):=by simpa using(cell_of c 1).1
  have q:ah _:=m;clear m;have hF:Fr D.F w w1:=x.mono (fun b hb=> .inl hb);have d:∀i,i<D.base->w1.heap[i]?=w.heap[i]?:=fun i hi=>hF.block i (by omega) (fun e=>by have:=h.bs;have:=h.bg;rcases e with e|e<;>omega);have u:ZN D w1:=⟨⟨t,c⟩,⟨_,f,p⟩,h.qL.over d,h.bs,h.bg⟩;have G:=hF.size;go_wp2_with fail
  refine(at_one _ _ _ _ _).mono ?_;rintro e w3 ⟨rfl,rfl⟩;go_wp2_with fail
  go_ret2;obtain⟨n,o⟩:=o;refine .inr ⟨q.out,⟨_,_,rfl,n+1,o.place _ _⟩,u.over (fun i hi=>aj _ _ i ?_),hF.alloc _⟩;rcases hi with hi|hi
  ·rcases hi with rfl|rfl
   ·exact ai p
   ·exact ai c
  ·omega
theorem KH(D:DD)(k:Nat)(w:af)(h:Ew D w D.b.size k):
 aF prog 262 #[.pointer (some ⟨D.gb,0,none⟩)] w fun e w'=>
  (∃T a,e= .returned (.tuple #[.int .u8 0,.iface T (.pointer (some a))])/\qF (Er.QE D.eb) w' 1 T a)/\Ew D w' D.b.size k/\Fr D.F w w':=by
 have l:=h.lt;have d:(D.b.extract D.b.size D.b.size).size=0:=by rw[p_];omega
 have f:=acQ D.gb D.sb D.eb (D.b.extract D.b.size D.b.size) D.sl k D.b.size w h.g h.s d h.qL.en;have c1:w.cell? ⟨D.gb,1,none⟩=some (.int .i64 (D.b.size:Int)):=by simpa using(cell_of h.g 1).1
 clear d;go_enter func262,ntmps262
 go_wp2_with fail
 refine f.mono ?_;clear f;rintro e w1 ⟨rfl,nq,hw⟩;have m:w1.cell? ⟨D.gb,1,none⟩=some (.int .i64 (D.b.size:Int)):=by rw[hw];exact c1
 have c:Ew D w1 D.b.size k:=by rw[hw];exact h.over (fun _ _=>rfl)
 have hF:Fr D.F w w1:=by rw[hw];exact(Fr.refl _ w).drewN nq
 have j:w1.heap.size=w.heap.size:=by rw[hw];rfl
 have n:ah _:=j;clear hw c1 j;go_wp2_with fail
 refine(at_one _ _ _ _ _).mono ?_;rintro e w3 ⟨rfl,rfl⟩;go_wp2_with fail
 go_ret2;refine⟨⟨_,_,rfl,qF.place (show qF (Er.QE D.eb) w1 0 362 D.eb from⟨rfl,rfl⟩) _ _⟩,c.over (fun i hi=>aj _ _ i ?_),hF.alloc _⟩;rcases hi with hi|hi
 ·rcases hi with rfl|rfl
  ·exact ai c.s
  ·exact ai c.g
 ·have:=n.out;omega
theorem Xn(D:DD)(t k:Nat)(w:af)(h:Ew D w t k)(m:t<D.b.size):
 aF prog 193 #[.iface 98 (.pointer (some ⟨D.gb,0,none⟩))] w fun e w'=>
  (∃i,qm D.L 101 k=some i/\e= .returned (.tuple #[.int .u8 ((aA D.b t:Nat):Int),.nilIface])/\Ew D w' (t+1) i/\Fr D.F w w')\/
  (qm D.L 101 k=none/\(∃T a,e= .returned (.tuple #[.int .u8 0,.iface T (.pointer (some a))])/\uI D.fb w' T a)/\ZN D w'/\Fr D.F w w'):=by
 have hm:=vM;have c:=KG D t k w h m;generalize aA D.b t=x at*;go_enter func193,ntmps193
 go_wp2_with fail
 refine c.mono ?_;clear c;rintro e w1 (⟨i,d,rfl,f,g⟩|⟨d,⟨T,a,rfl,n,f⟩,g,o⟩)
 ·have j:=f.qL.en;have l:ah _:=d;clear d;unfold oK at j;go_wp2_with fail
  refine(Er.Tq _ _).mono ?_;rintro e w2 ⟨rfl,hw⟩;have hw:=hw.symm;subst hw;go_wp2_with fail
  go_ret2;exact .inl ⟨i,l.out,rfl,f,g⟩
 ·have j:=g.qL.en;have c:=g.qL.ZK n T a f;have l:ah _:=d;clear d;unfold oK at j;go_wp2_with fail
  refine c.mono ?_;rintro e w2 ⟨rfl,hw⟩;have hw:=hw.symm;subst hw;clear c;go_wp2_with fail
  go_ret2;exact .inr ⟨l.out,⟨T,a,rfl,n,f⟩,g,o⟩
theorem DD.grow{D:DD}{w w':af}{t k:Nat}(h:Ew D w t k)(hb:∀i,i<w.heap.size->w'.heap[i]?=w.heap[i]?):Ew D w' t k:=h.over (fun i hi=>hb i (by
 rcases hi with hi|hi
 ·rcases hi with rfl|rfl
  ·exact ai h.s
  ·exact ai h.g
 ·have:=h.lt;omega))
theorem Xo(D:DD)(k:Nat)(w:af)(h:Ew D w D.b.size k):
 aF prog 193 #[.iface 98 (.pointer (some ⟨D.gb,0,none⟩))] w fun e w'=>
  (∃T a,e= .returned (.tuple #[.int .u8 0,.iface T (.pointer (some a))])/\jC w' T a)/\Ew D w' D.b.size k/\Fr D.F w w':=by
 have hm:=vM;have c:=KH D k w h;go_enter func193,ntmps193
 go_wp2_with fail
 refine c.mono ?_;clear c;rintro e w1 ⟨⟨T,a,rfl,f⟩,d,g⟩;have j:=d.qL.en;have c:=d.qL.ad8 1 T a f;unfold oK at j;clear f;go_wp2_with fail
 refine c.mono ?_;rintro e w2 ⟨rfl,hw⟩;have hw:=hw.symm;subst hw;clear c;go_wp2_with fail
 refine(dJ _ _).mono ?_;rintro e w3 ⟨rfl,rfl⟩;go_wp2_with fail
 go_ret2;exact⟨⟨_,_,rfl,jC.mk _ _⟩,DD.grow d (fun i hi=>aj _ _ i hi),g.alloc _⟩
theorem Xp(D:DD)(t k:Nat)(w:af)(h:Ew D w t k)(j:t<D.b.size):
 aF prog 192 #[.iface 98 (.pointer (some ⟨D.gb,0,none⟩))] w fun e w'=>
  (∃T a,e= .returned (.iface T (.pointer (some a)))/\(jC w' T a\/(uI D.fb w' T a/\qm D.L 101 k=none)))/\ZN D w'/\Fr D.F w w':=by
 have hm:=vM;have c:=KG D t k w h j;generalize aA D.b t=x at*;go_enter func192,ntmps192
 go_wp2_with fail
 refine c.mono ?_;clear c;rintro e w1 (⟨p,f,rfl,g,d⟩|⟨f,⟨T,a,rfl,n,g⟩,d,l⟩)
 ·clear f;go_wp2_with fail
  refine(dJ _ _).mono ?_;rintro e w3 ⟨rfl,rfl⟩;go_wp2_with fail
  go_ret;exact⟨⟨_,_,rfl,.inl (jC.mk _ _)⟩,(DD.grow g (fun i hi=>aj _ _ i hi)).e,d.alloc _⟩
 ·have m:=d.qL.en;have c:=d.qL.ZK n T a g;have o:ah _:=f;clear f;unfold oK at m;go_wp2_with fail
  refine c.mono ?_;rintro e w2 ⟨rfl,hw⟩;have hw:=hw.symm;subst hw;clear c;go_wp2_with fail
  go_ret;exact⟨⟨T,a,rfl,.inr ⟨⟨n,g⟩,o.out⟩⟩,d,l⟩
theorem Xq(D:DD)(k:Nat)(w:af)(h:Ew D w D.b.size k):
 aF prog 192 #[.iface 98 (.pointer (some ⟨D.gb,0,none⟩))] w fun e w'=>e= .returned .nilIface/\Ew D w' D.b.size k/\Fr D.F w w':=by
 have hm:=vM;have c:=KH D k w h;go_enter func192,ntmps192
 go_wp2_with fail
 refine c.mono ?_;clear c;rintro e w1 ⟨⟨T,a,rfl,f⟩,d,g⟩;have i:=d.qL.en;have c:=d.qL.ad8 1 T a f;unfold oK at i;clear f;go_wp2_with fail
 refine c.mono ?_;rintro e w2 ⟨rfl,hw⟩;have hw:=hw.symm;subst hw;clear c;go_wp2_with fail
 go_ret;exact⟨rfl,d,g⟩
def yR(D:DD)(s:ByteArray):Prop:=s=D.b\/∃t,t<s.size/\t<D.b.size/\jJ D.L (t+1)=none/\∀i,i<t->aA s i=aA D.b i
def vN(D:DD)(c:ByteArray):Src where
 T:=98
 a:=⟨D.gb,0,none⟩
 base:=D.base
 F:=D.F
 z:=0
 K:=fun w s t=>s=c/\∃k,jJ D.L t=some k/\Ew D w t k
 KE:=ZN D
 t_:=∃t,t<D.b.size/\jJ D.L (t+1)=none
 fb:=D.fb
theorem yR.lt{D:DD}{s:ByteArray}(h:yR D s){t k:Nat}(hp:jJ D.L t=some k)(g:t<s.size):t<D.b.size/\(∀d,jJ D.L (t+1)=some d->aA s t=aA D.b t):=by
 rcases h with rfl|⟨a,j,l,h3,i⟩
 ·exact⟨g,fun _ _=>rfl⟩
 ·have hle:¬a+1<=t:=fun hle=>by
   have:=wP D.L (a+1) (t-(a+1)) h3;rw[show a+1+(t-(a+1))=t by omega,hp]at this;cases this
  refine⟨by omega,fun d c=>i t ?_⟩;rcases bU t a with f|f
  ·exact f
  ·have e:t=a:=by omega
   subst e;rw[h3]at c;cases c
theorem yR.end{D:DD}{s:ByteArray}(h:yR D s){k:Nat}(hp:jJ D.L s.size=some k):s=D.b:=by
 rcases h with rfl|⟨a,c,d,h3,e⟩
 ·rfl
 ·have:=wP D.L (a+1) (s.size-(a+1)) h3;rw[show a+1+(s.size-(a+1))=s.size by omega,hp]at this;cases this
theorem DF{L:List Int}{t k:Nat}(h:jJ L t=some k):jJ L (t+1)=qm L 101 k:=by rw[jJ,h];rfl
theorem ZO(D:DD)(p:ByteArray)(q:yR D p)(j:7<=D.base)(v:D.base<=D.sb)(x:D.base<=D.gb):(vN D p).Ok where
 ng:=j
 Di:=aU _
 low:=fun k l=>by rcases l with rfl|rfl<;>assumption
 ke:=fun⟨_,k,_,h⟩=>h.e
 Vy:=fun⟨⟨t,i⟩,⟨r,k,d⟩,_,_,_⟩ l=>by
  rcases l with rfl|rfl
  ·exact⟨_,_,_,d,by decide⟩
  ·exact⟨_,_,_,i,by decide⟩
 iJ:=fun⟨a,k,b,c⟩ e=>⟨a,k,b,c.over e⟩
 qH:=fun h e=>h.over e
 hb:=fun⟨_,⟨r,k,d⟩,_,h3,_⟩=>by have:=ai d;show D.base<=_;omega
 Tm:=fun w s t ⟨a,k,b,c⟩ y=>by
  subst a;obtain⟨i,d⟩:=q.lt b y;refine(Xn D t k w c i).mono ?_;rintro e w' (⟨m,n,rfl,f,g⟩|⟨n,⟨T,a,rfl,f⟩,g,o⟩)
  ·have u:jJ D.L (t+1)=some m:=(DF b).trans n;exact .inl ⟨by rw[d m u],⟨rfl,m,u,f⟩,g⟩
  ·exact .inr ⟨_,T,a,rfl,f,⟨t,i,(DF b).trans n⟩,g,o⟩
 xx:=fun w s ⟨a,k,b,c⟩=>by subst a;have e:=q.end b;subst e;refine(Xo D k w c).mono ?_;rintro e w' ⟨⟨T,a,rfl,f⟩,g,o⟩;exact⟨_,T,a,rfl,.inl ⟨f,trivial⟩,g.e,o⟩
theorem TD(D:DD)(d:ByteArray)(j:yR D d)(w:af)(t:Nat)(hK:(vN D d).K w d t)(o:t<=d.size):
 aF prog 192 #[.iface 98 (.pointer (some ⟨D.gb,0,none⟩))] w fun e w'=>
  ((t=d.size/\d=D.b/\(∃k,jJ D.L t=some k))/\e= .returned .nilIface/\ZN D w'/\Fr D.F w w')\/
  ((∃T a,e= .returned (.iface T (.pointer (some a)))/\dO (vN D d) w' T a (t<d.size))/\ZN D w'/\Fr D.F w w'):=by
 obtain⟨_,k,b,c⟩:=hK;by_cases h:t<d.size
 ·obtain⟨l,p⟩:=j.lt b h;refine(Xp D t k w c l).mono ?_;rintro e w' ⟨⟨T,a,rfl,m⟩,f,i⟩;exact .inr ⟨⟨T,a,rfl,m.imp (fun g=>⟨g,h⟩) (fun g=>⟨g.1,t,l,(DF b).trans g.2⟩)⟩,f,i⟩
 ·have e:t=d.size:=by omega
  subst e;have e:=j.end b;have n:Ew D w D.b.size k:=by rw[<-e];exact c
  refine(Xq D k w n).mono ?_;rintro q w' ⟨rfl,f,i⟩;exact .inl ⟨⟨rfl,e,k,b⟩,rfl,f.e,i⟩
end Pr
namespace h_
open Rf
theorem gz(s:ByteArray)(i n:Nat)(h:i+n<=s.size):(cut s i n).length=n:=by
 unfold cut;rw[jl,iI];have:s.data.toList.length=s.size:=by simp
 omega
theorem eP(s:ByteArray)(i:Nat):cut s i 0=[]:=by simp[cut]
theorem gJ(s:ByteArray)(i n:Nat)(h:i+n<s.size):cut s i (n+1)=cut s i n++[s[i+n]]:=by
 unfold cut;rw[lN (by rw[iI];have:s.data.toList.length=s.size:=(by simp);omega)];congr 2
 rw[List.getElem_drop];rfl
theorem iq(s:ByteArray)(i n:Nat)(h:i<s.size):cut s i (n+1)=s[i]::cut s (i+1) n:=by unfold cut;rw[mD (by simpa using h),oq];rfl
theorem iG(s:ByteArray)(i m n:Nat):cut s i (m+n)=cut s i m++cut s (i+m) n:=by unfold cut;rw[List.take_add,List.drop_drop]
def iw(n:Nat):List UInt8:=[UInt8.ofNat (n/16777216),UInt8.ofNat (n/65536),UInt8.ofNat (n/256),UInt8.ofNat n]
theorem jd(l:List UInt8):jo l<4294967296:=by unfold jo;omega
end h_
namespace Pr
open Go.RowKit Rf Cr
open h_ (cut gz eP gJ iq iG iw jo jd)
def acR(w:af)(b:Nat)(l:List UInt8):Prop:=∀i,i<l.length->w.cell? ⟨b,i,none⟩=some (.int .u8 (((l.getD i 0).toNat:Nat):Int))
theorem ad9(w:af)(b cap:Nat)(l:List UInt8)(h:acR w b l):(convert 45 9 (.slice (some ⟨b,0,none⟩) l.length cap)).run prog w= .ok (.string ⟨l.toArray⟩) w:=by
 have a:=run_convert_bytes_arg (P:=prog) w 45 5 underlying45 underlying5 b 0 l.length cap (l.map fun x=>((x.toNat:Nat):Int)) (by simp) (fun i hi=>by rw[fF,h i hi];simp[List.getD,List.getElem?_eq_getElem hi]) 9 underlying9
 rw[a];have:strOfNums (l.map fun x=>((x.toNat:Nat):Int))=⟨l.toArray⟩:=by unfold strOfNums;simp[List.map_map,Function.comp_def]
 rw[this]
theorem Xr(n:Nat)(w:af)(a:n<4294967296):(convert 45 9 (.slice (some ⟨w.heap.size,0,none⟩) 4 4)).run prog (w.alloc (.cells #[.int .u8 ((n:Int)/16777216),.int .u8 ((n:Int)/65536%256),.int .u8 ((n:Int)/256%256),.int .u8 ((n:Int)%256)] 5))= .ok (.string ⟨(iw n).toArray⟩) (w.alloc (.cells #[.int .u8 ((n:Int)/16777216),.int .u8 ((n:Int)/65536%256),.int .u8 ((n:Int)/256%256),.int .u8 ((n:Int)%256)] 5)):=
 ad9 _ _ 4 (iw n) (fun i hi=>by
  have hi:i<4:=hi;have:=World.cell?_alloc_mark w #[.int .u8 ((n:Int)/16777216),.int .u8 ((n:Int)/65536%256),.int .u8 ((n:Int)/256%256),.int .u8 ((n:Int)%256)] 5 (0,0) i;refine this.trans ?_;rcases(by omega:i=0\/i=1\/i=2\/i=3)with rfl|rfl|rfl|rfl
  ·show some (Value.int .u8 ((n:Int)/16777216))=some (.int .u8 (((UInt8.ofNat (n/16777216)).toNat:Nat):Int));rw[tN,show((n:Int)/16777216:Int)=((n/16777216%2^8:Nat):Int)by omega]
  ·show some (Value.int .u8 ((n:Int)/65536%256))=some (.int .u8 (((UInt8.ofNat (n/65536)).toNat:Nat):Int));rw[tN,show((n:Int)/65536%256:Int)=((n/65536%2^8:Nat):Int)by omega]
  ·show some (Value.int .u8 ((n:Int)/256%256))=some (.int .u8 (((UInt8.ofNat (n/256)).toNat:Nat):Int));rw[tN,show((n:Int)/256%256:Int)=((n/256%2^8:Nat):Int)by omega]
  ·show some (Value.int .u8 ((n:Int)%256))=some (.int .u8 (((UInt8.ofNat (n)).toNat:Nat):Int));rw[tN,show((n:Int)%256:Int)=((n%2^8:Nat):Int)by omega])
theorem Ak(n:Nat)(w:af)(a:n<4294967296):
 aF prog 175 #[.int .u32 (n:Int)] w fun e w'=>e= .returned (.string ⟨(iw n).toArray⟩)/\aJ w.heap.size w w':=by
 have b:=Xr n w a;go_enter func175,ntmps175
 go_wp2_with fail
 go_ret;exact⟨rfl,(aP _ _).alloc (ag _) _⟩
def Pz(S:Src)(num:Int)(name:ByteArray)(left sum:Nat):Obj:= .cells #[.iface S.T (.pointer (some S.a)),.int .i64 num,.string name,.int .i64 (left:Int),.int .u32 (sum:Int)] 218 (0,0)
structure CR(S:Src)(cb:Nat)(s:ByteArray)(w:af)(p:Nat)(name:ByteArray)(left:Nat)(l:List UInt8):Prop where
 nN:∃num,w.heap[cb]?=some (Pz S num name left (jo l))
 k:S.K w s p
 le:p<=s.size
 ok:S.Ok
 base:S.base<=cb
 no:¬S.F cb
 tab:Tab w
 lf:left<=2147483647
structure oC(S:Src)(cb:Nat)(w:af):Prop where
 nN:∃num name left sum,w.heap[cb]?=some (Pz S num name left sum)
 k:S.KE w
 ok:S.Ok
 base:S.base<=cb
 no:¬S.F cb
def jP(S:Src)(cb:Nat)(k:Nat):Prop:=S.F k\/k=cb
theorem CR.e{S:Src}{cb:Nat}{s:ByteArray}{w:af}{p left:Nat}{name:ByteArray}{l:List UInt8}(h:CR S cb s w p name left l):oC S cb w:=by obtain⟨num,a⟩:=h.nN;exact⟨⟨num,_,_,_,a⟩,h.ok.ke h.k,h.ok,h.base,h.no⟩
theorem xB{w w':af}{base:Nat}(h:Tab w)(hb:7<=base)(e:∀k,k<base->w'.heap[k]?=w.heap[k]?):Tab w':=fun i hi=>(aV (e _ (by omega))).trans (h i hi)
theorem CR.over{S:Src}{cb:Nat}{s:ByteArray}{w w':af}{p left:Nat}{name:ByteArray}{l:List UInt8}(h:CR S cb s w p name left l)(e:∀k,jP S cb k\/k<S.base->w'.heap[k]?=w.heap[k]?):CR S cb s w' p name left l:=by obtain⟨num,b⟩:=h.nN;exact⟨⟨num,(e _ (.inl (.inr rfl))).trans b⟩,h.ok.iJ h.k (fun k a=>e k (a.imp .inl id)),h.le,h.ok,h.base,h.no,xB h.tab h.ok.ng (fun k a=>e k (.inr a)),h.lf⟩
theorem oC.over{S:Src}{cb:Nat}{w w':af}(h:oC S cb w)(e:∀k,jP S cb k\/k<S.base->w'.heap[k]?=w.heap[k]?):oC S cb w':=by obtain⟨num,a,b,c,d⟩:=h.nN;exact⟨⟨num,a,b,c,(e _ (.inl (.inr rfl))).trans d⟩,h.ok.qH h.k (fun k f=>e k (f.imp .inl id)),h.ok,h.base,h.no⟩
theorem oC.lt{S:Src}{cb:Nat}{w:af}(h:oC S cb w):(∀k,jP S cb k\/k<S.base->k<w.heap.size)/\S.base<=w.heap.size:=by
 obtain⟨num,a,b,c,e⟩:=h.nN;have:=ai e;have hb:=h.base;refine⟨fun k d=> ?_,by omega⟩;rcases d with(d|rfl)|d
 ·exact h.ok.lt h.k d
 ·exact this
 ·omega
theorem CR.grow{S:Src}{cb:Nat}{s:ByteArray}{w w':af}{p left:Nat}{name:ByteArray}{l:List UInt8}(h:CR S cb s w p name left l)(e:∀k,k<w.heap.size->w'.heap[k]?=w.heap[k]?):CR S cb s w' p name left l:=h.over (fun k a=>e k (h.e.lt.1 k a))
theorem oC.grow{S:Src}{cb:Nat}{w w':af}(h:oC S cb w)(e:∀k,k<w.heap.size->w'.heap[k]?=w.heap[k]?):oC S cb w':=h.over (fun k a=>e k (h.lt.1 k a))
theorem CR.src{S:Src}{cb:Nat}{s:ByteArray}{w w':af}{p a left:Nat}{name:ByteArray}{l:List UInt8}(h:CR S cb s w p name left l)(b:S.K w' s a)(hp:a<=s.size)(c:Fr S.F w w'):CR S cb s w' a name left l:=by obtain⟨num,d⟩:=h.nN;have hb:=h.e.lt.2;exact⟨⟨num,(c.block cb (ai d) h.no).trans d⟩,b,hp,h.ok,h.base,h.no,xB h.tab h.ok.ng (fun k b=>c.block k (by omega) (fun e=>by have:=h.ok.low k e;omega)),h.lf⟩
theorem CR.PD{S:Src}{cb:Nat}{s:ByteArray}{w w':af}{p left:Nat}{name:ByteArray}{l:List UInt8}(h:CR S cb s w p name left l)(b:S.KE w')(c:Fr S.F w w'):oC S cb w':=by obtain⟨num,a⟩:=h.nN;exact⟨⟨num,_,_,_,(c.block cb (ai a) h.no).trans a⟩,b,h.ok,h.base,h.no⟩
theorem CR.cells{S:Src}{cb:Nat}{s:ByteArray}{w:af}{p left:Nat}{name:ByteArray}{l:List UInt8}(h:CR S cb s w p name left l):∃num,w.cell? ⟨cb,0,none⟩=some (.iface S.T (.pointer (some S.a)))/\w.cell? ⟨cb,1,none⟩=some (.int .i64 num)/\w.cell? ⟨cb,2,none⟩=some (.string name)/\w.cell? ⟨cb,3,none⟩=some (.int .i64 (left:Int))/\w.cell? ⟨cb,4,none⟩=some (.int .u32 ((jo l:Nat):Int))/\(∀i,w.frozen? ⟨cb,i,none⟩=false)/\w.heap[cb]?=some (Pz S num name left (jo l)):=by obtain⟨num,b⟩:=h.nN;exact⟨num,by simpa using(cell_of b 0).1,by simpa using(cell_of b 1).1,by simpa using(cell_of b 2).1,by simpa using(cell_of b 3).1,by simpa using(cell_of b 4).1,fun i=>(cell_of b i).2,b⟩
theorem CR.put{S:Src}{cb:Nat}{s:ByteArray}{w w':af}{p left a:Nat}{name b:ByteArray}{l f:List UInt8}(h:CR S cb s w p name left l)(num:Int)(hb:w'.heap[cb]?=some (Pz S num b a (jo f)))(g:a<=2147483647)(e:∀k,k<w.heap.size->k≠cb->w'.heap[k]?=w.heap[k]?):CR S cb s w' p b a f:=by have d:=h.e.lt;have i:=h.base;exact⟨⟨num,hb⟩,h.ok.iJ h.k (fun k c=>e k (d.1 k (c.imp .inl id)) (fun j=>c.elim (fun c=>h.no (j▸c)) (fun c=>by omega))),h.le,h.ok,h.base,h.no,xB h.tab h.ok.ng (fun k c=>e k (by omega) (by omega)),g⟩
theorem acS(l:List UInt8)(b:UInt8):4294967295-yO (ET 4294967295 l) b=jo (l++[b]):=by
 unfold jo;rw[BQ];have h:=Kq ⟨(l++[b]).toArray⟩ l.length (by show l.length<(l++[b]).toArray.size;simp);have a:(⟨(l++[b]).toArray⟩:ByteArray).data.toList=l++[b]:=by simp
 rw[a,iY (by simp),List.take_left]at h;rw[BQ]at h;rw[h];have c:(⟨(l++[b]).toArray⟩:ByteArray)[l.length]'(by show l.length<(l++[b]).toArray.size;simp)=b:=by show(l++[b]).toArray[l.length]'(by simp)=b;simp
 rw[c]
theorem vX(S:Src)(cb:Nat)(s:ByteArray)(w:af)(p left:Nat)(name:ByteArray)(l:List UInt8)(h:CR S cb s w p name (left+1) l):
 aF prog 179 #[.pointer (some ⟨cb,0,none⟩)] w fun e w'=>
  (∃hp:p<s.size,e= .returned (.tuple #[.int .u8 ((aA s p:Nat):Int),.nilIface])/\CR S cb s w' (p+1) name left (l++[s[p]])/\Fr (jP S cb) w w')\/
  ((∃T a,e= .returned (.tuple #[.int .u8 0,.iface T (.pointer (some a))])/\dO S w' T a (¬p<s.size))/\oC S cb w'/\Fr (jP S cb) w w'):=by
 obtain⟨num,c0,c1,c2,v,z,D,f⟩:=h.cells;have A:=h.ok.one w s p h.k h.le;have E:=h.lf;clear D c1 c2 f;go_enter func179,ntmps179
 go_wp2_with fail
 refine A.mono ?_;clear A;rintro e w1 (⟨hp,rfl,q,g⟩|⟨x,T,a,rfl,F,q,g⟩)
 ·have b:=h.src q (by omega) g;obtain⟨i,K,G,H,d3,L,r,c⟩:=b.cells;have M:=r 3;have N:=r 4;have B:aA s p=(s[p]).toNat:=dL s p hp;have t:ET 4294967295 l<4294967296:=SN l 4294967295 (by decide);have j:=fun x=>xB b.tab b.ok.ng (w':=w1.setCell ⟨cb,3,none⟩ x) (fun k m=>aB 3 x (by have:=b.base;omega));have I:ah (∀x,aF prog 131 #[.int .u32 ((jo l:Nat):Int),.int .u8 ((aA s p:Nat):Int)] (w1.setCell ⟨cb,3,none⟩ x) fun e w'=>e= .returned (.int .u32 ((jo (l++[s[p]]):Nat):Int))/\w'=w1.setCell ⟨cb,3,none⟩ x):=(fun x=>by
   rw[B,<-acS];exact FY (jo l) (ET 4294967295 l) s[p] _ t rfl (j x):∀x,_)
  have n:ah (∀x,(w1.setCell ⟨cb,3,none⟩ (.int .i64 (left:Int))).setCell ⟨cb,4,none⟩ (.int .u32 ((jo (l++[s[p]]):Nat):Int))=x->CR S cb s x (p+1) name left (l++[s[p]])/\Fr (jP S cb) w x):=(fun x hx=>by subst hx;refine⟨b.put i ?_ (by omega) (fun k m o=>(aB 4 _ o).trans (aB 3 _ o)),(((g.mono (fun k m=> .inl m)).set cb 3 (.inr rfl) _).set cb 4 (.inr rfl) _)⟩;exact(bG (bG c 3 _) 4 _).trans (by simp[Pz]):∀x,_)
  clear c0 v z j G H r c B;generalize C:aA s p=y at*;have J:ah _:=C;clear C;generalize jo (l++[s[p]])=v2 at*;go_wp2_with fail
  refine(I.out _).mono ?_;rintro e w2 ⟨rfl,rfl⟩;go_wp2_with fail
  go_ret2;have d:=n.out _ rfl;exact .inl ⟨hp,vW (gY Nat.cast J.out.symm),d.1,d.2⟩
 ·have u:=h.PD q g;clear c0 v z;go_wp2_with fail
  go_ret2;exact .inr ⟨⟨T,a,rfl,F⟩,u,g.mono (fun k m=> .inl m)⟩
end Pr
namespace Pr
open Go.RowKit Rf Cr
open h_ (cut gz eP gJ iq iG iw jo jd)
def TF(w:af)(cb:Nat):Nat:=match w.cell? ⟨cb,3,none⟩with
 |some (.int _ n)=>n.toNat
 |_=>0
theorem KI{S:Src}{cb:Nat}{s:ByteArray}{w:af}{p left:Nat}{name:ByteArray}{l:List UInt8}(h:CR S cb s w p name left l):TF w cb=left:=by obtain⟨num,_,_,_,a,_⟩:=h.cells;unfold TF;rw[a];simp
def jK(s:ByteArray)(p left:Nat)(l:List UInt8):Prop:=Match s (p+left) ⟨(iw (jo (l++cut s p left))).toArray⟩
theorem Gy(S:Src)(hS:S.Ok)(s x f:ByteArray)(t:Nat)(w:af)(hK:S.K w s t)(g:t<=s.size)(hx:x.size<=1000):
 aF prog 174 #[.iface S.T (.pointer (some S.a)),.string x,.string f] w fun e w'=> ∃v:ay,e= .returned v/\
  ((Match s t x/\v= .nilIface/\S.K w' s (t+x.size)/\Fr S.F w w')\/
  ((∃T a,v= .iface T (.pointer (some a))/\dO S w' T a (¬Match s t x))/\S.KE w'/\Fr S.F w w')):=by
 refine(AY S hS s x f t w hK g hx).mono ?_;rintro e w' (⟨a,rfl,b,c⟩|⟨⟨T,a,rfl,b⟩,c,d⟩)
 ·exact⟨_,rfl,.inl ⟨a,rfl,b,c⟩⟩
 ·exact⟨_,rfl,.inr ⟨⟨T,a,rfl,b⟩,c,d⟩⟩
theorem xC(S:Src)(cb:Nat)(s:ByteArray)(w:af)(p left:Nat)(name:ByteArray)(l:List UInt8)(h:CR S cb s w p name left l):
 aF prog 148 #[.pointer (some ⟨cb,0,none⟩)] w fun e w'=>
  (jK s p left l/\e= .returned .nilIface/\CR S cb s w' (p+left+4) name 0 (l++cut s p left)/\Fr (jP S cb) w w')\/
  ((∃T a,e= .returned (.iface T (.pointer (some a)))/\dO S w' T a (¬jK s p left l))/\oC S cb w'/\Fr (jP S cb) w w'):=by
 have g:ah (jK s p left l↔Match s (p+left) ⟨(iw (jo (l++cut s p left))).toArray⟩):=Iff.rfl;obtain⟨Q,M⟩:∃Q:Prop,Q=jK s p left l:=⟨_,rfl⟩;rw[<-M]at g|-;clear M;go_enter func148,ntmps148
 go_wp2_with fail
 go_loopw [3] (fun _ wr=> ∃j:Nat,j<=left/\CR S cb s wr (p+j) name (left-j) (l++cut s p j)/\Fr (jP S cb) w wr) (fun _ wr=>TF wr cb)
 case atStart=>exact⟨0,aU _,by rw[eP,zA];exact h,Fr.refl _ _⟩
 case round=>
  clear h;obtain⟨j,Y,f,hF⟩:=hrel;have z:ah _:=KI f;by_cases R:j<left
  ·obtain⟨m,hm⟩:∃m,left-j=m+1:=⟨left-j-1,by omega⟩;have N:ah _:=hm;rw[hm]at f;obtain⟨num,c0,c1,c2,A,B,C,d⟩:=f.cells;have O:=vX S cb s wr (p+j) m name _ f;have U:=f.lf;clear hm c0 c1 c2 B C d;go_wp2_with fail
   refine O.mono ?_;clear O;rintro e w1 (⟨hp,rfl,u,D⟩|⟨⟨T,a,rfl,x⟩,u,D⟩)
   ·have E:ah _:=KI u;have V:ah _:=gJ s p j hp;clear A;go_wp2_with fail
    go_roundw
    case rel=>refine⟨j+1,by omega,?_,hF.trans D⟩;rw[V.out,<-bV,show left-(j+1)=m by have:=N.out;omega];exact u
    case measure=>rw[z.out,E.out,N.out];omega
   ·have W:dO S w1 T a (¬Q):=x.imp (fun x F=>x (by have:=(g.out.1 F).1;omega));clear x A;go_wp2_with fail
    go_ret;exact .inr ⟨⟨T,a,rfl,W⟩,u,hF.trans D⟩
  ·have e:j=left:=by omega
   subst e;rw[iW]at f;obtain⟨num,c0,c1,c2,A,B,C,d⟩:=f.cells;have n:=jd (l++cut s p j);obtain⟨v,G⟩:∃v,v=jo (l++cut s p j):=⟨_,rfl⟩;rw[<-G]at B n;have X:ah _:=G;have H:(⟨(iw v).toArray⟩:ByteArray).size=4:=rfl;clear c1 c2 C d G;have o:ah (Q↔Match s (p+j) ⟨(iw v).toArray⟩):=(by rw[X.out];exact g.out:_↔_);go_wp2_with fail
   have I:CR S cb s wr.drew (p+j) name 0 (l++cut s p j):=f.grow (fun _ _=>rfl)
   go_region_with (first
    |(go_at_call 175;refine(Ak v _ n).mono ?_;rintro e w3 ⟨rfl,b⟩;have c:=I.grow (fun k i=>b.block k i);obtain⟨P,Z,_,_,_,_,_,_⟩:=c.cells)
    |(go_at_call 174;refine(Gy S c.ok s ⟨(iw v).toArray⟩ _ (p+j) _ c.k c.le (by rw[H];omega)).mono ?_;rintro e w4 ⟨v4,rfl,J⟩))
   all_goals
    go_wp2_with fail
    go_ret;have r:Fr (jP S cb) w w3:=hF.drew.trans ⟨b.os,b.tape,b.output,b.size,fun k i _=>b.block k i⟩;rcases J with⟨y,rfl,K,t⟩|⟨⟨T,a,rfl,y⟩,K,t⟩
    ·have L:=c.src K (by have:=y.1;exact this) t;exact .inl ⟨o.out.2 y,rfl,L,r.trans (t.mono (fun k i=> .inl i))⟩
    ·exact .inr ⟨⟨T,a,rfl,y.imp (fun q F=>q (o.out.1 F))⟩,c.PD K t,r.trans (t.mono (fun k i=> .inl i))⟩
end Pr
end Go.Proofs.YtephkcdbnogdhaaGreatDoor
