import Derived.Test.YtephkcdbnogdhabGreatDoorM3
import Derived.Test.YtephkcdbnogdhabGreatDoorM4
set_option linter.unusedVariables false
set_option maxHeartbeats 40000000
set_option maxRecDepth 10000
namespace Go.Proofs.YtephkcdbnogdhabGreatDoor
open Go.Proofs.Tryz
open Go renaming World->af,Value->ay,Calls->aH,TypeId->aW,Addr->bG
open Go.RowKit renaming Hid->au,Below->aA,intOf->bH
namespace Er
open Go.RowKit Go.Extern.Stop Go.Stop Go.Extern
open Pr (o_ QM zo jM wG PR)
theorem acs(v:ay)(a:aW)(w:af):(Instr.typeAssert (.iface 284 v) a 149 true).run prog w= .ok (.tuple #[.nilIface,.bool false]) w:=run_typeAssert_lacksB underlying149 (by kernel_rfl) (by kernel_rfl) v a w
theorem Cb(v:ay)(a:aW)(w:af):(Instr.typeAssert (.iface 284 v) a 152 true).run prog w= .ok (.tuple #[.nilIface,.bool false]) w:=run_typeAssert_lacksB underlying152 (by kernel_rfl) (by kernel_rfl) v a w
theorem zW(v:ay)(a:aW)(w:af):(Instr.typeAssert (.iface 284 v) a 153 true).run prog w= .ok (.tuple #[.nilIface,.bool false]) w:=run_typeAssert_lacksB underlying153 (by kernel_rfl) (by kernel_rfl) v a w
theorem ady(v:ay)(a:aW)(w:af):(Instr.typeAssert (.iface 284 v) a 158 true).run prog w= .ok (.tuple #[.nilIface,.bool false]) w:=run_typeAssert_lacksB underlying158 (by kernel_rfl) (by kernel_rfl) v a w
theorem aaW(w:af):(ext f202 #[.agg #[.pointer (some ⟨7,284,none⟩)],.iface 147 (.agg #[.pointer (some ⟨7,93,none⟩)])]).run prog w= .ok (.bool false) w:=by kernel_rfl
theorem adz{a b:bG}{w:af}{f cb:Array ay}{g tb:aW}(d:a≠b)(h:w.heap[a.block]?=some (.cells f g (0,0)))(hb:w.heap[b.block]?=some (.cells cb tb (0,0))):
 (binOp .eql 73 (.iface 284 (.pointer (some a))) (.iface 284 (.pointer (some b)))).run prog w= .ok (.bool false) w:=by
 obtain⟨i,hi,c⟩:=Option.map_eq_some_iff.1 Pz;obtain⟨j,k,e⟩:=Option.map_eq_some_iff.1 PD;exact run_eql_iface_ptr_other (P:=prog) w underlying73 underlying284 hi c k (by rw[e];decide) d h hb
def QE(r:bG)(T:aW)(a:bG):Prop:=T=284/\a=r
theorem yK(r:bG):PR (QE r):=fun T a h=>by rw[h.1];decide
set_option maxRecDepth 100000 in
theorem SA(n:Nat)(T:aW)(a r:bG)(w:af)(h:o_ (QE r) w n T a):
 aH prog 48 #[.iface T (.pointer (some a)),.iface 284 (.pointer (some r)),.bool true] w fun e w'=>e= .returned (.bool true)/\w'=w:=by
 have p:=Xr;have q:=Mc;have u1:=nV;have s:=lK;have t:=adw r;go_enter func48,ntmps48
 go_wp2_with fail
 go_loop [0] (fun v=> ∃n T a,v= .iface T (.pointer (some a))/\o_ (QE r) w n T a) (fun v=>zo (QE r) w v)
 case atStart=>exact⟨n,T,a,rfl,h⟩
 case round=>
  clear h;obtain⟨n,T,a,rfl,h⟩:=hrel;have l:au _:=jM (yK r) h;cases n with
  |zero=>
   obtain⟨c,m⟩:=h;subst c m;go_wp2
   go_ret;exact⟨rfl,rfl⟩
  |succ n=>
   obtain⟨c,b,u,k,d,f,rfl,j,g⟩:=h;subst c;have c0:w.cell? ⟨b,2,none⟩=some (.iface d (.pointer (some f))):=by simpa using(Pr.cell_of j 2).1
   have i:au _:=jM (yK r) g;have o:au _:=g;clear j g;go_wp2
   go_round
   case rel=>exact⟨n,d,f,rfl,o.out⟩
   case measure=>show zo (QE r) _ (Value.iface d (.pointer (some f)))<_;rw[i.out,l.out];omega
set_option maxRecDepth 100000 in
theorem Xu(n:Nat)(T:aW)(a r b:bG)(w:af)(h:o_ (QE r) w n T a){o cb:Array ay}{p tb:aW}(c:r≠b)(d:w.heap[r.block]?=some (.cells o p (0,0)))(hb:w.heap[b.block]?=some (.cells cb tb (0,0))):
 aH prog 48 #[.iface T (.pointer (some a)),.iface 284 (.pointer (some b)),.bool true] w fun e w'=>e= .returned (.bool false)/\w'=w:=by
 have t:=Xr;have x:=Mc;have y:=acs;have u1:=nV;have u3:=Cb;have u4:=zW;have z:=lK;have A:=adz c d hb;clear d hb c;go_enter func48,ntmps48
 go_wp2_with fail
 go_loop [0] (fun v=> ∃n T a,v= .iface T (.pointer (some a))/\o_ (QE r) w n T a) (fun v=>zo (QE r) w v)
 case atStart=>exact⟨n,T,a,rfl,h⟩
 case round=>
  clear h;obtain⟨n,T,a,rfl,h⟩:=hrel;have q:au _:=jM (yK r) h;cases n with
  |zero=>
   obtain⟨f,d⟩:=h;subst f d;go_wp2
   go_ret;exact⟨rfl,rfl⟩
  |succ n=>
   obtain⟨f,b,u,k,g,i,rfl,m,j⟩:=h;subst f;have c0:w.cell? ⟨b,2,none⟩=some (.iface g (.pointer (some i))):=by simpa using(Pr.cell_of m 2).1
   have l:au _:=jM (yK r) j;have s:au _:=j;clear m j;go_wp2
   go_round
   case rel=>exact⟨n,g,i,rfl,s.out⟩
   case measure=>show zo (QE r) _ (Value.iface g (.pointer (some i)))<_;rw[l.out,q.out];omega
set_option maxRecDepth 100000 in
theorem aaX(n:Nat)(T:aW)(a fb b:bG)(w:af)(h:o_ (QF fb) w n T a){r cb:Array ay}{s tb:aW}(f:fb≠b)(i:w.heap[fb.block]?=some (.cells r s (0,0)))(hb:w.heap[b.block]?=some (.cells cb tb (0,0)))(hF:w.cell? ⟨0,0,none⟩=some (.iface 284 (.pointer (some fb)))):
 aH prog 48 #[.iface T (.pointer (some a)),.iface 284 (.pointer (some b)),.bool true] w fun e w'=>e= .returned (.bool false)/\w'=w:=by
 have t:=Xr;have e3:=adv;have x:=Mc;have y:=acr;have z:=acs;have u1:=nV;have u2:=EK;have u3:=Cb;have u4:=zW;have A:=lK;have B:=zG;have C:=adz f i hb;clear i hb f;go_enter func48,ntmps48
 go_wp2_with fail
 go_loop [0] (fun v=> ∃n T a,v= .iface T (.pointer (some a))/\o_ (QF fb) w n T a) (fun v=>GR fb w v)
 case atStart=>exact⟨n,T,a,rfl,h⟩
 case round=>
  clear h;obtain⟨n,T,a,rfl,h⟩:=hrel;have p:au _:=jM (yJ fb) h;cases n with
  |zero=>
   rcases h with⟨g,i⟩|g
   ·subst g i;go_wp2
    go_ret;exact⟨rfl,rfl⟩
   ·subst g;have j:au (o_ (QF fb) w 0 284 fb):=(.inl ⟨rfl,rfl⟩:QF fb _ _);have d:au _:=jM (yJ fb) j.out;go_wp2
    go_round
    case rel=>exact⟨0,_,fb,rfl,j.out⟩
    case measure=>show GR fb _ (Value.iface 284 (.pointer (some fb)))<_;unfold GR;rw[d.out,p.out,aG rfl,ax (fun e=>by injection e with e _;revert e;decide)];omega
  |succ n=>
   obtain⟨g,b,u,k,l,m,rfl,q,o⟩:=h;subst g;have c0:w.cell? ⟨b,2,none⟩=some (.iface l (.pointer (some m))):=by simpa using(Pr.cell_of q 2).1
   have d:au _:=jM (yJ fb) o;have j:au _:=o;clear q o;go_wp2
   go_round
   case rel=>exact⟨n,l,m,rfl,j.out⟩
   case measure=>show GR fb _ (Value.iface l (.pointer (some m)))<_;unfold GR;rw[d.out,p.out,ax (c:=Value.iface 110 _=_) (fun e=>by injection e with e _;revert e;decide)];split<;>omega
set_option maxRecDepth 100000 in
theorem aaY(B:Nat)(n:Nat)(T:aW)(a r t c:bG)(w:af)(h:o_ (QE r) w n T a)(z:w.cell? c=some (.pointer (some t)))(d:B<=w.heap.size):
 aH prog 52 #[.iface T (.pointer (some a)),.iface 96 (.pointer (some t)),.agg #[.pointer (some ⟨7,96,none⟩),.pointer (some c),.int .u64 150],.iface 147 (.agg #[.pointer (some ⟨7,93,none⟩)])] w fun e w'=>e= .returned (.bool false)/\aA B w w':=by
 have A:=wC;have C:=vF;have D:=sU;have E:=lK;have F:=Ez;have G:=Si;have H:=aaW;have I:=Sj;have J:=aco;have K:=nV;have L:=ady;have M:=Cb;have o:=zW;have h0:o_ (QE r) (w.alloc (.cells #[.pointer (some ⟨7,96,none⟩),.pointer (some c),.int .u64 150] 121)) n T a:=h.grow (fun k p=>ai w _ k p);have q:au (aA B w (w.alloc (.cells #[.pointer (some ⟨7,96,none⟩),.pointer (some c),.int .u64 150] 121))):=(aV _ _).alloc d _;clear h;go_enter func52,ntmps52
 go_wp2_with fail
 go_loop [0] (fun v=> ∃n T a,v= .iface T (.pointer (some a))/\o_ (QE r) (w.alloc (.cells #[.pointer (some ⟨7,96,none⟩),.pointer (some c),.int .u64 150] 121)) n T a) (fun v=>zo (QE r) (w.alloc (.cells #[.pointer (some ⟨7,96,none⟩),.pointer (some c),.int .u64 150] 121)) v)
 case atStart=>exact⟨n,T,a,rfl,h0⟩
 case round=>
  clear h0;obtain⟨n,T,a,rfl,h⟩:=hrel;have s:au _:=jM (yK r) h;cases n with
  |zero=>
   obtain⟨f,x⟩:=h;subst f x;go_wp2
   go_ret;exact⟨rfl,q.out⟩
  |succ n=>
   obtain⟨f,b,u,k,g,i,rfl,m,j⟩:=h;subst f;have c0:(w.alloc (.cells #[.pointer (some ⟨7,96,none⟩),.pointer (some c),.int .u64 150] 121)).cell? ⟨b,2,none⟩=some (.iface g (.pointer (some i))):=by simpa using(Pr.cell_of m 2).1
   have l:au _:=jM (yK r) j;have y:au _:=j;clear m j;go_wp2
   go_round
   case rel=>exact⟨n,g,i,rfl,y.out⟩
   case measure=>show zo (QE r) _ (Value.iface g (.pointer (some i)))<_;rw[l.out,s.out];omega
set_option maxRecDepth 100000 in
theorem aaZ(B:Nat)(n:Nat)(T:aW)(a r t:bG)(b:ay)(w:af)(d:w.cell? ⟨3,0,none⟩=some (.iface 147 (.agg #[.pointer (some ⟨7,73,none⟩)])))(h:o_ (QE r) w n T a)(f:w.cell? t=some b)(g:B<=t.block):
 aH prog 41 #[.iface T (.pointer (some a)),.iface 96 (.pointer (some t))] w fun e w'=>e= .returned (.bool false)/\aA B w w':=by
 have c:B<=w.heap.size:=aY g (Nat.le_of_lt (yG f));have m:=xG;have o:=Io;have p:=LM;have q:=Ip;have s:=LP;have i:=xH;have u:=EC;have v:=ED;have x:=vG;have y:=LQ;have z:=acj;have A:=ack;have C:=acm;have D:=acn;have E:=Dl;have nl:=Xg ⟨w.heap.size,0,none⟩ t ((w.alloc (.cells #[.pointer (some t)] 96)).alloc (.cells #[.pointer (some ⟨7,96,none⟩),.pointer (some ⟨w.heap.size,0,none⟩),.int .u64 150] 121)) (by simp);have j:=bU (bU d (.cells #[.pointer (some t)] 96)) (.cells #[.pointer (some ⟨7,96,none⟩),.pointer (some ⟨w.heap.size,0,none⟩),.int .u64 150] 121);have H:au _:=h;clear h;go_enter func41,ntmps41
 go_wp2_with fail
 refine(aaY B n T a r t _ _ ?_ ?_ ?_).mono ?_
 ·exact H.out.grow (fun k l=>(ai _ _ k (by simp;omega)).trans (ai w _ k l))
 ·simp
 ·simp;omega
 rintro e w' ⟨rfl,hb⟩;go_wp2
 go_ret;exact⟨rfl,(((aV _ _).alloc c _).alloc (by simp;omega) _).trans hb⟩
end Er
namespace Pr
open Go.RowKit
def uB(w:af)(lb:bG):Prop:=w.cell? ⟨1,0,none⟩=some (.iface 284 (.pointer (some lb)))
theorem uB.over{w w':af}{lb:bG}(h:uB w lb)(e:w'.heap[1]?=w.heap[1]?):uB w' lb:=(aQ e).trans h
structure ja(w:af)(eb fb lb:bG)(base:Nat):Prop where
 en:ny w eb
 fa:kL w fb
 la:uB w lb
 ef:eb≠fb
 el:eb≠lb
 fl:fb≠lb
 be:∃c t,w.heap[eb.block]?=some (.cells c t (0,0))
 bf:∃c t,w.heap[fb.block]?=some (.cells c t (0,0))
 bl:∃c t,w.heap[lb.block]?=some (.cells c t (0,0))
 lt:eb.block<base/\fb.block<base/\lb.block<base
 ng:7<=base
theorem ja.over{w w':af}{eb fb lb:bG}{base:Nat}(h:ja w eb fb lb base)(e:∀k,k<base->w'.heap[k]?=w.heap[k]?):ja w' eb fb lb base:=by
 have a:=h.ng;refine⟨h.en.over (e _ (by omega)),h.fa.over (e _ (by omega)),h.la.over (e _ (by omega)),h.ef,h.el,h.fl,?_,?_,?_,h.lt,h.ng⟩
 ·rw[e _ h.lt.1];exact h.be
 ·rw[e _ h.lt.2.1];exact h.bf
 ·rw[e _ h.lt.2.2];exact h.bl
def Iz(lb:bG)(w:af)(T:aW)(a:bG):Prop:=∃n,o_ (Er.QE lb) w n T a
theorem ja.acu{w:af}{eb fb lb:bG}{base:Nat}(h:ja w eb fb lb base)(n:Nat)(T:aW)(a:bG)(b:o_ (Er.QE eb) w n T a):
 aH prog 40 #[.iface T (.pointer (some a)),.iface 284 (.pointer (some eb))] w fun e w'=>e= .returned (.bool true)/\w'=w:=Er.EL true T a eb w (Er.SA n T a eb w b)
theorem ja.Xv{w:af}{eb fb lb:bG}{base:Nat}(h:ja w eb fb lb base)(n:Nat)(T:aW)(a:bG)(b:o_ (Er.QF fb) w n T a):
 aH prog 40 #[.iface T (.pointer (some a)),.iface 284 (.pointer (some eb))] w fun e w'=>e= .returned (.bool false)/\w'=w:=by
 obtain⟨c,t,h1⟩:=h.bf;obtain⟨d,f,h2⟩:=h.be;exact Er.EL false T a eb w (Er.aaX n T a fb eb w b (rG h.ef) h1 h2 h.fa)
theorem ja.acO{w:af}{T:aW}{a:bG}(eb:bG)(b:iQ w T a):
 aH prog 40 #[.iface T (.pointer (some a)),.iface 284 (.pointer (some eb))] w fun e w'=>e= .returned (.bool false)/\w'=w:=by
 obtain⟨n,b⟩:=b;exact Er.EL false T a eb w (Er.Xt n T a eb w b)
theorem Uo(T:aW)(a eb fb lb:bG)(base:Nat)(w:af)(o:xI w)(hS:ja w eb fb lb base)(hb:base<=w.heap.size)(h:Iz lb w T a):
 aH prog 33 #[.iface T (.pointer (some a))] w fun e w'=>e= .returned (.int .i64 2)/\aA w.heap.size w w':=by
 obtain⟨n,h⟩:=h;have j:=Er.bU o.2 (.cells #[.pointer none] 93);have b:ja (w.alloc (.cells #[.pointer none] 93)) eb fb lb base:=hS.over (fun k f=>ai w _ k (by omega));have g:=b.fa;have i:=b.la;have H0:au (o_ (Er.QE lb) (w.alloc (.cells #[.pointer none] 93)) n T a):=o_.grow (fun k f=>ai w _ k f) h;have p:au (aA w.heap.size w (w.alloc (.cells #[.pointer none] 93))):=(aV _ _).alloc (ah _) _;obtain⟨c,t,h1⟩:=b.bl;obtain⟨s,u,h2⟩:=b.bf;have q:au (o_ (Er.QE lb) w n T a):=h;have r:=Er.EL false T a fb _ (Er.Xu n T a lb fb _ H0.out (rG hS.fl) h1 h2);clear h h1 h2;unfold kL at g;unfold uB at i;go_enter func33,ntmps33
 go_wp2_with fail
 refine r.mono ?_;rintro e w' ⟨rfl,rfl⟩;go_wp2_with fail
 refine(Er.aaZ w.heap.size n T a lb ⟨w.heap.size,0,none⟩ (.pointer none) _ j H0.out (by simp) (ah _)).mono ?_;rintro e w2 ⟨rfl,d⟩;have l:ja w2 eb fb lb base:=b.over (fun k f=>d.block k (by omega));have m:=l.la;unfold uB at m;have H1:o_ (Er.QE lb) w2 n T a:=q.out.grow (fun k f=>(d.block k f).trans (ai w _ k f));clear i g;go_wp2_with fail
 refine(Er.EL true T a lb _ (Er.SA n T a lb _ H1)).mono ?_;rintro e w' ⟨rfl,rfl⟩;go_wp2_with fail
 go_ret;exact⟨rfl,p.out.trans d⟩
end Pr
namespace Rf
def qA(L:List Int):Nat->Nat->Option Nat
 |0,_=>none
 |m+1,k=>if L.length<=k then some k else if L.getD k 0<0 then none else if L.getD k 0=0 then qA L m (k+1)else some (k+1)
def nY(L:List Int):Nat->Option Nat
 |0=>some 0
 |t+1=>(nY L t).bind (qA L 101)
theorem aa0(L:List Int)(m:Nat):∀k a,k<=L.length->qA L m k=some a->a<=L.length:=by
 induction m with
 |zero=>intro k a _ h;cases h
 |succ m b=>
  intro k a c h;rw[qA]at h;split at h
  ·cases h;exact c
  ·split at h
   ·cases h
   ·split at h
    ·exact b _ _ (by omega) h
    ·cases h;omega
theorem IA(L:List Int)(t d:Nat)(h:nY L t=none):nY L (t+d)=none:=by
 induction d with
 |zero=>exact h
 |succ d a=>rw[<-dK,nY,a];rfl
end Rf
namespace Pr
open Go.RowKit Rf
def gq(w:af)(base:Nat)(sl:ay)(L:List Int):Prop:=∃(la:Option bG) (cap:Nat),sl= .slice la L.length cap/\L.length<=140737488351232/\∀i,i<L.length->∃a:bG,la=some a/\a.block<base/\w.cell? (a.add i)=some (.int .i64 (L.getD i 0))/\ -9223372036854775808<=L.getD i 0/\L.getD i 0<=9223372036854775807
theorem qB{w w':af}{a:bG}(h:w'.heap[a.block]?=w.heap[a.block]?):w'.cell? a=w.cell? a:=by simp[World.cell?,h]
theorem wH(a:bG)(n:Nat):(a.add n).block=a.block:=by unfold Addr.add;split<;>rfl
theorem gq.over{w w':af}{base:Nat}{sl:ay}{L:List Int}(h:gq w base sl L)(e:∀k,k<base->w'.heap[k]?=w.heap[k]?):gq w' base sl L:=by obtain⟨la,cap,h1,h2,c⟩:=h;refine⟨la,cap,h1,h2,fun i hi=> ?_⟩;obtain⟨a,d,b,f,g⟩:=c i hi;exact⟨a,d,b,(qB (a:=a.add i) (e _ (by rw[wH];exact b))).trans f,g⟩
theorem Md(sb base:Nat)(rest:ByteArray)(sl:ay)(L:List Int)(asked:Int)(w:af)(h:w.heap[sb]?=some (.cells #[.string rest,sl,.int .i64 (L.length:Int)] 86 (0,0)))(hS:gq w base sl L):
 aH prog 191 #[.pointer (some ⟨sb,0,none⟩),.int .i64 asked] w fun e w'=>e= .returned (.int .i64 asked)/\∃nq,w'=w.drewN nq:=by
 obtain⟨la,cap,rfl,b,a⟩:=hS;clear a;have c1:w.cell? ⟨sb,1,none⟩=some (.slice la L.length cap):=by simpa using(cell_of h 1).1
 have c2:w.cell? ⟨sb,2,none⟩=some (.int .i64 (L.length:Int)):=by simpa using(cell_of h 2).1
 generalize L.length=n at*;go_enter func191,ntmps191
 go_wp2_with fail
 go_quiet (fail)
 go_wp2_with fail
 go_ret;exact⟨rfl,_,rfl⟩
theorem aa1(sb base:Nat)(rest:ByteArray)(sl:ay)(L:List Int)(k:Nat)(asked:Int)(w:af)(h:w.heap[sb]?=some (.cells #[.string rest,sl,.int .i64 (k:Int)] 86 (0,0)))(hS:gq w base sl L)(f:k<L.length)(g:base<=sb):
 aH prog 191 #[.pointer (some ⟨sb,0,none⟩),.int .i64 asked] w fun e w'=>e= .returned (.int .i64 (L.getD k 0))/\w'.heap[sb]?=some (.cells #[.string rest,sl,.int .i64 ((k+1:Nat):Int)] 86 (0,0))/\Fr (fun b=>b=sb) w w':=by
 obtain⟨la,cap,rfl,s,c⟩:=hS;obtain⟨a,rfl,t,d,i,j⟩:=c k f;clear c;have c1:w.cell? ⟨sb,1,none⟩=some (.slice (some a) L.length cap):=by simpa using(cell_of h 1).1
 have c2:w.cell? ⟨sb,2,none⟩=some (.int .i64 (k:Int)):=by simpa using(cell_of h 2).1
 have l:=(cell_of h 2).2;have m:au (∀nq x,((w.drewN nq).setCell ⟨sb,2,none⟩ x).cell? (a.add k)=some (.int .i64 (L.getD k 0))):=(fun nq x=>(qB (a:=a.add k) (w:=w) (aC (w:=w.drewN nq) 2 x (show(a.add k).block≠sb by rw[wH];omega))).trans d:∀nq x,_);have o:au (∀nq,((w.drewN nq).setCell ⟨sb,2,none⟩ (.int .i64 ((k:Int)+1))).heap[sb]?=some (.cells #[.string rest,.slice (some a) L.length cap,.int .i64 ((k+1:Nat):Int)] 86 (0,0))):=(fun nq=>by have:=bF (w:=w.drewN nq) h 2 (.int .i64 ((k:Int)+1));rw[this];simp:∀nq,_)
 have p:au (∀nq x,Fr (fun b=>b=sb) w ((w.drewN nq).setCell ⟨sb,2,none⟩ x)):=(fun nq x=>((Fr.refl (fun b=>b=sb) w).drewN nq).set sb 2 (show sb=sb from rfl) x:∀nq x,Fr (fun b=>b=sb) w ((w.drewN nq).setCell ⟨sb,2,none⟩ x));clear h d;generalize L.getD k 0=v at*;generalize L.length=n at*;have q:((k:Int)==(n:Int))=false:=by rw[aI];omega
 go_enter func191,ntmps191
 go_wp2_with fail
 go_quiet (fail)
 have d1:=m.out nq (.int .i64 ((k:Int)+1));have d2:=o.out nq;have d3:=p.out nq (.int .i64 ((k:Int)+1));go_wp2_with fail
 generalize ((w.drewN nq).setCell ⟨sb,2,none⟩ (.int .i64 ((k:Int)+1)))=w2 at*;have u:w2.cell? ⟨sb,1,none⟩=some (.slice (some a) n cap):=by simpa using(cell_of d2 1).1
 have y:w2.cell? ⟨sb,2,none⟩=some (.int .i64 ((k:Int)+1)):=by simpa using(cell_of d2 2).1
 have r:au _:=d2;clear c1 c2 l d2;go_quiet (fail)
 go_wp2_with fail
 go_ret;exact⟨rfl,r.out,d3.drewN _⟩
end Pr
namespace Pr
open Go.RowKit Rf
theorem ad2(s:ByteArray):s.extract 0 s.size=s:=by apply gK;rw[iE];have:s.size=s.data.size:=rfl;rw[this];exact Array.extract_size
theorem at_one(unit:ByteArray)(n:Int)(T:aW)(a:bG)(w:af):
 aH prog 38 #[.string unit,.int .i64 n,.iface T (.pointer (some a))] w fun e w'=>e= .returned (.iface 110 (.pointer (some ⟨w.heap.size,0,none⟩)))/\w'=w.alloc (.cells #[.string unit,.int .i64 n,.iface T (.pointer (some a))] 112):=by
 go_enter func38,ntmps38
 go_wp2
 go_ret;exact⟨rfl,rfl⟩
theorem adA(a:Array aW)(t:aW)(x y z m:Int)(w:af)(h:m=min (min x y) z):(Builtin.min_ a t #[.int .i64 x,.int .i64 y,.int .i64 z]).run prog w= .ok (.int .i64 m) w:=by
 have e:(Builtin.min_ a t #[.int .i64 x,.int .i64 y,.int .i64 z]).run prog w= .ok (.int .i64 (if z<(if y<x then y else x)then z else(if y<x then y else x))) w:=by simp[Builtin.min_,Builtin.min2]
 rw[e];have:(if z<(if y<x then y else x)then z else(if y<x then y else x))=m:=by split<;>split<;>omega
 rw[this]
def Cc(L:List Int)(k:Nat):Int:=if k<L.length then L.getD k 0 else 1
def xJ(L:List Int)(k:Nat):Nat:=if k<L.length then k+1 else k
def zq(rest:ByteArray)(sl:ay)(k:Nat):Obj:= .cells #[.string rest,sl,.int .i64 (k:Int)] 86 (0,0)
theorem EM(sb base:Nat)(rest:ByteArray)(sl:ay)(L:List Int)(k:Nat)(w:af)(h:w.heap[sb]?=some (zq rest sl k))(hS:gq w base sl L)(c:k<=L.length)(a:base<=sb):
 aH prog 191 #[.pointer (some ⟨sb,0,none⟩),.int .i64 1] w fun e w'=>e= .returned (.int .i64 (Cc L k))/\w'.heap[sb]?=some (zq rest sl (xJ L k))/\Fr (fun b=>b=sb) w w':=by
 unfold Cc xJ;by_cases h1:k<L.length
 ·rw[aG h1,aG h1];exact aa1 sb base rest sl L k 1 w h hS h1 a
 ·rw[ax h1,ax h1];have e:k=L.length:=by omega
  subst e;refine(Md sb base rest sl L 1 w h hS).mono ?_;rintro e w' ⟨rfl,nq,rfl⟩;exact⟨rfl,h,(Fr.refl _ w).drewN nq⟩
theorem Xw(sb:Nat)(eb:bG)(rest:ByteArray)(sl:ay)(k:Nat)(w:af)(h:w.heap[sb]?=some (zq rest sl k))(h0:rest.size=0)(a:ny w eb):
 aH prog 190 #[.pointer (some ⟨sb,0,none⟩),.int .i64 1] w fun e w'=>e= .returned (.tuple #[.string ⟨#[]⟩,.iface 284 (.pointer (some eb))])/\∃nq,w'=w.drewN nq:=by
 have c0:w.cell? ⟨sb,0,none⟩=some (.string rest):=by simpa using(cell_of h 0).1
 have b:=Ug rest h0;unfold ny at a;go_enter func190,ntmps190
 go_wp2_with fail
 go_quiet (fail)
 go_wp2_with fail
 go_ret2;exact⟨rfl,_,rfl⟩
theorem Ur(sb base:Nat)(rest:ByteArray)(sl:ay)(L:List Int)(k:Nat)(w:af)(h:w.heap[sb]?=some (zq rest sl k))(h0:0<rest.size)(n:rest.size<=140737488354000)(hS:gq w base sl L)(f:k<=L.length)(a:base<=sb)(g:Cc L k=0):
 aH prog 190 #[.pointer (some ⟨sb,0,none⟩),.int .i64 1] w fun e w'=>e= .returned (.tuple #[.string ⟨#[]⟩,.nilIface])/\w'.heap[sb]?=some (zq rest sl (xJ L k))/\Fr (fun b=>b=sb) w w':=by
 have c0:w.cell? ⟨sb,0,none⟩=some (.string rest):=by simpa using(cell_of h 0).1
 have i:=AX rest h0;have N:=EM sb base rest sl L k w h hS f a;rw[g]at N;have d:=fun j t w=>adA j t 0 1 (rest.size:Int) 0 w (by omega);go_enter func190,ntmps190
 go_wp2_with fail
 refine N.mono ?_;rintro e w1 ⟨rfl,c,l⟩;have o:w1.cell? ⟨sb,0,none⟩=some (.string rest):=by simpa using(cell_of c 0).1
 have p:=(cell_of c 0).2;have m:au _:=bF c 0 (.string rest);clear c0 N;go_wp2_with fail
 go_ret2;refine⟨rfl,?_,l.set sb 0 rfl _⟩;refine m.out.trans ?_;simp[zq]
theorem Us(sb base:Nat)(rest:ByteArray)(sl:ay)(L:List Int)(k:Nat)(w:af)(h:w.heap[sb]?=some (zq rest sl k))(h0:0<rest.size)(m:rest.size<=140737488354000)(hS:gq w base sl L)(f:k<=L.length)(a:base<=sb)(n:0<Cc L k):
 aH prog 190 #[.pointer (some ⟨sb,0,none⟩),.int .i64 1] w fun e w'=>e= .returned (.tuple #[.string (rest.extract 0 1),.nilIface])/\w'.heap[sb]?=some (zq (rest.extract 1 rest.size) sl (xJ L k))/\Fr (fun b=>b=sb) w w':=by
 have c0:w.cell? ⟨sb,0,none⟩=some (.string rest):=by simpa using(cell_of h 0).1
 have g:=AX rest h0;have N:=EM sb base rest sl L k w h hS f a;generalize Cc L k=v at*;have d:=fun i t w=>adA i t v 1 (rest.size:Int) 1 w (by omega);go_enter func190,ntmps190
 go_wp2_with fail
 refine N.mono ?_;rintro e w1 ⟨rfl,c,j⟩;have o:w1.cell? ⟨sb,0,none⟩=some (.string rest):=by simpa using(cell_of c 0).1
 have p:=(cell_of c 0).2;have l:au _:=bF c 0 (.string (rest.extract 1 rest.size));clear c0 N;go_wp2_with fail
 go_ret2;refine⟨rfl,?_,j.set sb 0 rfl _⟩;refine l.out.trans ?_;simp[zq]
theorem Ut(sb base:Nat)(fb:bG)(rest:ByteArray)(sl:ay)(L:List Int)(k:Nat)(w:af)(h:w.heap[sb]?=some (zq rest sl k))(h0:0<rest.size)(hS:gq w base sl L)(i:k<=L.length)(c:base<=sb)(o:Cc L k<0)(hF:kL w fb)(p:7<=sb):
 aH prog 190 #[.pointer (some ⟨sb,0,none⟩),.int .i64 1] w fun e w'=>(∃T a,e= .returned (.tuple #[.string ⟨#[]⟩,.iface T (.pointer (some a))])/\sV fb w' T a)/\w'.heap[sb]?=some (zq rest sl (xJ L k))/\Fr (fun b=>b=sb) w w':=by
 have c0:w.cell? ⟨sb,0,none⟩=some (.string rest):=by simpa using(cell_of h 0).1
 have j:=AX rest h0;have N:=EM sb base rest sl L k w h hS i c;have l:xJ L k<=140737488351233:=by obtain⟨la,cap,_,h2,_⟩:=hS;unfold xJ;split<;>omega
 generalize Cc L k=v at*;generalize xJ L k=m at*;go_enter func190,ntmps190
 go_wp2_with fail
 refine N.mono ?_;rintro e w1 ⟨rfl,d,g⟩;have f:kL w1 fb:=hF.over (g.block _ (by have:=ak h;omega) (show 0≠sb by omega));have d2:w1.cell? ⟨sb,2,none⟩=some (.int .i64 (m:Int)):=by simpa using(cell_of d 2).1
 unfold kL at f;clear c0 N;go_wp2_with fail
 go_region_with ((go_at_call 38;refine(at_one _ _ _ _ _).mono ?_;rintro e w3 ⟨rfl,rfl⟩))
 all_goals
  go_wp2_with fail
  go_ret2;refine⟨⟨_,_,rfl,1,o_.place (Q:=fun T a=>(T=284/\a=fb)\/T=299) (n:=0) (.inl ⟨rfl,rfl⟩) _ _⟩,?_,?_⟩
  ·exact(ai _ _ _ (ak d)).trans d
  ·exact g.drew.alloc _
theorem Xx(L:List Int)(m k:Nat):qA L (m+1) k=if Cc L k<0 then none else if Cc L k=0 then qA L m (xJ L k)else some (xJ L k):=by
 unfold Cc xJ;rw[qA];by_cases h:k<L.length
 ·rw[ax (by omega),aG h,aG h]
 ·rw[aG (by omega),ax h,ax h,ax (by omega),ax (by omega)]
theorem aa2(L:List Int)(k:Nat)(h:k<=L.length):xJ L k<=L.length:=by unfold xJ;split<;>omega
theorem EN(v:ay)(w:af):(Go.method 417 70 v "Give").run prog w= .ok (190,v) w:=by kernel_rfl
def JE(sb t:Nat):Obj:= .cells #[.iface 70 (.pointer (some ⟨sb,0,none⟩)),.int .i64 (t:Int)] 84 (0,0)
theorem PU(s:ByteArray)(h:0<s.size):(s.extract 0 1).size=1:=by simp;omega
theorem PV(s:ByteArray)(h:0<s.size)(h2:0<(s.extract 0 1).size):((s.extract 0 1)[0]).toNat=aF s 0:=by
 have e:(s.extract 0 1)[0]=s[0]:=by simp[ByteArray.getElem_eq_getElem_data,ByteArray.data_extract]
 rw[e,mQ s 0 h]
theorem aa3(gb sb base:Nat)(fb:bG)(rest:ByteArray)(sl:ay)(L:List Int)(k t:Nat)(w:af)(x:w.heap[gb]?=some (JE sb t))(h:w.heap[sb]?=some (zq rest sl k))(h0:0<rest.size)(E:rest.size<=140737488354000)(hS:gq w base sl L)(F:k<=L.length)(l:base<=sb)(hF:kL w fb)(M:7<=base):
 aH prog 189 #[.pointer (some ⟨gb,0,none⟩)] w fun e w'=>
  (∃v,qA L 101 k=some v/\e= .returned (.tuple #[.int .u8 ((aF rest 0:Nat):Int),.nilIface])/\w'.heap[sb]?=some (zq (rest.extract 1 rest.size) sl v)/\Fr (fun b=>b=sb) w w')\/
  (qA L 101 k=none/\(∃T a,e= .returned (.tuple #[.int .u8 0,.iface T (.pointer (some a))])/\sV fb w' T a)/\(∃v,w'.heap[sb]?=some (zq rest sl v))/\Fr (fun b=>b=sb) w w'):=by
 have N:=EN;have y:gb≠sb:=fM x h (by decide);obtain⟨R,z⟩:∃R,R=qA L 101 k:=⟨_,rfl⟩;rw[<-z];have G:au _:=z;clear z;go_enter func189,ntmps189
 go_wp2_with fail
 go_loopw [6] (fun iv wr=> ∃j c:Nat,j<=101/\iv= .int .i64 (j:Int)/\R=qA L (101-j) c/\c<=L.length/\wr.heap[sb]?=some (zq rest sl c)/\Fr (fun b=>b=sb) w wr) (fun iv _=>101-(bH iv).toNat)
 case atStart=>exact⟨0,k,aX _,rfl,G.out,F,h,Fr.refl _ _⟩
 case round=>
  obtain⟨j,c,O,rfl,o,g,p,d⟩:=hrel;have q:au _:=o;clear o;have A:wr.heap[gb]?=some (JE sb t):=(d.block gb (ak x) y).trans x;have m:gq wr base sl L:=hS.over (fun b hb=>d.block b (by have:=ak h;omega) (by omega));have B:kL wr fb:=hF.over (d.block _ (by have:=ak h;omega) (by omega));have c0:wr.cell? ⟨gb,0,none⟩=some (.iface 70 (.pointer (some ⟨sb,0,none⟩))):=by simpa using(cell_of A 0).1
  by_cases H:j<101
  ·have C:au (R=if Cc L c<0 then none else if Cc L c=0 then qA L (100-j) (xJ L c)else some (xJ L c)):=(by
    rw[q.out,show 101-j=(100-j)+1 by omega];exact Xx L _ c:_=_)
   rcases Int.lt_trichotomy (Cc L c) 0 with f|f|f
   ·have i:=Ut sb base fb rest sl L c wr p h0 m g l f B (by omega);have n:au (R=none):=(by rw[C.out,aG f]:_=_);clear f;go_wp2_with fail
    refine i.mono ?_;rintro e w1 ⟨⟨T,a,rfl,I⟩,r,s⟩;clear i c0;go_wp2_with fail
    go_ret2;exact .inr ⟨n.out,⟨T,a,rfl,I⟩,⟨_,r⟩,d.trans s⟩
   ·have i:=Ur sb base rest sl L c wr p h0 E m g l f;have n:au (R=qA L (101-(j+1)) (xJ L c)):=(by rw[C.out,ax (by omega),aG f,show 101-(j+1)=100-j by omega]:_=_);have D:=aa2 L c g;clear f;go_wp2_with fail
    refine i.mono ?_;rintro e w1 ⟨rfl,r,s⟩;clear i c0;go_wp2_with fail
    go_roundw
    case rel=>exact⟨j+1,_,by omega,by go_num,n.out,D,r,d.trans s⟩
    case measure=>simp[bH];omega
   ·have i:=Us sb base rest sl L c wr p h0 E m g l f;have n:au (R=some (xJ L c)):=(by rw[C.out,ax (by omega),ax (by omega)]:_=_);have u:=PU rest h0;have J:au _:=PV rest h0 (by rw[u];omega);clear f;go_wp2_with fail
    refine i.mono ?_;rintro e w1 ⟨rfl,r,s⟩;clear i c0;have K:=AX (rest.extract 0 1) (by rw[u];omega);go_wp2_with fail
    go_ret2;exact .inl ⟨_,n.out,uP (jo Nat.cast J.out),r,d.trans s⟩
  ·have n:au (R=none):=(by rw[q.out,show 101-j=0 by omega];rfl:_=_);go_wp2_with fail
   go_ret2;exact .inr ⟨n.out,⟨_,_,rfl,0,.inr rfl⟩,⟨_,(ai _ _ _ (ak p)).trans p⟩,d.alloc _⟩
theorem aa4(gb sb:Nat)(eb:bG)(rest:ByteArray)(sl:ay)(k t:Nat)(w:af)(b:w.heap[gb]?=some (JE sb t))(h:w.heap[sb]?=some (zq rest sl k))(h0:rest.size=0)(c:ny w eb):
 aH prog 189 #[.pointer (some ⟨gb,0,none⟩)] w fun e w'=>e= .returned (.tuple #[.int .u8 0,.iface 284 (.pointer (some eb))])/\∃nq,w'=w.drewN nq:=by
 have f:=EN;have c0:w.cell? ⟨gb,0,none⟩=some (.iface 70 (.pointer (some ⟨sb,0,none⟩))):=by simpa using(cell_of b 0).1
 have a:=Xw sb eb rest sl k w h h0 c;go_enter func189,ntmps189
 go_wp2_with fail
 refine wp_loop_rounds 1 ?_;rw[xx];go_wp2_with fail
 refine a.mono ?_;rintro e w1 ⟨rfl,nq,hw⟩;have d:au _:=hw;clear hw a;go_wp2_with fail
 go_ret2;exact⟨rfl,nq,d.out⟩
end Pr
end Go.Proofs.YtephkcdbnogdhabGreatDoor
