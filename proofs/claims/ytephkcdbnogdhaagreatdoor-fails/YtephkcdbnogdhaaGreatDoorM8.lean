import Derived.Test.YtephkcdbnogdhaaGreatDoorM3
import Derived.Test.YtephkcdbnogdhaaGreatDoorM4
set_option linter.unusedVariables false
set_option maxHeartbeats 40000000
set_option maxRecDepth 10000
namespace Go.Proofs.YtephkcdbnogdhaaGreatDoor
open Go.Proofs.Tryz
open Go renaming World->af,Value->ay,Calls->aF,TypeId->aY,Addr->bP
open Go.RowKit renaming Hid->ah,Below->aJ
namespace Er
open Go.RowKit Go.Extern.Stop Go.Stop Go.Extern
open Pr (qF QM zX kL xu SH)
theorem ad7(v:ay)(a:aY)(w:af):(Instr.typeAssert (.iface 362 v) a 240 true).run prog w= .ok (.tuple #[.nilIface,.bool false]) w:=run_typeAssert_lacksB underlying240 (by kernel_rfl) (by kernel_rfl) v a w
theorem Dz(v:ay)(a:aY)(w:af):(Instr.typeAssert (.iface 362 v) a 243 true).run prog w= .ok (.tuple #[.nilIface,.bool false]) w:=run_typeAssert_lacksB underlying243 (by kernel_rfl) (by kernel_rfl) v a w
theorem AZ(v:ay)(a:aY)(w:af):(Instr.typeAssert (.iface 362 v) a 244 true).run prog w= .ok (.tuple #[.nilIface,.bool false]) w:=run_typeAssert_lacksB underlying244 (by kernel_rfl) (by kernel_rfl) v a w
theorem afd(v:ay)(a:aY)(w:af):(Instr.typeAssert (.iface 362 v) a 249 true).run prog w= .ok (.tuple #[.nilIface,.bool false]) w:=run_typeAssert_lacksB underlying249 (by kernel_rfl) (by kernel_rfl) v a w
theorem acI(w:af):(ext f273 #[.agg #[.pointer (some ⟨7,362,none⟩)],.iface 238 (.agg #[.pointer (some ⟨7,142,none⟩)])]).run prog w= .ok (.bool false) w:=by kernel_rfl
theorem afe{a b:bP}{w:af}{f cb:Array ay}{g tb:aY}(d:a≠b)(h:w.heap[a.block]?=some (.cells f g (0,0)))(hb:w.heap[b.block]?=some (.cells cb tb (0,0))):
 (binOp .eql 80 (.iface 362 (.pointer (some a))) (.iface 362 (.pointer (some b)))).run prog w= .ok (.bool false) w:=by
 obtain⟨i,hi,c⟩:=Option.map_eq_some_iff.1 SA;obtain⟨j,k,e⟩:=Option.map_eq_some_iff.1 SB;exact run_eql_iface_ptr_other (P:=prog) w underlying80 underlying362 hi c k (by rw[e];decide) d h hb
def QE(r:bP)(T:aY)(a:bP):Prop:=T=362/\a=r
theorem zI(r:bP):SH (QE r):=fun T a h=>by rw[h.1];decide
set_option maxRecDepth 100000 in
theorem VD(n:Nat)(T:aY)(a r:bP)(w:af)(h:qF (QE r) w n T a):
 aF prog 109 #[.iface T (.pointer (some a)),.iface 362 (.pointer (some r)),.bool true] w fun e w'=>e= .returned (.bool true)/\w'=w:=by
 have o:=ZH;have p:=Px;have u1:=pG;have q:=mV;have s:=afb r;go_enter func109,ntmps109
 go_wp2_with fail
 go_loop [0] (fun v=> ∃n T a,v= .iface T (.pointer (some a))/\qF (QE r) w n T a) (fun v=>zX (QE r) w v)
 case atStart=>exact⟨n,T,a,rfl,h⟩
 case round=>
  clear h;obtain⟨n,T,a,rfl,h⟩:=hrel;have j:ah _:=kL (zI r) h;cases n with
  |zero=>
   obtain⟨c,l⟩:=h;subst c l;go_wp2
   go_ret;exact⟨rfl,rfl⟩
  |succ n=>
   obtain⟨c,b,u,k,d,f,rfl,h3,g⟩:=h;subst c;have c0:w.cell? ⟨b,2,none⟩=some (.iface d (.pointer (some f))):=by simpa using(Pr.cell_of h3 2).1
   have i:ah _:=kL (zI r) g;have m:ah _:=g;clear h3 g;go_wp2
   go_round
   case rel=>exact⟨n,d,f,rfl,m.out⟩
   case measure=>show zX (QE r) _ (Value.iface d (.pointer (some f)))<_;rw[i.out,j.out];omega
set_option maxRecDepth 100000 in
theorem ZJ(n:Nat)(T:aY)(a r b:bP)(w:af)(h:qF (QE r) w n T a){m cb:Array ay}{o tb:aY}(c:r≠b)(d:w.heap[r.block]?=some (.cells m o (0,0)))(hb:w.heap[b.block]?=some (.cells cb tb (0,0))):
 aF prog 109 #[.iface T (.pointer (some a)),.iface 362 (.pointer (some b)),.bool true] w fun e w'=>e= .returned (.bool false)/\w'=w:=by
 have s:=ZH;have t:=Px;have x:=ad7;have u1:=pG;have y:=Dz;have z:=AZ;have A:=mV;have B:=afe c d hb;clear d hb c;go_enter func109,ntmps109
 go_wp2_with fail
 go_loop [0] (fun v=> ∃n T a,v= .iface T (.pointer (some a))/\qF (QE r) w n T a) (fun v=>zX (QE r) w v)
 case atStart=>exact⟨n,T,a,rfl,h⟩
 case round=>
  clear h;obtain⟨n,T,a,rfl,h⟩:=hrel;have p:ah _:=kL (zI r) h;cases n with
  |zero=>
   obtain⟨f,d⟩:=h;subst f d;go_wp2
   go_ret;exact⟨rfl,rfl⟩
  |succ n=>
   obtain⟨f,b,u,k,g,i,rfl,h3,j⟩:=h;subst f;have c0:w.cell? ⟨b,2,none⟩=some (.iface g (.pointer (some i))):=by simpa using(Pr.cell_of h3 2).1
   have l:ah _:=kL (zI r) j;have q:ah _:=j;clear h3 j;go_wp2
   go_round
   case rel=>exact⟨n,g,i,rfl,q.out⟩
   case measure=>show zX (QE r) _ (Value.iface g (.pointer (some i)))<_;rw[l.out,p.out];omega
set_option maxRecDepth 100000 in
theorem acJ(n:Nat)(T:aY)(a fb b:bP)(w:af)(h:qF (QF fb) w n T a){q cb:Array ay}{r tb:aY}(f:fb≠b)(i:w.heap[fb.block]?=some (.cells q r (0,0)))(hb:w.heap[b.block]?=some (.cells cb tb (0,0)))(hF:w.cell? ⟨0,0,none⟩=some (.iface 362 (.pointer (some fb)))):
 aF prog 109 #[.iface T (.pointer (some a)),.iface 362 (.pointer (some b)),.bool true] w fun e w'=>e= .returned (.bool false)/\w'=w:=by
 have s:=ZH;have t:=afa;have x:=Px;have y:=ad6;have z:=ad7;have u1:=pG;have u2:=Gu;have A:=Dz;have B:=AZ;have C:=mV;have D:=Aj;have E:=afe f i hb;clear i hb f;go_enter func109,ntmps109
 go_wp2_with fail
 go_loop [0] (fun v=> ∃n T a,v= .iface T (.pointer (some a))/\qF (QF fb) w n T a) (fun v=>Jh fb w v)
 case atStart=>exact⟨n,T,a,rfl,h⟩
 case round=>
  clear h;obtain⟨n,T,a,rfl,h⟩:=hrel;have p:ah _:=kL (zH fb) h;cases n with
  |zero=>
   rcases h with⟨g,i⟩|g
   ·subst g i;go_wp2
    go_ret;exact⟨rfl,rfl⟩
   ·subst g;have j:ah (qF (QF fb) w 0 362 fb):=(.inl ⟨rfl,rfl⟩:QF fb _ _);have d:ah _:=kL (zH fb) j.out;go_wp2
    go_round
    case rel=>exact⟨0,_,fb,rfl,j.out⟩
    case measure=>show Jh fb _ (Value.iface 362 (.pointer (some fb)))<_;unfold Jh;rw[d.out,p.out,aC rfl,au (fun e=>by injection e with e _;revert e;decide)];omega
  |succ n=>
   obtain⟨g,b,u,k,l,m,rfl,h3,o⟩:=h;subst g;have c0:w.cell? ⟨b,2,none⟩=some (.iface l (.pointer (some m))):=by simpa using(Pr.cell_of h3 2).1
   have d:ah _:=kL (zH fb) o;have j:ah _:=o;clear h3 o;go_wp2
   go_round
   case rel=>exact⟨n,l,m,rfl,j.out⟩
   case measure=>show Jh fb _ (Value.iface l (.pointer (some m)))<_;unfold Jh;rw[d.out,p.out,au (c:=Value.iface 214 _=_) (fun e=>by injection e with e _;revert e;decide)];split<;>omega
set_option maxRecDepth 100000 in
theorem acK(B:Nat)(n:Nat)(T:aY)(a r t c:bP)(w:af)(h:qF (QE r) w n T a)(z:w.cell? c=some (.pointer (some t)))(d:B<=w.heap.size):
 aF prog 113 #[.iface T (.pointer (some a)),.iface 145 (.pointer (some t)),.agg #[.pointer (some ⟨7,145,none⟩),.pointer (some c),.int .u64 150],.iface 238 (.agg #[.pointer (some ⟨7,142,none⟩)])] w fun e w'=>e= .returned (.bool false)/\aJ B w w':=by
 have A:=xq;have C:=wK;have D:=uH;have E:=mV;have F:=FN;have G:=Vq;have H:=acI;have I:=Vr;have J:=adZ;have K:=pG;have L:=afd;have M:=Dz;have o:=AZ;have m:qF (QE r) (w.alloc (.cells #[.pointer (some ⟨7,145,none⟩),.pointer (some c),.int .u64 150] 197)) n T a:=h.grow (fun k p=>aj w _ k p);have q:ah (aJ B w (w.alloc (.cells #[.pointer (some ⟨7,145,none⟩),.pointer (some c),.int .u64 150] 197))):=(aP _ _).alloc d _;clear h;go_enter func113,ntmps113
 go_wp2_with fail
 go_loop [0] (fun v=> ∃n T a,v= .iface T (.pointer (some a))/\qF (QE r) (w.alloc (.cells #[.pointer (some ⟨7,145,none⟩),.pointer (some c),.int .u64 150] 197)) n T a) (fun v=>zX (QE r) (w.alloc (.cells #[.pointer (some ⟨7,145,none⟩),.pointer (some c),.int .u64 150] 197)) v)
 case atStart=>exact⟨n,T,a,rfl,m⟩
 case round=>
  clear m;obtain⟨n,T,a,rfl,h⟩:=hrel;have s:ah _:=kL (zI r) h;cases n with
  |zero=>
   obtain⟨f,x⟩:=h;subst f x;go_wp2
   go_ret;exact⟨rfl,q.out⟩
  |succ n=>
   obtain⟨f,b,u,k,g,i,rfl,h3,j⟩:=h;subst f;have c0:(w.alloc (.cells #[.pointer (some ⟨7,145,none⟩),.pointer (some c),.int .u64 150] 197)).cell? ⟨b,2,none⟩=some (.iface g (.pointer (some i))):=by simpa using(Pr.cell_of h3 2).1
   have l:ah _:=kL (zI r) j;have y:ah _:=j;clear h3 j;go_wp2
   go_round
   case rel=>exact⟨n,g,i,rfl,y.out⟩
   case measure=>show zX (QE r) _ (Value.iface g (.pointer (some i)))<_;rw[l.out,s.out];omega
set_option maxRecDepth 100000 in
theorem acL(B:Nat)(n:Nat)(T:aY)(a r t:bP)(b:ay)(w:af)(d:w.cell? ⟨3,0,none⟩=some (.iface 238 (.agg #[.pointer (some ⟨7,80,none⟩)])))(h:qF (QE r) w n T a)(f:w.cell? t=some b)(g:B<=t.block):
 aF prog 77 #[.iface T (.pointer (some a)),.iface 145 (.pointer (some t))] w fun e w'=>e= .returned (.bool false)/\aJ B w w':=by
 have c:B<=w.heap.size:=aK g (BB (zB f));have m:=yK;have o:=JX;have p:=OG;have q:=JY;have s:=OH;have i:=yL;have u:=FO;have v:=FP;have x:=wL;have y:=OI;have z:=adV;have A:=adW;have C:=adX;have D:=adY;have E:=Eo;have nl:=Zk ⟨w.heap.size,0,none⟩ t ((w.alloc (.cells #[.pointer (some t)] 145)).alloc (.cells #[.pointer (some ⟨7,145,none⟩),.pointer (some ⟨w.heap.size,0,none⟩),.int .u64 150] 197)) (by simp);have j:=dm (dm d (.cells #[.pointer (some t)] 145)) (.cells #[.pointer (some ⟨7,145,none⟩),.pointer (some ⟨w.heap.size,0,none⟩),.int .u64 150] 197);have H:ah _:=h;clear h;go_enter func77,ntmps77
 go_wp2_with fail
 refine(acK B n T a r t _ _ ?_ ?_ ?_).mono ?_
 ·exact H.out.grow (fun k l=>(aj _ _ k (by simp;omega)).trans (aj w _ k l))
 ·simp
 ·simp;omega
 rintro e w' ⟨rfl,hb⟩;go_wp2
 go_ret;exact⟨rfl,(((aP _ _).alloc c _).alloc (by simp;omega) _).trans hb⟩
end Er
namespace Pr
open Go.RowKit
def vK(w:af)(lb:bP):Prop:=w.cell? ⟨1,0,none⟩=some (.iface 362 (.pointer (some lb)))
theorem vK.over{w w':af}{lb:bP}(h:vK w lb)(e:w'.heap[1]?=w.heap[1]?):vK w' lb:=(aV e).trans h
structure jI(w:af)(eb fb lb:bP)(base:Nat):Prop where
 en:oK w eb
 fa:lS w fb
 la:vK w lb
 ef:eb≠fb
 el:eb≠lb
 fl:fb≠lb
 be:∃c t,w.heap[eb.block]?=some (.cells c t (0,0))
 bf:∃c t,w.heap[fb.block]?=some (.cells c t (0,0))
 bl:∃c t,w.heap[lb.block]?=some (.cells c t (0,0))
 lt:eb.block<base/\fb.block<base/\lb.block<base
 ng:7<=base
theorem jI.over{w w':af}{eb fb lb:bP}{base:Nat}(h:jI w eb fb lb base)(e:∀k,k<base->w'.heap[k]?=w.heap[k]?):jI w' eb fb lb base:=by
 have a:=h.ng;refine⟨h.en.over (e _ (by omega)),h.fa.over (e _ (by omega)),h.la.over (e _ (by omega)),h.ef,h.el,h.fl,?_,?_,?_,h.lt,h.ng⟩
 ·rw[e _ h.lt.1];exact h.be
 ·rw[e _ h.lt.2.1];exact h.bf
 ·rw[e _ h.lt.2.2];exact h.bl
def KF(lb:bP)(w:af)(T:aY)(a:bP):Prop:=∃n,qF (Er.QE lb) w n T a
theorem jI.ad8{w:af}{eb fb lb:bP}{base:Nat}(h:jI w eb fb lb base)(n:Nat)(T:aY)(a:bP)(b:qF (Er.QE eb) w n T a):
 aF prog 76 #[.iface T (.pointer (some a)),.iface 362 (.pointer (some eb))] w fun e w'=>e= .returned (.bool true)/\w'=w:=Er.Gv true T a eb w (Er.VD n T a eb w b)
theorem jI.ZK{w:af}{eb fb lb:bP}{base:Nat}(h:jI w eb fb lb base)(n:Nat)(T:aY)(a:bP)(b:qF (Er.QF fb) w n T a):
 aF prog 76 #[.iface T (.pointer (some a)),.iface 362 (.pointer (some eb))] w fun e w'=>e= .returned (.bool false)/\w'=w:=by
 obtain⟨c,t,d⟩:=h.bf;obtain⟨g,i,f⟩:=h.be;exact Er.Gv false T a eb w (Er.acJ n T a fb eb w b (r_ h.ef) d f h.fa)
theorem jI.aev{w:af}{T:aY}{a:bP}(eb:bP)(b:jC w T a):
 aF prog 76 #[.iface T (.pointer (some a)),.iface 362 (.pointer (some eb))] w fun e w'=>e= .returned (.bool false)/\w'=w:=by
 obtain⟨n,b⟩:=b;exact Er.Gv false T a eb w (Er.ZI n T a eb w b)
theorem Xj(T:aY)(a eb fb lb:bP)(base:Nat)(w:af)(q:yN w)(hS:jI w eb fb lb base)(hb:base<=w.heap.size)(h:KF lb w T a):
 aF prog 42 #[.iface T (.pointer (some a))] w fun e w'=>e= .returned (.int .i64 2)/\aJ w.heap.size w w':=by
 obtain⟨n,h⟩:=h;have j:=Er.dm q.2 (.cells #[.pointer none] 142);have b:jI (w.alloc (.cells #[.pointer none] 142)) eb fb lb base:=hS.over (fun k f=>aj w _ k (by omega));have g:=b.fa;have i:=b.la;have H0:ah (qF (Er.QE lb) (w.alloc (.cells #[.pointer none] 142)) n T a):=qF.grow (fun k f=>aj w _ k f) h;have r:ah (aJ w.heap.size w (w.alloc (.cells #[.pointer none] 142))):=(aP _ _).alloc (ag _) _;obtain⟨c,t,o⟩:=b.bl;obtain⟨v,x,p⟩:=b.bf;have s:ah (qF (Er.QE lb) w n T a):=h;have u:=Er.Gv false T a fb _ (Er.ZJ n T a lb fb _ H0.out (r_ hS.fl) o p);clear h o p;unfold lS at g;unfold vK at i;go_enter func42,ntmps42
 go_wp2_with fail
 refine u.mono ?_;rintro e w' ⟨rfl,rfl⟩;go_wp2_with fail
 refine(Er.acL w.heap.size n T a lb ⟨w.heap.size,0,none⟩ (.pointer none) _ j H0.out (by simp) (ag _)).mono ?_;rintro e w2 ⟨rfl,d⟩;have l:jI w2 eb fb lb base:=b.over (fun k f=>d.block k (by omega));have m:=l.la;unfold vK at m;have H1:qF (Er.QE lb) w2 n T a:=s.out.grow (fun k f=>(d.block k f).trans (aj w _ k f));clear i g;go_wp2_with fail
 refine(Er.Gv true T a lb _ (Er.VD n T a lb _ H1)).mono ?_;rintro e w' ⟨rfl,rfl⟩;go_wp2_with fail
 go_ret;exact⟨rfl,r.out.trans d⟩
end Pr
end Go.Proofs.YtephkcdbnogdhaaGreatDoor
