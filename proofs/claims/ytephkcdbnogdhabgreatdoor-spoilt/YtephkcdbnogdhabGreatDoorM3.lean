import Derived.Test.YtephkcdbnogdhabGreatDoorM1
set_option linter.unusedVariables false
set_option maxHeartbeats 40000000
set_option maxRecDepth 10000
namespace Go.Proofs.YtephkcdbnogdhabGreatDoor
open Go.Proofs.Tryz
open Go renaming World->af,Value->ay,Calls->aH,TypeId->aW,Addr->bG
open Go.RowKit renaming Hid->au,Below->aA
namespace Pr
open Go.RowKit
def PR(Q:aW->bG->Prop):Prop:=∀T a,Q T a->T≠110
theorem o_.unique{Q:aW->bG->Prop}(e:PR Q){w:af}:∀{n m:Nat} {T:aW} {a:bG},o_ Q w n T a->o_ Q w m T a->n=m
 |0,0,_,_,_,_=>rfl
 |0,m+1,T,a,h,f=>absurd f.1 (e T a h)
 |n+1,0,T,a,h,f=>absurd h.1 (e T a f)
 |n+1,m+1,T,a,⟨_,b,u,k,r,s,h2,i,j⟩,⟨_,t,v,x,l,o,d,c,g⟩=>by
  rw[h2]at d;injection d with p
  subst p;rw[i]at c;simp at c;obtain⟨_,_,q,e3⟩:=c;subst q e3;rw[o_.unique e j g]
open Classical in
noncomputable def zo(Q:aW->bG->Prop)(w:af)(v:ay):Nat:=if h:∃n T a,v= .iface T (.pointer (some a))/\o_ Q w n T a then h.choose else 0
theorem jM{Q:aW->bG->Prop}(g:PR Q){w:af}{n:Nat}{T:aW}{a:bG}(h:o_ Q w n T a):zo Q w (.iface T (.pointer (some a)))=n:=by
 have f:∃n c d,Value.iface T (.pointer (some a))= .iface c (.pointer (some d))/\o_ Q w n c d:=⟨n,T,a,rfl,h⟩;unfold zo;rw[dif_pos f];obtain⟨c,d,e,i⟩:=f.choose_spec;injection e with j b
 injection b with b
 injection b with b
 subst j b;exact o_.unique g i h
def QM(T:aW)(_:bG):Prop:=T=93
theorem wG:PR QM:=fun T a h=>by unfold QM at h;rw[h];decide
end Pr
namespace Er
open Go.RowKit Go.Extern.Stop Go.Stop Go.Extern
open Pr (o_ QM zo jM wG)
set_option maxRecDepth 100000 in
theorem acL(B:Nat)(n:Nat)(T:aW)(a t c:bG)(d:ay)(w:af)(h:o_ QM w n T a)(s:w.cell? c=some (.pointer (some t)))(f:w.cell? t=some d)(x:w.frozen? t=false)(q:B<=t.block):
 aH prog 52 #[.iface T (.pointer (some a)),.iface 96 (.pointer (some t)),.agg #[.pointer (some ⟨7,96,none⟩),.pointer (some c),.int .u64 150],.iface 147 (.agg #[.pointer (some ⟨7,93,none⟩)])] w fun e w'=>e= .returned (.bool true)/\aA B w w':=by
 have g:B<=w.heap.size:=aY q (Nat.le_of_lt (yG f));have C:=wC;have D:=vF;have E:=Uf;have F:=xG;have G:=Xc;have H:=sU;have I:=lK;have J:=aaJ;have K:=Si;have L:=aaK;have M:=Sj;have N:=Xd;have O:=aco;have P:=nV;have el:=elemV c t (w.alloc (.cells #[.pointer (some ⟨7,96,none⟩),.pointer (some c),.int .u64 150] 121)) (bU s _)
 have st:=fun m=>ad3 t ⟨w.heap.size+1,0,none⟩ m d ((w.alloc (.cells #[.pointer (some ⟨7,96,none⟩),.pointer (some c),.int .u64 150] 121)).alloc (.cells #[.pointer (some m)] 93))
  (by rw[World.cell?_alloc_at _ _ _ _ (by simp)];rfl) (bU (bU f _) _) (fV (bU f _) _ (fV f _ x))
 have h0:o_ QM (w.alloc (.cells #[.pointer (some ⟨7,96,none⟩),.pointer (some c),.int .u64 150] 121)) n T a:=h.grow (fun k y=>ai w _ k y);clear h;go_enter func52,ntmps52
 go_wp2_with fail
 go_loop [0] (fun v=> ∃n T a,v= .iface T (.pointer (some a))/\o_ QM (w.alloc (.cells #[.pointer (some ⟨7,96,none⟩),.pointer (some c),.int .u64 150] 121)) n T a) (fun v=>zo QM (w.alloc (.cells #[.pointer (some ⟨7,96,none⟩),.pointer (some c),.int .u64 150] 121)) v)
 case atStart=>exact⟨n,T,a,rfl,h0⟩
 case round=>
  clear h0;obtain⟨n,T,a,rfl,h⟩:=hrel;have z:au _:=jM wG h;cases n with
  |zero=>
   have i:T=93:=h;subst i;clear h;go_wp2
   go_ret;exact⟨rfl,(((aV _ _).alloc g _).alloc (by simp;omega) _).setCell q _⟩
  |succ n=>
   obtain⟨i,b,u,k,j,l,rfl,r,o⟩:=h;subst i;have c0:(w.alloc (.cells #[.pointer (some ⟨7,96,none⟩),.pointer (some c),.int .u64 150] 121)).cell? ⟨b,2,none⟩=some (.iface j (.pointer (some l))):=by simpa using(Pr.cell_of r 2).1
   have p:au _:=jM wG o;have A:au _:=o;clear r o;go_wp2
   go_round
   case rel=>exact⟨n,j,l,rfl,A.out⟩
   case measure=>show zo QM _ (Value.iface j (.pointer (some l)))<_;rw[p.out,z.out];omega
set_option maxRecDepth 100000 in
theorem acM(B:Nat)(n:Nat)(T:aW)(a t:bG)(b:ay)(w:af)(g:w.cell? ⟨3,0,none⟩=some (.iface 147 (.agg #[.pointer (some ⟨7,73,none⟩)])))(h:o_ QM w n T a)(c:w.cell? t=some b)(i:w.frozen? t=false)(f:B<=t.block):
 aH prog 41 #[.iface T (.pointer (some a)),.iface 96 (.pointer (some t))] w fun e w'=>e= .returned (.bool true)/\aA B w w':=by
 have d:B<=w.heap.size:=aY f (Nat.le_of_lt (yG c));have o:=xG;have p:=Io;have q:=LM;have r:=Ip;have s:=LP;have j:=xH;have u:=EC;have v:=ED;have x:=vG;have y:=LQ;have z:=acj;have A:=ack;have C:=acm;have D:=acn;have E:=Dl;have nl:=Xg ⟨w.heap.size,0,none⟩ t ((w.alloc (.cells #[.pointer (some t)] 96)).alloc (.cells #[.pointer (some ⟨7,96,none⟩),.pointer (some ⟨w.heap.size,0,none⟩),.int .u64 150] 121)) (by simp);have l:=bU (bU g (.cells #[.pointer (some t)] 96)) (.cells #[.pointer (some ⟨7,96,none⟩),.pointer (some ⟨w.heap.size,0,none⟩),.int .u64 150] 121);have H:au _:=h;clear h;go_enter func41,ntmps41
 go_wp2_with fail
 refine(acL B n T a t _ b _ ?_ ?_ ?_ ?_ f).mono ?_
 ·exact H.out.grow (fun k m=>(ai _ _ k (by simp;omega)).trans (ai w _ k m))
 ·simp
 ·exact bU (bU c _) _
 ·exact fV (bU c _) _ (fV c _ i)
 rintro e w' ⟨rfl,hb⟩;go_wp2
 go_ret;exact⟨rfl,(((aV _ _).alloc d _).alloc (by simp;omega) _).trans hb⟩
end Er
namespace Pr
open Go.RowKit
def kL(w:af)(fb:bG):Prop:=w.cell? ⟨0,0,none⟩=some (.iface 284 (.pointer (some fb)))
def xI(w:af):Prop:=(∃fb,kL w fb)/\w.cell? ⟨3,0,none⟩=some (.iface 147 (.agg #[.pointer (some ⟨7,73,none⟩)]))
theorem aQ{w w':af}{k o:Nat}(h:w'.heap[k]?=w.heap[k]?):w'.cell? ⟨k,o,none⟩=w.cell? ⟨k,o,none⟩:=by simp[World.cell?,h]
theorem kL.over{w w':af}{fb:bG}(h:kL w fb)(e:w'.heap[0]?=w.heap[0]?):kL w' fb:=(aQ e).trans h
theorem xI.over{w w':af}(h:xI w)(e:∀k,k<7->w'.heap[k]?=w.heap[k]?):xI w':=⟨h.1.imp (fun fb h=>h.over (e _ (by decide))),(aQ (e _ (by decide))).trans h.2⟩
end Pr
namespace Er
open Go.RowKit Go.Extern.Stop Go.Stop Go.Extern
open Pr (o_ QM zo jM wG PR)
theorem Xr(v v':ay)(w:af):(binOp .eql 73 (.iface 110 v) (.iface 284 v')).run prog w= .ok (.bool false) w:=run_eql_iface_types _ _ v v' underlying73 (by decide) w
theorem ad4(v v':ay)(w:af):(binOp .eql 73 (.iface 93 v) (.iface 284 v')).run prog w= .ok (.bool false) w:=run_eql_iface_types _ _ v v' underlying73 (by decide) w
theorem adv(v v':ay)(w:af):(binOp .eql 73 (.iface 299 v) (.iface 284 v')).run prog w= .ok (.bool false) w:=run_eql_iface_types _ _ v v' underlying73 (by decide) w
theorem adw(a:bG)(w:af):(binOp .eql 73 (.iface 284 (.pointer (some a))) (.iface 284 (.pointer (some a)))).run prog w= .ok (.bool true) w:=by obtain⟨i,hi,b⟩:=Option.map_eq_some_iff.1 Pz;obtain⟨j,c,d⟩:=Option.map_eq_some_iff.1 PD;exact run_eql_iface_ptr_same (P:=prog) w a underlying73 underlying284 hi b c
theorem Mc(v:ay)(a:aW)(w:af):(Instr.typeAssert (.iface 110 v) a 149 true).run prog w= .ok (.tuple #[.nilIface,.bool false]) w:=run_typeAssert_lacksB underlying149 (by kernel_rfl) (by kernel_rfl) v a w
theorem adx(v:ay)(a:aW)(w:af):(Instr.typeAssert (.iface 93 v) a 149 true).run prog w= .ok (.tuple #[.nilIface,.bool false]) w:=run_typeAssert_lacksB underlying149 (by kernel_rfl) (by kernel_rfl) v a w
theorem acr(v:ay)(a:aW)(w:af):(Instr.typeAssert (.iface 299 v) a 149 true).run prog w= .ok (.tuple #[.nilIface,.bool false]) w:=run_typeAssert_lacksB underlying149 (by kernel_rfl) (by kernel_rfl) v a w
theorem Ul(v:ay)(a:aW)(w:af):(Instr.typeAssert (.iface 93 v) a 152 true).run prog w= .ok (.tuple #[.nilIface,.bool false]) w:=run_typeAssert_lacksB underlying152 (by kernel_rfl) (by kernel_rfl) v a w
theorem PT(v:ay)(a:aW)(w:af):(Instr.typeAssert (.iface 93 v) a 153 true).run prog w= .ok (.tuple #[.nilIface,.bool false]) w:=run_typeAssert_lacksB underlying153 (by kernel_rfl) (by kernel_rfl) v a w
theorem EK(v:ay)(a:aW)(w:af):(Instr.typeAssert (.iface 299 v) a 152 true).run prog w= .ok (.tuple #[.iface 299 v,.bool true]) w:=run_typeAssert_hasB underlying152 (by kernel_rfl) v a w
theorem zG(v:ay)(w:af):(Go.method 417 299 v "Unwrap").run prog w= .ok (214,v) w:=by kernel_rfl
set_option maxRecDepth 100000 in
theorem Xt(n:Nat)(T:aW)(a t:bG)(w:af)(h:o_ QM w n T a):
 aH prog 48 #[.iface T (.pointer (some a)),.iface 284 (.pointer (some t)),.bool true] w fun e w'=>e= .returned (.bool false)/\w'=w:=by
 have o:=Xr;have p:=ad4;have q:=Mc;have r:=adx;have u1:=nV;have u2:=Ul;have u3:=PT;have s:=lK;go_enter func48,ntmps48
 go_wp2_with fail
 go_loop [0] (fun v=> ∃n T a,v= .iface T (.pointer (some a))/\o_ QM w n T a) (fun v=>zo QM w v)
 case atStart=>exact⟨n,T,a,rfl,h⟩
 case round=>
  clear h;obtain⟨n,T,a,rfl,h⟩:=hrel;have l:au _:=jM wG h;cases n with
  |zero=>
   have c:T=93:=h;subst c;clear h;go_wp2
   go_ret;exact⟨rfl,rfl⟩
  |succ n=>
   obtain⟨c,b,u,k,d,f,rfl,j,g⟩:=h;subst c;have c0:w.cell? ⟨b,2,none⟩=some (.iface d (.pointer (some f))):=by simpa using(Pr.cell_of j 2).1
   have i:au _:=jM wG g;have m:au _:=g;clear j g;go_wp2
   go_round
   case rel=>exact⟨n,d,f,rfl,m.out⟩
   case measure=>show zo QM _ (Value.iface d (.pointer (some f)))<_;rw[i.out,l.out];omega
def QF(fb:bG)(T:aW)(a:bG):Prop:=(T=284/\a=fb)\/T=299
theorem yJ(fb:bG):PR (QF fb):=fun T a h=>by
 rcases h with⟨h,_⟩|h
 ·rw[h];decide
 ·rw[h];decide
open Classical in
noncomputable def GR(fb:bG)(w:af)(v:ay):Nat:=2*zo (QF fb) w v+if v= .iface 284 (.pointer (some fb))then 0 else 1
set_option maxRecDepth 100000 in
theorem acN(n:Nat)(T:aW)(a fb:bG)(w:af)(h:o_ (QF fb) w n T a)(hF:w.cell? ⟨0,0,none⟩=some (.iface 284 (.pointer (some fb)))):
 aH prog 48 #[.iface T (.pointer (some a)),.iface 284 (.pointer (some fb)),.bool true] w fun e w'=>e= .returned (.bool true)/\w'=w:=by
 have q:=Xr;have r:=adw fb;have e3:=adv;have s:=Mc;have t:=acr;have u1:=nV;have u2:=EK;have x:=lK;have y:=zG;go_enter func48,ntmps48
 go_wp2_with fail
 go_loop [0] (fun v=> ∃n T a,v= .iface T (.pointer (some a))/\o_ (QF fb) w n T a) (fun v=>GR fb w v)
 case atStart=>exact⟨n,T,a,rfl,h⟩
 case round=>
  clear h;obtain⟨n,T,a,rfl,h⟩:=hrel;have m:au _:=jM (yJ fb) h;cases n with
  |zero=>
   rcases h with⟨f,p⟩|f
   ·subst f p;go_wp2
    go_ret;exact⟨rfl,rfl⟩
   ·subst f;have g:au (o_ (QF fb) w 0 284 fb):=(.inl ⟨rfl,rfl⟩:QF fb _ _);have d:au _:=jM (yJ fb) g.out;go_wp2
    go_round
    case rel=>exact⟨0,_,fb,rfl,g.out⟩
    case measure=>show GR fb _ (Value.iface 284 (.pointer (some fb)))<_;unfold GR;rw[d.out,m.out,aG rfl,ax (fun e=>by injection e with e _;revert e;decide)];omega
  |succ n=>
   obtain⟨f,b,u,k,i,j,rfl,o,l⟩:=h;subst f;have c0:w.cell? ⟨b,2,none⟩=some (.iface i (.pointer (some j))):=by simpa using(Pr.cell_of o 2).1
   have d:au _:=jM (yJ fb) l;have g:au _:=l;clear o l;go_wp2
   go_round
   case rel=>exact⟨n,i,j,rfl,g.out⟩
   case measure=>show GR fb _ (Value.iface i (.pointer (some j)))<_;unfold GR;rw[d.out,m.out,ax (c:=Value.iface 110 _=_) (fun e=>by injection e with e _;revert e;decide)];split<;>omega
set_option maxRecDepth 100000 in
theorem EL(r:Bool)(T:aW)(a t:bG)(w:af)(h:aH prog 48 #[.iface T (.pointer (some a)),.iface 284 (.pointer (some t)),.bool true] w fun e w'=>e= .returned (.bool r)/\w'=w):
 aH prog 40 #[.iface T (.pointer (some a)),.iface 284 (.pointer (some t))] w fun e w'=>e= .returned (.bool r)/\w'=w:=by
 have c:=wC;have b:=xE;have d:=Ez;have f:=AV;have g:=sS;go_enter func40,ntmps40
 go_wp2_with fail
 refine h.mono ?_;rintro e w' ⟨rfl,rfl⟩;go_wp2_with fail
 go_ret;exact⟨rfl,rfl⟩
end Er
namespace Pr
open Go.RowKit
theorem Um(T:aW)(a:bG)(w:af)(b:xI w)(h:iQ w T a):
 aH prog 33 #[.iface T (.pointer (some a))] w fun e w'=>e= .returned (.int .i64 3)/\aA w.heap.size w w':=by
 obtain⟨n,h⟩:=h;obtain⟨⟨fb,hF⟩,b⟩:=b;have c:=Er.bU b (.cells #[.pointer none] 93);have d:=Er.bU hF (.cells #[.pointer none] 93);have H0:au (o_ QM (w.alloc (.cells #[.pointer none] 93)) n T a):=o_.grow (fun k f=>ai w _ k f) h;have g:au (aA w.heap.size w (w.alloc (.cells #[.pointer none] 93))):=(aV _ _).alloc (ah _) _;clear h;go_enter func33,ntmps33
 go_wp2_with fail
 refine(Er.EL false T a fb _ (Er.Xt n T a fb _ H0.out)).mono ?_;rintro e w' ⟨rfl,rfl⟩;go_wp2_with fail
 refine(Er.acM w.heap.size n T a ⟨w.heap.size,0,none⟩ (.pointer none) _ c H0.out (by simp) (by simp) (ah _)).mono ?_;rintro e w' ⟨rfl,hb⟩;go_wp2_with fail
 go_ret;exact⟨rfl,g.out.trans hb⟩
theorem Un(T:aW)(a fb:bG)(w:af)(hF:kL w fb)(h:sV fb w T a):
 aH prog 33 #[.iface T (.pointer (some a))] w fun e w'=>e= .returned (.int .i64 4)/\aA w.heap.size w w':=by
 obtain⟨n,h⟩:=h;have b:=Er.bU hF (.cells #[.pointer none] 93);have H0:au (o_ (Er.QF fb) (w.alloc (.cells #[.pointer none] 93)) n T a):=o_.grow (fun k c=>ai w _ k c) h;have d:au (aA w.heap.size w (w.alloc (.cells #[.pointer none] 93))):=(aV _ _).alloc (ah _) _;clear h;go_enter func33,ntmps33
 go_wp2_with fail
 refine(Er.EL true T a fb _ (Er.acN n T a fb _ H0.out b)).mono ?_;rintro e w' ⟨rfl,rfl⟩;go_wp2_with fail
 go_ret;exact⟨rfl,d.out⟩
end Pr
end Go.Proofs.YtephkcdbnogdhabGreatDoor
