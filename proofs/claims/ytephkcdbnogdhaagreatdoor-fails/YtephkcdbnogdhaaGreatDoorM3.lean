import Derived.Test.YtephkcdbnogdhaaGreatDoorM1
set_option linter.unusedVariables false
set_option maxHeartbeats 40000000
set_option maxRecDepth 10000
namespace Go.Proofs.YtephkcdbnogdhaaGreatDoor
open Go.Proofs.Tryz
open Go renaming World->af,Value->ay,Calls->aF,TypeId->aY,Addr->bP
open Go.RowKit renaming Hid->ah,Below->aJ
namespace Pr
open Go.RowKit
def SH(Q:aY->bP->Prop):Prop:=∀T a,Q T a->T≠214
theorem qF.unique{Q:aY->bP->Prop}(e:SH Q){w:af}:∀{n m:Nat} {T:aY} {a:bP},qF Q w n T a->qF Q w m T a->n=m
 |0,0,_,_,_,_=>rfl
 |0,m+1,T,a,h,f=>absurd f.1 (e T a h)
 |n+1,0,T,a,h,f=>absurd h.1 (e T a f)
 |n+1,m+1,T,a,⟨_,b,u,k,s,t,i,h3,j⟩,⟨_,v,x,y,l,o,d,c,g⟩=>by
  rw[i]at d;injection d with p
  subst p;rw[h3]at c;simp at c;obtain⟨_,_,q,r⟩:=c;subst q r;rw[qF.unique e j g]
open Classical in
noncomputable def zX(Q:aY->bP->Prop)(w:af)(v:ay):Nat:=if h:∃n T a,v= .iface T (.pointer (some a))/\qF Q w n T a then h.choose else 0
theorem kL{Q:aY->bP->Prop}(f:SH Q){w:af}{n:Nat}{T:aY}{a:bP}(h:qF Q w n T a):zX Q w (.iface T (.pointer (some a)))=n:=by
 have hx:∃n c d,Value.iface T (.pointer (some a))= .iface c (.pointer (some d))/\qF Q w n c d:=⟨n,T,a,rfl,h⟩;unfold zX;rw[dif_pos hx];obtain⟨c,d,e,g⟩:=hx.choose_spec;injection e with i b
 injection b with b
 injection b with b
 subst i b;exact qF.unique f g h
def QM(T:aY)(_:bP):Prop:=T=142
theorem xu:SH QM:=fun T a h=>by unfold QM at h;rw[h];decide
end Pr
namespace Er
open Go.RowKit Go.Extern.Stop Go.Stop Go.Extern
open Pr (qF QM zX kL xu)
set_option maxRecDepth 100000 in
theorem aep(B:Nat)(n:Nat)(T:aY)(a t c:bP)(d:ay)(w:af)(h:qF QM w n T a)(s:w.cell? c=some (.pointer (some t)))(f:w.cell? t=some d)(x:w.frozen? t=false)(q:B<=t.block):
 aF prog 113 #[.iface T (.pointer (some a)),.iface 145 (.pointer (some t)),.agg #[.pointer (some ⟨7,145,none⟩),.pointer (some c),.int .u64 150],.iface 238 (.agg #[.pointer (some ⟨7,142,none⟩)])] w fun e w'=>e= .returned (.bool true)/\aJ B w w':=by
 have g:B<=w.heap.size:=aK q (BB (zB f));have C:=xq;have D:=wK;have E:=WM;have F:=yK;have G:=Zg;have H:=uH;have I:=mV;have J:=ach;have K:=Vq;have L:=aci;have M:=Vr;have N:=Zh;have O:=adZ;have P:=pG;have el:=elemV c t (w.alloc (.cells #[.pointer (some ⟨7,145,none⟩),.pointer (some c),.int .u64 150] 197)) (dm s _)
 have st:=fun m=>afD t ⟨w.heap.size+1,0,none⟩ m d ((w.alloc (.cells #[.pointer (some ⟨7,145,none⟩),.pointer (some c),.int .u64 150] 197)).alloc (.cells #[.pointer (some m)] 142))
  (by rw[World.cell?_alloc_at _ _ _ _ (by simp)];rfl) (dm (dm f _) _) (f_ (dm f _) _ (f_ f _ x))
 have r:qF QM (w.alloc (.cells #[.pointer (some ⟨7,145,none⟩),.pointer (some c),.int .u64 150] 197)) n T a:=h.grow (fun k y=>aj w _ k y);clear h;go_enter func113,ntmps113
 go_wp2_with fail
 go_loop [0] (fun v=> ∃n T a,v= .iface T (.pointer (some a))/\qF QM (w.alloc (.cells #[.pointer (some ⟨7,145,none⟩),.pointer (some c),.int .u64 150] 197)) n T a) (fun v=>zX QM (w.alloc (.cells #[.pointer (some ⟨7,145,none⟩),.pointer (some c),.int .u64 150] 197)) v)
 case atStart=>exact⟨n,T,a,rfl,r⟩
 case round=>
  clear r;obtain⟨n,T,a,rfl,h⟩:=hrel;have z:ah _:=kL xu h;cases n with
  |zero=>
   have i:T=142:=h;subst i;clear h;go_wp2
   go_ret;exact⟨rfl,(((aP _ _).alloc g _).alloc (by simp;omega) _).setCell q _⟩
  |succ n=>
   obtain⟨i,b,u,k,j,l,rfl,h3,o⟩:=h;subst i;have c0:(w.alloc (.cells #[.pointer (some ⟨7,145,none⟩),.pointer (some c),.int .u64 150] 197)).cell? ⟨b,2,none⟩=some (.iface j (.pointer (some l))):=by simpa using(Pr.cell_of h3 2).1
   have p:ah _:=kL xu o;have A:ah _:=o;clear h3 o;go_wp2
   go_round
   case rel=>exact⟨n,j,l,rfl,A.out⟩
   case measure=>show zX QM _ (Value.iface j (.pointer (some l)))<_;rw[p.out,z.out];omega
set_option maxRecDepth 100000 in
theorem aeq(B:Nat)(n:Nat)(T:aY)(a t:bP)(b:ay)(w:af)(g:w.cell? ⟨3,0,none⟩=some (.iface 238 (.agg #[.pointer (some ⟨7,80,none⟩)])))(h:qF QM w n T a)(c:w.cell? t=some b)(i:w.frozen? t=false)(f:B<=t.block):
 aF prog 77 #[.iface T (.pointer (some a)),.iface 145 (.pointer (some t))] w fun e w'=>e= .returned (.bool true)/\aJ B w w':=by
 have d:B<=w.heap.size:=aK f (BB (zB c));have o:=yK;have p:=JX;have q:=OG;have r:=JY;have s:=OH;have j:=yL;have u:=FO;have v:=FP;have x:=wL;have y:=OI;have z:=adV;have A:=adW;have C:=adX;have D:=adY;have E:=Eo;have nl:=Zk ⟨w.heap.size,0,none⟩ t ((w.alloc (.cells #[.pointer (some t)] 145)).alloc (.cells #[.pointer (some ⟨7,145,none⟩),.pointer (some ⟨w.heap.size,0,none⟩),.int .u64 150] 197)) (by simp);have l:=dm (dm g (.cells #[.pointer (some t)] 145)) (.cells #[.pointer (some ⟨7,145,none⟩),.pointer (some ⟨w.heap.size,0,none⟩),.int .u64 150] 197);have H:ah _:=h;clear h;go_enter func77,ntmps77
 go_wp2_with fail
 refine(aep B n T a t _ b _ ?_ ?_ ?_ ?_ f).mono ?_
 ·exact H.out.grow (fun k m=>(aj _ _ k (by simp;omega)).trans (aj w _ k m))
 ·simp
 ·exact dm (dm c _) _
 ·exact f_ (dm c _) _ (f_ c _ i)
 rintro e w' ⟨rfl,hb⟩;go_wp2
 go_ret;exact⟨rfl,(((aP _ _).alloc d _).alloc (by simp;omega) _).trans hb⟩
end Er
namespace Pr
open Go.RowKit
def lS(w:af)(fb:bP):Prop:=w.cell? ⟨0,0,none⟩=some (.iface 362 (.pointer (some fb)))
def yN(w:af):Prop:=(∃fb,lS w fb)/\w.cell? ⟨3,0,none⟩=some (.iface 238 (.agg #[.pointer (some ⟨7,80,none⟩)]))
theorem aV{w w':af}{k o:Nat}(h:w'.heap[k]?=w.heap[k]?):w'.cell? ⟨k,o,none⟩=w.cell? ⟨k,o,none⟩:=by simp[World.cell?,h]
theorem lS.over{w w':af}{fb:bP}(h:lS w fb)(e:w'.heap[0]?=w.heap[0]?):lS w' fb:=(aV e).trans h
theorem yN.over{w w':af}(h:yN w)(e:∀k,k<7->w'.heap[k]?=w.heap[k]?):yN w':=⟨h.1.imp (fun fb h=>h.over (e _ (by decide))),(aV (e _ (by decide))).trans h.2⟩
end Pr
namespace Er
open Go.RowKit Go.Extern.Stop Go.Stop Go.Extern
open Pr (qF QM zX kL xu SH)
theorem ZH(v v':ay)(w:af):(binOp .eql 80 (.iface 214 v) (.iface 362 v')).run prog w= .ok (.bool false) w:=run_eql_iface_types _ _ v v' underlying80 (by decide) w
theorem afE(v v':ay)(w:af):(binOp .eql 80 (.iface 142 v) (.iface 362 v')).run prog w= .ok (.bool false) w:=run_eql_iface_types _ _ v v' underlying80 (by decide) w
theorem afa(v v':ay)(w:af):(binOp .eql 80 (.iface 376 v) (.iface 362 v')).run prog w= .ok (.bool false) w:=run_eql_iface_types _ _ v v' underlying80 (by decide) w
theorem afb(a:bP)(w:af):(binOp .eql 80 (.iface 362 (.pointer (some a))) (.iface 362 (.pointer (some a)))).run prog w= .ok (.bool true) w:=by obtain⟨i,hi,b⟩:=Option.map_eq_some_iff.1 SA;obtain⟨j,c,d⟩:=Option.map_eq_some_iff.1 SB;exact run_eql_iface_ptr_same (P:=prog) w a underlying80 underlying362 hi b c
theorem Px(v:ay)(a:aY)(w:af):(Instr.typeAssert (.iface 214 v) a 240 true).run prog w= .ok (.tuple #[.nilIface,.bool false]) w:=run_typeAssert_lacksB underlying240 (by kernel_rfl) (by kernel_rfl) v a w
theorem afc(v:ay)(a:aY)(w:af):(Instr.typeAssert (.iface 142 v) a 240 true).run prog w= .ok (.tuple #[.nilIface,.bool false]) w:=run_typeAssert_lacksB underlying240 (by kernel_rfl) (by kernel_rfl) v a w
theorem ad6(v:ay)(a:aY)(w:af):(Instr.typeAssert (.iface 376 v) a 240 true).run prog w= .ok (.tuple #[.nilIface,.bool false]) w:=run_typeAssert_lacksB underlying240 (by kernel_rfl) (by kernel_rfl) v a w
theorem Xg(v:ay)(a:aY)(w:af):(Instr.typeAssert (.iface 142 v) a 243 true).run prog w= .ok (.tuple #[.nilIface,.bool false]) w:=run_typeAssert_lacksB underlying243 (by kernel_rfl) (by kernel_rfl) v a w
theorem TA(v:ay)(a:aY)(w:af):(Instr.typeAssert (.iface 142 v) a 244 true).run prog w= .ok (.tuple #[.nilIface,.bool false]) w:=run_typeAssert_lacksB underlying244 (by kernel_rfl) (by kernel_rfl) v a w
theorem Gu(v:ay)(a:aY)(w:af):(Instr.typeAssert (.iface 376 v) a 243 true).run prog w= .ok (.tuple #[.iface 376 v,.bool true]) w:=run_typeAssert_hasB underlying243 (by kernel_rfl) v a w
theorem Aj(v:ay)(w:af):(Go.method 494 376 v "Unwrap").run prog w= .ok (288,v) w:=by kernel_rfl
set_option maxRecDepth 100000 in
theorem ZI(n:Nat)(T:aY)(a t:bP)(w:af)(h:qF QM w n T a):
 aF prog 109 #[.iface T (.pointer (some a)),.iface 362 (.pointer (some t)),.bool true] w fun e w'=>e= .returned (.bool false)/\w'=w:=by
 have m:=ZH;have o:=afE;have p:=Px;have q:=afc;have u1:=pG;have u2:=Xg;have r:=TA;have s:=mV;go_enter func109,ntmps109
 go_wp2_with fail
 go_loop [0] (fun v=> ∃n T a,v= .iface T (.pointer (some a))/\qF QM w n T a) (fun v=>zX QM w v)
 case atStart=>exact⟨n,T,a,rfl,h⟩
 case round=>
  clear h;obtain⟨n,T,a,rfl,h⟩:=hrel;have j:ah _:=kL xu h;cases n with
  |zero=>
   have c:T=142:=h;subst c;clear h;go_wp2
   go_ret;exact⟨rfl,rfl⟩
  |succ n=>
   obtain⟨c,b,u,k,d,f,rfl,h3,g⟩:=h;subst c;have c0:w.cell? ⟨b,2,none⟩=some (.iface d (.pointer (some f))):=by simpa using(Pr.cell_of h3 2).1
   have i:ah _:=kL xu g;have l:ah _:=g;clear h3 g;go_wp2
   go_round
   case rel=>exact⟨n,d,f,rfl,l.out⟩
   case measure=>show zX QM _ (Value.iface d (.pointer (some f)))<_;rw[i.out,j.out];omega
def QF(fb:bP)(T:aY)(a:bP):Prop:=(T=362/\a=fb)\/T=376
theorem zH(fb:bP):SH (QF fb):=fun T a h=>by
 rcases h with⟨h,_⟩|h
 ·rw[h];decide
 ·rw[h];decide
open Classical in
noncomputable def Jh(fb:bP)(w:af)(v:ay):Nat:=2*zX (QF fb) w v+if v= .iface 362 (.pointer (some fb))then 0 else 1
set_option maxRecDepth 100000 in
theorem aeu(n:Nat)(T:aY)(a fb:bP)(w:af)(h:qF (QF fb) w n T a)(hF:w.cell? ⟨0,0,none⟩=some (.iface 362 (.pointer (some fb)))):
 aF prog 109 #[.iface T (.pointer (some a)),.iface 362 (.pointer (some fb)),.bool true] w fun e w'=>e= .returned (.bool true)/\w'=w:=by
 have p:=ZH;have q:=afb fb;have r:=afa;have s:=Px;have t:=ad6;have u1:=pG;have u2:=Gu;have x:=mV;have y:=Aj;go_enter func109,ntmps109
 go_wp2_with fail
 go_loop [0] (fun v=> ∃n T a,v= .iface T (.pointer (some a))/\qF (QF fb) w n T a) (fun v=>Jh fb w v)
 case atStart=>exact⟨n,T,a,rfl,h⟩
 case round=>
  clear h;obtain⟨n,T,a,rfl,h⟩:=hrel;have m:ah _:=kL (zH fb) h;cases n with
  |zero=>
   rcases h with⟨f,o⟩|f
   ·subst f o;go_wp2
    go_ret;exact⟨rfl,rfl⟩
   ·subst f;have g:ah (qF (QF fb) w 0 362 fb):=(.inl ⟨rfl,rfl⟩:QF fb _ _);have d:ah _:=kL (zH fb) g.out;go_wp2
    go_round
    case rel=>exact⟨0,_,fb,rfl,g.out⟩
    case measure=>show Jh fb _ (Value.iface 362 (.pointer (some fb)))<_;unfold Jh;rw[d.out,m.out,aC rfl,au (fun e=>by injection e with e _;revert e;decide)];omega
  |succ n=>
   obtain⟨f,b,u,k,i,j,rfl,h3,l⟩:=h;subst f;have c0:w.cell? ⟨b,2,none⟩=some (.iface i (.pointer (some j))):=by simpa using(Pr.cell_of h3 2).1
   have d:ah _:=kL (zH fb) l;have g:ah _:=l;clear h3 l;go_wp2
   go_round
   case rel=>exact⟨n,i,j,rfl,g.out⟩
   case measure=>show Jh fb _ (Value.iface i (.pointer (some j)))<_;unfold Jh;rw[d.out,m.out,au (c:=Value.iface 214 _=_) (fun e=>by injection e with e _;revert e;decide)];split<;>omega
set_option maxRecDepth 100000 in
theorem Gv(r:Bool)(T:aY)(a t:bP)(w:af)(h:aF prog 109 #[.iface T (.pointer (some a)),.iface 362 (.pointer (some t)),.bool true] w fun e w'=>e= .returned (.bool r)/\w'=w):
 aF prog 76 #[.iface T (.pointer (some a)),.iface 362 (.pointer (some t))] w fun e w'=>e= .returned (.bool r)/\w'=w:=by
 have h8:=xq;have b:=yJ;have c:=FN;have d:=BM;have f:=uG;go_enter func76,ntmps76
 go_wp2_with fail
 refine h.mono ?_;rintro e w' ⟨rfl,rfl⟩;go_wp2_with fail
 go_ret;exact⟨rfl,rfl⟩
end Er
namespace Pr
open Go.RowKit
theorem Xh(T:aY)(a:bP)(w:af)(b:yN w)(h:jC w T a):
 aF prog 42 #[.iface T (.pointer (some a))] w fun e w'=>e= .returned (.int .i64 3)/\aJ w.heap.size w w':=by
 obtain⟨n,h⟩:=h;obtain⟨⟨fb,hF⟩,b⟩:=b;have c:=Er.dm b (.cells #[.pointer none] 142);have d:=Er.dm hF (.cells #[.pointer none] 142);have H0:ah (qF QM (w.alloc (.cells #[.pointer none] 142)) n T a):=qF.grow (fun k f=>aj w _ k f) h;have g:ah (aJ w.heap.size w (w.alloc (.cells #[.pointer none] 142))):=(aP _ _).alloc (ag _) _;clear h;go_enter func42,ntmps42
 go_wp2_with fail
 refine(Er.Gv false T a fb _ (Er.ZI n T a fb _ H0.out)).mono ?_;rintro e w' ⟨rfl,rfl⟩;go_wp2_with fail
 refine(Er.aeq w.heap.size n T a ⟨w.heap.size,0,none⟩ (.pointer none) _ c H0.out (by simp) (by simp) (ag _)).mono ?_;rintro e w' ⟨rfl,hb⟩;go_wp2_with fail
 go_ret;exact⟨rfl,g.out.trans hb⟩
theorem Xi(T:aY)(a fb:bP)(w:af)(hF:lS w fb)(h:uI fb w T a):
 aF prog 42 #[.iface T (.pointer (some a))] w fun e w'=>e= .returned (.int .i64 4)/\aJ w.heap.size w w':=by
 obtain⟨n,h⟩:=h;have b:=Er.dm hF (.cells #[.pointer none] 142);have H0:ah (qF (Er.QF fb) (w.alloc (.cells #[.pointer none] 142)) n T a):=qF.grow (fun k c=>aj w _ k c) h;have d:ah (aJ w.heap.size w (w.alloc (.cells #[.pointer none] 142))):=(aP _ _).alloc (ag _) _;clear h;go_enter func42,ntmps42
 go_wp2_with fail
 refine(Er.Gv true T a fb _ (Er.aeu n T a fb _ H0.out b)).mono ?_;rintro e w' ⟨rfl,rfl⟩;go_wp2_with fail
 go_ret;exact⟨rfl,d.out⟩
end Pr
end Go.Proofs.YtephkcdbnogdhaaGreatDoor
