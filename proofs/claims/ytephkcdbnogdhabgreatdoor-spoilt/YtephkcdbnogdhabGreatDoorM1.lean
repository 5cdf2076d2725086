import Derived.Test.YtephkcdbnogdhabGreatDoorM0
set_option linter.unusedVariables false
set_option maxHeartbeats 40000000
set_option maxRecDepth 10000
namespace Go.Proofs.YtephkcdbnogdhabGreatDoor
open Go.Proofs.Tryz
open Go renaming World->af,Value->ay,Calls->aH,TypeId->aW,Addr->bG
open Go.RowKit renaming Below->aA
namespace Er
open Go.RowKit Go.Extern.Stop Go.Stop Go.Extern
noncomputable def ext(fn:Func):Array ay->Sem ay:=(Extern.find fn).getD (fun _=>pure (.tuple #[]))
theorem oZ {f:FuncId} {fn:Func} (b:prog.funcs[f]?=some fn) (h1:(fn.name== "runtime.NumGoroutine")=false) (h2:fn.body.isNone=true) (c:Extern.findNext fn=none) (a:(Extern.find fn).isSome=true) (args:Array ay) (w:af):
 (callFunc f args).run prog w=((ext fn args).run prog w).andThen fun v w'=> .ok (.value v) w':=by
 refine run_callFunc_extern b h1 h2 c ?_ args w;unfold ext;cases h:Extern.find fn with
 |none=>rw[h]at a;simp at a
 |some g=>rfl
theorem Ez(v:ay)(w:af):(ext f47 #[.iface 284 v]).run prog w= .ok (.iface 147 (.agg #[.pointer (some ⟨7,284,none⟩)])) w:=by kernel_rfl
theorem AV(w:af):(ext f203 #[.agg #[.pointer (some ⟨7,284,none⟩)]]).run prog w= .ok (.bool true) w:=by kernel_rfl
theorem sS(v:ay)(w:af):(Go.method 417 147 v "Comparable").run prog w= .ok (203,v) w:=by kernel_rfl
theorem Pz:(prog.info? 284).map (·.comparable)=some true:=by kernel_rfl
theorem PD:(prog.info? 307).map (·.size)=some 1:=by kernel_rfl
theorem wC(args:Array ay)(w:af):(callFunc 47 args).run prog w=((ext f47 args).run prog w).andThen fun v w'=> .ok (.value v) w':=
 oZ func47 (by kernel_rfl) (by kernel_rfl) (by kernel_rfl) (by kernel_rfl) args w
theorem xE(args:Array ay)(w:af):(callFunc 203 args).run prog w=((ext f203 args).run prog w).andThen fun v w'=> .ok (.value v) w':=
 oZ func203 (by kernel_rfl) (by kernel_rfl) (by kernel_rfl) (by kernel_rfl) args w
set_option maxRecDepth 100000 in
theorem aaI(a:bG)(w:af):
 aH prog 40 #[.iface 284 (.pointer (some a)),.iface 284 (.pointer (some a))] w fun e w'=>e= .returned (.bool true)/\w'=w:=by
 obtain⟨i,hi,b⟩:=Option.map_eq_some_iff.1 Pz;obtain⟨j,c,d⟩:=Option.map_eq_some_iff.1 PD;have g:=wC;have f:=xE;have h:=Ez;have k:=AV;have l:=sS;have heq:=run_eql_iface_ptr_same (P:=prog) w a underlying73 underlying284 hi b c;go_enter func40,ntmps40
 go_wp2
 refine wp_loop_rounds 1 ?_;rw[xx];go_wp2
 go_ret;exact⟨rfl,rfl⟩
theorem xG(args:Array ay)(w:af):(callFunc 49 args).run prog w=((ext f49 args).run prog w).andThen fun v w'=> .ok (.value v) w':=
 oZ func49 (by kernel_rfl) (by kernel_rfl) (by kernel_rfl) (by kernel_rfl) args w
theorem Io(args:Array ay)(w:af):(callFunc 50 args).run prog w=((ext f50 args).run prog w).andThen fun v w'=> .ok (.value v) w':=
 oZ func50 (by kernel_rfl) (by kernel_rfl) (by kernel_rfl) (by kernel_rfl) args w
theorem Ip(args:Array ay)(w:af):(callFunc 51 args).run prog w=((ext f51 args).run prog w).andThen fun v w'=> .ok (.value v) w':=
 oZ func51 (by kernel_rfl) (by kernel_rfl) (by kernel_rfl) (by kernel_rfl) args w
theorem LM(args:Array ay)(w:af):(callFunc 184 args).run prog w=((ext f184 args).run prog w).andThen fun v w'=> .ok (.value v) w':=
 oZ func184 (by kernel_rfl) (by kernel_rfl) (by kernel_rfl) (by kernel_rfl) args w
theorem LP(args:Array ay)(w:af):(callFunc 204 args).run prog w=((ext f204 args).run prog w).andThen fun v w'=> .ok (.value v) w':=
 oZ func204 (by kernel_rfl) (by kernel_rfl) (by kernel_rfl) (by kernel_rfl) args w
theorem xH(args:Array ay)(w:af):(callFunc 205 args).run prog w=((ext f205 args).run prog w).andThen fun v w'=> .ok (.value v) w':=
 oZ func205 (by kernel_rfl) (by kernel_rfl) (by kernel_rfl) (by kernel_rfl) args w
theorem vF(args:Array ay)(w:af):(callFunc 202 args).run prog w=((ext f202 args).run prog w).andThen fun v w'=> .ok (.value v) w':=
 oZ func202 (by kernel_rfl) (by kernel_rfl) (by kernel_rfl) (by kernel_rfl) args w
theorem Uf(args:Array ay)(w:af):(callFunc 77 args).run prog w=((ext f77 args).run prog w).andThen fun v w'=> .ok (.value v) w':=
 oZ func77 (by kernel_rfl) (by kernel_rfl) (by kernel_rfl) (by kernel_rfl) args w
theorem Xc(args:Array ay)(w:af):(callFunc 78 args).run prog w=((ext f78 args).run prog w).andThen fun v w'=> .ok (.value v) w':=
 oZ func78 (by kernel_rfl) (by kernel_rfl) (by kernel_rfl) (by kernel_rfl) args w
def vv(a:bG):ay:= .agg #[.pointer (some ⟨7,96,none⟩),.pointer (some a),.int .u64 150]
theorem LQ(t:bG)(w:af):(ext f49 #[.iface 96 (.pointer (some t))]).run prog w= .ok (.agg #[.pointer (some ⟨7,96,none⟩),.pointer (some ⟨w.heap.size,0,none⟩),.int .u64 150]) (w.alloc (.cells #[.pointer (some t)] 96)):=by kernel_rfl
theorem acj(a:bG)(w:af):(ext f50 #[.agg #[.pointer (some ⟨7,96,none⟩),.pointer (some a),.int .u64 150]]).run prog w= .ok (.iface 147 (.agg #[.pointer (some ⟨7,96,none⟩)])) w:=by kernel_rfl
theorem EC(h:ay)(w:af):(Go.method 417 147 (.agg #[h]) "Kind").run prog w= .ok (184,h) w:=by kernel_rfl
theorem ack(w:af):(ext f184 #[.pointer (some ⟨7,96,none⟩)]).run prog w= .ok (.int .u8 22) w:=by kernel_rfl
theorem acm(w:af):(ext f184 #[.pointer (some ⟨7,93,none⟩)]).run prog w= .ok (.int .u8 22) w:=by kernel_rfl
theorem ED(h:ay)(w:af):(Go.method 417 147 (.agg #[h]) "Elem").run prog w= .ok (204,.agg #[h]) w:=by kernel_rfl
theorem vG(h:ay)(w:af):(Go.method 417 147 (.agg #[h]) "Implements").run prog w= .ok (205,.agg #[h]) w:=by kernel_rfl
theorem sU(h:ay)(w:af):(Go.method 417 147 (.agg #[h]) "AssignableTo").run prog w= .ok (202,.agg #[h]) w:=by kernel_rfl
theorem acn(w:af):(ext f204 #[.agg #[.pointer (some ⟨7,96,none⟩)]]).run prog w= .ok (.iface 147 (.agg #[.pointer (some ⟨7,93,none⟩)])) w:=by kernel_rfl
theorem Dl(w:af):(ext f205 #[.agg #[.pointer (some ⟨7,93,none⟩)],.iface 147 (.agg #[.pointer (some ⟨7,73,none⟩)])]).run prog w= .ok (.bool true) w:=by kernel_rfl
theorem aaJ(v:ay)(w:af):(ext f47 #[.iface 93 v]).run prog w= .ok (.iface 147 (.agg #[.pointer (some ⟨7,93,none⟩)])) w:=by kernel_rfl
theorem Si(v:ay)(w:af):(ext f47 #[.iface 110 v]).run prog w= .ok (.iface 147 (.agg #[.pointer (some ⟨7,110,none⟩)])) w:=by kernel_rfl
theorem aaK(w:af):(ext f202 #[.agg #[.pointer (some ⟨7,93,none⟩)],.iface 147 (.agg #[.pointer (some ⟨7,93,none⟩)])]).run prog w= .ok (.bool true) w:=by kernel_rfl
theorem Sj(w:af):(ext f202 #[.agg #[.pointer (some ⟨7,110,none⟩)],.iface 147 (.agg #[.pointer (some ⟨7,93,none⟩)])]).run prog w= .ok (.bool false) w:=by kernel_rfl
theorem Xd(e:bG)(w:af):(ext f49 #[.iface 93 (.pointer (some e))]).run prog w= .ok (.agg #[.pointer (some ⟨7,93,none⟩),.pointer (some ⟨w.heap.size,0,none⟩),.int .u64 150]) (w.alloc (.cells #[.pointer (some e)] 93)):=by kernel_rfl
theorem aco(v:ay)(a:aW)(w:af):(Instr.typeAssert (.iface 110 v) a 158 true).run prog w= .ok (.tuple #[.nilIface,.bool false]) w:=run_typeAssert_lacksB underlying158 (by kernel_rfl) (by kernel_rfl) v a w
theorem nV(v:ay)(a:aW)(w:af):(Instr.typeAssert (.iface 110 v) a 152 true).run prog w= .ok (.tuple #[.iface 110 v,.bool true]) w:=run_typeAssert_hasB underlying152 (by kernel_rfl) v a w
theorem lK(v:ay)(w:af):(Go.method 417 110 v "Unwrap").run prog w= .ok (194,v) w:=by kernel_rfl
theorem Xe(a:bG)(w:af):(ReflectliteValue.parts (.agg #[.pointer (some ⟨7,96,none⟩),.pointer (some a),.int .u64 150])).run prog w= .ok (some (96,a,150)) w:=by kernel_rfl
theorem acG(a:bG)(w:af):(ReflectliteValue.parts (.agg #[.pointer (some ⟨7,93,none⟩),.pointer (some a),.int .u64 406])).run prog w= .ok (some (93,a,406)) w:=by kernel_rfl
theorem acH(a:bG)(w:af):(ReflectliteValue.parts (.agg #[.pointer (some ⟨7,93,none⟩),.pointer (some a),.int .u64 150])).run prog w= .ok (some (93,a,150)) w:=by kernel_rfl
theorem aaL(w:af):(Rtype.elem? 96).run prog w= .ok (some 93) w:=by kernel_rfl
theorem mkM(p:bG)(w:af):(ReflectliteValue.mk 93 p ReflectliteValue.flagAddr).run prog w= .ok (.agg #[.pointer (some ⟨7,93,none⟩),.pointer (some p),.int .u64 406]) w:=by kernel_rfl
theorem aaM(w:af):(Rtype.directlyAssignable 93 93).run prog w= .ok true w:=by kernel_rfl
theorem Xf:ext f51=ReflectliteValue.method (ReflectliteValue.valueError "reflectlite.Value.IsNil" 0) ReflectliteValue.isNil:=by kernel_rfl
theorem aaN:ext f77=ReflectliteValue.method (ReflectliteValue.valueError "reflectlite.Value.Elem" 0) ReflectliteValue.elem:=by kernel_rfl
theorem acI:ext f78=ReflectliteValue.set:=by kernel_rfl
theorem Iq(z:Sem ay)(f:aW->bG->Nat->Nat->Sem ay)(v:ay)(t:aW)(a:bG)(fl:Nat)(W:af)(h:(ReflectliteValue.parts v).run prog W= .ok (some (t,a,fl)) W):
 (ReflectliteValue.method z f #[v]).run prog W=(f t a fl (fl%32)).run prog W:=by
 obtain⟨g,h1,h2⟩:∃g:Option (aW×bG×Nat)->Sem ay,ReflectliteValue.method z f #[v]=ReflectliteValue.parts v>>=g/\g (some (t,a,fl))=f t a fl (fl%32):=⟨_,rfl,rfl⟩;rw[h1,Sem.run_bind,h];simp only[Result.andThen,h2]
theorem Xg(a p:bG)(W:af)(b:W.cell? a=some (.pointer (some p))):
 (ext f51 #[.agg #[.pointer (some ⟨7,96,none⟩),.pointer (some a),.int .u64 150]]).run prog W= .ok (.bool false) W:=by
 rw[Xf,Iq _ _ _ _ _ _ _ (Xe a W)];simp[ReflectliteValue.isNil,loadVar,isAgg,underlying,underlying96,b,Result.andThen]
theorem elemV(a p:bG)(W:af)(b:W.cell? a=some (.pointer (some p))):
 (ext f77 #[.agg #[.pointer (some ⟨7,96,none⟩),.pointer (some a),.int .u64 150]]).run prog W= .ok (.agg #[.pointer (some ⟨7,93,none⟩),.pointer (some p),.int .u64 406]) W:=by
 rw[aaN,Iq _ _ _ _ _ _ _ (Xe a W)];simp[ReflectliteValue.elem,loadVar,isAgg,underlying,underlying96,b,Result.andThen,aaL,mkM]
theorem acJ:∃(g:Option (aW×bG×Nat)->Option (aW×bG×Nat)->Sem ay) (k:bG->ay->Bool->Sem ay),(∀v x,ReflectliteValue.set #[v,x]=ReflectliteValue.parts v>>=fun o=>ReflectliteValue.parts x>>=g o)/\
 (∀a b,g (some (93,a,406)) (some (93,b,150))=loadVar 93 b>>=fun val=>Rtype.directlyAssignable 93 93>>=k a val)/\∀a val,k a val true=storeVar 93 a val>>=fun _=>pure (.tuple #[]):=⟨_,_,fun _ _=>rfl,fun _ _=>rfl,fun _ _=>rfl⟩
theorem ad3(a b e:bG)(c:ay)(W:af)(hb:W.cell? b=some (.pointer (some e)))(d:W.cell? a=some c)(f:W.frozen? a=false):
 (ext f78 #[.agg #[.pointer (some ⟨7,93,none⟩),.pointer (some a),.int .u64 406],.agg #[.pointer (some ⟨7,93,none⟩),.pointer (some b),.int .u64 150]]).run prog W= .ok (.tuple #[]) (W.setCell a (.pointer (some e))):=by
 obtain⟨g,k,h1,h2,h⟩:=acJ;rw[acI,h1];simp only[Sem.run_bind,acG,acH,Result.andThen,h2];simp[loadVar,isAgg,underlying,underlying93,hb,Result.andThen,aaM,h,storeVar,Value.cells,storeCells,Addr.add];rw[run_store prog W a _ _ (by rfl)];simp[d,f]
end Er
namespace Er
open Go.RowKit
theorem yG{w:af}{a:bG}{v:ay}(h:w.cell? a=some v):a.block<w.heap.size:=by
 rcases bW a.block w.heap.size with b|b
 ·exact b
 ·simp[World.cell?,Array.getElem?_eq_none b]at h
theorem bU{w:af}{a:bG}{v:ay}(h:w.cell? a=some v)(o:Obj):(w.alloc o).cell? a=some v:=by rw[World.cell?_alloc_lt _ _ a (yG h)];exact h
theorem fV{w:af}{a:bG}{v:ay}(h:w.cell? a=some v)(o:Obj)(b:w.frozen? a=false):(w.alloc o).frozen? a=false:=by rw[World.frozen?_alloc_old _ _ a (Nat.ne_of_lt (yG h))];exact b
end Er
namespace Pr
open Go.RowKit
theorem cell_of{w:af}{b:Nat}{cur:Array ay}{T:aW}(h:w.heap[b]?=some (.cells cur T (0,0)))(o:Nat):w.cell? ⟨b,o,none⟩=cur[o]?/\w.frozen? ⟨b,o,none⟩=false:=by
 constructor
 ·simp[World.cell?,h]
 ·simp[World.frozen?,h]
theorem bF{w:af}{b:Nat}{cur:Array ay}{T:aW}(h:w.heap[b]?=some (.cells cur T (0,0)))(o:Nat)(x:ay):(w.setCell ⟨b,o,none⟩ x).heap[b]?=some (.cells (cur.setIfInBounds o x) T (0,0)):=by simp[World.setCell,Array.getElem?_modify,h]
theorem aC{w:af}{b k:Nat}(o:Nat)(x:ay)(a:k≠b):(w.setCell ⟨b,o,none⟩ x).heap[k]?=w.heap[k]?:=Below.heap_setCell w ⟨b,o,none⟩ x k a
theorem ak{w:af}{b:Nat}{o:Obj}(h:w.heap[b]?=some o):b<w.heap.size:=(Array.getElem?_eq_some_iff.1 h).1
structure Fr(S:Nat->Prop)(w w':af):Prop where
 os:w'.os=w.os
 tape:w'.tape=w.tape
 output:w'.output=w.output
 size:w.heap.size<=w'.heap.size
 block:∀k,k<w.heap.size->¬S k->w'.heap[k]?=w.heap[k]?
theorem Fr.refl(S:Nat->Prop)(w:af):Fr S w w:=⟨rfl,rfl,rfl,ah _,fun _ _ _=>rfl⟩
theorem Fr.trans{S:Nat->Prop}{u v w:af}(h:Fr S u v)(k:Fr S v w):Fr S u w:=
 ⟨k.os.trans h.os,k.tape.trans h.tape,k.output.trans h.output,aY h.size k.size,fun i hi a=>(k.block i (aN hi h.size) a).trans (h.block i hi a)⟩
theorem Fr.drewN{S:Nat->Prop}{u v:af}(h:Fr S u v)(n:Nat):Fr S u (v.drewN n):=⟨h.os,h.tape,h.output,h.size,h.block⟩
theorem Fr.drew{S:Nat->Prop}{u v:af}(h:Fr S u v):Fr S u v.drew:=⟨h.os,h.tape,h.output,h.size,h.block⟩
theorem Fr.set{S:Nat->Prop}{u v:af}(h:Fr S u v)(b o:Nat)(hb:S b)(x:ay):Fr S u (v.setCell ⟨b,o,none⟩ x):=
 ⟨h.os,h.tape,h.output,by simpa using h.size,fun k c a=>(Below.heap_setCell v ⟨b,o,none⟩ x k (fun e=>a (e▸hb))).trans (h.block k c a)⟩
theorem Fr.dY{S:Nat->Prop}{u v:af}(h:Fr S u v)(b o:Nat)(hb:u.heap.size<=b)(x:ay):Fr S u (v.setCell ⟨b,o,none⟩ x):=
 ⟨h.os,h.tape,h.output,by simpa using h.size,fun k c a=>(Below.heap_setCell v ⟨b,o,none⟩ x k (show k≠b by omega)).trans (h.block k c a)⟩
theorem Fr.alloc{S:Nat->Prop}{u v:af}(h:Fr S u v)(o:Obj):Fr S u (v.alloc o):=
 ⟨h.os,h.tape,h.output,by have:=h.size;simp;omega,fun k b a=>(ai v o k (aN b h.size)).trans (h.block k b a)⟩
theorem Fr.mono{S R:Nat->Prop}{u v:af}(h:Fr S u v)(b:∀k,S k->R k):Fr R u v:=⟨h.os,h.tape,h.output,h.size,fun k c a=>h.block k c (fun e=>a (b k e))⟩
theorem Fr.jI{S:Nat->Prop}{u v:af}(h:aA u.heap.size u v):Fr S u v:=⟨h.os,h.tape,h.output,h.size,fun k a _=>h.block k a⟩
def o_(Q:aW->bG->Prop)(w:af):Nat->aW->bG->Prop
 |0,T,a=>Q T a
 |n+1,T,a=>T=110/\∃b u m c d,a=⟨b,0,none⟩/\w.heap[b]?=some (.cells #[u,m,.iface c (.pointer (some d))] 112 (0,0))/\o_ Q w n c d
theorem o_.over{Q:aW->bG->Prop}{w w':af}(hb:∀(k:Nat) (cur:Array ay) (f:Nat×Nat),w.heap[k]?=some (Obj.cells cur 112 f)->w'.heap[k]?=w.heap[k]?):∀{n:Nat} {T:aW} {a:bG},o_ Q w n T a->o_ Q w' n T a
 |0,_,_,h=>h
 |n+1,_,_,⟨h1,b,u,m,d,e,h2,c,g⟩=>⟨h1,b,u,m,d,e,h2,(hb b _ _ c).trans c,o_.over hb g⟩
theorem o_.grow{Q:aW->bG->Prop}{w w':af}(hb:∀k,k<w.heap.size->w'.heap[k]?=w.heap[k]?){n:Nat}{T:aW}{a:bG}(h:o_ Q w n T a):o_ Q w' n T a:=h.over (fun k _ _ e=>hb k (ak e))
def iQ(w:af)(T:aW)(a:bG):Prop:=∃n,o_ (fun T _=>T=93) w n T a
def sV(fb:bG)(w:af)(T:aW)(a:bG):Prop:=∃n,o_ (fun T a=>(T=284/\a=fb)\/T=299) w n T a
theorem iQ.mk(w:af)(a:bG):iQ w 93 a:=⟨0,rfl⟩
theorem iQ.over{w w':af}{T:aW}{a:bG}(h:iQ w T a)(hb:∀(k:Nat) (cur:Array ay) (f:Nat×Nat),w.heap[k]?=some (Obj.cells cur 112 f)->w'.heap[k]?=w.heap[k]?):iQ w' T a:=by obtain⟨n,h⟩:=h;exact⟨n,h.over hb⟩
theorem sV.over{fb:bG}{w w':af}{T:aW}{a:bG}(h:sV fb w T a)(hb:∀(k:Nat) (cur:Array ay) (f:Nat×Nat),w.heap[k]?=some (Obj.cells cur 112 f)->w'.heap[k]?=w.heap[k]?):sV fb w' T a:=by obtain⟨n,h⟩:=h;exact⟨n,h.over hb⟩
theorem iQ.grow{w w':af}{T:aW}{a:bG}(h:iQ w T a)(hb:∀k,k<w.heap.size->w'.heap[k]?=w.heap[k]?):iQ w' T a:=h.over (fun k _ _ e=>hb k (ak e))
theorem sV.grow{fb:bG}{w w':af}{T:aW}{a:bG}(h:sV fb w T a)(hb:∀k,k<w.heap.size->w'.heap[k]?=w.heap[k]?):sV fb w' T a:=h.over (fun k _ _ e=>hb k (ak e))
theorem fM{w:af}{a b:Nat}{x y:Array ay}{S T:aW}{f g:Nat×Nat}(h1:w.heap[a]?=some (.cells x S f))(h2:w.heap[b]?=some (.cells y T g))(h:S≠T):a≠b:=by rintro rfl;rw[h1]at h2;simp at h2;exact h h2.2.1
end Pr
end Go.Proofs.YtephkcdbnogdhabGreatDoor
