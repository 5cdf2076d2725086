import Derived.LaidEql
import Derived.RowKitTokens
import Derived.Stop.Asserts
import Derived.Test.YtephkcdbnogdhaaGreatDoorM0
set_option linter.unusedVariables false
set_option maxHeartbeats 40000000
set_option maxRecDepth 10000
namespace Go.Proofs.YtephkcdbnogdhaaGreatDoor
open Go.Proofs.Tryz
open Go renaming World->af,Value->ay,Calls->aF,TypeId->aY,Addr->bP
open Go.RowKit renaming Below->aJ
namespace Er
open Go.RowKit Go.Extern.Stop Go.Stop Go.Extern
noncomputable def ext(fn:Func):Array ay->Sem ay:=(Extern.find fn).getD (fun _=>pure (.tuple #[]))
theorem qE {f:FuncId} {fn:Func} (b:prog.funcs[f]?=some fn) (c:(fn.name== "runtime.NumGoroutine")=false) (d:fn.body.isNone=true) (h3:Extern.findNext fn=none) (a:(Extern.find fn).isSome=true) (args:Array ay) (w:af):
 (callFunc f args).run prog w=((ext fn args).run prog w).andThen fun v w'=> .ok (.value v) w':=by
 refine run_callFunc_extern b c d h3 ?_ args w;unfold ext;cases h:Extern.find fn with
 |none=>rw[h]at a;simp at a
 |some g=>rfl
theorem FN(v:ay)(w:af):(ext f108 #[.iface 362 v]).run prog w= .ok (.iface 238 (.agg #[.pointer (some ⟨7,362,none⟩)])) w:=by kernel_rfl
theorem BM(w:af):(ext f274 #[.agg #[.pointer (some ⟨7,362,none⟩)]]).run prog w= .ok (.bool true) w:=by kernel_rfl
theorem uG(v:ay)(w:af):(Go.method 494 238 v "Comparable").run prog w= .ok (274,v) w:=by kernel_rfl
theorem SA:(prog.info? 362).map (·.comparable)=some true:=by kernel_rfl
theorem SB:(prog.info? 384).map (·.size)=some 1:=by kernel_rfl
theorem xq(args:Array ay)(w:af):(callFunc 108 args).run prog w=((ext f108 args).run prog w).andThen fun v w'=> .ok (.value v) w':=
 qE func108 (by kernel_rfl) (by kernel_rfl) (by kernel_rfl) (by kernel_rfl) args w
theorem yJ(args:Array ay)(w:af):(callFunc 274 args).run prog w=((ext f274 args).run prog w).andThen fun v w'=> .ok (.value v) w':=
 qE func274 (by kernel_rfl) (by kernel_rfl) (by kernel_rfl) (by kernel_rfl) args w
set_option maxRecDepth 100000 in
theorem acg(a:bP)(w:af):
 aF prog 76 #[.iface 362 (.pointer (some a)),.iface 362 (.pointer (some a))] w fun e w'=>e= .returned (.bool true)/\w'=w:=by
 obtain⟨i,hi,b⟩:=Option.map_eq_some_iff.1 SA;obtain⟨j,c,d⟩:=Option.map_eq_some_iff.1 SB;have h8:=xq;have f:=yJ;have g:=FN;have h:=BM;have k:=uG;have heq:=run_eql_iface_ptr_same (P:=prog) w a underlying80 underlying362 hi b c;go_enter func76,ntmps76
 go_wp2
 refine wp_loop_rounds 1 ?_;rw[yB];go_wp2
 go_ret;exact⟨rfl,rfl⟩
theorem yK(args:Array ay)(w:af):(callFunc 110 args).run prog w=((ext f110 args).run prog w).andThen fun v w'=> .ok (.value v) w':=
 qE func110 (by kernel_rfl) (by kernel_rfl) (by kernel_rfl) (by kernel_rfl) args w
theorem JX(args:Array ay)(w:af):(callFunc 111 args).run prog w=((ext f111 args).run prog w).andThen fun v w'=> .ok (.value v) w':=
 qE func111 (by kernel_rfl) (by kernel_rfl) (by kernel_rfl) (by kernel_rfl) args w
theorem JY(args:Array ay)(w:af):(callFunc 112 args).run prog w=((ext f112 args).run prog w).andThen fun v w'=> .ok (.value v) w':=
 qE func112 (by kernel_rfl) (by kernel_rfl) (by kernel_rfl) (by kernel_rfl) args w
theorem OG(args:Array ay)(w:af):(callFunc 255 args).run prog w=((ext f255 args).run prog w).andThen fun v w'=> .ok (.value v) w':=
 qE func255 (by kernel_rfl) (by kernel_rfl) (by kernel_rfl) (by kernel_rfl) args w
theorem OH(args:Array ay)(w:af):(callFunc 275 args).run prog w=((ext f275 args).run prog w).andThen fun v w'=> .ok (.value v) w':=
 qE func275 (by kernel_rfl) (by kernel_rfl) (by kernel_rfl) (by kernel_rfl) args w
theorem yL(args:Array ay)(w:af):(callFunc 276 args).run prog w=((ext f276 args).run prog w).andThen fun v w'=> .ok (.value v) w':=
 qE func276 (by kernel_rfl) (by kernel_rfl) (by kernel_rfl) (by kernel_rfl) args w
theorem wK(args:Array ay)(w:af):(callFunc 273 args).run prog w=((ext f273 args).run prog w).andThen fun v w'=> .ok (.value v) w':=
 qE func273 (by kernel_rfl) (by kernel_rfl) (by kernel_rfl) (by kernel_rfl) args w
theorem WM(args:Array ay)(w:af):(callFunc 139 args).run prog w=((ext f139 args).run prog w).andThen fun v w'=> .ok (.value v) w':=
 qE func139 (by kernel_rfl) (by kernel_rfl) (by kernel_rfl) (by kernel_rfl) args w
theorem Zg(args:Array ay)(w:af):(callFunc 140 args).run prog w=((ext f140 args).run prog w).andThen fun v w'=> .ok (.value v) w':=
 qE func140 (by kernel_rfl) (by kernel_rfl) (by kernel_rfl) (by kernel_rfl) args w
def vv(a:bP):ay:= .agg #[.pointer (some ⟨7,145,none⟩),.pointer (some a),.int .u64 150]
theorem OI(t:bP)(w:af):(ext f110 #[.iface 145 (.pointer (some t))]).run prog w= .ok (.agg #[.pointer (some ⟨7,145,none⟩),.pointer (some ⟨w.heap.size,0,none⟩),.int .u64 150]) (w.alloc (.cells #[.pointer (some t)] 145)):=by kernel_rfl
theorem adV(a:bP)(w:af):(ext f111 #[.agg #[.pointer (some ⟨7,145,none⟩),.pointer (some a),.int .u64 150]]).run prog w= .ok (.iface 238 (.agg #[.pointer (some ⟨7,145,none⟩)])) w:=by kernel_rfl
theorem FO(h:ay)(w:af):(Go.method 494 238 (.agg #[h]) "Kind").run prog w= .ok (255,h) w:=by kernel_rfl
theorem adW(w:af):(ext f255 #[.pointer (some ⟨7,145,none⟩)]).run prog w= .ok (.int .u8 22) w:=by kernel_rfl
theorem adX(w:af):(ext f255 #[.pointer (some ⟨7,142,none⟩)]).run prog w= .ok (.int .u8 22) w:=by kernel_rfl
theorem FP(h:ay)(w:af):(Go.method 494 238 (.agg #[h]) "Elem").run prog w= .ok (275,.agg #[h]) w:=by kernel_rfl
theorem wL(h:ay)(w:af):(Go.method 494 238 (.agg #[h]) "Implements").run prog w= .ok (276,.agg #[h]) w:=by kernel_rfl
theorem uH(h:ay)(w:af):(Go.method 494 238 (.agg #[h]) "AssignableTo").run prog w= .ok (273,.agg #[h]) w:=by kernel_rfl
theorem adY(w:af):(ext f275 #[.agg #[.pointer (some ⟨7,145,none⟩)]]).run prog w= .ok (.iface 238 (.agg #[.pointer (some ⟨7,142,none⟩)])) w:=by kernel_rfl
theorem Eo(w:af):(ext f276 #[.agg #[.pointer (some ⟨7,142,none⟩)],.iface 238 (.agg #[.pointer (some ⟨7,80,none⟩)])]).run prog w= .ok (.bool true) w:=by kernel_rfl
theorem ach(v:ay)(w:af):(ext f108 #[.iface 142 v]).run prog w= .ok (.iface 238 (.agg #[.pointer (some ⟨7,142,none⟩)])) w:=by kernel_rfl
theorem Vq(v:ay)(w:af):(ext f108 #[.iface 214 v]).run prog w= .ok (.iface 238 (.agg #[.pointer (some ⟨7,214,none⟩)])) w:=by kernel_rfl
theorem aci(w:af):(ext f273 #[.agg #[.pointer (some ⟨7,142,none⟩)],.iface 238 (.agg #[.pointer (some ⟨7,142,none⟩)])]).run prog w= .ok (.bool true) w:=by kernel_rfl
theorem Vr(w:af):(ext f273 #[.agg #[.pointer (some ⟨7,214,none⟩)],.iface 238 (.agg #[.pointer (some ⟨7,142,none⟩)])]).run prog w= .ok (.bool false) w:=by kernel_rfl
theorem Zh(e:bP)(w:af):(ext f110 #[.iface 142 (.pointer (some e))]).run prog w= .ok (.agg #[.pointer (some ⟨7,142,none⟩),.pointer (some ⟨w.heap.size,0,none⟩),.int .u64 150]) (w.alloc (.cells #[.pointer (some e)] 142)):=by kernel_rfl
theorem adZ(v:ay)(a:aY)(w:af):(Instr.typeAssert (.iface 214 v) a 249 true).run prog w= .ok (.tuple #[.nilIface,.bool false]) w:=run_typeAssert_lacksB underlying249 (by kernel_rfl) (by kernel_rfl) v a w
theorem pG(v:ay)(a:aY)(w:af):(Instr.typeAssert (.iface 214 v) a 243 true).run prog w= .ok (.tuple #[.iface 214 v,.bool true]) w:=run_typeAssert_hasB underlying243 (by kernel_rfl) v a w
theorem mV(v:ay)(w:af):(Go.method 494 214 v "Unwrap").run prog w= .ok (271,v) w:=by kernel_rfl
theorem Zi(a:bP)(w:af):(ReflectliteValue.parts (.agg #[.pointer (some ⟨7,145,none⟩),.pointer (some a),.int .u64 150])).run prog w= .ok (some (145,a,150)) w:=by kernel_rfl
theorem aek(a:bP)(w:af):(ReflectliteValue.parts (.agg #[.pointer (some ⟨7,142,none⟩),.pointer (some a),.int .u64 406])).run prog w= .ok (some (142,a,406)) w:=by kernel_rfl
theorem ael(a:bP)(w:af):(ReflectliteValue.parts (.agg #[.pointer (some ⟨7,142,none⟩),.pointer (some a),.int .u64 150])).run prog w= .ok (some (142,a,150)) w:=by kernel_rfl
theorem acj(w:af):(Rtype.elem? 145).run prog w= .ok (some 142) w:=by kernel_rfl
theorem mkM(p:bP)(w:af):(ReflectliteValue.mk 142 p ReflectliteValue.flagAddr).run prog w= .ok (.agg #[.pointer (some ⟨7,142,none⟩),.pointer (some p),.int .u64 406]) w:=by kernel_rfl
theorem ack(w:af):(Rtype.directlyAssignable 142 142).run prog w= .ok true w:=by kernel_rfl
theorem Zj:ext f112=ReflectliteValue.method (ReflectliteValue.valueError "reflectlite.Value.IsNil" 0) ReflectliteValue.isNil:=by kernel_rfl
theorem acm:ext f139=ReflectliteValue.method (ReflectliteValue.valueError "reflectlite.Value.Elem" 0) ReflectliteValue.elem:=by kernel_rfl
theorem aem:ext f140=ReflectliteValue.set:=by kernel_rfl
theorem JZ(z:Sem ay)(f:aY->bP->Nat->Nat->Sem ay)(v:ay)(t:aY)(a:bP)(fl:Nat)(W:af)(h:(ReflectliteValue.parts v).run prog W= .ok (some (t,a,fl)) W):
 (ReflectliteValue.method z f #[v]).run prog W=(f t a fl (fl%32)).run prog W:=by
 obtain⟨g,b,c⟩:∃g:Option (aY×bP×Nat)->Sem ay,ReflectliteValue.method z f #[v]=ReflectliteValue.parts v>>=g/\g (some (t,a,fl))=f t a fl (fl%32):=⟨_,rfl,rfl⟩;rw[b,Sem.run_bind,h];simp only[Result.andThen,c]
theorem Zk(a p:bP)(W:af)(b:W.cell? a=some (.pointer (some p))):
 (ext f112 #[.agg #[.pointer (some ⟨7,145,none⟩),.pointer (some a),.int .u64 150]]).run prog W= .ok (.bool false) W:=by
 rw[Zj,JZ _ _ _ _ _ _ _ (Zi a W)];simp[ReflectliteValue.isNil,loadVar,isAgg,underlying,underlying145,b,Result.andThen]
theorem elemV(a p:bP)(W:af)(b:W.cell? a=some (.pointer (some p))):
 (ext f139 #[.agg #[.pointer (some ⟨7,145,none⟩),.pointer (some a),.int .u64 150]]).run prog W= .ok (.agg #[.pointer (some ⟨7,142,none⟩),.pointer (some p),.int .u64 406]) W:=by
 rw[acm,JZ _ _ _ _ _ _ _ (Zi a W)];simp[ReflectliteValue.elem,loadVar,isAgg,underlying,underlying145,b,Result.andThen,acj,mkM]
theorem aen:∃(g:Option (aY×bP×Nat)->Option (aY×bP×Nat)->Sem ay) (k:bP->ay->Bool->Sem ay),(∀v x,ReflectliteValue.set #[v,x]=ReflectliteValue.parts v>>=fun o=>ReflectliteValue.parts x>>=g o)/\
 (∀a b,g (some (142,a,406)) (some (142,b,150))=loadVar 142 b>>=fun val=>Rtype.directlyAssignable 142 142>>=k a val)/\∀a val,k a val true=storeVar 142 a val>>=fun _=>pure (.tuple #[]):=⟨_,_,fun _ _=>rfl,fun _ _=>rfl,fun _ _=>rfl⟩
theorem afD(a b e:bP)(c:ay)(W:af)(hb:W.cell? b=some (.pointer (some e)))(d:W.cell? a=some c)(f:W.frozen? a=false):
 (ext f140 #[.agg #[.pointer (some ⟨7,142,none⟩),.pointer (some a),.int .u64 406],.agg #[.pointer (some ⟨7,142,none⟩),.pointer (some b),.int .u64 150]]).run prog W= .ok (.tuple #[]) (W.setCell a (.pointer (some e))):=by
 obtain⟨g,k,h,i,h3⟩:=aen;rw[aem,h];simp only[Sem.run_bind,aek,ael,Result.andThen,i];simp[loadVar,isAgg,underlying,underlying142,hb,Result.andThen,ack,h3,storeVar,Value.cells,storeCells,Addr.add];rw[run_store prog W a _ _ (by rfl)];simp[d,f]
end Er
namespace Er
open Go.RowKit
theorem zB{w:af}{a:bP}{v:ay}(h:w.cell? a=some v):a.block<w.heap.size:=by
 rcases bU a.block w.heap.size with b|b
 ·exact b
 ·simp[World.cell?,Array.getElem?_eq_none b]at h
theorem dm{w:af}{a:bP}{v:ay}(h:w.cell? a=some v)(o:Obj):(w.alloc o).cell? a=some v:=by rw[World.cell?_alloc_lt _ _ a (zB h)];exact h
theorem f_{w:af}{a:bP}{v:ay}(h:w.cell? a=some v)(o:Obj)(b:w.frozen? a=false):(w.alloc o).frozen? a=false:=by rw[World.frozen?_alloc_old _ _ a (Nat.ne_of_lt (zB h))];exact b
end Er
namespace Pr
open Go.RowKit
theorem cell_of{w:af}{b:Nat}{cur:Array ay}{T:aY}(h:w.heap[b]?=some (.cells cur T (0,0)))(o:Nat):w.cell? ⟨b,o,none⟩=cur[o]?/\w.frozen? ⟨b,o,none⟩=false:=by
 constructor
 ·simp[World.cell?,h]
 ·simp[World.frozen?,h]
theorem bG{w:af}{b:Nat}{cur:Array ay}{T:aY}(h:w.heap[b]?=some (.cells cur T (0,0)))(o:Nat)(x:ay):(w.setCell ⟨b,o,none⟩ x).heap[b]?=some (.cells (cur.setIfInBounds o x) T (0,0)):=by simp[World.setCell,Array.getElem?_modify,h]
theorem aB{w:af}{b k:Nat}(o:Nat)(x:ay)(a:k≠b):(w.setCell ⟨b,o,none⟩ x).heap[k]?=w.heap[k]?:=iy w ⟨b,o,none⟩ x k a
theorem ai{w:af}{b:Nat}{o:Obj}(h:w.heap[b]?=some o):b<w.heap.size:=(Array.getElem?_eq_some_iff.1 h).1
structure Fr(S:Nat->Prop)(w w':af):Prop where
 os:w'.os=w.os
 tape:w'.tape=w.tape
 output:w'.output=w.output
 size:w.heap.size<=w'.heap.size
 block:∀k,k<w.heap.size->¬S k->w'.heap[k]?=w.heap[k]?
theorem Fr.refl(S:Nat->Prop)(w:af):Fr S w w:=⟨rfl,rfl,rfl,ag _,fun _ _ _=>rfl⟩
theorem Fr.trans{S:Nat->Prop}{u v w:af}(h:Fr S u v)(k:Fr S v w):Fr S u w:=
 ⟨k.os.trans h.os,k.tape.trans h.tape,k.output.trans h.output,aK h.size k.size,fun i hi a=>(k.block i (bu hi h.size) a).trans (h.block i hi a)⟩
theorem Fr.drewN{S:Nat->Prop}{u v:af}(h:Fr S u v)(n:Nat):Fr S u (v.drewN n):=⟨h.os,h.tape,h.output,h.size,h.block⟩
theorem Fr.drew{S:Nat->Prop}{u v:af}(h:Fr S u v):Fr S u v.drew:=⟨h.os,h.tape,h.output,h.size,h.block⟩
theorem Fr.set{S:Nat->Prop}{u v:af}(h:Fr S u v)(b o:Nat)(hb:S b)(x:ay):Fr S u (v.setCell ⟨b,o,none⟩ x):=
 ⟨h.os,h.tape,h.output,by simpa using h.size,fun k c a=>(iy v ⟨b,o,none⟩ x k (fun e=>a (e▸hb))).trans (h.block k c a)⟩
theorem Fr.eF{S:Nat->Prop}{u v:af}(h:Fr S u v)(b o:Nat)(hb:u.heap.size<=b)(x:ay):Fr S u (v.setCell ⟨b,o,none⟩ x):=
 ⟨h.os,h.tape,h.output,by simpa using h.size,fun k c a=>(iy v ⟨b,o,none⟩ x k (show k≠b by omega)).trans (h.block k c a)⟩
theorem Fr.alloc{S:Nat->Prop}{u v:af}(h:Fr S u v)(o:Obj):Fr S u (v.alloc o):=
 ⟨h.os,h.tape,h.output,by have:=h.size;simp;omega,fun k b a=>(aj v o k (bu b h.size)).trans (h.block k b a)⟩
theorem Fr.mono{S R:Nat->Prop}{u v:af}(h:Fr S u v)(hs:∀k,S k->R k):Fr R u v:=⟨h.os,h.tape,h.output,h.size,fun k b a=>h.block k b (fun e=>a (hs k e))⟩
theorem Fr.kJ{S:Nat->Prop}{u v:af}(h:aJ u.heap.size u v):Fr S u v:=⟨h.os,h.tape,h.output,h.size,fun k a _=>h.block k a⟩
def qF(Q:aY->bP->Prop)(w:af):Nat->aY->bP->Prop
 |0,T,a=>Q T a
 |n+1,T,a=>T=214/\∃b u m c d,a=⟨b,0,none⟩/\w.heap[b]?=some (.cells #[u,m,.iface c (.pointer (some d))] 216 (0,0))/\qF Q w n c d
theorem qF.over{Q:aY->bP->Prop}{w w':af}(hb:∀(k:Nat) (cur:Array ay) (f:Nat×Nat),w.heap[k]?=some (Obj.cells cur 216 f)->w'.heap[k]?=w.heap[k]?):∀{n:Nat} {T:aY} {a:bP},qF Q w n T a->qF Q w' n T a
 |0,_,_,h=>h
 |n+1,_,_,⟨c,b,u,m,d,e,g,h3,i⟩=>⟨c,b,u,m,d,e,g,(hb b _ _ h3).trans h3,qF.over hb i⟩
theorem qF.grow{Q:aY->bP->Prop}{w w':af}(hb:∀k,k<w.heap.size->w'.heap[k]?=w.heap[k]?){n:Nat}{T:aY}{a:bP}(h:qF Q w n T a):qF Q w' n T a:=h.over (fun k _ _ e=>hb k (ai e))
def jC(w:af)(T:aY)(a:bP):Prop:=∃n,qF (fun T _=>T=142) w n T a
def uI(fb:bP)(w:af)(T:aY)(a:bP):Prop:=∃n,qF (fun T a=>(T=362/\a=fb)\/T=376) w n T a
theorem jC.mk(w:af)(a:bP):jC w 142 a:=⟨0,rfl⟩
theorem jC.over{w w':af}{T:aY}{a:bP}(h:jC w T a)(hb:∀(k:Nat) (cur:Array ay) (f:Nat×Nat),w.heap[k]?=some (Obj.cells cur 216 f)->w'.heap[k]?=w.heap[k]?):jC w' T a:=by obtain⟨n,h⟩:=h;exact⟨n,h.over hb⟩
theorem uI.over{fb:bP}{w w':af}{T:aY}{a:bP}(h:uI fb w T a)(hb:∀(k:Nat) (cur:Array ay) (f:Nat×Nat),w.heap[k]?=some (Obj.cells cur 216 f)->w'.heap[k]?=w.heap[k]?):uI fb w' T a:=by obtain⟨n,h⟩:=h;exact⟨n,h.over hb⟩
theorem jC.grow{w w':af}{T:aY}{a:bP}(h:jC w T a)(hb:∀k,k<w.heap.size->w'.heap[k]?=w.heap[k]?):jC w' T a:=h.over (fun k _ _ e=>hb k (ai e))
theorem uI.grow{fb:bP}{w w':af}{T:aY}{a:bP}(h:uI fb w T a)(hb:∀k,k<w.heap.size->w'.heap[k]?=w.heap[k]?):uI fb w' T a:=h.over (fun k _ _ e=>hb k (ai e))
theorem fU{w:af}{a b:Nat}{x y:Array ay}{S T:aY}{f g:Nat×Nat}(d:w.heap[a]?=some (.cells x S f))(c:w.heap[b]?=some (.cells y T g))(h:S≠T):a≠b:=by rintro rfl;rw[d]at c;simp at c;exact h c.2.1
end Pr
end Go.Proofs.YtephkcdbnogdhaaGreatDoor
