import Derived.BigRegion
import Derived.Test.YtephkcdbnogdhaaGreatDoorM1
set_option linter.unusedVariables false
set_option maxHeartbeats 40000000
set_option maxRecDepth 10000
namespace Go.Proofs.YtephkcdbnogdhaaGreatDoor
open Go.Proofs.Tryz
open Go renaming World->af,Value->ay,Calls->aF,TypeId->aY,Addr->bP
open Go.RowKit renaming Hid->ah
namespace Pr
open Go.RowKit Rf
structure Src where
 T:aY
 a:bP
 base:Nat
 F:Nat->Prop
 z:Nat
 K:af->ByteArray->Nat->Prop
 KE:af->Prop
 t_:Prop
 fb:bP
def dO(S:Src)(w:af)(T:aY)(a:bP)(P:Prop):Prop:=(jC w T a/\P)\/(uI S.fb w T a/\S.t_)
theorem dO.imp{S:Src}{w:af}{T:aY}{a:bP}{P Q:Prop}(h:dO S w T a P)(f:P->Q):dO S w T a Q:=Or.imp (fun h=>⟨h.1,f h.2⟩) id h
theorem dO.over{S:Src}{w w':af}{T:aY}{a:bP}{P:Prop}(h:dO S w T a P)(hb:∀(k:Nat) (cur:Array ay) (f:Nat×Nat),w.heap[k]?=some (Obj.cells cur 216 f)->w'.heap[k]?=w.heap[k]?):dO S w' T a P:=Or.imp (fun h=>⟨h.1.over hb,h.2⟩) (fun h=>⟨h.1.over hb,h.2⟩) h
theorem dO.set{S:Src}{w:af}{T:aY}{a:bP}{P:Prop}(h:dO S w T a P){b:Nat}{cur:Array ay}{d:aY}{f:Nat×Nat}(e:w.heap[b]?=some (.cells cur d f))(i:d≠216)(o:Nat)(x:ay):dO S (w.setCell ⟨b,o,none⟩ x) T a P:=h.over (fun k g j c=>aB o x (fun he=>by rw[he,e]at c;simp at c;exact i c.2.1))
theorem dO.grow{S:Src}{w w':af}{T:aY}{a:bP}{P:Prop}(h:dO S w T a P)(hb:∀k,k<w.heap.size->w'.heap[k]?=w.heap[k]?):dO S w' T a P:=h.over (fun k _ _ e=>hb k (ai e))
theorem dO.alloc{S:Src}{w:af}{T:aY}{a:bP}{P:Prop}(h:dO S w T a P)(o:Obj):dO S (w.alloc o) T a P:=h.grow (fun k b=>aj w o k b)
theorem dO.ve{S:Src}{w:af}{a:bP}{P:Prop}(h:P):dO S w 142 a P:= .inl ⟨jC.mk w a,h⟩
theorem qF.place{Q:aY->bP->Prop}{w:af}{n:Nat}{T:aY}{a:bP}(h:qF Q w n T a)(u:ay)(m:ay):qF Q (w.alloc (.cells #[u,m,.iface T (.pointer (some a))] 216)) (n+1) 214 ⟨w.heap.size,0,none⟩:=
 ⟨rfl,_,u,m,T,a,rfl,(dR w _).1,h.grow (fun k b=>aj w _ k b)⟩
theorem dO.place{S:Src}{w:af}{T:aY}{a:bP}{P:Prop}(h:dO S w T a P)(u:ay)(m:ay):dO S (w.alloc (.cells #[u,m,.iface T (.pointer (some a))] 216)) 214 ⟨w.heap.size,0,none⟩ P:=
 Or.imp (fun⟨⟨n,h⟩,p⟩=>⟨⟨n+1,h.place u m⟩,p⟩) (fun⟨⟨n,h⟩,p⟩=>⟨⟨n+1,h.place u m⟩,p⟩) h
def Ph(T:aY):Bool:=T==141||T==218||T==307||T==156||T==158
structure Src.Ok(S:Src):Prop where
 ng:7<=S.base
 Di:S.z<=16
 low:∀k,S.F k->S.base<=k
 ke:∀{w s t},S.K w s t->S.KE w
 Vy:∀{w k},S.KE w->S.F k->∃cur T f,w.heap[k]?=some (.cells cur T f)/\Ph T=true
 iJ:∀{w w' s t},S.K w s t->(∀k,S.F k\/k<S.base->w'.heap[k]?=w.heap[k]?)->S.K w' s t
 qH:∀{w w'},S.KE w->(∀k,S.F k\/k<S.base->w'.heap[k]?=w.heap[k]?)->S.KE w'
 hb:∀{w},S.KE w->S.base<=w.heap.size
 Tm:∀(w:af) (s:ByteArray) (t:Nat),S.K w s t->t<s.size->
  aF prog 193 #[.iface S.T (.pointer (some S.a))] w fun e w'=>
   (e= .returned (.tuple #[.int .u8 ((aA s t:Nat):Int),.nilIface])/\S.K w' s (t+1)/\Fr S.F w w')\/
   (∃x T a,e= .returned (.tuple #[.int .u8 x,.iface T (.pointer (some a))])/\uI S.fb w' T a/\S.t_/\S.KE w'/\Fr S.F w w')
 xx:∀(w:af) (s:ByteArray),S.K w s s.size->
  aF prog 193 #[.iface S.T (.pointer (some S.a))] w fun e w'=>∃x T a,e= .returned (.tuple #[.int .u8 x,.iface T (.pointer (some a))])/\dO S w' T a True/\S.KE w'/\Fr S.F w w'
theorem Src.Ok.lt{S:Src}(hS:S.Ok){w:af}(h:S.KE w){k:Nat}(a:S.F k):k<w.heap.size:=by obtain⟨cur,T,f,h,_⟩:=hS.Vy h a;exact ai h
theorem Src.Ok.ne{S:Src}(hS:S.Ok){w:af}(h:S.KE w){k:Nat}{cur:Array ay}{T:aY}{f:Nat×Nat}(d:w.heap[k]?=some (.cells cur T f))(e:Ph T=false):¬S.F k:=fun hF=>by obtain⟨a,g,i,b,c⟩:=hS.Vy h hF;rw[d]at b;cases b;rw[e]at c;cases c
structure RF(tb:Src)(rb:Nat)(w w':af):Prop where
 os:w'.os=w.os
 tape:w'.tape=w.tape
 output:w'.output=w.output
 size:w.heap.size<=w'.heap.size
 block:∀k,k<w.heap.size->¬tb.F k->k≠rb->w'.heap[k]?=w.heap[k]?
theorem RF.refl(tb:Src)(rb:Nat)(w:af):RF tb rb w w:=⟨rfl,rfl,rfl,ag _,fun _ _ _ _=>rfl⟩
theorem RF.trans{tb:Src}{rb:Nat}{u v w:af}(h:RF tb rb u v)(k:RF tb rb v w):RF tb rb u w:=
 ⟨k.os.trans h.os,k.tape.trans h.tape,k.output.trans h.output,aK h.size k.size,fun i hi a b=>(k.block i (bu hi h.size) a b).trans (h.block i hi a b)⟩
theorem RF.drew{tb:Src}{rb:Nat}{u v:af}(h:RF tb rb u v):RF tb rb u v.drew:=⟨h.os,h.tape,h.output,h.size,h.block⟩
theorem RF.set{tb:Src}{rb:Nat}{u v:af}(h:RF tb rb u v)(o:Nat)(x:ay):RF tb rb u (v.setCell ⟨rb,o,none⟩ x):=
 ⟨h.os,h.tape,h.output,by simpa using h.size,fun k b a e=>(iy v ⟨rb,o,none⟩ x k e).trans (h.block k b a e)⟩
theorem RF.alloc{tb:Src}{rb:Nat}{u v:af}(h:RF tb rb u v)(o:Obj):RF tb rb u (v.alloc o):=
 ⟨h.os,h.tape,h.output,by have:=h.size;simp;omega,fun k b a e=>(aj v o k (bu b h.size)).trans (h.block k b a e)⟩
theorem RF.of{tb:Src}{w w':af}(rb:Nat)(h:Fr tb.F w w'):RF tb rb w w':=⟨h.os,h.tape,h.output,h.size,fun k b a _=>h.block k b a⟩
def Dj(w:af)(tb:Src)(rb:Nat)(s:ByteArray)(pos c:Nat):Prop:=
 ∃t,pos+c=8*t/\t<=s.size/\tb.base<=rb/\tb.K w s t/\tb.Ok/\
  w.heap[rb]?=some (.cells #[.iface tb.T (.pointer (some tb.a)),.int .u32 ((bH s pos c:Nat):Int),.int .u64 (c:Int),.int .i64 ((t+tb.z:Nat):Int)] 180 (0,0))
def qc(w:af)(tb:Src)(rb:Nat)(s:ByteArray):Prop:=
 ∃c t:Nat,∃v:Int,c<=23/\t<=s.size+16/\tb.base<=rb/\tb.KE w/\tb.Ok/\
  w.heap[rb]?=some (.cells #[.iface tb.T (.pointer (some tb.a)),.int .u32 v,.int .u64 (c:Int),.int .i64 ((t:Nat):Int)] 180 (0,0))
theorem Dj.Ag{w:af}{tb:Src}{rb:Nat}{s:ByteArray}{pos c:Nat}(h:Dj w tb rb s pos c)(b:c<=23):qc w tb rb s:=by obtain⟨t,e,f,h3,d,a,h6⟩:=h;exact⟨c,_,_,b,by have:=a.Di;omega,h3,a.ke d,a,h6⟩
theorem Dj.no{w:af}{tb:Src}{rb:Nat}{s:ByteArray}{pos c:Nat}(h:Dj w tb rb s pos c):¬tb.F rb:=by obtain⟨t,d,e,h3,b,a,h6⟩:=h;exact a.ne (a.ke b) h6 (by decide)
theorem qc.no{w:af}{tb:Src}{rb:Nat}{s:ByteArray}(h:qc w tb rb s):¬tb.F rb:=by obtain⟨c,t,v,d,e,h3,a,b,h6⟩:=h;exact b.ne a h6 (by decide)
theorem Dj.over{w w':af}{tb:Src}{rb:Nat}{s:ByteArray}{pos c:Nat}(h:Dj w tb rb s pos c)(b:∀k,tb.F k\/k<tb.base->w'.heap[k]?=w.heap[k]?)(d:w'.heap[rb]?=w.heap[rb]?):Dj w' tb rb s pos c:=by obtain⟨t,e,f,h3,g,a,h6⟩:=h;exact⟨t,e,f,h3,a.iJ g b,a,d.trans h6⟩
theorem qc.over{w w':af}{tb:Src}{rb:Nat}{s:ByteArray}(h:qc w tb rb s)(b:∀k,tb.F k\/k<tb.base->w'.heap[k]?=w.heap[k]?)(d:w'.heap[rb]?=w.heap[rb]?):qc w' tb rb s:=by obtain⟨c,t,v,e,f,h3,g,a,h6⟩:=h;exact⟨c,t,v,e,f,h3,a.qH g b,a,d.trans h6⟩
theorem qc.Jf{w:af}{tb:Src}{rb:Nat}{s:ByteArray}(h:qc w tb rb s):(∀k,tb.F k\/k<tb.base->k<w.heap.size)/\rb<w.heap.size/\tb.base<=rb/\tb.base<=w.heap.size:=by obtain⟨c,t,v,e,f,h3,b,d,h6⟩:=h;have:=ai h6;exact⟨fun k a=>a.elim (fun a=>d.lt b a) (fun a=>by omega),this,h3,by omega⟩
theorem Dj.Jf{w:af}{tb:Src}{rb:Nat}{s:ByteArray}{pos c:Nat}(h:Dj w tb rb s pos c):(∀k,tb.F k\/k<tb.base->k<w.heap.size)/\rb<w.heap.size/\tb.base<=rb/\tb.base<=w.heap.size:=by obtain⟨t,e,f,h3,d,b,h6⟩:=h;have:=ai h6;exact⟨fun k a=>a.elim (fun a=>b.lt (b.ke d) a) (fun a=>by omega),this,h3,by omega⟩
theorem Dj.grow{w w':af}{tb:Src}{rb:Nat}{s:ByteArray}{pos c:Nat}(h:Dj w tb rb s pos c)(e:∀k,k<w.heap.size->w'.heap[k]?=w.heap[k]?):Dj w' tb rb s pos c:=
 h.over (fun k a=>e k (h.Jf.1 k a)) (e rb h.Jf.2.1)
theorem qc.grow{w w':af}{tb:Src}{rb:Nat}{s:ByteArray}(h:qc w tb rb s)(e:∀k,k<w.heap.size->w'.heap[k]?=w.heap[k]?):qc w' tb rb s:=
 h.over (fun k a=>e k (h.Jf.1 k a)) (e rb h.Jf.2.1)
theorem Dj.alloc{w:af}{tb:Src}{rb:Nat}{s:ByteArray}{pos c:Nat}(h:Dj w tb rb s pos c)(o:Obj):Dj (w.alloc o) tb rb s pos c:=h.grow (fun k a=>aj w o k a)
theorem qc.alloc{w:af}{tb:Src}{rb:Nat}{s:ByteArray}(h:qc w tb rb s)(o:Obj):qc (w.alloc o) tb rb s:=h.grow (fun k a=>aj w o k a)
theorem qc.drew{w:af}{tb:Src}{rb:Nat}{s:ByteArray}(h:qc w tb rb s):qc w.drew tb rb s:=h.grow (fun _ _=>rfl)
theorem qc.drewN{w:af}{tb:Src}{rb:Nat}{s:ByteArray}(h:qc w tb rb s)(n:Nat):qc (w.drewN n) tb rb s:=h.grow (fun _ _=>rfl)
theorem Dj.eF{w:af}{tb:Src}{rb:Nat}{s:ByteArray}{pos c:Nat}(h:Dj w tb rb s pos c)(b o:Nat)(x:ay)(g:tb.base<=b)(d:¬tb.F b)(f:b≠rb):Dj (w.setCell ⟨b,o,none⟩ x) tb rb s pos c:=
 h.over (fun k a=>aB o x (fun e=>a.elim (fun a=>d (e▸a)) (fun a=>by omega))) (aB o x (r_ f))
theorem qc.eF{w:af}{tb:Src}{rb:Nat}{s:ByteArray}(h:qc w tb rb s)(b o:Nat)(x:ay)(f:tb.base<=b)(c:¬tb.F b)(d:b≠rb):qc (w.setCell ⟨b,o,none⟩ x) tb rb s:=
 h.over (fun k a=>aB o x (fun e=>a.elim (fun a=>c (e▸a)) (fun a=>by omega))) (aB o x (r_ d))
theorem qI {f:FuncId} {fn:Func} (b:prog.funcs[f]?=some fn) (a:(fn.name== "runtime.NumGoroutine")=false) (hb:fn.body.isSome=true) (args:Array ay) (w:af):(callFunc f args).run prog w= .ok (.enter f args) w:=by
 obtain⟨c,d⟩:=Option.isSome_iff_exists.1 hb;have e:fn.name≠ "runtime.NumGoroutine" :=by simpa using a
 simp[callFunc,b,e,d]
theorem dJ(a:ByteArray)(w:af):
 aF prog 137 #[.string a] w fun e w'=>e= .returned (.iface 142 (.pointer (some ⟨w.heap.size,0,none⟩)))/\w'=w.alloc (.cells #[.string a] 275):=by
 go_enter func137,ntmps137
 go_wp2
 go_ret;exact⟨rfl,rfl⟩
theorem ae8(v z c:Nat)(b:v<2^c)(d:c<=15)(f:z*2^c<=255*2^15):bits BinOp.or IntKind.u32 (v:Int) ((z:Int)*2^c%4294967296)=((v+z*2^c:Nat):Int):=by
 have e:(z:Int)*2^c%4294967296=((z*2^c:Nat):Int):=by
  have:(z:Int)*2^c=((z*2^c:Nat):Int):=by simp
  rw[this];omega
 have a:v<4294967296:=by have:2^c<=2^15:=b_ (by omega) d;omega
 rw[e,u32_or_nat v (z*2^c) a (by omega)];congr 1
 rw[Nat.or_comm,eu,<-lq b z,Nat.add_comm]
theorem Pj(tb:Src)(rb:Nat)(s:ByteArray)(pos c:Nat)(w:af)(h:Dj w tb rb s pos c)(G:c<=15)(hs:s.size<=140737488354000):
 aF prog 168 #[.pointer (some ⟨rb,0,none⟩)] w fun e w'=>
  (pos+c<8*s.size/\e= .returned .nilIface/\Dj w' tb rb s pos (c+8)/\RF tb rb w w')\/
  ((∃T a,e= .returned (.iface T (.pointer (some a)))/\dO tb w' T a (¬pos+c<8*s.size))/\qc w' tb rb s/\RF tb rb w w'):=by
 have f:=h.no;obtain⟨t,y,R,h3,n,hS,d⟩:=h;have c0:w.cell? ⟨rb,0,none⟩=some (.iface tb.T (.pointer (some tb.a))):=by simpa using(cell_of d 0).1
 have H:=hS.Di;by_cases g:pos+c<8*s.size
 ·have i:t<s.size:=by omega
  have hb:aA s t<=255:=dH s t;have N:=hS.Tm w s t n i;obtain⟨z,A⟩:∃z,z=aA s t:=⟨_,rfl⟩;rw[<-A]at N hb;have B:bH s pos c<2^c:=fQ s pos c;have hp:2^c<=2^15:=b_ (by omega) G;obtain⟨v,j⟩:∃v,v=bH s pos c:=⟨_,rfl⟩;rw[<-j]at d B;have I:ah (bH s pos (c+8)=v+z*2^c):=(by rw[Ti s pos c t y,A,j]:_=_);have J:z*2^c<=255*2^15:=bT hb hp;obtain⟨r,l⟩:∃r,r=v+z*2^c:=⟨_,rfl⟩;have C:bits BinOp.or IntKind.u32 (v:Int) ((z:Int)*2^c%4294967296)=(r:Int):=by rw[l];exact ae8 v z c B G J
  have M:ah (r=bH s pos (c+8)):=(l.trans I.out.symm:_=_);have p:ah (pos+c=8*t/\pos+c<8*s.size):=(⟨y,g⟩:_/\_);obtain⟨q,D⟩:∃q,q=t+tb.z:=⟨_,rfl⟩;have O:q<=140737488354100:=by omega
  rw[<-D]at d;have K:ah (q=t+tb.z):=D;clear A j B hp y J l I D g;go_enter func168,ntmps168
  go_wp2_with fail
  refine N.mono ?_;rintro e w1 (⟨rfl,P,L⟩|⟨x,T,a,rfl,E,Q,F,o⟩)
  ·have b:w1.heap[rb]?=_:=(L.block rb (ai d) f).trans d;clear n d c0 N;have S:w1.cell? ⟨rb,1,none⟩=some (.int .u32 (v:Int)):=by simpa using(cell_of b 1).1
   have U:w1.cell? ⟨rb,2,none⟩=some (.int .u64 (c:Int)):=by simpa using(cell_of b 2).1
   have d3:w1.cell? ⟨rb,3,none⟩=some (.int .i64 (q:Int)):=by simpa using(cell_of b 3).1
   have V:=(cell_of b 1).2;have W:=(cell_of b 2).2;have X:=(cell_of b 3).2;go_wp2_with fail
   go_region
   go_wp2
   go_ret;refine .inl ⟨p.out.2,rfl,⟨t+1,by have:=p.out.1;omega,by omega,h3,?_,hS,?_⟩,?_⟩
   ·refine hS.iJ P (fun k u=> ?_);have m:k≠rb:=fun e=>u.elim (fun u=>f (e▸u)) (fun u=>by omega);exact(aB 3 _ m).trans ((aB 2 _ m).trans (aB 1 _ m))
   ·refine(bG (bG (bG b 1 _) 2 _) 3 _).trans ?_;rw[<-M.out];have:(t+1+tb.z:Nat)=q+1:=by have:=K.out;omega
    rw[this];simp
   ·exact((((RF.of rb L).set 1 _).set 2 _).set 3 _).drew
  ·have b:w1.heap[rb]?=_:=(o.block rb (ai d) f).trans d;clear n c0 N C;go_wp2_with fail
   go_ret;refine .inr ⟨⟨T,a,rfl,.inr ⟨E,Q⟩⟩,⟨c,q,_,by omega,by have:=K.out;omega,h3,F,hS,b⟩,RF.of rb o⟩
 ·have i:t=s.size:=by omega
  subst i;have N:=hS.xx w s n;have p:ah (¬pos+c<8*s.size):=g;clear g;go_enter func168,ntmps168
  go_wp2_with fail
  refine N.mono ?_;rintro e w1 ⟨x,T,a,rfl,E,F,o⟩;have b:w1.heap[rb]?=_:=(o.block rb (ai d) f).trans d;clear n c0 N;go_wp2_with fail
  go_ret;exact .inr ⟨⟨T,a,rfl,E.imp (fun _=>p.out)⟩,⟨c,_,_,by omega,by omega,h3,F,hS,b⟩,RF.of rb o⟩
def Rd(w:af)(tb:Src)(rb:Nat)(s:ByteArray)(pos:Nat):Prop:=∃c,c<8/\Dj w tb rb s pos c
theorem Rd.Ag{w:af}{tb:Src}{rb:Nat}{s:ByteArray}{pos:Nat}(h:Rd w tb rb s pos):qc w tb rb s:=by obtain⟨c,a,h⟩:=h;exact h.Ag (by omega)
theorem Rd.over{w w':af}{tb:Src}{rb:Nat}{s:ByteArray}{pos:Nat}(h:Rd w tb rb s pos)(a:∀k,tb.F k\/k<tb.base->w'.heap[k]?=w.heap[k]?)(b:w'.heap[rb]?=w.heap[rb]?):Rd w' tb rb s pos:=by obtain⟨c,d,h⟩:=h;exact⟨c,d,h.over a b⟩
theorem Rd.grow{w w':af}{tb:Src}{rb:Nat}{s:ByteArray}{pos:Nat}(h:Rd w tb rb s pos)(e:∀k,k<w.heap.size->w'.heap[k]?=w.heap[k]?):Rd w' tb rb s pos:=by obtain⟨c,a,h⟩:=h;exact⟨c,a,h.grow e⟩
theorem Rd.alloc{w:af}{tb:Src}{rb:Nat}{s:ByteArray}{pos:Nat}(h:Rd w tb rb s pos)(o:Obj):Rd (w.alloc o) tb rb s pos:=by obtain⟨c,a,h⟩:=h;exact⟨c,a,h.alloc o⟩
theorem Rd.Jf{w:af}{tb:Src}{rb:Nat}{s:ByteArray}{pos:Nat}(h:Rd w tb rb s pos):(∀k,tb.F k\/k<tb.base->k<w.heap.size)/\rb<w.heap.size/\tb.base<=rb/\tb.base<=w.heap.size:=h.Ag.Jf
theorem Rd.no{w:af}{tb:Src}{rb:Nat}{s:ByteArray}{pos:Nat}(h:Rd w tb rb s pos):¬tb.F rb:=h.Ag.no
theorem Rd.types{w:af}{tb:Src}{rb:Nat}{s:ByteArray}{pos:Nat}(h:Rd w tb rb s pos){k:Nat}{cur:Array ay}{T:aY}{f:Nat×Nat}(a:w.heap[k]?=some (.cells cur T f))(d:Ph T=false)(g:T≠180):¬tb.F k/\k≠rb:=by obtain⟨c,j,t,_,_,_,i,b,h6⟩:=h;exact⟨b.ne (b.ke i) a d,fun e=>by rw[e,h6]at a;cases a;exact g rfl⟩
theorem Rd.new{w:af}{tb:Src}{rb:Nat}{s:ByteArray}{pos:Nat}(h:Rd w tb rb s pos){k:Nat}(a:w.heap.size<=k):tb.base<=k/\¬tb.F k/\k≠rb:=
 ⟨by have:=h.Jf;omega,fun e=>by have:=h.Jf.1 k (.inl e);omega,by have:=h.Jf;omega⟩
theorem Rd.eF{w:af}{tb:Src}{rb:Nat}{s:ByteArray}{pos:Nat}(h:Rd w tb rb s pos)(b o:Nat)(x:ay)(a:tb.base<=b)(d:¬tb.F b)(e:b≠rb):Rd (w.setCell ⟨b,o,none⟩ x) tb rb s pos:=by obtain⟨c,f,h⟩:=h;exact⟨c,f,h.eF b o x a d e⟩
theorem Rd.AU{w:af}{tb:Src}{rb:Nat}{s:ByteArray}{pos:Nat}(h:Rd w tb rb s pos):pos<=8*s.size:=by obtain⟨c,a,t,b,d,_⟩:=h;omega
theorem dP{k:IntKind}{a b:Int}(h:a=b):Ending.returned (.int k a)= .returned (.int k b):=by rw[h]
theorem vW{k:IntKind}{a b:Int}{y:ay}(h:a=b):Ending.returned (.tuple #[.int k a,y])= .returned (.tuple #[.int k b,y]):=by rw[h]
theorem Vz(v:Nat)(h:v<4294967296):bits BinOp.and IntKind.u32 (v:Int) 1=((v%2:Nat):Int):=by have e:=u32_and_nat v 1 h (by omega);have a:v&&&1=v%2:=Nat.and_one_is_mod v;rw[a]at e;exact e
theorem Dj.cells{w:af}{tb:Src}{rb:Nat}{s:ByteArray}{pos c:Nat}(h:Dj w tb rb s pos c)(a:c<=23):∃v t q:Nat,v=bH s pos c/\v<8388608/\pos+c=8*t/\t<=s.size/\q=t+tb.z/\tb.z<=16/\
 w.cell? ⟨rb,1,none⟩=some (.int .u32 (v:Int))/\w.cell? ⟨rb,2,none⟩=some (.int .u64 (c:Int))/\w.cell? ⟨rb,3,none⟩=some (.int .i64 (q:Int))/\(∀o,w.frozen? ⟨rb,o,none⟩=false):=by
 obtain⟨t,b,d,h3,f,e,h6⟩:=h;refine⟨_,t,_,rfl,bu (fQ s pos c) (show 2^c<=2^23 from b_ (by omega) a),b,d,rfl,e.Di,?_,?_,?_,fun o=>(cell_of h6 o).2⟩
 ·simpa using(cell_of h6 1).1
 ·simpa using(cell_of h6 2).1
 ·simpa using(cell_of h6 3).1
theorem Dj.read{w:af}{tb:Src}{rb:Nat}{s:ByteArray}{pos c:Nat}(h:Dj w tb rb s pos c)(n:Nat)(m:n<=c)(x k:Int)(hx:x=((bH s (pos+n) (c-n):Nat):Int))(g:k=((c-n:Nat):Int)):
 Dj ((w.setCell ⟨rb,1,none⟩ (.int .u32 x)).setCell ⟨rb,2,none⟩ (.int .u64 k)) tb rb s (pos+n) (c-n)/\RF tb rb w ((w.setCell ⟨rb,1,none⟩ (.int .u32 x)).setCell ⟨rb,2,none⟩ (.int .u64 k)):=by
 have d:=h.no;obtain⟨t,o,i,h3,l,f,h6⟩:=h;refine⟨⟨t,by omega,i,h3,f.iJ l (fun j b=> ?_),f,?_⟩,?_⟩
 ·have a:j≠rb:=fun e=>b.elim (fun b=>d (e▸b)) (fun b=>by omega);exact(aB 2 _ a).trans (aB 1 _ a)
 ·refine(bG (bG h6 1 _) 2 _).trans ?_;rw[hx,g];simp
 ·exact((RF.refl tb rb w).set 1 _).set 2 _
theorem xy(tb:Src)(rb:Nat)(s:ByteArray)(pos:Nat)(w:af)(h:Rd w tb rb s pos)(hs:s.size<=140737488354000):
 aF prog 132 #[.pointer (some ⟨rb,0,none⟩)] w fun e w'=>
  ((gy s ⟨pos,false⟩).2.dA=false/\pos<8*s.size/\e= .returned (.tuple #[.int .i64 ((bH s pos 1:Nat):Int),.nilIface])/\Rd w' tb rb s (pos+1)/\RF tb rb w w')\/
  ((∃T a,e= .returned (.tuple #[.int .i64 0,.iface T (.pointer (some a))])/\dO tb w' T a ((gy s ⟨pos,false⟩).2.dA=true))/\qc w' tb rb s/\RF tb rb w w'):=by
 obtain⟨c,L,h⟩:=h;obtain⟨v,t,q,z,g,A,M,C,D,k,l,d3,d⟩:=h.cells (by omega);have f:ah (v=bH s pos c):=z;have H1:ah (pos+c=8*t):=A;clear z A C D;by_cases E:c=0
 ·subst E;go_enter func132,ntmps132
  go_wp2_with fail
  refine(Pj tb rb s pos 0 _ h (by omega) hs).mono ?_;rintro e w1 (⟨m,rfl,j,n⟩|⟨⟨T,a,rfl,F⟩,j,n⟩)
  ·clear f H1 g k l d3 d;obtain⟨v1,N,O,i,B,o,G,p,r,k,l,d3,d⟩:=j.cells (by omega);have f:ah (v1=bH s pos (0+8)):=i;have H:=d 1;have I:=d 2;clear i o d p r;obtain⟨b,hb⟩:∃b,b=v1%2:=⟨_,rfl⟩;have hand:bits BinOp.and IntKind.u32 (v1:Int) 1=(b:Int):=by rw[hb];exact Vz v1 (by omega)
   have u:b<=1:=by omega
   have x:ah (b=bH s pos 1):=(by rw[hb,f.out];exact Dq s pos 1 8 (by omega):_=_);have y:ah (v1/2=bH s (pos+1) 7):=(by rw[f.out];exact Dt s pos 1 8 (by omega):_=_);clear hb;go_wp2_with fail
   go_ret2;have R:=j.read 1 (by omega) ((v1:Int)/2) 7 (by rw[show(0+8-1:Nat)=7 from rfl,<-y.out];omega) rfl;exact .inl ⟨by rw[zD s pos (by omega)],by omega,vW (gY Nat.cast x.out),⟨_,by omega,R.1⟩,n.trans R.2⟩
  ·clear f H1 g k l d3 d;go_wp2_with fail
   go_ret2;exact .inr ⟨⟨T,a,rfl,F.imp (fun P=>Gl s pos (by omega))⟩,j,n⟩
 ·have J:decide ((c:Int)=0)=false:=by simp;omega
  have m:pos<8*s.size:=by have:=H1.out;omega
  have H:=d 1;have I:=d 2;clear d;obtain⟨b,hb⟩:∃b,b=v%2:=⟨_,rfl⟩;have hand:bits BinOp.and IntKind.u32 (v:Int) 1=(b:Int):=by rw[hb];exact Vz v (by omega)
  have u:b<=1:=by omega
  have K:1<=c:=by omega
  have x:ah (b=bH s pos 1):=(by rw[hb,f.out];exact Dq s pos 1 c (by omega):_=_);have y:ah (v/2=bH s (pos+1) (c-1)):=(by rw[f.out];exact Dt s pos 1 c (by omega):_=_);clear hb;go_enter func132,ntmps132
  go_wp2_with fail
  go_ret2;have R:=h.read 1 (by omega) ((v:Int)/2) ((c:Int)-1) (by rw[<-y.out];omega) (by omega);exact .inl ⟨by rw[zD s pos (by omega)],by omega,vW (gY Nat.cast x.out),⟨_,by omega,R.1⟩,R.2⟩
def Du(w:af)(rb:Nat):Nat:=match w.cell? ⟨rb,2,none⟩with
 |some (.int _ n)=>n.toNat
 |_=>0
theorem Dv{w:af}{tb:Src}{rb:Nat}{s:ByteArray}{pos c:Nat}(h:Dj w tb rb s pos c):Du w rb=c:=by
 obtain⟨t,b,d,h3,e,f,h6⟩:=h;have a:w.cell? ⟨rb,2,none⟩=some (.int .u64 (c:Int)):=by simpa using(cell_of h6 2).1
 unfold Du;rw[a];simp
theorem Zw(s:ByteArray)(pos n k v:Nat)(c:n<=k)(f:n<=16)(g:v<8388608)(e:v=bH s pos k):∃b d:Nat,b=bH s pos n/\d=bH s (pos+n) (k-n)/\b<=65535/\
 bits BinOp.and IntKind.u32 (v:Int) ((2^n-1)%4294967296)=(b:Int)/\(v:Int)/2^n=(d:Int):=by
 have hp:2^n<=2^16:=b_ (by omega) f;have a:1<=2^n:=Nat.two_pow_pos n;refine⟨v%2^n,v/2^n,by rw[e];exact Dq s pos n k c,by rw[e];exact Dt s pos n k c,?_,?_,?_⟩
 ·have:=oP v a;omega
 ·have h:((2:Int)^n-1)%4294967296=((2^n-1:Nat):Int):=by
   have:(2:Int)^n=((2^n:Nat):Int):=by simp
   rw[this];omega
  rw[h,u32_and_nat v (2^n-1) (by omega) (by omega)];congr 1
  exact sQ v n
 ·simp
theorem fM(tb:Src)(rb:Nat)(s:ByteArray)(pos n:Nat)(w:af)(h:Rd w tb rb s pos)(hs:s.size<=140737488354000)(B:n<=16):
 aF prog 133 #[.pointer (some ⟨rb,0,none⟩),.int .u64 (n:Int)] w fun e w'=>
  ((bI s n ⟨pos,false⟩).2.dA=false/\pos+n<=8*s.size/\e= .returned (.tuple #[.int .i64 ((bH s pos n:Nat):Int),.nilIface])/\Rd w' tb rb s (pos+n)/\RF tb rb w w')\/
  ((∃T a,e= .returned (.tuple #[.int .i64 0,.iface T (.pointer (some a))])/\dO tb w' T a ((bI s n ⟨pos,false⟩).2.dA=true))/\qc w' tb rb s/\RF tb rb w w'):=by
 obtain⟨c,C,h⟩:=h;go_enter func133,ntmps133
 go_wp2_with fail
 go_loopw [6] (fun x wr=> ∃k:Nat,Dj wr tb rb s pos k/\(k<8\/k<n+8)/\RF tb rb w wr) (fun _ wr=>24-Du wr rb)
 case atStart=>exact⟨c,h,.inl C,RF.refl _ _ _⟩
 case round=>
  obtain⟨k,l,D,g⟩:=hrel;have o:k<=23:=by omega
  have E:ah (Du wr rb=k):=Dv l;obtain⟨v,t,q,u,i,y,P,F,G,z,A,d3,f⟩:=l.cells o;have p:ah (v=bH s pos k):=u;have H1:ah (pos+k=8*t):=y;clear u y F G;by_cases H:k<n
  ·have ql:pos<=8*s.size:=by have:=H1.out;omega
   go_wp2_with fail
   refine(Pj tb rb s pos k _ l (by omega) hs).mono ?_;rintro e w1 (⟨I,rfl,m,r⟩|⟨⟨T,a,rfl,J⟩,m,r⟩)
   ·clear p H1 i z A d3 f;have K:ah (Du w1 rb=k+8):=Dv m;go_wp2_with fail
    go_roundw
    case rel=>exact⟨k+8,m,.inr (by omega),g.trans r⟩
    case measure=>rw[E.out,K.out];omega
   ·clear p H1 i z A d3 f;go_wp2_with fail
    go_ret2;exact .inr ⟨⟨T,a,rfl,J.imp (fun L=>uN s n pos ql (by omega))⟩,m,g.trans r⟩
  ·have Q:=f 1;have S:=f 2;have j:pos+n<=8*s.size:=by have:=H1.out;omega
   clear f;obtain⟨b,d,hb,hd,M,hand,hdiv⟩:=Zw s pos n k v (by omega) B i p.out;have N:ah (b=bH s pos n):=hb;have O:ah (d=bH s (pos+n) (k-n)):=hd;clear hb hd;go_wp2_with fail
   go_ret2;have R:=l.read n (by omega) (d:Int) ((k:Int)-(n:Int)) (by rw[O.out]) (by omega);exact .inl ⟨by rw[jc s n pos j],j,vW (gY Nat.cast N.out),⟨_,by omega,R.1⟩,g.trans R.2⟩
def Zx(tb:Src)(rb:Nat)(s:ByteArray)(pos n:Nat)(w:af)(x:Int)(v:ay)(w':af):Prop:=
 (pos+n<=8*s.size/\x=((bH s pos n:Nat):Int)/\v= .nilIface/\Rd w' tb rb s (pos+n)/\RF tb rb w w')\/
 (x=0/\(∃T a,v= .iface T (.pointer (some a))/\dO tb w' T a ((bI s n ⟨pos,false⟩).2.dA=true))/\qc w' tb rb s/\RF tb rb w w')
theorem Tn(tb:Src)(rb:Nat)(s:ByteArray)(pos n:Nat)(w:af)(h:Rd w tb rb s pos)(hs:s.size<=140737488354000)(d:n<=16):
 aF prog 133 #[.pointer (some ⟨rb,0,none⟩),.int .u64 (n:Int)] w fun e w'=> ∃x v,e= .returned (.tuple #[.int .i64 x,v])/\Zx tb rb s pos n w x v w':=by
 refine(fM tb rb s pos n w h hs d).mono ?_;rintro e w' (⟨i,b,rfl,c,f⟩|⟨⟨T,a,rfl,b⟩,g,c⟩)
 ·exact⟨_,_,rfl,.inl ⟨b,rfl,rfl,c,f⟩⟩
 ·exact⟨_,_,rfl,.inr ⟨rfl,⟨T,a,rfl,b⟩,g,c⟩⟩
theorem Kv(tb:Src)(rb:Nat)(s:ByteArray)(pos:Nat)(w:af)(h:Rd w tb rb s pos):
 aF prog 144 #[.pointer (some ⟨rb,0,none⟩)] w fun e w'=>e= .returned (.tuple #[])/\Rd w' tb rb s ((pos+7)/8*8)/\RF tb rb w w':=by
 obtain⟨c,k,h⟩:=h;obtain⟨v,t,q,d,f,b,l,g,i,m,n,d3,a⟩:=h.cells (by omega);have o:=a 1;have p:=a 2;have H1:ah (pos+c=8*t):=b;clear a d b g i;go_enter func144,ntmps144
 go_wp2_with fail
 go_end0
 have j:(pos+7)/8*8=pos+c:=by have:=H1.out;omega
 rw[j];have R:=h.read c (ag _) 0 0 (by rw[iW];rfl) (by rw[iW];rfl);exact⟨rfl,⟨_,by omega,R.1⟩,R.2⟩
theorem Kw(tb:Src)(rb:Nat)(s:ByteArray)(w:af)(h:qc w tb rb s):
 aF prog 74 #[.pointer (some ⟨rb,0,none⟩)] w fun e w'=>(∃n:Int,e= .returned (.int .i64 n))/\w'=w:=by
 obtain⟨c,t,v,a,b,h3,d,f,h6⟩:=h;have d3:w.cell? ⟨rb,3,none⟩=some (.int .i64 (t:Int)):=by simpa using(cell_of h6 3).1
 go_enter func74,ntmps74
 go_wp2_with fail
 go_ret;exact⟨⟨_,rfl⟩,rfl⟩
theorem MJ(tb:Src)(rb:Nat)(s:ByteArray)(w:af)(h:qc w tb rb s)(hs:s.size<=140737488354000):
 aF prog 106 #[.pointer (some ⟨rb,0,none⟩)] w fun e w'=>(∃n:Int,e= .returned (.int .i64 n))/\∃n,w'=w.drewN n:=by
 obtain⟨c,t,v,a,b,h3,d,f,h6⟩:=h;have g:w.cell? ⟨rb,2,none⟩=some (.int .u64 (c:Int)):=by simpa using(cell_of h6 2).1
 have d3:w.cell? ⟨rb,3,none⟩=some (.int .i64 (t:Int)):=by simpa using(cell_of h6 3).1
 go_enter func106,ntmps106
 go_wp2_with fail
 go_quiet (fail)
 go_wp2_with fail
 go_ret;exact⟨⟨_,rfl⟩,_,rfl⟩
end Pr
namespace Er
open Go.RowKit Go.Extern.Stop Go.Stop Go.Extern
set_option maxRecDepth 100000 in
theorem Tq(a:bP)(w:af):
 aF prog 76 #[.nilIface,.iface 362 (.pointer (some a))] w fun e w'=>e= .returned (.bool false)/\w'=w:=by
 have heq:=run_eql_iface_nil_left (P:=prog) w 362 (.pointer (some a)) underlying80;go_enter func76,ntmps76
 go_wp2
 go_ret;exact⟨rfl,rfl⟩
end Er
namespace Pr
open Go.RowKit Rf
theorem BX(m:ByteArray)(h:0<m.size):m.toList.isEmpty=false:=by rw[bD,List.isEmpty_eq_false_iff];intro e;have a:=gY List.length e;rw[Array.length_toList]at a;have b:m.data.size=m.size:=rfl;rw[b]at a;simp only[List.length_nil]at a;omega
theorem Xb(m:ByteArray)(h:m.size=0):m.toList.isEmpty=true:=by rw[bD,List.isEmpty_iff];exact gG (by rw[Array.length_toList];exact h)
def oK(w:af)(eb:bP):Prop:=w.cell? ⟨2,0,none⟩=some (.iface 362 (.pointer (some eb)))
theorem oK.over{w w':af}{eb:bP}(h:oK w eb)(e:w'.heap[2]?=w.heap[2]?):oK w' eb:=by unfold oK World.cell? at*;rw[e];exact h
theorem uO(s:ByteArray)(n t:Nat):aA (s.extract n s.size) t=aA s (n+t):=by
 have e:(s.extract n s.size).data.toList=s.data.toList.drop n:=by
  rw[fG,ni,jU];have a:s.size=s.data.toList.length:=by simp
  rw[a,<-iI,sS]
 unfold aA;rw[e,ak,ak,iZ]
theorem Jg(s:ByteArray)(n p k:Nat):bH (s.extract n s.size) p k=bH s (p+8*n) k:=by
 induction k with
 |zero=>rfl
 |succ k a=>rw[bH,bH,a];unfold Pg;rw[uO,show n+(p+k)/8=(p+8*n+k)/8 by omega,show(p+k)%8=(p+8*n+k)%8 by omega]
def Src.shift(S:Src)(n:Nat)(s:ByteArray):Src:={S with z:=S.z+n,K:=fun w a t=>a=s.extract n s.size/\n<=s.size/\S.K w s (n+t)}
theorem Src.Zy{S:Src}(n:Nat)(s:ByteArray)(g:S.z+n<=16)(h:S.Ok):(S.shift n s).Ok where
 ng:=h.ng
 Di:=g
 low:=h.low
 ke:=fun⟨_,_,k⟩=>h.ke k
 Vy:=h.Vy
 iJ:=fun⟨a,b,k⟩ e=>⟨a,b,h.iJ k e⟩
 qH:=h.qH
 hb:=h.hb
 Tm:=fun w i t ⟨a,b,k⟩ j=>by
  subst a;rw[p_]at j;refine(h.Tm w s (n+t) k (by omega)).mono ?_;rintro e w' (⟨rfl,c,d⟩|⟨x,T,a,rfl,c,d,f,l⟩)
  ·exact .inl ⟨by rw[uO],⟨rfl,b,c⟩,d⟩
  ·exact .inr ⟨x,T,a,rfl,c,d,f,l⟩
 xx:=fun w i ⟨a,b,k⟩=>by subst a;rw[p_,show n+(s.size-n)=s.size by omega]at k;refine(h.xx w s k).mono ?_;rintro e w' ⟨x,T,a,rfl,c,d,f⟩;exact⟨x,T,a,rfl,c,d,f⟩
theorem Rd.acA{S:Src}{rb:Nat}{s:ByteArray}{w:af}(n:Nat)(d:S.z+n<=16)(e:n<=s.size)(h:Rd w S rb s (8*n)):Rd w (S.shift n s) rb (s.extract n s.size) 0:=by
 obtain⟨c,j,t,k,l,h3,f,g,h6⟩:=h;have b:c=0:=by omega
 subst b;have i:t=n:=by omega
 subst i;refine⟨0,by omega,0,rfl,aU _,h3,⟨rfl,e,f⟩,Src.Zy _ s d g,?_⟩;rw[h6];show _=some (Obj.cells #[.iface S.T (.pointer (some S.a)),.int .u32 ((0:Nat):Int),.int .u64 ((0:Nat):Int),.int .i64 ((0+(S.z+t):Nat):Int)] 180 (0,0));rw[show 0+(S.z+t)=t+S.z by omega];rfl
theorem Rd.MK{S:Src}{rb:Nat}{s:ByteArray}{w:af}{n p:Nat}(hS:S.Ok)(h:Rd w (S.shift n s) rb (s.extract n s.size) p):Rd w S rb s (p+8*n):=by obtain⟨c,b,t,f,d,h3,⟨_,g,e⟩,i,h6⟩:=h;rw[p_]at d;refine⟨c,b,n+t,by omega,by omega,h3,e,hS,?_⟩;rw[h6,Jg];show some (Obj.cells #[.iface S.T (.pointer (some S.a)),.int .u32 ((bH s (p+8*n) c:Nat):Int),.int .u64 (c:Int),.int .i64 ((t+(S.z+n):Nat):Int)] 180 (0,0))=_;rw[show t+(S.z+n)=n+t+S.z by omega]
theorem qc.MK{S:Src}{rb:Nat}{s:ByteArray}{w:af}{n:Nat}(e:n<=s.size)(hS:S.Ok)(h:qc w (S.shift n s) rb (s.extract n s.size)):qc w S rb s:=by obtain⟨c,t,v,a,b,h3,d,f,h6⟩:=h;rw[p_]at b;exact⟨c,t,v,a,by omega,h3,d,hS,h6⟩
structure Src.ad5(S:Src)(fe:FuncId)(done:ByteArray->Prop)(KD:af->Prop):Prop where
 ae9:∀v w,(Go.method 494 S.T v "NoMore").run prog w= .ok (fe,v) w
 body:∀args w,(callFunc fe args).run prog w= .ok (.enter fe args) w
 ok:∀(w:af) (s:ByteArray),S.K w s s.size->done s->
  aF prog fe #[.pointer (some S.a)] w fun e w'=>(e= .returned .nilIface/\KD w'/\S.KE w'/\Fr S.F w w')\/(∃T a,e= .returned (.iface T (.pointer (some a)))/\uI S.fb w' T a/\S.t_/\S.KE w'/\Fr S.F w w')
 dA:∀(w:af) (s:ByteArray) (t:Nat),S.K w s t->t<s.size\/(t=s.size/\¬done s)->
  aF prog fe #[.pointer (some S.a)] w fun e w'=>∃T a,e= .returned (.iface T (.pointer (some a)))/\dO S w' T a True/\S.KE w'/\Fr S.F w w'
end Pr
end Go.Proofs.YtephkcdbnogdhaaGreatDoor
