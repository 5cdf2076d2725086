import Derived.Test.YtephkcdbnogdhabGreatDoorM1
set_option linter.unusedVariables false
set_option maxHeartbeats 40000000
set_option maxRecDepth 10000
namespace Go.Proofs.YtephkcdbnogdhabGreatDoor
open Go.Proofs.Tryz
open Go renaming World->af,Value->ay,Calls->aH,TypeId->aW,Addr->bG
open Go.RowKit renaming Hid->au
namespace Pr
open Go.RowKit Rf
structure Src where
 T:aW
 a:bG
 base:Nat
 F:Nat->Prop
 z:Nat
 K:af->ByteArray->Nat->Prop
 KE:af->Prop
 rP:Prop
 fb:bG
def dJ(S:Src)(w:af)(T:aW)(a:bG)(P:Prop):Prop:=(iQ w T a/\P)\/(sV S.fb w T a/\S.rP)
theorem dJ.imp{S:Src}{w:af}{T:aW}{a:bG}{P Q:Prop}(h:dJ S w T a P)(f:P->Q):dJ S w T a Q:=Or.imp (fun h=>⟨h.1,f h.2⟩) id h
theorem dJ.over{S:Src}{w w':af}{T:aW}{a:bG}{P:Prop}(h:dJ S w T a P)(hb:∀(k:Nat) (cur:Array ay) (f:Nat×Nat),w.heap[k]?=some (Obj.cells cur 112 f)->w'.heap[k]?=w.heap[k]?):dJ S w' T a P:=Or.imp (fun h=>⟨h.1.over hb,h.2⟩) (fun h=>⟨h.1.over hb,h.2⟩) h
theorem dJ.set{S:Src}{w:af}{T:aW}{a:bG}{P:Prop}(h:dJ S w T a P){b:Nat}{cur:Array ay}{d:aW}{f:Nat×Nat}(e:w.heap[b]?=some (.cells cur d f))(i:d≠112)(o:Nat)(x:ay):dJ S (w.setCell ⟨b,o,none⟩ x) T a P:=h.over (fun k g j c=>aC o x (fun he=>by rw[he,e]at c;simp at c;exact i c.2.1))
theorem dJ.grow{S:Src}{w w':af}{T:aW}{a:bG}{P:Prop}(h:dJ S w T a P)(hb:∀k,k<w.heap.size->w'.heap[k]?=w.heap[k]?):dJ S w' T a P:=h.over (fun k _ _ e=>hb k (ak e))
theorem dJ.alloc{S:Src}{w:af}{T:aW}{a:bG}{P:Prop}(h:dJ S w T a P)(o:Obj):dJ S (w.alloc o) T a P:=h.grow (fun k b=>ai w o k b)
theorem dJ.uh{S:Src}{w:af}{a:bG}{P:Prop}(h:P):dJ S w 93 a P:= .inl ⟨iQ.mk w a,h⟩
theorem o_.place{Q:aW->bG->Prop}{w:af}{n:Nat}{T:aW}{a:bG}(h:o_ Q w n T a)(u:ay)(m:ay):o_ Q (w.alloc (.cells #[u,m,.iface T (.pointer (some a))] 112)) (n+1) 110 ⟨w.heap.size,0,none⟩:=
 ⟨rfl,_,u,m,T,a,rfl,(gY w _).1,h.grow (fun k b=>ai w _ k b)⟩
theorem dJ.place{S:Src}{w:af}{T:aW}{a:bG}{P:Prop}(h:dJ S w T a P)(u:ay)(m:ay):dJ S (w.alloc (.cells #[u,m,.iface T (.pointer (some a))] 112)) 110 ⟨w.heap.size,0,none⟩ P:=
 Or.imp (fun⟨⟨n,h⟩,p⟩=>⟨⟨n+1,h.place u m⟩,p⟩) (fun⟨⟨n,h⟩,p⟩=>⟨⟨n+1,h.place u m⟩,p⟩) h
def LU(T:aW):Bool:=T==99999||T==99||T==194||T==84||T==86
structure Src.Ok(S:Src):Prop where
 ng:7<=S.base
 zn:S.z<=16
 low:∀k,S.F k->S.base<=k
 ke:∀{w s t},S.K w s t->S.KE w
 Sl:∀{w k},S.KE w->S.F k->∃cur T f,w.heap[k]?=some (.cells cur T f)/\LU T=true
 iq:∀{w w' s t},S.K w s t->(∀k,S.F k\/k<S.base->w'.heap[k]?=w.heap[k]?)->S.K w' s t
 pg:∀{w w'},S.KE w->(∀k,S.F k\/k<S.base->w'.heap[k]?=w.heap[k]?)->S.KE w'
 hb:∀{w},S.KE w->S.base<=w.heap.size
 PG:∀(w:af) (s:ByteArray) (t:Nat),S.K w s t->t<s.size->
  aH prog 101 #[.iface S.T (.pointer (some S.a))] w fun e w'=>
   (e= .returned (.tuple #[.int .u8 ((aF s t:Nat):Int),.nilIface])/\S.K w' s (t+1)/\Fr S.F w w')\/
   (∃x T a,e= .returned (.tuple #[.int .u8 x,.iface T (.pointer (some a))])/\sV S.fb w' T a/\S.rP/\S.KE w'/\Fr S.F w w')
 wE:∀(w:af) (s:ByteArray),S.K w s s.size->
  aH prog 101 #[.iface S.T (.pointer (some S.a))] w fun e w'=>∃x T a,e= .returned (.tuple #[.int .u8 x,.iface T (.pointer (some a))])/\dJ S w' T a True/\S.KE w'/\Fr S.F w w'
theorem Src.Ok.lt{S:Src}(hS:S.Ok){w:af}(h:S.KE w){k:Nat}(a:S.F k):k<w.heap.size:=by obtain⟨cur,T,f,h,_⟩:=hS.Sl h a;exact ak h
theorem Src.Ok.ne{S:Src}(hS:S.Ok){w:af}(h:S.KE w){k:Nat}{cur:Array ay}{T:aW}{f:Nat×Nat}(b:w.heap[k]?=some (.cells cur T f))(c:LU T=false):¬S.F k:=fun hF=>by obtain⟨a,d,e,h1,h2⟩:=hS.Sl h hF;rw[b]at h1;cases h1;rw[c]at h2;cases h2
structure RF(tb:Src)(rb:Nat)(w w':af):Prop where
 os:w'.os=w.os
 tape:w'.tape=w.tape
 output:w'.output=w.output
 size:w.heap.size<=w'.heap.size
 block:∀k,k<w.heap.size->¬tb.F k->k≠rb->w'.heap[k]?=w.heap[k]?
theorem RF.refl(tb:Src)(rb:Nat)(w:af):RF tb rb w w:=⟨rfl,rfl,rfl,ah _,fun _ _ _ _=>rfl⟩
theorem RF.trans{tb:Src}{rb:Nat}{u v w:af}(h:RF tb rb u v)(k:RF tb rb v w):RF tb rb u w:=
 ⟨k.os.trans h.os,k.tape.trans h.tape,k.output.trans h.output,aY h.size k.size,fun i hi a b=>(k.block i (aN hi h.size) a b).trans (h.block i hi a b)⟩
theorem RF.drew{tb:Src}{rb:Nat}{u v:af}(h:RF tb rb u v):RF tb rb u v.drew:=⟨h.os,h.tape,h.output,h.size,h.block⟩
theorem RF.set{tb:Src}{rb:Nat}{u v:af}(h:RF tb rb u v)(o:Nat)(x:ay):RF tb rb u (v.setCell ⟨rb,o,none⟩ x):=
 ⟨h.os,h.tape,h.output,by simpa using h.size,fun k b a e=>(Below.heap_setCell v ⟨rb,o,none⟩ x k e).trans (h.block k b a e)⟩
theorem RF.alloc{tb:Src}{rb:Nat}{u v:af}(h:RF tb rb u v)(o:Obj):RF tb rb u (v.alloc o):=
 ⟨h.os,h.tape,h.output,by have:=h.size;simp;omega,fun k b a e=>(ai v o k (aN b h.size)).trans (h.block k b a e)⟩
theorem RF.of{tb:Src}{w w':af}(rb:Nat)(h:Fr tb.F w w'):RF tb rb w w':=⟨h.os,h.tape,h.output,h.size,fun k b a _=>h.block k b a⟩
def BO(w:af)(tb:Src)(rb:Nat)(s:ByteArray)(pos c:Nat):Prop:=
 ∃t,pos+c=8*t/\t<=s.size/\tb.base<=rb/\tb.K w s t/\tb.Ok/\
  w.heap[rb]?=some (.cells #[.iface tb.T (.pointer (some tb.a)),.int .u32 ((bC s pos c:Nat):Int),.int .u64 (c:Int),.int .i64 ((t+tb.z:Nat):Int)] 218 (0,0))
def oH(w:af)(tb:Src)(rb:Nat)(s:ByteArray):Prop:=
 ∃c t:Nat,∃v:Int,c<=23/\t<=s.size+16/\tb.base<=rb/\tb.KE w/\tb.Ok/\
  w.heap[rb]?=some (.cells #[.iface tb.T (.pointer (some tb.a)),.int .u32 v,.int .u64 (c:Int),.int .i64 ((t:Nat):Int)] 218 (0,0))
theorem BO.zC{w:af}{tb:Src}{rb:Nat}{s:ByteArray}{pos c:Nat}(h:BO w tb rb s pos c)(b:c<=23):oH w tb rb s:=by obtain⟨t,h1,h2,d,e,a,f⟩:=h;exact⟨c,_,_,b,by have:=a.zn;omega,d,a.ke e,a,f⟩
theorem BO.no{w:af}{tb:Src}{rb:Nat}{s:ByteArray}{pos c:Nat}(h:BO w tb rb s pos c):¬tb.F rb:=by obtain⟨t,h1,h2,e,b,a,d⟩:=h;exact a.ne (a.ke b) d (by decide)
theorem oH.no{w:af}{tb:Src}{rb:Nat}{s:ByteArray}(h:oH w tb rb s):¬tb.F rb:=by obtain⟨c,t,v,h1,h2,e,a,b,d⟩:=h;exact b.ne a d (by decide)
theorem BO.over{w w':af}{tb:Src}{rb:Nat}{s:ByteArray}{pos c:Nat}(h:BO w tb rb s pos c)(b:∀k,tb.F k\/k<tb.base->w'.heap[k]?=w.heap[k]?)(d:w'.heap[rb]?=w.heap[rb]?):BO w' tb rb s pos c:=by obtain⟨t,h1,h2,e,f,a,g⟩:=h;exact⟨t,h1,h2,e,a.iq f b,a,d.trans g⟩
theorem oH.over{w w':af}{tb:Src}{rb:Nat}{s:ByteArray}(h:oH w tb rb s)(b:∀k,tb.F k\/k<tb.base->w'.heap[k]?=w.heap[k]?)(d:w'.heap[rb]?=w.heap[rb]?):oH w' tb rb s:=by obtain⟨c,t,v,h1,h2,e,f,a,g⟩:=h;exact⟨c,t,v,h1,h2,e,a.pg f b,a,d.trans g⟩
theorem oH.GM{w:af}{tb:Src}{rb:Nat}{s:ByteArray}(h:oH w tb rb s):(∀k,tb.F k\/k<tb.base->k<w.heap.size)/\rb<w.heap.size/\tb.base<=rb/\tb.base<=w.heap.size:=by obtain⟨c,t,v,h1,h2,b,d,e,f⟩:=h;have:=ak f;exact⟨fun k a=>a.elim (fun a=>e.lt d a) (fun a=>by omega),this,b,by omega⟩
theorem BO.GM{w:af}{tb:Src}{rb:Nat}{s:ByteArray}{pos c:Nat}(h:BO w tb rb s pos c):(∀k,tb.F k\/k<tb.base->k<w.heap.size)/\rb<w.heap.size/\tb.base<=rb/\tb.base<=w.heap.size:=by obtain⟨t,h1,h2,d,e,b,f⟩:=h;have:=ak f;exact⟨fun k a=>a.elim (fun a=>b.lt (b.ke e) a) (fun a=>by omega),this,d,by omega⟩
theorem BO.grow{w w':af}{tb:Src}{rb:Nat}{s:ByteArray}{pos c:Nat}(h:BO w tb rb s pos c)(e:∀k,k<w.heap.size->w'.heap[k]?=w.heap[k]?):BO w' tb rb s pos c:=
 h.over (fun k a=>e k (h.GM.1 k a)) (e rb h.GM.2.1)
theorem oH.grow{w w':af}{tb:Src}{rb:Nat}{s:ByteArray}(h:oH w tb rb s)(e:∀k,k<w.heap.size->w'.heap[k]?=w.heap[k]?):oH w' tb rb s:=
 h.over (fun k a=>e k (h.GM.1 k a)) (e rb h.GM.2.1)
theorem BO.alloc{w:af}{tb:Src}{rb:Nat}{s:ByteArray}{pos c:Nat}(h:BO w tb rb s pos c)(o:Obj):BO (w.alloc o) tb rb s pos c:=h.grow (fun k a=>ai w o k a)
theorem oH.alloc{w:af}{tb:Src}{rb:Nat}{s:ByteArray}(h:oH w tb rb s)(o:Obj):oH (w.alloc o) tb rb s:=h.grow (fun k a=>ai w o k a)
theorem oH.drew{w:af}{tb:Src}{rb:Nat}{s:ByteArray}(h:oH w tb rb s):oH w.drew tb rb s:=h.grow (fun _ _=>rfl)
theorem oH.drewN{w:af}{tb:Src}{rb:Nat}{s:ByteArray}(h:oH w tb rb s)(n:Nat):oH (w.drewN n) tb rb s:=h.grow (fun _ _=>rfl)
theorem BO.dY{w:af}{tb:Src}{rb:Nat}{s:ByteArray}{pos c:Nat}(h:BO w tb rb s pos c)(b o:Nat)(x:ay)(h0:tb.base<=b)(h1:¬tb.F b)(h2:b≠rb):BO (w.setCell ⟨b,o,none⟩ x) tb rb s pos c:=
 h.over (fun k a=>aC o x (fun e=>a.elim (fun a=>h1 (e▸a)) (fun a=>by omega))) (aC o x (rG h2))
theorem oH.dY{w:af}{tb:Src}{rb:Nat}{s:ByteArray}(h:oH w tb rb s)(b o:Nat)(x:ay)(h0:tb.base<=b)(h1:¬tb.F b)(h2:b≠rb):oH (w.setCell ⟨b,o,none⟩ x) tb rb s:=
 h.over (fun k a=>aC o x (fun e=>a.elim (fun a=>h1 (e▸a)) (fun a=>by omega))) (aC o x (rG h2))
theorem pq {f:FuncId} {fn:Func} (b:prog.funcs[f]?=some fn) (a:(fn.name== "runtime.NumGoroutine")=false) (hb:fn.body.isSome=true) (args:Array ay) (w:af):(callFunc f args).run prog w= .ok (.enter f args) w:=by
 obtain⟨c,d⟩:=Option.isSome_iff_exists.1 hb;have h1:fn.name≠ "runtime.NumGoroutine" :=by simpa using a
 simp[callFunc,b,h1,d]
theorem cZ(a:ByteArray)(w:af):
 aH prog 75 #[.string a] w fun e w'=>e= .returned (.iface 93 (.pointer (some ⟨w.heap.size,0,none⟩)))/\w'=w.alloc (.cells #[.string a] 203):=by
 go_enter func75,ntmps75
 go_wp2
 go_ret;exact⟨rfl,rfl⟩
theorem ads(v z c:Nat)(b:v<2^c)(d:c<=15)(f:z*2^c<=255*2^15):bits BinOp.or IntKind.u32 (v:Int) ((z:Int)*2^c%4294967296)=((v+z*2^c:Nat):Int):=by
 have e:(z:Int)*2^c%4294967296=((z*2^c:Nat):Int):=by
  have:(z:Int)*2^c=((z*2^c:Nat):Int):=by simp
  rw[this];omega
 have a:v<4294967296:=by have:2^c<=2^15:=bT (by omega) d;omega
 rw[e,u32_or_nat v (z*2^c) a (by omega)];congr 1
 rw[Nat.or_comm,eP,<-jZ b z,Nat.add_comm]
theorem LV(tb:Src)(rb:Nat)(s:ByteArray)(pos c:Nat)(w:af)(h:BO w tb rb s pos c)(G:c<=15)(R:s.size<=140737488354000):
 aH prog 135 #[.pointer (some ⟨rb,0,none⟩)] w fun e w'=>
  (pos+c<8*s.size/\e= .returned .nilIface/\BO w' tb rb s pos (c+8)/\RF tb rb w w')\/
  ((∃T a,e= .returned (.iface T (.pointer (some a)))/\dJ tb w' T a (¬pos+c<8*s.size))/\oH w' tb rb s/\RF tb rb w w'):=by
 have f:=h.no;obtain⟨t,h1,h2,y,n,hS,d⟩:=h;have c0:w.cell? ⟨rb,0,none⟩=some (.iface tb.T (.pointer (some tb.a))):=by simpa using(cell_of d 0).1
 have H:=hS.zn;by_cases g:pos+c<8*s.size
 ·have i:t<s.size:=by omega
  have hb:aF s t<=255:=bY s t;have N:=hS.PG w s t n i;obtain⟨z,A⟩:∃z,z=aF s t:=⟨_,rfl⟩;rw[<-A]at N hb;have B:bC s pos c<2^c:=fJ s pos c;have hp:2^c<=2^15:=bT (by omega) G;obtain⟨v,j⟩:∃v,v=bC s pos c:=⟨_,rfl⟩;rw[<-j]at d B;have I:au (bC s pos (c+8)=v+z*2^c):=(by rw[Px s pos c t h1,A,j]:_=_);have J:z*2^c<=255*2^15:=bD hb hp;obtain⟨r,l⟩:∃r,r=v+z*2^c:=⟨_,rfl⟩;have C:bits BinOp.or IntKind.u32 (v:Int) ((z:Int)*2^c%4294967296)=(r:Int):=by rw[l];exact ads v z c B G J
  have M:au (r=bC s pos (c+8)):=(l.trans I.out.symm:_=_);have p:au (pos+c=8*t/\pos+c<8*s.size):=(⟨h1,g⟩:_/\_);obtain⟨q,D⟩:∃q,q=t+tb.z:=⟨_,rfl⟩;have O:q<=140737488354100:=by omega
  rw[<-D]at d;have K:au (q=t+tb.z):=D;clear A j B hp h1 J l I D g;go_enter func135,ntmps135
  go_wp2_with fail
  refine N.mono ?_;rintro e w1 (⟨rfl,P,L⟩|⟨x,T,a,rfl,E,Q,F,o⟩)
  ·have b:w1.heap[rb]?=_:=(L.block rb (ak d) f).trans d;clear n d c0 N;have d1:w1.cell? ⟨rb,1,none⟩=some (.int .u32 (v:Int)):=by simpa using(cell_of b 1).1
   have d2:w1.cell? ⟨rb,2,none⟩=some (.int .u64 (c:Int)):=by simpa using(cell_of b 2).1
   have d3:w1.cell? ⟨rb,3,none⟩=some (.int .i64 (q:Int)):=by simpa using(cell_of b 3).1
   have S:=(cell_of b 1).2;have U:=(cell_of b 2).2;have e3:=(cell_of b 3).2;go_wp2_with fail
   go_region
   go_wp2
   go_ret;refine .inl ⟨p.out.2,rfl,⟨t+1,by have:=p.out.1;omega,by omega,y,?_,hS,?_⟩,?_⟩
   ·refine hS.iq P (fun k u=> ?_);have m:k≠rb:=fun e=>u.elim (fun u=>f (e▸u)) (fun u=>by omega);exact(aC 3 _ m).trans ((aC 2 _ m).trans (aC 1 _ m))
   ·refine(bF (bF (bF b 1 _) 2 _) 3 _).trans ?_;rw[<-M.out];have:(t+1+tb.z:Nat)=q+1:=by have:=K.out;omega
    rw[this];simp
   ·exact((((RF.of rb L).set 1 _).set 2 _).set 3 _).drew
  ·have b:w1.heap[rb]?=_:=(o.block rb (ak d) f).trans d;clear n c0 N C;go_wp2_with fail
   go_ret;refine .inr ⟨⟨T,a,rfl,.inr ⟨E,Q⟩⟩,⟨c,q,_,by omega,by have:=K.out;omega,y,F,hS,b⟩,RF.of rb o⟩
 ·have i:t=s.size:=by omega
  subst i;have N:=hS.wE w s n;have p:au (¬pos+c<8*s.size):=g;clear g;go_enter func135,ntmps135
  go_wp2_with fail
  refine N.mono ?_;rintro e w1 ⟨x,T,a,rfl,E,F,o⟩;have b:w1.heap[rb]?=_:=(o.block rb (ak d) f).trans d;clear n c0 N;go_wp2_with fail
  go_ret;exact .inr ⟨⟨T,a,rfl,E.imp (fun _=>p.out)⟩,⟨c,_,_,by omega,by omega,y,F,hS,b⟩,RF.of rb o⟩
def Rd(w:af)(tb:Src)(rb:Nat)(s:ByteArray)(pos:Nat):Prop:=∃c,c<8/\BO w tb rb s pos c
theorem Rd.zC{w:af}{tb:Src}{rb:Nat}{s:ByteArray}{pos:Nat}(h:Rd w tb rb s pos):oH w tb rb s:=by obtain⟨c,a,h⟩:=h;exact h.zC (by omega)
theorem Rd.over{w w':af}{tb:Src}{rb:Nat}{s:ByteArray}{pos:Nat}(h:Rd w tb rb s pos)(a:∀k,tb.F k\/k<tb.base->w'.heap[k]?=w.heap[k]?)(b:w'.heap[rb]?=w.heap[rb]?):Rd w' tb rb s pos:=by obtain⟨c,d,h⟩:=h;exact⟨c,d,h.over a b⟩
theorem Rd.grow{w w':af}{tb:Src}{rb:Nat}{s:ByteArray}{pos:Nat}(h:Rd w tb rb s pos)(e:∀k,k<w.heap.size->w'.heap[k]?=w.heap[k]?):Rd w' tb rb s pos:=by obtain⟨c,a,h⟩:=h;exact⟨c,a,h.grow e⟩
theorem Rd.alloc{w:af}{tb:Src}{rb:Nat}{s:ByteArray}{pos:Nat}(h:Rd w tb rb s pos)(o:Obj):Rd (w.alloc o) tb rb s pos:=by obtain⟨c,a,h⟩:=h;exact⟨c,a,h.alloc o⟩
theorem Rd.GM{w:af}{tb:Src}{rb:Nat}{s:ByteArray}{pos:Nat}(h:Rd w tb rb s pos):(∀k,tb.F k\/k<tb.base->k<w.heap.size)/\rb<w.heap.size/\tb.base<=rb/\tb.base<=w.heap.size:=h.zC.GM
theorem Rd.no{w:af}{tb:Src}{rb:Nat}{s:ByteArray}{pos:Nat}(h:Rd w tb rb s pos):¬tb.F rb:=h.zC.no
theorem Rd.types{w:af}{tb:Src}{rb:Nat}{s:ByteArray}{pos:Nat}(h:Rd w tb rb s pos){k:Nat}{cur:Array ay}{T:aW}{f:Nat×Nat}(a:w.heap[k]?=some (.cells cur T f))(h1:LU T=false)(h2:T≠218):¬tb.F k/\k≠rb:=by obtain⟨c,i,t,_,_,_,d,b,g⟩:=h;exact⟨b.ne (b.ke d) a h1,fun e=>by rw[e,g]at a;cases a;exact h2 rfl⟩
theorem Rd.new{w:af}{tb:Src}{rb:Nat}{s:ByteArray}{pos:Nat}(h:Rd w tb rb s pos){k:Nat}(a:w.heap.size<=k):tb.base<=k/\¬tb.F k/\k≠rb:=
 ⟨by have:=h.GM;omega,fun e=>by have:=h.GM.1 k (.inl e);omega,by have:=h.GM;omega⟩
theorem Rd.dY{w:af}{tb:Src}{rb:Nat}{s:ByteArray}{pos:Nat}(h:Rd w tb rb s pos)(b o:Nat)(x:ay)(h0:tb.base<=b)(h1:¬tb.F b)(h2:b≠rb):Rd (w.setCell ⟨b,o,none⟩ x) tb rb s pos:=by obtain⟨c,a,h⟩:=h;exact⟨c,a,h.dY b o x h0 h1 h2⟩
theorem Rd.zS{w:af}{tb:Src}{rb:Nat}{s:ByteArray}{pos:Nat}(h:Rd w tb rb s pos):pos<=8*s.size:=by obtain⟨c,a,t,h1,h2,_⟩:=h;omega
theorem bP{k:IntKind}{a b:Int}(h:a=b):Ending.returned (.int k a)= .returned (.int k b):=by rw[h]
theorem uP{k:IntKind}{a b:Int}{y:ay}(h:a=b):Ending.returned (.tuple #[.int k a,y])= .returned (.tuple #[.int k b,y]):=by rw[h]
theorem Sm(v:Nat)(h:v<4294967296):bits BinOp.and IntKind.u32 (v:Int) 1=((v%2:Nat):Int):=by have e:=u32_and_nat v 1 h (by omega);have a:v&&&1=v%2:=Nat.and_one_is_mod v;rw[a]at e;exact e
theorem BO.cells{w:af}{tb:Src}{rb:Nat}{s:ByteArray}{pos c:Nat}(h:BO w tb rb s pos c)(b:c<=23):∃v t q:Nat,v=bC s pos c/\v<8388608/\pos+c=8*t/\t<=s.size/\q=t+tb.z/\tb.z<=16/\
 w.cell? ⟨rb,1,none⟩=some (.int .u32 (v:Int))/\w.cell? ⟨rb,2,none⟩=some (.int .u64 (c:Int))/\w.cell? ⟨rb,3,none⟩=some (.int .i64 (q:Int))/\(∀o,w.frozen? ⟨rb,o,none⟩=false):=by
 obtain⟨t,h1,h2,e,f,d,a⟩:=h;refine⟨_,t,_,rfl,aN (fJ s pos c) (show 2^c<=2^23 from bT (by omega) b),h1,h2,rfl,d.zn,?_,?_,?_,fun o=>(cell_of a o).2⟩
 ·simpa using(cell_of a 1).1
 ·simpa using(cell_of a 2).1
 ·simpa using(cell_of a 3).1
theorem BO.read{w:af}{tb:Src}{rb:Nat}{s:ByteArray}{pos c:Nat}(h:BO w tb rb s pos c)(n:Nat)(p:n<=c)(x k:Int)(g:x=((bC s (pos+n) (c-n):Nat):Int))(i:k=((c-n:Nat):Int)):
 BO ((w.setCell ⟨rb,1,none⟩ (.int .u32 x)).setCell ⟨rb,2,none⟩ (.int .u64 k)) tb rb s (pos+n) (c-n)/\RF tb rb w ((w.setCell ⟨rb,1,none⟩ (.int .u32 x)).setCell ⟨rb,2,none⟩ (.int .u64 k)):=by
 have d:=h.no;obtain⟨t,h1,h2,l,m,f,o⟩:=h;refine⟨⟨t,by omega,h2,l,f.iq m (fun j b=> ?_),f,?_⟩,?_⟩
 ·have a:j≠rb:=fun e=>b.elim (fun b=>d (e▸b)) (fun b=>by omega);exact(aC 2 _ a).trans (aC 1 _ a)
 ·refine(bF (bF o 1 _) 2 _).trans ?_;rw[g,i];simp
 ·exact((RF.refl tb rb w).set 1 _).set 2 _
theorem wF(tb:Src)(rb:Nat)(s:ByteArray)(pos:Nat)(w:af)(h:Rd w tb rb s pos)(z:s.size<=140737488354000):
 aH prog 136 #[.pointer (some ⟨rb,0,none⟩)] w fun e w'=>
  ((kE s ⟨pos,false⟩).2.dV=false/\pos<8*s.size/\e= .returned (.tuple #[.int .i64 ((bC s pos 1:Nat):Int),.nilIface])/\Rd w' tb rb s (pos+1)/\RF tb rb w w')\/
  ((∃T a,e= .returned (.tuple #[.int .i64 0,.iface T (.pointer (some a))])/\dJ tb w' T a ((kE s ⟨pos,false⟩).2.dV=true))/\oH w' tb rb s/\RF tb rb w w'):=by
 obtain⟨c,I,h⟩:=h;obtain⟨v,t,q,x,g,h1,h2,A,B,d1,d2,d3,d⟩:=h.cells (by omega);have f:au (v=bC s pos c):=x;have H1:au (pos+c=8*t):=h1;clear x h1 A B;by_cases h0:c=0
 ·subst h0;go_enter func136,ntmps136
  go_wp2_with fail
  refine(LV tb rb s pos 0 _ h (by omega) z).mono ?_;rintro e w1 (⟨k,rfl,j,l⟩|⟨⟨T,a,rfl,C⟩,j,l⟩)
  ·clear f H1 g d1 d2 d3 d;obtain⟨v1,J,K,i,y,m,D,n,o,d1,d2,d3,d⟩:=j.cells (by omega);have f:au (v1=bC s pos (0+8)):=i;have E:=d 1;have F:=d 2;clear i m d n o;obtain⟨b,hb⟩:∃b,b=v1%2:=⟨_,rfl⟩;have hand:bits BinOp.and IntKind.u32 (v1:Int) 1=(b:Int):=by rw[hb];exact Sm v1 (by omega)
   have p:b<=1:=by omega
   have r:au (b=bC s pos 1):=(by rw[hb,f.out];exact vC s pos 1 8 (by omega):_=_);have u:au (v1/2=bC s (pos+1) 7):=(by rw[f.out];exact yF s pos 1 8 (by omega):_=_);clear hb;go_wp2_with fail
   go_ret2;have R:=j.read 1 (by omega) ((v1:Int)/2) 7 (by rw[show(0+8-1:Nat)=7 from rfl,<-u.out];omega) rfl;exact .inl ⟨by rw[wB s pos (by omega)],by omega,uP (jo Nat.cast r.out),⟨_,by omega,R.1⟩,l.trans R.2⟩
  ·clear f H1 g d1 d2 d3 d;go_wp2_with fail
   go_ret2;exact .inr ⟨⟨T,a,rfl,C.imp (fun L=>Ey s pos (by omega))⟩,j,l⟩
 ·have G:decide ((c:Int)=0)=false:=by simp;omega
  have k:pos<8*s.size:=by have:=H1.out;omega
  have E:=d 1;have F:=d 2;clear d;obtain⟨b,hb⟩:∃b,b=v%2:=⟨_,rfl⟩;have hand:bits BinOp.and IntKind.u32 (v:Int) 1=(b:Int):=by rw[hb];exact Sm v (by omega)
  have p:b<=1:=by omega
  have H:1<=c:=by omega
  have r:au (b=bC s pos 1):=(by rw[hb,f.out];exact vC s pos 1 c (by omega):_=_);have u:au (v/2=bC s (pos+1) (c-1)):=(by rw[f.out];exact yF s pos 1 c (by omega):_=_);clear hb;go_enter func136,ntmps136
  go_wp2_with fail
  go_ret2;have R:=h.read 1 (by omega) ((v:Int)/2) ((c:Int)-1) (by rw[<-u.out];omega) (by omega);exact .inl ⟨by rw[wB s pos (by omega)],by omega,uP (jo Nat.cast r.out),⟨_,by omega,R.1⟩,R.2⟩
def BU(w:af)(rb:Nat):Nat:=match w.cell? ⟨rb,2,none⟩with
 |some (.int _ n)=>n.toNat
 |_=>0
theorem BV{w:af}{tb:Src}{rb:Nat}{s:ByteArray}{pos c:Nat}(h:BO w tb rb s pos c):BU w rb=c:=by
 obtain⟨t,h1,h2,b,d,e,a⟩:=h;have d2:w.cell? ⟨rb,2,none⟩=some (.int .u64 (c:Int)):=by simpa using(cell_of a 2).1
 unfold BU;rw[d2];simp
theorem Xh(s:ByteArray)(pos n k v:Nat)(c:n<=k)(f:n<=16)(g:v<8388608)(e:v=bC s pos k):∃b d:Nat,b=bC s pos n/\d=bC s (pos+n) (k-n)/\b<=65535/\
 bits BinOp.and IntKind.u32 (v:Int) ((2^n-1)%4294967296)=(b:Int)/\(v:Int)/2^n=(d:Int):=by
 have hp:2^n<=2^16:=bT (by omega) f;have a:1<=2^n:=kS n;refine⟨v%2^n,v/2^n,by rw[e];exact vC s pos n k c,by rw[e];exact yF s pos n k c,?_,?_,?_⟩
 ·have:=jR v a;omega
 ·have h:((2:Int)^n-1)%4294967296=((2^n-1:Nat):Int):=by
   have:(2:Int)^n=((2^n:Nat):Int):=by simp
   rw[this];omega
  rw[h,u32_and_nat v (2^n-1) (by omega) (by omega)];congr 1
  exact lF v n
 ·simp
theorem dR(tb:Src)(rb:Nat)(s:ByteArray)(pos n:Nat)(w:af)(h:Rd w tb rb s pos)(z:s.size<=140737488354000)(A:n<=16):
 aH prog 128 #[.pointer (some ⟨rb,0,none⟩),.int .u64 (n:Int)] w fun e w'=>
  ((bZ s n ⟨pos,false⟩).2.dV=false/\pos+n<=8*s.size/\e= .returned (.tuple #[.int .i64 ((bC s pos n:Nat):Int),.nilIface])/\Rd w' tb rb s (pos+n)/\RF tb rb w w')\/
  ((∃T a,e= .returned (.tuple #[.int .i64 0,.iface T (.pointer (some a))])/\dJ tb w' T a ((bZ s n ⟨pos,false⟩).2.dV=true))/\oH w' tb rb s/\RF tb rb w w'):=by
 obtain⟨c,B,h⟩:=h;go_enter func128,ntmps128
 go_wp2_with fail
 go_loopw [6] (fun x wr=> ∃k:Nat,BO wr tb rb s pos k/\(k<8\/k<n+8)/\RF tb rb w wr) (fun _ wr=>24-BU wr rb)
 case atStart=>exact⟨c,h,.inl B,RF.refl _ _ _⟩
 case round=>
  obtain⟨k,l,C,g⟩:=hrel;have o:k<=23:=by omega
  have D:au (BU wr rb=k):=BV l;obtain⟨v,t,q,y,i,h1,h2,E,F,d1,d2,d3,f⟩:=l.cells o;have p:au (v=bC s pos k):=y;have H1:au (pos+k=8*t):=h1;clear y h1 E F;by_cases G:k<n
  ·have r:pos<=8*s.size:=by have:=H1.out;omega
   go_wp2_with fail
   refine(LV tb rb s pos k _ l (by omega) z).mono ?_;rintro e w1 (⟨H,rfl,m,u⟩|⟨⟨T,a,rfl,I⟩,m,u⟩)
   ·clear p H1 i d1 d2 d3 f;have J:au (BU w1 rb=k+8):=BV m;go_wp2_with fail
    go_roundw
    case rel=>exact⟨k+8,m,.inr (by omega),g.trans u⟩
    case measure=>rw[D.out,J.out];omega
   ·clear p H1 i d1 d2 d3 f;go_wp2_with fail
    go_ret2;exact .inr ⟨⟨T,a,rfl,I.imp (fun K=>sQ s n pos r (by omega))⟩,m,g.trans u⟩
  ·have O:=f 1;have P:=f 2;have j:pos+n<=8*s.size:=by have:=H1.out;omega
   clear f;obtain⟨b,d,hb,hd,L,hand,hdiv⟩:=Xh s pos n k v (by omega) A i p.out;have M:au (b=bC s pos n):=hb;have N:au (d=bC s (pos+n) (k-n)):=hd;clear hb hd;go_wp2_with fail
   go_ret2;have R:=l.read n (by omega) (d:Int) ((k:Int)-(n:Int)) (by rw[N.out]) (by omega);exact .inl ⟨by rw[gV s n pos j],j,uP (jo Nat.cast M.out),⟨_,by omega,R.1⟩,g.trans R.2⟩
def Xi(tb:Src)(rb:Nat)(s:ByteArray)(pos n:Nat)(w:af)(x:Int)(v:ay)(w':af):Prop:=
 (pos+n<=8*s.size/\x=((bC s pos n:Nat):Int)/\v= .nilIface/\Rd w' tb rb s (pos+n)/\RF tb rb w w')\/
 (x=0/\(∃T a,v= .iface T (.pointer (some a))/\dJ tb w' T a ((bZ s n ⟨pos,false⟩).2.dV=true))/\oH w' tb rb s/\RF tb rb w w')
theorem PI(tb:Src)(rb:Nat)(s:ByteArray)(pos n:Nat)(w:af)(h:Rd w tb rb s pos)(d:s.size<=140737488354000)(f:n<=16):
 aH prog 128 #[.pointer (some ⟨rb,0,none⟩),.int .u64 (n:Int)] w fun e w'=> ∃x v,e= .returned (.tuple #[.int .i64 x,v])/\Xi tb rb s pos n w x v w':=by
 refine(dR tb rb s pos n w h d f).mono ?_;rintro e w' (⟨j,b,rfl,c,g⟩|⟨⟨T,a,rfl,b⟩,i,c⟩)
 ·exact⟨_,_,rfl,.inl ⟨b,rfl,rfl,c,g⟩⟩
 ·exact⟨_,_,rfl,.inr ⟨rfl,⟨T,a,rfl,b⟩,i,c⟩⟩
theorem Ir(tb:Src)(rb:Nat)(s:ByteArray)(pos:Nat)(w:af)(h:Rd w tb rb s pos):
 aH prog 132 #[.pointer (some ⟨rb,0,none⟩)] w fun e w'=>e= .returned (.tuple #[])/\Rd w' tb rb s ((pos+7)/8*8)/\RF tb rb w w':=by
 obtain⟨c,j,h⟩:=h;obtain⟨v,t,q,b,d,h1,h2,f,g,d1,d2,d3,a⟩:=h.cells (by omega);have k:=a 1;have l:=a 2;have H1:au (pos+c=8*t):=h1;clear a b h1 f g;go_enter func132,ntmps132
 go_wp2_with fail
 go_end0
 have i:(pos+7)/8*8=pos+c:=by have:=H1.out;omega
 rw[i];have R:=h.read c (ah _) 0 0 (by rw[iL];rfl) (by rw[iL];rfl);exact⟨rfl,⟨_,by omega,R.1⟩,R.2⟩
theorem Iu(tb:Src)(rb:Nat)(s:ByteArray)(w:af)(h:oH w tb rb s):
 aH prog 97 #[.pointer (some ⟨rb,0,none⟩)] w fun e w'=>(∃n:Int,e= .returned (.int .i64 n))/\w'=w:=by
 obtain⟨c,t,v,h1,h2,b,d,f,a⟩:=h;have d3:w.cell? ⟨rb,3,none⟩=some (.int .i64 (t:Int)):=by simpa using(cell_of a 3).1
 go_enter func97,ntmps97
 go_wp2_with fail
 go_ret;exact⟨⟨_,rfl⟩,rfl⟩
theorem Jy(tb:Src)(rb:Nat)(s:ByteArray)(w:af)(h:oH w tb rb s)(b:s.size<=140737488354000):
 aH prog 131 #[.pointer (some ⟨rb,0,none⟩)] w fun e w'=>(∃n:Int,e= .returned (.int .i64 n))/\∃n,w'=w.drewN n:=by
 obtain⟨c,t,v,d,h2,f,g,i,a⟩:=h;have d2:w.cell? ⟨rb,2,none⟩=some (.int .u64 (c:Int)):=by simpa using(cell_of a 2).1
 have d3:w.cell? ⟨rb,3,none⟩=some (.int .i64 (t:Int)):=by simpa using(cell_of a 3).1
 go_enter func131,ntmps131
 go_wp2_with fail
 go_quiet (fail)
 go_wp2_with fail
 go_ret;exact⟨⟨_,rfl⟩,_,rfl⟩
end Pr
namespace Er
open Go.RowKit Go.Extern.Stop Go.Stop Go.Extern
set_option maxRecDepth 100000 in
theorem PK(a:bG)(w:af):
 aH prog 40 #[.nilIface,.iface 284 (.pointer (some a))] w fun e w'=>e= .returned (.bool false)/\w'=w:=by
 have heq:=run_eql_iface_nil_left (P:=prog) w 284 (.pointer (some a)) underlying73;go_enter func40,ntmps40
 go_wp2
 go_ret;exact⟨rfl,rfl⟩
end Er
namespace Pr
open Go.RowKit Rf
theorem AX(m:ByteArray)(h:0<m.size):m.toList.isEmpty=false:=by rw[dP,List.isEmpty_eq_false_iff];intro e;have h1:=jo List.length e;rw[Array.length_toList]at h1;have h2:m.data.size=m.size:=rfl;rw[h2]at h1;simp only[List.length_nil]at h1;omega
theorem Ug(m:ByteArray)(h:m.size=0):m.toList.isEmpty=true:=by rw[dP,List.isEmpty_iff];exact gm (by rw[Array.length_toList];exact h)
def ny(w:af)(eb:bG):Prop:=w.cell? ⟨2,0,none⟩=some (.iface 284 (.pointer (some eb)))
theorem ny.over{w w':af}{eb:bG}(h:ny w eb)(e:w'.heap[2]?=w.heap[2]?):ny w' eb:=by unfold ny World.cell? at*;rw[e];exact h
theorem sW(s:ByteArray)(n t:Nat):aF (s.extract n s.size) t=aF s (n+t):=by
 have e:(s.extract n s.size).data.toList=s.data.toList.drop n:=by
  rw[iE,vg,oL];have h1:s.size=s.data.toList.length:=by simp
  rw[h1,<-jm,List.take_length]
 unfold aF;rw[e,ag,ag,gJ]
theorem GN(s:ByteArray)(n p k:Nat):bC (s.extract n s.size) p k=bC s (p+8*n) k:=by
 induction k with
 |zero=>rfl
 |succ k a=>rw[bC,bC,a];unfold LK;rw[sW,show n+(p+k)/8=(p+8*n+k)/8 by omega,show(p+k)%8=(p+8*n+k)%8 by omega]
def Src.shift(S:Src)(n:Nat)(s:ByteArray):Src:={S with z:=S.z+n,K:=fun w a t=>a=s.extract n s.size/\n<=s.size/\S.K w s (n+t)}
theorem Src.Xj{S:Src}(n:Nat)(s:ByteArray)(g:S.z+n<=16)(h:S.Ok):(S.shift n s).Ok where
 ng:=h.ng
 zn:=g
 low:=h.low
 ke:=fun⟨_,_,k⟩=>h.ke k
 Sl:=h.Sl
 iq:=fun⟨a,b,k⟩ e=>⟨a,b,h.iq k e⟩
 pg:=h.pg
 hb:=h.hb
 PG:=fun w i t ⟨a,b,k⟩ j=>by
  subst a;rw[oG]at j;refine(h.PG w s (n+t) k (by omega)).mono ?_;rintro e w' (⟨rfl,c,d⟩|⟨x,T,a,rfl,c,d,f,l⟩)
  ·exact .inl ⟨by rw[sW],⟨rfl,b,c⟩,d⟩
  ·exact .inr ⟨x,T,a,rfl,c,d,f,l⟩
 wE:=fun w i ⟨a,b,k⟩=>by subst a;rw[oG,show n+(s.size-n)=s.size by omega]at k;refine(h.wE w s k).mono ?_;rintro e w' ⟨x,T,a,rfl,c,d,f⟩;exact⟨x,T,a,rfl,c,d,f⟩
theorem Rd.aaO{S:Src}{rb:Nat}{s:ByteArray}{w:af}(n:Nat)(d:S.z+n<=16)(e:n<=s.size)(h:Rd w S rb s (8*n)):Rd w (S.shift n s) rb (s.extract n s.size) 0:=by
 obtain⟨c,l,t,h1,h2,f,g,i,j⟩:=h;have b:c=0:=by omega
 subst b;have k:t=n:=by omega
 subst k;refine⟨0,by omega,0,rfl,aX _,f,⟨rfl,e,g⟩,Src.Xj _ s d i,?_⟩;rw[j];show _=some (Obj.cells #[.iface S.T (.pointer (some S.a)),.int .u32 ((0:Nat):Int),.int .u64 ((0:Nat):Int),.int .i64 ((0+(S.z+t):Nat):Int)] 218 (0,0));rw[show 0+(S.z+t)=t+S.z by omega];rfl
theorem Rd.Jz{S:Src}{rb:Nat}{s:ByteArray}{w:af}{n p:Nat}(hS:S.Ok)(h:Rd w (S.shift n s) rb (s.extract n s.size) p):Rd w S rb s (p+8*n):=by obtain⟨c,b,t,h1,h2,d,⟨_,g,e⟩,i,f⟩:=h;rw[oG]at h2;refine⟨c,b,n+t,by omega,by omega,d,e,hS,?_⟩;rw[f,GN];show some (Obj.cells #[.iface S.T (.pointer (some S.a)),.int .u32 ((bC s (p+8*n) c:Nat):Int),.int .u64 (c:Int),.int .i64 ((t+(S.z+n):Nat):Int)] 218 (0,0))=_;rw[show t+(S.z+n)=n+t+S.z by omega]
theorem oH.Jz{S:Src}{rb:Nat}{s:ByteArray}{w:af}{n:Nat}(e:n<=s.size)(hS:S.Ok)(h:oH w (S.shift n s) rb (s.extract n s.size)):oH w S rb s:=by obtain⟨c,t,v,h1,h2,a,b,f,d⟩:=h;rw[oG]at h2;exact⟨c,t,v,h1,by omega,a,b,hS,d⟩
structure Src.acp(S:Src)(fe:FuncId)(done:ByteArray->Prop)(KD:af->Prop):Prop where
 adt:∀v w,(Go.method 417 S.T v "NoMore").run prog w= .ok (fe,v) w
 body:∀args w,(callFunc fe args).run prog w= .ok (.enter fe args) w
 ok:∀(w:af) (s:ByteArray),S.K w s s.size->done s->
  aH prog fe #[.pointer (some S.a)] w fun e w'=>(e= .returned .nilIface/\KD w'/\S.KE w'/\Fr S.F w w')\/(∃T a,e= .returned (.iface T (.pointer (some a)))/\sV S.fb w' T a/\S.rP/\S.KE w'/\Fr S.F w w')
 dV:∀(w:af) (s:ByteArray) (t:Nat),S.K w s t->t<s.size\/(t=s.size/\¬done s)->
  aH prog fe #[.pointer (some S.a)] w fun e w'=>∃T a,e= .returned (.iface T (.pointer (some a)))/\dJ S w' T a True/\S.KE w'/\Fr S.F w w'
end Pr
end Go.Proofs.YtephkcdbnogdhabGreatDoor
