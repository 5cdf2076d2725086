import Derived.Test.YtephkcdbnogdhabGreatDoorM6
import Derived.Test.YtephkcdbnogdhabGreatDoorM10
set_option linter.unusedVariables false
set_option maxHeartbeats 40000000
set_option maxRecDepth 10000
namespace Go.Proofs.YtephkcdbnogdhabGreatDoor
open Go.Proofs.Tryz
open Go renaming World->af,Value->ay,Calls->aH,TypeId->aW,Addr->bG
open Go.RowKit renaming Hid->au,Below->aA,intOf->bH
namespace Pr
open Go.RowKit Rf
theorem uC(v:ay)(w:af):(Go.method 417 68 v "NextByte").run prog w= .ok (188,v) w:=by kernel_rfl
structure Ce where
 gb:Nat
 sb:Nat
 base:Nat
 b:ByteArray
 sl:ay
 L:List Int
 eb:bG
 fb:bG
 lb:bG
structure Dp(D:Ce)(w:af)(t k:Nat):Prop where
 g:w.heap[D.gb]?=some (JE D.sb t)
 s:w.heap[D.sb]?=some (zq (D.b.extract t D.b.size) D.sl k)
 scr:gq w D.base D.sl D.L
 pI:ja w D.eb D.fb D.lb D.base
 ad5:t<=D.b.size
 acP:k<=D.L.length
 bs:D.base<=D.sb
 bg:D.base<=D.gb
 zn:D.b.size<=140737488354000
structure Xy(D:Ce)(w:af):Prop where
 g:∃t,w.heap[D.gb]?=some (JE D.sb t)
 s:∃r k,w.heap[D.sb]?=some (zq r D.sl k)
 pI:ja w D.eb D.fb D.lb D.base
 bs:D.base<=D.sb
 bg:D.base<=D.gb
def Ce.F(D:Ce)(k:Nat):Prop:=k=D.sb\/k=D.gb
theorem Dp.e{D:Ce}{w:af}{t k:Nat}(h:Dp D w t k):Xy D w:=⟨⟨t,h.g⟩,⟨_,k,h.s⟩,h.pI,h.bs,h.bg⟩
theorem Dp.over{D:Ce}{w w':af}{t k:Nat}(h:Dp D w t k)(e:∀i,D.F i\/i<D.base->w'.heap[i]?=w.heap[i]?):Dp D w' t k:=
 ⟨(e _ (.inl (.inr rfl))).trans h.g,(e _ (.inl (.inl rfl))).trans h.s,h.scr.over (fun i hi=>e i (.inr hi)),h.pI.over (fun i hi=>e i (.inr hi)),h.ad5,h.acP,h.bs,h.bg,h.zn⟩
theorem Xy.over{D:Ce}{w w':af}(h:Xy D w)(e:∀i,D.F i\/i<D.base->w'.heap[i]?=w.heap[i]?):Xy D w':=by obtain⟨⟨t,h1⟩,⟨r,k,h2⟩,a,b,c⟩:=h;exact⟨⟨t,(e _ (.inl (.inr rfl))).trans h1⟩,⟨r,k,(e _ (.inl (.inl rfl))).trans h2⟩,a.over (fun i hi=>e i (.inr hi)),b,c⟩
theorem Dp.ne{D:Ce}{w:af}{t k:Nat}(h:Dp D w t k):D.gb≠D.sb:=fM h.g h.s (by decide)
theorem Dp.lt{D:Ce}{w:af}{t k:Nat}(h:Dp D w t k):D.base<=w.heap.size:=by have:=ak h.s;have:=h.bs;omega
theorem IB(D:Ce)(t k:Nat)(w:af)(h:Dp D w t k)(y:t<D.b.size):
 aH prog 188 #[.pointer (some ⟨D.gb,0,none⟩)] w fun e w'=>
  (∃f,qA D.L 101 k=some f/\e= .returned (.tuple #[.int .u8 ((aF D.b t:Nat):Int),.nilIface])/\Dp D w' (t+1) f/\Fr D.F w w')\/
  (qA D.L 101 k=none/\(∃T a,e= .returned (.tuple #[.int .u8 0,.iface T (.pointer (some a))])/\sV D.fb w' T a)/\Xy D w'/\Fr D.F w w'):=by
 have j:=h.ne;have z:=h.lt;have r:=h.pI.ng;have l:(D.b.extract t D.b.size).size=D.b.size-t:=oG D.b t;have v:=aa3 D.gb D.sb D.base D.fb (D.b.extract t D.b.size) D.sl D.L k t w h.g h.s (by rw[l];omega) (by rw[l];have:=h.zn;omega) h.scr h.acP h.bs h.pI.fa r;have A:au (aF (D.b.extract t D.b.size) 0=aF D.b t):=(sW D.b t 0:_=_);have B:au ((D.b.extract t D.b.size).extract 1 (D.b.extract t D.b.size).size=D.b.extract (t+1) D.b.size):=(Ue D.b t y:_=_);have C:t<=140737488354000:=by have:=h.zn;omega
 clear l;generalize D.b.extract t D.b.size=rest at*;go_enter func188,ntmps188
 go_wp2_with fail
 refine v.mono ?_;clear v;rintro e w1 (⟨f,m,rfl,o,p⟩|⟨m,⟨T,a,rfl,o⟩,⟨f,p⟩,x⟩)
 ·have c:w1.heap[D.gb]?=some (JE D.sb t):=(p.block D.gb (ak h.g) j).trans h.g;have c1:w1.cell? ⟨D.gb,1,none⟩=some (.int .i64 (t:Int)):=by simpa using(cell_of c 1).1
  have H:=(cell_of c 1).2;have q:au _:=m;have E:au _:=bF c 1 (.int .i64 ((t:Int)+1));clear m;go_wp2_with fail
  go_ret2;have hF:Fr D.F w (w1.setCell ⟨D.gb,1,none⟩ (.int .i64 ((t:Int)+1))):=(p.mono (fun b hb=> .inl hb)).set D.gb 1 (.inr rfl) _;have d:∀i,i<D.base->(w1.setCell ⟨D.gb,1,none⟩ (.int .i64 ((t:Int)+1))).heap[i]?=w.heap[i]?:=fun i hi=>hF.block i (by omega) (fun e=>by have:=h.bs;have:=h.bg;rcases e with e|e<;>omega);refine .inl ⟨f,q.out,uP (jo Nat.cast A.out),⟨E.out.trans (by simp[JE]),(aC 1 _ (rG j)).trans (o.trans (by rw[B.out])),h.scr.over d,h.pI.over d,by omega,aa0 D.L 101 k f h.acP q.out,h.bs,h.bg,h.zn⟩,hF⟩
 ·have c:w1.heap[D.gb]?=some (JE D.sb t):=(x.block D.gb (ak h.g) j).trans h.g;have c1:w1.cell? ⟨D.gb,1,none⟩=some (.int .i64 (t:Int)):=by simpa using(cell_of c 1).1
  have q:au _:=m;clear m;have hF:Fr D.F w w1:=x.mono (fun b hb=> .inl hb);have d:∀i,i<D.base->w1.heap[i]?=w.heap[i]?:=fun i hi=>hF.block i (by omega) (fun e=>by have:=h.bs;have:=h.bg;rcases e with e|e<;>omega);have u:Xy D w1:=⟨⟨t,c⟩,⟨_,f,p⟩,h.pI.over d,h.bs,h.bg⟩;have G:=hF.size;go_wp2_with fail
  refine(at_one _ _ _ _ _).mono ?_;rintro e w3 ⟨rfl,rfl⟩;go_wp2_with fail
  go_ret2;obtain⟨n,o⟩:=o;refine .inr ⟨q.out,⟨_,_,rfl,n+1,o.place _ _⟩,u.over (fun i hi=>ai _ _ i ?_),hF.alloc _⟩;rcases hi with hi|hi
  ·rcases hi with rfl|rfl
   ·exact ak p
   ·exact ak c
  ·omega
theorem IC(D:Ce)(k:Nat)(w:af)(h:Dp D w D.b.size k):
 aH prog 188 #[.pointer (some ⟨D.gb,0,none⟩)] w fun e w'=>
  (∃T a,e= .returned (.tuple #[.int .u8 0,.iface T (.pointer (some a))])/\o_ (Er.QE D.eb) w' 1 T a)/\Dp D w' D.b.size k/\Fr D.F w w':=by
 have l:=h.lt;have d:(D.b.extract D.b.size D.b.size).size=0:=by rw[oG];omega
 have f:=aa4 D.gb D.sb D.eb (D.b.extract D.b.size D.b.size) D.sl k D.b.size w h.g h.s d h.pI.en;have c1:w.cell? ⟨D.gb,1,none⟩=some (.int .i64 (D.b.size:Int)):=by simpa using(cell_of h.g 1).1
 clear d;go_enter func188,ntmps188
 go_wp2_with fail
 refine f.mono ?_;clear f;rintro e w1 ⟨rfl,nq,hw⟩;have m:w1.cell? ⟨D.gb,1,none⟩=some (.int .i64 (D.b.size:Int)):=by rw[hw];exact c1
 have c:Dp D w1 D.b.size k:=by rw[hw];exact h.over (fun _ _=>rfl)
 have hF:Fr D.F w w1:=by rw[hw];exact(Fr.refl _ w).drewN nq
 have j:w1.heap.size=w.heap.size:=by rw[hw];rfl
 have n:au _:=j;clear hw c1 j;go_wp2_with fail
 refine(at_one _ _ _ _ _).mono ?_;rintro e w3 ⟨rfl,rfl⟩;go_wp2_with fail
 go_ret2;refine⟨⟨_,_,rfl,o_.place (show o_ (Er.QE D.eb) w1 0 284 D.eb from⟨rfl,rfl⟩) _ _⟩,c.over (fun i hi=>ai _ _ i ?_),hF.alloc _⟩;rcases hi with hi|hi
 ·rcases hi with rfl|rfl
  ·exact ak c.s
  ·exact ak c.g
 ·have:=n.out;omega
theorem Uu(D:Ce)(t k:Nat)(w:af)(h:Dp D w t k)(m:t<D.b.size):
 aH prog 101 #[.iface 68 (.pointer (some ⟨D.gb,0,none⟩))] w fun e w'=>
  (∃i,qA D.L 101 k=some i/\e= .returned (.tuple #[.int .u8 ((aF D.b t:Nat):Int),.nilIface])/\Dp D w' (t+1) i/\Fr D.F w w')\/
  (qA D.L 101 k=none/\(∃T a,e= .returned (.tuple #[.int .u8 0,.iface T (.pointer (some a))])/\sV D.fb w' T a)/\Xy D w'/\Fr D.F w w'):=by
 have hm:=uC;have c:=IB D t k w h m;generalize aF D.b t=x at*;go_enter func101,ntmps101
 go_wp2_with fail
 refine c.mono ?_;clear c;rintro e w1 (⟨i,d,rfl,f,g⟩|⟨d,⟨T,a,rfl,n,f⟩,g,o⟩)
 ·have j:=f.pI.en;have l:au _:=d;clear d;unfold ny at j;go_wp2_with fail
  refine(Er.PK _ _).mono ?_;rintro e w2 ⟨rfl,hw⟩;have hw:=hw.symm;subst hw;go_wp2_with fail
  go_ret2;exact .inl ⟨i,l.out,rfl,f,g⟩
 ·have j:=g.pI.en;have c:=g.pI.Xv n T a f;have l:au _:=d;clear d;unfold ny at j;go_wp2_with fail
  refine c.mono ?_;rintro e w2 ⟨rfl,hw⟩;have hw:=hw.symm;subst hw;clear c;go_wp2_with fail
  go_ret2;exact .inr ⟨l.out,⟨T,a,rfl,n,f⟩,g,o⟩
theorem Ce.grow{D:Ce}{w w':af}{t k:Nat}(h:Dp D w t k)(hb:∀i,i<w.heap.size->w'.heap[i]?=w.heap[i]?):Dp D w' t k:=h.over (fun i hi=>hb i (by
 rcases hi with hi|hi
 ·rcases hi with rfl|rfl
  ·exact ak h.s
  ·exact ak h.g
 ·have:=h.lt;omega))
theorem Uw(D:Ce)(k:Nat)(w:af)(h:Dp D w D.b.size k):
 aH prog 101 #[.iface 68 (.pointer (some ⟨D.gb,0,none⟩))] w fun e w'=>
  (∃T a,e= .returned (.tuple #[.int .u8 0,.iface T (.pointer (some a))])/\iQ w' T a)/\Dp D w' D.b.size k/\Fr D.F w w':=by
 have hm:=uC;have c:=IC D k w h;go_enter func101,ntmps101
 go_wp2_with fail
 refine c.mono ?_;clear c;rintro e w1 ⟨⟨T,a,rfl,f⟩,d,g⟩;have j:=d.pI.en;have c:=d.pI.acu 1 T a f;unfold ny at j;clear f;go_wp2_with fail
 refine c.mono ?_;rintro e w2 ⟨rfl,hw⟩;have hw:=hw.symm;subst hw;clear c;go_wp2_with fail
 refine(cZ _ _).mono ?_;rintro e w3 ⟨rfl,rfl⟩;go_wp2_with fail
 go_ret2;exact⟨⟨_,_,rfl,iQ.mk _ _⟩,Ce.grow d (fun i hi=>ai _ _ i hi),g.alloc _⟩
theorem Ux(D:Ce)(t k:Nat)(w:af)(h:Dp D w t k)(j:t<D.b.size):
 aH prog 100 #[.iface 68 (.pointer (some ⟨D.gb,0,none⟩))] w fun e w'=>
  (∃T a,e= .returned (.iface T (.pointer (some a)))/\(iQ w' T a\/(sV D.fb w' T a/\qA D.L 101 k=none)))/\Xy D w'/\Fr D.F w w':=by
 have hm:=uC;have c:=IB D t k w h j;generalize aF D.b t=x at*;go_enter func100,ntmps100
 go_wp2_with fail
 refine c.mono ?_;clear c;rintro e w1 (⟨p,f,rfl,g,d⟩|⟨f,⟨T,a,rfl,n,g⟩,d,l⟩)
 ·clear f;go_wp2_with fail
  refine(cZ _ _).mono ?_;rintro e w3 ⟨rfl,rfl⟩;go_wp2_with fail
  go_ret;exact⟨⟨_,_,rfl,.inl (iQ.mk _ _)⟩,(Ce.grow g (fun i hi=>ai _ _ i hi)).e,d.alloc _⟩
 ·have m:=d.pI.en;have c:=d.pI.Xv n T a g;have o:au _:=f;clear f;unfold ny at m;go_wp2_with fail
  refine c.mono ?_;rintro e w2 ⟨rfl,hw⟩;have hw:=hw.symm;subst hw;clear c;go_wp2_with fail
  go_ret;exact⟨⟨T,a,rfl,.inr ⟨⟨n,g⟩,o.out⟩⟩,d,l⟩
theorem Uy(D:Ce)(k:Nat)(w:af)(h:Dp D w D.b.size k):
 aH prog 100 #[.iface 68 (.pointer (some ⟨D.gb,0,none⟩))] w fun e w'=>e= .returned .nilIface/\Dp D w' D.b.size k/\Fr D.F w w':=by
 have hm:=uC;have c:=IC D k w h;go_enter func100,ntmps100
 go_wp2_with fail
 refine c.mono ?_;clear c;rintro e w1 ⟨⟨T,a,rfl,f⟩,d,g⟩;have i:=d.pI.en;have c:=d.pI.acu 1 T a f;unfold ny at i;clear f;go_wp2_with fail
 refine c.mono ?_;rintro e w2 ⟨rfl,hw⟩;have hw:=hw.symm;subst hw;clear c;go_wp2_with fail
 go_ret;exact⟨rfl,d,g⟩
def xK(D:Ce)(s:ByteArray):Prop:=s=D.b\/∃t,t<s.size/\t<D.b.size/\nY D.L (t+1)=none/\∀i,i<t->aF s i=aF D.b i
def uD(D:Ce)(c:ByteArray):Src where
 T:=68
 a:=⟨D.gb,0,none⟩
 base:=D.base
 F:=D.F
 z:=0
 K:=fun w s t=>s=c/\∃k,nY D.L t=some k/\Dp D w t k
 KE:=Xy D
 rP:=∃t,t<D.b.size/\nY D.L (t+1)=none
 fb:=D.fb
theorem xK.lt{D:Ce}{s:ByteArray}(h:xK D s){t k:Nat}(hp:nY D.L t=some k)(i:t<s.size):t<D.b.size/\(∀d,nY D.L (t+1)=some d->aF s t=aF D.b t):=by
 rcases h with rfl|⟨a,h1,h2,f,j⟩
 ·exact⟨i,fun _ _=>rfl⟩
 ·have hle:¬a+1<=t:=fun hle=>by
   have:=IA D.L (a+1) (t-(a+1)) f;rw[show a+1+(t-(a+1))=t by omega,hp]at this;cases this
  refine⟨by omega,fun d c=>j t ?_⟩;rcases bW t a with g|g
  ·exact g
  ·have e:t=a:=by omega
   subst e;rw[f]at c;cases c
theorem xK.end{D:Ce}{s:ByteArray}(h:xK D s){k:Nat}(hp:nY D.L s.size=some k):s=D.b:=by
 rcases h with rfl|⟨a,h1,h2,c,d⟩
 ·rfl
 ·have:=IA D.L (a+1) (s.size-(a+1)) c;rw[show a+1+(s.size-(a+1))=s.size by omega,hp]at this;cases this
theorem Cf{L:List Int}{t k:Nat}(h:nY L t=some k):nY L (t+1)=qA L 101 k:=by rw[nY,h];rfl
theorem Xz(D:Ce)(n:ByteArray)(o:xK D n)(g:7<=D.base)(q:D.base<=D.sb)(u:D.base<=D.gb):(uD D n).Ok where
 ng:=g
 zn:=aX _
 low:=fun k i=>by rcases i with rfl|rfl<;>assumption
 ke:=fun⟨_,k,_,h⟩=>h.e
 Sl:=fun⟨⟨t,h1⟩,⟨r,k,h2⟩,_,_,_⟩ i=>by
  rcases i with rfl|rfl
  ·exact⟨_,_,_,h2,by decide⟩
  ·exact⟨_,_,_,h1,by decide⟩
 iq:=fun⟨a,k,b,c⟩ e=>⟨a,k,b,c.over e⟩
 pg:=fun h e=>h.over e
 hb:=fun⟨_,⟨r,k,h2⟩,_,x,_⟩=>by have:=ak h2;show D.base<=_;omega
 PG:=fun w s t ⟨a,k,b,c⟩ v=>by
  subst a;obtain⟨h1,h2⟩:=o.lt b v;refine(Uu D t k w c h1).mono ?_;rintro e w' (⟨j,l,rfl,d,f⟩|⟨l,⟨T,a,rfl,d⟩,f,m⟩)
  ·have p:nY D.L (t+1)=some j:=(Cf b).trans l;exact .inl ⟨by rw[h2 j p],⟨rfl,j,p,d⟩,f⟩
  ·exact .inr ⟨_,T,a,rfl,d,⟨t,h1,(Cf b).trans l⟩,f,m⟩
 wE:=fun w s ⟨a,k,b,c⟩=>by subst a;have e:=o.end b;subst e;refine(Uw D k w c).mono ?_;rintro e w' ⟨⟨T,a,rfl,d⟩,f,m⟩;exact⟨_,T,a,rfl,.inl ⟨d,trivial⟩,f.e,m⟩
theorem PW(D:Ce)(d:ByteArray)(j:xK D d)(w:af)(t:Nat)(hK:(uD D d).K w d t)(n:t<=d.size):
 aH prog 100 #[.iface 68 (.pointer (some ⟨D.gb,0,none⟩))] w fun e w'=>
  ((t=d.size/\d=D.b/\(∃k,nY D.L t=some k))/\e= .returned .nilIface/\Xy D w'/\Fr D.F w w')\/
  ((∃T a,e= .returned (.iface T (.pointer (some a)))/\dJ (uD D d) w' T a (t<d.size))/\Xy D w'/\Fr D.F w w'):=by
 obtain⟨_,k,b,c⟩:=hK;by_cases h:t<d.size
 ·obtain⟨h1,h2⟩:=j.lt b h;refine(Ux D t k w c h1).mono ?_;rintro e w' ⟨⟨T,a,rfl,l⟩,f,i⟩;exact .inr ⟨⟨T,a,rfl,l.imp (fun g=>⟨g,h⟩) (fun g=>⟨g.1,t,h1,(Cf b).trans g.2⟩)⟩,f,i⟩
 ·have e:t=d.size:=by omega
  subst e;have e:=j.end b;have m:Dp D w D.b.size k:=by rw[<-e];exact c
  refine(Uy D k w m).mono ?_;rintro o w' ⟨rfl,f,i⟩;exact .inl ⟨⟨rfl,e,k,b⟩,rfl,f.e,i⟩
end Pr
namespace gI
open Rf
theorem fK(s:ByteArray)(i n:Nat)(h:i+n<=s.size):(cut s i n).length=n:=by
 unfold cut;rw[eH,jm];have:s.data.toList.length=s.size:=by simp
 omega
theorem dZ(s:ByteArray)(i:Nat):cut s i 0=[]:=by simp[cut]
theorem gy(s:ByteArray)(i n:Nat)(h:i+n<s.size):cut s i (n+1)=cut s i n++[s[i+n]]:=by
 unfold cut;rw[dN (by rw[jm];have:s.data.toList.length=s.size:=(by simp);omega)];congr 2
 rw[List.getElem_drop];rfl
theorem gW(s:ByteArray)(i n:Nat)(h:i<s.size):cut s i (n+1)=s[i]::cut s (i+1) n:=by unfold cut;rw[kX (by simpa using h),List.take_succ_cons];rfl
theorem h_(s:ByteArray)(i m n:Nat):cut s i (m+n)=cut s i m++cut s (i+m) n:=by unfold cut;rw[List.take_add,List.drop_drop]
def bQ(n:Nat):List UInt8:=[UInt8.ofNat (n/16777216),UInt8.ofNat (n/65536),UInt8.ofNat (n/256),UInt8.ofNat n]
theorem fO(l:List UInt8):gQ l<4294967296:=by unfold gQ;omega
end gI
namespace Pr
open Go.RowKit Rf Cr
open gI (cut fK dZ gy gW h_ bQ gQ fO)
def aa9(w:af)(b:Nat)(l:List UInt8):Prop:=∀i,i<l.length->w.cell? ⟨b,i,none⟩=some (.int .u8 (((l.getD i 0).toNat:Nat):Int))
theorem adB(w:af)(b cap:Nat)(l:List UInt8)(h:aa9 w b l):(convert 39 9 (.slice (some ⟨b,0,none⟩) l.length cap)).run prog w= .ok (.string ⟨l.toArray⟩) w:=by
 have h1:=run_convert_bytes_arg (P:=prog) w 39 5 underlying39 underlying5 b 0 l.length cap (l.map fun x=>((x.toNat:Nat):Int)) (by simp) (fun i hi=>by rw[fQ,h i hi];simp[List.getD,List.getElem?_eq_getElem hi]) 9 underlying9
 rw[h1];have:strOfNums (l.map fun x=>((x.toNat:Nat):Int))=⟨l.toArray⟩:=by unfold strOfNums;simp[List.map_map,Function.comp_def]
 rw[this]
theorem UF(n:Nat)(w:af)(a:n<4294967296):(convert 39 9 (.slice (some ⟨w.heap.size,0,none⟩) 4 4)).run prog (w.alloc (.cells #[.int .u8 ((n:Int)/16777216),.int .u8 ((n:Int)/65536%256),.int .u8 ((n:Int)/256%256),.int .u8 ((n:Int)%256)] 5))= .ok (.string ⟨(bQ n).toArray⟩) (w.alloc (.cells #[.int .u8 ((n:Int)/16777216),.int .u8 ((n:Int)/65536%256),.int .u8 ((n:Int)/256%256),.int .u8 ((n:Int)%256)] 5)):=
 adB _ _ 4 (bQ n) (fun i hi=>by
  have hi:i<4:=hi;have:=nU w #[.int .u8 ((n:Int)/16777216),.int .u8 ((n:Int)/65536%256),.int .u8 ((n:Int)/256%256),.int .u8 ((n:Int)%256)] 5 (0,0) i;refine this.trans ?_;rcases(by omega:i=0\/i=1\/i=2\/i=3)with rfl|rfl|rfl|rfl
  ·show some (Value.int .u8 ((n:Int)/16777216))=some (.int .u8 (((UInt8.ofNat (n/16777216)).toNat:Nat):Int));rw[dB,show((n:Int)/16777216:Int)=((n/16777216%2^8:Nat):Int)by omega]
  ·show some (Value.int .u8 ((n:Int)/65536%256))=some (.int .u8 (((UInt8.ofNat (n/65536)).toNat:Nat):Int));rw[dB,show((n:Int)/65536%256:Int)=((n/65536%2^8:Nat):Int)by omega]
  ·show some (Value.int .u8 ((n:Int)/256%256))=some (.int .u8 (((UInt8.ofNat (n/256)).toNat:Nat):Int));rw[dB,show((n:Int)/256%256:Int)=((n/256%2^8:Nat):Int)by omega]
  ·show some (Value.int .u8 ((n:Int)%256))=some (.int .u8 (((UInt8.ofNat (n)).toNat:Nat):Int));rw[dB,show((n:Int)%256:Int)=((n%2^8:Nat):Int)by omega])
theorem zH(n:Nat)(w:af)(a:n<4294967296):
 aH prog 80 #[.int .u32 (n:Int)] w fun e w'=>e= .returned (.string ⟨(bQ n).toArray⟩)/\aA w.heap.size w w':=by
 have b:=UF n w a;go_enter func80,ntmps80
 go_wp2_with fail
 go_ret;exact⟨rfl,(aV _ _).alloc (ah _) _⟩
def MC(S:Src)(num:Int)(name:ByteArray)(left sum:Nat):Obj:= .cells #[.iface S.T (.pointer (some S.a)),.int .i64 num,.string name,.int .i64 (left:Int),.int .u32 (sum:Int)] 99 (0,0)
structure CR(S:Src)(cb:Nat)(s:ByteArray)(w:af)(p:Nat)(name:ByteArray)(left:Nat)(l:List UInt8):Prop where
 oD:∃num,w.heap[cb]?=some (MC S num name left (gQ l))
 k:S.K w s p
 le:p<=s.size
 ok:S.Ok
 base:S.base<=cb
 no:¬S.F cb
 tab:Ci w
 lf:left<=2147483647
structure mP(S:Src)(cb:Nat)(w:af):Prop where
 oD:∃num name left sum,w.heap[cb]?=some (MC S num name left sum)
 k:S.KE w
 ok:S.Ok
 base:S.base<=cb
 no:¬S.F cb
def jc(S:Src)(cb:Nat)(k:Nat):Prop:=S.F k\/k=cb
theorem CR.e{S:Src}{cb:Nat}{s:ByteArray}{w:af}{p left:Nat}{name:ByteArray}{l:List UInt8}(h:CR S cb s w p name left l):mP S cb w:=by obtain⟨num,h1⟩:=h.oD;exact⟨⟨num,_,_,_,h1⟩,h.ok.ke h.k,h.ok,h.base,h.no⟩
theorem wI{w w':af}{base:Nat}(h:Ci w)(hb:7<=base)(e:∀k,k<base->w'.heap[k]?=w.heap[k]?):Ci w':=fun i hi=>(aQ (e _ (by omega))).trans (h i hi)
theorem CR.over{S:Src}{cb:Nat}{s:ByteArray}{w w':af}{p left:Nat}{name:ByteArray}{l:List UInt8}(h:CR S cb s w p name left l)(e:∀k,jc S cb k\/k<S.base->w'.heap[k]?=w.heap[k]?):CR S cb s w' p name left l:=by obtain⟨num,h1⟩:=h.oD;exact⟨⟨num,(e _ (.inl (.inr rfl))).trans h1⟩,h.ok.iq h.k (fun k a=>e k (a.imp .inl id)),h.le,h.ok,h.base,h.no,wI h.tab h.ok.ng (fun k a=>e k (.inr a)),h.lf⟩
theorem mP.over{S:Src}{cb:Nat}{w w':af}(h:mP S cb w)(e:∀k,jc S cb k\/k<S.base->w'.heap[k]?=w.heap[k]?):mP S cb w':=by obtain⟨num,a,b,c,h1⟩:=h.oD;exact⟨⟨num,a,b,c,(e _ (.inl (.inr rfl))).trans h1⟩,h.ok.pg h.k (fun k d=>e k (d.imp .inl id)),h.ok,h.base,h.no⟩
theorem mP.lt{S:Src}{cb:Nat}{w:af}(h:mP S cb w):(∀k,jc S cb k\/k<S.base->k<w.heap.size)/\S.base<=w.heap.size:=by
 obtain⟨num,a,b,c,h1⟩:=h.oD;have:=ak h1;have hb:=h.base;refine⟨fun k d=> ?_,by omega⟩;rcases d with(d|rfl)|d
 ·exact h.ok.lt h.k d
 ·exact this
 ·omega
theorem CR.grow{S:Src}{cb:Nat}{s:ByteArray}{w w':af}{p left:Nat}{name:ByteArray}{l:List UInt8}(h:CR S cb s w p name left l)(e:∀k,k<w.heap.size->w'.heap[k]?=w.heap[k]?):CR S cb s w' p name left l:=h.over (fun k a=>e k (h.e.lt.1 k a))
theorem mP.grow{S:Src}{cb:Nat}{w w':af}(h:mP S cb w)(e:∀k,k<w.heap.size->w'.heap[k]?=w.heap[k]?):mP S cb w':=h.over (fun k a=>e k (h.lt.1 k a))
theorem CR.src{S:Src}{cb:Nat}{s:ByteArray}{w w':af}{p a left:Nat}{name:ByteArray}{l:List UInt8}(h:CR S cb s w p name left l)(b:S.K w' s a)(hp:a<=s.size)(c:Fr S.F w w'):CR S cb s w' a name left l:=by obtain⟨num,h1⟩:=h.oD;have hb:=h.e.lt.2;exact⟨⟨num,(c.block cb (ak h1) h.no).trans h1⟩,b,hp,h.ok,h.base,h.no,wI h.tab h.ok.ng (fun k b=>c.block k (by omega) (fun e=>by have:=h.ok.low k e;omega)),h.lf⟩
theorem CR.MF{S:Src}{cb:Nat}{s:ByteArray}{w w':af}{p left:Nat}{name:ByteArray}{l:List UInt8}(h:CR S cb s w p name left l)(a:S.KE w')(b:Fr S.F w w'):mP S cb w':=by obtain⟨num,h1⟩:=h.oD;exact⟨⟨num,_,_,_,(b.block cb (ak h1) h.no).trans h1⟩,a,h.ok,h.base,h.no⟩
theorem CR.cells{S:Src}{cb:Nat}{s:ByteArray}{w:af}{p left:Nat}{name:ByteArray}{l:List UInt8}(h:CR S cb s w p name left l):∃num,w.cell? ⟨cb,0,none⟩=some (.iface S.T (.pointer (some S.a)))/\w.cell? ⟨cb,1,none⟩=some (.int .i64 num)/\w.cell? ⟨cb,2,none⟩=some (.string name)/\w.cell? ⟨cb,3,none⟩=some (.int .i64 (left:Int))/\w.cell? ⟨cb,4,none⟩=some (.int .u32 ((gQ l:Nat):Int))/\(∀i,w.frozen? ⟨cb,i,none⟩=false)/\w.heap[cb]?=some (MC S num name left (gQ l)):=by obtain⟨num,h1⟩:=h.oD;exact⟨num,by simpa using(cell_of h1 0).1,by simpa using(cell_of h1 1).1,by simpa using(cell_of h1 2).1,by simpa using(cell_of h1 3).1,by simpa using(cell_of h1 4).1,fun i=>(cell_of h1 i).2,h1⟩
theorem CR.put{S:Src}{cb:Nat}{s:ByteArray}{w w':af}{p left a:Nat}{name b:ByteArray}{l f:List UInt8}(h:CR S cb s w p name left l)(num:Int)(hb:w'.heap[cb]?=some (MC S num b a (gQ f)))(g:a<=2147483647)(e:∀k,k<w.heap.size->k≠cb->w'.heap[k]?=w.heap[k]?):CR S cb s w' p b a f:=by have d:=h.e.lt;have i:=h.base;exact⟨⟨num,hb⟩,h.ok.iq h.k (fun k c=>e k (d.1 k (c.imp .inl id)) (fun j=>c.elim (fun c=>h.no (j▸c)) (fun c=>by omega))),h.le,h.ok,h.base,h.no,wI h.tab h.ok.ng (fun k c=>e k (by omega) (by omega)),g⟩
theorem aa_(l:List UInt8)(b:UInt8):4294967295-xM (GU 4294967295 l) b=gQ (l++[b]):=by
 unfold gQ;rw[EO];have h:=IE ⟨(l++[b]).toArray⟩ l.length (by show l.length<(l++[b]).toArray.size;simp);have a:(⟨(l++[b]).toArray⟩:ByteArray).data.toList=l++[b]:=by simp
 rw[a,dn (by simp),List.take_left]at h;rw[EO]at h;rw[h];have c:(⟨(l++[b]).toArray⟩:ByteArray)[l.length]'(by show l.length<(l++[b]).toArray.size;simp)=b:=by show(l++[b]).toArray[l.length]'(by simp)=b;simp
 rw[c]
theorem uQ(S:Src)(cb:Nat)(s:ByteArray)(w:af)(p left:Nat)(name:ByteArray)(l:List UInt8)(h:CR S cb s w p name (left+1) l):
 aH prog 84 #[.pointer (some ⟨cb,0,none⟩)] w fun e w'=>
  (∃hp:p<s.size,e= .returned (.tuple #[.int .u8 ((aF s p:Nat):Int),.nilIface])/\CR S cb s w' (p+1) name left (l++[s[p]])/\Fr (jc S cb) w w')\/
  ((∃T a,e= .returned (.tuple #[.int .u8 0,.iface T (.pointer (some a))])/\dJ S w' T a (¬p<s.size))/\mP S cb w'/\Fr (jc S cb) w w'):=by
 obtain⟨num,c0,c1,c2,c3,c4,B,f⟩:=h.cells;have v:=h.ok.one w s p h.k h.le;have C:=h.lf;clear B c1 c2 f;go_enter func84,ntmps84
 go_wp2_with fail
 refine v.mono ?_;clear v;rintro e w1 (⟨hp,rfl,q,g⟩|⟨x,T,a,rfl,D,q,g⟩)
 ·have b:=h.src q (by omega) g;obtain⟨i,H,d1,d2,d3,d4,r,c⟩:=b.cells;have I:=r 3;have J:=r 4;have z:aF s p=(s[p]).toNat:=mQ s p hp;have t:GU 4294967295 l<4294967296:=XF l 4294967295 (by decide);have j:=fun x=>wI b.tab b.ok.ng (w':=w1.setCell ⟨cb,3,none⟩ x) (fun k m=>aC 3 x (by have:=b.base;omega));have E:au (∀x,aH prog 42 #[.int .u32 ((gQ l:Nat):Int),.int .u8 ((aF s p:Nat):Int)] (w1.setCell ⟨cb,3,none⟩ x) fun e w'=>e= .returned (.int .u32 ((gQ (l++[s[p]]):Nat):Int))/\w'=w1.setCell ⟨cb,3,none⟩ x):=(fun x=>by
   rw[z,<-aa_];exact ET (gQ l) (GU 4294967295 l) s[p] _ t rfl (j x):∀x,_)
  have n:au (∀x,(w1.setCell ⟨cb,3,none⟩ (.int .i64 (left:Int))).setCell ⟨cb,4,none⟩ (.int .u32 ((gQ (l++[s[p]]):Nat):Int))=x->CR S cb s x (p+1) name left (l++[s[p]])/\Fr (jc S cb) w x):=(fun x F=>by subst F;refine⟨b.put i ?_ (by omega) (fun k m o=>(aC 4 _ o).trans (aC 3 _ o)),(((g.mono (fun k m=> .inl m)).set cb 3 (.inr rfl) _).set cb 4 (.inr rfl) _)⟩;exact(bF (bF c 3 _) 4 _).trans (by simp[MC]):∀x,_)
  clear c0 c3 c4 j d1 d2 r c z;generalize A:aF s p=y at*;have G:au _:=A;clear A;generalize gQ (l++[s[p]])=v2 at*;go_wp2_with fail
  refine(E.out _).mono ?_;rintro e w2 ⟨rfl,rfl⟩;go_wp2_with fail
  go_ret2;have d:=n.out _ rfl;exact .inl ⟨hp,uP (jo Nat.cast G.out.symm),d.1,d.2⟩
 ·have u:=h.MF q g;clear c0 c3 c4;go_wp2_with fail
  go_ret2;exact .inr ⟨⟨T,a,rfl,D⟩,u,g.mono (fun k m=> .inl m)⟩
end Pr
namespace Pr
open Go.RowKit Rf Cr
open gI (cut fK dZ gy gW h_ bQ gQ fO)
def Qe(w:af)(cb:Nat):Nat:=match w.cell? ⟨cb,3,none⟩with
 |some (.int _ n)=>n.toNat
 |_=>0
theorem IM{S:Src}{cb:Nat}{s:ByteArray}{w:af}{p left:Nat}{name:ByteArray}{l:List UInt8}(h:CR S cb s w p name left l):Qe w cb=left:=by obtain⟨num,_,_,_,c3,_⟩:=h.cells;unfold Qe;rw[c3];simp
def jw(s:ByteArray)(p left:Nat)(l:List UInt8):Prop:=Match s (p+left) ⟨(bQ (gQ (l++cut s p left))).toArray⟩
theorem E_(S:Src)(hS:S.Ok)(s x f:ByteArray)(t:Nat)(w:af)(hK:S.K w s t)(g:t<=s.size)(h:x.size<=1000):
 aH prog 79 #[.iface S.T (.pointer (some S.a)),.string x,.string f] w fun e w'=> ∃v:ay,e= .returned v/\
  ((Match s t x/\v= .nilIface/\S.K w' s (t+x.size)/\Fr S.F w w')\/
  ((∃T a,v= .iface T (.pointer (some a))/\dJ S w' T a (¬Match s t x))/\S.KE w'/\Fr S.F w w')):=by
 refine(zV S hS s x f t w hK g h).mono ?_;rintro e w' (⟨a,rfl,b,c⟩|⟨⟨T,a,rfl,b⟩,c,d⟩)
 ·exact⟨_,rfl,.inl ⟨a,rfl,b,c⟩⟩
 ·exact⟨_,rfl,.inr ⟨⟨T,a,rfl,b⟩,c,d⟩⟩
theorem wO(S:Src)(cb:Nat)(s:ByteArray)(w:af)(p left:Nat)(name:ByteArray)(l:List UInt8)(h:CR S cb s w p name left l):
 aH prog 56 #[.pointer (some ⟨cb,0,none⟩)] w fun e w'=>
  (jw s p left l/\e= .returned .nilIface/\CR S cb s w' (p+left+4) name 0 (l++cut s p left)/\Fr (jc S cb) w w')\/
  ((∃T a,e= .returned (.iface T (.pointer (some a)))/\dJ S w' T a (¬jw s p left l))/\mP S cb w'/\Fr (jc S cb) w w'):=by
 have g:au (jw s p left l↔Match s (p+left) ⟨(bQ (gQ (l++cut s p left))).toArray⟩):=Iff.rfl;obtain⟨Q,K⟩:∃Q:Prop,Q=jw s p left l:=⟨_,rfl⟩;rw[<-K]at g|-;clear K;go_enter func56,ntmps56
 go_wp2_with fail
 go_loopw [3] (fun _ wr=> ∃j:Nat,j<=left/\CR S cb s wr (p+j) name (left-j) (l++cut s p j)/\Fr (jc S cb) w wr) (fun _ wr=>Qe wr cb)
 case atStart=>exact⟨0,aX _,by rw[dZ,kU];exact h,Fr.refl _ _⟩
 case round=>
  clear h;obtain⟨j,W,f,hF⟩:=hrel;have z:au _:=IM f;by_cases O:j<left
  ·obtain⟨m,hm⟩:∃m,left-j=m+1:=⟨left-j-1,by omega⟩;have L:au _:=hm;rw[hm]at f;obtain⟨num,c0,c1,c2,c3,c4,A,d⟩:=f.cells;have M:=uQ S cb s wr (p+j) m name _ f;have P:=f.lf;clear hm c0 c1 c2 c4 A d;go_wp2_with fail
   refine M.mono ?_;clear M;rintro e w1 (⟨hp,rfl,u,B⟩|⟨⟨T,a,rfl,x⟩,u,B⟩)
   ·have C:au _:=IM u;have R:au _:=gy s p j hp;clear c3;go_wp2_with fail
    go_roundw
    case rel=>refine⟨j+1,by omega,?_,hF.trans B⟩;rw[R.out,<-bI,show left-(j+1)=m by have:=L.out;omega];exact u
    case measure=>rw[z.out,C.out,L.out];omega
   ·have U:dJ S w1 T a (¬Q):=x.imp (fun x D=>x (by have:=(g.out.1 D).1;omega));clear x c3;go_wp2_with fail
    go_ret;exact .inr ⟨⟨T,a,rfl,U⟩,u,hF.trans B⟩
  ·have e:j=left:=by omega
   subst e;rw[iL]at f;obtain⟨num,c0,c1,c2,c3,c4,A,d⟩:=f.cells;have n:=fO (l++cut s p j);obtain⟨v,E⟩:∃v,v=gQ (l++cut s p j):=⟨_,rfl⟩;rw[<-E]at c4 n;have V:au _:=E;have F:(⟨(bQ v).toArray⟩:ByteArray).size=4:=rfl;clear c1 c2 A d E;have o:au (Q↔Match s (p+j) ⟨(bQ v).toArray⟩):=(by rw[V.out];exact g.out:_↔_);go_wp2_with fail
   have G:CR S cb s wr.drew (p+j) name 0 (l++cut s p j):=f.grow (fun _ _=>rfl)
   go_region_with (first
    |(go_at_call 80;refine(zH v _ n).mono ?_;rintro e w3 ⟨rfl,b⟩;have c:=G.grow (fun k i=>b.block k i);obtain⟨N,X,_,_,_,_,_,_⟩:=c.cells)
    |(go_at_call 79;refine(E_ S c.ok s ⟨(bQ v).toArray⟩ _ (p+j) _ c.k c.le (by rw[F];omega)).mono ?_;rintro e Y ⟨v4,rfl,H⟩))
   all_goals
    go_wp2_with fail
    go_ret;have r:Fr (jc S cb) w w3:=hF.drew.trans ⟨b.os,b.tape,b.output,b.size,fun k i _=>b.block k i⟩;rcases H with⟨y,rfl,I,t⟩|⟨⟨T,a,rfl,y⟩,I,t⟩
    ·have J:=c.src I (by have:=y.1;exact this) t;exact .inl ⟨o.out.2 y,rfl,J,r.trans (t.mono (fun k i=> .inl i))⟩
    ·exact .inr ⟨⟨T,a,rfl,y.imp (fun q D=>q (o.out.1 D))⟩,c.MF I t,r.trans (t.mono (fun k i=> .inl i))⟩
end Pr
namespace Pr
open Go.RowKit Rf Cr
def XU(x:Nat):Bool:=65<=x&&x<=90
def JO(x:Nat):Bool:=97<=x&&x<=122
theorem lu{a b:Bool}(h:a=b):Ending.returned (.bool a)= .returned (.bool b):=by rw[h]
theorem abd(x:Nat)(w:af)(a:x<=255):
 aH prog 103 #[.int .u8 (x:Int)] w fun e w'=>e= .returned (.bool (XU x))/\w'=w:=by
 unfold XU;by_cases h1:65<=x
 ·by_cases h2:x<=90
  ·rw[aZ h1,aZ h2];go_enter func103,ntmps103
   go_wp2
   go_ret;refine⟨lu ?_,rfl⟩;first|rfl|(rw[aZ (by omega)];rfl)|(rw[aS (by omega)];rfl)
  ·rw[aZ h1,aS h2];go_enter func103,ntmps103
   go_wp2
   go_ret;refine⟨lu ?_,rfl⟩;first|rfl|(rw[aZ (by omega)];rfl)|(rw[aS (by omega)];rfl)
 ·rw[aS h1];go_enter func103,ntmps103
  go_wp2
  go_ret;exact⟨rfl,rfl⟩
theorem XV(x:Nat)(w:af)(a:x<=255):
 aH prog 104 #[.int .u8 (x:Int)] w fun e w'=>e= .returned (.bool (JO x))/\w'=w:=by
 unfold JO;by_cases h1:97<=x
 ·by_cases h2:x<=122
  ·rw[aZ h1,aZ h2];go_enter func104,ntmps104
   go_wp2
   go_ret;refine⟨lu ?_,rfl⟩;first|rfl|(rw[aZ (by omega)];rfl)|(rw[aS (by omega)];rfl)
  ·rw[aZ h1,aS h2];go_enter func104,ntmps104
   go_wp2
   go_ret;refine⟨lu ?_,rfl⟩;first|rfl|(rw[aZ (by omega)];rfl)|(rw[aS (by omega)];rfl)
 ·rw[aS h1];go_enter func104,ntmps104
  go_wp2
  go_ret;exact⟨rfl,rfl⟩
theorem Dv(x:ByteArray)(w:af)(h:0<x.size):
 aH prog 87 #[.string x] w fun e w'=>e= .returned (.bool (JO (aF x 0)))/\w'=w:=by
 have a:(x[0]).toNat=aF x 0:=(mQ x 0 h).symm;have hb:=bY x 0;go_enter func87,ntmps87
 go_wp2_with fail
 refine(XV (aF x 0) _ (by omega)).mono ?_;rintro e w' ⟨rfl,rfl⟩;go_wp2
 go_ret;exact⟨rfl,rfl⟩
def preB(x n:ByteArray):Bool:=decide (x.size<=n.size)&&((n.extract 0 x.size).toList==x.toList)
theorem GV(n x:ByteArray)(w:af)(a:n.size<=4)(b:x.size<=4):
 aH prog 105 #[.string n,.string x] w fun e w'=>e= .returned (.bool (preB x n))/\w'=w:=by
 unfold preB;by_cases h:x.size<=n.size
 ·rw[aZ h,Bool.true_and];go_enter func105,ntmps105
  go_wp2
  go_ret;exact⟨rfl,rfl⟩
 ·rw[aS h,Bool.false_and];go_enter func105,ntmps105
  go_wp2
  go_ret;exact⟨rfl,rfl⟩
theorem IP(x:ByteArray)(g:Nat)(a:List ByteArray)(w:af)(l:∀i,i<a.length->w.cell? ⟨g,i,none⟩=some (.string (a.getD i ⟨#[]⟩)))(m:∀i,(a.getD i ⟨#[]⟩).size<=4)(q:a.length<=4)(o:x.size<=4):
 aH prog 88 #[.string x,.slice (some ⟨g,0,none⟩) a.length a.length] w fun e w'=>e= .returned (.bool (a.any (preB x)))/\w'=w:=by
 obtain⟨B,h⟩:∃B,B=a.any (preB x):=⟨_,rfl⟩;rw[<-h];have p:au _:=h;clear h;go_enter func88,ntmps88
 go_wp2_with fail
 go_loop [9] (fun iv=> ∃j:Nat,j<=a.length/\iv= .int .i64 (j:Int)/\B=(a.drop j).any (preB x)) (fun iv=>a.length-(bH iv).toNat)
 case atStart=>exact⟨0,aX _,rfl,p.out⟩
 case round=>
  obtain⟨j,r,rfl,c⟩:=hrel;have d:au _:=c;clear c;by_cases b:j<a.length
  ·have c0:=l j b;have k:=m j;have n:au (B=(preB x (a.getD j ⟨#[]⟩)||(a.drop (j+1)).any (preB x))):=(by
    rw[d.out,kX b,xA];rw[ag,aB b];rfl:_=_)
   generalize a.getD j ⟨#[]⟩=nm at*;clear l m;go_wp2_with fail
   refine(GV nm x _ k o).mono ?_;rintro e w' ⟨rfl,rfl⟩;cases hp:preB x nm with
   |true=>
    have f:au (B=true):=(by rw[n.out,hp];rfl:_=_);go_wp2_with fail
    go_ret;exact⟨lu f.out.symm,rfl⟩
   |false=>
    have f:au (B=(a.drop (j+1)).any (preB x)):=(by rw[n.out,hp];rfl:_=_);go_wp2_with fail
    go_round
    case rel=>exact⟨j+1,by omega,by go_num,f.out⟩
    case measure=>simp[bH];omega
  ·have f:au (B=false):=(by rw[d.out,fU (by omega)];rfl:_=_);go_wp2_with fail
   go_ret;exact⟨lu f.out.symm,rfl⟩
def rD:ByteArray:=⟨#[80,76,84,69]⟩
def fD:ByteArray:=⟨#[73,68,65,84]⟩
def nM:ByteArray:=⟨#[73,69,78,68]⟩
def uI:ByteArray:=⟨#[116,82,78,83]⟩
def qi:ByteArray:=⟨#[73,72,68,82]⟩
def nN(x:ByteArray):Bool:=JO (aF x 0)|| [rD,fD].any (preB x)
def j_(x:ByteArray):Bool:=(JO (aF x 0)&& !(x.toList==uI.toList))|| [nM].any (preB x)
def je(x:ByteArray):Bool:=j_ x|| [fD].any (preB x)
theorem UM(x a b:ByteArray)(w:af)(h0:a.size<=4)(h1:b.size<=4)(c:x.size<=4):
 aH prog 88 #[.string x,.slice (some ⟨w.heap.size,0,none⟩) 2 2] (w.alloc (.cells #[.string a,.string b] 9)) fun e w'=>e= .returned (.bool ([a,b].any (preB x)))/\w'=w.alloc (.cells #[.string a,.string b] 9):=
 IP x w.heap.size [a,b] _ (fun i hi=>by
  have hi:i<2:=hi;refine(nU w #[.string a,.string b] 9 (0,0) i).trans ?_;rcases(by omega:i=0\/i=1)with rfl|rfl<;>rfl) (fun i=>by
  rcases i with _|_|i
  ·exact h0
  ·exact h1
  ·exact aX _) (by simp) c
theorem CO(x a:ByteArray)(w:af)(h0:a.size<=4)(b:x.size<=4):
 aH prog 88 #[.string x,.slice (some ⟨w.heap.size,0,none⟩) 1 1] (w.alloc (.cells #[.string a] 9)) fun e w'=>e= .returned (.bool ([a].any (preB x)))/\w'=w.alloc (.cells #[.string a] 9):=
 IP x w.heap.size [a] _ (fun i hi=>by
  have hi:i<1:=hi;refine(nU w #[.string a] 9 (0,0) i).trans ?_;rcases(by omega:i=0)with rfl;rfl) (fun i=>by
  rcases i with _|i
  ·exact h0
  ·exact aX _) (by simp) b
theorem JP(x:ByteArray)(w:af)(h:0<x.size)(f:x.size<=4):
 aH prog 59 #[.string x] w fun e w'=>e= .returned (.bool (nN x))/\aA w.heap.size w w':=by
 have b:au (nN x=(JO (aF x 0)|| [rD,fD].any (preB x))):=rfl;have c:=UM x rD fD w (by decide) (by decide) f;have d:aA w.heap.size w (w.alloc (.cells #[.string rD,.string fD] 9)):=(aV _ _).alloc (ah _) _;generalize nN x=M at*;generalize [rD,fD].any (preB x)=P at*;unfold rD fD at c d;have hS:=Dv x w h;generalize JO (aF x 0)=s at*;cases s with
 |true=>
  have a:au (M=true):=(by rw[b.out];rfl:_=_);go_enter func59,ntmps59
  go_wp2_with fail
  refine hS.mono ?_;rintro e w' ⟨rfl,rfl⟩;go_wp2_with fail
  go_ret;exact⟨lu a.out.symm,aV _ _⟩
 |false=>
  have a:au (M=P):=(by rw[b.out];rfl:_=_);go_enter func59,ntmps59
  go_wp2_with fail
  refine hS.mono ?_;rintro e w' ⟨rfl,rfl⟩;go_wp2_with fail
  refine c.mono ?_;rintro e w' ⟨rfl,rfl⟩;go_wp2_with fail
  go_ret;exact⟨lu a.out.symm,d⟩
theorem Dw(x:ByteArray)(w:af)(h:0<x.size)(k:x.size<=4):
 aH prog 73 #[.string x] w fun e w'=>e= .returned (.bool (j_ x))/\aA w.heap.size w w':=by
 have c:au (j_ x=((JO (aF x 0)&& !(x.toList==uI.toList))|| [nM].any (preB x))):=rfl;have d:=CO x nM w (by decide) k;have f:aA w.heap.size w (w.alloc (.cells #[.string nM] 9)):=(aV _ _).alloc (ah _) _;generalize j_ x=M at*;generalize [nM].any (preB x)=P at*;unfold nM at d f;have hS:=Dv x w h;generalize JO (aF x 0)=s at*;obtain⟨q,g⟩:∃q,q=(x.toList==uI.toList):=⟨_,rfl⟩;have j:uI.toList=[116,82,78,83]:=by rw[dP];rfl
 have a:(x.toList==[116,82,78,83])=q:=by rw[g,j]
 rw[<-g]at c;clear g j;cases s with
 |true=>
  cases q with
  |false=>
   have i:¬x.toList=[116,82,78,83]:=by simpa using a
   have b:au (M=true):=(by rw[c.out];rfl:_=_);go_enter func73,ntmps73
   go_wp2_with fail
   refine hS.mono ?_;rintro e w' ⟨rfl,rfl⟩;go_wp2_with fail
   go_ret;exact⟨lu b.out.symm,aV _ _⟩
  |true=>
   have i:x.toList=[116,82,78,83]:=by simpa using a
   have b:au (M=P):=(by rw[c.out];rfl:_=_);go_enter func73,ntmps73
   go_wp2_with fail
   refine hS.mono ?_;rintro e w' ⟨rfl,rfl⟩;go_wp2_with fail
   refine d.mono ?_;rintro e w' ⟨rfl,rfl⟩;go_wp2_with fail
   go_ret;exact⟨lu b.out.symm,f⟩
 |false=>
  have b:au (M=P):=(by rw[c.out];rfl:_=_);go_enter func73,ntmps73
  go_wp2_with fail
  refine hS.mono ?_;rintro e w' ⟨rfl,rfl⟩;go_wp2_with fail
  refine d.mono ?_;rintro e w' ⟨rfl,rfl⟩;go_wp2_with fail
  go_ret;exact⟨lu b.out.symm,f⟩
theorem GX(x:ByteArray)(w:af)(h:0<x.size)(b:x.size<=4):
 aH prog 67 #[.string x] w fun e w'=>e= .returned (.bool (je x))/\aA w.heap.size w w':=by
 have c:au (je x=(j_ x|| [fD].any (preB x))):=rfl;have d:=fun w=>CO x fD w (by decide) b;have f:=Dw x w h b;generalize je x=M at*;generalize j_ x=s at*;generalize [fD].any (preB x)=P at*;unfold fD at d;cases s with
 |true=>
  have a:au (M=true):=(by rw[c.out];rfl:_=_);go_enter func67,ntmps67
  go_wp2_with fail
  refine f.mono ?_;rintro e w' ⟨rfl,hb⟩;go_wp2_with fail
  go_ret;exact⟨lu a.out.symm,hb⟩
 |false=>
  have a:au (M=P):=(by rw[c.out];rfl:_=_);go_enter func67,ntmps67
  go_wp2_with fail
  refine f.mono ?_;rintro e w1 ⟨rfl,hb⟩;go_wp2_with fail
  refine(d _).mono ?_;rintro e w' ⟨rfl,rfl⟩;go_wp2_with fail
  go_ret;exact⟨lu a.out.symm,hb.trans ((aV _ _).alloc hb.size _)⟩
theorem XW(a:Nat)(x nm:ByteArray)(cv bv:ay)(w:af)(b:w.heap[a]?=some (.cells #[cv,.string nm,bv] 194 (0,0)))(c:nm.size<=4)(d:x.size<=4):
 aH prog 200 #[.pointer (some ⟨a,0,none⟩),.string x] w fun e w'=>e= .returned (.bool ([nm].any (preB x)))/\aA w.heap.size w w':=by
 have c1:w.cell? ⟨a,1,none⟩=some (.string nm):=by simpa using(cell_of b 1).1
 have f:=CO x nm w c d;have g:aA w.heap.size w (w.alloc (.cells #[.string nm] 9)):=(aV _ _).alloc (ah _) _;generalize [nm].any (preB x)=P at*;go_enter func200,ntmps200
 go_wp2_with fail
 refine f.mono ?_;rintro e w' ⟨rfl,rfl⟩;go_wp2_with fail
 go_ret;exact⟨rfl,g⟩
open gI (cut fK dZ gy gW h_ bQ gQ fO dw bz)
structure Dx(fn:FuncId)(bs:Array ay)(M:ByteArray->Bool)(C:af->Prop)(F:Nat->Prop):Prop where
 body:∀args w,(callFunc fn args).run prog w= .ok (.enter fn args) w
 ask:∀(x:ByteArray) (w:af),C w->0<x.size->x.size<=4->aH prog fn (bs.push (.string x)) w fun e w'=>e= .returned (.bool (M x))/\aA w.heap.size w w'
 xu:∀{w w'},C w->Fr F w w'->C w'
def fG(s:ByteArray)(p j:Nat):ByteArray:=⟨(cut s p j).toArray⟩
theorem jW(s:ByteArray)(p j:Nat)(h:p+j<=s.size):(fG s p j).size=j:=by show(cut s p j).toArray.size=j;rw[AA,fK s p j h]
theorem XX(s:ByteArray)(p j:Nat)(h:p+j<s.size)(x:Nat)(a:x=aF s (p+j)):fG s p j++⟨#[UInt8.ofNat x]⟩=fG s p (j+1):=by
 unfold fG;rw[gy s p j h];have e:UInt8.ofNat x=s[p+j]:=by rw[a,mQ s (p+j) h];simp
 rw[e];apply gK;simp[ByteArray.data_append]
theorem IQ(x:Nat)(h:x<128):Utf8.encode (x:Int)=⟨#[UInt8.ofNat x]⟩:=by
 unfold Utf8.encode;have a:Utf8.valid (x:Int)=true:=by simp[Utf8.valid];omega
 simp only[a,if_true,Int.toNat_natCast];rw[aG (by omega)]
def uT(M:ByteArray->Bool)(s:ByteArray)(p:Nat):Prop:=p+4<=s.size/\(∀i,i<4->dw (aF s (p+i)) i=true)/\∀i,1<=i->i<=4->M (fG s p i)=true
theorem JQ(x i:Nat):dw x i=(XU x||(JO x&&i !=2)):=rfl
theorem UN(x i:Nat)(h:dw x i=true):x<128:=by unfold dw at h;simp at h;omega
theorem JR(S:Src)(hS:S.Ok)(fn:FuncId)(bs:Array ay)(a1:bs= #[]\/∃r,bs= #[r])(M:ByteArray->Bool)(C:af->Prop)(F:Nat->Prop)(a2:∀k,S.F k->F k)(hM:Dx fn bs M C F)(s:ByteArray)(p:Nat)(w:af)(hK:S.K w s p)(hC:C w)(hp:p<=s.size):
 aH prog 86 #[.iface S.T (.pointer (some S.a)),.func (.func fn) bs #[]] w fun e w'=>
  (uT M s p/\e= .returned (.tuple #[.string (fG s p 4),.nilIface])/\S.K w' s (p+4)/\Fr S.F w w')\/
  ((∃T a,e= .returned (.tuple #[.string ⟨#[]⟩,.iface T (.pointer (some a))])/\dJ S w' T a (¬uT M s p))/\S.KE w'/\Fr S.F w w'):=by
 have u:au (uT M s p↔p+4<=s.size/\(∀i,i<4->dw (aF s (p+i)) i=true)/\∀i,1<=i->i<=4->M (fG s p i)=true):=Iff.rfl;obtain⟨Q,hQ⟩:∃Q:Prop,Q=uT M s p:=⟨_,rfl⟩;rw[<-hQ]at u|-;clear hQ;have b3:∀args w,(callFunc fn args).run prog w= .ok (.enter fn args) w:=hM.body;have a3:=hM.ask;have E:∀{w w'},C w->Fr F w w'->C w':=hM.xu;clear hM;go_enter func86,ntmps86
 go_wp2_with fail
 go_loopw [6] (fun v wr=> ∃j:Nat,j<=4/\v= .string (fG s p j)/\p+j<=s.size/\(∀i,i<j->dw (aF s (p+i)) i=true)/\(∀i,1<=i->i<=j->M (fG s p i)=true)/\S.K wr s (p+j)/\Fr S.F w wr) (fun v _=>4-(match v with| .string x=>x.size|_=>0))
 case atStart=>exact⟨0,by omega,by unfold fG;rw[dZ],hp,fun i hi=>absurd hi (Nat.not_lt_zero i),fun i h1 h2=>by omega,hK,Fr.refl _ _⟩
 case round=>
  obtain⟨j,hj,rfl,hle,U,V,a4,hF⟩:=hrel;have z:au _:=U;have A:au _:=V;have hz:=jW s p j hle;have HZ:au _:=hz;clear U V hK;have a8:C wr:=E hC (hF.mono a2);by_cases a9:j<4
  ·have b0:=bY s (p+j);have G:=hS.one wr s (p+j) a4 hle;obtain⟨y,hy⟩:∃y,y=aF s (p+j):=⟨_,rfl⟩;rw[<-hy]at G b0;have HY:au _:=hy;clear hy;obtain⟨x,hx⟩:∃x,x=fG s p j:=⟨_,rfl⟩;rw[<-hx]at hz|-;have HX:au _:=hx;clear hx;have b4:(x.size:Int)=(j:Int):=by omega
   go_wp2_with fail
   refine G.mono ?_;clear G;rintro e w1 (⟨g0,rfl,Y,N⟩|⟨x0,T,a,rfl,g0,Y,N⟩);rotate_left
   ·have HW:dJ S w1 T a (¬Q):=g0.imp (fun g0 H=>g0 (by have:=(u.out.1 H).1;omega));clear g0;go_wp2_with fail
    go_ret2;exact .inr ⟨⟨T,a,rfl,HW⟩,Y,hF.trans N⟩
   have b1:au (p+j<s.size):=g0;have d:=abd y w1 (by omega);have o:=XV y w1 (by omega);have O:au (dw y j=(XU y||(JO y&&j !=2))):=JQ y j;have a5:au (dw y j=true->y<128):=UN y j;have b2:C w1:=E a8 (N.mono a2);have Z:au (x++⟨#[UInt8.ofNat y]⟩=fG s p (j+1)):=(by rw[HX.out];exact XX s p j b1.out y HY.out:_=_);have I:au ((fG s p (j+1)).size=j+1):=jW s p (j+1) (by omega);have J:au (aH prog fn (bs.push (.string (fG s p (j+1)))) w1 fun e w'=>e= .returned (.bool (M (fG s p (j+1))))/\aA w1.heap.size w1 w'):=(a3 (fG s p (j+1)) w1 b2 (by rw[I.out];omega) (by rw[I.out];omega):aH _ _ _ _ _);have W:=hS.ke Y;generalize XU y=cy at*;generalize JO y=sy at*;have a6:au (dw y j=false->¬Q):=(fun hl H=>by have h2:=(u.out.1 H).2.1 j a9;rw[<-HY.out,hl]at h2;exact Bool.noConfusion h2:dw y j=false->¬Q);obtain⟨X,hX⟩:∃X,X=fG s p (j+1):=⟨_,rfl⟩;rw[<-hX]at Z I J;have g:au _:=hX;have P:X.size=j+1:=I.out;have b5:=Z.out;have t:=J.out;clear hX Z I J;cases q:cy with
   |true=>
    have l:au (dw y j=true):=(by rw[O.out,q];rfl:_=_);have a7:=IQ y (a5.out l.out);rw[q]at d;clear q;rcases a1 with rfl|⟨r,rfl⟩
    ·have t:aH prog fn #[.string X] w1 _:=t;go_wp2_with fail
     refine d.mono ?_;rintro e R ⟨rfl,b⟩;have b:=b.symm;subst b;go_wp2_with fail
     refine t.mono ?_;rintro e w2 ⟨rfl,hb⟩;clear t d o;have m:S.K w2 s (p+j+1):=hS.L_ Y (fun k f=>hb.block k f);have n:Fr S.F w w2:=(hF.trans N).trans ⟨hb.os,hb.tape,hb.output,hb.size,fun k f _=>hb.block k f⟩;cases c:M X with
     |false=>
      have L:au (¬Q):=(fun H=>by have:=(u.out.1 H).2.2 (j+1) (by omega) (by omega);rw[<-g.out,c]at this;exact Bool.noConfusion this:¬_);clear c;go_wp2_with fail
      refine(cZ _ _).mono ?_;rintro e w3 ⟨rfl,rfl⟩;go_wp2_with fail
      go_ret2;exact .inr ⟨⟨_,_,rfl,dJ.uh L.out⟩,hS.pF (hS.ke m) (fun k f=>ai _ _ k f),n.alloc _⟩
     |true=>
      have D:au (M (fG s p (j+1))=true):=(by rw[<-g.out];exact c:_=_);clear c;go_wp2_with fail
      go_roundw
      case rel=>
       refine⟨j+1,by omega,by rw[g.out],by omega,fun i hi=> ?_,fun i h1 h2=> ?_,m,n⟩
       ·rcases bW i j with h|h
        ·exact z.out i h
        ·have:i=j:=by omega
         rw[this,<-HY.out];exact l.out
       ·rcases bW i (j+1)with h|h
        ·exact A.out i h1 (by omega)
        ·have:i=j+1:=by omega
         rw[this];exact D.out
      case measure=>show 4-X.size<4-x.size;rw[P,hz];omega
    ·have t:aH prog fn #[r,.string X] w1 _:=t;go_wp2_with fail
     refine d.mono ?_;rintro e R ⟨rfl,b⟩;have b:=b.symm;subst b;go_wp2_with fail
     refine t.mono ?_;rintro e w2 ⟨rfl,hb⟩;clear t d o;have m:S.K w2 s (p+j+1):=hS.L_ Y (fun k f=>hb.block k f);have n:Fr S.F w w2:=(hF.trans N).trans ⟨hb.os,hb.tape,hb.output,hb.size,fun k f _=>hb.block k f⟩;cases c:M X with
     |false=>
      have L:au (¬Q):=(fun H=>by have:=(u.out.1 H).2.2 (j+1) (by omega) (by omega);rw[<-g.out,c]at this;exact Bool.noConfusion this:¬_);clear c;go_wp2_with fail
      refine(cZ _ _).mono ?_;rintro e w3 ⟨rfl,rfl⟩;go_wp2_with fail
      go_ret2;exact .inr ⟨⟨_,_,rfl,dJ.uh L.out⟩,hS.pF (hS.ke m) (fun k f=>ai _ _ k f),n.alloc _⟩
     |true=>
      have D:au (M (fG s p (j+1))=true):=(by rw[<-g.out];exact c:_=_);clear c;go_wp2_with fail
      go_roundw
      case rel=>
       refine⟨j+1,by omega,by rw[g.out],by omega,fun i hi=> ?_,fun i h1 h2=> ?_,m,n⟩
       ·rcases bW i j with h|h
        ·exact z.out i h
        ·have:i=j:=by omega
         rw[this,<-HY.out];exact l.out
       ·rcases bW i (j+1)with h|h
        ·exact A.out i h1 (by omega)
        ·have:i=j+1:=by omega
         rw[this];exact D.out
      case measure=>show 4-X.size<4-x.size;rw[P,hz];omega
   |false=>
    rw[q]at d;cases B:sy with
    |false=>
     have L:au (¬Q):=(a6.out (by rw[O.out,q,B];rfl):¬_);rw[B]at o;clear q B t;go_wp2_with fail
     refine d.mono ?_;rintro e R ⟨rfl,b⟩;have b:=b.symm;subst b;go_wp2_with fail
     refine o.mono ?_;rintro e R ⟨rfl,b⟩;have b:=b.symm;subst b;go_wp2_with fail
     refine(cZ _ _).mono ?_;rintro e w3 ⟨rfl,rfl⟩;go_wp2_with fail
     go_ret2;exact .inr ⟨⟨_,_,rfl,dJ.uh L.out⟩,hS.pF W (fun k f=>ai _ _ k f),(hF.trans N).alloc _⟩
    |true=>
     rw[B]at o;by_cases a0:j=2
     ·have L:au (¬Q):=(a6.out (by rw[O.out,q,B,a0];rfl):¬_);clear q B t;subst a0;go_wp2_with fail
      refine d.mono ?_;rintro e R ⟨rfl,b⟩;have b:=b.symm;subst b;go_wp2_with fail
      refine o.mono ?_;rintro e R ⟨rfl,b⟩;have b:=b.symm;subst b;go_wp2_with fail
      refine(cZ _ _).mono ?_;rintro e w3 ⟨rfl,rfl⟩;go_wp2_with fail
      go_ret2;exact .inr ⟨⟨_,_,rfl,dJ.uh L.out⟩,hS.pF W (fun k f=>ai _ _ k f),(hF.trans N).alloc _⟩
     ·have l:au (dw y j=true):=(by
       rw[O.out,q,B];simp[a0]:_=_)
      have a7:=IQ y (a5.out l.out);have b6:((j:Int)==2)=false:=by rw[aI];omega
      clear q B;rcases a1 with rfl|⟨r,rfl⟩
      ·have t:aH prog fn #[.string X] w1 _:=t;go_wp2_with fail
       refine d.mono ?_;rintro e R ⟨rfl,b⟩;have b:=b.symm;subst b;go_wp2_with fail
       refine o.mono ?_;rintro e R ⟨rfl,b⟩;have b:=b.symm;subst b;go_wp2_with fail
       refine t.mono ?_;rintro e w2 ⟨rfl,hb⟩;clear t d o;have m:S.K w2 s (p+j+1):=hS.L_ Y (fun k f=>hb.block k f);have n:Fr S.F w w2:=(hF.trans N).trans ⟨hb.os,hb.tape,hb.output,hb.size,fun k f _=>hb.block k f⟩;cases c:M X with
       |false=>
        have L:au (¬Q):=(fun H=>by have:=(u.out.1 H).2.2 (j+1) (by omega) (by omega);rw[<-g.out,c]at this;exact Bool.noConfusion this:¬_);clear c;go_wp2_with fail
        refine(cZ _ _).mono ?_;rintro e w3 ⟨rfl,rfl⟩;go_wp2_with fail
        go_ret2;exact .inr ⟨⟨_,_,rfl,dJ.uh L.out⟩,hS.pF (hS.ke m) (fun k f=>ai _ _ k f),n.alloc _⟩
       |true=>
        have D:au (M (fG s p (j+1))=true):=(by rw[<-g.out];exact c:_=_);clear c;go_wp2_with fail
        go_roundw
        case rel=>
         refine⟨j+1,by omega,by rw[g.out],by omega,fun i hi=> ?_,fun i h1 h2=> ?_,m,n⟩
         ·rcases bW i j with h|h
          ·exact z.out i h
          ·have:i=j:=by omega
           rw[this,<-HY.out];exact l.out
         ·rcases bW i (j+1)with h|h
          ·exact A.out i h1 (by omega)
          ·have:i=j+1:=by omega
           rw[this];exact D.out
        case measure=>show 4-X.size<4-x.size;rw[P,hz];omega
      ·have t:aH prog fn #[r,.string X] w1 _:=t;go_wp2_with fail
       refine d.mono ?_;rintro e R ⟨rfl,b⟩;have b:=b.symm;subst b;go_wp2_with fail
       refine o.mono ?_;rintro e R ⟨rfl,b⟩;have b:=b.symm;subst b;go_wp2_with fail
       refine t.mono ?_;rintro e w2 ⟨rfl,hb⟩;clear t d o;have m:S.K w2 s (p+j+1):=hS.L_ Y (fun k f=>hb.block k f);have n:Fr S.F w w2:=(hF.trans N).trans ⟨hb.os,hb.tape,hb.output,hb.size,fun k f _=>hb.block k f⟩;cases c:M X with
       |false=>
        have L:au (¬Q):=(fun H=>by have:=(u.out.1 H).2.2 (j+1) (by omega) (by omega);rw[<-g.out,c]at this;exact Bool.noConfusion this:¬_);clear c;go_wp2_with fail
        refine(cZ _ _).mono ?_;rintro e w3 ⟨rfl,rfl⟩;go_wp2_with fail
        go_ret2;exact .inr ⟨⟨_,_,rfl,dJ.uh L.out⟩,hS.pF (hS.ke m) (fun k f=>ai _ _ k f),n.alloc _⟩
       |true=>
        have D:au (M (fG s p (j+1))=true):=(by rw[<-g.out];exact c:_=_);clear c;go_wp2_with fail
        go_roundw
        case rel=>
         refine⟨j+1,by omega,by rw[g.out],by omega,fun i hi=> ?_,fun i h1 h2=> ?_,m,n⟩
         ·rcases bW i j with h|h
          ·exact z.out i h
          ·have:i=j:=by omega
           rw[this,<-HY.out];exact l.out
         ·rcases bW i (j+1)with h|h
          ·exact A.out i h1 (by omega)
          ·have:i=j+1:=by omega
           rw[this];exact D.out
        case measure=>show 4-X.size<4-x.size;rw[P,hz];omega
  ·have e:j=4:=by omega
   subst e;have HQ:au Q:=(u.out.2 ⟨hle,z.out,A.out⟩:Q);go_wp2_with fail
   go_ret2;exact .inl ⟨HQ.out,rfl,a4,hF⟩
def lC(M:ByteArray->Bool)(s:ByteArray)(p:Nat):Prop:=pG s p/\uT M s (p+4)
theorem IU(x:ByteArray)(w:af)(b:x.size<=1000)(a:Ci w):
 aH prog 35 #[.string x] w fun e w'=>e= .returned (.int .u32 ((gQ x.data.toList:Nat):Int))/\w'=w:=IG x w (by unfold maxLen;omega) a
theorem xN(s:ByteArray)(p j:Nat):(fG s p j).data.toList=cut s p j:=by unfold fG;simp
theorem CR.num{S:Src}{cb:Nat}{s:ByteArray}{w:af}{p left:Nat}{name:ByteArray}{l:List UInt8}(h:CR S cb s w p name left l)(v:Int):CR S cb s (w.setCell ⟨cb,1,none⟩ (.int .i64 v)) p name left l:=by obtain⟨num,h1⟩:=h.oD;exact h.put v ((bF h1 1 _).trans (by simp[MC])) h.lf (fun k b a=>aC 1 _ a)
theorem CR.begun{S:Src}{cb:Nat}{s:ByteArray}{w:af}{p left:Nat}{name:ByteArray}{l:List UInt8}(h:CR S cb s w p name left l)(x:ByteArray)(n:Nat)(b:n<=2147483647):
 CR S cb s (((w.setCell ⟨cb,2,none⟩ (.string x)).setCell ⟨cb,3,none⟩ (.int .i64 (n:Int))).setCell ⟨cb,4,none⟩ (.int .u32 ((gQ x.data.toList:Nat):Int))) p x n x.data.toList/\
 Fr (jc S cb) w (((w.setCell ⟨cb,2,none⟩ (.string x)).setCell ⟨cb,3,none⟩ (.int .i64 (n:Int))).setCell ⟨cb,4,none⟩ (.int .u32 ((gQ x.data.toList:Nat):Int))):=by
 obtain⟨num,h1⟩:=h.oD;exact⟨h.put num ((bF (bF (bF h1 2 _) 3 _) 4 _).trans (by simp[MC])) b (fun k c a=>(aC 4 _ a).trans ((aC 3 _ a).trans (aC 2 _ a))),(((Fr.refl _ w).set cb 2 (.inr rfl) _).set cb 3 (.inr rfl) _).set cb 4 (.inr rfl) _⟩
theorem IV(S:Src)(cb:Nat)(fn:FuncId)(bs:Array ay)(H:bs= #[]\/∃r,bs= #[r])(M:ByteArray->Bool)(C:af->Prop)(hM:Dx fn bs M C (jc S cb))(s:ByteArray)(w:af)(p left:Nat)(name:ByteArray)(l:List UInt8)(h:CR S cb s w p name left l)(hC:C w):
 aH prog 58 #[.pointer (some ⟨cb,0,none⟩),.func (.func fn) bs #[]] w fun e w'=>
  (lC M s p/\e= .returned .nilIface/\CR S cb s w' (p+8) (fG s (p+4) 4) (bz s p) (cut s (p+4) 4)/\Fr (jc S cb) w w')\/
  ((∃T a,e= .returned (.iface T (.pointer (some a)))/\dJ S w' T a (¬lC M s p))/\mP S cb w'/\Fr (jc S cb) w w'):=by
 have c:au (lC M s p↔pG s p/\uT M s (p+4)):=Iff.rfl;obtain⟨Q,hQ⟩:∃Q:Prop,Q=lC M s p:=⟨_,rfl⟩;rw[<-hQ]at c|-;clear hQ;obtain⟨num,c0,c1,c2,c3,c4,cf,y⟩:=h.cells;have f1:=cf 1;have d:=fun v=>h.num v;have z:∀v,Fr (jc S cb) w (w.setCell ⟨cb,1,none⟩ (.int .i64 v)):=fun v=>(Fr.refl (jc S cb) w).set cb 1 (.inr rfl) _;have I:∀v,(w.setCell ⟨cb,1,none⟩ (.int .i64 v)).cell? ⟨cb,0,none⟩=some (.iface S.T (.pointer (some S.a))):=fun v=>by obtain⟨_,I,_⟩:=(d v).cells;exact I
 clear c2 c3 c4 cf y;go_enter func58,ntmps58
 go_wp2_with fail
 refine(Bd S h.ok s p _ (d _).k h.le).mono ?_;have n:=d (wrap64 (num+1));have o:=z (wrap64 (num+1));clear d z I c0 c1 f1;generalize (w.setCell ⟨cb,1,none⟩ (.int .i64 (wrap64 (num+1))))=w0 at*;rintro e w1 (⟨f,rfl,J,x⟩|⟨⟨T,a,rfl,f⟩,J,x⟩);rotate_left
 ·have K:dJ S w1 T a (¬Q):=f.imp (fun f L=>f (c.out.1 L).1);have N:=n.MF J x;clear f;go_wp2_with fail
  go_ret;exact .inr ⟨⟨T,a,rfl,K⟩,N,o.trans (x.mono (fun k g=> .inl g))⟩
 have A:au (pG s p):=f;have O:bz s p<=2147483647:=f.2;have j:p+4<=s.size:=f.1;have b:=n.src J j x;have q:Fr (jc S cb) w w1:=o.trans (x.mono (fun k g=> .inl g));have P:C w1:=hM.xu hC q;clear f n o x;obtain⟨a0,e0,_,_,_,_,_,_⟩:=b.cells;generalize B:bz s p=n4 at*;have R:au _:=B;clear B;have D:=JR S h.ok fn bs H M C (jc S cb) (fun k g=> .inl g) hM s (p+4) w1 b.k P j;go_wp2_with fail
 refine D.mono ?_;clear D;rintro e w2 (⟨i,rfl,U,E⟩|⟨⟨T,a,rfl,i⟩,U,E⟩);rotate_left
 ·have K:dJ S w2 T a (¬Q):=i.imp (fun i L=>i (c.out.1 L).2);have N:=b.MF U E;clear i;go_wp2_with fail
  go_ret;exact .inr ⟨⟨T,a,rfl,K⟩,N,q.trans (E.mono (fun k g=> .inl g))⟩
 have V:au Q:=(c.out.2 ⟨A.out,i⟩:Q);have t:=b.src U i.1 E;have W:Fr (jc S cb) w w2:=q.trans (E.mono (fun k g=> .inl g));have Y:(fG s (p+4) 4).size=4:=jW s (p+4) 4 i.1;have Z:au ((fG s (p+4) 4).data.toList=cut s (p+4) 4):=xN s (p+4) 4;have m:=IU (fG s (p+4) 4) w2 (by rw[Y];omega) t.tab;obtain⟨a1,q0,q1,q2,q3,q4,G,_⟩:=t.cells;have z2:=G 2;have z3:=G 3;have z4:=G 4;have F:au _:=t.begun (fG s (p+4) 4) n4 O;clear i q0 q1 G e0 b;generalize gQ (fG s (p+4) 4).data.toList=cc at*;generalize hX:fG s (p+4) 4=X at*;have HX:au _:=hX;clear hX;go_wp2_with fail
 refine m.mono ?_;rintro e wz ⟨rfl,u⟩;have u:=u.symm;subst u;clear m;go_wp2_with fail
 go_ret;obtain⟨y1,y2⟩:=F.out;refine .inl ⟨V.out,rfl,?_,W.trans y2⟩;rw[HX.out,R.out,<-Z.out];exact y1
theorem zY(S:Src)(cb:Nat)(fn:FuncId)(bs:Array ay)(g:bs= #[]\/∃r,bs= #[r])(M:ByteArray->Bool)(C:af->Prop)(t:Dx fn bs M C (jc S cb))(s:ByteArray)(w:af)(p left:Nat)(name:ByteArray)(l:List UInt8)(h:CR S cb s w p name left l)(v:C w):
 aH prog 72 #[.pointer (some ⟨cb,0,none⟩),.func (.func fn) bs #[]] w fun e w'=>
  ((jw s p left l/\lC M s (p+left+4))/\e= .returned .nilIface/\CR S cb s w' (p+left+4+8) (fG s (p+left+4+4) 4) (bz s (p+left+4)) (cut s (p+left+4+4) 4)/\Fr (jc S cb) w w')\/
  ((∃T a,e= .returned (.iface T (.pointer (some a)))/\dJ S w' T a (¬(jw s p left l/\lC M s (p+left+4))))/\mP S cb w'/\Fr (jc S cb) w w'):=by
 obtain⟨Q,i⟩:∃Q:Prop,Q=(jw s p left l/\lC M s (p+left+4)):=⟨_,rfl⟩;rw[<-i];have j:au _:=i;clear i;go_enter func72,ntmps72
 go_wp2_with fail
 refine(wO S cb s _ p left name l h).mono ?_;rintro e w1 (⟨b,rfl,k,d⟩|⟨⟨T,a,rfl,b⟩,k,d⟩)
 ·have u:=IV S cb fn bs g M C t s w1 _ _ _ _ k (t.xu v d);have x:au _:=b;clear b;go_wp2_with fail
  refine u.mono ?_;clear u;rintro e w2 (⟨c,rfl,m,n⟩|⟨⟨T,a,rfl,c⟩,m,n⟩)
  ·have o:au Q:=(by rw[j.out];exact⟨x.out,c⟩:Q);clear c;go_wp2_with fail
   go_ret;exact .inl ⟨o.out,rfl,m,d.trans n⟩
  ·have q:dJ S w2 T a (¬Q):=c.imp (fun c f=>by rw[j.out]at f;exact c f.2);clear c;go_wp2_with fail
   go_ret;exact .inr ⟨⟨T,a,rfl,q⟩,m,d.trans n⟩
 ·have q:dJ S w1 T a (¬Q):=b.imp (fun b f=>by rw[j.out]at f;exact b f.1);clear b;go_wp2_with fail
  go_ret;exact .inr ⟨⟨T,a,rfl,q⟩,k,d⟩
theorem xO(S:Src)(cb:Nat)(s:ByteArray)(w:af)(p left:Nat)(name:ByteArray)(l:List UInt8)(h:CR S cb s w p name left l):
 aH prog 60 #[.pointer (some ⟨cb,0,none⟩)] w fun e w'=>e= .returned (.string name)/\w'=w:=by
 obtain⟨num,c0,c1,c2,c3,c4,b,a⟩:=h.cells;clear c0 c1 c3 c4 b a;go_enter func60,ntmps60
 go_wp2
 go_ret;exact⟨rfl,rfl⟩
theorem tq(S:Src)(cb:Nat)(s:ByteArray)(w:af)(p left:Nat)(name:ByteArray)(l:List UInt8)(h:CR S cb s w p name left l):
 aH prog 74 #[.pointer (some ⟨cb,0,none⟩)] w fun e w'=>e= .returned (.int .i64 (left:Int))/\w'=w:=by
 obtain⟨num,c0,c1,c2,c3,c4,b,a⟩:=h.cells;clear c0 c1 c2 c4 b a;go_enter func74,ntmps74
 go_wp2
 go_ret;exact⟨rfl,rfl⟩
def pJ:ByteArray:=⟨#[137,80,78,71,13,10,26,10]⟩
theorem XY(S:Src)(cb:Nat)(s:ByteArray)(w:af)(p left:Nat)(name:ByteArray)(l:List UInt8)(h:CR S cb s w p name left l):
 aH prog 53 #[.pointer (some ⟨cb,0,none⟩)] w fun e w'=>
  (Match s p pJ/\e= .returned .nilIface/\CR S cb s w' (p+8) name left l/\Fr (jc S cb) w w')\/
  ((∃T a,e= .returned (.iface T (.pointer (some a)))/\dJ S w' T a (¬Match s p pJ))/\mP S cb w'/\Fr (jc S cb) w w'):=by
 obtain⟨num,c0,c1,c2,c3,c4,n,b⟩:=h.cells;clear c1 c2 c3 c4 n b;have f:=fun g=>zV S h.ok s pJ g p w h.k h.le (by decide);have o:au (Match s p pJ->p+8<=s.size):=(fun hm=>hm.1:_->_);generalize Match s p pJ=Q at*;have q:pJ.size=8:=rfl;rw[q]at f;unfold pJ at f;go_enter func53,ntmps53
 go_wp2_with fail
 refine(f _).mono ?_;clear f;rintro e w1 (⟨c,rfl,i,d⟩|⟨⟨T,a,rfl,c⟩,i,d⟩)
 ·have j:=h.src i (o.out c) d;have r:au Q:=c;clear c c0;go_wp2_with fail
  go_ret;exact .inl ⟨r.out,rfl,j,d.mono (fun k m=> .inl m)⟩
 ·have j:=h.MF i d;clear c0;go_wp2_with fail
  go_ret;exact .inr ⟨⟨T,a,rfl,c⟩,j,d.mono (fun k m=> .inl m)⟩
def Fa(x:ByteArray):Bool:=[fD].any (preB x)
def nG(s:ByteArray)(p left:Nat)(l:List UInt8):Prop:=jw s p left l/\lC Fa s (p+left+4)
open Classical in
noncomputable def xP(s:ByteArray):Nat->Nat->Nat->List UInt8->List UInt8
 |0,_,_,_=>[]
 |f+1,p,left,l=>cut s p left++(if nG s p left l then xP s f (p+left+4+8) (bz s (p+left+4)) (cut s (p+left+4+4) 4)else [])
theorem Bg{s:ByteArray}{p left:Nat}{l:List UInt8}(h:nG s p left l):p+left+4+8<=s.size:=by have:=h.2.2.1;omega
theorem Qg(s:ByteArray)(f:Nat):∀g p left l,s.size-p<f->s.size-p<g->xP s f p left l=xP s g p left l:=by
 induction f with
 |zero=>intro g p left l h;omega
 |succ f b=>
  intro g p left l h1 h2;obtain⟨a,rfl⟩:∃a,g=a+1:=⟨g-1,by omega⟩;rw[xP,xP];congr 1
  by_cases h:nG s p left l
  ·have:=Bg h;rw[aG h,aG h,b a _ _ _ (by omega) (by omega)]
  ·rw[ax h,ax h]
noncomputable def jP(s:ByteArray)(p left:Nat)(l:List UInt8):List UInt8:=xP s (s.size+1) p left l
theorem tu{s:ByteArray}{p left:Nat}{l:List UInt8}(h:nG s p left l):jP s p left l=cut s p left++jP s (p+left+4+8) (bz s (p+left+4)) (cut s (p+left+4+4) 4):=by have:=Bg h;unfold jP;rw[xP,aG h,Qg s s.size (s.size+1) _ _ _ (by omega) (by omega)]
theorem nZ{s:ByteArray}{p left:Nat}{l:List UInt8}(h:¬nG s p left l):jP s p left l=cut s p left:=by unfold jP;rw[xP,ax h,kU]
theorem MQ(s:ByteArray)(p left:Nat)(l:List UInt8)(h:p<s.size):jw s (p+1) left (l++[s[p]])↔jw s p (left+1) l:=by unfold jw;rw[gW s p left h,bI,show p+1+left=p+(left+1)by omega];rfl
theorem Fb(s:ByteArray)(p left:Nat)(l:List UInt8)(h:p<s.size):jP s p (left+1) l=s[p]::jP s (p+1) left (l++[s[p]]):=by
 have c:=MQ s p left l h;have b:nG s (p+1) left (l++[s[p]])↔nG s p (left+1) l:=by unfold nG;rw[c,show p+1+left+4=p+(left+1)+4 by omega]
 by_cases a:nG s p (left+1) l
 ·rw[tu a,tu (b.2 a),gW s p left h,show p+1+left=p+(left+1)by omega];rfl
 ·rw[nZ a,nZ (fun e=>a (b.1 e)),gW s p left h]
theorem MR(s:ByteArray)(p left:Nat)(l:List UInt8)(h:¬p<s.size)(b:0<left):jP s p left l=[]:=by rw[nZ (fun a=>by have:=Bg a;omega)];unfold cut;rw[fU (by simp;omega)];exact List.take_nil
theorem SK{x n:ByteArray}(a:x.size=4)(b:n.size=4)(h:preB x n=true):x=n:=by
 unfold preB at h;rw[gB,mD]at h;have h2:=h.2;rw[dP,dP,iE]at h2;have c:n.data.extract 0 x.size=n.data:=by rw[a,<-b];exact Array.extract_size
 rw[c]at h2;apply gK;exact(Array.toList_inj.1 h2).symm
theorem SL{s:ByteArray}{p:Nat}(h:uT Fa s p):fG s p 4=fD:=by have h1:=h.2.2 4 (by omega) (by omega);unfold Fa at h1;rw[xA,List.any_nil,Bool.or_false]at h1;exact SK (jW s p 4 h.1) rfl h1
theorem abe(s:ByteArray)(p i:Nat)(h:p+4<=s.size)(a:fG s p 4=fD)(hi:i<=4):preB (fG s p i) fD=true:=by
 have b:=jW s p i (by omega);unfold preB;rw[b,gB,mD];refine⟨aZ (show i<=fD.size from hi),?_⟩;rw[<-a,dP,dP,iE];have c:(fG s p 4).data.toList=cut s p 4:=by unfold fG;simp
 have d:(fG s p i).data.toList=cut s p i:=by unfold fG;simp
 rw[vg,oL,c,d,uZ,Nat.sub_zero];unfold cut;rw[List.take_take,sH hi]
theorem MS{x:ByteArray}(h:Fa x=true):je x=true:=by unfold je;have:[fD].any (preB x)=true:=h;rw[this,Bool.or_true]
theorem vH(s:ByteArray)(p left:Nat)(l:List UInt8):nG s p left l↔jw s p left l/\lC je s (p+left+4)/\fG s (p+left+4+4) 4=fD:=by
 constructor
 ·rintro⟨h1,h2,c,d,e⟩;exact⟨h1,⟨h2,c,d,fun i a b=>MS (e i a b)⟩,SL ⟨c,d,e⟩⟩
 ·rintro⟨h1,⟨h2,c,d,e⟩,f⟩;refine⟨h1,h2,c,d,fun i a b=> ?_⟩;unfold Fa;rw[xA,List.any_nil,Bool.or_false];exact abe s _ i c f b
structure Pt where
 p:Nat
 name:ByteArray
 left:Nat
 l:List UInt8
inductive Ends(s:ByteArray):Nat->Nat->List UInt8->Pt->Prop
 |stop {p left:Nat} {l:List UInt8}:jw s p left l->lC je s (p+left+4)->fG s (p+left+4+4) 4≠fD->Ends s p left l ⟨p+left+4+8,fG s (p+left+4+4) 4,bz s (p+left+4),cut s (p+left+4+4) 4⟩
 |more {p left:Nat} {l:List UInt8} {P:Pt}:jw s p left l->lC je s (p+left+4)->fG s (p+left+4+4) 4=fD->Ends s (p+left+4+8) (bz s (p+left+4)) (cut s (p+left+4+4) 4) P->Ends s p left l P
theorem Ends.first{s:ByteArray}{p left:Nat}{l:List UInt8}{P:Pt}(h:Ends s p left l P):jw s p left l/\lC je s (p+left+4):=by
 cases h with
 |stop h1 h2 a=>exact⟨h1,h2⟩
 |more h1 h2 a b=>exact⟨h1,h2⟩
theorem IW{s:ByteArray}{p left:Nat}{l:List UInt8}(c:nG s p left l)(P:Pt):Ends s (p+left+4+8) (bz s (p+left+4)) (cut s (p+left+4+4) 4) P↔Ends s p left l P:=by
 obtain⟨h1,h2,a⟩:=(vH s p left l).1 c;constructor
 ·exact fun h=> .more h1 h2 a h
 ·intro h;cases h with
  |stop d e b=>exact absurd a b
  |more d e b f=>exact f
theorem UO{s:ByteArray}{p left:Nat}{l:List UInt8}(hp:p<s.size)(P:Pt):Ends s (p+1) left (l++[s[p]]) P↔Ends s p (left+1) l P:=by
 have e:p+1+left=p+(left+1):=by omega
 have d:=MQ s p left l hp;constructor
 ·intro h;cases h with
  |stop c a b=>rw[e]at a b|-;exact .stop (d.1 c) a b
  |more c a b f=>rw[e]at a b f;exact .more (d.1 c) a b f
 ·intro h;cases h with
  |stop c a b=>have:=Ends.stop (s:=s) (p:=p+1) (left:=left) (l:=l++[s[p]]) (d.2 c) (by rw[e];exact a) (by rw[e];exact b);rw[e]at this;exact this
  |more c a b f=>exact .more (d.2 c) (by rw[e];exact a) (by rw[e];exact b) (by rw[e];exact f)
def OT(cb:Nat)(bv:ay):Obj:= .cells #[.pointer (some ⟨cb,0,none⟩),.string fD,bv] 194 (0,0)
theorem XZ(S:Src)(cb a:Nat)(bv:ay)(c:¬S.F a)(b:a≠cb):Dx 200 #[.pointer (some ⟨a,0,none⟩)] Fa (fun w=>w.heap[a]?=some (OT cb bv)) (jc S cb) where
 body:=fun args w=>pq func200 (by kernel_rfl) (by kernel_rfl) args w
 ask:=fun x w h h0 d=>XW a x fD _ _ w h (by decide) d
 xu:=fun h f=>(f.block a (ak h) (fun e=>e.elim c b)).trans h
theorem Qh(S:Src)(cb n:Nat)(bv:ay)(s:ByteArray)(w:af)(p left:Nat)(l:List UInt8)(h:CR S cb s w p fD left l)(L:w.heap[n]?=some (OT cb bv))(M:¬S.F n)(u:n≠cb):
 aH prog 198 #[.pointer (some ⟨n,0,none⟩)] w fun e w'=>
  (∃(b:UInt8) (C f:Nat) (D:List UInt8),(jP s p left l=b::jP s C f D/\∀P,Ends s C f D P↔Ends s p left l P)/\e= .returned (.tuple #[.int .u8 ((b.toNat:Nat):Int),.nilIface])/\CR S cb s w' C fD f D/\Fr (jc S cb) w w')\/
  ((∃T a,e= .returned (.tuple #[.int .u8 0,.iface T (.pointer (some a))])/\dJ S w' T a (jP s p left l=[]))/\mP S cb w'/\Fr (jc S cb) w w'):=by
 have O:=XZ S cb n bv M u;obtain⟨R,G⟩:∃R,R=jP s p left l:=⟨_,rfl⟩;rw[<-G];have q:au _:=G;clear G;obtain⟨E,H⟩:∃E:Pt->Prop,E=Ends s p left l:=⟨_,rfl⟩;rw[<-H];have v:au (∀P,Ends s p left l P↔E P):=(fun P=>by rw[H]:∀P,_);clear H;go_enter func198,ntmps198
 go_wp2_with fail
 go_loopg [4] (s.size-p+1) (fun gk _ wr=> ∃(d c:Nat) (j:List UInt8),s.size-d<gk/\(R=jP s d c j/\∀P,Ends s d c j P↔E P)/\CR S cb s wr d fD c j/\Fr (jc S cb) w wr)
 case atStart=>exact⟨p,left,l,by omega,⟨q.out,v.out⟩,h,Fr.refl _ _⟩
 case round=>
  clear q v;obtain⟨d,c,j,W,⟨x,y⟩,k,hF⟩:=hrel;have q:au _:=x;have N:au _:=y;clear x y;have z:wr.heap[n]?=some (OT cb bv):=(hF.block n (ak L) (fun e=>e.elim M u)).trans L;have c0:wr.cell? ⟨n,0,none⟩=some (.pointer (some ⟨cb,0,none⟩)):=by simpa using(cell_of z 0).1
  have Q:=k.lf;have A:=tq S cb s wr d c fD j k;cases c with
  |zero=>
   have t:=zY S cb _ _ (.inr ⟨_,rfl⟩) Fa _ O s wr d 0 fD j k z;rw[cO]at t;go_wp2_with fail
   refine A.mono ?_;rintro e U ⟨rfl,g⟩;have g:=g.symm;subst g;clear A;go_wp2_with fail
   refine t.mono ?_;clear t;rintro e w1 (⟨i,rfl,o,r⟩|⟨⟨T,a,rfl,i⟩,o,r⟩)
   ·have B:nG s d 0 j:=i;have hle:=Bg B;have I:au (R=jP s (d+4+8) (bz s (d+4)) (cut s (d+4+4) 4)):=(by rw[q.out,tu B,dZ];rfl:_=_);rw[SL i.2.2]at o;have J:au (∀P,Ends s (d+4+8) (bz s (d+4)) (cut s (d+4+4) 4) P↔E P):=(fun P=>(IW B P).trans (N.out P):∀P,_);clear i B c0;go_wp2_with fail
    go_roundg (s.size-(d+4+8)+1)
    case measure=>omega
    case rel=>exact⟨_,_,_,by omega,⟨I.out,J.out⟩,o,hF.trans r⟩
   ·have K:dJ S w1 T a (R=[]):=i.imp (fun i=>by rw[q.out,nZ (show¬nG s d 0 j from i),dZ]);clear i c0;go_wp2_with fail
    go_ret2;exact .inr ⟨⟨T,a,rfl,K⟩,o,hF.trans r⟩
  |succ m=>
   have t:=uQ S cb s wr d m fD j k;go_wp2_with fail
   refine A.mono ?_;rintro e U ⟨rfl,g⟩;have g:=g.symm;subst g;clear A;go_wp2_with fail
   refine t.mono ?_;clear t;rintro e w1 (⟨hp,rfl,o,r⟩|⟨⟨T,a,rfl,i⟩,o,r⟩)
   ·have I:au (R=s[d]::jP s (d+1) m (j++[s[d]])):=(by rw[q.out];exact Fb s d m j hp:_=_);have V:au (aF s d=(s[d]).toNat):=mQ s d hp;clear c0;go_wp2_with fail
    go_ret2;exact .inl ⟨_,_,_,_,⟨I.out,fun P=>(UO hp P).trans (N.out P)⟩,uP (jo Nat.cast V.out),o,hF.trans r⟩
   ·have K:dJ S w1 T a (R=[]):=i.imp (fun i=>by rw[q.out];exact MR s d (m+1) j i (by omega));clear i c0;go_wp2_with fail
    go_ret2;exact .inr ⟨⟨T,a,rfl,K⟩,o,hF.trans r⟩
theorem MV(v:ay)(w:af):(Go.method 417 141 v "NextByte").run prog w= .ok (198,v) w:=by kernel_rfl
theorem MW{S:Src}{w:af}{eb lb:bG}{base:Nat}{T:aW}{a:bG}{P:Prop}(b:ja w eb S.fb lb base)(h:dJ S w T a P):
 aH prog 40 #[.iface T (.pointer (some a)),.iface 284 (.pointer (some eb))] w fun e w'=>e= .returned (.bool false)/\w'=w:=by
 rcases h with⟨h,_⟩|⟨⟨n,h⟩,_⟩
 ·exact ja.acO eb h
 ·exact b.Xv n T a h
theorem IX(S:Src)(cb g:Nat)(bv:ay)(s:ByteArray)(w:af)(eb lb:bG)(p left:Nat)(l:List UInt8)(h:CR S cb s w p fD left l)(u:w.heap[g]?=some (OT cb bv))(v:¬S.F g)(n:g≠cb)(x:ja w eb S.fb lb S.base):
 aH prog 101 #[.iface 141 (.pointer (some ⟨g,0,none⟩))] w fun e w'=>
  (∃(b:UInt8) (i c:Nat) (j:List UInt8),(jP s p left l=b::jP s i c j/\∀P,Ends s i c j P↔Ends s p left l P)/\e= .returned (.tuple #[.int .u8 ((b.toNat:Nat):Int),.nilIface])/\CR S cb s w' i fD c j/\Fr (jc S cb) w w')\/
  ((∃T a,e= .returned (.tuple #[.int .u8 0,.iface T (.pointer (some a))])/\dJ S w' T a (jP s p left l=[]))/\mP S cb w'/\Fr (jc S cb) w w'):=by
 have hm:=MV;have o:=Qh S cb g bv s w p left l h u v n;have d:∀w',Fr (jc S cb) w w'->ja w' eb S.fb lb S.base:=fun w' y=>x.over (fun k A=>y.block k (by have:=h.e.lt.2;omega) (fun e=>by
  rcases e with e|e
  ·have:=h.ok.low k e;omega
  ·have:=h.base;omega))
 obtain⟨R,t⟩:∃R,R=jP s p left l:=⟨_,rfl⟩;rw[<-t]at o|-;clear t;generalize Ends s p left l=E at*;go_enter func101,ntmps101
 go_wp2_with fail
 refine o.mono ?_;clear o;rintro e w1 (⟨b,i,c,j,m,rfl,q,f⟩|⟨⟨T,a,rfl,m⟩,q,f⟩)
 ·have r:=(d w1 f).en;have z:au _:=m;clear m;unfold ny at r;go_wp2_with fail
  refine(Er.PK _ _).mono ?_;rintro e w2 ⟨rfl,hw⟩;have hw:=hw.symm;subst hw;go_wp2_with fail
  go_ret2;exact .inl ⟨b,i,c,j,z.out,rfl,q,f⟩
 ·have r:=(d w1 f).en;have hI:=MW (d w1 f) m;unfold ny at r;go_wp2_with fail
  refine hI.mono ?_;rintro e w2 ⟨rfl,hw⟩;have hw:=hw.symm;subst hw;clear hI;go_wp2_with fail
  go_ret2;exact .inr ⟨⟨T,a,rfl,m⟩,q,f⟩
def SN(S:Src)(cb b:Nat)(bv:ay)(s:ByteArray)(eb lb:bG)(E:Pt->Prop):Src where
 T:=141
 a:=⟨b,0,none⟩
 base:=S.base
 F:=fun k=>jc S cb k\/k=b
 z:=0
 K:=fun w d t=>w.heap[b]?=some (OT cb bv)/\ja w eb S.fb lb S.base/\∃p left l,CR S cb s w p fD left l/\t<=d.size/\d.data.toList.drop t=jP s p left l/\∀P,Ends s p left l P↔E P
 KE:=fun w=>w.heap[b]?=some (OT cb bv)/\ja w eb S.fb lb S.base/\mP S cb w
 rP:=S.rP
 fb:=S.fb
theorem JS{d:ByteArray}{t:Nat}{b:UInt8}{r:List UInt8}(h:d.data.toList.drop t=b::r):t<d.size/\aF d t=b.toNat/\d.data.toList.drop (t+1)=r:=by
 have c:t<d.data.toList.length:=by
  rcases bW t d.data.toList.length with h1|h1
  ·exact h1
  ·rw[fU h1]at h;cases h
 have a:t<d.size:=by simpa using c
 rw[kX c]at h;injection h with h1 h2
 refine⟨a,?_,h2⟩;rw[mQ d t a,<-h1];rfl
theorem X_(S:Src)(cb o:Nat)(bv:ay)(s:ByteArray)(eb lb:bG)(E:Pt->Prop)(hS:S.Ok)(A:S.base<=cb)(B:S.base<=o)(v:¬S.F o)(q:o≠cb):(SN S cb o bv s eb lb E).Ok where
 ng:=hS.ng
 zn:=aX _
 low:=fun k i=>by
  rcases i with(i|rfl)|rfl
  ·exact hS.low k i
  ·exact A
  ·exact B
 ke:=fun⟨a,b,p,left,l,c,_⟩=>⟨a,b,c.e⟩
 Sl:=fun⟨a,b,c⟩ i=>by
  rcases i with(i|rfl)|rfl
  ·exact hS.Sl c.k i
  ·obtain⟨num,x,y,z,h1⟩:=c.oD;exact⟨_,_,_,h1,by decide⟩
  ·exact⟨_,_,_,a,by decide⟩
 iq:=fun⟨a,b,p,left,l,c,d,f,g⟩ e=>⟨(e _ (.inl (.inr rfl))).trans a,b.over (fun k i=>e k (.inr i)),p,left,l,c.over (fun k i=>e k (i.imp .inl id)),d,f,g⟩
 pg:=fun⟨a,b,c⟩ e=>⟨(e _ (.inl (.inr rfl))).trans a,b.over (fun k i=>e k (.inr i)),c.over (fun k i=>e k (i.imp .inl id))⟩
 hb:=fun⟨a,b,c⟩=>c.lt.2
 PG:=fun w d t ⟨a,b,p,left,l,c,hd,f,g⟩ L=>by
  have h:∀w',Fr (jc S cb) w w'->w'.heap[o]?=some (OT cb bv)/\ja w' eb S.fb lb S.base:=fun w' u=>⟨(u.block o (ak a) (fun e=>e.elim v q)).trans a,b.over (fun k i=>u.block k (by have:=c.e.lt.2;omega) (fun e=>by
   rcases e with e|e
   ·have:=hS.low k e;omega
   ·omega))⟩
  refine(IX S cb o bv s w eb lb p left l c a v q b).mono ?_;rintro e w' (⟨x,D,n,G,⟨j,H⟩,rfl,r,m⟩|⟨⟨T,C,rfl,j⟩,r,m⟩)
  ·obtain⟨M,I,J⟩:=JS (f.trans j);exact .inl ⟨by rw[I],⟨(h w' m).1,(h w' m).2,D,n,G,r,by omega,J,fun P=>(H P).trans (g P)⟩,m.mono (fun k i=> .inl i)⟩
  ·rcases j with⟨_,j⟩|⟨j,K⟩
   ·rw[j]at f;have:d.data.toList.length<=t:=List.drop_eq_nil_iff.1 f;have h2:d.data.toList.length=d.size:=by simp
    omega
   ·exact .inr ⟨_,T,C,rfl,j,K,⟨(h w' m).1,(h w' m).2,r⟩,m.mono (fun k i=> .inl i)⟩
 wE:=fun w d ⟨a,b,p,left,l,c,hd,f,g⟩=>by
  have h:∀w',Fr (jc S cb) w w'->w'.heap[o]?=some (OT cb bv)/\ja w' eb S.fb lb S.base:=fun w' u=>⟨(u.block o (ak a) (fun e=>e.elim v q)).trans a,b.over (fun k i=>u.block k (by have:=c.e.lt.2;omega) (fun e=>by
   rcases e with e|e
   ·have:=hS.low k e;omega
   ·omega))⟩
  have h0:jP s p left l=[]:=by rw[<-f];exact fU (by simp)
  refine(IX S cb o bv s w eb lb p left l c a v q b).mono ?_;rintro e w' (⟨x,D,n,G,⟨j,H⟩,rfl,r,m⟩|⟨⟨T,C,rfl,j⟩,r,m⟩)
  ·rw[h0]at j;cases j
  ·exact⟨_,T,C,rfl,Or.imp (fun g=>⟨g.1,trivial⟩) id j,⟨(h w' m).1,(h w' m).2,r⟩,m.mono (fun k i=> .inl i)⟩
theorem Dy(v:ay)(w:af):(Go.method 417 89 v "NextByte").run prog w= .ok (84,v) w:=by kernel_rfl
theorem Fe(S:Src)(cb:Nat)(s:ByteArray)(w:af)(p:Nat)(name:ByteArray)(l:List UInt8)(eb:bG)(h:CR S cb s w p name 0 l)(b:ny w eb):
 aH prog 84 #[.pointer (some ⟨cb,0,none⟩)] w fun e w'=>e= .returned (.tuple #[.int .u8 0,.iface 284 (.pointer (some eb))])/\∃nq,w'=w.drewN nq:=by
 obtain⟨num,c0,c1,c2,c3,c4,c,a⟩:=h.cells;clear c0 c1 c2 c4 c a;unfold ny at b;go_enter func84,ntmps84
 go_wp2_with fail
 go_quiet (fail)
 go_wp2_with fail
 go_ret2;exact⟨rfl,_,rfl⟩
theorem CR.pI{S:Src}{cb:Nat}{s:ByteArray}{w w':af}{p left:Nat}{name:ByteArray}{l:List UInt8}{eb lb:bG}(h:CR S cb s w p name left l)(a:ja w eb S.fb lb S.base)(b:Fr (jc S cb) w w'):ja w' eb S.fb lb S.base:=
 a.over (fun k c=>b.block k (by have:=h.e.lt.2;omega) (fun e=>by
  rcases e with e|e
  ·have:=h.ok.low k e;omega
  ·have:=h.base;omega))
theorem yN(S:Src)(cb:Nat)(s:ByteArray)(w:af)(eb lb:bG)(p left:Nat)(name:ByteArray)(l:List UInt8)(h:CR S cb s w p name (left+1) l)(j:ja w eb S.fb lb S.base):
 aH prog 101 #[.iface 89 (.pointer (some ⟨cb,0,none⟩))] w fun e w'=>
  (∃hp:p<s.size,e= .returned (.tuple #[.int .u8 ((aF s p:Nat):Int),.nilIface])/\CR S cb s w' (p+1) name left (l++[s[p]])/\Fr (jc S cb) w w')\/
  ((∃T a,e= .returned (.tuple #[.int .u8 0,.iface T (.pointer (some a))])/\dJ S w' T a (¬p<s.size))/\mP S cb w'/\Fr (jc S cb) w w'):=by
 have hm:=Dy;have g:=uQ S cb s w p left name l h;have b:=fun w' k=>h.pI j (w':=w') k;go_enter func101,ntmps101
 go_wp2_with fail
 refine g.mono ?_;clear g;rintro e w1 (⟨hp,rfl,d,c⟩|⟨⟨T,a,rfl,i⟩,d,c⟩)
 ·have f:=(b w1 c).en;unfold ny at f;go_wp2_with fail
  refine(Er.PK _ _).mono ?_;rintro e w2 ⟨rfl,hw⟩;have hw:=hw.symm;subst hw;go_wp2_with fail
  go_ret2;exact .inl ⟨hp,rfl,d,c⟩
 ·have f:=(b w1 c).en;have hI:=MW (b w1 c) i;unfold ny at f;go_wp2_with fail
  refine hI.mono ?_;rintro e w2 ⟨rfl,hw⟩;have hw:=hw.symm;subst hw;clear hI;go_wp2_with fail
  go_ret2;exact .inr ⟨⟨T,a,rfl,i⟩,d,c⟩
theorem Qi(S:Src)(cb:Nat)(s:ByteArray)(w:af)(eb lb:bG)(p:Nat)(name:ByteArray)(l:List UInt8)(h:CR S cb s w p name 0 l)(c:ja w eb S.fb lb S.base):
 aH prog 101 #[.iface 89 (.pointer (some ⟨cb,0,none⟩))] w fun e w'=>
  (∃T a,e= .returned (.tuple #[.int .u8 0,.iface T (.pointer (some a))])/\iQ w' T a)/\CR S cb s w' p name 0 l/\Fr (jc S cb) w w':=by
 have hm:=Dy;have d:=Fe S cb s w p name l eb h c.en;go_enter func101,ntmps101
 go_wp2_with fail
 refine d.mono ?_;clear d;rintro e w1 ⟨rfl,nq,b⟩;have f:ny w1 eb:=by rw[b];exact c.en
 have g:CR S cb s w1 p name 0 l:=by rw[b];exact h.grow (fun _ _=>rfl)
 have hF:Fr (jc S cb) w w1:=by rw[b];exact(Fr.refl _ w).drewN nq
 clear b;unfold ny at f;go_wp2_with fail
 refine(Er.aaI _ _).mono ?_;rintro e w2 ⟨rfl,hw⟩;have hw:=hw.symm;subst hw;go_wp2_with fail
 refine(cZ _ _).mono ?_;rintro e w3 ⟨rfl,rfl⟩;go_wp2_with fail
 go_ret2;exact⟨⟨_,_,rfl,iQ.mk _ _⟩,g.grow (fun k i=>ai _ _ k i),hF.alloc _⟩
def Ya(S:Src)(cb:Nat)(s:ByteArray)(eb lb:bG)(name:ByteArray)(p n:Nat)(l:List UInt8):Src where
 T:=89
 a:=⟨cb,0,none⟩
 base:=S.base
 F:=jc S cb
 z:=0
 K:=fun w d t=>d=fG s p n/\t<=n/\ja w eb S.fb lb S.base/\CR S cb s w (p+t) name (n-t) (l++cut s p t)
 KE:=fun w=>ja w eb S.fb lb S.base/\mP S cb w
 rP:=S.rP
 fb:=S.fb
theorem JU(s:ByteArray)(p n:Nat)(hp:p<=s.size):(fG s p n).size=min n (s.size-p):=by
 show(cut s p n).toArray.size=_;rw[AA];unfold cut;rw[eH,jm];have:s.data.toList.length=s.size:=by simp
 omega
theorem lT(s:ByteArray)(p n t:Nat)(a:t<n)(hp:p+t<s.size):aF (fG s p n) t=aF s (p+t):=by
 unfold aF;have e:(fG s p n).data.toList=cut s p n:=by unfold fG;simp
 rw[e];unfold cut;rw[ag,ag,dh a,gJ]
theorem MX(S:Src)(cb:Nat)(s:ByteArray)(eb lb:bG)(name:ByteArray)(p n:Nat)(l:List UInt8)(hS:S.Ok)(r:S.base<=cb)(hp:p<=s.size):(Ya S cb s eb lb name p n l).Ok where
 ng:=hS.ng
 zn:=aX _
 low:=fun k i=>by
  rcases i with i|rfl
  ·exact hS.low k i
  ·exact r
 ke:=fun⟨a,b,c,d⟩=>⟨c,d.e⟩
 Sl:=fun⟨a,c⟩ i=>by
  rcases i with i|rfl
  ·exact hS.Sl c.k i
  ·obtain⟨num,x,y,z,h1⟩:=c.oD;exact⟨_,_,_,h1,by decide⟩
 iq:=fun⟨a,b,c,d⟩ e=>⟨a,b,c.over (fun k i=>e k (.inr i)),d.over e⟩
 pg:=fun⟨a,c⟩ e=>⟨a.over (fun k i=>e k (.inr i)),c.over e⟩
 hb:=fun⟨a,c⟩=>c.lt.2
 PG:=fun w d t ⟨a,b,c,h⟩ A=>by
  subst a;rw[JU s p n hp]at A;have v:t<n:=by omega
  have q:p+t<s.size:=by omega
  obtain⟨m,hm⟩:∃m,n-t=m+1:=⟨n-t-1,by omega⟩;rw[hm]at h;refine(yN S cb s w eb lb (p+t) m name _ h c).mono ?_;rintro e w' (⟨u,rfl,o,f⟩|⟨⟨T,a,rfl,j⟩,o,f⟩)
  ·refine .inl ⟨by rw[lT s p n t v q],⟨rfl,by omega,h.pI c f,?_⟩,f⟩;have e:=gy s p t q;rw[e,<-bI,show n-(t+1)=m by omega];exact o
  ·rcases j with⟨_,j⟩|⟨j,B⟩
   ·exact absurd q j
   ·exact .inr ⟨_,T,a,rfl,j,B,⟨h.pI c f,o⟩,f⟩
 wE:=fun w d ⟨a,b,c,h⟩=>by
  subst a;rw[JU s p n hp]at b h;by_cases v:n<=s.size-p
  ·rw[show min n (s.size-p)=n by omega,iL]at h;refine(Qi S cb s w eb lb _ name _ h c).mono ?_;rintro e w' ⟨⟨T,a,rfl,j⟩,o,f⟩;exact⟨_,T,a,rfl,.inl ⟨j,trivial⟩,⟨h.pI c f,o.e⟩,f⟩
  ·rw[show min n (s.size-p)=s.size-p by omega]at h;obtain⟨m,hm⟩:∃m,n-(s.size-p)=m+1:=⟨n-(s.size-p)-1,by omega⟩;rw[hm]at h;refine(yN S cb s w eb lb _ m name _ h c).mono ?_;rintro e w' (⟨u,rfl,o,f⟩|⟨⟨T,a,rfl,j⟩,o,f⟩)
   ·omega
   ·exact⟨_,T,a,rfl,Or.imp (fun g=>⟨g.1,trivial⟩) id j,⟨h.pI c f,o⟩,f⟩
theorem adD{A B C D:Prop}{S:Src}{w w':af}{k:Nat}(h:(A/\B/\C/\Fr S.F w w')\/(D/\S.KE w'/\Fr S.F w w'))(a:k<w.heap.size)(b:¬S.F k):w'.heap[k]?=w.heap[k]?:=by rcases h with⟨_,_,_,h⟩|⟨_,_,h⟩<;>exact h.block k a b
theorem MZ(S:Src)(cb:Nat)(s:ByteArray)(w:af)(p left n:Nat)(name nm:ByteArray)(l:List UInt8)(h:CR S cb s w p name left l)(U:n<=2147483647)(r:nm.size=4):
 aH prog 54 #[.pointer (some ⟨cb,0,none⟩),.string nm,.int .i64 (n:Int)] w fun e w'=>
  (Match s p ((⟨(bQ n).toArray⟩:ByteArray)++nm)/\e= .returned .nilIface/\CR S cb s w' (p+8) nm n nm.data.toList/\Fr (jc S cb) w w')\/
  ((∃T a,e= .returned (.iface T (.pointer (some a)))/\dJ S w' T a (¬Match s p ((⟨(bQ n).toArray⟩:ByteArray)++nm)))/\mP S cb w'/\Fr (jc S cb) w w'):=by
 have F:(⟨(bQ n).toArray⟩:ByteArray).size=4:=rfl;have V:((⟨(bQ n).toArray⟩:ByteArray)++nm).size=8:=by rw[gX,F,r]
 have L:=fun w'=>zH n w' (by omega);have t:IntKind.u32.wrap (n:Int)=(n:Int):=by rw[IntKind.wrap_u32];omega
 rw[<-t]at L;clear t;obtain⟨num,c0,c1,c2,c3,c4,M,u⟩:=h.cells;have W:=M 1;have x:=h.num (wrap64 (num+1));have y:Fr (jc S cb) w (w.setCell ⟨cb,1,none⟩ (.int .i64 (wrap64 (num+1)))):=(Fr.refl (jc S cb) w).set cb 1 (.inr rfl) _;clear c2 c3 c4 M u;generalize (⟨(bQ n).toArray⟩:ByteArray)=G at*;have X:au (Match s p (G++nm)->p+8<=s.size):=(fun hm=>by have:=hm.1;omega:_->_);obtain⟨Q,H⟩:∃Q:Prop,Q=Match s p (G++nm):=⟨_,rfl⟩;rw[<-H]at X|-;have N:au _:=H;clear H;go_enter func54,ntmps54
 go_upto_region 2 with fail
 generalize (w.setCell ⟨cb,1,none⟩ (.int .i64 (wrap64 (num+1))))=w0 at*;clear c0 c1 W;obtain⟨O,P,_,_,_,_,_,_⟩:=x.cells;go_cut [7] (fun v7 wx=> ∃v:ay,v7=v/\((Q/\v= .nilIface/\CR S cb s wx (p+8) name left l/\Fr (jc S cb) w0 wx)\/((∃T a,v= .iface T (.pointer (some a))/\dJ S wx T a (¬Q))/\mP S cb wx/\Fr (jc S cb) w0 wx)))
 case first=>
  go_region_held3 (fun w'=>w'.cell? ⟨cb,0,none⟩=some (.iface S.T (.pointer (some S.a)))) (first|go_keep|exact I|exact z) (first
   |(go_at_call 80;refine(L _).mono ?_;rintro e w3 ⟨rfl,c⟩;have b:CR S cb s w3 p name left l:=x.grow (fun k j=>c.block k j);obtain⟨A,z,_,_,_,_,_,m⟩:=b.cells)
   |(go_at_call 79;refine(E_ S b.ok s (G++nm) _ p _ b.k b.le (by omega)).mono ?_;rintro e Y ⟨v4,rfl,B⟩;have I:Y.cell? ⟨cb,0,none⟩=some (.iface S.T (.pointer (some S.a))):=(aQ (adD B (ak m) b.no)).trans z))
  all_goals
   go_wp2_with fail
   go_meet
   case rel=>
    refine⟨v4,rfl,?_⟩;have C:Fr (jc S cb) w0 w3:=⟨c.os,c.tape,c.output,c.size,fun k j _=>c.block k j⟩;rcases B with⟨f,rfl,d,g⟩|⟨⟨T,a,rfl,f⟩,d,g⟩
    ·rw[V]at d;have J:=b.src d (by have:=f.1;omega) g;exact .inl ⟨by rw[N.out];exact f,rfl,J,C.trans (g.mono (fun k j=> .inl j))⟩
    ·exact .inr ⟨⟨T,a,rfl,f.imp (fun q R=>q (by rw[N.out]at R;exact R))⟩,b.MF d g,C.trans (g.mono (fun k j=> .inl j))⟩
 case rest=>
  obtain⟨v,rfl,Z⟩:=hcut;rcases Z with⟨f,rfl,d,g⟩|⟨⟨T,a,rfl,f⟩,d,g⟩
  ·have K:au Q:=f;have i:=IU nm wc (by rw[r];omega) d.tab;obtain⟨A,u0,u1,u2,u3,u4,E,_⟩:=d.cells;have z2:=E 2;have z3:=E 3;have z4:=E 4;have D:au _:=d.begun nm n U;clear f u0 u1 E P;generalize gQ nm.data.toList=cc at*;go_wp2_with fail
   refine i.mono ?_;rintro e wz ⟨rfl,o⟩;have o:=o.symm;subst o;clear i;go_wp2_with fail
   go_ret;obtain⟨y1,y2⟩:=D.out;exact .inl ⟨K.out,rfl,y1,(y.trans g).trans y2⟩
  ·clear P;go_wp2_with fail
   go_ret;exact .inr ⟨⟨T,a,rfl,f⟩,d,y.trans g⟩
end Pr
namespace Pr
open Go.RowKit Rf Cr
open gI (cut fK dZ gy gW h_ bQ gQ fO dw bz gu)
def abf:ByteArray:=(⟨(bQ 13).toArray⟩:ByteArray)++qi
def H0(s:ByteArray):Prop:=Match s 0 pJ/\Match s 8 abf/\CB (fG s 16 13) 0/\jw s 29 0 (qi.data.toList++cut s 16 13)
def acU(s:ByteArray):ay:=qc (bz (fG s 16 13) 0) (bz (fG s 16 13) (0+4)) (aF (fG s 16 13) (0+8)) (aF (fG s 16 13) (0+9)) (decide (aF (fG s 16 13) (0+12)=1))
structure GY(S:Src)(cb:Nat)(w0 w:af)(rb:Nat):Prop where
 r:w.heap[rb]?=some (.cells (uG 0 0 0 0 false) 102 (0,0))
 nr:¬jc S cb rb
 br:S.base<=rb
 SE:w0.heap.size<=rb
 fr:Fr (jc S cb) w0 w
theorem GY.step{S:Src}{cb:Nat}{w0 w w':af}{rb:Nat}(h:GY S cb w0 w rb)(a:Fr (jc S cb) w w'):GY S cb w0 w' rb:=
 ⟨(a.block rb (ak h.r) h.nr).trans h.r,h.nr,h.br,h.SE,h.fr.trans a⟩
theorem GY.cells{S:Src}{cb:Nat}{w0 w:af}{rb:Nat}(h:GY S cb w0 w rb):
 (w.cell? ⟨rb,0,none⟩=some (.int .i64 0)/\w.cell? ⟨rb,1,none⟩=some (.int .i64 0)/\w.cell? ⟨rb,2,none⟩=some (.int .i64 0)/\w.cell? ⟨rb,3,none⟩=some (.int .u8 0)/\w.cell? ⟨rb,4,none⟩=some (.bool false))/\(∀i,w.frozen? ⟨rb,i,none⟩=false):=
 ⟨⟨by simpa [uG]using(cell_of h.r 0).1,by simpa [uG]using(cell_of h.r 1).1,by simpa [uG]using(cell_of h.r 2).1,by simpa [uG]using(cell_of h.r 3).1,by simpa [uG]using(cell_of h.r 4).1⟩,fun i=>(cell_of h.r i).2⟩
theorem GY.out{S:Src}{cb:Nat}{w0 w:af}{rb:Nat}(h:GY S cb w0 w rb)(v0 v1 v2 d v4:ay):
 Fr (jc S cb) w0 (((((w.setCell ⟨rb,0,none⟩ v0).setCell ⟨rb,1,none⟩ v1).setCell ⟨rb,2,none⟩ v2).setCell ⟨rb,3,none⟩ d).setCell ⟨rb,4,none⟩ v4)/\
 (∀T a P,dJ S w T a P->dJ S (((((w.setCell ⟨rb,0,none⟩ v0).setCell ⟨rb,1,none⟩ v1).setCell ⟨rb,2,none⟩ v2).setCell ⟨rb,3,none⟩ d).setCell ⟨rb,4,none⟩ v4) T a P)/\
 (mP S cb w->mP S cb (((((w.setCell ⟨rb,0,none⟩ v0).setCell ⟨rb,1,none⟩ v1).setCell ⟨rb,2,none⟩ v2).setCell ⟨rb,3,none⟩ d).setCell ⟨rb,4,none⟩ v4))/\
 ∀s p name left l,CR S cb s w p name left l->CR S cb s (((((w.setCell ⟨rb,0,none⟩ v0).setCell ⟨rb,1,none⟩ v1).setCell ⟨rb,2,none⟩ v2).setCell ⟨rb,3,none⟩ d).setCell ⟨rb,4,none⟩ v4) p name left l:=by
 have e:∀k,k≠rb->(((((w.setCell ⟨rb,0,none⟩ v0).setCell ⟨rb,1,none⟩ v1).setCell ⟨rb,2,none⟩ v2).setCell ⟨rb,3,none⟩ d).setCell ⟨rb,4,none⟩ v4).heap[k]?=w.heap[k]?:=fun k b=>(aC 4 _ b).trans ((aC 3 _ b).trans ((aC 2 _ b).trans ((aC 1 _ b).trans (aC 0 _ b))));have b:∀k,jc S cb k\/k<S.base->k≠rb:=fun k b e=>b.elim (fun b=>h.nr (e▸b)) (fun b=>by have:=h.br;omega);refine⟨((((h.fr.dY rb 0 h.SE v0).dY rb 1 h.SE v1).dY rb 2 h.SE v2).dY rb 3 h.SE d).dY rb 4 h.SE v4,fun T a P hw=>hw.over (fun k cur f b=>e k (fun e=> ?_)),fun g=>g.over (fun k c=>e k (b k c)),fun s p name left l g=>g.over (fun k c=>e k (b k c))⟩;rw[e,h.r]at b;simp at b
theorem GY.start{S:Src}{cb:Nat}{s:ByteArray}{w:af}{p left:Nat}{name:ByteArray}{l:List UInt8}(h:CR S cb s w p name left l):GY S cb w (w.alloc (.cells (uG 0 0 0 0 false) 102)) w.heap.size:=by have a:=h.e.lt;exact⟨(gY w _).1,fun e=>by have:=a.1 _ (.inl e);omega,a.2,ah _,(Fr.refl _ w).alloc _⟩
theorem UQ(S:Src)(cb:Nat)(s:ByteArray)(w:af)(eb lb:bG)(name:ByteArray)(p:Nat)(l:List UInt8)(h:CR S cb s w p name 13 l)(g:ja w eb S.fb lb S.base):
 aH prog 55 #[.iface 89 (.pointer (some ⟨cb,0,none⟩))] w fun e w'=>
  (CB (fG s p 13) 0/\e= .returned (.tuple #[qc (bz (fG s p 13) 0) (bz (fG s p 13) (0+4)) (aF (fG s p 13) (0+8)) (aF (fG s p 13) (0+9)) (decide (aF (fG s p 13) (0+12)=1)),.nilIface])/\CR S cb s w' (p+13) name 0 (l++cut s p 13)/\Fr (jc S cb) w w')\/
  ((∃T a,e= .returned (.tuple #[qc 0 0 0 0 false,.iface T (.pointer (some a))])/\dJ S w' T a (¬CB (fG s p 13) 0))/\mP S cb w'/\Fr (jc S cb) w w'):=by
 refine(UG (Ya S cb s eb lb name p 13 l) (MX S cb s eb lb name p 13 l h.ok h.base h.le) (fG s p 13) 0 w ⟨rfl,aX _,g,by rw[dZ,kU];exact h⟩ (aX _)).mono ?_;rintro e w' (⟨c,d,b,f⟩|⟨⟨T,a,c,d⟩,b,f⟩)
 ·obtain⟨_,_,_,b⟩:=b;exact .inl ⟨c,d,b,f⟩
 ·exact .inr ⟨⟨T,a,c,d⟩,b.2,f⟩
theorem adE(a b:Nat)(c:a<=2147483647)(hb:b<=2147483647):a*b<18446744073709551616:=by have:=bD c hb;omega
theorem JV(S:Src)(cb:Nat)(s:ByteArray)(w:af)(limit:Nat)(eb lb:bG)(name:ByteArray)(l:List UInt8)(h:CR S cb s w 0 name 0 l)(hs:ja w eb S.fb lb S.base)(b5:limit<=1048576):
 aH prog 43 #[.pointer (some ⟨cb,0,none⟩),.int .i64 (limit:Int)] w fun e w'=>
  (H0 s/\bz (fG s 16 13) 0*bz (fG s 16 13) (0+4)<=limit/\e= .returned (.tuple #[acU s,.nilIface])/\CR S cb s w' 33 qi 0 ((qi.data.toList++cut s 16 13)++[])/\Fr (jc S cb) w w')\/
  (((H0 s/\limit<bz (fG s 16 13) 0*bz (fG s 16 13) (0+4))/\∃w0,S.K w0 s 33)/\e= .returned (.tuple #[qc 0 0 0 0 false,.iface 284 (.pointer (some lb))])/\mP S cb w'/\Fr (jc S cb) w w')\/
  ((∃T a,e= .returned (.tuple #[qc 0 0 0 0 false,.iface T (.pointer (some a))])/\dJ S w' T a (¬H0 s))/\mP S cb w'/\Fr (jc S cb) w w'):=by
 have g:au (H0 s↔Match s 0 pJ/\Match s 8 abf/\CB (fG s 16 13) 0/\jw s 29 0 (qi.data.toList++cut s 16 13)):=Iff.rfl;obtain⟨Q,hQ⟩:∃Q:Prop,Q=H0 s:=⟨_,rfl⟩;rw[<-hQ]at g|-;clear hQ;have A:=GY.start h;have N:CR S cb s (w.alloc (.cells (uG 0 0 0 0 false) 102)) 0 name 0 l:=h.grow (fun k hk=>ai w _ k hk);have a0:w.alloc (.cells (uG 0 0 0 0 false) 102)=w.alloc (.cells #[.int .i64 0,.int .i64 0,.int .i64 0,.int .u8 0,.bool false] 102):=rfl;rw[a0]at A N;clear a0;have j:=fun w' (hf:Fr (jc S cb) w w')=>h.pI hs hf;go_enter func43,ntmps43
 go_wp2_with fail
 generalize (w.alloc (.cells #[.int .i64 0,.int .i64 0,.int .i64 0,.int .u8 0,.bool false] 102))=w0 at*;generalize b6:w.heap.size=rb at*;refine(XY S cb s _ 0 0 name l N).mono ?_;rintro e w1 (⟨c,rfl,f,d⟩|⟨⟨T,a,rfl,c⟩,f,d⟩);rotate_left
 ·have b:=A.step d;have O:dJ S w1 T a (¬Q):=c.imp (fun q R=>q (g.out.1 R).1);obtain⟨⟨o,p,t,u,x⟩,bf⟩:=b.cells;have x0:=bf 0;have x1:=bf 1;have x2:=bf 2;have x3:=bf 3;have x4:=bf 4;clear c bf;go_wp2_with fail
  refine a_ (v:= .tuple #[qc 0 0 0 0 false,.iface T (.pointer (some a))]) (by simp[results,results43,go_sem,qc,o,p,t,u,x]) rfl ?_;obtain⟨m,B,y,z4⟩:=b.out (.int .i64 0) (.int .i64 0) (.int .i64 0) (.int .u8 0) (.bool false);exact .inr (.inr ⟨⟨T,a,rfl,B _ _ _ O⟩,y f,m⟩)
 have b:=A.step d;have A1:au (Match s 0 pJ):=c;clear c d A N;rw[fQ]at f;have a1:=MZ S cb s w1 8 0 13 name qi l f (by omega) rfl;go_wp2_with fail
 refine a1.mono ?_;clear a1;rintro e w2 (⟨c,rfl,k1,d⟩|⟨⟨T,a,rfl,c⟩,f,d⟩);rotate_left
 ·have b:=b.step d;have O:dJ S w2 T a (¬Q):=c.imp (fun q R=>q (g.out.1 R).2.1);obtain⟨⟨o,p,t,u,x⟩,bf⟩:=b.cells;have x0:=bf 0;have x1:=bf 1;have x2:=bf 2;have x3:=bf 3;have x4:=bf 4;clear c bf;go_wp2_with fail
  refine a_ (v:= .tuple #[qc 0 0 0 0 false,.iface T (.pointer (some a))]) (by simp[results,results43,go_sem,qc,o,p,t,u,x]) rfl ?_;obtain⟨m,B,y,z4⟩:=b.out (.int .i64 0) (.int .i64 0) (.int .i64 0) (.int .u8 0) (.bool false);exact .inr (.inr ⟨⟨T,a,rfl,B _ _ _ O⟩,y f,m⟩)
 have C:=b.step d;have A2:au (Match s 8 abf):=c;clear c d b f;have hH:=UQ S cb s w2 eb lb qi 16 qi.data.toList k1 (j w2 C.fr);go_wp2_with fail
 refine hH.mono ?_;clear hH;rintro e w3 (⟨c,rfl,M,d⟩|⟨⟨T,a,rfl,c⟩,f,d⟩);rotate_left
 ·have b:=(C.step d).step ((Fr.refl (jc S cb) w3).alloc (.cells (uG 0 0 0 0 false) 102));have f:mP S cb (w3.alloc (.cells (uG 0 0 0 0 false) 102)):=f.grow (fun k hk=>ai _ _ k hk);have c:dJ S (w3.alloc (.cells (uG 0 0 0 0 false) 102)) T a (¬CB (fG s 16 13) 0):=c.alloc _;have E:w3.alloc (.cells (uG 0 0 0 0 false) 102)=w3.alloc (.cells #[.int .i64 0,.int .i64 0,.int .i64 0,.int .u8 0,.bool false] 102):=rfl;rw[E]at b f c;unfold qc;have O:dJ S (w3.alloc (.cells #[.int .i64 0,.int .i64 0,.int .i64 0,.int .u8 0,.bool false] 102)) T a (¬Q):=c.imp (fun q R=>q (g.out.1 R).2.2.1);obtain⟨⟨o,p,t,u,x⟩,bf⟩:=b.cells;have x0:=bf 0;have x1:=bf 1;have x2:=bf 2;have x3:=bf 3;have x4:=bf 4;clear c bf;go_wp2_with fail
  refine a_ (v:= .tuple #[qc 0 0 0 0 false,.iface T (.pointer (some a))]) (by simp[results,results43,go_sem,qc,o,p,t,u,x]) rfl ?_;obtain⟨m,B,y,z4⟩:=b.out (.int .i64 0) (.int .i64 0) (.int .i64 0) (.int .u8 0) (.bool false);unfold qc;exact .inr (.inr ⟨⟨T,a,rfl,B _ _ _ O⟩,y f,m⟩)
 have A3:au (CB (fG s 16 13) 0):=c;have hW:bz (fG s 16 13) 0<=2147483647:=c.1.1.2;have hH:bz (fG s 16 13) (0+4)<=2147483647:=c.2.1.1.2;have hD:=bY (fG s 16 13) (0+8);have a3:=bY (fG s 16 13) (0+9);have HV:au (acU s=qc (bz (fG s 16 13) 0) (bz (fG s 16 13) (0+4)) (aF (fG s 16 13) (0+8)) (aF (fG s 16 13) (0+9)) (decide (aF (fG s 16 13) (0+12)=1))):=rfl;obtain⟨W,F⟩:∃W,W=bz (fG s 16 13) 0:=⟨_,rfl⟩;obtain⟨H,G⟩:∃H,H=bz (fG s 16 13) (0+4):=⟨_,rfl⟩;obtain⟨D,U⟩:∃D,D=aF (fG s 16 13) (0+8):=⟨_,rfl⟩;obtain⟨K,V⟩:∃K,K=aF (fG s 16 13) (0+9):=⟨_,rfl⟩;obtain⟨I,X⟩:∃I,I=decide (aF (fG s 16 13) (0+12)=1):=⟨_,rfl⟩;rw[<-F]at hW HV;rw[<-G]at hH HV;rw[<-U]at hD HV;rw[<-V]at a3 HV;rw[<-X]at HV;rw[<-F,<-G,<-U,<-V,<-X];have EW:au _:=F;have EH:au _:=G;clear F G U V X c;have Y:=C.step d;have a4:¬jc S cb w3.heap.size:=fun e=>by have:=M.e.lt.1 _ (.inl e);omega
 have a7:=ak Y.r;have J:=Y.step ((Fr.refl (jc S cb) w3).alloc (.cells (uG W H D K I) 102));have Z:CR S cb s (w3.alloc (.cells (uG W H D K I) 102)) 29 qi 0 (qi.data.toList++cut s 16 13):=M.grow (fun k hk=>ai _ _ k hk);have L:=(gY w3 (.cells (uG W H D K I) 102)).1;have E:w3.alloc (.cells (uG W H D K I) 102)=w3.alloc (.cells #[.int .i64 (W:Int),.int .i64 (H:Int),.int .i64 (D:Int),.int .u8 (K:Int),.bool I] 102):=rfl;rw[E]at J Z L;clear E M d C Y;unfold qc;go_wp2_with fail
 generalize a8:w3.heap.size=ob at*;generalize w3.alloc (.cells #[.int .i64 (W:Int),.int .i64 (H:Int),.int .i64 (D:Int),.int .u8 (K:Int),.bool I] 102)=w4 at*;refine(wO S cb s _ 29 0 qi _ Z).mono ?_;rintro e z (⟨c,rfl,M,d⟩|⟨⟨T,a,rfl,c⟩,f,d⟩);rotate_left
 ·have b:=J.step d;have O:dJ S z T a (¬Q):=c.imp (fun q R=>q (g.out.1 R).2.2.2);obtain⟨⟨o,p,t,u,x⟩,bf⟩:=b.cells;have x0:=bf 0;have x1:=bf 1;have x2:=bf 2;have x3:=bf 3;have x4:=bf 4;clear c bf;go_wp2_with fail
  refine a_ (v:= .tuple #[qc 0 0 0 0 false,.iface T (.pointer (some a))]) (by simp[results,results43,go_sem,qc,o,p,t,u,x]) rfl ?_;obtain⟨m,B,y,z4⟩:=b.out (.int .i64 0) (.int .i64 0) (.int .i64 0) (.int .u8 0) (.bool false);exact .inr (.inr ⟨⟨T,a,rfl,B _ _ _ O⟩,y f,m⟩)
 have a2:au Q:=(g.out.2 ⟨A1.out,A2.out,A3.out,c⟩:Q);have n:=J.step d;have i:z.heap[ob]?=_:=(d.block ob (ak L) a4).trans L;rw[dZ]at M;have o0:z.cell? ⟨ob,0,none⟩=some (.int .i64 (W:Int)):=by simpa [uG]using(cell_of i 0).1
 have o1:z.cell? ⟨ob,1,none⟩=some (.int .i64 (H:Int)):=by simpa [uG]using(cell_of i 1).1
 have o2:z.cell? ⟨ob,2,none⟩=some (.int .i64 (D:Int)):=by simpa [uG]using(cell_of i 2).1
 have o3:z.cell? ⟨ob,3,none⟩=some (.int .u8 (K:Int)):=by simpa [uG]using(cell_of i 3).1
 have o4:z.cell? ⟨ob,4,none⟩=some (.bool I):=by simpa [uG]using(cell_of i 4).1
 obtain⟨⟨o,p,t,u,x⟩,bf⟩:=n.cells;have x0:=bf 0;have x1:=bf 1;have x2:=bf 2;have x3:=bf 3;have x4:=bf 4;have hmul:=adE W H hW hH;obtain⟨P,hP⟩:∃P,P=W*H:=⟨_,rfl⟩;have b7:IntKind.u64.wrap ((W:Int)*(H:Int))=(P:Int):=by
  rw[IntKind.wrap_u64];have e:(W:Int)*(H:Int)=((W*H:Nat):Int):=by simp
  rw[e,<-hP];have:P<18446744073709551616:=by rw[hP];exact hmul
  omega
 have EP:au (P=bz (fG s 16 13) 0*bz (fG s 16 13) (0+4)):=(by rw[hP,EW.out,EH.out]:_=_);clear c d i L J Z bf hmul hP;by_cases a9:limit<P
 ·have d1:decide ((limit:Int)<(P:Int))=true:=aZ (by omega);have a5:=(j z n.fr).la;unfold uB at a5;have a6:rb≠1:=by have:=n.br;have:=h.ok.ng;omega
  have b8:=rG a6;go_wp2_with fail
  go_region
  go_wp2_with fail
  refine a_ (v:= .tuple #[qc 0 0 0 0 false,.iface 284 (.pointer (some lb))]) (by simp[results,results43,go_sem,qc,o,p,t,u,x]) rfl ?_;obtain⟨m,B,y,z4⟩:=(n.step ((Fr.refl (jc S cb) z).drew)).out (.int .i64 0) (.int .i64 0) (.int .i64 0) (.int .u8 0) (.bool false);exact .inr (.inl ⟨⟨⟨a2.out,by rw[<-EP.out];omega⟩,z,M.k⟩,rfl,y (M.e.grow (fun _ _=>rfl)),m⟩)
 ·have d1:decide ((limit:Int)<(P:Int))=false:=aS (by omega);go_wp2_with fail
  refine a_ (v:= .tuple #[qc W H D K I,.nilIface]) (by simp[results,results43,go_sem,qc,o,p,t,u,x]) rfl ?_;obtain⟨m,B,y,z4⟩:=n.out (.int .i64 (W:Int)) (.int .i64 (H:Int)) (.int .i64 (D:Int)) (.int .u8 (K:Int)) (.bool I);exact .inl ⟨a2.out,by rw[<-EP.out];omega,by rw[HV.out],z4 _ _ _ _ _ M,m⟩
end Pr
end Go.Proofs.YtephkcdbnogdhabGreatDoor
