import Derived.Deep.RegionLaw
import Derived.Laws.CopyOwn
import Derived.Laws.CopyRow
import Derived.Test.YtephkcdbnogdhaaGreatDoorM22
import Derived.Test.YtephkcdbnogdhaaGreatDoorM23
set_option linter.unusedVariables false
set_option maxHeartbeats 40000000
set_option maxRecDepth 10000
namespace Go.Proofs.YtephkcdbnogdhaaGreatDoor
open Go.Proofs.Tryz
open Go renaming World->af,Value->ay,Calls->aF,TypeId->aY,Addr->bP
open Go.RowKit renaming Hid->ah,Below->aJ,intOf->aX
namespace Pr
open Go.RowKit Rf Cr
def yX(x sx y sy W H:Nat):ay:= .agg #[.int .i64 (x:Int),.int .i64 (sx:Int),.int .i64 (y:Int),.int .i64 (sy:Int),.int .i64 (W:Int),.int .i64 (H:Int)]
theorem EG(rb bits x sx y sy W H:Nat)(w:af)(a:rb<w.heap.size)(c0:w.cell? ⟨rb,0,none⟩=some (.int .i64 (bits:Int)))(hb:bits<=64)(hW:W<=4294967296):
 aF prog 190 #[.pointer (some ⟨rb,0,none⟩),yX x sx y sy W H] w fun e w'=>e= .returned (.int .i64 (((W*bits+7)/8:Nat):Int))/\aJ w.heap.size w w':=by
 have hm:W*bits<=4294967296*64:=bT hW hb;have hmul:(W:Int)*(bits:Int)=((W*bits:Nat):Int):=by rw[Int.natCast_mul]
 have b:∀o,(w.alloc o).cell? ⟨rb,0,none⟩=some (.int .i64 (bits:Int)):=fun o=>(aV (aj w o rb a)).trans c0;unfold yX;generalize W*bits=M at*;clear c0;go_enter func190,ntmps190
 go_wp2_with fail
 go_quiet (fail)
 go_wp2_with fail
 go_ret;exact⟨dP (by first|rfl|omega),kW.cZ ((aP _ _).alloc (ag _) _)⟩
open h_ (cut gz eP gJ iq iG iw jo jd dF aT fV di)
theorem aaj(w:af):(Instr.index 120 (.agg #[.int .i64 256,.int .i64 1]) (.int .i64 0)).run prog w= .ok (.int .i64 256) w:=by kernel_rfl
theorem aak(w:af):(Instr.index 120 (.agg #[.int .i64 256,.int .i64 1]) (.int .i64 1)).run prog w= .ok (.int .i64 1) w:=by kernel_rfl
def Bd(s:ByteArray)(t B:Nat):Prop:=t+2<=s.size/\256*aA s t+aA s (t+1)<B
theorem XG(S:Src)(hS:S.Ok)(s:ByteArray)(t B:Nat)(w:af)(hK:S.K w s t)(J:t<=s.size)(P:B<=65536):
 aF prog 234 #[.iface S.T (.pointer (some S.a)),.int .i64 (B:Int)] w fun e w'=>
  (Bd s t B/\e= .returned (.tuple #[.int .u16 ((256*aA s t+aA s (t+1):Nat):Int),.nilIface])/\S.K w' s (t+2)/\Fr S.F w w')\/
  ((∃T a,e= .returned (.tuple #[.int .u16 0,.iface T (.pointer (some a))])/\dO S w' T a (¬Bd s t B))/\S.KE w'/\Fr S.F w w'):=by
 have g:ah (Bd s t B↔t+2<=s.size/\256*aA s t+aA s (t+1)<B):=Iff.rfl;obtain⟨Q,I⟩:∃Q:Prop,Q=Bd s t B:=⟨_,rfl⟩;rw[<-I]at g|-;clear I;have r:=dH s t;have u:=dH s (t+1);obtain⟨o,h⟩:∃y,y=aA s t:=⟨_,rfl⟩;obtain⟨q,i⟩:∃y,y=aA s (t+1):=⟨_,rfl⟩;rw[<-h]at g r|-;rw[<-i]at g u|-;have v:ah _:=h;have x:ah _:=i;clear h i;obtain⟨V,z⟩:∃V:Nat,V=256*o+q:=⟨_,rfl⟩;rw[<-z];have L:ah _:=z;clear z;go_enter func234,ntmps234
 go_wp2_with fail
 go_loopw [6,12] (fun M A wr=> ∃j c:Nat,j<=2/\A= .int .i64 (j:Int)/\M= .int .i64 (c:Int)/\((j=0/\c=0)\/(j=1/\c=256*o)\/(j=2/\c=256*o+q/\c<B))/\t+j<=s.size/\S.K wr s (t+j)/\Fr S.F w wr) (fun _ A _=>2-(aX A).toNat)
 case atStart=>exact⟨0,0,aU _,rfl,rfl,.inl ⟨rfl,rfl⟩,J,hK,Fr.refl _ _⟩
 case round=>
  obtain⟨j,c,R,rfl,rfl,C,hle,l,hF⟩:=hrel;clear hK;rcases C with⟨rfl,rfl⟩|⟨rfl,C⟩|⟨rfl,C,N⟩
  ·have m:=hS.one wr s (t+0) l hle;rw[eH,<-v.out]at m;have D:=aaj wr;go_wp2_with fail
   refine m.mono ?_;clear m;rintro e w1 (⟨b,rfl,d,f⟩|⟨x0,T,a,rfl,b,d,f⟩);rotate_left
   ·have E:dO S w1 T a (¬Q):=b.imp (fun b n=>b (by have:=(g.out.1 n).1;omega));clear b;go_wp2_with fail
    go_ret2;exact .inr ⟨⟨T,a,rfl,E⟩,d,hF.trans f⟩
   by_cases p:B<=256*o
   ·have G:ah (¬Q):=(fun n=>by have:=(g.out.1 n).2;omega:¬_);go_wp2_with fail
    refine(dJ _ _).mono ?_;rintro e w3 ⟨rfl,rfl⟩;go_wp2_with fail
    go_ret2;exact .inr ⟨⟨_,_,rfl,dO.ve G.out⟩,hS.qK (hS.ke d) (fun k H=>aj _ _ k H),(hF.trans f).alloc _⟩
   ·go_wp2_with fail
    go_roundw
    case rel=>exact⟨1,256*o,by omega,rfl,by go_num,.inr (.inl ⟨rfl,rfl⟩),by omega,d,hF.trans f⟩
    case measure=>simp[aX]
  ·have m:=hS.one wr s (t+1) l hle;rw[<-x.out]at m;have D:=aak wr;go_wp2_with fail
   refine m.mono ?_;clear m;rintro e w1 (⟨b,rfl,d,f⟩|⟨x0,T,a,rfl,b,d,f⟩);rotate_left
   ·have E:dO S w1 T a (¬Q):=b.imp (fun b n=>b (by have:=(g.out.1 n).1;omega));clear b;go_wp2_with fail
    go_ret2;exact .inr ⟨⟨T,a,rfl,E⟩,d,hF.trans f⟩
   by_cases p:B<=c+q
   ·have G:ah (¬Q):=(fun n=>by have:=(g.out.1 n).2;omega:¬_);go_wp2_with fail
    refine(dJ _ _).mono ?_;rintro e w3 ⟨rfl,rfl⟩;go_wp2_with fail
    go_ret2;exact .inr ⟨⟨_,_,rfl,dO.ve G.out⟩,hS.qK (hS.ke d) (fun k H=>aj _ _ k H),(hF.trans f).alloc _⟩
   ·go_wp2_with fail
    go_roundw
    case rel=>exact⟨2,c+q,by omega,rfl,by go_num,.inr (.inr ⟨rfl,by omega,by omega⟩),by omega,d,hF.trans f⟩
    case measure=>simp[aX]
  ·have O:ah Q:=(g.out.2 ⟨hle,by omega⟩:Q);go_wp2_with fail
   go_ret2;exact .inl ⟨O.out,vW (by rw[L.out];omega),l,hF⟩
theorem TR(W H D K:Nat)(I:Bool)(w:af):
 aF prog 149 #[qX W H D K I] w fun e w'=> ∃kb,e= .returned (.pointer (some ⟨kb,0,none⟩))/\w.heap.size<=kb/\aJ w.heap.size w w'/\∀base,jE w' kb base W H D K I (.slice none 0 0) [] false (.slice none 0 0) []:=by
 unfold qX;go_enter func149,ntmps149
 go_wp2_with fail
 go_ret;refine⟨_,rfl,by simp,(((aP _ _).alloc (ag _) _).alloc (by simp) _),fun base=>⟨?_,eX _ _ _ _,eX _ _ _ _⟩⟩;have e:=aO (w.alloc (.cells #[.int .i64 (W:Int),.int .i64 (H:Int),.int .i64 (D:Int),.int .u8 (K:Int),.bool I] 221)) (.cells #[.int .i64 (W:Int),.int .i64 (H:Int),.int .i64 (D:Int),.int .u8 (K:Int),.bool I,.slice none 0 0,.bool false,.slice none 0 0] 286);rw[qh]at e;exact e
theorem acY:(prog.info? 303).map (fun i=>(i.zero,i.size,i.bytes))=some (some (.agg #[.int .u16 0,.int .u16 0,.int .u16 0,.int .u16 0]),4,8):=by kernel_rfl
def z_(s:ByteArray)(q:Nat):Nat×Nat×Nat×Nat:=(di (aA s q) 8,di (aA s (q+1)) 8,di (aA s (q+2)) 8,65535)
def xI(s:ByteArray)(p:Nat):Nat->List (Nat×Nat×Nat×Nat)
 |0=>[]
 |m+1=>xI s p m++[z_ s (p+3*m)]
theorem wR(s:ByteArray)(p m:Nat):(xI s p m).length=m:=by
 induction m with
 |zero=>rfl
 |succ m a=>simp[xI,a]
def TS(s:ByteArray)(q i:Nat):Obj:= .cells #[.int .u16 ((if 0<i then di (aA s q) 8 else 0:Nat):Int),.int .u16 ((if 1<i then di (aA s (q+1)) 8 else 0:Nat):Int),.int .u16 ((if 2<i then di (aA s (q+2)) 8 else 0:Nat):Int),.int .u16 65535] 303 (0,0)
theorem aal{w:af}{b:Nat}{s:ByteArray}{q i:Nat}(h:w.heap[b]?=some (TS s q i))(hi:i<3):(w.setCell ⟨b,i,none⟩ (.int .u16 ((di (aA s (q+i)) 8:Nat):Int))).heap[b]?=some (TS s q (i+1)):=by refine(bG h i _).trans ?_;rcases(by omega:i=0\/i=1\/i=2)with rfl|rfl|rfl<;>simp[TS]
theorem XH{w:af}{b:Nat}{s:ByteArray}{q i:Nat}(h:w.heap[b]?=some (TS s q i))(hi:i<3):w.cell? ⟨b,i,none⟩=some (.int .u16 0):=by refine(cell_of h i).1.trans ?_;rcases(by omega:i=0\/i=1\/i=2)with rfl|rfl|rfl<;>simp
theorem XI{w:af}{b:Nat}{s:ByteArray}{q:Nat}(h:w.heap[b]?=some (TS s q 3)):w.cell? ⟨b,0,none⟩=some (.int .u16 (((z_ s q).1:Nat):Int))/\w.cell? ⟨b,1,none⟩=some (.int .u16 (((z_ s q).2.1:Nat):Int))/\w.cell? ⟨b,2,none⟩=some (.int .u16 (((z_ s q).2.2.1:Nat):Int))/\w.cell? ⟨b,3,none⟩=some (.int .u16 65535):=by exact⟨by refine(cell_of h 0).1.trans ?_;simp[z_],by refine(cell_of h 1).1.trans ?_;simp[z_],by refine(cell_of h 2).1.trans ?_;simp[z_],by refine(cell_of h 3).1.trans ?_;simp⟩
theorem zM{w:af}{base d:Nat}{T:aY}{z:Nat}{v:ay}{n:Nat}{xs:List ay}(h:w.ownsRow base T z v n xs)(hb:d<=base):w.ownsRow d T z v n xs:=by
 refine⟨h.1,?_⟩;rcases h.2 with h|⟨g,cap,cur,rfl,a,b,c⟩
 ·exact .inl h
 ·exact .inr ⟨g,cap,cur,rfl,by omega,b,c⟩
def XJ(S:Src)(cb kb:Nat)(k:Nat):Prop:=jP S cb k\/k=kb
def GU(s:ByteArray)(p n D K ne:Nat)(jG:Bool):Prop:=GR D K ne jG n/\p+n<=s.size
theorem oC.ne{S:Src}{cb:Nat}{w:af}(h:oC S cb w){k:Nat}{cur:Array ay}{T:aY}{f:Nat×Nat}(a:w.heap[k]?=some (.cells cur T f))(b:Ph T=false):¬jP S cb k:=by
 rintro(e|rfl)
 ·exact h.ok.ne h.k a b e
 ·obtain⟨num,name,left,sum,hb⟩:=h.nN;rw[hb]at a;cases a;exact Bool.noConfusion b
structure VM(S:Src)(cb kb:Nat)(w wi:af)(W H D K:Nat)(I jG:Bool)(cv v:ay)(s:ByteArray)(p m b i:Nat):Prop where
 e:wi.heap[b]?=some (TS s (p+3*m) i)
 k:wi.heap[kb]?=some (rU W H D K I v jG cv)
 o:wi.ownsRow w.heap.size 303 4 v m (fZ (xI s p m))
 ne:v.ownBlock≠some b
 b:w.heap.size<=b
 f:Fr (XJ S cb kb) w wi
theorem VM.fr{S:Src}{cb kb:Nat}{w wi w2:af}{W H D K:Nat}{I jG:Bool}{cv v:ay}{s:ByteArray}{p m b i:Nat}(h:VM S cb kb w wi W H D K I jG cv v s p m b i)(d:oC S cb wi)(c:Fr (jP S cb) wi w2):VM S cb kb w w2 W H D K I jG cv v s p m b i:=by
 refine⟨(c.block b (ai h.e) (d.ne h.e (by decide))).trans h.e,(c.block kb (ai h.k) (d.ne h.k (by decide))).trans h.k,iM h.o (fun k a=>c.block k (h.o.lt k a).2 (fun e=> ?_)),h.ne,h.b,h.f.trans (c.mono (fun k a=> .inl a))⟩;rcases h.o.2 with⟨rfl,_⟩|⟨g,cap,cur,rfl,_,j,_⟩
 ·simp[Value.ownBlock]at a
 ·simp[Value.ownBlock]at a;subst a;exact d.ne j (by decide) e
theorem VM.set{S:Src}{cb kb:Nat}{w wi:af}{W H D K:Nat}{I jG:Bool}{cv v:ay}{s:ByteArray}{p m b i:Nat}(h:VM S cb kb w wi W H D K I jG cv v s p m b i)(hi:i<3):VM S cb kb w (wi.setCell ⟨b,i,none⟩ (.int .u16 ((di (aA s (p+3*m+i)) 8:Nat):Int))) W H D K I jG cv v s p m b (i+1):=by
 have a:kb≠b:=fun e=>by have d:=h.k;rw[e,h.e]at d;simp[TS,rU]at d
 refine⟨aal h.e hi,(aB i _ a).trans h.k,iM h.o (fun k c=>aB i _ (fun e=>h.ne (e▸c))),h.ne,h.b,⟨h.f.os,h.f.tape,h.f.output,by simp;exact h.f.size,fun k c hF=>(aB i _ (fun e=>by have:=h.b;omega)).trans (h.f.block k c hF)⟩⟩
theorem VM.cr{S:Src}{cb kb:Nat}{w wi:af}{W H D K:Nat}{I jG:Bool}{cv v:ay}{s:ByteArray}{p m b i:Nat}(h:VM S cb kb w wi W H D K I jG cv v s p m b i)(hS:S.base<=w.heap.size){q left:Nat}{name:ByteArray}{l:List UInt8}(c:CR S cb s wi q name left l)(j:Nat)(x:ay):CR S cb s (wi.setCell ⟨b,j,none⟩ x) q name left l:=
 c.over (fun k a=>aB j x (fun e=>by
  rcases a with a|a
  ·exact c.e.ne (e▸h.e) (by decide) a
  ·have:=h.b;omega))
theorem EX(S:Src)(cb:Nat)(s:ByteArray)(w:af)(eb lb:bP)(p n:Nat)(name:ByteArray)(l:List UInt8)(h:CR S cb s w p name n l)(hs:jI w eb S.fb lb S.base)
 (kb base W H D K:Nat) (I:Bool) (ev:ay) (E:List (Nat×Nat×Nat×Nat)) (jG:Bool) (cv:ay) (C:List Nat) (O:jE w kb base W H D K I ev E jG cv C) (a4:E.length=0->ev= .slice none 0 0) (e4:S.base<=kb) (b4:base<=w.heap.size) (hD:jH D) (hK:K<=255) (hE:E.length<=1000):
 aF prog 184 #[.pointer (some ⟨kb,0,none⟩),.pointer (some ⟨cb,0,none⟩)] w fun e w'=>
  (GU s p n D K E.length jG/\e= .returned .nilIface/\CR S cb s w' (p+n) name 0 (l++cut s p n)/\(∃b5,jE w' kb base W H D K I b5 (xI s p (n/3)) jG cv C)/\Fr (XJ S cb kb) w w')\/
  ((∃T a,e= .returned (.iface T (.pointer (some a)))/\dO S w' T a (¬GU s p n D K E.length jG))/\oC S cb w'/\Fr (XJ S cb kb) w w'):=by
 have P:ah (GU s p n D K E.length jG↔GR D K E.length jG n/\p+n<=s.size):=Iff.rfl;obtain⟨Q,hQ⟩:∃Q:Prop,Q=GU s p n D K E.length jG:=⟨_,rfl⟩;rw[<-hQ]at P|-;clear hQ;have b6:=h.lf;have Z:=uQ S cb s w p n name l h;have hM:=TQ w kb base W H D K n I ev E jG cv C O hD hK b6 hE;have b7:¬jP S cb kb:=h.e.ne O.nN (by decide);have b8:ah _:=O.nN;have b9:ah (∀w',Fr (XJ S cb kb) w w'->w'.ownsRow base 39 1 cv C.length (dI C)):=(fun w' hf=>iM O.Bq (fun k d=>hf.block k (O.Bq.lt k d).2 (fun e=>by
  rcases O.Bq.2 with⟨rfl,_⟩|⟨g,cap,cur,rfl,_,hg,_⟩
  ·simp[Value.ownBlock]at d
  ·simp[Value.ownBlock]at d;subst d;rcases e with e|rfl
   ·exact h.e.ne hg (by decide) e
   ·have:=O.nN;rw[hg]at this;simp[rU]at this)):∀w',_)
 have e5:=ai O.nN;go_enter func184,ntmps184
 go_wp2_with fail
 refine Z.mono ?_;rintro e w1 ⟨rfl,hw⟩;have hw:=hw.symm;subst hw;clear Z;go_wp2_with fail
 refine hM.mono ?_;clear hM;rintro e w1 (⟨J,rfl,hw⟩|⟨a,rfl,c3,j⟩);rotate_left
 ·have HN:ah (¬Q):=(fun hq=>c3 (P.out.1 hq).1:¬_);go_wp2_with fail
  go_ret;exact .inr ⟨⟨_,_,rfl,dO.ve HN.out⟩,h.e.grow (fun k d=>j.block k d),⟨j.os,j.tape,j.output,j.size,fun k d _=>j.block k d⟩⟩
 have hw:=hw.symm;subst hw;have c4:E.length=0:=J.2.1;have e6:n%3=0:=J.2.2.2.2.2;have e7:n<=200000:=by
  have:=J.2.2.2.2.1;have hp:(if K=3 then pw D else 256)<=65536:=by
   split
   ·rcases hD with rfl|rfl|rfl|rfl|rfl<;>decide
   ·omega
  omega
 have c5:=a4 c4;subst c5;have c6:ah _:=J;clear J a4 hE O;go_wp2_with fail
 go_loopg [6] (n+1) (fun gk _ wr=> ∃(m:Nat) (v:ay),n-3*m<gk/\3*m<=n/\CR S cb s wr (p+3*m) name (n-3*m) (l++cut s p (3*m))/\wr.heap[kb]?=some (rU W H D K I v jG cv)/\wr.ownsRow w.heap.size 303 4 v m (fZ (xI s p m))/\Fr (XJ S cb kb) w wr)
 case atStart=>exact⟨0,_,by omega,by omega,by simpa [eP]using h,b8.out,eX _ _ _ _,Fr.refl _ _⟩
 case round=>
  obtain⟨m,v,c7,hm,hR,R,B,hF⟩:=hrel;have Z:=uQ S cb s wr _ _ name _ hR;obtain⟨r,hr⟩:∃r,r=n-3*m:=⟨_,rfl⟩;rw[<-hr]at Z hR c7;have e8:r<=200000:=by omega
  by_cases h0:r=0
  ·subst h0;have c8:ah (n=3*m):=(by omega:_=_);clear hr;go_wp2_with fail
   refine Z.mono ?_;rintro e w1 ⟨rfl,hw⟩;have hw:=hw.symm;subst hw;go_wp2_with fail
   go_ret;have c9:=c8.out;have e1:n/3=m:=by omega
   rw[e1];rw[<-c9]at hR;exact .inl ⟨P.out.2 ⟨c6.out,hR.le⟩,rfl,hR,⟨v,R,by rw[wR];exact zM B b4,b9.out _ hF⟩,hF⟩
  ·have e9:0<r:=by omega
   have f0:3<=r:=by omega
   have HR:ah _:=hr;clear hr;go_wp2_with fail
   refine Z.mono ?_;rintro e w1 ⟨rfl,hw⟩;have hw:=hw.symm;subst hw;clear Z;have q:=ai R;have a0:VM S cb kb w (wr.alloc (.cells #[.int .u16 0,.int .u16 0,.int .u16 0,.int .u16 65535] 303)) W H D K I jG cv v s p m wr.heap.size 0:=⟨aO wr _,(aj _ _ kb q).trans R,B.alloc _,fun e=>Nat.lt_irrefl _ (B.lt _ e).2,hF.size,hF.alloc _⟩;have a5:CR S cb s (wr.alloc (.cells #[.int .u16 0,.int .u16 0,.int .u16 0,.int .u16 65535] 303)) (p+3*m) name r (l++cut s p (3*m)):=hR.grow (fun k d=>aj _ _ k d);go_wp2_with fail
   obtain⟨bE,F⟩:∃b,b=wr.heap.size:=⟨_,rfl⟩;rw[<-F]at a0;rw[<-F];clear F;go_loopw [21] (fun iv wi=> ∃i:Nat,i<=3/\iv= .int .i64 (i:Int)/\CR S cb s wi (p+3*m+i) name (r-i) (l++cut s p (3*m)++cut s (p+3*m) i)/\VM S cb kb w wi W H D K I jG cv v s p m bE i) (fun iv _=>3-(aX iv).toNat)
   case atStart=>exact⟨0,by omega,rfl,by simpa [eP]using a5,a0⟩
   case round=>
    obtain⟨i,hi,rfl,G,c⟩:=hrel;clear a5 a0;have d0:=h.e.lt.2;by_cases a6:i<3
    ·obtain⟨q1,a1⟩:∃q1,r-i=q1+1:=⟨r-i-1,by omega⟩;rw[a1]at G;have d1:ah _:=a1;clear a1;have a7:jI wr eb S.fb lb S.base:=hs.over (fun k d=>c.f.block k (by omega) (fun e=>by
      rcases e with(e|e)|e
      ·have:=h.ok.low k e;omega
      ·have:=h.base;omega
      ·omega))
     have hN:=zL S cb s wr eb lb _ q1 name _ G a7;have hb:=dH s (p+3*m+i);have x:=fun w'=>GN (aA s (p+3*m+i)) 8 w' (by omega) (.inr (.inr (.inr (.inl rfl))));obtain⟨z,hz⟩:∃z,z=di (aA s (p+3*m+i)) 8:=⟨_,rfl⟩;rw[<-hz]at x;have HZ:ah _:=hz;clear hz;generalize aA s (p+3*m+i)=y at hb x hN;have U:ah _:=G;have V:ah _:=c;clear G c a7;go_wp2_with fail
     refine hN.mono ?_;clear hN;rintro e w2 (⟨hp,rfl,g1,g2⟩|⟨⟨T,a,rfl,g0⟩,g1,g2⟩)
     ·have X:=VM.fr V.out (CR.e U.out) g2;have ce:=XH X.e a6;have fe:=(cell_of X.e i).2;have a8:ah _:=X;clear X;go_wp2_with fail
      refine(x _).mono ?_;rintro e w3 ⟨rfl,hw⟩;have hw:=hw.symm;subst hw;go_wp2_with fail
      go_roundw
      case rel=>
       refine⟨i+1,by omega,by go_num,?_,?_⟩
       ·have e1:=gJ s (p+3*m) i hp;rw[e1,<-bV,show r-(i+1)=q1 by have:=d1.out;omega];exact VM.cr a8.out d0 g1 i _
       ·rw[HZ.out];exact VM.set a8.out a6
      case measure=>simp[aX];omega
     ·have HW:dO S w2 T a (¬Q):=g0.imp (fun g0 hq=>g0 (by have:=(P.out.1 hq).2;have:=HR.out;omega));clear g0;go_wp2_with fail
      go_ret;exact .inr ⟨⟨T,a,rfl,HW⟩,g1,(VM.fr V.out (CR.e U.out) g2).f⟩
    ·have e3:i=3:=by omega
     subst e3;obtain⟨la,cap,rfl⟩:=nX c.o;obtain⟨x0,x1,x2,x3⟩:=XI c.e;have k5:wr.cell? ⟨kb,5,none⟩=some (.slice la m cap):=by simpa [rU]using(cell_of c.k 5).1
     have a9:nH (z_ s (p+3*m))=[.int .u16 (((z_ s (p+3*m)).1:Nat):Int),.int .u16 (((z_ s (p+3*m)).2.1:Nat):Int),.int .u16 (((z_ s (p+3*m)).2.2.1:Nat):Int),.int .u16 65535]:=rfl;have b0:ah _:=a9;clear a9;obtain⟨z0,L⟩:∃z,z=(((z_ s (p+3*m)).1:Nat):Int):=⟨_,rfl⟩;obtain⟨z1,q⟩:∃z,z=(((z_ s (p+3*m)).2.1:Nat):Int):=⟨_,rfl⟩;obtain⟨z2,M⟩:∃z,z=(((z_ s (p+3*m)).2.2.1:Nat):Int):=⟨_,rfl⟩;rw[<-L,<-q,<-M]at b0;rw[<-L]at x0;rw[<-q]at x1;rw[<-M]at x2;clear L q M;have U:ah _:=G;have V:ah _:=c;have b1:ah _:=c.o;have f1:w.heap.size<=wr.heap.size:=c.f.size;have f2:m<=100000:=by omega
     have a2:=c.k;have F:=c.e;have d2:(Value.slice la m cap).ownBlock≠some kb:=gB c.o c.k (by decide);have d4:=c.ne;have b2:=ai a2;have b3:=ai F;have d5:ah _:=a2;clear G c B R hR a2 F;obtain⟨i0,d6,L,q,M⟩:=info_parts acY;go_wp2_with fail
     go_region_law (first
      |((refine step_append_lies _ (by rfl) _ _ _ (by rfl) w.heap.size 303 i0 _ 4 8 underlying284 d6 L q M rfl (by omega) (.slice la m cap) m (fZ (xI s p m)) (by rfl) (by exact(show wr.ownsRow _ _ _ _ _ _ from b1.out).alloc _) ⟨wr.heap.size,0,none⟩ 1 1 [.int .u16 z0,.int .u16 z1,.int .u16 z2,.int .u16 65535] (by rfl) rfl (World.news_of_block (cs:= #[.int .u16 z0,.int .u16 z1,.int .u16 z2,.int .u16 65535]) (t:=303) (fr:=(0,0)) (by exact aO wr _)) (by intro u hu;simp at hu;rcases hu with rfl|rfl|rfl|rfl<;>rfl) (by omega) (by unfold maxLen;omega) (by omega) (by simp;omega) _ rfl ?_;intro ng Y w4 N A f3 e0;have kB:w4.heap[kb]?=some (rU W H D K I (.slice la m cap) jG cv):=((A.block kb (by simp;omega) d2.symm).trans (aj wr _ kb b2)).trans d5.out;have eS:w4.heap[bE]?=wr.heap[bE]?:=(A.block bE (by simp;omega) d4.symm).trans (aj wr _ bE b3);have y5:w4.cell? ⟨kb,5,none⟩=some (.slice la m cap):=(by simpa [rU]using(cell_of kB 5).1);have g5:=(cell_of kB 5).2;have y0:=(aV eS).trans x0;have y1:=(aV eS).trans x1;have y2:=(aV eS).trans x2;have y3:=(aV eS).trans x3)))
     all_goals
      go_wp2_with fail
      go_roundg (r-3+1)
      case measure=>omega
      case rel=>
       have d7:=U.out;have d8:=V.out;have a3:wr.ownsRow w.heap.size 303 4 (.slice la m cap) m (fZ (xI s p m)):=b1.out;have hold:∀k,k<wr.heap.size->k≠kb->(Value.slice la m cap).ownBlock≠some k->(w4.setCell ⟨kb,5,none⟩ (.slice (some ⟨ng,0,none⟩) (m+1) Y)).heap[k]?=wr.heap[k]?:=fun k h1 h2 h3=>((aB 5 _ h2).trans (A.block k (by simp;omega) h3.symm)).trans (aj wr _ k h1);have hr:=HR.out;refine⟨m+1,.slice (some ⟨ng,0,none⟩) (m+1) Y,by omega,by omega,?_,(bG kB 5 _).trans (by simp[rU]),?_,?_⟩
       ·have hz:CR S cb s wr (p+3*(m+1)) name (n-3*(m+1)) (l++cut s p (3*(m+1))):=by
         rw[show p+3*(m+1)=p+3*m+3 by omega,show n-3*(m+1)=r-3 by omega,show 3*(m+1)=3*m+3 by omega,iG,<-bV];exact d7
        refine hz.over (fun k d=>hold k (hz.e.lt.1 k d) (fun e=> ?_) (fun e=> ?_))
        ·rcases d with d|d
         ·exact b7 (e▸d)
         ·omega
        ·rcases d with d|d
         ·rcases a3.2 with⟨hv,_⟩|⟨g,e2,cur,hv,_,hg,_⟩
          ·rw[hv]at e;simp[Value.ownBlock]at e
          ·rw[hv]at e;simp[Value.ownBlock]at e;subst e;exact hz.e.ne hg (by decide) d
         ·have:=(a3.lt k e).1;omega
       ·have d9:fZ (xI s p (m+1))=fZ (xI s p m)++[.int .u16 z0,.int .u16 z1,.int .u16 z2,.int .u16 65535]:=by
         rw[<-b0.out];simp[fZ,xI]
        rw[d9];exact iM N (fun k d=>aB 5 _ (fun e=>gB N kB (by decide) (e▸d)))
       ·have hf:=d8.f;exact⟨A.os.trans hf.os,A.tape.trans hf.tape,A.output.trans hf.output,by have:=A.size;simp at this|-;omega,fun k d hF=>(hold k (by omega) (fun e=>hF (.inr e)) (fun e=>by have:=(a3.lt k e).1;omega)).trans (hf.block k d hF)⟩
theorem Nr:(prog.info? 39).map (fun i=>(i.zero,i.size,i.bytes))=some (some (.int .u16 0),1,2):=by kernel_rfl
theorem TT{wr:af}{ops:Array Oper}{rest:List Oper}{o:Oper}{a:Act}{Q:Exit->Act->af->Prop}(d:o.guard=none)(s x:Operand)
 (i:o.op= .call {callee:= .builtin .append,args:= #[s,x],argTypes:= #[30,30]}) (base:Nat) (v:ay) (n:Nat) (xs:List ay) (z:Int)
 (b:wr.ownsRow base 39 1 v n xs) (hs:a.eval s=v) (hx:a.eval x= .slice (some ⟨wr.heap.size,0,none⟩) 1 1) (p:n<=1000000) (hb:base<=wr.heap.size)
 (h:∀v' w',w'.ownsRow base 39 1 v' (n+1) (xs++[.int .u16 z])->(wr.alloc (.cells #[.int .u16 z] 39)).grownBy w' v.ownBlock->wpList prog ops Q rest (a.put o.dst v') w'):
 wpList prog ops Q (o::rest) a (wr.alloc (.cells #[.int .u16 z] 39)):=by
 obtain⟨k,hi,e,f,g⟩:=info_parts Nr;refine xY _ d s x 30 i base 39 k _ 1 2 underlying30 hi e f g rfl (by decide) v n xs hs (b.alloc _) ⟨wr.heap.size,0,none⟩ 1 1 [.int .u16 z] hx rfl ?_ ?_ ?_ ?_ ?_ ?_
 ·intro j u c;match j,c with
  |0,c=>simp at c;subst c;simp[Addr.add]
 ·intro u hu;simp at hu;subst hu;rfl
 ·unfold maxLen;omega
 ·omega
 ·simp;omega
 ·intro v' w' l m _;exact h v' w' l m
def sh(s:ByteArray)(q:Nat):Nat:=256*aA s q+aA s (q+1)
theorem aeB(s:ByteArray)(p n B:Nat)(c:2<=n)(hp:p<=s.size):(Bd (dQ s p n) 0 B↔Bd s p B)/\(Bd s p B->sh (dQ s p n) 0=sh s p):=by
 have d:=Nl s p n hp;have hb:p+2<=s.size->aA (dQ s p n) 0=aA s p/\aA (dQ s p n) (0+1)=aA s (p+1):=fun h=>⟨nG s p n 0 (by omega) (by omega),nG s p n 1 (by omega) (by omega)⟩;refine⟨⟨fun h=> ?_,fun h=> ?_⟩,fun h=> ?_⟩
 ·have b:=h.1;have a:=hb (by omega);have h3:=h.2;rw[a.1,a.2]at h3;exact⟨by omega,h3⟩
 ·have b:=h.1;have a:=hb b;refine⟨by omega,?_⟩;rw[a.1,a.2];exact h.2
 ·have a:=hb h.1;unfold sh;rw[a.1,a.2]
theorem TU(S:Src)(cb:Nat)(s:ByteArray)(w:af)(eb lb:bP)(p left B:Nat)(name:ByteArray)(l:List UInt8)(h:CR S cb s w p name (left+2) l)(hs:jI w eb S.fb lb S.base)(g:B<=65536):
 aF prog 234 #[.iface 159 (.pointer (some ⟨cb,0,none⟩)),.int .i64 (B:Int)] w fun e w'=>
  (Bd s p B/\e= .returned (.tuple #[.int .u16 ((sh s p:Nat):Int),.nilIface])/\CR S cb s w' (p+2) name left (l++cut s p 2)/\Fr (jP S cb) w w')\/
  ((∃T a,e= .returned (.tuple #[.int .u16 0,.iface T (.pointer (some a))])/\dO S w' T a (¬Bd s p B))/\oC S cb w'/\Fr (jP S cb) w w'):=by
 obtain⟨f,i⟩:=aeB s p (left+2) B (by omega) h.le;refine(XG (aai S cb s eb lb name p (left+2) l) (PZ S cb s eb lb name p (left+2) l h.ok h.base h.le) (dQ s p (left+2)) 0 B w ⟨rfl,aU _,hs,by simpa [eP]using h⟩ (aU _) g).mono ?_;rintro e w' (⟨b,rfl,c,d⟩|⟨⟨T,a,rfl,b⟩,c,d⟩)
 ·have b:=f.1 b;obtain⟨_,_,_,c⟩:=c;refine .inl ⟨b,?_,?_,d⟩
  ·have:=i b;unfold sh at this;rw[this];rfl
  ·simpa using c
 ·exact .inr ⟨⟨T,a,rfl,Or.imp (fun q=>⟨q.1,fun j=>q.2 (f.2 j)⟩) id b⟩,c.2,d⟩
def Ol(s:ByteArray)(p:Nat):Nat->List Nat
 |0=>[]
 |m+1=>Ol s p m++[sh s (p+2*m)]
theorem Ff(s:ByteArray)(p m:Nat):(Ol s p m).length=m:=by
 induction m with
 |zero=>rfl
 |succ m a=>simp[Ol,a]
def Ns(s:ByteArray)(p n D K:Nat):Prop:=n=2*bF K/\∀j,j<bF K->Bd s (p+2*j) (pw D)
theorem Jl(S:Src)(cb:Nat)(s:ByteArray)(w:af)(eb lb:bP)(p n:Nat)(name:ByteArray)(l:List UInt8)(h:CR S cb s w p name n l)(hs:jI w eb S.fb lb S.base)
 (kb base W H D K:Nat) (I:Bool) (ev:ay) (E:List (Nat×Nat×Nat×Nat)) (jG:Bool) (r:jE w kb base W H D K I ev E jG (.slice none 0 0) []) (b7:S.base<=kb) (a0:base<=w.heap.size) (hD:jH D) (hK:K<=255):
 aF prog 211 #[.pointer (some ⟨kb,0,none⟩),.pointer (some ⟨cb,0,none⟩)] w fun e w'=>
  (Ns s p n D K/\e= .returned .nilIface/\CR S cb s w' (p+n) name 0 (l++cut s p n)/\(∃a1,jE w' kb base W H D K I ev E jG a1 (Ol s p (bF K)))/\Fr (XJ S cb kb) w w')\/
  ((∃T a,e= .returned (.iface T (.pointer (some a)))/\dO S w' T a (¬Ns s p n D K))/\oC S cb w'/\Fr (XJ S cb kb) w w'):=by
 have t:ah (Ns s p n D K↔n=2*bF K/\∀j,j<bF K->Bd s (p+2*j) (pw D)):=Iff.rfl;obtain⟨Q,hQ⟩:∃Q:Prop,Q=Ns s p n D K:=⟨_,rfl⟩;rw[<-hQ]at t|-;clear hQ;have hL:=uQ S cb s w p n name l h;have hM:=Ci K w hK;have b5:bF K<=4:=by unfold bF;(repeat' split)<;>omega
 have R:¬jP S cb kb:=h.e.ne r.nN (by decide);have a2:ah _:=r.nN;have a3:ah (∀w',Fr (XJ S cb kb) w w'->w'.ownsRow base 303 4 ev E.length (fZ E)):=(fun w' u=>iM r.nP (fun k b=>u.block k (r.nP.lt k b).2 (fun e=>by
  rcases r.nP.2 with⟨rfl,_⟩|⟨g,cap,cur,rfl,_,m,_⟩
  ·simp[Value.ownBlock]at b
  ·simp[Value.ownBlock]at b;subst b;rcases e with e|rfl
   ·exact h.e.ne m (by decide) e
   ·have:=r.nN;rw[m]at this;simp[rU]at this)):∀w',_)
 have b8:=ai r.nN;obtain⟨_,c3,_,_,_,_⟩:=r.cells;clear r;generalize bF K=wE at*;go_enter func211,ntmps211
 go_wp2_with fail
 refine hM.mono ?_;rintro e w1 ⟨rfl,hw⟩;have hw:=hw.symm;subst hw;clear hM c3;go_wp2_with fail
 refine hL.mono ?_;rintro e w1 ⟨rfl,hw⟩;have hw:=hw.symm;subst hw;clear hL;by_cases o:n=2*wE;rotate_left
 ·have HN:ah (¬Q):=(fun hq=>o (t.out.1 hq).1:¬_);have d1:((n:Int) !=2*(wE:Int))=true:=by rw[dG];omega
  go_wp2_with fail
  refine(dJ _ _).mono ?_;rintro e w3 ⟨rfl,rfl⟩;go_wp2_with fail
  go_ret;exact .inr ⟨⟨_,_,rfl,dO.ve HN.out⟩,h.e.grow (fun k b=>aj _ _ k b),(Fr.refl _ _).alloc _⟩
 have d1:((n:Int) !=2*(wE:Int))=false:=by rw[bn];omega
 have U:ah _:=o;have A:∀k,XJ S cb kb k->S.base<=k:=fun k e=>by
  rcases e with(e|e)|e
  ·exact h.ok.low k e
  ·have:=h.base;omega
  ·omega
 have V:ah _:=A;have HH:ah _:=h;clear A o h;go_wp2_with fail
 go_loopw [21] (fun iv wr=> ∃(j:Nat) (v:ay),j<=wE/\iv= .int .i64 (j:Int)/\CR S cb s wr (p+2*j) name (n-2*j) (l++cut s p (2*j))/\wr.heap[kb]?=some (rU W H D K I ev jG v)/\wr.ownsRow w.heap.size 39 1 v j (dI (Ol s p j))/\(∀i,i<j->Bd s (p+2*i) (pw D))/\Fr (XJ S cb kb) w wr) (fun iv _=>wE-(aX iv).toNat)
 case atStart=>exact⟨0,_,aU _,rfl,by simpa [eP]using HH.out,a2.out,eX _ _ _ _,fun i hi=>absurd hi (qw i),Fr.refl _ _⟩
 case round=>
  obtain⟨j,v,hj,rfl,N,q,c,B,hF⟩:=hrel;have C:ah _:=B;clear B;by_cases a4:j<wE;rotate_left
  ·have e:j=wE:=by omega
   subst e;go_wp2_with fail
   go_ret;have o:=U.out;rw[<-o,iW]at N;exact .inl ⟨t.out.2 ⟨o,C.out⟩,rfl,N,⟨v,q,a3.out _ hF,by rw[Ff];exact zM c a0⟩,hF⟩
  obtain⟨q1,x⟩:∃q1,n-2*j=q1+2:=⟨n-2*j-2,by have:=U.out;omega⟩;rw[x]at N;have a5:ah _:=x;clear x;have X:jI wr eb S.fb lb S.base:=hs.over (fun k b=>hF.block k (by omega) (fun e=>by have:S.base<=k:=V.out k e;omega));have a6:pw D<=65536:=by rcases hD with rfl|rfl|rfl|rfl|rfl<;>decide
  have hC:=TU S cb s wr eb lb (p+2*j) q1 (pw D) name _ N X a6;have c2:wr.cell? ⟨kb,2,none⟩=some (.int .i64 (D:Int)):=by simpa [rU]using(cell_of q 2).1
  obtain⟨la,cap,rfl⟩:=nX c;have a7:ah (∀w1,Fr (jP S cb) wr w1->w1.heap[kb]?=some (rU W H D K I ev jG (.slice la j cap))/\w1.ownsRow w.heap.size 39 1 (.slice la j cap) j (dI (Ol s p j))):=(fun w1 u=>⟨(u.block kb (ai q) R).trans q,iM c (fun k b=>u.block k (c.lt k b).2 (fun e=>by
   rcases c.2 with⟨G,_⟩|⟨g,f,cur,G,_,m,_⟩
   ·rw[G]at b;simp[Value.ownBlock]at b
   ·rw[G]at b;simp[Value.ownBlock]at b;subst b;exact N.e.ne m (by decide) e))⟩:∀w1,_)
  have Y:ah (Ol s p (j+1)=Ol s p j++[sh s (p+2*j)]):=rfl;have HF:ah _:=hF;have b9:j<=4:=by omega
  clear X N hF c q;obtain⟨z,O⟩:∃z,z=sh s (p+2*j):=⟨_,rfl⟩;rw[<-O]at hC Y;clear O;have b6:ah (Bd s (p+2*j) (pw D)↔Bd s (p+2*j) (pw D)):=Iff.rfl;rcases hD with rfl|rfl|rfl|rfl|rfl
  all_goals
   go_wp2_with fail
   refine bz hC ?_;clear hC;rintro e w1 (⟨J,rfl,g1,P⟩|⟨⟨T,a,rfl,J⟩,g1,P⟩);rotate_left
   ·have HW:dO S w1 T a (¬Q):=J.imp (fun J hq=>J ((t.out.1 hq).2 j a4));clear J;go_wp2_with fail
    go_ret;exact .inr ⟨⟨T,a,rfl,HW⟩,g1,Fr.trans HF.out (P.mono (fun k b=> .inl b))⟩
   ·obtain⟨kB,L⟩:=a7.out w1 P;have c7:w1.cell? ⟨kb,7,none⟩=some (.slice la j cap):=by simpa [rU]using(cell_of kB 7).1
    have a8:(Value.slice la j cap).ownBlock≠some kb:=gB L kB (by decide);have a9:w.heap.size<=w1.heap.size:=aK (Fr.size HF.out) P.size;have b0:j<=1000000:=by omega
    have Z:ah _:=kB;have F:ah _:=L;have b1:ah _:=g1;have b2:ah _:=J;have b3:ah _:=P;clear J g1 P kB L c2
    go_wp2_with (first
     |(at_builtin;refine TT rfl _ _ rfl w.heap.size _ j (dI (Ol s p j)) (z:Int) F.out rfl rfl b0 a9 ?_;go_must (intro v' w2 d m;obtain⟨g',f,rfl⟩:=kW.kX d;have y:=kW.uD m Z.out a8.symm;have c4:=y.2 7;have c5:w2.cell? ⟨kb,7,none⟩=some (.slice la j cap):=by simpa using(cell_of y.1 7).1))
     |go_in)
    go_roundw
    case rel=>
     have M:w1.ownsRow w.heap.size 39 1 (.slice la j cap) j (dI (Ol s p j)):=F.out;have u:Fr (XJ S cb kb) w w1:=Fr.trans HF.out (Fr.mono b3.out (fun k b=> .inl b));have hold:∀k,k<w1.heap.size->k≠kb->(Value.slice la j cap).ownBlock≠some k->(w2.setCell ⟨kb,7,none⟩ (.slice (some ⟨g',0,none⟩) (j+1) f)).heap[k]?=w1.heap[k]?:=fun k h1 h2 h3=>((aB 7 _ h2).trans (m.block k (by simp;omega) h3.symm)).trans (aj w1 _ k h1);have x:=a5.out;refine⟨j+1,.slice (some ⟨g',0,none⟩) (j+1) f,by omega,by go_num,?_,(bG y.1 7 _).trans (by simp[rU]),?_,fun i hi=> ?_,?_⟩
     ·have O:CR S cb s w1 (p+2*(j+1)) name (n-2*(j+1)) (l++cut s p (2*(j+1))):=by
       rw[show p+2*(j+1)=p+2*j+2 by omega,show n-2*(j+1)=q1 by omega,show 2*(j+1)=2*j+2 by omega,iG,<-bV];exact b1.out
      refine O.over (fun k b=>hold k (O.e.lt.1 k b) (fun e=> ?_) (fun e=> ?_))
      ·rcases b with b|b
       ·exact R (e▸b)
       ·omega
      ·rcases b with b|b
       ·rcases M.2 with⟨G,_⟩|⟨g,f,cur,G,_,m,_⟩
        ·rw[G]at e;simp[Value.ownBlock]at e
        ·rw[G]at e;simp[Value.ownBlock]at e;subst e;exact O.e.ne m (by decide) b
       ·have:=(M.lt k e).1;omega
     ·have b4:dI (Ol s p (j+1))=dI (Ol s p j)++[.int .u16 (z:Int)]:=by
       rw[Y.out];simp[dI]
      rw[b4];exact iM d (fun k b=>aB 7 _ (fun e=>gB d y.1 (by decide) (e▸b)))
     ·rcases bU i j with h1|h1
      ·exact C.out i h1
      ·rw[show i=j by omega];exact b2.out
     ·exact⟨m.os.trans u.os,m.tape.trans u.tape,m.output.trans u.output,by have:=m.size;simp at this|-;omega,fun k b hF=>(hold k (by omega) (fun e=>hF (.inr e)) (fun e=>by have:=(M.lt k e).1;omega)).trans (u.block k b hF)⟩
    case measure=>simp[aX];omega
theorem aam{w:af}{base:Nat}{T:aY}{z g n cap:Nat}{xs:List ay}(h:w.ownsRow base T z (.slice (some ⟨g,0,none⟩) n cap) n xs)(j:Nat)(i:j<n*z)(u:ay):(w.setCell ⟨g,j,none⟩ u).ownsRow base T z (.slice (some ⟨g,0,none⟩) n cap) n (xs.set j u):=by
 refine⟨by rw[jO];exact h.1,?_⟩;rcases h.2 with⟨a,_⟩|⟨k,b,cur,a,hb,c,d,e,h3,f⟩
 ·simp at a
 ·simp at a;obtain⟨rfl,rfl⟩:=a;refine .inr ⟨g,cap,_,rfl,hb,bG c j u,d,e,by simpa using h3,?_⟩;rw[Array.toList_setIfInBounds,List.take_set,f]
def GV(E:List (Nat×Nat×Nat×Nat))(m x:Nat):List (Nat×Nat×Nat×Nat):=E.set m ((E.getD m (0,0,0,0)).1,(E.getD m (0,0,0,0)).2.1,(E.getD m (0,0,0,0)).2.2.1,x)
theorem aan(E:List (Nat×Nat×Nat×Nat))(m x:Nat)(h:m<E.length):fZ (GV E m x)=(fZ E).set (m*4+3) (.int .u16 (x:Int)):=by
 induction E generalizing m with
 |nil=>simp at h
 |cons q E a=>
  cases m with
  |zero=>rfl
  |succ m=>
   have e:=a m (by simpa using h);have b:GV (q::E) (m+1) x=q::GV E m x:=by simp[GV]
   have c:fZ (q::GV E m x)=nH q++fZ (GV E m x):=by simp[fZ]
   have d:fZ (q::E)=nH q++fZ E:=by simp[fZ]
   rw[b,c,d,e,show(m+1)*4+3=m*4+3+1+1+1+1 by omega];simp[nH]
def wu(s:ByteArray)(p:Nat)(E:List (Nat×Nat×Nat×Nat)):Nat->List (Nat×Nat×Nat×Nat)
 |0=>E
 |m+1=>GV (wu s p E m) m (di (aA s (p+m)) 8)
theorem wS(s:ByteArray)(p:Nat)(E:List (Nat×Nat×Nat×Nat))(m:Nat):(wu s p E m).length=E.length:=by
 induction m with
 |zero=>rfl
 |succ m a=>simp[wu,GV,a]
def Jm(s:ByteArray)(p n ne:Nat):Prop:=1<=n/\n<=ne/\p+n<=s.size
def cvF(S:Src)(cb kb:Nat)(ev:ay)(k:Nat):Prop:=XJ S cb kb k\/ev.ownBlock=some k
theorem GX{S:Src}{cb:Nat}{w w':af}{base:Nat}{T:aY}{z:Nat}{v:ay}{n:Nat}{xs:List ay}(h:w.ownsRow base T z v n xs)(b:oC S cb w)(c:Ph T=false)(d:Fr (jP S cb) w w'):w'.ownsRow base T z v n xs:=
 iM h (fun k a=>d.block k (h.lt k a).2 (fun e=>by
  rcases h.2 with⟨rfl,_⟩|⟨g,cap,cur,rfl,_,f,_⟩
  ·simp[Value.ownBlock]at a
  ·simp[Value.ownBlock]at a;subst a;exact b.ne f c e))
theorem TV{w:af}{base a:Nat}{T d:aY}{z e:Nat}{v v':ay}{n f:Nat}{xs b:List ay}(h:w.ownsRow base T z v n xs)(i:w.ownsRow a d e v' f b)(j:T≠d){k:Nat}(c:v.ownBlock=some k):v'.ownBlock≠some k:=by
 rcases h.2 with⟨rfl,_⟩|⟨g,cap,cur,rfl,_,l,_⟩
 ·simp[Value.ownBlock]at c
 ·simp[Value.ownBlock]at c;subst c;exact gB i l j
theorem GY(S:Src)(cb:Nat)(s:ByteArray)(w:af)(eb lb:bP)(p n:Nat)(name:ByteArray)(l:List UInt8)(h:CR S cb s w p name n l)(hs:jI w eb S.fb lb S.base)
 (kb base W H D K:Nat) (I:Bool) (ev:ay) (E:List (Nat×Nat×Nat×Nat)) (jG:Bool) (cv:ay) (C:List Nat) (hc:jE w kb base W H D K I ev E jG cv C) (b7:S.base<=kb) (b8:S.base<=base) (hE:E.length<=1000):
 aF prog 212 #[.pointer (some ⟨kb,0,none⟩),.pointer (some ⟨cb,0,none⟩)] w fun e w'=>
  (Jm s p n E.length/\e= .returned .nilIface/\CR S cb s w' (p+n) name 0 (l++cut s p n)/\jE w' kb base W H D K I ev (wu s p E n) jG cv C/\Fr (cvF S cb kb ev) w w')\/
  ((∃T a,e= .returned (.iface T (.pointer (some a)))/\dO S w' T a (¬Jm s p n E.length))/\oC S cb w'/\Fr (cvF S cb kb ev) w w'):=by
 have m:ah (Jm s p n E.length↔1<=n/\n<=E.length/\p+n<=s.size):=Iff.rfl;obtain⟨Q,hQ⟩:∃Q:Prop,Q=Jm s p n E.length:=⟨_,rfl⟩;rw[<-hQ]at m|-;clear hQ;have b9:=h.lf;have hL:=uQ S cb s w p n name l h;obtain⟨_,_,c5,_,_,_⟩:=hc.cells;obtain⟨la,cap,rfl⟩:=nX hc.nP;have HC:ah _:=hc;have HH:ah _:=h;clear hc h;obtain⟨ne,f⟩:∃ne,ne=E.length:=⟨_,rfl⟩;rw[<-f]at hE m c5;have dA:ah (¬Q->∀G (wz:af),wz=w->aF prog 137 #[.string G] wz fun e w'=> ∃a,e= .returned (.iface 142 (.pointer (some a)))/\aJ w.heap.size w w'):=(fun _ G wz B=>(dJ G wz).mono (fun e w' ⟨a,b⟩=>⟨_,a,by rw[b,B];exact(aP _ _).alloc (ag _) _⟩):_);by_cases h1:n<1
 ·have O:ah (¬Q):=(fun P=>by have:=(m.out.1 P).1;omega:¬_);have e0:n=0:=by omega
  subst e0;go_enter func212,ntmps212
  go_wp2_with fail
  refine hL.mono ?_;rintro e w1 ⟨rfl,hw⟩;have hw:=hw.symm;subst hw;go_wp2_with fail
  refine(dA.out O.out _ _ rfl).mono ?_;rintro e w3 ⟨a,rfl,hb⟩;go_wp2_with fail
  go_ret;exact .inr ⟨⟨_,_,rfl,dO.ve O.out⟩,(CR.e HH.out).grow (fun k d=>hb.block k d),Fr.kJ hb⟩
 by_cases h2:ne<n
 ·have O:ah (¬Q):=(fun P=>by have:=(m.out.1 P).2.1;omega:¬_);have d0:decide ((n:Int)<1)=false:=aS (by omega);go_enter func212,ntmps212
  go_wp2_with fail
  refine hL.mono ?_;rintro e w1 ⟨rfl,hw⟩;have hw:=hw.symm;subst hw;go_wp2_with fail
  refine(dA.out O.out _ _ rfl).mono ?_;rintro e w3 ⟨a,rfl,hb⟩;go_wp2_with fail
  go_ret;exact .inr ⟨⟨_,_,rfl,dO.ve O.out⟩,(CR.e HH.out).grow (fun k d=>hb.block k d),Fr.kJ hb⟩
 have d0:decide ((n:Int)<1)=false:=aS (by omega);clear dA;have R:CR S cb s w p name n l:=HH.out;have c:jE w kb base W H D K I (.slice la E.length cap) E jG cv C:=HC.out;obtain⟨g,rfl⟩:∃g,la=some ⟨g,0,none⟩:=by
  rcases c.nP.2 with⟨_,h0⟩|⟨g,F,cur,o,_⟩
  ·omega
  ·simp at o;exact⟨g,o.1⟩
 have a6:¬jP S cb kb:=R.e.ne c.nN (by decide);have U:kb≠g:=fun e=>gB c.nP c.nN (by decide) (by rw[e];rfl);have c3:=ai c.nN;have c4:base<=g:=(c.nP.lt g rfl).1;have V:ah (∀k,cvF S cb kb (.slice (some ⟨g,0,none⟩) E.length cap) k->S.base<=k):=(fun k e=>by
  rcases e with((e|e)|e)|e
  ·exact R.ok.low k e
  ·have:=R.base;omega
  ·omega
  ·have:=(c.nP.lt k e).1;omega:∀k,_)
 have a7:ah (∀w',Fr (cvF S cb kb (.slice (some ⟨g,0,none⟩) E.length cap)) w w'->w'.ownsRow base 39 1 cv C.length (dI C)):=(fun w' hf=>iM c.Bq (fun k d=>hf.block k (c.Bq.lt k d).2 (fun e=>by
  rcases e with e|e
  ·rcases c.Bq.2 with⟨rfl,_⟩|⟨g,cap,cur,rfl,_,N,_⟩
   ·simp[Value.ownBlock]at d
   ·simp[Value.ownBlock]at d;subst d;rcases e with e|rfl
    ·exact R.e.ne N (by decide) e
    ·have:=c.nN;rw[N]at this;simp[rU]at this
  ·exact TV c.Bq c.nP (by decide) d e)):∀w',_)
 have J:ah _:=f;clear f R c;go_enter func212,ntmps212
 go_wp2_with fail
 refine hL.mono ?_;rintro e w1 ⟨rfl,hw⟩;have hw:=hw.symm;subst hw;go_wp2_with fail
 clear hL c5 d0;go_loopw [24] (fun iv wr=> ∃i:Nat,i<=n/\iv= .int .i64 (i:Int)/\CR S cb s wr (p+i) name (n-i) (l++cut s p i)/\wr.heap[kb]?=some (rU W H D K I (.slice (some ⟨g,0,none⟩) E.length cap) jG cv)/\wr.ownsRow base 303 4 (.slice (some ⟨g,0,none⟩) E.length cap) E.length (fZ (wu s p E i))/\Fr (cvF S cb kb (.slice (some ⟨g,0,none⟩) E.length cap)) w wr) (fun iv _=>n-(aX iv).toNat)
 case atStart=>exact⟨0,aU _,rfl,by simpa [eP]using HH.out,jE.nN HC.out,jE.nP HC.out,Fr.refl _ _⟩
 case round=>
  obtain⟨i,hi,rfl,L,v,q,hF⟩:=hrel;by_cases c6:i<n;rotate_left
  ·have e:i=n:=by omega
   subst e;go_wp2_with fail
   go_ret;rw[iW]at L;have f:=J.out;exact .inl ⟨m.out.2 ⟨by omega,by omega,L.le⟩,rfl,L,⟨v,by rw[wS];exact q,a7.out _ hF⟩,hF⟩
  obtain⟨X,M⟩:∃X,n-i=X+1:=⟨n-i-1,by omega⟩;rw[M]at L;have a8:ah _:=M;clear M;have Y:jI wr eb S.fb lb S.base:=hs.over (fun k d=>hF.block k (by omega) (fun e=>by have:S.base<=k:=V.out k e;omega));have hN:=zL S cb s wr eb lb _ X name _ L Y;have hb:=dH s (p+i);have j:=fun w'=>GN (aA s (p+i)) 8 w' (by omega) (.inr (.inr (.inr (.inl rfl))));obtain⟨z,B⟩:∃z,z=di (aA s (p+i)) 8:=⟨_,rfl⟩;rw[<-B]at j;have HZ:ah _:=B;clear B;generalize aA s (p+i)=y at hb j hN;have f:=J.out;have b4:i<ne:=by omega
  have Z:ah (∀w1,Fr (jP S cb) wr w1->w1.heap[kb]?=some (rU W H D K I (.slice (some ⟨g,0,none⟩) E.length cap) jG cv)/\w1.ownsRow base 303 4 (.slice (some ⟨g,0,none⟩) E.length cap) E.length (fZ (wu s p E i))):=(fun w1 hf=>⟨(hf.block kb (ai v) a6).trans v,GX q L.e (by decide) hf⟩:∀w1,_);rw[<-f]at Z;clear f;have HF:ah _:=hF;clear Y L hF q v;go_wp2_with fail
  refine hN.mono ?_;clear hN;rintro e w1 (⟨hp,rfl,g1,g2⟩|⟨⟨T,a,rfl,g0⟩,g1,g2⟩);rotate_left
  ·have HW:dO S w1 T a (¬Q):=g0.imp (fun g0 P=>g0 (by have:=(m.out.1 P).2.2;omega));clear g0;go_wp2_with fail
   go_ret;exact .inr ⟨⟨T,a,rfl,HW⟩,g1,Fr.trans HF.out (g2.mono (fun k d=> .inl (.inl d)))⟩
  obtain⟨kB,r⟩:=Z.out w1 g2;have c5:w1.cell? ⟨kb,5,none⟩=some (.slice (some ⟨g,0,none⟩) ne cap):=by simpa [rU]using(cell_of kB 5).1
  have a0:∃u,w1.cell? ⟨g,i*4+3,none⟩=some u:=by
   have h1:=r.cellAt (i*4+3) (by omega);have h2:i*4+3<(fZ (wu s p E i)).length:=by rw[r.1];omega
   rw[aG h2]at h1;exact⟨_,h1⟩
  obtain⟨u,a0⟩:=a0;have c7:w1.frozen? ⟨g,i*4+3,none⟩=false:=by
   rcases r.2 with⟨o,_⟩|⟨g',F,cur,o,_,N,_⟩
   ·simp at o
   ·simp at o;rw[o.1];exact(cell_of N _).2
  have a1:ah _:=kB;have a2:ah _:=r;have a9:ah _:=g1;have b0:ah _:=g2;clear g1 g2 kB r;go_wp2_with fail
  have A:∀w',aF prog 210 #[.int .u16 (IntKind.u16.wrap (y:Int)),.int .i64 8] w' fun e b1=>e= .returned (.int .u16 ((z:Nat):Int))/\b1=w':=by
   have b2:IntKind.u16.wrap (y:Int)=(y:Int):=by rw[IntKind.wrap_u16];omega
   rw[b2];exact j
  clear j;have b3:∀x,(w1.setCell ⟨g,i*4+3,none⟩ x).cell? ⟨kb,5,none⟩=some (.slice (some ⟨g,0,none⟩) ne cap):=fun x=>(aV (aB _ _ U)).trans c5;have b5:(0:Int)<=(i:Int):=by omega
  have b6:(i:Int)<(ne:Int):=by omega
  go_region_held3 (fun w'=>w'.cell? ⟨kb,5,none⟩=some (.slice (some ⟨g,0,none⟩) ne cap)) (first|go_keep|exact b3 _) (first
   |(go_at_call 210;refine(A _).mono ?_;rintro e w3 ⟨rfl,rfl⟩))
  all_goals
   go_wp2_with fail
   go_roundw
   case rel=>
    have a3:w1.ownsRow base 303 4 (.slice (some ⟨g,0,none⟩) ne cap) ne (fZ (wu s p E i)):=a2.out;have a4:w1.heap[kb]?=some (rU W H D K I (.slice (some ⟨g,0,none⟩) ne cap) jG cv):=a1.out;have f:=J.out;have t:=aam a3 (i*4+3) (by omega) (.int .u16 (z:Int));rw[<-aan _ i z (by rw[wS];omega)]at t;have a5:wu s p E (i+1)=GV (wu s p E i) i z:=by rw[HZ.out];rfl
    rw[f]at t a4;refine⟨i+1,by omega,by go_num,?_,(aB _ _ U).trans a4,by rw[a5];exact t,?_⟩
    ·have B:CR S cb s w1 (p+i+1) name X (l++cut s p i++[s[p+i]]):=a9.out;have e1:=gJ s p i hp;rw[e1,<-bV,show n-(i+1)=X by have:=a8.out;omega,show p+(i+1)=p+i+1 by omega];refine B.over (fun k d=>aB _ _ (fun e=> ?_));rcases d with d|d
     ·rcases a3.2 with⟨o,_⟩|⟨g',F,cur,o,_,N,_⟩
      ·simp at o
      ·simp at o;rw[e,o.1]at d;exact B.e.ne N (by decide) d
     ·omega
    ·exact(Fr.trans HF.out (Fr.mono b0.out (fun k d=> .inl (.inl d)))).set g (i*4+3) (.inr rfl) _|>.drew
   case measure=>simp[aX];omega
structure Cs where
 E:List (Nat×Nat×Nat×Nat)
 jG:Bool
 C:List Nat
structure ry(w:af)(kb base W H D K:Nat)(I:Bool)(st:Cs):Prop where
 at':∃ev cv,jE w kb base W H D K I ev st.E st.jG cv st.C/\(st.E.length=0->ev= .slice none 0 0)/\(st.jG=false->cv= .slice none 0 0)
 kb:base<=kb
 hp:base<=w.heap.size
 Di:st.E.length<=256
 Bq:st.jG=false->st.C=[]
def Jn(S:Src)(cb base:Nat)(k:Nat):Prop:=jP S cb k\/base<=k
def aao(s:ByteArray)(p n:Nat)(st:Cs):Cs:=⟨xI s p (n/3),st.jG,st.C⟩
def sF(s:ByteArray)(p n D K:Nat)(st:Cs):Prop:=st.jG=false/\(((K=0\/K=2)/\Ns s p n D K)\/(K=3/\Jm s p n st.E.length))
def Nu(s:ByteArray)(p n K:Nat)(st:Cs):Cs:=if K=3 then⟨wu s p st.E n,true,st.C⟩else⟨st.E,true,Ol s p (bF K)⟩
theorem acZ{S:Src}{cb kb base:Nat}{w w':af}(h:Fr (XJ S cb kb) w w')(a:base<=kb):Fr (Jn S cb base) w w':=h.mono (fun k e=>e.imp id (fun e=>by omega))
theorem DU(S:Src)(cb:Nat)(s:ByteArray)(w:af)(eb lb:bP)(p n:Nat)(name:ByteArray)(l:List UInt8)(h:CR S cb s w p name n l)(hs:jI w eb S.fb lb S.base)
 (kb base W H D K:Nat) (I:Bool) (st:Cs) (c:ry w kb base W H D K I st) (hb:S.base<=base) (hD:jH D) (hK:K<=255) (f:K=3->D<=8):
 aF prog 184 #[.pointer (some ⟨kb,0,none⟩),.pointer (some ⟨cb,0,none⟩)] w fun e w'=>
  (GU s p n D K st.E.length st.jG/\e= .returned .nilIface/\CR S cb s w' (p+n) name 0 (l++cut s p n)/\ry w' kb base W H D K I (aao s p n st)/\Fr (Jn S cb base) w w')\/
  ((∃T a,e= .returned (.iface T (.pointer (some a)))/\dO S w' T a (¬GU s p n D K st.E.length st.jG))/\oC S cb w'/\Fr (Jn S cb base) w w'):=by
 obtain⟨ev,cv,r,t,h3⟩:=c.at';have b:=c.kb;have g:=c.hp;have o:=c.Di;refine(EX S cb s w eb lb p n name l h hs kb base W H D K I ev st.E st.jG cv st.C r t (by omega) g hD hK (by omega)).mono ?_;rintro e w' (⟨d,rfl,i,⟨j,k⟩,q⟩|⟨⟨T,a,rfl,d⟩,i,k⟩)
 ·have y:n<=3*256/\3<=n:=by
   obtain⟨_,_,_,u,v,_⟩:=d.1;refine⟨?_,u⟩;split at v
   ·next m=>
    have x:pw D<=pw 8:=uC D 8 (f m);have:pw 8=256:=by decide
    omega
   ·omega
  have hlen:(aao s p n st).E.length=n/3:=wR _ _ _;refine .inl ⟨d,rfl,i,⟨⟨j,cv,k,fun e=> ?_,h3⟩,b,by have:=q.size;omega,by rw[hlen];omega,c.Bq⟩,acZ q b⟩;rw[hlen]at e;omega
 ·exact .inr ⟨⟨T,a,rfl,d⟩,i,acZ k b⟩
theorem Jo(S:Src)(cb:Nat)(s:ByteArray)(w:af)(eb lb:bP)(p n:Nat)(name:ByteArray)(l:List UInt8)(h:CR S cb s w p name n l)(hs:jI w eb S.fb lb S.base)
 (kb base W H D K:Nat) (I:Bool) (st:Cs) (F:ry w kb base W H D K I st) (hb:S.base<=base) (hD:jH D) (hK:K<=255):
 aF prog 185 #[.pointer (some ⟨kb,0,none⟩),.pointer (some ⟨cb,0,none⟩)] w fun e w'=>
  (sF s p n D K st/\e= .returned .nilIface/\CR S cb s w' (p+n) name 0 (l++cut s p n)/\ry w' kb base W H D K I (Nu s p n K st)/\Fr (Jn S cb base) w w')\/
  ((∃T a,e= .returned (.iface T (.pointer (some a)))/\dO S w' T a (¬sF s p n D K st))/\oC S cb w'/\Fr (Jn S cb base) w w'):=by
 obtain⟨ev,cv,r,R,h3⟩:=F.at';have c:=F.kb;have U:=F.hp;have d:=F.Di;have u:=F.Bq;obtain⟨E,jG,C⟩:=st;simp only at r R h3 d u;have f:ah (sF s p n D K ⟨E,jG,C⟩↔jG=false/\(((K=0\/K=2)/\Ns s p n D K)\/(K=3/\Jm s p n E.length))):=Iff.rfl;obtain⟨Q,hQ⟩:∃Q:Prop,Q=sF s p n D K ⟨E,jG,C⟩:=⟨_,rfl⟩;rw[<-hQ]at f|-;clear hQ F;obtain⟨ST,v⟩:∃ST,ST=Nu s p n K ⟨E,jG,C⟩:=⟨_,rfl⟩;rw[<-v];have G:ah _:=v;clear v;obtain⟨c2,c3,c5,c6,c7,cf⟩:=r.cells;have f6:=cf 6;clear c2 c5 c7 cf;cases jG with
 |true=>
  have V:ah (¬Q):=(fun b=>Bool.noConfusion (f.out.1 b).1:¬_);go_enter func185,ntmps185
  go_wp2_with fail
  refine(dJ _ _).mono ?_;rintro e w3 ⟨rfl,rfl⟩;go_wp2_with fail
  go_ret;exact .inr ⟨⟨_,_,rfl,dO.ve V.out⟩,h.e.grow (fun k g=>aj _ _ k g),(Fr.refl _ _).alloc _⟩
 |false=>
  have X:=u rfl;subst X;have Y:=h3 rfl;subst Y;have Z:¬jP S cb kb:=h.e.ne r.nN (by decide);have i:Fr (Jn S cb base) w (w.setCell ⟨kb,6,none⟩ (.bool true)):=(Fr.refl _ w).set kb 6 (.inr c) _;have t:CR S cb s (w.setCell ⟨kb,6,none⟩ (.bool true)) p name n l:=h.over (fun k g=>aB 6 _ (fun e=>by
   rcases g with g|g
   ·exact Z (e▸g)
   ·omega))
  have j:jE (w.setCell ⟨kb,6,none⟩ (.bool true)) kb base W H D K I ev E true (.slice none 0 0) []:=⟨(bG r.nN 6 _).trans (by simp[rU]),iM r.nP (fun k g=>aB 6 _ (fun e=>gB r.nP r.nN (by decide) (e▸g))),eX _ _ _ _⟩;have y:jI (w.setCell ⟨kb,6,none⟩ (.bool true)) eb S.fb lb S.base:=hs.over (fun k g=>aB 6 _ (by omega));have z:base<=(w.setCell ⟨kb,6,none⟩ (.bool true)).heap.size:=by simp;exact U
  have a2:(w.setCell ⟨kb,6,none⟩ (.bool true)).cell? ⟨kb,3,none⟩=some (.int .u8 (K:Int)):=by simpa [rU]using(cell_of j.nN 3).1
  have J:=Jl S cb s _ eb lb p n name l t y kb base W H D K I ev E true j (by omega) z hD hK;have L:=GY S cb s _ eb lb p n name l t y kb base W H D K I ev E true _ _ j (by omega) hb (by omega);have M:ah (∀k,cvF S cb kb ev k->Jn S cb base k):=(fun k e=>by
   rcases e with(e|e)|e
   ·exact .inl e
   ·exact .inr (by omega)
   ·exact .inr (r.nP.lt k e).1:∀k,_)
  have a3:ah _:=j;have a0:ah _:=t;clear r h j t y hs;by_cases O:K=0\/K=2
  ·have m:ah (ST=⟨E,true,Ol s p (bF K)⟩):=(by rw[G.out];unfold Nu;rw[au (by omega)]:_=_);have o:ah (Q↔Ns s p n D K):=(f.out.trans ⟨fun b=>by rcases b.2 with x|x;exact x.2;omega,fun b=>⟨rfl,.inl ⟨O,b⟩⟩⟩:_↔_);rcases O with rfl|rfl
   all_goals
    go_enter func185,ntmps185
    go_wp2_with fail
    refine J.mono ?_;rintro e w1 (⟨q,rfl,A,⟨a1,B⟩,N⟩|⟨⟨T,a,rfl,q⟩,A,B⟩)
    ·go_wp2_with fail
     go_ret;rw[m.out];exact .inl ⟨o.out.2 q,rfl,A,⟨⟨ev,a1,B,R,fun e=>Bool.noConfusion e⟩,c,aK z N.size,d,fun e=>Bool.noConfusion e⟩,i.trans (acZ N c)⟩
    ·go_wp2_with fail
     go_ret;exact .inr ⟨⟨T,a,rfl,q.imp (fun q b=>q (o.out.1 b))⟩,A,i.trans (acZ B c)⟩
  by_cases P:K=3
  ·have m:ah (ST=⟨wu s p E n,true,[]⟩):=(by rw[G.out];unfold Nu;rw[aC P]:_=_);have o:ah (Q↔Jm s p n E.length):=(f.out.trans ⟨fun b=>by rcases b.2 with x|x;exact absurd x.1 O;exact x.2,fun b=>⟨rfl,.inr ⟨P,b⟩⟩⟩:_↔_);subst P;go_enter func185,ntmps185
   go_wp2_with fail
   refine L.mono ?_;rintro e w1 (⟨q,rfl,A,B,N⟩|⟨⟨T,a,rfl,q⟩,A,B⟩)
   ·go_wp2_with fail
    go_ret;rw[m.out];exact .inl ⟨o.out.2 q,rfl,A,⟨⟨ev,_,B,fun e=>R (by rw[wS]at e;exact e),fun e=>Bool.noConfusion e⟩,c,aK z N.size,by rw[wS];exact d,fun e=>Bool.noConfusion e⟩,i.trans (N.mono M.out)⟩
   ·go_wp2_with fail
    go_ret;exact .inr ⟨⟨T,a,rfl,q.imp (fun q b=>q (o.out.1 b))⟩,A,i.trans (B.mono M.out)⟩
  ·have V:ah (¬Q):=(fun b=>by rcases(f.out.1 b).2 with x|x;exact O x.1;exact P x.1:¬_);have d0:((K:Int)==0)=false:=by rw[ax];omega
   have d2:((K:Int)==2)=false:=by rw[ax];omega
   have d3:((K:Int)==3)=false:=by rw[ax];omega
   clear J L;go_enter func185,ntmps185
   go_wp2_with fail
   refine(dJ _ _).mono ?_;rintro e w3 ⟨rfl,rfl⟩;go_wp2_with fail
   go_ret;exact .inr ⟨⟨_,_,rfl,dO.ve V.out⟩,(CR.e a0.out).grow (fun k g=>aj _ _ k g),i.alloc _⟩
end Pr
namespace Pr
open Go.RowKit Rf
open h_ (tK OE)
def wV(w:af)(v:ay)(row:List Nat):Prop:=∃g off cap,v= .slice (some ⟨g,off,none⟩) row.length cap/\∀j,j<row.length->w.cell? ⟨g,off+j,none⟩=some (.int .u8 ((row.getD j 0:Nat):Int))
def oz(row:List Nat)(i D:Nat):Nat:=if D=16 then 256*row.getD (2*i) 0+row.getD (2*i+1) 0 else row.getD (i*D/8) 0/2^(8-D-i*D%8)%2^D
theorem ac0(row:List Nat)(i D:Nat)(hD:D=1\/D=2\/D=4\/D=8):tK row i D D=oz row i D:=by
 have hb:∀y j,fP y j=y/2^j%2:=fun y j=>rfl;rcases hD with rfl|rfl|rfl|rfl
 ·unfold oz;rw[au (by omega)];have e:(i*1+0)%8=i*1%8:=rfl;simp only[tK,hb];rw[eH,show 7-i*1%8=8-1-i*1%8 by omega];simp
 ·unfold oz;rw[au (by omega)];simp only[tK,hb];have a:(i*2+0)/8=i*2/8:=by omega
  have b:(i*2+1)/8=i*2/8:=by omega
  rw[a,b];generalize row.getD (i*2/8) 0=y;rcases(by omega:i*2%8=0\/i*2%8=2\/i*2%8=4\/i*2%8=6)with h|h|h|h
  all_goals
   rw[show(i*2+1)%8=i*2%8+1 by omega,eH,h];simp only[Nat.reducePow,Nat.reduceSub,Nat.reduceAdd];omega
 ·unfold oz;rw[au (by omega)];simp only[tK,hb];have a:(i*4+0)/8=i*4/8:=by omega
  have b:(i*4+1)/8=i*4/8:=by omega
  have c:(i*4+2)/8=i*4/8:=by omega
  have d:(i*4+3)/8=i*4/8:=by omega
  rw[a,b,c,d];generalize row.getD (i*4/8) 0=y;rcases(by omega:i*4%8=0\/i*4%8=4)with h|h
  all_goals
   rw[show(i*4+1)%8=i*4%8+1 by omega,show(i*4+2)%8=i*4%8+2 by omega,show(i*4+3)%8=i*4%8+3 by omega,eH,h];simp only[Nat.reducePow,Nat.reduceSub,Nat.reduceAdd];omega
 ·unfold oz;rw[au (by omega)];simp only[tK,hb];have a:(i*8+0)/8=i*8/8:=by omega
  have b:(i*8+1)/8=i*8/8:=by omega
  have c:(i*8+2)/8=i*8/8:=by omega
  have d:(i*8+3)/8=i*8/8:=by omega
  have f:(i*8+4)/8=i*8/8:=by omega
  have g:(i*8+5)/8=i*8/8:=by omega
  have k:(i*8+6)/8=i*8/8:=by omega
  have l:(i*8+7)/8=i*8/8:=by omega
  rw[a,b,c,d,f,g,k,l];generalize row.getD (i*8/8) 0=y;rw[show(i*8+1)%8=1 by omega,show(i*8+2)%8=2 by omega,show(i*8+3)%8=3 by omega,show(i*8+4)%8=4 by omega,show(i*8+5)%8=5 by omega,show(i*8+6)%8=6 by omega,show(i*8+7)%8=7 by omega,eH,show i*8%8=0 by omega];have m:2*(y/128%2)+y/64%2=y/64%4:=by omega
  have n:2*(y/64%4)+y/32%2=y/32%8:=by omega
  have o:2*(y/32%8)+y/16%2=y/16%16:=by omega
  have p:2*(y/16%16)+y/8%2=y/8%32:=by omega
  have q:2*(y/8%32)+y/4%2=y/4%64:=by omega
  have r:2*(y/4%64)+y/2%2=y/2%128:=by omega
  have s:2*(y/2%128)+y%2=y%256:=by omega
  simp only[Nat.reducePow,Nat.reduceSub,Nat.mul_zero,Nat.zero_add,Nat.div_one,m,n,o,p,q,r,s]
theorem TW(row:List Nat)(i:Nat)(v:ay)(w:af)(j:wV w v row)(hb:∀x∈row,x<=255)(k:2*i+1<row.length)(l:row.length<=1000000000000):
 aF prog 216 #[v,.int .i64 (i:Int),.int .i64 16] w fun e w'=>e= .returned (.int .u16 ((oz row i 16:Nat):Int))/\∃nq,w'=w.drewN nq:=by
 obtain⟨g,off,cap,rfl,c⟩:=j;have m:=c (2*i) (by omega);have n:=c (2*i+1) k;have o:=h_.j_ hb (2*i);have p:=h_.j_ hb (2*i+1);have f:oz row i 16=256*row.getD (2*i) 0+row.getD (2*i+1) 0:=rfl;rw[f];clear f;generalize row.getD (2*i) 0=a at*;generalize row.getD (2*i+1) 0=b at*;clear c hb;have d:bits .or .u16 ((a:Int)*256) (b:Int)=((256*a+b:Nat):Int):=by
  have h:=u16_or_nat (a*256) b (by omega) (by omega);have e:a*256|||b=256*a+b:=by rw[eu a];exact(lq (i:=8) (by omega) a).symm
  rw[e]at h;rw[<-h];congr 1
 go_enter func216,ntmps216
 go_wp2_with fail
 go_quiet (fail)
 go_wp2_with fail
 go_ret;exact⟨dP (by first|rfl|exact d|omega),_,rfl⟩
end Pr
namespace Pr
open Go.RowKit Rf
theorem jg(x D:Nat)(hx:x<65536)(hD:D<=8):bits .and .u16 (x:Int) ((2^D-1:Nat):Int)=((x%2^D:Nat):Int):=by have hp:2^D<=2^8:=b_ (by omega) hD;rw[u16_and_nat x (2^D-1) hx (by omega),sQ]
theorem xJ(row:List Nat)(i D:Nat)(v:ay)(w:af)(o:wV w v row)(hb:∀x∈row,x<=255)(hD:D=1\/D=2\/D=4\/D=8)(l:i*D/8<row.length)(p:row.length<=1000000000000)(hi:i<=1000000000000):
 aF prog 216 #[v,.int .i64 (i:Int),.int .i64 (D:Int)] w fun e w'=>e= .returned (.int .u16 ((oz row i D:Nat):Int))/\∃nq,w'=w.drewN nq:=by
 obtain⟨g,off,cap,rfl,n⟩:=o;have q:=n (i*D/8) l;have r:=h_.j_ hb (i*D/8);have b:oz row i D=row.getD (i*D/8) 0/2^(8-D-i*D%8)%2^D:=by unfold oz;rw[au (by omega)]
 rw[b];clear b;generalize row.getD (i*D/8) 0=y at*;obtain⟨m,hm⟩:∃m,m=i*D:=⟨_,rfl⟩;have c:(i:Int)*(D:Int)=(m:Int):=by rw[hm];simp
 rw[<-hm]at q l|-;clear n hb;rcases hD with rfl|rfl|rfl|rfl
 ·rcases(by omega:m%8=0\/m%8=1\/m%8=2\/m%8=3\/m%8=4\/m%8=5\/m%8=6\/m%8=7)with f|f|f|f|f|f|f|f
  ·have d:(m:Int)%8=0:=by omega
   have a:(i:Int)*1=(m:Int):=c;rw[f];clear c f hm;obtain⟨V,b⟩:∃V,V=y/2^(8-1-0)%2^1:=⟨_,rfl⟩;rw[<-b];have h:ah _:=b;clear b;have j:ah (bits .and .u16 ((y:Int)/128) 1=((y/2^(8-1-0)%2^1:Nat):Int)):=(jg (y/128) 1 (by omega) (by omega):_=_);show aF prog 216 #[.slice (some ⟨g,off,none⟩) row.length cap,.int .i64 (i:Int),.int .i64 1] w fun e w'=>e= .returned (.int .u16 ((V:Nat):Int))/\∃nq,w'=w.drewN nq;go_enter func216,ntmps216
   go_upto_region 5 with fail
   have hx:(m:Int)/8<(row.length:Int):=by omega
   have k:(0:Int)<=(m:Int)/8:=by omega
   clear a d hi;go_quiet (fail)
   go_wp2_with fail
   go_ret;exact⟨dP (by rw[h.out];exact j.out),_,rfl⟩
  ·have d:(m:Int)%8=1:=by omega
   have a:(i:Int)*1=(m:Int):=c;rw[f];clear c f hm;obtain⟨V,b⟩:∃V,V=y/2^(8-1-1)%2^1:=⟨_,rfl⟩;rw[<-b];have h:ah _:=b;clear b;have j:ah (bits .and .u16 ((y:Int)/64) 1=((y/2^(8-1-1)%2^1:Nat):Int)):=(jg (y/64) 1 (by omega) (by omega):_=_);show aF prog 216 #[.slice (some ⟨g,off,none⟩) row.length cap,.int .i64 (i:Int),.int .i64 1] w fun e w'=>e= .returned (.int .u16 ((V:Nat):Int))/\∃nq,w'=w.drewN nq;go_enter func216,ntmps216
   go_upto_region 5 with fail
   have hx:(m:Int)/8<(row.length:Int):=by omega
   have k:(0:Int)<=(m:Int)/8:=by omega
   clear a d hi;go_quiet (fail)
   go_wp2_with fail
   go_ret;exact⟨dP (by rw[h.out];exact j.out),_,rfl⟩
  ·have d:(m:Int)%8=2:=by omega
   have a:(i:Int)*1=(m:Int):=c;rw[f];clear c f hm;obtain⟨V,b⟩:∃V,V=y/2^(8-1-2)%2^1:=⟨_,rfl⟩;rw[<-b];have h:ah _:=b;clear b;have j:ah (bits .and .u16 ((y:Int)/32) 1=((y/2^(8-1-2)%2^1:Nat):Int)):=(jg (y/32) 1 (by omega) (by omega):_=_);show aF prog 216 #[.slice (some ⟨g,off,none⟩) row.length cap,.int .i64 (i:Int),.int .i64 1] w fun e w'=>e= .returned (.int .u16 ((V:Nat):Int))/\∃nq,w'=w.drewN nq;go_enter func216,ntmps216
   go_upto_region 5 with fail
   have hx:(m:Int)/8<(row.length:Int):=by omega
   have k:(0:Int)<=(m:Int)/8:=by omega
   clear a d hi;go_quiet (fail)
   go_wp2_with fail
   go_ret;exact⟨dP (by rw[h.out];exact j.out),_,rfl⟩
  ·have d:(m:Int)%8=3:=by omega
   have a:(i:Int)*1=(m:Int):=c;rw[f];clear c f hm;obtain⟨V,b⟩:∃V,V=y/2^(8-1-3)%2^1:=⟨_,rfl⟩;rw[<-b];have h:ah _:=b;clear b;have j:ah (bits .and .u16 ((y:Int)/16) 1=((y/2^(8-1-3)%2^1:Nat):Int)):=(jg (y/16) 1 (by omega) (by omega):_=_);show aF prog 216 #[.slice (some ⟨g,off,none⟩) row.length cap,.int .i64 (i:Int),.int .i64 1] w fun e w'=>e= .returned (.int .u16 ((V:Nat):Int))/\∃nq,w'=w.drewN nq;go_enter func216,ntmps216
   go_upto_region 5 with fail
   have hx:(m:Int)/8<(row.length:Int):=by omega
   have k:(0:Int)<=(m:Int)/8:=by omega
   clear a d hi;go_quiet (fail)
   go_wp2_with fail
   go_ret;exact⟨dP (by rw[h.out];exact j.out),_,rfl⟩
  ·have d:(m:Int)%8=4:=by omega
   have a:(i:Int)*1=(m:Int):=c;rw[f];clear c f hm;obtain⟨V,b⟩:∃V,V=y/2^(8-1-4)%2^1:=⟨_,rfl⟩;rw[<-b];have h:ah _:=b;clear b;have j:ah (bits .and .u16 ((y:Int)/8) 1=((y/2^(8-1-4)%2^1:Nat):Int)):=(jg (y/8) 1 (by omega) (by omega):_=_);show aF prog 216 #[.slice (some ⟨g,off,none⟩) row.length cap,.int .i64 (i:Int),.int .i64 1] w fun e w'=>e= .returned (.int .u16 ((V:Nat):Int))/\∃nq,w'=w.drewN nq;go_enter func216,ntmps216
   go_upto_region 5 with fail
   have hx:(m:Int)/8<(row.length:Int):=by omega
   have k:(0:Int)<=(m:Int)/8:=by omega
   clear a d hi;go_quiet (fail)
   go_wp2_with fail
   go_ret;exact⟨dP (by rw[h.out];exact j.out),_,rfl⟩
  ·have d:(m:Int)%8=5:=by omega
   have a:(i:Int)*1=(m:Int):=c;rw[f];clear c f hm;obtain⟨V,b⟩:∃V,V=y/2^(8-1-5)%2^1:=⟨_,rfl⟩;rw[<-b];have h:ah _:=b;clear b;have j:ah (bits .and .u16 ((y:Int)/4) 1=((y/2^(8-1-5)%2^1:Nat):Int)):=(jg (y/4) 1 (by omega) (by omega):_=_);show aF prog 216 #[.slice (some ⟨g,off,none⟩) row.length cap,.int .i64 (i:Int),.int .i64 1] w fun e w'=>e= .returned (.int .u16 ((V:Nat):Int))/\∃nq,w'=w.drewN nq;go_enter func216,ntmps216
   go_upto_region 5 with fail
   have hx:(m:Int)/8<(row.length:Int):=by omega
   have k:(0:Int)<=(m:Int)/8:=by omega
   clear a d hi;go_quiet (fail)
   go_wp2_with fail
   go_ret;exact⟨dP (by rw[h.out];exact j.out),_,rfl⟩
  ·have d:(m:Int)%8=6:=by omega
   have a:(i:Int)*1=(m:Int):=c;rw[f];clear c f hm;obtain⟨V,b⟩:∃V,V=y/2^(8-1-6)%2^1:=⟨_,rfl⟩;rw[<-b];have h:ah _:=b;clear b;have j:ah (bits .and .u16 ((y:Int)/2) 1=((y/2^(8-1-6)%2^1:Nat):Int)):=(jg (y/2) 1 (by omega) (by omega):_=_);show aF prog 216 #[.slice (some ⟨g,off,none⟩) row.length cap,.int .i64 (i:Int),.int .i64 1] w fun e w'=>e= .returned (.int .u16 ((V:Nat):Int))/\∃nq,w'=w.drewN nq;go_enter func216,ntmps216
   go_upto_region 5 with fail
   have hx:(m:Int)/8<(row.length:Int):=by omega
   have k:(0:Int)<=(m:Int)/8:=by omega
   clear a d hi;go_quiet (fail)
   go_wp2_with fail
   go_ret;exact⟨dP (by rw[h.out];exact j.out),_,rfl⟩
  ·have d:(m:Int)%8=7:=by omega
   have a:(i:Int)*1=(m:Int):=c;rw[f];clear c f hm;obtain⟨V,b⟩:∃V,V=y/2^(8-1-7)%2^1:=⟨_,rfl⟩;rw[<-b];have h:ah _:=b;clear b;have j:ah (bits .and .u16 ((y:Int)) 1=((y/2^(8-1-7)%2^1:Nat):Int)):=(by rw[show y/2^(8-1-7)=y from Nat.div_one y];exact jg y 1 (by omega) (by omega):_=_);show aF prog 216 #[.slice (some ⟨g,off,none⟩) row.length cap,.int .i64 (i:Int),.int .i64 1] w fun e w'=>e= .returned (.int .u16 ((V:Nat):Int))/\∃nq,w'=w.drewN nq;go_enter func216,ntmps216
   go_upto_region 5 with fail
   have hx:(m:Int)/8<(row.length:Int):=by omega
   have k:(0:Int)<=(m:Int)/8:=by omega
   clear a d hi;go_quiet (fail)
   go_wp2_with fail
   go_ret;exact⟨dP (by rw[h.out];exact j.out),_,rfl⟩
 ·rcases(by omega:m%8=0\/m%8=2\/m%8=4\/m%8=6)with f|f|f|f
  ·have d:(m:Int)%8=0:=by omega
   have a:(i:Int)*2=(m:Int):=c;rw[f];clear c f hm;obtain⟨V,b⟩:∃V,V=y/2^(8-2-0)%2^2:=⟨_,rfl⟩;rw[<-b];have h:ah _:=b;clear b;have j:ah (bits .and .u16 ((y:Int)/64) 3=((y/2^(8-2-0)%2^2:Nat):Int)):=(jg (y/64) 2 (by omega) (by omega):_=_);show aF prog 216 #[.slice (some ⟨g,off,none⟩) row.length cap,.int .i64 (i:Int),.int .i64 2] w fun e w'=>e= .returned (.int .u16 ((V:Nat):Int))/\∃nq,w'=w.drewN nq;go_enter func216,ntmps216
   go_upto_region 5 with fail
   have hx:(m:Int)/8<(row.length:Int):=by omega
   have k:(0:Int)<=(m:Int)/8:=by omega
   clear a d hi;go_quiet (fail)
   go_wp2_with fail
   go_ret;exact⟨dP (by rw[h.out];exact j.out),_,rfl⟩
  ·have d:(m:Int)%8=2:=by omega
   have a:(i:Int)*2=(m:Int):=c;rw[f];clear c f hm;obtain⟨V,b⟩:∃V,V=y/2^(8-2-2)%2^2:=⟨_,rfl⟩;rw[<-b];have h:ah _:=b;clear b;have j:ah (bits .and .u16 ((y:Int)/16) 3=((y/2^(8-2-2)%2^2:Nat):Int)):=(jg (y/16) 2 (by omega) (by omega):_=_);show aF prog 216 #[.slice (some ⟨g,off,none⟩) row.length cap,.int .i64 (i:Int),.int .i64 2] w fun e w'=>e= .returned (.int .u16 ((V:Nat):Int))/\∃nq,w'=w.drewN nq;go_enter func216,ntmps216
   go_upto_region 5 with fail
   have hx:(m:Int)/8<(row.length:Int):=by omega
   have k:(0:Int)<=(m:Int)/8:=by omega
   clear a d hi;go_quiet (fail)
   go_wp2_with fail
   go_ret;exact⟨dP (by rw[h.out];exact j.out),_,rfl⟩
  ·have d:(m:Int)%8=4:=by omega
   have a:(i:Int)*2=(m:Int):=c;rw[f];clear c f hm;obtain⟨V,b⟩:∃V,V=y/2^(8-2-4)%2^2:=⟨_,rfl⟩;rw[<-b];have h:ah _:=b;clear b;have j:ah (bits .and .u16 ((y:Int)/4) 3=((y/2^(8-2-4)%2^2:Nat):Int)):=(jg (y/4) 2 (by omega) (by omega):_=_);show aF prog 216 #[.slice (some ⟨g,off,none⟩) row.length cap,.int .i64 (i:Int),.int .i64 2] w fun e w'=>e= .returned (.int .u16 ((V:Nat):Int))/\∃nq,w'=w.drewN nq;go_enter func216,ntmps216
   go_upto_region 5 with fail
   have hx:(m:Int)/8<(row.length:Int):=by omega
   have k:(0:Int)<=(m:Int)/8:=by omega
   clear a d hi;go_quiet (fail)
   go_wp2_with fail
   go_ret;exact⟨dP (by rw[h.out];exact j.out),_,rfl⟩
  ·have d:(m:Int)%8=6:=by omega
   have a:(i:Int)*2=(m:Int):=c;rw[f];clear c f hm;obtain⟨V,b⟩:∃V,V=y/2^(8-2-6)%2^2:=⟨_,rfl⟩;rw[<-b];have h:ah _:=b;clear b;have j:ah (bits .and .u16 ((y:Int)) 3=((y/2^(8-2-6)%2^2:Nat):Int)):=(by rw[show y/2^(8-2-6)=y from Nat.div_one y];exact jg y 2 (by omega) (by omega):_=_);show aF prog 216 #[.slice (some ⟨g,off,none⟩) row.length cap,.int .i64 (i:Int),.int .i64 2] w fun e w'=>e= .returned (.int .u16 ((V:Nat):Int))/\∃nq,w'=w.drewN nq;go_enter func216,ntmps216
   go_upto_region 5 with fail
   have hx:(m:Int)/8<(row.length:Int):=by omega
   have k:(0:Int)<=(m:Int)/8:=by omega
   clear a d hi;go_quiet (fail)
   go_wp2_with fail
   go_ret;exact⟨dP (by rw[h.out];exact j.out),_,rfl⟩
 ·rcases(by omega:m%8=0\/m%8=4)with f|f
  ·have d:(m:Int)%8=0:=by omega
   have a:(i:Int)*4=(m:Int):=c;rw[f];clear c f hm;obtain⟨V,b⟩:∃V,V=y/2^(8-4-0)%2^4:=⟨_,rfl⟩;rw[<-b];have h:ah _:=b;clear b;have j:ah (bits .and .u16 ((y:Int)/16) 15=((y/2^(8-4-0)%2^4:Nat):Int)):=(jg (y/16) 4 (by omega) (by omega):_=_);show aF prog 216 #[.slice (some ⟨g,off,none⟩) row.length cap,.int .i64 (i:Int),.int .i64 4] w fun e w'=>e= .returned (.int .u16 ((V:Nat):Int))/\∃nq,w'=w.drewN nq;go_enter func216,ntmps216
   go_upto_region 5 with fail
   have hx:(m:Int)/8<(row.length:Int):=by omega
   have k:(0:Int)<=(m:Int)/8:=by omega
   clear a d hi;go_quiet (fail)
   go_wp2_with fail
   go_ret;exact⟨dP (by rw[h.out];exact j.out),_,rfl⟩
  ·have d:(m:Int)%8=4:=by omega
   have a:(i:Int)*4=(m:Int):=c;rw[f];clear c f hm;obtain⟨V,b⟩:∃V,V=y/2^(8-4-4)%2^4:=⟨_,rfl⟩;rw[<-b];have h:ah _:=b;clear b;have j:ah (bits .and .u16 ((y:Int)) 15=((y/2^(8-4-4)%2^4:Nat):Int)):=(by rw[show y/2^(8-4-4)=y from Nat.div_one y];exact jg y 4 (by omega) (by omega):_=_);show aF prog 216 #[.slice (some ⟨g,off,none⟩) row.length cap,.int .i64 (i:Int),.int .i64 4] w fun e w'=>e= .returned (.int .u16 ((V:Nat):Int))/\∃nq,w'=w.drewN nq;go_enter func216,ntmps216
   go_upto_region 5 with fail
   have hx:(m:Int)/8<(row.length:Int):=by omega
   have k:(0:Int)<=(m:Int)/8:=by omega
   clear a d hi;go_quiet (fail)
   go_wp2_with fail
   go_ret;exact⟨dP (by rw[h.out];exact j.out),_,rfl⟩
 ·have f:m%8=0:=by omega
  have d:(m:Int)%8=0:=by omega
  have a:(i:Int)*8=(m:Int):=c;rw[f];clear c f hm;obtain⟨V,b⟩:∃V,V=y/2^(8-8-0)%2^8:=⟨_,rfl⟩;rw[<-b];have h:ah _:=b;clear b;have j:ah (bits .and .u16 ((y:Int)) 255=((y/2^(8-8-0)%2^8:Nat):Int)):=(by rw[show y/2^(8-8-0)=y from Nat.div_one y];exact jg y 8 (by omega) (by omega):_=_);show aF prog 216 #[.slice (some ⟨g,off,none⟩) row.length cap,.int .i64 (i:Int),.int .i64 8] w fun e w'=>e= .returned (.int .u16 ((V:Nat):Int))/\∃nq,w'=w.drewN nq;go_enter func216,ntmps216
  go_upto_region 5 with fail
  have hx:(m:Int)/8<(row.length:Int):=by omega
  have k:(0:Int)<=(m:Int)/8:=by omega
  clear a d hi;go_quiet (fail)
  go_wp2_with fail
  go_ret;exact⟨dP (by rw[h.out];exact j.out),_,rfl⟩
end Pr
namespace Pr
open Go.RowKit Rf Cr
def uT(q:Nat×Nat×Nat×Nat):ay:= .agg #[.int .u16 (q.1:Int),.int .u16 (q.2.1:Int),.int .u16 (q.2.2.1:Int),.int .u16 (q.2.2.2:Int)]
theorem Qa(E:List (Nat×Nat×Nat×Nat))(i:Nat)(h:i<E.length):
 (fZ E)[i*4]?=some (.int .u16 (((E.getD i (0,0,0,0)).1:Nat):Int))/\(fZ E)[i*4+1]?=some (.int .u16 (((E.getD i (0,0,0,0)).2.1:Nat):Int))/\(fZ E)[i*4+2]?=some (.int .u16 (((E.getD i (0,0,0,0)).2.2.1:Nat):Int))/\(fZ E)[i*4+3]?=some (.int .u16 (((E.getD i (0,0,0,0)).2.2.2:Nat):Int)):=by
 induction E generalizing i with
 |nil=>simp at h
 |cons q E a=>
  have b:fZ (q::E)=nH q++fZ E:=by simp[fZ]
  rw[b];cases i with
  |zero=>exact⟨rfl,rfl,rfl,rfl⟩
  |succ i=>
   have e:=a i (by simpa using h);rw[show(i+1)*4=i*4+1+1+1+1 by omega];refine⟨?_,?_,?_,?_⟩
   ·have:=e.1;simpa [nH]using this
   ·have:=e.2.1;rw[show i*4+1+1+1+1+1=i*4+1+4 by omega];simpa [nH]using this
   ·have:=e.2.2.1;rw[show i*4+1+1+1+1+2=i*4+2+4 by omega];simpa [nH]using this
   ·have:=e.2.2.2;rw[show i*4+1+1+1+1+3=i*4+3+4 by omega];simpa [nH]using this
theorem aap(w:af)(kb base W H D K idx:Nat)(I:Bool)(ev:ay)(E:List (Nat×Nat×Nat×Nat))(jG:Bool)(cv:ay)(C:List Nat)(h:jE w kb base W H D K I ev E jG cv C)(g:E.length<=1000)(hi:idx<=65535)(c:E.length<=idx):
 aF prog 235 #[.pointer (some ⟨kb,0,none⟩),.int .i64 (idx:Int)] w fun e w'=> ∃a,e= .returned (.tuple #[uT (0,0,0,0),.iface 142 (.pointer (some a))])/\aJ w.heap.size w w':=by
 obtain⟨_,_,d,_,_,_⟩:=h.cells;obtain⟨la,cap,rfl⟩:=nX h.nP;have b:=ai h.nN;clear h;generalize E.length=ne at*;have f:∀o,(w.alloc o).cell? ⟨kb,5,none⟩=some (.slice la ne cap):=fun o=>(aV (aj w o kb b)).trans d;go_enter func235,ntmps235
 go_wp2_with fail
 refine(dJ _ _).mono ?_;rintro e w1 ⟨rfl,rfl⟩;go_wp2_with fail
 refine aI (v:= .tuple #[uT (0,0,0,0),.iface 142 (.pointer (some ⟨w.heap.size+1,0,none⟩))]) (by simp[results,results235,go_sem,uT]) rfl ?_;refine⟨_,rfl,?_⟩;exact((aP w.heap.size w).alloc (ag _) _).alloc (by simp) _
theorem XK(w:af)(kb base W H D K idx:Nat)(I:Bool)(ev:ay)(E:List (Nat×Nat×Nat×Nat))(jG:Bool)(cv:ay)(C:List Nat)(h:jE w kb base W H D K I ev E jG cv C)(z:E.length<=1000)(hi:idx<E.length):
 aF prog 235 #[.pointer (some ⟨kb,0,none⟩),.int .i64 (idx:Int)] w fun e w'=>e= .returned (.tuple #[uT (E.getD idx (0,0,0,0)),.nilIface])/\aJ w.heap.size w w':=by
 obtain⟨_,_,k,_,_,_⟩:=h.cells;obtain⟨x0,l,m,n⟩:=Qa E idx hi;have a:=h.nP;obtain⟨la,cap,rfl⟩:=nX h.nP;obtain⟨g,rfl⟩:∃g,la=some ⟨g,0,none⟩:=by
  rcases a.2 with⟨_,A⟩|⟨g,p,cur,r,_⟩
  ·omega
  ·simp at r;exact⟨g,r.1⟩
 have c:=ai h.nN;have b:=(a.lt g rfl).2;have d:=(a.cellAt (idx*4) (by omega)).trans x0;have f:=(a.cellAt (idx*4+1) (by omega)).trans l;have i:=(a.cellAt (idx*4+2) (by omega)).trans m;have j:=(a.cellAt (idx*4+3) (by omega)).trans n;clear h a x0 l m n;generalize E.getD idx (0,0,0,0)=q at*;obtain⟨s,t,u,x⟩:=q;dsimp only at d f i j;generalize E.length=ne at*;have y:∀o,(w.alloc o).cell? ⟨kb,5,none⟩=some (.slice (some ⟨g,0,none⟩) ne cap):=fun o=>(aV (aj w o kb c)).trans k;have B:∀o,(w.alloc o).cell? ⟨g,idx*4,none⟩=some (.int .u16 (s:Int)):=fun o=>(aV (aj w o g b)).trans d;have s1:∀o,(w.alloc o).cell? ⟨g,idx*4+1,none⟩=some (.int .u16 (t:Int)):=fun o=>(aV (aj w o g b)).trans f;have s2:∀o,(w.alloc o).cell? ⟨g,idx*4+2,none⟩=some (.int .u16 (u:Int)):=fun o=>(aV (aj w o g b)).trans i;have F:∀o,(w.alloc o).cell? ⟨g,idx*4+3,none⟩=some (.int .u16 (x:Int)):=fun o=>(aV (aj w o g b)).trans j;clear d f i j k;go_enter func235,ntmps235
 go_wp2_with fail
 refine aI (v:= .tuple #[uT (s,t,u,x),.nilIface]) (by simp[results,results235,go_sem,uT]) rfl ?_;refine⟨rfl,?_⟩;exact(aP w.heap.size w).alloc (ag _) _
def yY(w:af)(v:ay)(L:List Nat):Prop:=∃la cap,v= .slice la L.length cap/\((L=[]/\la=none)\/∃g off,la=some ⟨g,off,none⟩/\∀j,j<L.length->w.cell? ⟨g,off+j,none⟩=some (.int .u16 ((L.getD j 0:Nat):Int)))
theorem TY{w:af}{base:Nat}{v:ay}{L:List Nat}(h:w.ownsRow base 39 1 v L.length (dI L)):yY w v L:=by
 rcases h.2 with⟨rfl,a⟩|⟨g,cap,cur,rfl,_⟩
 ·have e:=gG a;subst e;exact⟨none,0,rfl,.inl ⟨rfl,rfl⟩⟩
 ·refine⟨_,cap,rfl,.inr ⟨g,0,rfl,fun j b=> ?_⟩⟩;rw[fF];refine(h.cellAt j (by omega)).trans ?_;simp[dI,List.getD,List.getElem?_eq_getElem b]
theorem aaq(w:af)(a b:Nat):(w.drewN a).drewN b=w.drewN (a+b):=by simp[World.drewN,Nat.add_assoc]
theorem GZ{X Y:List Nat}(h:X.length=Y.length)(e:∀i,i<X.length->X.getD i 0=Y.getD i 0):X=Y:=by refine List.ext_getElem h (fun i a b=> ?_);have:=e i a;simpa [List.getD,List.getElem?_eq_getElem a,List.getElem?_eq_getElem b]using this
theorem XL(X Y:List Nat)(v u:ay)(w:af)(q:yY w v X)(r:yY w u Y)(R:X.length<=1000)(S:Y.length<=1000):
 aF prog 236 #[v,u] w fun e w'=>e= .returned (.bool (decide (X=Y)))/\∃nq,w'=w.drewN nq:=by
 obtain⟨la,cap,rfl,q⟩:=q;obtain⟨lb,J,rfl,r⟩:=r;by_cases z:X.length=Y.length;rotate_left
 ·have hd:decide (X=Y)=false:=aS (fun e=>z (by rw[e]));rw[hd];clear hd q r;generalize X.length=n at*;generalize Y.length=m at*;have T:((n:Int) !=(m:Int))=true:=by rw[dG];omega
  go_enter func236,ntmps236
  go_wp2_with fail
  go_ret;exact⟨rfl,0,rfl⟩
 obtain⟨B,s⟩:∃B,B=decide (X=Y):=⟨_,rfl⟩;rw[<-s];have A:ah _:=s;have K:ah _:=z;have L:ah _:=q;have M:ah _:=r;clear s q r;rw[<-z];obtain⟨n,D⟩:∃n,n=X.length:=⟨_,rfl⟩;rw[<-D]at R|-;have N:ah _:=D;clear D z S;go_enter func236,ntmps236
 go_wp2_with fail
 go_loopw [13] (fun E wr=> ∃j nq:Nat,j<=n/\E= .int .i64 (j:Int)/\(∀i,i<j->X.getD i 0=Y.getD i 0)/\wr=w.drewN nq) (fun E _=>n-(aX E).toNat)
 case atStart=>exact⟨0,0,aU _,rfl,fun i hi=>absurd hi (qw i),rfl⟩
 case round=>
  obtain⟨j,f,W,rfl,c,a⟩:=hrel;have d:ah _:=c;clear c;by_cases U:j<n;rotate_left
  ·have e:j=n:=by omega
   subst e;have C:ah _:=a;have s:B=true:=by rw[A.out];exact aZ (GZ K.out (fun i hi=>d.out i (by rw[N.out];exact hi)))
   subst s;clear a A;go_wp2_with fail
   go_ret;exact⟨rfl,f,C.out⟩
  have b:j<X.length:=by have:=N.out;omega
  obtain⟨g,off,F,V⟩:∃g off,la=some ⟨g,off,none⟩/\wr.cell? ⟨g,off+j,none⟩=some (.int .u16 ((X.getD j 0:Nat):Int)):=by
   rcases L.out with⟨e,_⟩|⟨g,off,e,G⟩
   ·rw[e]at b;simp at b
   ·exact⟨g,off,e,by rw[a];exact G j b⟩
  obtain⟨Z,O,t,P⟩:∃g off,lb=some ⟨g,off,none⟩/\wr.cell? ⟨g,off+j,none⟩=some (.int .u16 ((Y.getD j 0:Nat):Int)):=by
   have k:j<Y.length:=by have:=K.out;omega
   rcases M.out with⟨e,_⟩|⟨g,off,e,G⟩
   ·rw[e]at k;simp at k
   ·exact⟨g,off,e,by rw[a];exact G j k⟩
  clear L M;subst F;subst t;have l:ah (X.getD j 0≠Y.getD j 0->B=false):=(fun h=>by rw[A.out];exact aS (fun e=>h (by rw[e])):_->_);have o:ah (∀e:X.getD j 0=Y.getD j 0,∀i,i<j+1->X.getD i 0=Y.getD i 0):=(fun e i hi=>by
   rcases bU i j with h|h
   ·exact d.out i h
   ·rw[show i=j by omega];exact e:∀e,_)
  have C:ah _:=a;clear a b A;generalize X.getD j 0=x at*;generalize Y.getD j 0=y at*;by_cases p:x=y
  ·have Q:=o.out p;have H:ah _:=Q;clear Q o l;subst p;have I:((x:Int) !=(x:Int))=false:=by simp
   go_wp2_with fail
   go_quiet (fail)
   go_wp2_with fail
   go_roundw
   case rel=>exact⟨j+1,f+nq,by omega,by go_num,H.out,by rw[C.out,aaq]⟩
   case measure=>simp[aX];omega
  ·have hb:=l.out p;subst hb;clear o l;have I:((x:Int) !=(y:Int))=true:=by rw[dG];omega
   go_wp2_with fail
   go_quiet (fail)
   go_wp2_with fail
   go_ret;exact⟨rfl,f+nq,by rw[C.out,aaq]⟩
theorem dW{B:Nat}{a w:af}(h:aJ B a w)(b o:Nat)(hb:B<=b)(v:ay):aJ B a (w.setCell ⟨b,o,none⟩ v):=
 ⟨h.os,h.tape,h.output,by simp;exact h.size,fun k c=>(aB o v (by omega)).trans (h.block k c)⟩
theorem Qb(w:af)(kb base W H D x:Nat)(I:Bool)(ev:ay)(E:List (Nat×Nat×Nat×Nat))(jG:Bool)(cv:ay)(C:List Nat)(v:ay)(h:jE w kb base W H D 3 I ev E jG cv C)(A:E.length<=1000)(hx:x<=65535)(J:yY w v [x]):
 aF prog 217 #[.pointer (some ⟨kb,0,none⟩),v] w fun e w'=>
  (x<E.length/\e= .returned (.tuple #[uT (E.getD x (0,0,0,0)),.nilIface])/\aJ w.heap.size w w')\/
  (E.length<=x/\(∃a,e= .returned (.tuple #[uT (0,0,0,0),.iface 142 (.pointer (some a))]))/\aJ w.heap.size w w'):=by
 obtain⟨la,cap,rfl,m⟩:=J;obtain⟨g,off,rfl,n⟩:∃g off,la=some ⟨g,off,none⟩/\w.cell? ⟨g,off,none⟩=some (.int .u16 (x:Int)):=by
  rcases m with⟨e,_⟩|⟨g,off,e,m⟩
  ·simp at e
  ·exact⟨g,off,e,m 0 (by simp)⟩
 have p:g<w.heap.size:=by
  rcases bU g w.heap.size with r|r
  ·exact r
  ·simp[World.cell?,Array.getElem?_eq_none r]at n
 obtain⟨_,B,_,_,_,_⟩:=h.cells;have f:=ai h.nN;have F:∀o,jE (w.alloc o) kb base W H D 3 I ev E jG cv C:=fun o=>h.over (fun k i=>aj w o k (by
  rcases i with rfl|i|i
  ·exact f
  ·exact(h.nP.lt k i).2
  ·exact(h.Bq.lt k i).2))
 have K:∀o,(w.alloc o).cell? ⟨kb,3,none⟩=some (.int .u8 3):=fun o=>(aV (aj w o kb f)).trans B;have L:∀o,(w.alloc o).cell? ⟨g,off,none⟩=some (.int .u16 (x:Int)):=fun o=>(aV (aj w o g p)).trans n;clear B n m;have G:ah _:=F;clear h F;by_cases j:x<E.length
 ·have d:=fun o=>XK (w.alloc o) kb base W H D 3 x I ev E jG cv C (G.out o) A j;generalize E.getD x (0,0,0,0)=q at*;obtain⟨M,N,O,P⟩:=q;unfold uT at d|-;dsimp only at d|-;go_enter func217,ntmps217
  go_wp2_with fail
  refine(d _).mono ?_;rintro e w1 ⟨rfl,hb⟩;have b:w1.heap[w.heap.size]?=some (.cells #[.int .u16 0,.int .u16 0,.int .u16 0,.int .u16 0] 303 (0,0)):=(hb.block w.heap.size (by simp)).trans (aO w _);have s:w1.cell? ⟨w.heap.size,0,none⟩=some (.int .u16 0):=by simpa using(cell_of b 0).1
  have t:w1.cell? ⟨w.heap.size,1,none⟩=some (.int .u16 0):=by simpa using(cell_of b 1).1
  have u:w1.cell? ⟨w.heap.size,2,none⟩=some (.int .u16 0):=by simpa using(cell_of b 2).1
  have y:w1.cell? ⟨w.heap.size,3,none⟩=some (.int .u16 0):=by simpa using(cell_of b 3).1
  have Q:=(cell_of b 0).2;have R:=(cell_of b 1).2;have S:=(cell_of b 2).2;have T:=(cell_of b 3).2;have c:aJ w.heap.size w w1:=((aP w.heap.size w).alloc (ag _) _).trans (hb.mono (by simp));have z:ah _:=c;clear hb d c b;go_wp2_with fail
  refine aI (v:= .tuple #[.agg #[.int .u16 (M:Int),.int .u16 (N:Int),.int .u16 (O:Int),.int .u16 (P:Int)],.nilIface]) (by simp[results,results217,go_sem,s,t,u,y]) rfl ?_;exact .inl ⟨j,rfl,(dW (dW (dW (dW z.out _ 0 (ag _) _) _ 1 (ag _) _) _ 2 (ag _) _) _ 3 (ag _) _)⟩
 ·have l:E.length<=x:=by omega
  have d:=fun o=>aap (w.alloc o) kb base W H D 3 x I ev E jG cv C (G.out o) A hx l;unfold uT at d|-;dsimp only at d|-;go_enter func217,ntmps217
  go_wp2_with fail
  refine(d _).mono ?_;rintro e w1 ⟨a,rfl,hb⟩;have b:w1.heap[w.heap.size]?=some (.cells #[.int .u16 0,.int .u16 0,.int .u16 0,.int .u16 0] 303 (0,0)):=(hb.block w.heap.size (by simp)).trans (aO w _);have s:w1.cell? ⟨w.heap.size,0,none⟩=some (.int .u16 0):=by simpa using(cell_of b 0).1
  have t:w1.cell? ⟨w.heap.size,1,none⟩=some (.int .u16 0):=by simpa using(cell_of b 1).1
  have u:w1.cell? ⟨w.heap.size,2,none⟩=some (.int .u16 0):=by simpa using(cell_of b 2).1
  have y:w1.cell? ⟨w.heap.size,3,none⟩=some (.int .u16 0):=by simpa using(cell_of b 3).1
  have Q:=(cell_of b 0).2;have R:=(cell_of b 1).2;have S:=(cell_of b 2).2;have T:=(cell_of b 3).2;have c:aJ w.heap.size w w1:=((aP w.heap.size w).alloc (ag _) _).trans (hb.mono (by simp));have z:ah _:=c;clear hb d c b;go_wp2_with fail
  refine aI (v:= .tuple #[.agg #[.int .u16 0,.int .u16 0,.int .u16 0,.int .u16 0],.iface 142 (.pointer (some a))]) (by simp[results,results217,go_sem,s,t,u,y]) rfl ?_;exact .inr ⟨l,⟨a,rfl⟩,(dW (dW (dW (dW z.out _ 0 (ag _) _) _ 1 (ag _) _) _ 2 (ag _) _) _ 3 (ag _) _)⟩
open h_ (di)
def Qc(K D:Nat)(X C:List Nat):Nat×Nat×Nat×Nat:=
 if K=0 then(di (X.getD 0 0) D,di (X.getD 0 0) D,di (X.getD 0 0) D,if X=C then 0 else 65535)
 else if K=4 then(di (X.getD 0 0) D,di (X.getD 0 0) D,di (X.getD 0 0) D,di (X.getD 1 0) D)
 else if K=2 then(di (X.getD 0 0) D,di (X.getD 1 0) D,di (X.getD 2 0) D,if X=C then 0 else 65535)
 else(di (X.getD 0 0) D,di (X.getD 1 0) D,di (X.getD 2 0) D,di (X.getD 3 0) D)
def aar(X:List Nat)(D i:Nat):Obj:= .cells #[.int .u16 ((if 0<i then di (X.getD 0 0) D else 0:Nat):Int),.int .u16 ((if 1<i then di (X.getD 1 0) D else 0:Nat):Int),.int .u16 ((if 2<i then di (X.getD 2 0) D else 0:Nat):Int),.int .u16 ((if 3<i then di (X.getD 3 0) D else 0:Nat):Int)] 302 (0,0)
theorem aas{w:af}{b:Nat}{X:List Nat}{D i:Nat}(h:w.heap[b]?=some (aar X D i))(hi:i<4):(w.setCell ⟨b,i,none⟩ (.int .u16 ((di (X.getD i 0) D:Nat):Int))).heap[b]?=some (aar X D (i+1)):=by refine(bG h i _).trans ?_;rcases(by omega:i=0\/i=1\/i=2\/i=3)with rfl|rfl|rfl|rfl<;>simp[aar]
theorem XM{w:af}{b:Nat}{X:List Nat}{D i:Nat}(h:w.heap[b]?=some (aar X D i))(hi:i<4):w.cell? ⟨b,i,none⟩=some (.int .u16 0):=by refine(cell_of h i).1.trans ?_;rcases(by omega:i=0\/i=1\/i=2\/i=3)with rfl|rfl|rfl|rfl<;>simp
theorem aat{X:List Nat}(h:∀x∈X,x<=65535)(i:Nat):X.getD i 0<=65535:=by
 rcases bU i X.length with hi|hi
 ·rw[ak,aG hi];exact h _ (xm hi)
 ·rw[ak,fE hi];exact aU _
theorem yY.over{w w':af}{v:ay}{L:List Nat}(h:yY w v L)(e:∀k,k<w.heap.size->w'.heap[k]?=w.heap[k]?):yY w' v L:=by
 obtain⟨la,cap,rfl,h⟩:=h;refine⟨la,cap,rfl,h.imp id (fun⟨g,off,d,f⟩=>⟨g,off,d,fun j i=> ?_⟩)⟩;have c:=f j i;have a:g<w.heap.size:=by
  rcases bU g w.heap.size with b|b
  ·exact b
  ·simp[World.cell?,Array.getElem?_eq_none b]at c
 exact(aV (e g a)).trans c
theorem Qd(w:af)(kb base W H D K:Nat)(I:Bool)(ev:ay)(E:List (Nat×Nat×Nat×Nat))(jG:Bool)(cv:ay)(C X:List Nat)(v:ay)(h:jE w kb base W H D K I ev E jG cv C)(hK:K=0\/K=2\/K=4\/K=6)(hD:jH D)(hC:C.length<=4)(hX:yY w v X)(f:X.length=bF K)(A:∀x∈X,x<=65535):
 aF prog 217 #[.pointer (some ⟨kb,0,none⟩),v] w fun e w'=>e= .returned (.tuple #[uT (Qc K D X C),.nilIface])/\aJ w.heap.size w w':=by
 have j:=ai h.nN;obtain⟨c2,U,_,_,c7,_⟩:=h.cells;have F:=TY h.Bq;clear h;have V:X.length<=4:=by rw[f];rcases hK with rfl|rfl|rfl|rfl<;>decide
 have l:=fun o=>XL X C v cv (w.alloc o) (hX.over (fun k Y=>aj w o k Y)) (F.over (fun k Y=>aj w o k Y)) (by omega) (by omega);have k7:∀o,(w.alloc o).cell? ⟨kb,7,none⟩=some cv:=fun o=>(aV (aj w o kb j)).trans c7;have k3:∀o,(w.alloc o).cell? ⟨kb,3,none⟩=some (.int .u8 (K:Int)):=fun o=>(aV (aj w o kb j)).trans U;have d3:((K:Int)==3)=false:=by rw[ax];omega
 obtain⟨b2,b1,rfl,_⟩:=F;obtain⟨la,cap,rfl,G⟩:=hX;have HK:ah _:=hK;have Z:ah _:=G;have a0:ah _:=A;clear G A hK c7;obtain⟨P,hP⟩:∃P,P=Qc K D X C:=⟨_,rfl⟩;rw[<-hP];have HP:ah _:=hP;clear hP;obtain⟨n,hn⟩:∃n,n=X.length:=⟨_,rfl⟩;rw[<-hn]at V f l|-;have HN:ah _:=hn;clear hn;have a1:ah _:=f;clear f;obtain⟨B,hB⟩:∃B,B=decide (X=C):=⟨_,rfl⟩;rw[<-hB]at l;have HB:ah _:=hB;have J:ah _:=l;clear hB l;generalize a2:C.length=nc at*;clear a2;go_enter func217,ntmps217
 go_wp2_with fail
 refine(J.out _).mono ?_;rintro e w1 ⟨rfl,nq,m⟩;clear J k7 k3;have L:w1.heap.size=w.heap.size+1:=by rw[m];simp
 have p:aJ w.heap.size w w1:=by rw[m];exact kW.cZ ((aP _ _).alloc (ag _) _)
 have a:w1.heap[w.heap.size]?=some (.cells #[.int .u16 0,.int .u16 0,.int .u16 0,.int .u16 0] 303 (0,0)):=by rw[m];exact aO w _
 have a3:ah _:=a;have M:ah _:=p;have a4:ah _:=L;have a5:ah (w1.cell? ⟨kb,2,none⟩=some (.int .i64 (D:Int))):=((aV (p.block kb j)).trans c2:_=_);have a6:ah (w1.cell? ⟨kb,3,none⟩=some (.int .u8 (K:Int))):=((aV (p.block kb j)).trans U:_=_);clear c2 U m a p L;have N:ah ((if X=C then(0:Nat)else 65535)=cond B 0 65535):=(by rw[HB.out];by_cases O:X=C<;>simp[O]:_=_);cases B
 all_goals
  go_wp2_with fail
  obtain⟨b7,d⟩:∃b,b=w1.heap.size:=⟨_,rfl⟩;rw[<-d];have s:ah _:=d;clear d;go_loopw [32] (fun iv wr=> ∃i:Nat,i<=n/\iv= .int .i64 (i:Int)/\wr.heap[b7]?=some (aar X D i)/\aJ b7 w1 wr) (fun iv _=>n-(aX iv).toNat)
  case atStart=>exact⟨0,aU _,rfl,by rw[s.out];exact aO w1 _,by rw[s.out];exact(aP _ _).alloc (ag _) _⟩
  case round=>
   obtain⟨i,hi,rfl,q,c⟩:=hrel;have Q:=a4.out;have d:=s.out;have a7:wr.cell? ⟨kb,2,none⟩=some (.int .i64 (D:Int)):=(aV (c.block kb (by omega))).trans a5.out;have b3:wr.cell? ⟨kb,3,none⟩=some (.int .u8 (K:Int)):=(aV (c.block kb (by omega))).trans a6.out;by_cases b4:i<n
   ·have r:i<X.length:=by have:=HN.out;omega
    obtain⟨g,off,a8,b5⟩:∃g off,la=some ⟨g,off,none⟩/\wr.cell? ⟨g,off+i,none⟩=some (.int .u16 ((X.getD i 0:Nat):Int)):=by
     rcases Z.out with⟨e,_⟩|⟨g,off,e,T⟩
     ·rw[e]at r;simp at r
     ·have T:=T i r;have a9:g<w.heap.size:=by
       rcases bU g w.heap.size with O|O
       ·exact O
       ·simp[World.cell?,Array.getElem?_eq_none O]at T
      exact⟨g,off,e,(aV ((c.block g (by omega)).trans (Below.block M.out g a9))).trans T⟩
    subst a8;have hx:=aat a0.out i;have hF:=fun w'=>GN (X.getD i 0) D w' hx hD;have R:ah _:=aas q (by omega);have cz:=XM q (show i<4 by omega);have fz:=(cell_of q i).2;generalize di (X.getD i 0) D=z at*;generalize X.getD i 0=x at*;have t:ah _:=c;have b6:i<4:=by omega
    clear c q r d Q;go_wp2_with fail
    refine(hF _).mono ?_;rintro e wz ⟨rfl,u⟩;have u:=u.symm;subst u;go_wp2_with fail
    go_roundw
    case rel=>exact⟨i+1,by omega,by go_num,R.out,dW t.out b7 i (ag _) _⟩
    case measure=>simp[aX];omega
   ·have e:i=n:=by omega
    subst e;have t:ah (aJ w.heap.size w wr):=(gI M.out (c.mono (by omega)):aJ _ _ _);have a:wr.heap[w.heap.size]?=some (.cells #[.int .u16 0,.int .u16 0,.int .u16 0,.int .u16 0] 303 (0,0)):=(c.block _ (by omega)).trans a3.out;have z0:wr.cell? ⟨w.heap.size,0,none⟩=some (.int .u16 0):=by simpa using(cell_of a 0).1
    have z1:wr.cell? ⟨w.heap.size,1,none⟩=some (.int .u16 0):=by simpa using(cell_of a 1).1
    have z2:wr.cell? ⟨w.heap.size,2,none⟩=some (.int .u16 0):=by simpa using(cell_of a 2).1
    have z3:wr.cell? ⟨w.heap.size,3,none⟩=some (.int .u16 0):=by simpa using(cell_of a 3).1
    have y0:=(cell_of a 0).2;have y1:=(cell_of a 1).2;have y2:=(cell_of a 2).2;have y3:=(cell_of a 3).2;have p0:=(cell_of q 0).1;have p1:=(cell_of q 1).1;have p2:=(cell_of q 2).1;have p3:=(cell_of q 3).1;have S:=a1.out;have y:=N.out;dsimp only[cond]at y;have b0:ah _:=y;clear a q c a7 d Q y N;rcases HK.out with rfl|rfl|rfl|rfl
    all_goals
     simp[bF]at S;subst S;simp at p0 p1 p2 p3;go_wp2_with fail
     refine aI (v:= .tuple #[uT P,.nilIface]) (by rw[HP.out];unfold Qc;rw[b0.out];simp[results,results217,go_sem,uT,z0,z1,z2,z3]) rfl ?_;exact⟨rfl,dW (dW (dW (dW t.out _ 0 (ag _) _) _ 1 (ag _) _) _ 2 (ag _) _) _ 3 (ag _) _⟩
end Pr
namespace Pr
open Go.RowKit Rf Cr
def nI(row:List Nat)(i n D:Nat):List Nat:=(List.range n).map fun k=>oz row (i*n+k) D
theorem oZ(row:List Nat)(i n D:Nat):(nI row i n D).length=n:=by simp[nI]
theorem VP(row:List Nat)(i n D k:Nat)(h:k<n):(nI row i n D).getD k 0=oz row (i*n+k) D:=by rw[ak,aG (by rw[oZ];exact h)];simp[nI]
theorem VQ(row:List Nat)(i D:Nat)(hb:∀x∈row,x<=255)(hD:jH D):oz row i D<=65535:=by
 unfold oz;split
 ·have a:=h_.j_ hb (2*i);have b:=h_.j_ hb (2*i+1);omega
 ·have hp:2^D<=2^16:=b_ (by omega) (by rcases hD with rfl|rfl|rfl|rfl|rfl<;>omega);have:=oP (row.getD (i*D/8) 0/2^(8-D-i*D%8)) (show 0<2^D from Nat.pow_pos (by omega));omega
theorem VR(row:List Nat)(i n D:Nat)(hb:∀x∈row,x<=255)(hD:jH D):∀x∈nI row i n D,x<=65535:=by intro x hx;obtain⟨k,_,rfl⟩:=List.mem_map.1 hx;exact VQ row _ D hb hD
theorem yZ{r a:List Nat}(h:r<+:a)(j:Nat)(b:j<r.length):r.getD j 0=a.getD j 0:=by obtain⟨t,rfl⟩:=h;rw[ak,ak,dh b]
theorem EJ{r a:List Nat}(h:r<+:a)(i D:Nat)(hD:1<=D)(hi:(i+1)*D<=8*r.length):oz r i D=oz a i D:=by
 unfold oz;split
 ·next e=>
  subst e;rw[yZ h (2*i) (by omega),yZ h (2*i+1) (by omega)]
 ·have e:(i+1)*D=i*D+D:=by rw[fO];omega
  rw[yZ h (i*D/8) (by omega)]
theorem Qj{r a:List Nat}(h:r<+:a)(i n D:Nat)(hD:1<=D)(hi:(i+1)*(D*n)<=8*r.length):nI r i n D=nI a i n D:=by
 refine List.map_congr_left (fun k b=> ?_);have b:k<n:=List.mem_range.1 b;refine EJ h _ D hD ?_;have c:i*n+k+1<=(i+1)*n:=by rw[fO];omega
 have d:=eY D c;have h3:(i+1)*n*D=(i+1)*(D*n):=by rw[jM,eu n D]
 omega
def Om(K D:Nat)(E:List (Nat×Nat×Nat×Nat))(C:List Nat)(row:List Nat)(i:Nat):Option (Nat×Nat×Nat×Nat):=
 if K=3 then(if oz row i D<E.length then some (E.getD (oz row i D) (0,0,0,0))else none)else some (Qc K D (nI row i (bF K) D) C)
theorem ac2(ps:List lC)(W K D:Nat)(E:List (Nat×Nat×Nat×Nat))(C:List Nat)(hD:1<=D):He ⟨ps,D*bF K,W,Om K D E C⟩:=by
 intro r a i h hi;dsimp only at hi|-;unfold Om;by_cases h3:K=3
 ·rw[aC h3,aC h3];have e:bF K=1:=by rw[h3];rfl
  rw[e,Nat.mul_one]at hi;rw[EJ h i D hD hi]
 ·rw[au h3,au h3,Qj h i (bF K) D hD hi]
theorem T_(row:List Nat)(i D:Nat)(v:ay)(w:af)(a:wV w v row)(hb:∀x∈row,x<=255)(hD:jH D)(c:(i+1)*D<=8*row.length)(b:row.length<=100000000000):
 aF prog 216 #[v,.int .i64 (i:Int),.int .i64 (D:Int)] w fun e w'=>e= .returned (.int .u16 ((oz row i D:Nat):Int))/\∃nq,w'=w.drewN nq:=by
 have e:(i+1)*D=i*D+D:=by rw[fO];omega
 have hi:i<=i*D:=by
  have:1<=D:=by rcases hD with rfl|rfl|rfl|rfl|rfl<;>omega
  exact nT i this
 rcases hD with rfl|rfl|rfl|rfl|rfl
 ·exact xJ row i 1 v w a hb (by omega) (by omega) (by omega) (by omega)
 ·exact xJ row i 2 v w a hb (by omega) (by omega) (by omega) (by omega)
 ·exact xJ row i 4 v w a hb (by omega) (by omega) (by omega) (by omega)
 ·exact xJ row i 8 v w a hb (by omega) (by omega) (by omega) (by omega)
 ·exact TW row i v w a hb (by omega) (by omega)
def Aa(W H D K:Nat)(I:Bool)(kb:Nat)(pv:ay):Obj:= .cells #[.int .i64 (W:Int),.int .i64 (H:Int),.int .i64 (D:Int),.int .u8 (K:Int),.bool I,.pointer (some ⟨kb,0,none⟩),pv] 292 (0,0)
def Nv(X:List Nat)(k:Nat):Obj:= .cells #[.int .u16 ((if 0<k then X.getD 0 0 else 0:Nat):Int),.int .u16 ((if 1<k then X.getD 1 0 else 0:Nat):Int),.int .u16 ((if 2<k then X.getD 2 0 else 0:Nat):Int),.int .u16 ((if 3<k then X.getD 3 0 else 0:Nat):Int)] 302 (0,0)
theorem aaw{w:af}{b:Nat}{X:List Nat}{i:Nat}(h:w.heap[b]?=some (Nv X i))(hi:i<4):(w.setCell ⟨b,i,none⟩ (.int .u16 ((X.getD i 0:Nat):Int))).heap[b]?=some (Nv X (i+1)):=by refine(bG h i _).trans ?_;rcases(by omega:i=0\/i=1\/i=2\/i=3)with rfl|rfl|rfl|rfl<;>simp[Nv]
theorem XN{w:af}{b:Nat}{X:List Nat}{i:Nat}(h:w.heap[b]?=some (Nv X i))(hi:i<4):w.cell? ⟨b,i,none⟩=some (.int .u16 0):=by refine(cell_of h i).1.trans ?_;rcases(by omega:i=0\/i=1\/i=2\/i=3)with rfl|rfl|rfl|rfl<;>simp
theorem ac3{w:af}{b:Nat}{X:List Nat}{n cap:Nat}(h:w.heap[b]?=some (Nv X n))(a:X.length=n)(c:n<=4):yY w (.slice (some ⟨b,0,none⟩) n cap) X:=by
 refine⟨_,cap,by rw[a],.inr ⟨b,0,rfl,fun j d=> ?_⟩⟩;rw[fF];refine(cell_of h j).1.trans ?_;rcases(by omega:j=0\/j=1\/j=2\/j=3)with rfl|rfl|rfl|rfl
 ·simp[show 0<n by omega]
 ·simp[show 1<n by omega]
 ·simp[show 2<n by omega]
 ·simp[show 3<n by omega]
theorem wV.over{w w':af}{v:ay}{row:List Nat}(h:wV w v row)(e:∀k,k<w.heap.size->w'.heap[k]?=w.heap[k]?):wV w' v row:=by
 obtain⟨g,off,cap,rfl,d⟩:=h;refine⟨g,off,cap,rfl,fun j f=> ?_⟩;have c:=d j f;have a:g<w.heap.size:=by
  rcases bU g w.heap.size with b|b
  ·exact b
  ·simp[World.cell?,Array.getElem?_eq_none b]at c
 exact(aV (e g a)).trans c
def aax(o:Option (Nat×Nat×Nat×Nat))(w:af)(e:Ending)(w':af):Prop:=
 ((∃q,o=some q/\e= .returned (.tuple #[uT q,.nilIface]))\/(o=none/\∃a,e= .returned (.tuple #[uT (0,0,0,0),.iface 142 (.pointer (some a))])))/\aJ w.heap.size w w'
theorem XO(w:af)(kb base W H D K:Nat)(I:Bool)(ev:ay)(E:List (Nat×Nat×Nat×Nat))(jG:Bool)(cv:ay)(C row:List Nat)(i:Nat)(v:ay)(h:jE w kb base W H D K I ev E jG cv C)(hK:K=0\/K=2\/K=3\/K=4\/K=6)(hD:jH D)(f:E.length<=1000)(g:C.length<=4)(hb:∀x∈row,x<=255)(c:yY w v (nI row i (bF K) D)):
 aF prog 217 #[.pointer (some ⟨kb,0,none⟩),v] w (aax (Om K D E C row i) w):=by
 by_cases h3:K=3
 ·subst h3;have e:nI row i (bF 3) D=[oz row i D]:=by
   show [oz row (i*1+0) D]=_;rw[Nat.mul_one,eH]
  rw[e]at c;refine(Qb w kb base W H D (oz row i D) I ev E jG cv C v h f (VQ row i D hb hD) c).mono ?_;rintro e w' (⟨d,rfl,b⟩|⟨d,⟨a,rfl⟩,b⟩)
  ·exact⟨.inl ⟨_,by unfold Om;rw[aC rfl,aC d],rfl⟩,b⟩
  ·exact⟨.inr ⟨by unfold Om;rw[aC rfl,au (by omega)],a,rfl⟩,b⟩
 ·refine(Qd w kb base W H D K I ev E jG cv C (nI row i (bF K) D) v h (by omega) hD g c (oZ _ _ _ _) (VR row i _ D hb hD)).mono ?_;rintro e w' ⟨rfl,b⟩;exact⟨.inl ⟨_,by unfold Om;rw[au h3],rfl⟩,b⟩
theorem aeE(w:af)(b n:Nat)(a:n<=4):(Instr.sliceAt 302 (.pointer (some ⟨b,0,none⟩)) none (some (.int .i64 (n:Int))) none).run prog w= .ok (.slice (some ⟨b,0,none⟩) n 4) w:=by rcases(by omega:n=0\/n=1\/n=2\/n=3\/n=4)with rfl|rfl|rfl|rfl|rfl;all_goals kernel_rfl
theorem Ua(w:af)(vb kb base W H D K:Nat)(I:Bool)(pv ev:ay)(E:List (Nat×Nat×Nat×Nat))(jG:Bool)(cv:ay)(C row:List Nat)(i:Nat)(v:ay)(hV:w.heap[vb]?=some (Aa W H D K I kb pv))(h:jE w kb base W H D K I ev E jG cv C)(hK:K=0\/K=2\/K=3\/K=4\/K=6)(hD:jH D)(hE:E.length<=1000)(G:C.length<=4)(hb:∀x∈row,x<=255)(hR:wV w v row)(hi:(i+1)*(D*bF K)<=8*row.length)(a9:row.length<=100000000000):
 aF prog 189 #[.pointer (some ⟨vb,0,none⟩),v,.int .i64 (i:Int)] w (aax (Om K D E C row i) w):=by
 have R:=ai hV;have c:∀k,k<w.heap.size->((w.alloc (.cells #[.int .u16 0,.int .u16 0,.int .u16 0,.int .u16 0] 303)).alloc (.cells #[.int .u16 0,.int .u16 0,.int .u16 0,.int .u16 0] 302)).heap[k]?=w.heap[k]?:=fun k j=>(aj _ _ k (by simp;omega)).trans (aj _ _ k j);have b0:=ai h.nN;have hS:=fun w'=>Ci K w' (by omega);have c4:1<=D:=by rcases hD with rfl|rfl|rfl|rfl|rfl<;>omega
 have y:1<=bF K/\bF K<=4:=by rcases hK with rfl|rfl|rfl|rfl|rfl<;>decide
 have J:ah (∀k,k<bF K->∀w',(∀q,q<w.heap.size->w'.heap[q]?=w.heap[q]?)->aF prog 216 #[v,.int .i64 ((i*bF K+k:Nat):Int),.int .i64 (D:Int)] w' fun e b1=>e= .returned (.int .u16 ((oz row (i*bF K+k) D:Nat):Int))/\∃nq,b1=w'.drewN nq):=(fun k j w' L=>by
  refine T_ row (i*bF K+k) D v w' (hR.over L) hb hD ?_ a9;have h1:i*bF K+k+1<=(i+1)*bF K:=by rw[fO];omega
  have h2:=eY D h1;have h3:(i+1)*bF K*D=(i+1)*(D*bF K):=by rw[jM,eu (bF K) D]
  omega:∀k,_)
 have S:ah (∀w' u,(∀q,q<w.heap.size->w'.heap[q]?=w.heap[q]?)->yY w' u (nI row i (bF K) D)->aF prog 217 #[.pointer (some ⟨kb,0,none⟩),u] w' (aax (Om K D E C row i) w')):=(fun w' u L hU=>XO w' kb base W H D K I ev E jG cv C row i u (h.over (fun k j=>L k (by
  rcases j with rfl|j|j
  ·exact b0
  ·exact(h.nP.lt k j).2
  ·exact(h.Bq.lt k j).2))) hK hD hE G hb hU:∀w',_)
 have HX:=oZ row i (bF K) D;have b2:ah (∀k,k<bF K->(nI row i (bF K) D).getD k 0=oz row (i*bF K+k) D):=(fun k j=>VP row i _ D k j:∀k,_);have c6:i*bF K<=800000000000:=by have h1:i*bF K<=(i+1)*(D*bF K):=bT (by omega) (tV _ (by omega));omega
 have c7:i<=800000000000:=by have:i<=i*bF K:=nT i (by omega);omega
 have hmul:(i:Int)*((bF K:Nat):Int)=((i*bF K:Nat):Int):=by simp
 obtain⟨g,off,cap,rfl,-⟩:=hR;obtain⟨o,ho⟩:∃o,o=Om K D E C row i:=⟨_,rfl⟩;rw[<-ho]at S|-;clear ho c hi h hb;generalize nI row i (bF K) D=X at*;generalize bF K=n at*;generalize hm:i*n=m at*;have HM:ah _:=hm;clear hm;have b3:ah _:=HX;clear HX;have c1:∀o1 o2,((w.alloc o1).alloc o2).cell? ⟨vb,3,none⟩=some (.int .u8 (K:Int)):=fun o1 o2=>(aV ((aj _ _ vb (by simp;omega)).trans (aj _ _ vb R))).trans (by simpa [Aa]using(cell_of hV 3).1);have HV:ah _:=hV;clear hV;go_enter func189,ntmps189
 go_wp2_with fail
 refine(hS _).mono ?_;rintro e w1 ⟨rfl,s⟩;have T:w1.heap[w.heap.size+1]?=some (Nv X 0):=by rw[s];have:=aO (w.alloc (.cells #[.int .u16 0,.int .u16 0,.int .u16 0,.int .u16 0] 303)) (.cells #[.int .u16 0,.int .u16 0,.int .u16 0,.int .u16 0] 302);simpa [Nv]using this
 have U:w1.heap[w.heap.size]?=some (.cells #[.int .u16 0,.int .u16 0,.int .u16 0,.int .u16 0] 303 (0,0)):=by rw[s];exact(aj _ _ _ (by simp)).trans (aO w _)
 have V:aJ w.heap.size w w1:=by rw[s];exact((aP _ _).alloc (ag _) _).alloc (by simp) _
 have b4:w1.heap.size=w.heap.size+2:=by rw[s];simp
 have b5:ah _:=U;have b7:ah _:=T;have Y:ah _:=V;clear U T V b4 s c1 hS;obtain⟨M,l⟩:∃b,b=w.heap.size:=⟨_,rfl⟩;obtain⟨A,p⟩:∃b,b=w.heap.size+1:=⟨_,rfl⟩;rw[<-p,<-l];have Z:ah _:=l;have a0:ah _:=p;clear l p;have a1:∀k,k<w.heap.size->w1.heap[k]?=w.heap[k]?:=fun k j=>Below.block Y.out k j;have b9:ah _:=a1;clear a1;obtain⟨c8,y⟩:=y;have c9:=aeE w1 A n y;go_wp2_with fail
 go_loopw [20] (fun iv wr=> ∃k:Nat,k<=n/\iv= .int .i64 (k:Int)/\wr.heap[A]?=some (Nv X k)/\aJ A w1 wr) (fun iv _=>n-(aX iv).toNat)
 case atStart=>exact⟨0,aU _,rfl,by rw[a0.out];exact b7.out,aP _ _⟩
 case round=>
  obtain⟨k,j,rfl,Q,r⟩:=hrel;have p:=a0.out;have l:=Z.out;have c:∀q,q<w.heap.size->wr.heap[q]?=w.heap[q]?:=fun q hq=>(r.block q (by omega)).trans (b9.out q hq);have B:=(c vb R).trans HV.out;have c2:wr.cell? ⟨vb,2,none⟩=some (.int .i64 (D:Int)):=by simpa using(cell_of B 2).1
  have c5:wr.cell? ⟨vb,5,none⟩=some (.pointer (some ⟨kb,0,none⟩)):=by simpa using(cell_of B 5).1
  by_cases a2:k<n
  ·have G:=J.out k a2 wr c;have a3:ah (∀z:Nat,z=X.getD k 0->(wr.setCell ⟨A,k,none⟩ (.int .u16 (z:Int))).heap[A]?=some (Nv X (k+1))):=(fun z hz=>by rw[hz];exact aaw Q (by omega):∀z,_);have cz:=XN Q (show k<4 by omega);have fz:=(cell_of Q k).2;have HZ:ah _:=b2.out k a2;rw[Int.natCast_add]at G;generalize oz row (m+k) D=z at*;have c3:ah _:=r;have d0:k<4:=by omega
   clear r Q p l B c;go_wp2_with fail
   refine G.mono ?_;rintro e wz ⟨rfl,nq,F⟩;have d1:wz.cell? ⟨A,k,none⟩=some (.int .u16 0):=by rw[F];exact cz
   have d2:wz.frozen? ⟨A,k,none⟩=false:=by rw[F];exact fz
   have a4:ah _:=F;clear F cz fz G;go_wp2_with fail
   go_roundw
   case rel=>
    refine⟨k+1,by omega,by go_num,?_,?_⟩
    ·rw[a4.out];exact a3.out _ HZ.out.symm
    ·exact dW (by rw[a4.out];exact kW.cZ c3.out) A k (ag _) _
   case measure=>simp[aX];omega
  ·have e:k=n:=by omega
   subst e;have G:=S.out wr (.slice (some ⟨A,0,none⟩) k 4) c (ac3 Q b3.out y);have N:wr.heap[M]?=some (.cells #[.int .u16 0,.int .u16 0,.int .u16 0,.int .u16 0] 303 (0,0)):=(r.block _ (by omega)).trans (by rw[Z.out];exact b5.out);have a5:=ai N;have a6:aJ w.heap.size w wr:=gI Y.out (r.mono (by omega));have a7:ah _:=a6;clear a6 r Q c2 p B c J;go_wp2_with fail
   refine G.mono ?_;rintro e w2 ⟨ho,O⟩;have d:=(O.block M a5).trans N;have z0:w2.cell? ⟨M,0,none⟩=some (.int .u16 0):=by simpa using(cell_of d 0).1
   have z1:w2.cell? ⟨M,1,none⟩=some (.int .u16 0):=by simpa using(cell_of d 1).1
   have z2:w2.cell? ⟨M,2,none⟩=some (.int .u16 0):=by simpa using(cell_of d 2).1
   have z3:w2.cell? ⟨M,3,none⟩=some (.int .u16 0):=by simpa using(cell_of d 3).1
   have y0:=(cell_of d 0).2;have y1:=(cell_of d 1).2;have y2:=(cell_of d 2).2;have y3:=(cell_of d 3).2;have a8:ah (aJ w.heap.size w w2):=(gI a7.out (O.mono (jh a7.out)):aJ _ _ _);have f:w.heap.size<=M:=by omega
   clear O d N l G;rcases ho with⟨q,t,rfl⟩|⟨t,a,rfl⟩
   ·obtain⟨q0,q1,q2,q3⟩:=q;have P:ah _:=t;clear t;unfold uT;dsimp only;go_wp2_with fail
    refine aI (v:= .tuple #[uT (q0,q1,q2,q3),.nilIface]) (by simp[results,results189,go_sem,uT,z0,z1,z2,z3]) rfl ?_;exact⟨.inl ⟨_,P.out,rfl⟩,dW (dW (dW (dW a8.out _ 0 f _) _ 1 f _) _ 2 f _) _ 3 f _⟩
   ·have P:ah _:=t;clear t;unfold uT;dsimp only;go_wp2_with fail
    refine aI (v:= .tuple #[uT (0,0,0,0),.iface 142 (.pointer (some a))]) (by simp[results,results189,go_sem,uT,z0,z1,z2,z3]) rfl ?_;exact⟨.inr ⟨P.out,a,rfl⟩,dW (dW (dW (dW a8.out _ 0 f _) _ 1 f _) _ 2 f _) _ 3 f _⟩
def iC(w:af)(g:Nat)(L:List Nat):Prop:=w.heap[g]?=some (.cells (dI L).toArray 39 (0,0))
theorem Jp{P:Program}{ops:Array Oper}{o:Oper}{a:Act}{w:af}{K:Act->af->Prop}{Q:Exit->Act->af->Prop}{E:Prop}(m:o.guard=none)(d s:Operand)(n r:aY)
 (u:o.op= .call {callee:= .builtin .copy,args:= #[d,s],argTypes:= #[n,r]}) (elem:aY) (hu:P.underlying n=some (.slice elem)) (p:(P.info? elem).map (·.size)=some 1)
 (g off:Nat) (q:bP) (b e c f:Nat) (hd:a.eval d= .slice (some ⟨g,off,none⟩) b e) (hs:a.eval s= .slice (some q) c f)
 (cur:Array ay) (t:aY) (x:w.heap[g]?=some (.cells cur t (0,0))) (cs:List ay) (y:cs.length=Nat.min c b)
 (i:∀j v,cs[j]?=some v->w.cell? (q.add j)=some v)
 (k:off+cs.length<=cur.size) (z:∀v∈cs,v.oneCell'=true)
 (h:K (a.put o.dst (goInt cs.length)) (w.setRow g (cur.toList.take off++cs++cur.toList.drop (off+cs.length)).toArray)):
 if Region.wanted o (yielded ops a.tmps)=true then Oper.wp P o a w K Q else E:=by
 have hw:Region.wanted o (yielded ops a.tmps)=true:=by simp[Region.wanted,m]
 rw[aC hw];have l:=run_copy_row (P:=P) w n r o.type elem g off b e q c f cur t cs hu p x y i k z;unfold Oper.wp;simp[execOp,u,resolve,invoke,builtin,hd,hs,l,Result.andThen];rw[bV]at h;exact h
theorem wV.apart{w w':af}{v:ay}{row L:List Nat}{gp:Nat}(h:wV w v row)(hp:iC w gp L)(e:∀k,k<w.heap.size->k≠gp->w'.heap[k]?=w.heap[k]?):wV w' v row:=by
 obtain⟨g,off,cap,rfl,i⟩:=h;refine⟨g,off,cap,rfl,fun j l=> ?_⟩;have b:=i j l;have c:g<w.heap.size:=by
  rcases bU g w.heap.size with d|d
  ·exact d
  ·simp[World.cell?,Array.getElem?_eq_none d]at b
 have f:g≠gp:=fun e=>by
  rw[e,(cell_of hp (off+j)).1]at b;have a:(dI L)[off+j]?=some (.int .u8 ((row.getD j 0:Nat):Int)):=by simpa using b
  unfold dI at a;rw[jr]at a;cases h3:L[off+j]? with
  |none=>rw[h3]at a;simp at a
  |some x=>rw[h3]at a;simp at a
 exact(aV (e g c f)).trans b
theorem Hl(L:List Nat)(o:Nat)(q:Nat×Nat×Nat×Nat)(h:o+4<=L.length):(dI L).take o++nH q++(dI L).drop (o+4)=dI (G_ L o q):=by
 have e:G_ L o q=L.take o++[q.1,q.2.1,q.2.2.1,q.2.2.2]++L.drop (o+4):=by
  refine List.ext_getElem? (fun i=> ?_);unfold G_;simp only[List.getElem?_set,List.length_set];rcases bU i o with hi|hi
  ·rw[bV,dh (by simp;omega),dU hi];simp[show¬o+3=i by omega,show¬o+2=i by omega,show¬o+1=i by omega,show¬o=i by omega]
  ·rcases bU i (o+4)with b|b
   ·rw[bV,dw (by simp;omega),dh (by simp;omega)];have a:(L.take o).length=o:=by simp;omega
    rw[a];rcases(by omega:i=o\/i=o+1\/i=o+2\/i=o+3)with rfl|rfl|rfl|rfl
    ·simp;omega
    ·simp;omega
    ·simp;omega
    ·simp;omega
   ·rw[dw (by simp;omega)];have a:(L.take o++[q.1,q.2.1,q.2.2.1,q.2.2.2]).length=o+4:=by simp;omega
    rw[a,iZ,show o+4+(i-(o+4))=i by omega];simp[show¬o+3=i by omega,show¬o+2=i by omega,show¬o+1=i by omega,show¬o=i by omega]
 rw[e];simp[dI,nH]
theorem aay:(prog.info? 39).map (fun i=>i.size)=some 1:=by kernel_rfl
theorem aeF(w:af)(b:Nat):(Instr.sliceAt 303 (.pointer (some ⟨b,0,none⟩)) none none none).run prog w= .ok (.slice (some ⟨b,0,none⟩) 4 4) w:=by kernel_rfl
theorem min2(a:Array aY)(t:aY)(x y m:Int)(w:af)(h:m=min x y):(Builtin.min_ a t #[.int .i64 x,.int .i64 y]).run prog w= .ok (.int .i64 m) w:=by
 have e:(Builtin.min_ a t #[.int .i64 x,.int .i64 y]).run prog w= .ok (.int .i64 (if y<x then y else x)) w:=by simp[Builtin.min_,Builtin.min2]
 rw[e,h];congr 2
 split<;>omega
theorem jC.xN{w:af}{T:aY}{a:bP}(h:jC w T a)(u m:ay)(b:Nat)(hb:b=w.heap.size):jC (w.alloc (.cells #[u,m,.iface T (.pointer (some a))] 216)) 214 ⟨b,0,none⟩:=by subst hb;obtain⟨n,h⟩:=h;exact⟨n+1,h.place u m⟩
theorem Qk(q:Nat×Nat×Nat×Nat):∀v∈nH q,v.oneCell'=true:=by intro v a;simp[nH]at a;rcases a with rfl|rfl|rfl|rfl<;>rfl
theorem ac4(w:af)(a b c d j:Nat)(v:ay)(h:(nH (a,b,c,d))[j]?=some v):(w.alloc (.cells #[.int .u16 (a:Int),.int .u16 (b:Int),.int .u16 (c:Int),.int .u16 (d:Int)] 303)).cell? ((⟨w.heap.size,0,none⟩:bP).add j)=some v:=by
 have hb:=aO w (.cells #[.int .u16 (a:Int),.int .u16 (b:Int),.int .u16 (c:Int),.int .u16 (d:Int)] 303);have e:(⟨w.heap.size,0,none⟩:bP).add j=⟨w.heap.size,j,none⟩:=by unfold Addr.add;split<;>simp_all
 rw[e];refine(cell_of hb j).1.trans ?_;rcases(by omega:j=0\/j=1\/j=2\/j=3\/4<=j)with rfl|rfl|rfl|rfl|f
 ·simpa [nH]using h
 ·simpa [nH]using h
 ·simpa [nH]using h
 ·simpa [nH]using h
 ·rw[fE (by simp[nH];omega)]at h;cases h
theorem Ql(px:Nat->Option DV)(pos:Nat->Nat)(a i:Nat)(dM b:List Nat)(q:DV)(hi:a<=i)(h:eG px pos (i-a) a dM=some b)(c:px i=some q):eG px pos (i+1-a) a dM=some (G_ b (pos i) q):=by rw[show i+1-a=(i-a)+1 by omega,xM,h];simp only[Option.bind_some];rw[show a+(i-a)=i by omega,eG,c];rfl
theorem Qm(px:Nat->Option DV)(pos:Nat->Nat)(a i e:Nat)(dM b:List Nat)(hi:a<=i)(c:i<e)(h:eG px pos (i-a) a dM=some b)(d:px i=none):eG px pos (e-a) a dM=none:=by rw[show e-a=(i-a)+((e-i-1)+1)by omega,xM,h];simp only[Option.bind_some];rw[show a+(i-a)=i by omega,eG,d];rfl
theorem aaz(w:af)(ps:List lC)(vb kb base W H D K np gp y:Nat)(I:Bool)(ev:ay)(E:List (Nat×Nat×Nat×Nat))(jG:Bool)(cv:ay)(C row dM:List Nat)(t:lC)(v:ay)
 (U:w.heap[vb]?=some (Aa W H D K I kb (.slice (some ⟨gp,0,none⟩) np np))) (hP:iC w gp dM) (c8:dM.length=np) (c9:np<=4194304) (h:jE w kb base W H D K I ev E jG cv C) (d0:cv.ownBlock≠some gp) (hK:K=0\/K=2\/K=3\/K=4\/K=6) (hD:jH D) (hE:E.length<=1000) (hC:C.length<=4) (hb:∀x∈row,x<=255) (hR:wV w v row) (g4:1<=row.length) (g5:row.length<=1000000000)
 (hW:W<=1048576) (g6:t.W<=1048576) (hx:t.x<=8) (g9:t.sx<=8) (h0:t.y<=8) (d1:t.sy<=8) (hy:y<=1048576) (a5:∀i,i<t.W->qN W t y i+4<=np):
 aF prog 157 #[.pointer (some ⟨vb,0,none⟩),yX t.x t.sx t.y t.sy t.W t.H,.int .i64 (y:Int),v] w fun e w'=>
  (∃c,wX ⟨ps,D*bF K,W,Om K D E C⟩ t y row dM=some c/\e= .returned .nilIface/\iC w' gp c/\Fr (fun k=>k=gp) w w')\/
  (wX ⟨ps,D*bF K,W,Om K D E C⟩ t y row dM=none/\(∃T a,e= .returned (.iface T (.pointer (some a)))/\jC w' T a)/\Fr (fun k=>k=gp) w w'):=by
 have r:=ai U;have ql:=ai hP;have d2:=ai h.nN;have b1:vb≠gp:=fU U hP (by decide);have d4:kb≠gp:=fU h.nN hP (by decide);have d5:ev.ownBlock≠some gp:=gB h.nP hP (by decide);have d6:1<=D:=by rcases hD with rfl|rfl|rfl|rfl|rfl<;>omega
 have G:D<=16:=by rcases hD with rfl|rfl|rfl|rfl|rfl<;>omega
 have b2:1<=bF K/\bF K<=4:=by rcases hK with rfl|rfl|rfl|rfl|rfl<;>decide
 have z:=fun w'=>Ap W H D K I w' G (by omega);have h1:1<=D*bF K:=bT d6 b2.1;have d7:D*bF K<=16*4:=bT G b2.2;have d8:ah (∀(i:Nat) (w':af),(∀k,k<w.heap.size->k≠gp->w'.heap[k]?=w.heap[k]?)->(i+1)*(D*bF K)<=8*row.length->aF prog 189 #[.pointer (some ⟨vb,0,none⟩),v,.int .i64 (i:Int)] w' (aax (Om K D E C row i) w')):=(fun i w' e hi=>Ua w' vb kb base W H D K I _ ev E jG cv C row i v ((e vb r b1).trans U) (h.over (fun k F=>by
  rcases F with rfl|F|F
  ·exact e _ d2 d4
  ·exact e _ (h.nP.lt k F).2 (fun e=>d5 (e▸F))
  ·exact e _ (h.Bq.lt k F).2 (fun e=>d0 (e▸F)))) hK hD hE hC hb (hR.apart hP e) hi (by omega):∀i,_)
 obtain⟨g,off,cap,rfl,-⟩:=hR;obtain⟨px,b3⟩:∃px,px=Om K D E C row:=⟨_,rfl⟩;have d9:ah (∀(i:Nat) (w':af),(∀k,k<w.heap.size->k≠gp->w'.heap[k]?=w.heap[k]?)->(i+1)*(D*bF K)<=8*row.length->aF prog 189 #[.pointer (some ⟨vb,0,none⟩),.slice (some ⟨g,off,none⟩) row.length cap,.int .i64 (i:Int)] w' (aax (px i) w')):=(by rw[b3];exact d8.out:∀i,_);clear d8;generalize b4:D*bF K=bits at*;obtain⟨BP,b6⟩:∃BP,BP=wX ⟨ps,bits,W,Om K D E C⟩ t y row dM:=⟨_,rfl⟩;rw[<-b6];have a6:BP=eG px (qN W t y) (min (8*row.length/bits) t.W-8*(row.length-1)/bits) (8*(row.length-1)/bits) dM:=by rw[b6,b3];rfl
 have X:ah _:=a6;clear b6 a6 b3 b4 h d0 d5 hb;obtain⟨m1,Y⟩:∃m,m=y*t.sy:=⟨_,rfl⟩;have e0:(y:Int)*(t.sy:Int)=(m1:Int):=by rw[Y];simp
 have e1:m1<=1048576*8:=by rw[Y];exact bT hy d1
 obtain⟨m2,Z⟩:∃m,m=(t.y+m1)*W:=⟨_,rfl⟩;have e3:((t.y:Int)+(m1:Int))*(W:Int)=(m2:Int):=by rw[Z];simp
 have e6:m2<=8388616*1048576:=by rw[Z];exact bT (by omega) hW
 obtain⟨lf,e7⟩:∃m,m=m2+t.x:=⟨_,rfl⟩;have e8:(m2:Int)+(t.x:Int)=(lf:Int):=by omega
 have a7:ah (∀i,qN W t y i=4*(lf+i*t.sx)):=(fun i=>by unfold qN;rw[e7,Z,Y]:∀i,_);obtain⟨V,a0⟩:∃i,i=8*(row.length-1)/bits:=⟨_,rfl⟩;obtain⟨en,J⟩:∃i,i=8*row.length/bits:=⟨_,rfl⟩;have e9:(8*((row.length:Int)-1))/(bits:Int)=(V:Int):=by
  have e:(8*((row.length:Int)-1))=((8*(row.length-1):Nat):Int):=by omega
  rw[e,a0];simp
 have f0:(8*(row.length:Int))/(bits:Int)=(en:Int):=by rw[J];simp
 rw[<-a0,<-J]at X;have h2:ah _:=J;have f1:V<=8000000000:=by rw[a0];exact aK (qy _ _) (by omega)
 have f2:en<=8000000000:=by rw[J];exact aK (qy _ _) (by omega)
 obtain⟨e,he⟩:∃e,e=min en t.W:=⟨_,rfl⟩;rw[<-he]at X;have HE:ah _:=he;clear Y Z e7 a0 J he;have HV:ah _:=U;have HP:ah _:=hP;have f3:ah _:=a5;have cW:∀o,(w.alloc o).cell? ⟨vb,0,none⟩=some (.int .i64 (W:Int)):=fun o=>(aV (aj _ _ vb r)).trans (by simpa [Aa]using(cell_of U 0).1);have cH:∀o,(w.alloc o).cell? ⟨vb,1,none⟩=some (.int .i64 (H:Int)):=fun o=>(aV (aj _ _ vb r)).trans (by simpa [Aa]using(cell_of U 1).1);have cD:∀o,(w.alloc o).cell? ⟨vb,2,none⟩=some (.int .i64 (D:Int)):=fun o=>(aV (aj _ _ vb r)).trans (by simpa [Aa]using(cell_of U 2).1);have cK:∀o,(w.alloc o).cell? ⟨vb,3,none⟩=some (.int .u8 (K:Int)):=fun o=>(aV (aj _ _ vb r)).trans (by simpa [Aa]using(cell_of U 3).1);have cI:∀o,(w.alloc o).cell? ⟨vb,4,none⟩=some (.bool I):=fun o=>(aV (aj _ _ vb r)).trans (by simpa [Aa]using(cell_of U 4).1);clear U hP a5;unfold qX at z;unfold yX;obtain⟨tx,n,ty,a1,tW,tH⟩:=t;dsimp only at*;generalize row.length=rl at*;go_enter func157,ntmps157
 go_wp2_with fail
 go_quiet (fail)
 go_wp2_with fail
 refine(z _).mono ?_;rintro e2 w2 ⟨rfl,b7⟩;have L:w2.heap[w.heap.size]?=some (.cells #[.int .i64 (tx:Int),.int .i64 (n:Int),.int .i64 (ty:Int),.int .i64 (a1:Int),.int .i64 (tW:Int),.int .i64 (tH:Int)] 301 (0,0)):=(b7.block w.heap.size (by simp[World.drewN])).trans (aO w _);have M:aJ w.heap.size w w2:=gI (kW.cZ ((aP _ _).alloc (ag _) _)) (b7.mono (by simp[World.drewN]));have d:ah _:=M;have q1:w2.cell? ⟨w.heap.size,1,none⟩=some (.int .i64 (n:Int)):=by simpa using(cell_of L 1).1
 have q4:w2.cell? ⟨w.heap.size,4,none⟩=some (.int .i64 (tW:Int)):=by simpa using(cell_of L 4).1
 have A:=ai L;have h4:ah _:=L;have b8:w.heap.size≠gp:=by omega
 clear z cW cH cD cK cI b7 M L;obtain⟨b5,a8⟩:∃b,b=w.heap.size:=⟨_,rfl⟩;rw[<-a8]at q1 q4 h4 A b8|-;clear a8;have f4:(8*(rl:Int)).tdiv (bits:Int)=(en:Int):=by rw[Int.tdiv_eq_ediv_of_nonneg (by omega)];exact f0
 have f5:(8*((rl:Int)-1)).tdiv (bits:Int)=(V:Int):=by rw[Int.tdiv_eq_ediv_of_nonneg (by omega)];exact e9
 have f6:∀ts t w',(Builtin.min_ ts t #[.int .i64 (en:Int),.int .i64 (tW:Int)]).run prog w'= .ok (.int .i64 (e:Int)) w':=fun ts t w'=>min2 ts t _ _ _ w' (by rw[HE.out];omega);go_wp2_with fail
 go_region
 all_goals
  go_wp2_with fail
  go_loopw [12] (fun iv wr=> ∃(i:Nat) (c:List Nat),V<=i/\(i<=V\/i<=e)/\iv= .int .i64 (i:Int)/\eG px (qN W ⟨tx,n,ty,a1,tW,tH⟩ y) (i-V) V dM=some c/\iC wr gp c/\Fr (fun k=>k=gp) w2 wr) (fun iv _=>e-(aX iv).toNat)
  case atStart=>exact⟨V,dM,ag _,.inl (ag _),rfl,by rw[iW];rfl,(Below.block d.out gp ql).trans HP.out,(Fr.refl _ _).drew⟩
  case round=>
   obtain⟨i,c,f7,h5,rfl,s,N,f⟩:=hrel;have u:∀k,k<w.heap.size->k≠gp->wr.heap[k]?=w.heap[k]?:=fun k F a2=>(f.block k (bu F (jh d.out)) a2).trans (Below.block d.out k F);have B:Fr (fun k=>k=gp) w wr:=⟨f.os.trans (Below.os d.out),f.tape.trans (Below.tape d.out),f.output.trans (Below.output d.out),aK (jh d.out) f.size,u⟩;by_cases f8:i<e
   ·have a9:i+1<=en:=by have:=HE.out;omega
    have f9:i<tW:=by have:=HE.out;omega
    have hC:=d9.out i wr u (aK (eY _ a9) (by rw[h2.out];exact Nat.div_mul_le_self _ _));have b9:=f3.out i f9;rw[a7.out i]at b9;have c3:=(u vb r b1).trans HV.out;have c6:wr.cell? ⟨vb,6,none⟩=some (.slice (some ⟨gp,0,none⟩) np np):=by simpa using(cell_of c3 6).1
    have O:=ai c3;have P:=ai N;have g0:wr.cell? ⟨b5,1,none⟩=some (.int .i64 (n:Int)):=(aV (f.block b5 A b8)).trans q1;have Q:b5<wr.heap.size:=bu A f.size;have i5:c.length=np:=(xK _ _ _ _ _ _ s).trans c8;have g1:ah (i+1<=e):=(f8:i+1<=e);have a3:ah _:=s;have c4:ah _:=N;have R:ah _:=B;have h7:ah _:=f;obtain⟨m3,a4⟩:∃m,m=i*n:=⟨_,rfl⟩;rw[<-a4]at b9;have i3:(i:Int)*(n:Int)=(m3:Int):=by rw[a4];simp
    have h9:ah _:=a4;have i6:i<=8000000000:=by omega
    clear s N f B u c3 a4;go_wp2_with fail
    refine hC.mono ?_;rintro e4 w4 ⟨ho,l⟩;rcases ho with⟨q,S,rfl⟩|⟨S,a,rfl⟩
    ·obtain⟨q0,p,q2,q3⟩:=q;have c5:ah _:=S;have i7:∀o,(w4.alloc o).cell? ⟨vb,6,none⟩=some (.slice (some ⟨gp,0,none⟩) np np):=fun o=>(aV ((aj _ _ vb (bu O l.size)).trans (l.block vb O))).trans c6;have i9:∀o,(w4.alloc o).cell? ⟨b5,1,none⟩=some (.int .i64 (n:Int)):=fun o=>(aV ((aj _ _ b5 (bu Q l.size)).trans (l.block b5 Q))).trans g0;have s:∀o,iC (w4.alloc o) gp c:=fun o=>((aj _ _ gp (bu P l.size)).trans (l.block gp P)).trans c4.out;have b0:ah _:=s;have c7:ah _:=l;have i4:=fun w'=>aeF w' w4.heap.size;clear S s l hC g0 c6 q1;unfold uT;dsimp only;obtain⟨o,ho⟩:∃o,o=4*(lf+m3):=⟨_,rfl⟩;have j0:IntKind.i64.wrap (4*IntKind.i64.wrap ((lf:Int)+IntKind.i64.wrap (m3:Int)))=(o:Int):=by
      have v1:IntKind.i64.wrap (m3:Int)=(m3:Int):=by rw[bK];omega
      have v2:IntKind.i64.wrap ((lf:Int)+(m3:Int))=(lf:Int)+(m3:Int):=by rw[bK];omega
      have v3:IntKind.i64.wrap (4*((lf:Int)+(m3:Int)))=4*((lf:Int)+(m3:Int)):=by rw[bK];omega
      rw[v1,v2,v3,ho];omega
     have j1:(o:Int)<=(np:Int):=by omega
     have j2:¬np=o:=by omega
     have j3:o+4<=np:=by omega
     have HO:ah (o=qN W ⟨tx,n,ty,a1,tW,tH⟩ y i):=(by rw[a7.out i,ho,h9.out]:_=_);have g2:ah (∀(j:Nat) (v:ay),(nH (q0,p,q2,q3))[j]?=some v->(w4.alloc (.cells #[.int .u16 (q0:Int),.int .u16 (p:Int),.int .u16 (q2:Int),.int .u16 (q3:Int)] 303)).cell? ((⟨w4.heap.size,0,none⟩:bP).add j)=some v):=(fun j v hj=>ac4 w4 _ _ _ _ j v hj:∀j,_);have g3:ah (∀v∈nH (q0,p,q2,q3),v.oneCell'=true):=(Qk _:∀v,_);have i1:ah ((nH (q0,p,q2,q3)).length=Nat.min 4 (np-o)):=((qx (by omega)).symm:4=Nat.min 4 (np-o));have i2:ah (o+(nH (q0,p,q2,q3)).length<=(dI c).toArray.size):=(by simp[nH,dI];omega:_<=_);clear ho b9;clear e0 e3 e8 e9 f0 f4 f5 f6 e1 e6 f1 f2 h1 d7 hW g6 hx g9 h0 d1 hy c9 g4 g5 r ql d2 b1 d4 d6 G b2 a9 f9 O P Q h5 A b8 hK hD hE hC c8 q4;go_wp2_with fail
     go_region_law (first
      |(refine Jp (by rfl) _ _ _ _ (by rfl) 39 underlying30 aay gp o ⟨w4.heap.size,0,none⟩ (np-o) (np-o) 4 4 (by rfl) (by rfl) (dI c).toArray 39 (b0.out _) (nH (q0,p,q2,q3)) i1.out g2.out i2.out g3.out ?_))
     all_goals
      go_wp2_with fail
      go_roundw
      case rel=>
       refine⟨i+1,G_ c (qN W ⟨tx,n,ty,a1,tW,tH⟩ y i) (q0,p,q2,q3),by omega,.inr g1.out,by go_num,Ql _ _ _ _ _ _ _ f7 a3.out c5.out,?_,?_⟩
       ·refine(setRow_heap _ gp _ _ _ _ (b0.out _)).trans ?_;rw[<-bV,show o+(nH (q0,p,q2,q3)).length=o+4 from rfl,Hl c o _ (by omega),HO.out]
       ·have hz:Fr (fun k=>k=gp) w2 (w4.alloc (.cells #[.int .u16 (q0:Int),.int .u16 (p:Int),.int .u16 (q2:Int),.int .u16 (q3:Int)] 303)):=(Fr.trans h7.out (Fr.kJ c7.out)).alloc _;exact⟨hz.os,hz.tape,hz.output,by rw[setRow_size];exact hz.size,fun k F a2=>(sO _ gp k _ a2).trans (hz.block k F a2)⟩
      case measure=>have:=g1.out;simp[aX];omega
    ·have c5:ah _:=S;have c7:ah _:=l;clear S l hC;unfold uT;dsimp only;go_wp2_with fail
     refine(at_one _ _ _ _ _).mono ?_;rintro e5 w5 ⟨rfl,rfl⟩;go_wp2_with fail
     go_ret;refine .inr ⟨by rw[X.out];exact Qm _ _ _ _ _ _ _ f7 f8 a3.out c5.out,⟨_,_,rfl,jC.xN (jC.mk _ _) _ _ _ (by simp)⟩,?_⟩;exact((Fr.trans R.out (Fr.kJ c7.out)).alloc _).alloc _
   ·have a3:ah _:=s;have c4:ah _:=N;have R:ah _:=B;clear s N B f u;go_wp2_with fail
    go_ret;exact .inl ⟨c,by rw[X.out,show e-V=i-V by omega];exact a3.out,rfl,c4.out,R.out⟩
def fD(t:lC):List ay:=[.int .i64 (t.x:Int),.int .i64 (t.sx:Int),.int .i64 (t.y:Int),.int .i64 (t.sy:Int),.int .i64 (t.W:Int),.int .i64 (t.H:Int)]
def dn(ps:List lC):List ay:=ps.flatMap fD
theorem Qn(ps:List lC)(i j:Nat)(t:lC)(h:ps[i]?=some t)(c:j<6):(dn ps)[i*6+j]?=(fD t)[j]?:=by
 induction ps generalizing i with
 |nil=>simp at h
 |cons q ps a=>
  have b:dn (q::ps)=fD q++dn ps:=by simp[dn]
  rw[b];cases i with
  |zero=>
   have e:q=t:=by simpa using h
   subst e;rw[Nat.zero_mul,fF,dh (by simp[fD];omega)]
  |succ i=>have e:=a i (by simpa using h);rw[dw (by simp[fD];omega),show(i+1)*6+j-(fD q).length=i*6+j by simp[fD];omega];exact e
def dN(bits:Nat)(pv c:ay)(pt y told d:Nat)(a b:ay)(at' f:Nat):Obj:= .cells #[.int .i64 (bits:Int),pv,c,.int .i64 (pt:Int),.int .i64 (y:Int),.int .i64 (told:Int),.int .i64 (d:Int),a,b,.int .i64 (at':Int),.int .u8 (f:Int)] 299 (0,0)
theorem jR{w:af}{base:Nat}{pv:ay}{ps:List lC}(h:w.ownsRow base 301 6 pv ps.length (dn ps))(i:Nat)(t:lC)(a:ps[i]?=some t):∃g cap,pv= .slice (some ⟨g,0,none⟩) ps.length cap/\g<w.heap.size/\∀j,j<6->w.cell? ⟨g,i*6+j,none⟩=(fD t)[j]?:=by
 have hi:i<ps.length:=(List.getElem?_eq_some_iff.1 a).1;obtain⟨la,cap,rfl⟩:=nX h;obtain⟨g,rfl⟩:∃g,la=some ⟨g,0,none⟩:=by
  rcases h.2 with⟨_,e⟩|⟨g,b,cur,c,_⟩
  ·omega
  ·simp at c;exact⟨g,c.1⟩
 refine⟨g,cap,rfl,(h.lt g rfl).2,fun j d=> ?_⟩;exact(h.cellAt (i*6+j) (by omega)).trans (Qn ps i j t a d)
theorem Jq(rb bits pt y told d at' f base:Nat)(pv c a b:ay)(ps:List lC)(w:af)(h:w.heap[rb]?=some (dN bits pv c pt y told d a b at' f))(hp:w.ownsRow base 301 6 pv ps.length (dn ps))(he:pt=ps.length)(g:ps.length<=100):
 aF prog 188 #[.pointer (some ⟨rb,0,none⟩)] w fun e w'=>e= .returned (.tuple #[])/\∃nq,w'=w.drewN nq:=by
 have c1:w.cell? ⟨rb,1,none⟩=some pv:=by simpa [dN]using(cell_of h 1).1
 have i:w.cell? ⟨rb,3,none⟩=some (.int .i64 (pt:Int)):=by simpa [dN]using(cell_of h 3).1
 obtain⟨la,cap,rfl⟩:=nX hp;clear hp h;generalize ps.length=n at*;subst he;go_enter func188,ntmps188
 go_wp2_with fail
 go_quiet (fail)
 go_wp2_with fail
 go_end0
 exact⟨rfl,_,rfl⟩
def y_:Prop:=∀(rb bits pt y told d at' f base:Nat) (pv c a b:ay) (ps:List lC) (t:lC) (w:af),w.heap[rb]?=some (dN bits pv c pt y told d a b at' f)->w.ownsRow base 301 6 pv ps.length (dn ps)->ps[pt]?=some t->ps.length<=100->bits<=64->t.W<=1048576->
 aF prog 188 #[.pointer (some ⟨rb,0,none⟩)] w fun e w'=>e= .returned (.tuple #[])/\∃g7 g8,g7≠g8/\w.heap.size<=g7/\w.heap.size<=g8/\
  w'.heap[rb]?=some (dN bits pv c pt y told (aQ bits) (.slice (some ⟨g7,0,none⟩) (aQ bits+bY bits t.W) (aQ bits+bY bits t.W)) (.slice (some ⟨g8,0,none⟩) (aQ bits+bY bits t.W) (aQ bits+bY bits t.W)) 0 0)/\jL w' g7 (List.replicate (aQ bits+bY bits t.W) 0)/\jL w' g8 (List.replicate (aQ bits+bY bits t.W) 0)/\Fr (fun k=>k=rb) w w'
theorem rC{w:af}{b o:Nat}{v:ay}:Fr (fun k=>k=b) w (w.setCell ⟨b,o,none⟩ v):=⟨rfl,rfl,rfl,by simp,fun k c a=>aB o v a⟩
theorem rV{w:af}{rb bits pt y told d at' f:Nat}{pv c a b:ay}(h:w.heap[rb]?=some (dN bits pv c pt y told d a b at' f))(o:Nat)(v:ay):(w.setCell ⟨rb,o,none⟩ v).heap[rb]?=some (.cells ((#[.int .i64 (bits:Int),pv,c,.int .i64 (pt:Int),.int .i64 (y:Int),.int .i64 (told:Int),.int .i64 (d:Int),a,b,.int .i64 (at':Int),.int .u8 (f:Int)]:Array ay).setIfInBounds o v) 299 (0,0)):=bG h o v
theorem XP(rb bits pt y told d at' f base n g7 g8:Nat)(pv l:ay)(ps:List lC)(t:lC)(w:af)(h:w.heap[rb]?=some (dN bits pv l pt y told d (.slice (some ⟨g7,0,none⟩) n n) (.slice (some ⟨g8,0,none⟩) n n) at' f))(hp:w.ownsRow base 301 6 pv ps.length (dn ps))(x:ps[pt]?=some t)(V:ps.length<=100)(W:y+1<t.H)(hH:t.H<=1048576)(M:told<=100000000):
 aF prog 221 #[.pointer (some ⟨rb,0,none⟩)] w fun e w'=>e= .returned (.tuple #[])/\w'.heap[rb]?=some (dN bits pv l pt (y+1) (told+1) d (.slice (some ⟨g8,0,none⟩) n n) (.slice (some ⟨g7,0,none⟩) n n) 0 f)/\Fr (fun k=>k=rb) w w':=by
 have D:pt<ps.length:=(List.getElem?_eq_some_iff.1 x).1;obtain⟨g,cap,rfl,z,o⟩:=jR hp pt t x;have s:=o 5 (by omega);have A:g≠rb:=fun e=>by
  rcases hp.2 with⟨u,_⟩|⟨X,E,cur,u,_,F,_⟩
  ·simp at u
  ·simp at u;rw[<-u.1,e,h]at F;simp[dN]at F
 have s:w.cell? ⟨g,pt*6+5,none⟩=some (.int .i64 (t.H:Int)):=by simpa [fD]using s
 have N:=(cell_of h 4).2;have O:=(cell_of h 5).2;have G:w.cell? ⟨rb,4,none⟩=some (.int .i64 (y:Int)):=by simpa [dN]using(cell_of h 4).1
 have P:w.cell? ⟨rb,5,none⟩=some (.int .i64 (told:Int)):=by simpa [dN]using(cell_of h 5).1
 have I:((w.setCell ⟨rb,5,none⟩ (.int .i64 ((told:Int)+1))).setCell ⟨rb,4,none⟩ (.int .i64 ((y:Int)+1))).heap[rb]?=some (dN bits (.slice (some ⟨g,0,none⟩) ps.length cap) l pt (y+1) (told+1) d (.slice (some ⟨g7,0,none⟩) n n) (.slice (some ⟨g8,0,none⟩) n n) at' f):=(bG (rV h 5 _) 4 _).trans (by simp[dN]);have c:Fr (fun k=>k=rb) w ((w.setCell ⟨rb,5,none⟩ (.int .i64 ((told:Int)+1))).setCell ⟨rb,4,none⟩ (.int .i64 ((y:Int)+1))):=rC.trans rC;have J:((w.setCell ⟨rb,5,none⟩ (.int .i64 ((told:Int)+1))).setCell ⟨rb,4,none⟩ (.int .i64 ((y:Int)+1))).cell? ⟨g,pt*6+5,none⟩=some (.int .i64 (t.H:Int)):=(aV (c.block g z A)).trans s;have Q:(w.setCell ⟨rb,5,none⟩ (.int .i64 ((told:Int)+1))).cell? ⟨rb,4,none⟩=some (.int .i64 (y:Int)):=GG G (by omega);have b:ah _:=I;have p:ah _:=c;have q:ah _:=J;generalize ps.length=m at*;generalize t.H=R at*;clear o hp x h s I c J;go_enter func221,ntmps221
 go_upto_region 2 with fail
 generalize (w.setCell ⟨rb,5,none⟩ (.int .i64 ((told:Int)+1))).setCell ⟨rb,4,none⟩ (.int .i64 ((y:Int)+1))=w2 at*;have Y:w2.cell? ⟨rb,1,none⟩=some (.slice (some ⟨g,0,none⟩) m cap):=by simpa [dN]using(cell_of b.out 1).1
 have Z:w2.cell? ⟨rb,3,none⟩=some (.int .i64 (pt:Int)):=by simpa [dN]using(cell_of b.out 3).1
 have k4:w2.cell? ⟨rb,4,none⟩=some (.int .i64 ((y:Int)+1)):=by simpa [dN]using(cell_of b.out 4).1
 have k5:=q.out;have S:(pt:Int)<(m:Int):=by omega
 have T:(y:Int)+1<(R:Int):=by omega
 clear q G P Q N O;go_quiet (fail)
 go_wp2_with fail
 have a:(w2.drewN nq).heap[rb]?=some (dN bits (.slice (some ⟨g,0,none⟩) m cap) l pt (y+1) (told+1) d (.slice (some ⟨g7,0,none⟩) n n) (.slice (some ⟨g8,0,none⟩) n n) at' f):=b.out;refine(Nj rb n n n (some ⟨g7,0,none⟩) (some ⟨g8,0,none⟩) (at':Int) _ (by simpa [dN]using(cell_of a 7).1) (by simpa [dN]using(cell_of a 8).1) (by simpa [dN]using(cell_of a 9).1) (fun i=>(cell_of a i).2)).mono ?_;rintro e K ⟨rfl,B,j⟩;have L:K.heap[rb]?=some (dN bits (.slice (some ⟨g,0,none⟩) m cap) l pt (y+1) (told+1) d (.slice (some ⟨g8,0,none⟩) n n) (.slice (some ⟨g7,0,none⟩) n n) 0 f):=by rw[j];exact(bG (bG (rV a 7 _) 8 _) 9 _).trans (by simp[dN])
 have r:Fr (fun k=>k=rb) w K:=by rw[j];exact Fr.drewN (Fr.trans (Fr.drewN p.out nq) (rC.trans (rC.trans rC))) B
 have U:ah _:=L;have C:ah _:=r;clear j L r a b p;go_wp2_with fail
 refine aI (v:= .tuple #[]) (by simp[results,results221,go_sem]) rfl ?_;exact⟨rfl,U.out,C.out⟩
theorem Qo(rb bits pt y told d at' f base:Nat)(pv n a b:ay)(ps:List lC)(t:lC)(w:af)(h:w.heap[rb]?=some (dN bits pv n pt y told d a b at' f))(hp:w.ownsRow base 301 6 pv ps.length (dn ps))(z:ps[pt]?=some t)(hl:ps.length<=100)(hy:¬y+1<t.H)(hH:t.H<=1048576)(P:y<=1048576)(Q:told<=100000000)
 (R:af->af->Prop) (F:∀w2,w2.heap[rb]?=some (dN bits pv n (pt+1) 0 (told+1) d a b at' f)->Fr (fun k=>k=rb) w w2->aF prog 188 #[.pointer (some ⟨rb,0,none⟩)] w2 fun e w'=>e= .returned (.tuple #[])/\R w2 w'):
 aF prog 221 #[.pointer (some ⟨rb,0,none⟩)] w fun e w'=>e= .returned (.tuple #[])/\∃w2,w2.heap[rb]?=some (dN bits pv n (pt+1) 0 (told+1) d a b at' f)/\Fr (fun k=>k=rb) w w2/\R w2 w':=by
 have G:pt<ps.length:=(List.getElem?_eq_some_iff.1 z).1;obtain⟨g,cap,rfl,A,o⟩:=jR hp pt t z;have u:=o 5 (by omega);have B:g≠rb:=fun e=>by
  rcases hp.2 with⟨x,_⟩|⟨g',I,cur,x,_,J,_⟩
  ·simp at x
  ·simp at x;rw[<-x.1,e,h]at J;simp[dN]at J
 have u:w.cell? ⟨g,pt*6+5,none⟩=some (.int .i64 (t.H:Int)):=by simpa [fD]using u
 have S:=(cell_of h 4).2;have T:=(cell_of h 5).2;have K:w.cell? ⟨rb,4,none⟩=some (.int .i64 (y:Int)):=by simpa [dN]using(cell_of h 4).1
 have U:w.cell? ⟨rb,5,none⟩=some (.int .i64 (told:Int)):=by simpa [dN]using(cell_of h 5).1
 have L:((w.setCell ⟨rb,5,none⟩ (.int .i64 ((told:Int)+1))).setCell ⟨rb,4,none⟩ (.int .i64 ((y:Int)+1))).heap[rb]?=some (dN bits (.slice (some ⟨g,0,none⟩) ps.length cap) n pt (y+1) (told+1) d a b at' f):=(bG (rV h 5 _) 4 _).trans (by simp[dN]);have j:Fr (fun k=>k=rb) w ((w.setCell ⟨rb,5,none⟩ (.int .i64 ((told:Int)+1))).setCell ⟨rb,4,none⟩ (.int .i64 ((y:Int)+1))):=rC.trans rC;have M:((w.setCell ⟨rb,5,none⟩ (.int .i64 ((told:Int)+1))).setCell ⟨rb,4,none⟩ (.int .i64 ((y:Int)+1))).cell? ⟨g,pt*6+5,none⟩=some (.int .i64 (t.H:Int)):=(aV (j.block g A B)).trans u;have V:(w.setCell ⟨rb,5,none⟩ (.int .i64 ((told:Int)+1))).cell? ⟨rb,4,none⟩=some (.int .i64 (y:Int)):=GG K (by omega);have c:ah _:=L;have p:ah _:=j;have q:ah _:=M;have r:ah _:=F;generalize ps.length=m at*;generalize t.H=W at*;clear o hp z h u L j M F;go_enter func221,ntmps221
 go_upto_region 2 with fail
 generalize (w.setCell ⟨rb,5,none⟩ (.int .i64 ((told:Int)+1))).setCell ⟨rb,4,none⟩ (.int .i64 ((y:Int)+1))=w2 at*;have X:w2.cell? ⟨rb,1,none⟩=some (.slice (some ⟨g,0,none⟩) m cap):=by simpa [dN]using(cell_of c.out 1).1
 have Y:w2.cell? ⟨rb,3,none⟩=some (.int .i64 (pt:Int)):=by simpa [dN]using(cell_of c.out 3).1
 have Z:w2.cell? ⟨rb,4,none⟩=some (.int .i64 ((y:Int)+1)):=by simpa [dN]using(cell_of c.out 4).1
 have k5:=q.out;have a0:(pt:Int)<(m:Int):=by omega
 have a1:¬((y:Int)+1<(W:Int)):=by omega
 clear q K U V S T;go_quiet (fail)
 obtain⟨w3,i⟩:∃w3,w3=w2.drewN nq:=⟨_,rfl⟩;rw[<-i];have h3:w3.heap[rb]?=some (dN bits (.slice (some ⟨g,0,none⟩) m cap) n pt (y+1) (told+1) d a b at' f):=by rw[i];exact c.out
 have s:Fr (fun k=>k=rb) w w3:=by rw[i];exact Fr.drewN p.out nq
 have j3:w3.cell? ⟨rb,3,none⟩=some (.int .i64 (pt:Int)):=by simpa [dN]using(cell_of h3 3).1
 have j4:w3.cell? ⟨rb,4,none⟩=some (.int .i64 ((y:Int)+1)):=by simpa [dN]using(cell_of h3 4).1
 have a2:=(cell_of h3 3).2;have a3:=(cell_of h3 4).2;have C:((w3.setCell ⟨rb,3,none⟩ (.int .i64 ((pt:Int)+1))).setCell ⟨rb,4,none⟩ (.int .i64 0)).heap[rb]?=some (dN bits (.slice (some ⟨g,0,none⟩) m cap) n (pt+1) 0 (told+1) d a b at' f):=(bG (rV h3 3 _) 4 _).trans (by simp[dN]);have l:Fr (fun k=>k=rb) w ((w3.setCell ⟨rb,3,none⟩ (.int .i64 ((pt:Int)+1))).setCell ⟨rb,4,none⟩ (.int .i64 0)):=s.trans (rC.trans rC);have N:ah _:=r.out _ C l;have D:ah _:=C;have E:ah _:=l;clear X Y Z k5 h3 s C l c p i r;go_wp2_with fail
 refine bz N.out ?_;rintro e w5 ⟨rfl,O⟩;have HR:ah _:=O;clear O N;go_wp2_with fail
 first
  |go_end0
  |refine aI (v:= .tuple #[]) (by simp[results,results221,go_sem]) rfl ?_
 exact⟨rfl,_,D.out,E.out,HR.out⟩
end Pr
namespace Pr
open Go.RowKit Rf
theorem qc.Ii{w:af}{tb:Src}{rb:Nat}{s:ByteArray}{pos:Nat}(h:Rd w tb rb s pos)(o:Obj):qc (w.alloc o) tb rb s:=h.Ag.alloc o
theorem Ut(tb:Src)(rb:Nat)(s:ByteArray)(pos:Nat)(w:af)(h:Rd w tb rb s pos)(hs:s.size<=140737488354000):
 aF prog 201 #[.pointer (some ⟨rb,0,none⟩)] w fun e w'=>
  (∃a b n:Nat,vH s ⟨pos,false⟩=(a,b,n,⟨pos+14,false⟩)/\257<=a/\a<=286/\1<=b/\b<=30/\4<=n/\n<=19/\e= .returned (.tuple #[.int .i64 (a:Int),.int .i64 (b:Int),.int .i64 (n:Int),.nilIface])/\Rd w' tb rb s (pos+14)/\RF tb rb w w')\/
  ((∃T a,e= .returned (.tuple #[.int .i64 0,.int .i64 0,.int .i64 0,.iface T (.pointer (some a))])/\dO tb w' T a ((vH s ⟨pos,false⟩).2.2.2.dA=true))/\qc w' tb rb s/\RF tb rb w w'):=by
 go_enter func201,ntmps201
 go_wp2_with fail
 refine(fM tb rb s pos 5 _ h hs (by omega)).mono ?_;rintro e w1 (⟨j,t,rfl,k,c⟩|⟨⟨T,a,rfl,j⟩,k,c⟩);rotate_left
 ·go_wp2_with fail
  refine aI (v:= .tuple #[.int .i64 0,.int .i64 0,.int .i64 0,.iface T (.pointer (some a))]) (by simp[results,results201,go_sem]) rfl (.inr ⟨⟨T,a,rfl,j.imp (fun j=>Bg _ _ _ (nK s 4 _ (nK s 5 _ j)))⟩,k,c⟩)
 have d:ah (bI s 5 ⟨pos,false⟩=(bH s pos 5,⟨pos+5,false⟩)):=jc s 5 pos t;have u:bH s pos 5<32:=fQ s pos 5;generalize bH s pos 5=f at*;by_cases x:f+257<=286;rotate_left
 ·have y:decide ((286:Int)<(f:Int)+257)=true:=aZ (by omega);go_wp2_with fail
  refine(dJ _ _).mono ?_;rintro e w2 ⟨rfl,rfl⟩;go_wp2_with fail
  refine aI (v:= .tuple #[.int .i64 0,.int .i64 0,.int .i64 0,.iface 142 (.pointer (some ⟨w1.heap.size,0,none⟩))]) (by simp[results,results201,go_sem]) rfl (.inr ⟨⟨_,_,rfl,dO.ve ?_⟩,qc.Ii k _,c.alloc _⟩);unfold vH;dsimp only;rw[d.out];unfold uM;rw[aC (.inl (by dsimp only;omega))]
 have y:decide ((286:Int)<(f:Int)+257)=false:=aS (by omega);go_wp2_with fail
 refine(fM tb rb s (pos+5) 5 _ k hs (by omega)).mono ?_;rintro e w2 (⟨l,z,rfl,m,g⟩|⟨⟨T,a,rfl,l⟩,m,g⟩);rotate_left
 ·go_wp2_with fail
  refine aI (v:= .tuple #[.int .i64 0,.int .i64 0,.int .i64 0,.iface T (.pointer (some a))]) (by simp[results,results201,go_sem]) rfl (.inr ⟨⟨T,a,rfl,l.imp (fun l=> ?_)⟩,m,c.trans g⟩);unfold vH;dsimp only;rw[d.out];exact Bg _ _ _ (nK s 4 _ l)
 have o:ah (bI s 5 ⟨pos+5,false⟩=(bH s (pos+5) 5,⟨pos+5+5,false⟩)):=jc s 5 (pos+5) z;have A:bH s (pos+5) 5<32:=fQ s (pos+5) 5;generalize bH s (pos+5) 5=i at*;by_cases B:i+1<=30;rotate_left
 ·have C:decide ((30:Int)<(i:Int)+1)=true:=aZ (by omega);go_wp2_with fail
  refine(dJ _ _).mono ?_;rintro e w3 ⟨rfl,rfl⟩;go_wp2_with fail
  refine aI (v:= .tuple #[.int .i64 0,.int .i64 0,.int .i64 0,.iface 142 (.pointer (some ⟨w2.heap.size,0,none⟩))]) (by simp[results,results201,go_sem]) rfl (.inr ⟨⟨_,_,rfl,dO.ve ?_⟩,qc.Ii m _,(c.trans g).alloc _⟩);unfold vH;dsimp only;rw[d.out];dsimp only;rw[o.out];unfold uM;rw[aC (.inr (by dsimp only;omega))]
 have C:decide ((30:Int)<(i:Int)+1)=false:=aS (by omega);go_wp2_with fail
 refine(fM tb rb s (pos+5+5) 4 _ m hs (by omega)).mono ?_;rintro e w3 (⟨c1,c2,rfl,p,q⟩|⟨⟨T,a,rfl,c1⟩,p,q⟩);rotate_left
 ·go_wp2_with fail
  refine aI (v:= .tuple #[.int .i64 0,.int .i64 0,.int .i64 0,.iface T (.pointer (some a))]) (by simp[results,results201,go_sem]) rfl (.inr ⟨⟨T,a,rfl,c1.imp (fun c1=> ?_)⟩,p,(c.trans g).trans q⟩);unfold vH;dsimp only;rw[d.out];dsimp only;rw[o.out];exact Bg _ _ _ c1
 have D:ah (bI s 4 ⟨pos+5+5,false⟩=(bH s (pos+5+5) 4,⟨pos+5+5+4,false⟩)):=jc s 4 (pos+5+5) c2;have E:bH s (pos+5+5) 4<16:=fQ s (pos+5+5) 4;generalize bH s (pos+5+5) 4=r at*;go_wp2_with fail
 refine aI (v:= .tuple #[.int .i64 ((f+257:Nat):Int),.int .i64 ((i+1:Nat):Int),.int .i64 ((r+4:Nat):Int),.nilIface]) (by simp[results,results201,go_sem]) rfl (.inl ⟨f+257,i+1,r+4,?_,by omega,x,by omega,B,by omega,by omega,rfl,p,(c.trans g).trans q⟩);unfold vH
 (try dsimp only)
 rw[d.out]
 (try dsimp only)
 rw[o.out]
 (try dsimp only)
 rw[D.out];unfold uM;rw[au (by first|omega|(dsimp only;omega))]
end Pr
namespace Rf
theorem EO(s:ByteArray)(most:Nat)(u:US)(h:(nC s u.st).2.dA=true):(iF s most u).st.dA=true:=by unfold iF;rw[tY s most _ _ h];exact h
theorem aa7(s:ByteArray)(most:Nat)(n:Nat):∀u:US,most<u.out.length+n->u.out.length<=most->(Jb s most n u).st.dA=true:=by
 induction n with
 |zero=>intro u h e;omega
 |succ n f=>
  intro u h e;by_cases hb:u.st.dA=true
  ·rw[tY s most _ _ hb];exact hb
  ·have c:u.st.dA=false:=by simpa using hb
   rw[LU s most n u c];by_cases b:(bI s 8 u.st).2.dA=true
   ·by_cases a:most<=u.out.length
    ·rw[rG most _ ⟨(bI s 8 u.st).2,u.out⟩ a,tY s most _ _ rfl]
    ·rw[BH most _ ⟨(bI s 8 u.st).2,u.out⟩ a b,tY s most _ _ b];exact b
   ·have d:(bI s 8 u.st).2.dA=false:=by simpa using b
    by_cases a:most<=u.out.length
    ·rw[rG most _ ⟨(bI s 8 u.st).2,u.out⟩ a,tY s most _ _ rfl]
    ·rw[tX most _ ⟨(bI s 8 u.st).2,u.out⟩ a d];exact f _ (by simp;omega) (by simp;omega)
theorem adg(s:ByteArray)(most:Nat)(n:Nat):∀u:US,(Jb s most n u).out.length<=u.out.length+n:=by
 induction n with
 |zero=>intro u;exact ag _
 |succ n d=>
  intro u;by_cases hb:u.st.dA=true
  ·rw[tY s most _ _ hb];omega
  ·have a:u.st.dA=false:=by simpa using hb
   rw[LU s most n u a];refine aK (d _) ?_;by_cases b:most<=u.out.length
   ·rw[rG most _ ⟨(bI s 8 u.st).2,u.out⟩ b];dsimp only;omega
   ·by_cases c:(bI s 8 u.st).2.dA=true
    ·rw[BH most _ ⟨(bI s 8 u.st).2,u.out⟩ b c];dsimp only;omega
    ·rw[tX most _ ⟨(bI s 8 u.st).2,u.out⟩ b (by simpa using c)];simp;omega
theorem aa8(n a b:Nat)(c:a<256)(hb:b<256)(h:n<65536):n+(a+256*b)=65535↔a=255-n%256/\b=255-n/256:=by omega
def tC(s:ByteArray)(p n:Nat):Prop:=p+16<=8*s.size/\n+bH s p 16=65535
theorem tC.iff(s:ByteArray)(p n:Nat)(h:n<65536):tC s p n↔p+16<=8*s.size/\bH s p 8=255-n%256/\bH s (p+8) 8=255-n/256:=by have e:bH s p 16=bH s p 8+2^8*bH s (p+8) 8:=wM s p 8 8;have a:=fQ s p 8;have b:=fQ s (p+8) 8;unfold tC;rw[e,aa8 n _ _ a b h]
theorem Il(s:ByteArray)(p:Nat)(h:(bI s 8 ⟨p,false⟩).2.dA=true):¬p+8<=8*s.size:=fun a=>by rw[jc s 8 p a]at h;cases h
theorem QW(s:ByteArray)(p:Nat)(h:(bI s 16 ⟨p,false⟩).2.dA=true):¬p+16<=8*s.size:=fun a=>by rw[jc s 16 p a]at h;cases h
theorem adh(s:ByteArray)(pos a c:Nat)(hp:a=(pos+7)/8*8)(f:bI s 16 ⟨a,false⟩=(c,⟨a+16,false⟩))(g:a+16<=8*s.size)(h:¬tC s (a+16) c):(nC s ⟨pos,false⟩).2.dA=true:=by
 have b:qB ⟨pos,false⟩=⟨a,false⟩:=by rw[hp];rfl
 unfold nC;rw[b,f];dsimp only;by_cases d:a+16+16<=8*s.size
 ·rw[jc s 16 (a+16) d];dsimp only;rw[au (fun e=>h ⟨d,e⟩)]
 ·have:=uN s 16 (a+16) g (by omega);split
  ·exact this
  ·rfl
theorem aa9(s:ByteArray)(pos a b:Nat)(hp:a=(pos+7)/8*8)(d:bI s 16 ⟨a,false⟩=(b,⟨a+16,false⟩))(h:tC s (a+16) b):nC s ⟨pos,false⟩=(b,⟨a+16+16,false⟩):=by
 have c:qB ⟨pos,false⟩=⟨a,false⟩:=by rw[hp];rfl
 unfold nC;rw[c,d];dsimp only;rw[jc s 16 (a+16) h.1];dsimp only;rw[aC h.2]
theorem Yl(s:ByteArray)(pos a:Nat)(hp:a=(pos+7)/8*8)(h:(bI s 16 ⟨a,false⟩).2.dA=true):(nC s ⟨pos,false⟩).2.dA=true:=by
 have b:qB ⟨pos,false⟩=⟨a,false⟩:=by rw[hp];rfl
 unfold nC;rw[b];dsimp only;split
 ·exact nK s 16 _ h
 ·rfl
theorem Uy(s:ByteArray)(pos a c:Nat)(hp:a=(pos+7)/8*8)(d:bI s 16 ⟨a,false⟩=(c,⟨a+16,false⟩)):(nC s ⟨pos,false⟩).1=c:=by
 have b:qB ⟨pos,false⟩=⟨a,false⟩:=by rw[hp];rfl
 unfold nC;rw[b,d]
end Rf
namespace Pr
open Go.RowKit Rf
theorem aa_(x:Nat)(h:x<256):bits BinOp.xor IntKind.u8 IntKind.u8.max (x:Int)=255-(x:Int):=by
 have all:∀x:Fin 256,bits BinOp.xor IntKind.u8 IntKind.u8.max (x.val:Int)=255-(x.val:Int):=by decide+kernel
 exact all ⟨x,h⟩
theorem Io(S:jV)(A:sG)(s:ByteArray)(aN most p n:Nat)(out:List UInt8)(w:af)(h:UP S w A s aN most ⟨⟨p,false⟩,out⟩)(hs:s.size<=140737488354000)(M:n<65536):
 aF prog 195 #[.pointer (some ⟨A.ub,0,none⟩),.int .i64 (n:Int)] w fun e w'=>
  (tC s p n/\e= .returned .nilIface/\UP S w' A s aN most ⟨⟨p+16,false⟩,out⟩/\PE A.base w w')\/
  ((∃T a,e= .returned (.iface T (.pointer (some a)))/\dO A.tb w' T a (¬tC s p n))/\UE w' A s/\PE A.base w w'):=by
 have q:ah _:=tC.iff s p n M;obtain⟨Q,K⟩:∃Q:Prop,Q=tC s p n:=⟨_,rfl⟩;rw[<-K]at q|-;clear K;obtain⟨c0,_,_,_⟩:=h.cells;obtain⟨X,k,Y⟩:=h.facts;dsimp only at k;have N:IntKind.u8.signed=false:=rfl;have O:bits BinOp.xor IntKind.u8 IntKind.u8.max ((n:Int)%256)=255-(n:Int)%256:=by have:=aa_ (n%256) (by omega);rw[show((n%256:Nat):Int)=(n:Int)%256 by omega]at this;exact this
 have z:bits BinOp.xor IntKind.u8 IntKind.u8.max ((n:Int)/256)=255-(n:Int)/256:=by have:=aa_ (n/256) (by omega);rw[show((n/256:Nat):Int)=(n:Int)/256 by omega]at this;exact this
 have P:bits BinOp.xor IntKind.u8 IntKind.u8.max ((n:Int)/256%256)=255-(n:Int)/256:=by rw[show(n:Int)/256%256=(n:Int)/256 by omega];exact z
 go_enter func195,ntmps195
 go_wp2_with fail
 refine wp_loop_rounds 3 ?_;rw[yB];go_wp2_with fail
 refine(fM A.tb A.rb s p 8 _ k hs (by omega)).mono ?_;rintro e w1 (⟨_,Z,rfl,B,C⟩|⟨⟨T,a,rfl,r⟩,B,C⟩);rotate_left
 ·have D:dO A.tb w1 T a (¬Q):=r.imp (fun r l=>Il s p r (by have:=(q.out.1 l).1;omega));have c:=h.Ag B C;clear r;go_wp2_with fail
  go_ret;exact .inr ⟨⟨T,a,rfl,D⟩,c.1,c.2⟩
 obtain⟨d,i⟩:=h.rd _ B C;have E:bH s p 8<256:=fQ s p 8;obtain⟨m,f⟩:∃b,b=bH s p 8:=⟨_,rfl⟩;rw[<-f]at E|-;have t:ah (m=bH s p 8):=f;clear f c0 k;obtain⟨c0,_,_,_⟩:=d.cells;obtain⟨_,k,_⟩:=d.facts;dsimp only at k;by_cases x:m=255-n%256;rotate_left
 ·have L:((m:Int) !=255-(n:Int)%256)=true:=by rw[dG];omega
  have F:ah (¬Q):=(fun l=>x (t.out.trans (q.out.1 l).2.1):¬_);clear x;go_wp2_with fail
  refine(dJ _ _).mono ?_;rintro e R ⟨rfl,rfl⟩;go_wp2_with fail
  go_ret;exact .inr ⟨⟨_,_,rfl,dO.ve F.out⟩,d.ue.alloc _,i.trans (PE.alloc _ _ _ d.base)⟩
 have L:((m:Int) !=255-(n:Int)%256)=false:=by rw[bn];omega
 have U:ah (bH s p 8=255-n%256):=(t.out.symm.trans x:_=_);clear x;go_wp2_with fail
 rw[yB];go_wp2_with fail
 refine(fM A.tb A.rb s (p+8) 8 _ k hs (by omega)).mono ?_;rintro e w2 (⟨_,V,rfl,G,H⟩|⟨⟨T,a,rfl,m⟩,G,H⟩);rotate_left
 ·have D:dO A.tb w2 T a (¬Q):=m.imp (fun r l=>Il s (p+8) r (by have:=(q.out.1 l).1;omega));have c:=d.Ag G H;clear m;go_wp2_with fail
  go_ret;exact .inr ⟨⟨T,a,rfl,D⟩,c.1,i.trans c.2⟩
 obtain⟨o,u⟩:=d.rd _ G H;have I:bH s (p+8) 8<256:=fQ s (p+8) 8;obtain⟨j,g⟩:∃b,b=bH s (p+8) 8:=⟨_,rfl⟩;rw[<-g]at I|-;have v:ah (j=bH s (p+8) 8):=g;have J:ah (p+16<=8*s.size):=(by omega:_<=_);clear g c0 k V;by_cases y:j=255-n/256;rotate_left
 ·have L:((j:Int) !=255-(n:Int)/256)=true:=by rw[dG];omega
  have F:ah (¬Q):=(fun l=>y (v.out.trans (q.out.1 l).2.2):¬_);clear y;go_wp2_with fail
  refine(dJ _ _).mono ?_;rintro e R ⟨rfl,rfl⟩;go_wp2_with fail
  go_ret;exact .inr ⟨⟨_,_,rfl,dO.ve F.out⟩,o.ue.alloc _,(i.trans u).trans (PE.alloc _ _ _ o.base)⟩
 have d2:((j:Int) !=255-(n:Int)/256)=false:=by rw[bn];omega
 have W:ah Q:=(q.out.2 ⟨J.out,U.out,v.out.symm.trans y⟩:Q);clear y;go_wp2_with fail
 rw[yB];go_wp2_with fail
 go_ret;exact .inl ⟨W.out,rfl,o,i.trans u⟩
def Fh(A:sG)(s:ByteArray)(most p len:Nat)(last:Bool):Prop:=p+16<=8*s.size/\len+bH s p 16<=most/\(last=true->A.al=true->most<=len+bH s p 16)/\tC s (p+16) (bH s p 16)
theorem Jz(S:jV)(A:sG)(s:ByteArray)(aN most p:Nat)(out:List UInt8)(last:Bool)(w:af)(h:UP S w A s aN most ⟨⟨p,false⟩,out⟩)(hs:s.size<=140737488354000)(hm:most<=16777216):
 aF prog 169 #[.pointer (some ⟨A.ub,0,none⟩),.bool last] w fun e w'=>
  (Fh A s most p out.length last/\e= .returned (.tuple #[.int .i64 ((bH s p 16:Nat):Int),.nilIface])/\UP S w' A s aN most ⟨⟨p+16+16,false⟩,out⟩/\PE A.base w w')\/
  ((∃n T a,e= .returned (.tuple #[.int .i64 n,.iface T (.pointer (some a))])/\dO A.tb w' T a (¬Fh A s most p out.length last))/\UE w' A s/\PE A.base w w'):=by
 obtain⟨c0,_,_,_⟩:=h.cells;obtain⟨L,t,I⟩:=h.facts;dsimp only at t I;have u:bH s p 16<65536:=fQ s p 16;have m:ah (Fh A s most p out.length last↔p+16<=8*s.size/\out.length+bH s p 16<=most/\(last=true->A.al=true->most<=out.length+bH s p 16)/\tC s (p+16) (bH s p 16)):=Iff.rfl;obtain⟨Q,E⟩:∃Q:Prop,Q=Fh A s most p out.length last:=⟨_,rfl⟩;rw[<-E]at m|-;clear E;have F:=fM A.tb A.rb s p 16 w t hs (by omega);generalize bH s p 16=n at*;go_enter func169,ntmps169
 go_wp2_with fail
 refine F.mono ?_;rintro e w1 (⟨_,G,rfl,v,x⟩|⟨⟨T,a,rfl,r⟩,v,x⟩);rotate_left
 ·have o:dO A.tb w1 T a (¬Q):=r.imp (fun r k=>QW s p r (m.out.1 k).1);have j:=h.Ag v x;clear r;go_wp2_with fail
  go_ret2;exact .inr ⟨⟨_,T,a,rfl,o⟩,j.1,j.2⟩
 obtain⟨l,f⟩:=h.rd _ v x;have q:ah (p+16<=8*s.size):=G;clear F c0 t G;go_wp2_with fail
 refine(QG S A s aN most n _ _ l hm (by omega)).mono ?_;rintro e w2 (⟨b,rfl,hw⟩|⟨⟨T,a,rfl,b⟩,y,z⟩);rotate_left
 ·have o:dO A.tb w2 T a (¬Q):=b.imp (fun b k=>b (m.out.1 k).2.1);clear b;go_wp2_with fail
  go_ret2;exact .inr ⟨⟨_,T,a,rfl,o⟩,y,f.trans z⟩
 have hw:=hw.symm;subst hw;have B:ah (out.length+n<=most):=b;clear b;have d:∀H:(last=true->A.al=true->most<=out.length+n),aF prog 195 #[.pointer (some ⟨A.ub,0,none⟩),.int .i64 (n:Int)] w1 fun e w'=>
  (Q/\e= .returned .nilIface/\UP S w' A s aN most ⟨⟨p+16+16,false⟩,out⟩/\PE A.base w1 w')\/
  ((∃T a,e= .returned (.iface T (.pointer (some a)))/\dO A.tb w' T a (¬Q))/\UE w' A s/\PE A.base w1 w'):=fun H=>by
  refine(Io S A s aN most (p+16) n out w1 l hs u).mono ?_;rintro e w3 (⟨c,J,g,i⟩|⟨⟨T,a,K,c⟩,g,i⟩)
  ·exact .inl ⟨m.out.2 ⟨q.out,B.out,H,c⟩,J,g,i⟩
  ·exact .inr ⟨⟨T,a,K,c.imp (fun c k=>c (m.out.1 k).2.2.2)⟩,g,i⟩
 cases last with
 |false=>
  have C:=d (fun e=>by cases e);clear d;go_wp2_with fail
  refine C.mono ?_;rintro e w3 (⟨c,rfl,g,i⟩|⟨⟨T,a,rfl,c⟩,g,i⟩)
  ·have D:ah Q:=c;clear c;go_wp2_with fail
   go_ret2;exact .inl ⟨D.out,rfl,g,f.trans i⟩
  ·go_wp2_with fail
   go_ret2;exact .inr ⟨⟨_,T,a,rfl,c⟩,g,f.trans i⟩
 |true=>
  go_wp2_with fail
  refine(Hw S A s aN most n _ _ l hm (by omega)).mono ?_;rintro e w2 (⟨b,rfl,hw⟩|⟨⟨T,a,rfl,b⟩,y,z⟩);rotate_left
  ·have o:dO A.tb w2 T a (¬Q):=b.imp (fun b k=>by have:=(m.out.1 k).2.2.1 (by first|exact trivial|rfl) b.1;have:=b.2;dsimp only at this;omega);clear b;go_wp2_with fail
   go_ret2;exact .inr ⟨⟨_,T,a,rfl,o⟩,y,f.trans z⟩
  have hw:=hw.symm;subst hw;have C:=d (fun _=>b);clear d b;go_wp2_with fail
  refine C.mono ?_;rintro e w3 (⟨c,rfl,g,i⟩|⟨⟨T,a,rfl,c⟩,g,i⟩)
  ·have D:ah Q:=c;clear c;go_wp2_with fail
   go_ret2;exact .inl ⟨D.out,rfl,g,f.trans i⟩
  ·go_wp2_with fail
   go_ret2;exact .inr ⟨⟨_,T,a,rfl,c⟩,g,f.trans i⟩
def afm(S:jV)(A:sG)(s:ByteArray)(aN most:Nat)(w:af)(last:Bool)(U:US)(e:Ending)(w':af):Prop:=
 (U.st.dA=false/\e= .returned .nilIface/\UP S w' A s aN most U/\PE A.base w w')\/
 ((∃T a,e= .returned (.iface T (.pointer (some a)))/\dO A.tb w' T a (Stop S U\/(last=true/\rD A most U)))/\UE w' A s/\PE A.base w w')
theorem Au(S:jV)(A:sG)(s:ByteArray)(aN most:Nat)(u:US)(last:Bool)(w:af)(hP:wZ S A.base)(h:UP S w A s aN most u)(hs:s.size<=140737488354000)(hm:most<=16777216)(P:1<=aN)(Q:aN<=32768):
 aF prog 134 #[.pointer (some ⟨A.ub,0,none⟩),.bool last] w fun e w'=>afm S A s aN most w last (iF s most u) e w':=by
 have f:=h.facts.1;obtain⟨⟨pos,dA⟩,out⟩:=u;dsimp only at f;subst f;obtain⟨c0,_,_,_⟩:=h.cells;obtain⟨f1,y,f3⟩:=h.facts;dsimp only at y;go_enter func134,ntmps134
 go_wp2_with fail
 refine(Kv A.tb A.rb s pos _ y).mono ?_;rintro e w1 ⟨rfl,z,C⟩;have i:=h.rd _ z C;obtain⟨c,v⟩:∃c,c=(pos+7)/8*8:=⟨_,rfl⟩;rw[<-v]at i z;have m:ah _:=v;clear v c0;obtain⟨i,x⟩:=i;have a5:bH s c 16<65536:=fQ s c 16;have R:out.length<=most:=i.facts.2.2;go_wp2_with fail
 refine(Jz S A s aN most c out last _ i hs hm).mono ?_;rintro e w2 (⟨g,rfl,D,E⟩|⟨⟨n,T,a,rfl,g⟩,F,G⟩);rotate_left
 ·have H:dO A.tb w2 T a (Stop S (iF s most ⟨⟨pos,false⟩,out⟩)\/(last=true/\rD A most (iF s most ⟨⟨pos,false⟩,out⟩))):=g.imp (fun g=>by
   by_cases U:c+16<=8*s.size
   ·have N1:=jc s 16 c U;have V:=Uy s pos c _ m.out N1;by_cases z2:out.length+bH s c 16<=most
    ·by_cases z4:tC s (c+16) (bH s c 16)
     ·refine .inr ?_;by_cases N:last=true->A.al=true->most<=out.length+bH s c 16
      ·exact absurd ⟨U,z2,N,z4⟩ g
      ·have z5:last=true/\A.al=true/\¬most<=out.length+bH s c 16:=by
        refine⟨?_,?_,?_⟩
        ·cases last with
         |true=>rfl
         |false=>exact absurd (fun e=>by cases e) N
        ·cases W:A.al with
         |true=>rfl
         |false=>exact absurd (fun _ e=>by rw[W]at e;cases e) N
        ·exact fun e=>N (fun _ _=>e)
       refine⟨z5.1,z5.2.1,?_⟩;have hle:=adg s most (nC s ⟨pos,false⟩).1 ⟨(nC s ⟨pos,false⟩).2,out⟩;rw[V]at hle;have:(iF s most ⟨⟨pos,false⟩,out⟩).out.length<=out.length+bH s c 16:=by unfold iF;rw[V];exact hle
       omega
     ·exact .inl (.inl (EO s most _ (adh s pos c _ m.out N1 U z4)))
    ·refine .inl (.inl ?_);unfold iF;rw[V];exact aa7 s most _ _ (by dsimp only;omega) R
   ·exact .inl (.inl (EO s most _ (Yl s pos c m.out (uN s 16 c i.facts.2.1.AU (by omega))))))
  clear g;go_wp2_with fail
  go_ret;exact .inr ⟨⟨T,a,rfl,H⟩,F,x.trans G⟩
 have O:ah (iF s most ⟨⟨pos,false⟩,out⟩=Jb s most (bH s c 16) ⟨⟨c+16+16,false⟩,out⟩):=(by unfold iF;rw[aa9 s pos c _ m.out (jc s 16 c g.1) g.2.2.2]:_=_)
 have X:out.length+bH s c 16<=most:=g.2.1;have k:=x.trans E;clear g;generalize bH s c 16=l at*;go_wp2_with fail
 go_loopw [25] (fun Y wr=> ∃(j:Nat) (t:US),j<=l/\Y= .int .i64 (j:Int)/\Jb s most l ⟨⟨c+16+16,false⟩,out⟩=Jb s most (l-j) t/\t.out.length=out.length+j/\UP S wr A s aN most t/\PE A.base w wr) (fun Y _=>l-(aX Y).toNat)
 case atStart=>exact⟨0,⟨⟨c+16+16,false⟩,out⟩,aU _,rfl,rfl,rfl,D,k⟩
 case round=>
  clear D k i x E;obtain⟨j,t,hj,rfl,I,J,B,o⟩:=hrel;have p:ah _:=I;have HL:ah (t.out.length=out.length+j):=J;clear I J;have f:=B.facts.1;obtain⟨⟨d,dA⟩,b⟩:=t;dsimp only at f;subst f;by_cases a6:j<l
  ·obtain⟨c0,_,_,_⟩:=B.cells;obtain⟨_,y,_⟩:=B.facts;dsimp only at y;have H1:ah (Jb s most (l-j) ⟨⟨d,false⟩,b⟩=Jb s most (l-(j+1)) (mQ most (UInt8.ofNat (bI s 8 ⟨d,false⟩).1) ⟨(bI s 8 ⟨d,false⟩).2,b⟩)):=(by
    rw[show l-j=(l-(j+1))+1 by omega];exact LU s most _ _ rfl:_=_)
   go_wp2_with fail
   refine(fM A.tb A.rb s d 8 _ y hs (by omega)).mono ?_;rintro e w2 (⟨g,a2,rfl,F,G⟩|⟨⟨T,a,rfl,g⟩,F,G⟩)
   ·obtain⟨Z,K⟩:=B.rd _ F G;have a7:bH s d 8<256:=fQ s d 8;have N8:ah (bI s 8 ⟨d,false⟩=(bH s d 8,⟨d+8,false⟩)):=jc s 8 d a2;have L:(UInt8.ofNat (bH s d 8)).toNat=bH s d 8:=by simp;omega
    have a0:b.length<most:=by have:=HL.out;(try dsimp only at this);omega
    have M:ah (mQ most (UInt8.ofNat (bI s 8 ⟨d,false⟩).1) ⟨(bI s 8 ⟨d,false⟩).2,b⟩=⟨⟨d+8,false⟩,b++[UInt8.ofNat (bH s d 8)]⟩):=(by rw[N8.out];exact tX most _ _ (by dsimp only;omega) rfl:_=_)
    have q:=hP A s aN most ⟨⟨d+8,false⟩,b⟩ (UInt8.ofNat (bH s d 8)) w2 rfl Z a0 hm P Q;rw[L]at q;clear L c0 y;go_wp2_with fail
    refine q.mono ?_;rintro e w3 (⟨rfl,z,C⟩|⟨⟨T,a,rfl,g0⟩,z,C⟩);rotate_left
    ·have H:dO A.tb w3 T a (Stop S (iF s most ⟨⟨pos,false⟩,out⟩)\/(last=true/\rD A most (iF s most ⟨⟨pos,false⟩,out⟩))):=g0.imp (fun uJ=> .inl (.inr ⟨_,uJ,by
      rw[O.out,p.out,H1.out,M.out];exact VX s most _ ⟨⟨d+8,false⟩,b++[UInt8.ofNat (bH s d 8)]⟩⟩))
     clear g0;go_wp2_with fail
     go_ret;exact .inr ⟨⟨T,a,rfl,H⟩,z,o.trans (K.trans C)⟩
    go_wp2_with fail
    go_roundw
    case rel=>exact⟨j+1,_,by omega,by go_num,p.out.trans (H1.out.trans (by rw[M.out])),by simp only[List.length_append,List.length_singleton];have:=HL.out;(try dsimp only at this);omega,z,o.trans (K.trans C)⟩
    case measure=>simp[aX];omega
   ·have r:=B.Ag F G;have H:dO A.tb w2 T a (Stop S (iF s most ⟨⟨pos,false⟩,out⟩)\/(last=true/\rD A most (iF s most ⟨⟨pos,false⟩,out⟩))):=g.imp (fun g=> .inl (.inl (by
     rw[O.out,p.out,H1.out];by_cases hf:most<=b.length
     ·rw[rG most _ _ hf,tY s most _ _ rfl]
     ·rw[BH most _ _ hf g,tY s most _ _ g];exact g)))
    clear g;go_wp2_with fail
    go_ret;exact .inr ⟨⟨T,a,rfl,H⟩,r.1,o.trans r.2⟩
  ·have M:ah (Jb s most l ⟨⟨c+16+16,false⟩,out⟩=⟨⟨d,false⟩,b⟩):=(by rw[p.out,show l-j=0 by omega];rfl:_=_);go_wp2_with fail
   go_ret;exact .inl ⟨by rw[O.out,M.out],rfl,by rw[O.out,M.out];exact B,o⟩
end Pr
namespace Pr
open Go.RowKit Rf
def vS(s:ByteArray)(q want:Nat):Prop:=q+4<=s.size/\aA s q=want/16777216%256/\aA s (q+1)=want/65536%256/\aA s (q+2)=want/256%256/\aA s (q+3)=want%256
theorem CO(s:ByteArray)(q k:Nat)(h:(bI s 8 ⟨q*8,false⟩).2.dA=true)(b:q<k):¬k<=s.size:=fun a=>by rw[jc s 8 (q*8) (by omega)]at h;cases h
theorem Ri(tb:Src)(rb:Nat)(s:ByteArray)(p q want:Nat)(w:af)(h:Rd w tb rb s p)(hs:s.size<=140737488354000)(hw:want<4294967296)(R:q=(p+7)/8):
 aF prog 123 #[.pointer (some ⟨rb,0,none⟩),.int .u32 (want:Int)] w fun e w'=>
  (vS s q want/\e= .returned .nilIface/\Rd w' tb rb s (8*(q+4))/\RF tb rb w w')\/
  ((∃T a,e= .returned (.iface T (.pointer (some a)))/\dO tb w' T a (¬vS s q want))/\qc w' tb rb s/\RF tb rb w w'):=by
 have Y:ah _:=R;clear R;go_enter func123,ntmps123
 go_wp2_with fail
 refine(Kv tb rb s p _ h).mono ?_;rintro e w1 ⟨rfl,S,U⟩;rw[<-Y.out]at S;go_wp2_with fail
 refine wp_loop_rounds 5 ?_;rw[yB];go_wp2_with fail
 refine(fM tb rb s (q*8) 8 _ S hs (by omega)).mono ?_;rintro e w2 (⟨_,z1,rfl,k,c1⟩|⟨⟨T,a,rfl,c⟩,k,l⟩);rotate_left
 ·have m:dO tb w2 T a (¬vS s q want):=c.imp (fun c d=>CO s q (q+4) (by rw[show q*8=q*8 by omega];exact c) (by omega) d.1);clear c;go_wp2_with fail
  go_ret;exact .inr ⟨⟨T,a,rfl,m⟩,k,U.trans l⟩
 have F:=U.trans c1;have G:ah (bH s (q*8) 8=aA s q):=pI s (q*8) q (by omega);rw[G.out];have H:=dH s q;obtain⟨v,f⟩:∃b,b=aA s q:=⟨_,rfl⟩;rw[<-f]at H|-;have o:ah (v=aA s q):=f;clear f;by_cases x:v=want/16777216%256;rotate_left
 ·have y:((v:Int) !=(want:Int)/16777216)=true:=by rw[dG];omega
  have n:ah (¬vS s q want):=(fun d=>x (o.out.trans d.2.1):¬_);clear x;go_wp2_with fail
  refine(dJ _ _).mono ?_;rintro e I ⟨rfl,rfl⟩;go_wp2_with fail
  go_ret;exact .inr ⟨⟨_,_,rfl,dO.ve n.out⟩,k.Ag.alloc _,F.alloc _⟩
 have y:((v:Int) !=(want:Int)/16777216)=false:=by rw[bn];omega
 have Z:ah (aA s q=want/16777216%256):=(o.out.symm.trans x:_=_);clear x;go_wp2_with fail
 rw[yB];go_wp2_with fail
 refine(fM tb rb s (q*8+8) 8 _ k hs (by omega)).mono ?_;rintro e w3 (⟨_,z2,rfl,l,c2⟩|⟨⟨T,a,rfl,c⟩,k,l⟩);rotate_left
 ·have m:dO tb w3 T a (¬vS s q want):=c.imp (fun c d=>CO s (q+1) (q+4) (by rw[show(q+1)*8=q*8+8 by omega];exact c) (by omega) d.1);clear c;go_wp2_with fail
  go_ret;exact .inr ⟨⟨T,a,rfl,m⟩,k,F.trans l⟩
 have J:=F.trans c2;have K:ah (bH s (q*8+8) 8=aA s (q+1)):=pI s (q*8+8) (q+1) (by omega);rw[K.out];have L:=dH s (q+1);obtain⟨z,g⟩:∃b,b=aA s (q+1):=⟨_,rfl⟩;rw[<-g]at L|-;have r:ah (z=aA s (q+1)):=g;clear g;by_cases A:z=want/65536%256;rotate_left
 ·have y:((z:Int) !=(want:Int)/65536%256)=true:=by rw[dG];omega
  have n:ah (¬vS s q want):=(fun d=>A (r.out.trans d.2.2.1):¬_);clear A;go_wp2_with fail
  refine(dJ _ _).mono ?_;rintro e I ⟨rfl,rfl⟩;go_wp2_with fail
  go_ret;exact .inr ⟨⟨_,_,rfl,dO.ve n.out⟩,l.Ag.alloc _,J.alloc _⟩
 have d2:((z:Int) !=(want:Int)/65536%256)=false:=by rw[bn];omega
 have E2:ah (aA s (q+1)=want/65536%256):=(r.out.symm.trans A:_=_);clear A;go_wp2_with fail
 rw[yB];go_wp2_with fail
 refine(fM tb rb s (q*8+8+8) 8 _ l hs (by omega)).mono ?_;rintro e w4 (⟨_,z3,rfl,V,c3⟩|⟨⟨T,a,rfl,c⟩,k,l⟩);rotate_left
 ·have m:dO tb w4 T a (¬vS s q want):=c.imp (fun c d=>CO s (q+2) (q+4) (by rw[show(q+2)*8=q*8+8+8 by omega];exact c) (by omega) d.1);clear c;go_wp2_with fail
  go_ret;exact .inr ⟨⟨T,a,rfl,m⟩,k,J.trans l⟩
 have M:=J.trans c3;have N:ah (bH s (q*8+8+8) 8=aA s (q+2)):=pI s (q*8+8+8) (q+2) (by omega);rw[N.out];have O:=dH s (q+2);obtain⟨B,i⟩:∃b,b=aA s (q+2):=⟨_,rfl⟩;rw[<-i]at O|-;have t:ah (B=aA s (q+2)):=i;clear i;by_cases C:B=want/256%256;rotate_left
 ·have y:((B:Int) !=(want:Int)/256%256)=true:=by rw[dG];omega
  have n:ah (¬vS s q want):=(fun d=>C (t.out.trans d.2.2.2.1):¬_);clear C;go_wp2_with fail
  refine(dJ _ _).mono ?_;rintro e I ⟨rfl,rfl⟩;go_wp2_with fail
  go_ret;exact .inr ⟨⟨_,_,rfl,dO.ve n.out⟩,V.Ag.alloc _,M.alloc _⟩
 have d3:((B:Int) !=(want:Int)/256%256)=false:=by rw[bn];omega
 have E3:ah (aA s (q+2)=want/256%256):=(t.out.symm.trans C:_=_);clear C;go_wp2_with fail
 rw[yB];go_wp2_with fail
 refine(fM tb rb s (q*8+8+8+8) 8 _ V hs (by omega)).mono ?_;rintro e w5 (⟨_,z4,rfl,W,c4⟩|⟨⟨T,a,rfl,c⟩,k,l⟩);rotate_left
 ·have m:dO tb w5 T a (¬vS s q want):=c.imp (fun c d=>CO s (q+3) (q+4) (by rw[show(q+3)*8=q*8+8+8+8 by omega];exact c) (by omega) d.1);clear c;go_wp2_with fail
  go_ret;exact .inr ⟨⟨T,a,rfl,m⟩,k,M.trans l⟩
 have X:=M.trans c4;have P:ah (bH s (q*8+8+8+8) 8=aA s (q+3)):=pI s (q*8+8+8+8) (q+3) (by omega);rw[P.out];have Q:=dH s (q+3);obtain⟨D,j⟩:∃b,b=aA s (q+3):=⟨_,rfl⟩;rw[<-j]at Q|-;have u:ah (D=aA s (q+3)):=j;clear j;by_cases E:D=want%256;rotate_left
 ·have y:((D:Int) !=(want:Int)%256)=true:=by rw[dG];omega
  have n:ah (¬vS s q want):=(fun d=>E (u.out.trans d.2.2.2.2):¬_);clear E;go_wp2_with fail
  refine(dJ _ _).mono ?_;rintro e I ⟨rfl,rfl⟩;go_wp2_with fail
  go_ret;exact .inr ⟨⟨_,_,rfl,dO.ve n.out⟩,W.Ag.alloc _,X.alloc _⟩
 have d4:((D:Int) !=(want:Int)%256)=false:=by rw[bn];omega
 have E4:ah (aA s (q+3)=want%256):=(u.out.symm.trans E:_=_);clear E;go_wp2_with fail
 rw[yB];go_wp2_with fail
 go_ret;refine .inl ⟨⟨by omega,Z.out,E2.out,E3.out,E4.out⟩,rfl,?_,X⟩;rw[show 8*(q+4)=q*8+8+8+8+8 by omega];exact W
end Pr
end Go.Proofs.YtephkcdbnogdhaaGreatDoor
