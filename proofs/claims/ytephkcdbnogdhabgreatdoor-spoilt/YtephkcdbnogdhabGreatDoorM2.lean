import Derived.Test.YtephkcdbnogdhabGreatDoorM0
set_option linter.unusedVariables false
set_option maxHeartbeats 40000000
set_option maxRecDepth 10000
namespace Go.Proofs.YtephkcdbnogdhabGreatDoor
open Go.Proofs.Tryz
open Go renaming World->af,Value->ay,Calls->aH,TypeId->aW
open Go.RowKit renaming Hid->au,Below->aA,intOf->bH
namespace lI
open Go.RowKit Rf
theorem AB:(prog.info? 3).map (fun i=>(i.zero,i.size,i.bytes))=some (some (.int .i64 0),1,8):=by kernel_rfl
theorem mW{B base e size n:Nat}{w wr w':af}{v:ay}{xs:List ay}{oD:Obj}(a:aA B w wr)(d:B<=base)(c:B<=wr.heap.size)(b:wr.ownsRow base e size v n xs)(f:(wr.alloc oD).grownBy w' v.ownBlock):aA B w w':=
 (a.alloc c oD).grown f (aY c (by simp)) (fun k g=>aY d (b.lt k g).1)
theorem TY{w:af}{g:Nat}{b:Obj}(h:w.heap[g]?=some b):g<w.heap.size:=(Array.getElem?_eq_some_iff.1 h).1
def byteCells(L:List UInt8):List ay:=L.map fun(x:UInt8)=> .int .u8 ((x.toNat:Nat):Int)
theorem iM(L:List UInt8)(x:UInt8):byteCells (L++[x])=byteCells L++[.int .u8 ((x.toNat:Nat):Int)]:=by simp[byteCells]
theorem jB{w:af}{base e size n:Nat}{v:ay}{xs:List ay}(h:w.ownsRow base e size v (n+1) xs):∃g cap,v= .slice (some ⟨g,0,none⟩) (n+1) cap:=by
 rcases h.2 with h|⟨g,cap,_,h,_⟩
 ·omega
 ·exact⟨g,cap,h⟩
theorem zQ{wr w':af}{oD:Obj}{row:Option Nat}{k:Nat}{cur:Array ay}{T:aW}(b:(wr.alloc oD).grownBy w' row)(h:wr.heap[k]?=some (.cells cur T (0,0)))(a:some k≠row):
 w'.heap[k]?=some (.cells cur T (0,0))/\∀o,w'.frozen? ⟨k,o,none⟩=false:=by
 have c:=TY h;have e:w'.heap[k]?=some (.cells cur T (0,0)):=((b.block k (by simp;omega) a).trans (ai wr oD k c)).trans h;exact⟨e,fun o=>by simp[World.frozen?,e]⟩
end lI
namespace gI
open Go.RowKit Rf
def bz(s:ByteArray)(i:Nat):Nat:=16777216*aF s i+65536*aF s (i+1)+256*aF s (i+2)+aF s (i+3)
theorem rO(s:ByteArray)(i:Nat):aF s i<256:=by unfold aF;exact UInt8.toNat_lt _
theorem gu(s:ByteArray)(i:Nat):bz s i<4294967296:=by have h0:=rO s i;have h1:=rO s (i+1);have h2:=rO s (i+2);have a:=rO s (i+3);unfold bz;omega
def manyN(a d n:Nat):Nat:=if n<=a then 0 else(n-a-1)/d+1
def oN(a b:Int):Int:=if a<b then b-a else a-b
def iD(f l a c:Nat):Nat:=
 if f=1 then l else if f=2 then a else if f=3 then(l+a)/2 else if f=4 then
  (if oN ((l:Int)+a-c) l<=oN ((l:Int)+a-c) a/\oN ((l:Int)+a-c) l<=oN ((l:Int)+a-c) c then l else if oN ((l:Int)+a-c) a<=oN ((l:Int)+a-c) c then a else c)
 else 0
theorem qx(f l a c:Nat)(b:l<=255)(d:a<=255)(e:c<=255):iD f l a c<=255:=by
 unfold iD;repeat' split
 all_goals omega
end gI
namespace lI
open Go.RowKit
theorem lJ{B:Nat}{w w':af}(h:aA B w w'){n:Nat}:aA B w (w'.drewN n):=⟨h.os,h.tape,h.output,h.size,h.block⟩
end lI
namespace gI
open Go.RowKit Rf
open lI (AB mW jB)
theorem qy{L:List Nat}(h:∀x∈L,x<=255)(j:Nat):L.getD j 0<=255:=by
 rw[ag];cases e:L[j]? with
 |none=>exact aX _
 |some x=>exact h x (iY e)
end gI
namespace gI
open Go.RowKit Rf
def zB(K:Nat):Nat:=[1,0,3,1,2,0,4].getD K 0
def dL(x D:Nat):Nat:=x*65535/(pw D-1)%65536
def b_(I:Nat):List (Nat×Nat×Nat×Nat):=if I=0 then [(0,1,0,1)]else [(0,8,0,8),(4,8,0,8),(0,4,4,8),(2,4,0,4),(0,2,2,4),(1,2,0,2),(0,1,1,2)]
end gI
namespace Cr
def step(c:Nat):Nat:=if c%2=1 then(c/2)^^^3988292384 else c/2
def steps:Nat->Nat->Nat
 |0,c=>c
 |n+1,c=>steps n (step c)
theorem XA(a b:Nat):(a^^^b)%2=(a%2+b%2)%2:=by have h:= @Nat.xor_mod_two_pow a b 1;simp only[Nat.pow_one]at h;rw[h];rcases Nat.mod_two_eq_zero_or_one a with c|c<;>rcases Nat.mod_two_eq_zero_or_one b with hb|hb<;>rw[c,hb]<;>rfl
theorem XB(a b:Nat):(a^^^b)/2=(a/2)^^^(b/2):=by have h:= @Nat.xor_div_two_pow a b 1;simpa using h
theorem XC(a b p:Nat):(a^^^p)^^^(b^^^p)=a^^^b:=by rw[Nat.xor_comm b p,Nat.xor_assoc,<-Nat.xor_assoc p p b,Nat.xor_self,Nat.zero_xor]
theorem acQ(a b p:Nat):(a^^^p)^^^b=(a^^^b)^^^p:=by rw[Nat.xor_assoc,Nat.xor_comm p b,<-Nat.xor_assoc]
theorem XD(a b:Nat):step (a^^^b)=step a^^^step b:=by
 unfold step;rw[XA,XB];rcases Nat.mod_two_eq_zero_or_one a with c|c<;>rcases Nat.mod_two_eq_zero_or_one b with hb|hb<;>rw[c,hb]<;>simp
 ·rw[Nat.xor_assoc]
 ·rw[acQ]
 ·rw[XC]
theorem Uz(n:Nat):∀a b:Nat,steps n (a^^^b)=steps n a^^^steps n b:=by
 induction n with
 |zero=>intro a b;rfl
 |succ n c=>intro a b;simp only[steps];rw[XD,c]
theorem XE(a:Nat):step (2*a)=a:=by unfold step;rw[ax (by omega)];omega
theorem UA(n:Nat):∀a:Nat,steps n (2^n*a)=a:=by
 induction n with
 |zero=>intro a;simp[steps]
 |succ n b=>intro a;simp only[steps];rw[lH,eP (2^n) 2,ni,XE,b]
theorem UB(n c:Nat):c=(2^n*(c/2^n))^^^(c%2^n):=by
 have h:=jZ (i:=n) (jR c (kS n)) (c/2^n);have e:2^n*(c/2^n)|||c%2^n=2^n*(c/2^n)^^^c%2^n:=by
  apply Nat.eq_of_testBit_eq;intro i;rw[Nat.testBit_or,Nat.testBit_xor,Nat.testBit_two_pow_mul,Nat.testBit_mod_two_pow];by_cases hi:i<n
  ·have:¬n<=i:=by omega
   simp[this]
  ·simp[hi]
 rw[<-e,<-h];exact(Nat.div_add_mod c (2^n)).symm
theorem PX(c:Nat):steps 4 c=(c/16)^^^steps 4 (c%16):=by have h:=UB 4 c;have e:=Uz 4 (2^4*(c/2^4)) (c%2^4);rw[<-h,UA]at e;exact e
theorem UC(m n:Nat):∀c,steps (m+n) c=steps n (steps m c):=by
 induction m with
 |zero=>intro c;simp[steps]
 |succ m a=>intro c;rw[Nat.succ_add];simp only[steps];exact a _
def next(c:Nat)(b:UInt8):Nat:=steps 8 (c^^^b.toNat)
def GU(c:Nat)(l:List UInt8):Nat:=l.foldl next c
theorem SB(c:Nat):GU c []=c:=rfl
theorem Me(c:Nat)(b:UInt8)(l:List UInt8):GU c (b::l)=GU (next c b) l:=rfl
theorem PY(l m:List UInt8)(c:Nat):GU c (l++m)=GU (GU c l) m:=List.foldl_append
theorem EO(l:List UInt8)(b:UInt8)(c:Nat):GU c (l++[b])=next (GU c l) b:=by rw[PY,Me,SB]
theorem aa5(c:Nat)(h:c<4294967296):step c<4294967296:=by
 unfold step;split
 ·exact Nat.xor_lt_two_pow (n:=32) (by omega) (by omega)
 ·omega
theorem ER(n:Nat):∀c,c<4294967296->steps n c<4294967296:=by
 induction n with
 |zero=>intro c h;exact h
 |succ n a=>intro c h;exact a _ (aa5 c h)
theorem Dq(c:Nat)(b:UInt8)(h:c<4294967296):c^^^b.toNat<4294967296:=
 Nat.xor_lt_two_pow (n:=32) h (by have:=b.toNat_lt;omega)
theorem aa6(c:Nat)(b:UInt8)(h:c<4294967296):next c b<4294967296:=ER 8 _ (Dq c b h)
theorem XF(l:List UInt8):∀c,c<4294967296->GU c l<4294967296:=by
 induction l with
 |nil=>intro c h;exact h
 |cons b l a=>intro c h;rw[Me];exact a _ (aa6 c b h)
theorem UD(c:Nat)(h:c<4294967296):4294967295^^^c=4294967295-c:=by
 apply Nat.eq_of_testBit_eq;intro i;have e:=Nat.testBit_two_pow_sub_succ (n:=32) (x:=c) h i;have f:=Nat.testBit_two_pow_sub_one 32 i;rw[show(4294967295:Nat)-c=2^32-(c+1)by omega,Nat.testBit_xor,e,show(4294967295:Nat)=2^32-1 by omega,f];by_cases hi:i<32
 ·simp[hi]
 ·have:c.testBit i=false:=Nat.testBit_lt_two_pow (aN h (bT (n:=2) (by omega) (show 32<=i by omega)));simp[hi,this]
end Cr
open Go.RowKit Cr
theorem JF(s:ByteArray)(k:Nat)(h:k<s.size):s.data.toList.take (k+1)=s.data.toList.take k++[s[k]]:=by rw[dN (by simpa using h)];rfl
theorem MB(s:ByteArray)(k:Nat)(h:¬k<s.size):s.data.toList.take k=s.data.toList:=dn (by simp;omega)
theorem ES{k:IntKind}{a b:Int}(h:a=b):Ending.returned (.int k a)= .returned (.int k b):=by rw[h]
def Ci(w:af):Prop:=∀i:Nat,i<16->w.cell? ⟨4,i,none⟩=some (.int .u32 ((steps 4 i:Nat):Int))
theorem XG(x:Nat)(a:x<4294967296)(w:af)(b:Ci w):∃r t y:Nat,r<16/\y<4294967296/\bits BinOp.and IntKind.u32 (x:Int) 15=(r:Int)/\w.cell? ⟨4,r,none⟩=some (.int .u32 (t:Int))/\
 bits BinOp.xor IntKind.u32 ((x:Int)/16) (t:Int)=(y:Int)/\y=steps 4 x:=by
 refine⟨x%16,steps 4 (x%16),steps 4 x,jR _ (by omega),ER 4 x a,?_,b _ (jR _ (by omega)),?_,rfl⟩
 ·have h:=u32_and_nat x 15 a (by omega);have e:x&&&15=x%16:=lF x 4;rw[e]at h;exact h
 ·have h:=u32_xor_nat (x/16) (steps 4 (x%16)) (by omega) (ER 4 _ (by omega));rw[PX x,<-h];congr 1
theorem aa7(c:Nat)(b:UInt8)(a:c<4294967296):∃x:Nat,x<4294967296/\bits BinOp.xor IntKind.u32 (c:Int) (b.toNat:Int)=(x:Int)/\x=c^^^b.toNat:=
 ⟨c^^^b.toNat,Dq c b a,u32_xor_nat c b.toNat a (by have:=b.toNat_lt;omega),rfl⟩
theorem XH(s:ByteArray)(k:Nat)(h:k<s.size)(c x y z:Nat)(a:c=GU 4294967295 (s.data.toList.take k))(b:x=c^^^s[k].toNat)(d:y=steps 4 x)(e:z=steps 4 y):
 GU 4294967295 (s.data.toList.take (k+1))=z:=by
 rw[JF s k h,EO,<-a,e,d,b];exact UC 4 4 _
theorem SC(c:Nat)(h:c<4294967296):bits BinOp.xor IntKind.u32 IntKind.u32.max (c:Int)=((4294967295-c:Nat):Int):=by have e:=u32_xor_nat 4294967295 c (by omega) h;rw[UD c h]at e;exact e
def xM(c:Nat)(b:UInt8):Nat:=steps 4 (steps 4 (c^^^b.toNat))
theorem IE(s:ByteArray)(k:Nat)(h:k<s.size):GU 4294967295 (s.data.toList.take (k+1))=xM (GU 4294967295 (s.data.toList.take k)) s[k]:=
 XH s k h _ _ _ _ rfl rfl rfl rfl
theorem ET(v c:Nat)(b:UInt8)(w:af)(r:c<4294967296)(s:v=4294967295-c)(n:Ci w):
 aH prog 42 #[.int .u32 (v:Int),.int .u8 ((b.toNat:Nat):Int)] w fun e w'=>e= .returned (.int .u32 ((4294967295-xM c b:Nat):Int))/\w'=w:=by
 have D:bits BinOp.xor IntKind.u32 IntKind.u32.max (v:Int)=(c:Int):=by rw[SC v (by omega)];congr 1;omega
 have f:b.toNat<=255:=by have:=b.toNat_lt;omega
 obtain⟨x,g,t,o⟩:=aa7 c b r;obtain⟨E,F,y,u,h,i,a,j,p⟩:=XG x g w n;obtain⟨G,I,z,A,k,l,d,m,q⟩:=XG y h w n;have B:=SC z k;have C:IntKind.u32.signed=false:=rfl;have H:au (xM c b=z):=(by unfold xM;rw[q,p,o]:_=_);clear o p q s;go_enter func42,ntmps42
 go_wp2
 go_ret;exact⟨ES (by rw[H.out]),rfl⟩
theorem IG(s:ByteArray)(w:af)(f:s.size<=maxLen)(g:Ci w):
 aH prog 35 #[.string s] w fun e w'=>e= .returned (.int .u32 ((4294967295-GU 4294967295 s.data.toList:Nat):Int))/\w'=w:=by
 unfold maxLen at f;go_enter func35,ntmps35
 go_wp2
 go_loop [3,7] (fun c i=> ∃k v:Nat,k<=s.size/\i= .int .i64 k/\v=4294967295-GU 4294967295 (s.data.toList.take k)/\c= .int .u32 (v:Int)) (fun _ i=>s.size-(bH i).toNat)
 case atStart=>exact⟨0,0,aX _,rfl,by rw[Az,SB],rfl⟩
 case round=>
  obtain⟨k,v,j,rfl,b,rfl⟩:=hrel;have d:au _:=b;clear b;by_cases a:k<s.size
  ·have hb:=XF (s.data.toList.take k) 4294967295 (by decide);have h:au _:=hb;clear hb;go_wp2_with fail
   refine(ET v (GU 4294967295 (s.data.toList.take k)) s[k] _ h.out d.out g).mono ?_;rintro e w' ⟨rfl,rfl⟩;go_wp2
   go_round
   case rel=>exact⟨k+1,_,by omega,by go_num,by rw[IE s k a],rfl⟩
   case measure=>simp[bH];omega
  ·go_wp2
   go_ret;exact⟨ES (by rw[d.out,MB s k a]),rfl⟩
theorem aa8(s:ByteArray)(w:af)(a:s.size<=maxLen)(b:Ci w):
 aH prog 29 #[.string s] w fun e w'=>e= .returned (.int .u32 ((4294967295-GU 4294967295 s.data.toList:Nat):Int))/\w'=w:=by
 go_enter func29,ntmps29
 go_wp2_with fail
 refine(IG s _ a b).mono ?_;rintro e w' ⟨rfl,rfl⟩;go_wp2
 go_ret;exact⟨rfl,rfl⟩
namespace gI
open Go.RowKit Rf Cr
def cut(s:ByteArray)(i n:Nat):List UInt8:=(s.data.toList.drop i).take n
theorem uF(s:ByteArray)(i j:Nat):(s.extract i j).data.toList=cut s i (j-i):=by rw[iE,vg,oL];rfl
def gQ(l:List UInt8):Nat:=4294967295-GU 4294967295 l
def dw(x i:Nat):Bool:=(65<=x&&x<=90)||(97<=x&&x<=122&&i !=2)
end gI
end Go.Proofs.YtephkcdbnogdhabGreatDoor
