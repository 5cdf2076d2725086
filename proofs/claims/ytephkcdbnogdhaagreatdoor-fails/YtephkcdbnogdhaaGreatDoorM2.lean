import Derived.Deep.AppendLies
import Derived.Deep.DeepMust
import Derived.Deep.RegionHeld3
import Derived.Laws.BytesArg
import Derived.Laws.MakeOwn
import Derived.Laws.OwnMore
import Derived.OneCell
import Derived.OwnWalk
import Derived.Test.YtephkcdbnogdhaaGreatDoorM0
set_option linter.unusedVariables false
set_option maxHeartbeats 40000000
set_option maxRecDepth 10000
namespace Go.Proofs.YtephkcdbnogdhaaGreatDoor
open Go.Proofs.Tryz
open Go renaming World->af,Value->ay,Calls->aF,TypeId->aY,Addr->bP
open Go.RowKit renaming Hid->ah,Below->aJ,intOf->aX
namespace kW
open Go.RowKit Rf
theorem LW{k:IntKind}{a b c d:Int}(h:a=b)(g:c=d):Ending.returned (.tuple #[.int k a,.int k c])= .returned (.tuple #[.int k b,.int k d]):=by rw[h,g]
theorem uo(n:Nat)(a:Int)(d:a=n)(w:af)(g:n<=16):
 aF prog 46 #[.int .i64 a] w fun e w'=>e= .returned (.int .i64 ((pw n:Nat):Int))/\w'=w:=by
 subst d;go_enter func46,ntmps46
 go_wp2
 go_loop [0,3] (fun j v=> ∃k m x:Nat,k+m=n/\x=pw k/\j= .int .i64 m/\v= .int .i64 x) (fun j _=>(aX j).toNat)
 case atStart=>exact⟨0,n,1,by omega,rfl,rfl,rfl⟩
 case round=>
  obtain⟨k,m,x,b,hx,rfl,rfl⟩:=hrel;have f:x<=65536:=by rw[hx];exact uC k 16 (by omega)
  have c:m<=16:=by omega
  by_cases hm:0<m
  ·have H:ah (k+1+(m-1)=n/\2*x=pw (k+1)):=(⟨by omega,by rw[hx,BF]⟩:_/\_);clear b hx;go_wp2
   go_round
   case rel=>exact⟨k+1,m-1,2*x,H.out.1,H.out.2,by go_num,by go_num⟩
   case measure=>simp[aX];omega
  ·obtain rfl:m=0:=by omega
   have H:ah (x=pw n):=(by rw[<-b];exact hx:_=_);clear b hx;go_wp2
   go_ret;exact⟨jf (by rw[<-H.out]),rfl⟩
theorem Eh(s:Nat)(a:Int)(b:a=s)(w:af)(hs:s<=1000):
 aF prog 142 #[.int .i64 a] w fun e w'=>e= .returned (.int .i64 ((oH s:Nat):Int))/\w'=w:=by
 subst b;by_cases h:s<261
 ·have H:ah (oH s=0):=aC h;go_enter func142,ntmps142
  go_wp2
  go_ret;exact⟨jf (by rw[H.out];rfl),rfl⟩
 ·have H:ah (oH s=(s-261)/4):=au h;go_enter func142,ntmps142
  go_wp2
  go_ret;exact⟨jf (by rw[H.out];omega),rfl⟩
theorem BK(s:Nat)(a:Int)(b:a=s)(w:af)(hs:s<=1000):
 aF prog 143 #[.int .i64 a] w fun e w'=>e= .returned (.int .i64 ((ny s:Nat):Int))/\w'=w:=by
 subst b;by_cases h:s<2
 ·have H:ah (ny s=0):=aC h;go_enter func143,ntmps143
  go_wp2
  go_ret;exact⟨jf (by rw[H.out];rfl),rfl⟩
 ·have H:ah (ny s=(s-2)/2):=au h;go_enter func143,ntmps143
  go_wp2
  go_ret;exact⟨jf (by rw[H.out];omega),rfl⟩
theorem Sr(s:Nat)(w:af)(h:257<=s)(l:s<=285):
 aF prog 118 #[.int .i64 s] w fun e w'=>e= .returned (.tuple #[.int .i64 (((ja s).1:Nat):Int),.int .i64 (((ja s).2:Nat):Int)])/\w'=w:=by
 by_cases he:s=285
 ·subst he;go_enter func118,ntmps118
  go_wp2
  go_ret2;exact⟨LW rfl rfl,rfl⟩
 ·have c:ah (ja s=(Fq (s-257) 257 3,oH s)):=au he;have d:((s:Int)==285)=false:=by rw[ax];omega
  go_enter func118,ntmps118
  go_wp2
  go_loop [4,5] (fun v i=> ∃j k x:Nat,257<=k/\k+j=s/\x<=3+64*(k-257)/\Fq (s-257) 257 3=Fq j k x/\v= .int .i64 x/\i= .int .i64 k) (fun _ i=>s-(aX i).toNat)
  case atStart=>exact⟨s-257,257,3,by omega,by omega,by omega,rfl,rfl,rfl⟩
  case round=>
   obtain⟨j,k,x,f,a,hx,b,rfl,rfl⟩:=hrel;cases j with
   |zero=>
    obtain rfl:k=s:=by omega
    have H:ah _:=b;clear b a;go_wp2_with fail
    refine(Eh _ _ rfl _ (by omega)).mono ?_;rintro e w' ⟨rfl,rfl⟩;go_wp2
    go_ret2;exact⟨LW (by rw[c.out,H.out];rfl) (by rw[c.out]),rfl⟩
   |succ j=>
    have g:k<s:=by omega
    have H:ah (Fq (s-257) 257 3=Fq j (k+1) (x+pw (oH k))/\k+1+j=s):=(⟨b,by omega⟩:_/\_);have hb:=AA k (by omega);have hp:pw (oH k)<=64:=uC _ 6 hb;clear b a;go_wp2_with fail
    refine(Eh _ _ rfl _ (by omega)).mono ?_;rintro e w' ⟨rfl,rfl⟩;go_wp2_with fail
    refine(uo _ _ rfl _ (by omega)).mono ?_;rintro e w' ⟨rfl,rfl⟩;generalize pw (oH k)=z at*;go_wp2
    go_round
    case rel=>exact⟨j,k+1,x+z,by omega,H.out.2,by omega,H.out.1,by go_num,by go_num⟩
    case measure=>simp[aX];omega
theorem LX(s:Nat)(w:af)(d:s<=29):
 aF prog 119 #[.int .i64 s] w fun e w'=>e= .returned (.tuple #[.int .i64 (((iK s).1:Nat):Int),.int .i64 (((iK s).2:Nat):Int)])/\w'=w:=by
 go_enter func119,ntmps119
 go_wp2
 go_loop [4,5] (fun v i=> ∃j k x:Nat,k+j=s/\x<=1+8192*k/\Af s 0 1=Af j k x/\v= .int .i64 x/\i= .int .i64 k) (fun _ i=>s-(aX i).toNat)
 case atStart=>exact⟨s,0,1,by omega,by omega,rfl,rfl,rfl⟩
 case round=>
  obtain⟨j,k,x,a,hx,b,rfl,rfl⟩:=hrel;cases j with
  |zero=>
   obtain rfl:k=s:=by omega
   have H:ah _:=b;clear b a;go_wp2_with fail
   refine(BK _ _ rfl _ (by omega)).mono ?_;rintro e w' ⟨rfl,rfl⟩;go_wp2
   go_ret2;exact⟨LW (by show _=((Af k 0 1:Nat):Int);rw[H.out];rfl) rfl,rfl⟩
  |succ j=>
   have c:k<s:=by omega
   have H:ah (Af s 0 1=Af j (k+1) (x+pw (ny k))/\k+1+j=s):=(⟨b,by omega⟩:_/\_);have hb:=yE k (by omega);have hp:pw (ny k)<=8192:=uC _ 13 hb;clear b a;go_wp2_with fail
   refine(BK _ _ rfl _ (by omega)).mono ?_;rintro e w' ⟨rfl,rfl⟩;go_wp2_with fail
   refine(uo _ _ rfl _ (by omega)).mono ?_;rintro e w' ⟨rfl,rfl⟩;generalize pw (ny k)=z at*;go_wp2
   go_round
   case rel=>exact⟨j,k+1,x+z,H.out.2,by omega,H.out.1,by go_num,by go_num⟩
   case measure=>simp[aX];omega
theorem aei(l:List UInt8):(ByteArray.mk #[49]++ByteArray.mk l.toArray)=ByteArray.mk (49::l).toArray:=ByteArray.mk_append_mk [49] l
theorem aej(l:List UInt8):(ByteArray.mk #[48]++ByteArray.mk l.toArray)=ByteArray.mk (48::l).toArray:=ByteArray.mk_append_mk [48] l
theorem Su(v n:Nat)(w:af)(g:v<=1073741824)(m:n<=15):
 aF prog 141 #[.int .i64 v,.int .i64 n] w fun e w'=>e= .returned (.string ⟨(qj v n).toArray⟩)/\w'=w:=by
 go_enter func141,ntmps141
 go_wp2
 go_loop [0,5,6] (fun x s i=> ∃(j k y:Nat) (acc:List UInt8),k+j=n/\acc.length=k/\y<=1073741824/\qj v n=zW j y acc/\x= .int .i64 y/\s= .string ⟨acc.toArray⟩/\i= .int .i64 k) (fun _ _ i=>n-(aX i).toNat)
 case atStart=>exact⟨n,0,v,[],by omega,rfl,g,rfl,rfl,rfl,rfl⟩
 case round=>
  obtain⟨j,k,y,acc,b,a,o,c,rfl,rfl,rfl⟩:=hrel;cases j with
  |zero=>
   obtain rfl:k=n:=by omega
   have H:ah _:=c;clear c b;go_wp2
   go_ret;exact⟨by rw[H.out];rfl,rfl⟩
  |succ j=>
   have h:k<n:=by omega
   by_cases d:y%2=1
   ·have H:ah (qj v n=zW j (y/2) (49::acc)/\k+1+j=n/\(49::acc).length=k+1):=(⟨by rw[c,zW,aC d],by omega,by simp[a]⟩:_/\_/\_);have l:((y:Int)%2==1)=true:=by rw[iV];omega
    have f:acc.length<=15:=by omega
    clear c b d a;go_wp2
    go_round
    case rel=>exact⟨j,k+1,y/2,49::acc,H.out.2.1,H.out.2.2,by omega,H.out.1,by go_num,by rw[aei],by go_num⟩
    case measure=>simp[aX];omega
   ·have H:ah (qj v n=zW j (y/2) (48::acc)/\k+1+j=n/\(48::acc).length=k+1):=(⟨by rw[c,zW,au d],by omega,by simp[a]⟩:_/\_/\_);have l:((y:Int)%2==1)=false:=by rw[ax];omega
    have f:acc.length<=15:=by omega
    clear c b d a;go_wp2
    go_round
    case rel=>exact⟨j,k+1,y/2,48::acc,H.out.2.1,H.out.2.2,by omega,H.out.1,by go_num,by rw[aej],by go_num⟩
    case measure=>simp[aX];omega
theorem tZ:(prog.info? 3).map (fun i=>(i.zero,i.size,i.bytes))=some (some (.int .i64 0),1,8):=by kernel_rfl
def jW(L:List Nat):List ay:=L.map fun(n:Nat)=> .int .i64 (n:Int)
theorem nJ(L:List Nat)(x:Nat):jW (L++[x])=jW L++[.int .i64 (x:Int)]:=by simp[jW]
theorem yG(k x:Nat):List.replicate (k+1) x=List.replicate k x++[x]:=List.replicate_succ'
def jZ(w:af)(v:ay)(L:List Nat):Prop:=
 ∃g off cap cur,v= .slice (some ⟨g,off,none⟩) L.length cap/\L.length<=cap/\w.heap[g]?=some (.cells cur 3 (0,0))/\∀i,i<L.length->cur[off+i]?=some (.int .i64 ((L.getD i 0:Nat):Int))
theorem Ei{w:af}{base:Nat}{v:ay}{L:List Nat}(h:w.ownsRow base 3 1 v L.length (jW L))(b:L≠[]):jZ w v L:=by
 obtain⟨_,h|⟨g,cap,cur,rfl,_,c,d,_,_,a⟩⟩:=h
 ·exact absurd (gG h.2) b
 ·refine⟨g,0,cap,cur,rfl,d,c,fun i hi=> ?_⟩;have e:(cur.toList.take (L.length*1))[i]?=(jW L)[i]?:=by rw[a]
  rw[mO,aC (by omega),kE]at e;rw[fF,e];simp[jW,List.getD,List.getElem?_eq_getElem hi]
theorem rH{wr:af}{ops:Array Oper}{rest:List Oper}{o:Oper}{a:Act}{Q:Exit->Act->af->Prop}(d:o.guard=none)(s x:Operand)
 (i:o.op= .call {callee:= .builtin .append,args:= #[s,x],argTypes:= #[29,29]}) (base:Nat) (v:ay) (n:Nat) (xs:List ay) (z:Int)
 (b:wr.ownsRow base 3 1 v n xs) (hs:a.eval s=v) (hx:a.eval x= .slice (some ⟨wr.heap.size,0,none⟩) 1 1) (p:n<=1000000) (hb:base<=wr.heap.size)
 (h:∀v' w',w'.ownsRow base 3 1 v' (n+1) (xs++[.int .i64 z])->(wr.alloc (.cells #[.int .i64 z] 3)).grownBy w' v.ownBlock->wpList prog ops Q rest (a.put o.dst v') w'):
 wpList prog ops Q (o::rest) a (wr.alloc (.cells #[.int .i64 z] 3)):=by
 obtain⟨k,hi,e,f,g⟩:=info_parts tZ;refine xY _ d s x 29 i base 3 k (.int .i64 0) 1 8 underlying29 hi e f g rfl (by decide) v n xs hs (b.alloc _) ⟨wr.heap.size,0,none⟩ 1 1 [.int .i64 z] hx rfl ?_ ?_ ?_ ?_ ?_ ?_
 ·intro j u c;match j,c with
  |0,c=>simp at c;subst c;simp[Addr.add]
 ·intro u hu;simp at hu;subst hu;rfl
 ·unfold maxLen;omega
 ·omega
 ·simp;omega
 ·intro v' w' l m _;exact h v' w' l m
theorem pW{B base e size n:Nat}{w wr w':af}{v:ay}{xs:List ay}{nN:Obj}(a:aJ B w wr)(c:B<=base)(hs:B<=wr.heap.size)(b:wr.ownsRow base e size v n xs)(d:(wr.alloc nN).grownBy w' v.ownBlock):aJ B w w':=
 (a.alloc hs nN).grown d (aK hs (by simp)) (fun k f=>aK c (b.lt k f).1)
theorem qC{wr w':af}{nN:Obj}{r:Option Nat}(a:(wr.alloc nN).grownBy w' r):wr.heap.size<=w'.heap.size:=by have:=a.size;simp at this;omega
theorem WJ(w:af):
 aF prog 83 #[] w fun e w'=> ∃v,e= .returned v/\jZ w' v (List.replicate 32 5)/\aJ w.heap.size w w':=by
 go_enter func83,ntmps83
 go_wp2
 go_loopw [1,2] (fun v i wr=> ∃k:Nat,k<=32/\i= .int .i64 k/\wr.ownsRow w.heap.size 3 1 v k (jW (List.replicate k 5))/\aJ w.heap.size w wr/\w.heap.size<=wr.heap.size) (fun _ i _=>32-(aX i).toNat)
 case atStart=>exact⟨0,by omega,rfl,eX _ _ _ _,aP _ _,ag _⟩
 case round=>
  obtain⟨k,h,rfl,a,b,c⟩:=hrel;by_cases g:k<32
  ·go_wp2_with (first
    |(at_builtin;refine rH rfl _ _ rfl w.heap.size _ k (jW (List.replicate k 5)) 5 a rfl rfl (by omega) c ?_;intro v' w1 d f)
    |go_in)
   go_roundw
   case rel=>exact⟨k+1,by omega,by go_num,by rw[yG,nJ];exact d,pW b (ag _) c a f,aK c (qC f)⟩
   case measure=>simp[aX];omega
  ·obtain rfl:k=32:=by omega
   go_wp2
   go_ret;exact⟨_,rfl,Ei (by simpa using a) (by simp),b⟩
def FB(i:Nat):Nat:=if 144<=i/\i<256 then 9 else if 256<=i/\i<280 then 7 else 8
def Je(n:Nat):List Nat:=(List.range n).map FB
theorem WL(n:Nat):Je (n+1)=Je n++[FB n]:=by simp[Je,List.range_succ]
theorem Ej(n:Nat):(Je n).length=n:=by simp[Je]
theorem LY(w:af):
 aF prog 82 #[] w fun e w'=> ∃v,e= .returned v/\jZ w' v (Je 288)/\aJ w.heap.size w w':=by
 go_enter func82,ntmps82
 go_wp2
 go_loopw [1,2] (fun v i wr=> ∃k:Nat,k<=288/\i= .int .i64 k/\wr.ownsRow w.heap.size 3 1 v k (jW (Je k))/\aJ w.heap.size w wr/\w.heap.size<=wr.heap.size) (fun _ i _=>288-(aX i).toNat)
 case atStart=>exact⟨0,by omega,rfl,eX _ _ _ _,aP _ _,ag _⟩
 case round=>
  obtain⟨k,n,rfl,a,b,c⟩:=hrel;by_cases j:k<288
  ·have l:(k<144/\FB k=8)\/(144<=k/\k<256/\FB k=9)\/(256<=k/\k<280/\FB k=7)\/(280<=k/\FB k=8):=by
    unfold FB;split
    ·omega
    ·split<;>omega
   rcases l with⟨g,f⟩|⟨g,m,f⟩|⟨g,m,f⟩|⟨g,f⟩
   all_goals
    have H:ah _:=f;clear f
    go_wp2_with (first
     |(at_builtin;refine rH rfl _ _ rfl w.heap.size _ k (jW (Je k)) _ a rfl rfl (by omega) c ?_;intro v' w1 d h)
     |go_in)
    go_roundw
    case rel=>exact⟨k+1,by omega,by go_num,by rw[WL,nJ,H.out];exact d,pW b (ag _) c a h,aK c (qC h)⟩
    case measure=>simp[aX];omega
  ·obtain rfl:k=288:=by omega
   go_wp2
   go_ret;exact⟨_,rfl,Ei (by rw[Ej];exact a) (by intro e;have:=Ej 288;rw[e]at this;simp at this),b⟩
theorem Zb:(prog.info? 254).map (fun i=>(i.zero,i.size,i.bytes))=some (some (.agg #[.int .i64 0,.string ⟨#[]⟩]),2,24):=by kernel_rfl
def lJ(cs:List (Nat×List UInt8)):List ay:=cs.flatMap fun(x:Nat×List UInt8)=>[.int .i64 (x.1:Int),.string ⟨x.2.toArray⟩]
theorem FC(cs:List (Nat×List UInt8))(s:Nat)(b:List UInt8):lJ (cs++[(s,b)])=lJ cs++[.int .i64 (s:Int),.string ⟨b.toArray⟩]:=by simp[lJ]
def dD(w:af)(v:ay)(cs:List (Nat×List UInt8)):Prop:=
 (v= .slice none 0 0/\cs=[])\/∃g cap cur,v= .slice (some ⟨g,0,none⟩) cs.length cap/\cs.length<=cap/\w.heap[g]?=some (.cells cur 254 (0,0))/\
   ∀i (hi:i<cs.length),cur[2*i]?=some (.int .i64 ((cs[i].1:Nat):Int))/\cur[2*i+1]?=some (.string ⟨cs[i].2.toArray⟩)
theorem LZ(cs:List (Nat×List UInt8)):∀i (hi:i<cs.length),(lJ cs)[2*i]?=some (.int .i64 ((cs[i].1:Nat):Int))/\(lJ cs)[2*i+1]?=some (.string ⟨cs[i].2.toArray⟩):=by
 induction cs with
 |nil=>intro i hi;simp at hi
 |cons c cs a=>
  intro i hi;cases i with
  |zero=>simp[lJ]
  |succ i=>have:=a i (by simpa using hi);simp only[lJ,List.flatMap_cons]at this|-;rw[show 2*(i+1)=2*i+1+1 by omega];simpa using this
theorem L_{w:af}{base:Nat}{v:ay}{cs:List (Nat×List UInt8)}(h:w.ownsRow base 254 2 v cs.length (lJ cs)):dD w v cs:=by
 obtain⟨_,h|⟨g,cap,cur,rfl,_,c,d,_,_,a⟩⟩:=h
 ·exact .inl ⟨h.1,gG h.2⟩
 ·refine .inr ⟨g,cap,cur,rfl,d,c,fun i hi=> ?_⟩;have b:=LZ cs i hi;rw[<-a,mO,aC (by omega),kE,mO,aC (by omega),kE]at b;exact b
theorem OB{wr:af}{ops:Array Oper}{rest:List Oper}{o:Oper}{a:Act}{Q:Exit->Act->af->Prop}(e:o.guard=none)(s x:Operand)
 (k:o.op= .call {callee:= .builtin .append,args:= #[s,x],argTypes:= #[205,205]}) (base:Nat) (v:ay) (n:Nat) (xs:List ay) (z:Int) (b:ByteArray)
 (d:wr.ownsRow base 254 2 v n xs) (hs:a.eval s=v) (hx:a.eval x= .slice (some ⟨wr.heap.size,0,none⟩) 1 1) (q:n<=1000000) (hb:base<=wr.heap.size)
 (h:∀v' w',w'.ownsRow base 254 2 v' (n+1) (xs++[.int .i64 z,.string b])->(wr.alloc (.cells #[.int .i64 z,.string b] 254)).grownBy w' v.ownBlock->wpList prog ops Q rest (a.put o.dst v') w'):
 wpList prog ops Q (o::rest) a (wr.alloc (.cells #[.int .i64 z,.string b] 254)):=by
 obtain⟨l,hi,f,g,i⟩:=info_parts Zb;refine xY _ e s x 205 k base 254 l _ 2 24 underlying205 hi f g i rfl (by decide) v n xs hs (d.alloc _) ⟨wr.heap.size,0,none⟩ 1 1 [.int .i64 z,.string b] hx rfl ?_ ?_ ?_ ?_ ?_ ?_
 ·intro j u c;match j,c with
  |0,c=>simp at c;subst c;simp[Addr.add]
  |1,c=>simp at c;subst c;simp[Addr.add]
 ·intro u hu;simp at hu;rcases hu with rfl|rfl<;>rfl
 ·unfold maxLen;omega
 ·omega
 ·simp;omega
 ·intro v' w' m p _;exact h v' w' m p
theorem Zc{v:ay}{k:IntKind}{a b:Int}(h:a=b):Ending.returned (.tuple #[v,.int k a])= .returned (.tuple #[v,.int k b]):=by rw[h]
theorem iR{w:af}{g:Nat}{cur:Array ay}{T:aY}(h:w.heap[g]?=some (.cells cur T (0,0)))(o:Nat):w.cell? ⟨g,o,none⟩=cur[o]?:=by simp[World.cell?,h]
theorem rJ{w:af}{g:Nat}{b:Obj}(h:w.heap[g]?=some b):g<w.heap.size:=(Array.getElem?_eq_some_iff.1 h).1
theorem wH(L:List Nat)(v0:ay)(w:af)(hI:jZ w v0 L)(hlen:L.length<=400)(D:∀i,L.getD i 0<=15):
 aF prog 116 #[v0] w fun e w'=> ∃v,e= .returned (.tuple #[v,.int .i64 (((bJ L).nZ:Nat):Int)])/\dD w' v (bJ L).cs/\aJ w.heap.size w w':=by
 obtain⟨g,off,cap,cur,rfl,a3,o,E⟩:=hI;have hg:=rJ o;go_enter func116,ntmps116
 go_wp2
 go_loopw [4,5,6,7,8] (fun l val f P Q wr=> ∃(j n:Nat) (st:CS),n+j=16/\1<=n/\bJ L=vV L j n st/\st.ok (n-1) ((n-1)*L.length)/\Q= .int .i64 n/\val= .int .i64 (st.value:Nat)/\f= .int .i64 (st.qA:Nat)/\P= .int .i64 (st.nZ:Nat)/\wr.ownsRow w.heap.size 254 2 l st.cs.length (lJ st.cs)/\aJ w.heap.size w wr/\w.heap.size<=wr.heap.size) (fun _ _ _ _ Q _=>16-(aX Q).toNat)
 case atStart=>exact⟨15,1,⟨[],0,0,0⟩,by omega,by omega,rfl,⟨by simp,by simp,by simp,by simp⟩,rfl,rfl,rfl,rfl,eX _ _ _ _,aP _ _,ag _⟩
 case round=>
  obtain⟨j,n,st,R,S,K,T,rfl,rfl,rfl,rfl,r,t,U⟩:=hrel;cases j with
  |zero=>
   obtain rfl:n=16:=by omega
   have H:ah (bJ L=st):=K;clear K;go_wp2
   go_ret2;exact⟨_,Zc (by rw[H.out]),by rw[H.out];exact L_ r,t⟩
  |succ j=>
   have h:n<=15:=by omega
   have HO:ah (bJ L=vV L j (n+1) (nM L n L.length 0 st)/\n+1+j=16):=(⟨K,by omega⟩:_/\_);clear K R;go_wp2
   go_loopw [4,5,6,7,9] (fun l val f P V wx=> ∃(i s:Nat) (sx:CS),s+i=L.length/\nM L n L.length 0 st=nM L n i s sx/\sx.ok n ((n-1)*L.length+s)/\V= .int .i64 s/\val= .int .i64 (sx.value:Nat)/\f= .int .i64 (sx.qA:Nat)/\P= .int .i64 (sx.nZ:Nat)/\wx.ownsRow w.heap.size 254 2 l sx.cs.length (lJ sx.cs)/\aJ w.heap.size w wx/\w.heap.size<=wx.heap.size) (fun _ _ _ _ V _=>L.length-(aX V).toNat)
   case atStart=>exact⟨L.length,0,st,by omega,rfl,T.mono (by omega) (by omega),rfl,rfl,rfl,rfl,r,t,U⟩
   case round=>
    obtain⟨i,s,sx,A,hI,a,rfl,rfl,rfl,rfl,b,c,d⟩:=hrel;have W:(n-1)*L.length<=14*400:=bT (by omega) hlen;have u:sx.cs.length<=6000:=by have:=a.2.2.1;omega
    have a7:=adU a;have X:pw n<=32768:=uC n 15 h;have a4:sx.cs.length*pw n<=6000*32768:=bT u X;have a8:sx.nZ<=6000*16384:=aK a.2.2.2 (eY _ u);have F:sx.qA<=n:=a.1;cases i with
    |zero=>
     obtain rfl:s=L.length:=by omega
     have H:ah (nM L n L.length 0 st=sx):=hI;clear hI A;go_wp2
     go_roundw
     case rel=>exact⟨j,n+1,sx,HO.out.2,by omega,by rw[HO.out.1,H.out],a.mono (by omega) (by rw[Nat.add_sub_cancel];have e:n*L.length=(n-1)*L.length+L.length:=(by obtain⟨m,rfl⟩:∃m,n=m+1:=⟨n-1,by omega⟩;rw[Nat.add_sub_cancel,fO,tJ]);omega),by go_num,rfl,rfl,rfl,b,c,d⟩
     case measure=>simp[aX];omega
    |succ i=>
     have G:s<L.length:=by omega
     have Y:wr.cell? ⟨g,off+s,none⟩=some (.int .i64 ((L.getD s 0:Nat):Int)):=by rw[c.cell (p:=⟨g,off+s,none⟩) hg,iR o];exact E s G
     have I:=Oy L n s _ sx a S;have H:ah (nM L n L.length 0 st=nM L n i (s+1) (ru L n s sx)/\s+1+i=L.length):=(⟨hI,by omega⟩:_/\_);have a5:=D s;generalize hx:L.getD s 0=x at*;by_cases Z:x=n
     ·subst Z;have C:ah (ru L x s sx=⟨sx.cs++[(s,qj (sx.value*pw (x-sx.qA)) x)],sx.value*pw (x-sx.qA)+1,x,sx.nZ+pw (15-x)⟩):=(by unfold ru;rw[aC hx]:_=_);have Hx:ah _:=hx;have a0:((x:Int) !=(x:Int))=false:=by simp
      clear hI A hx;go_wp2
      go_loop [5,6] (fun val f=> ∃m y:Nat,sx.qA<=m/\m<=x/\y=sx.value*pw (m-sx.qA)/\y<=196608000/\val= .int .i64 y/\f= .int .i64 m) (fun _ f=>x-(aX f).toNat)
      case atStart=>exact⟨sx.qA,sx.value,ag _,F,by rw[iW];show _=_*1;omega,by have:=LQ (x-sx.qA);have h2:=nT sx.value this;omega,rfl,rfl⟩
      case round=>
       obtain⟨m,y,a9,b0,M,b1,rfl,rfl⟩:=hrel;by_cases b2:m<x
       ·have J:ah (2*y=sx.value*pw (m+1-sx.qA)):=(by rw[M,show m+1-sx.qA=m-sx.qA+1 by omega,BF,<-jM,eu 2 sx.value,jM]:_=_);have a1:2*y<=196608000:=by
         rw[J.out];refine aK (Nat.mul_le_mul_left _ (uC (m+1-sx.qA) (x-sx.qA) (by omega))) ?_;omega
        clear M;go_wp2
        go_round
        case rel=>exact⟨m+1,2*y,by omega,by omega,J.out,a1,by go_num,by go_num⟩
        case measure=>simp[aX];omega
       ·obtain rfl:m=x:=by omega
        have J:ah _:=M;clear M
        go_wp2_with (first
         |(go_at_call 141;refine(Su _ _ _ (by omega) h).mono ?_;rintro e wb ⟨rfl,rfl⟩)
         |(at_builtin;refine OB rfl _ _ rfl w.heap.size _ sx.cs.length (lJ sx.cs) _ _ b rfl rfl (by omega) d ?_;intro v' w1 k B)
         |go_in)
        have HD:ah (w1.ownsRow w.heap.size 254 2 v' (ru L m s sx).cs.length (lJ (ru L m s sx).cs)/\aJ w.heap.size w w1/\w.heap.size<=w1.heap.size):=
         (⟨by rw[C.out,FC,bQ,<-J.out];exact k,pW c (ag _) d b B,aK d (qC B)⟩:_/\_/\_)
        clear k B;go_loop [10,11] (fun ro qi=> ∃q z:Nat,m<=q/\q<=15/\z=pw (q-m)/\z<=32768/\ro= .int .i64 z/\qi= .int .i64 q) (fun _ qi=>15-(aX qi).toNat)
        case atStart=>exact⟨m,1,ag _,h,by rw[iW];rfl,by omega,rfl,rfl⟩
        case round=>
         obtain⟨q,z,b3,b4,N,b5,rfl,rfl⟩:=hrel;by_cases a6:q<15
         ·have O:ah (2*z=pw (q+1-m)):=(by rw[N,show q+1-m=q-m+1 by omega,BF]:_=_);have a2:2*z<=32768:=by rw[O.out];exact uC _ 15 (by omega)
          clear N;go_wp2
          go_round
          case rel=>exact⟨q+1,2*z,by omega,by omega,O.out,a2,by go_num,by go_num⟩
          case measure=>simp[aX];omega
         ·obtain rfl:q=15:=by omega
          have O:ah _:=N;clear N;go_wp2
          go_roundw
          case rel=>exact⟨_,_,_,_,_,⟨i,s+1,H.out.2,ru L m s sx,H.out.1,I,by go_num,by rw[C.out];show _=Value.int _ ((sx.value*pw (m-sx.qA)+1:Nat):Int);rw[<-J.out];go_num,by rw[C.out],by rw[C.out];show _=Value.int _ ((sx.nZ+pw (15-m):Nat):Int);rw[<-O.out];go_num,HD.out.1,HD.out.2.1,HD.out.2.2⟩,rfl,rfl,rfl,rfl,rfl⟩
          case measure=>simp[aX];omega
     ·have C:ah (ru L n s sx=sx):=(by unfold ru;rw[au (by omega)]:_=_);have a0:((x:Int) !=(n:Int))=true:=by rw[dG];omega
      clear hI A hx;go_wp2
      go_roundw
      case rel=>exact⟨i,s+1,sx,H.out.2,by rw[H.out.1,C.out],a.mono (ag _) (by omega),by go_num,rfl,rfl,rfl,b,c,d⟩
      case measure=>simp[aX];omega
def Mc:ay->Nat
 | .string t=>t.size
 |_=>0
theorem pX(l:List UInt8):Mc (.string ⟨l.toArray⟩)=l.length:=by simp[Mc,ByteArray.size]
theorem Zd(l:List UInt8):(ByteArray.mk l.toArray++ByteArray.mk #[49])=ByteArray.mk (l++[49]).toArray:=ByteArray.mk_append_mk l [49]
theorem Ze(l:List UInt8):(ByteArray.mk l.toArray++ByteArray.mk #[48])=ByteArray.mk (l++[48]).toArray:=ByteArray.mk_append_mk l [48]
theorem JV{w:af}{b g:Nat}{s:ByteArray}{st:bZ}{cur:Array ay}{T:aY}(a:je w b s st)(h:w.heap[g]?=some (.cells cur T (0,0)))(c:T≠91):g≠b:=by intro e;subst e;have:=a.1;rw[h]at this;simp at this;exact c this.2
theorem OC(b:Nat)(s:ByteArray)(st:bZ)(cs:List (Nat×List UInt8))(g cap:Nat)(cur:Array ay)(w:af)(R:je w b s st)(hs:s.size<=140737488351232)(hlen:cs.length<=1000000)
 (q:w.heap[g]?=some (.cells cur 254 (0,0)))
 (D:∀i (hi:i<cs.length),cur[2*i]?=some (.int .i64 ((cs[i].1:Nat):Int))/\cur[2*i+1]?=some (.string ⟨cs[i].2.toArray⟩)):
 aF prog 117 #[.pointer (some ⟨b,0,none⟩),.slice (some ⟨g,0,none⟩) cs.length cap] w fun e w'=>e= .returned (.int .i64 (((cu s cs st).1:Nat):Int))/\je w' b s (cu s cs st).2/\kH b w w':=by
 have K:=JV R q (by decide);go_enter func117,ntmps117
 go_wp2
 go_loopw [5] (fun p wr=> ∃(k:Nat) (pre:List UInt8) (t:bZ),pre.length+k=15/\cu s cs st=pF s cs k pre t/\p= .string ⟨pre.toArray⟩/\je wr b s t/\kH b w wr) (fun p _=>15-Mc p)
 case atStart=>exact⟨15,[],st,rfl,rfl,rfl,R,kH.refl b w⟩
 case round=>
  obtain⟨k,pre,t,d,hS,rfl,c,l⟩:=hrel;have L:=c.c2;have M:=c.free 2;obtain⟨a,tb⟩:=t;cases tb
  ·cases k with
   |zero=>
    have H:ah (cu s cs st=(0,⟨a,true⟩)):=hS;have S:¬pre.length<15:=by omega
    clear hS d;go_wp2
    go_ret;exact⟨jf (by rw[H.out];rfl),by rw[H.out];exact c.vk true,l.setCell 2 _⟩
   |succ k=>
    have S:pre.length<15:=by omega
    have I:ah _:=hS;have V:ah _:=d;clear hS d;go_wp2_with fail
    refine(Fe b s ⟨a,false⟩ _ c hs).mono ?_;rintro e w2 ⟨rfl,m,N⟩;have r:=BD s ⟨a,false⟩;have W:ah ((gy s ⟨a,false⟩).2.dA=true->cu s cs st=(0,⟨(gy s ⟨a,false⟩).2.pos,true⟩)):=fun h=>I.out.trans (BG s cs k pre ⟨a,false⟩ rfl h);have T:ah (∀y,(gy s ⟨a,false⟩).2.dA=false->kS cs (pre++[sign (gy s ⟨a,false⟩).1])=some y->cu s cs st=(y,(gy s ⟨a,false⟩).2)):=fun y h O=>I.out.trans (Oz s cs k pre ⟨a,false⟩ rfl h y O);have X:ah ((gy s ⟨a,false⟩).2.dA=false->kS cs (pre++[sign (gy s ⟨a,false⟩).1])=none->cu s cs st=pF s cs k (pre++[sign (gy s ⟨a,false⟩).1]) (gy s ⟨a,false⟩).2):=fun h O=>I.out.trans (Dl s cs k pre ⟨a,false⟩ rfl h O);generalize gy s ⟨a,false⟩=z at*;obtain⟨B,U,Y⟩:=z;have n:=l.trans N;have f:=(n.block g K).trans q;have Z:=m.c2;have hz:B=0\/B=1:=by simp at r;omega
    have J:ah ((pre++[sign B]).length+k=15/\(pre++[sign B]).length=pre.length+1):=(⟨by have:=V.out;simp;omega,by simp⟩:_/\_);clear L M r I;go_upto_if 21 with fail
    go_cut [5] (fun v wx=>v= .string ⟨(pre++[sign B]).toArray⟩/\wx=w2)
    case first=>
     rcases hz with rfl|rfl
     ·go_wp2
      go_meet
      case rel=>exact⟨by rw[Ze];rfl,rfl⟩
     ·go_wp2
      go_meet
      case rel=>exact⟨by rw[Zd];rfl,rfl⟩
    case rest=>
     obtain⟨rfl,x⟩:=hcut;have x:=x.symm;subst x;generalize pre++[sign B]=P at*;cases Y
     ·go_wp2
      go_loop [7] (fun ii=> ∃i:Nat,i<=cs.length/\ii= .int .i64 i/\∀j (u:j<i) (Q:j<cs.length),(cs[j].2==P)=false) (fun ii=>cs.length-(aX ii).toNat)
      case atStart=>exact⟨0,by omega,rfl,fun j u=>absurd u (by omega)⟩
      case round=>
       obtain⟨i,hi,rfl,o⟩:=hrel;by_cases E:i<cs.length
       ·have A:=D i E;have a0:w2.cell? ⟨g,i*2,none⟩=some (.int .i64 ((cs[i].1:Nat):Int)):=(iR f _).trans (by rw[eu];exact A.1);have a1:w2.cell? ⟨g,i*2+1,none⟩=some (.string ⟨cs[i].2.toArray⟩):=(iR f _).trans (by rw[eu i];exact A.2);clear A;have F:ah _:=o;clear o;by_cases heq:(cs[i].2==P)=true
        ·have C:ah (kS cs P=some cs[i].1):=Sj cs P i E (fun j u=>F.out j u (by omega)) heq;go_wp2
         go_ret;exact⟨jf (by rw[T.out _ (by first|rfl|trivial) C.out]),by rw[T.out _ (by first|rfl|trivial) C.out];exact m,n⟩
        ·have G:(cs[i].2==P)=false:=by simpa using heq
         have C:ah (∀j (u:j<i+1) (Q:j<cs.length),(cs[j].2==P)=false):=fun j u Q=>by
          by_cases e:j=i
          ·subst e;exact G
          ·exact F.out j (by omega) Q
         clear heq;go_wp2
         go_round
         case rel=>exact⟨i+1,by omega,by go_num,C.out⟩
         case measure=>simp[aX];omega
       ·have C:ah (kS cs P=none):=Si cs P (fun j u=>o j (by omega) u);clear o;go_wp2
        go_roundw
        case rel=>exact⟨k,P,⟨U,false⟩,J.out.1,X.out (by first|rfl|trivial) C.out,rfl,m,n⟩
        case measure=>rw[pX,pX];have:=J.out.2;omega
     ·go_wp2
      go_loop [7] (fun ii=>ii= .int .i64 0) (fun _=>0)
      case atStart=>rfl
      case round=>
       subst hrel;by_cases a2:0<cs.length
       all_goals
        go_wp2
        go_roundw
        case rel=>exact⟨k,P,⟨U,true⟩,J.out.1,by rw[W.out (by first|rfl|trivial),yF _ _ _ _ _ rfl],rfl,m,n⟩
        case measure=>rw[pX,pX];have:=J.out.2;omega
  ·have H:ah (cu s cs st=(0,⟨a,true⟩)):=hS.trans (yF s cs k pre ⟨a,true⟩ rfl);by_cases S:pre.length<15
   ·clear hS d;go_wp2
    go_ret;exact⟨jf (by rw[H.out];rfl),by rw[H.out];exact c.vk true,l.setCell 2 _⟩
   ·clear hS d;go_wp2
    go_ret;exact⟨jf (by rw[H.out];rfl),by rw[H.out];exact c.vk true,l.setCell 2 _⟩
theorem Sv(b:Nat)(s:ByteArray)(st:bZ)(w:af)(A:je w b s st)(hs:s.size<=140737488351232):
 aF prog 117 #[.pointer (some ⟨b,0,none⟩),.slice none 0 0] w fun e w'=>e= .returned (.int .i64 (((cu s [] st).1:Nat):Int))/\je w' b s (cu s [] st).2/\kH b w w':=by
 go_enter func117,ntmps117
 go_wp2
 go_loopw [5] (fun p wr=> ∃(k:Nat) (pre:List UInt8) (t:bZ),pre.length+k=15/\cu s [] st=pF s [] k pre t/\p= .string ⟨pre.toArray⟩/\je wr b s t/\kH b w wr) (fun p _=>15-Mc p)
 case atStart=>exact⟨15,[],st,rfl,rfl,rfl,A,kH.refl b w⟩
 case round=>
  obtain⟨k,pre,t,d,hS,rfl,a,f⟩:=hrel;have o:=a.c2;have q:=a.free 2;obtain⟨c,tb⟩:=t;cases tb
  ·cases k with
   |zero=>
    have H:ah (cu s [] st=(0,⟨c,true⟩)):=hS;have x:¬pre.length<15:=by omega
    clear hS d;go_wp2
    go_ret;exact⟨jf (by rw[H.out];rfl),by rw[H.out];exact a.vk true,f.setCell 2 _⟩
   |succ k=>
    have x:pre.length<15:=by omega
    have r:ah _:=hS;have B:ah _:=d;clear hS d;go_wp2_with fail
    refine(Fe b s ⟨c,false⟩ _ a hs).mono ?_;rintro e w2 ⟨rfl,i,u⟩;have g:=BD s ⟨c,false⟩;have C:ah ((gy s ⟨c,false⟩).2.dA=true->cu s [] st=(0,⟨(gy s ⟨c,false⟩).2.pos,true⟩)):=fun h=>r.out.trans (BG s [] k pre ⟨c,false⟩ rfl h);have D:ah ((gy s ⟨c,false⟩).2.dA=false->cu s [] st=pF s [] k (pre++[sign (gy s ⟨c,false⟩).1]) (gy s ⟨c,false⟩).2):=fun h=>r.out.trans (Dl s [] k pre ⟨c,false⟩ rfl h rfl);generalize gy s ⟨c,false⟩=z at*;obtain⟨l,y,E⟩:=z;have m:=f.trans u;have F:=i.c2;have G:l=0\/l=1:=by simp at g;omega
    have n:ah ((pre++[sign l]).length+k=15/\(pre++[sign l]).length=pre.length+1):=(⟨by have:=B.out;simp;omega,by simp⟩:_/\_);clear o q g r;go_upto_if 21 with fail
    go_cut [5] (fun v wx=>v= .string ⟨(pre++[sign l]).toArray⟩/\wx=w2)
    case first=>
     rcases G with rfl|rfl
     ·go_wp2
      go_meet
      case rel=>exact⟨by rw[Ze];rfl,rfl⟩
     ·go_wp2
      go_meet
      case rel=>exact⟨by rw[Zd];rfl,rfl⟩
    case rest=>
     obtain⟨rfl,j⟩:=hcut;have j:=j.symm;subst j;generalize pre++[sign l]=P at*;cases E
     ·go_wp2
      go_loop [7] (fun ii=>ii= .int .i64 0) (fun _=>0)
      case atStart=>rfl
      case round=>
       subst hrel;go_wp2
       go_roundw
       case rel=>exact⟨k,P,⟨y,false⟩,n.out.1,D.out (by first|rfl|trivial),rfl,i,m⟩
       case measure=>rw[pX,pX];have:=n.out.2;omega
     ·go_wp2
      go_loop [7] (fun ii=>ii= .int .i64 0) (fun _=>0)
      case atStart=>rfl
      case round=>
       subst hrel;go_wp2
       go_roundw
       case rel=>exact⟨k,P,⟨y,true⟩,n.out.1,by rw[C.out (by first|rfl|trivial),yF _ _ _ _ _ rfl],rfl,i,m⟩
       case measure=>rw[pX,pX];have:=n.out.2;omega
  ·have H:ah (cu s [] st=(0,⟨c,true⟩)):=hS.trans (yF s [] k pre ⟨c,true⟩ rfl);by_cases x:pre.length<15
   ·clear hS d;go_wp2
    go_ret;exact⟨jf (by rw[H.out];rfl),by rw[H.out];exact a.vk true,f.setCell 2 _⟩
   ·clear hS d;go_wp2
    go_ret;exact⟨jf (by rw[H.out];rfl),by rw[H.out];exact a.vk true,f.setCell 2 _⟩
theorem AP(b:Nat)(s:ByteArray)(st:bZ)(cs:List (Nat×List UInt8))(v:ay)(w:af)(d:je w b s st)(hs:s.size<=140737488351232)(f:dD w v cs)(hlen:cs.length<=1000000):
 aF prog 117 #[.pointer (some ⟨b,0,none⟩),v] w fun e w'=>e= .returned (.int .i64 (((cu s cs st).1:Nat):Int))/\je w' b s (cu s cs st).2/\kH b w w':=by
 rcases f with⟨rfl,rfl⟩|⟨g,cap,cur,rfl,_,a,c⟩
 ·exact Sv b s st w d hs
 ·exact OC b s st cs g cap cur w d hs hlen a c
theorem OD:(prog.info? 5).map (fun i=>(i.zero,i.size,i.bytes))=some (some (.int .u8 0),1,1):=by kernel_rfl
def byteCells(L:List UInt8):List ay:=L.map fun(x:UInt8)=> .int .u8 ((x.toNat:Nat):Int)
theorem jw(L:List UInt8)(x:UInt8):byteCells (L++[x])=byteCells L++[.int .u8 ((x.toNat:Nat):Int)]:=by simp[byteCells]
theorem Em{wr:af}{ops:Array Oper}{rest:List Oper}{o:Oper}{a:Act}{Q:Exit->Act->af->Prop}(d:o.guard=none)(s x:Operand)
 (i:o.op= .call {callee:= .builtin .append,args:= #[s,x],argTypes:= #[45,45]}) (base:Nat) (v:ay) (n:Nat) (xs:List ay) (z:Int)
 (b:wr.ownsRow base 5 1 v n xs) (hs:a.eval s=v) (hx:a.eval x= .slice (some ⟨wr.heap.size,0,none⟩) 1 1) (p:n<=100000000) (hb:base<=wr.heap.size)
 (h:∀v' w',w'.ownsRow base 5 1 v' (n+1) (xs++[.int .u8 z])->(wr.alloc (.cells #[.int .u8 z] 5)).grownBy w' v.ownBlock->wpList prog ops Q rest (a.put o.dst v') w'):
 wpList prog ops Q (o::rest) a (wr.alloc (.cells #[.int .u8 z] 5)):=by
 obtain⟨k,hi,e,f,g⟩:=info_parts OD;refine xY _ d s x 45 i base 5 k (.int .u8 0) 1 1 underlying45 hi e f g rfl (by decide) v n xs hs (b.alloc _) ⟨wr.heap.size,0,none⟩ 1 1 [.int .u8 z] hx rfl ?_ ?_ ?_ ?_ ?_ ?_
 ·intro j u c;match j,c with
  |0,c=>simp at c;subst c;simp[Addr.add]
 ·intro u hu;simp at hu;subst hu;rfl
 ·unfold maxLen;omega
 ·omega
 ·simp;omega
 ·intro v' w' l m _;exact h v' w' l m
structure nO(base rb ub:Nat)(w w':af):Prop where
 os:w'.os=w.os
 tape:w'.tape=w.tape
 output:w'.output=w.output
 size:w.heap.size<=w'.heap.size
 low:∀k,k<base->k≠rb->k≠ub->w'.heap[k]?=w.heap[k]?
 other:∀k cur T f,w.heap[k]?=some (.cells cur T f)->T≠5->k≠rb->k≠ub->w'.heap[k]?=w.heap[k]?
theorem nO.refl(base rb ub:Nat)(w:af):nO base rb ub w w:=⟨rfl,rfl,rfl,ag _,fun _ _ _ _=>rfl,fun _ _ _ _ _ _ _ _=>rfl⟩
theorem nO.trans{base rb ub:Nat}{u v w:af}(h:nO base rb ub u v)(k:nO base rb ub v w):nO base rb ub u w:=
 ⟨k.os.trans h.os,k.tape.trans h.tape,k.output.trans h.output,aK h.size k.size,fun i a b c=>(k.low i a b c).trans (h.low i a b c),
  fun i cur T f e d a b=>by have g:=h.other i cur T f e d a b;exact(k.other i cur T f (g.trans e) d a b).trans g⟩
theorem nO.drewN{base rb ub:Nat}{u v:af}(h:nO base rb ub u v)(n:Nat):nO base rb ub u (v.drewN n):=⟨h.os,h.tape,h.output,h.size,h.low,h.other⟩
theorem nO.set{base rb ub:Nat}{u v:af}(h:nO base rb ub u v)(b o:Nat)(hb:b=rb\/b=ub)(x:ay):nO base rb ub u (v.setCell ⟨b,o,none⟩ x):=
 ⟨h.os,h.tape,h.output,by simpa using h.size,
  fun k a e f=>(iy v ⟨b,o,none⟩ x k (by rcases hb with rfl|rfl<;>assumption)).trans (h.low k a e f),
  fun k cur T f e d a c=>(iy v ⟨b,o,none⟩ x k (by rcases hb with rfl|rfl<;>assumption)).trans (h.other k cur T f e d a c)⟩
theorem kH.vw{base rb ub:Nat}{w w':af}(h:kH rb w w'):nO base rb ub w w':=
 ⟨h.os,h.tape,h.output,Nat.le_of_eq h.size.symm,fun k _ a _=>h.block k a,fun k _ _ _ _ _ a _=>h.block k a⟩
def sZ(w:af)(base rb ub:Nat)(s:ByteArray)(aN most:Nat)(u:US):Prop:=
 je w rb s u.st/\rb<base/\ub<base/\rb≠ub/\base<=w.heap.size/\u.out.length<=most/\
 ∃v,w.heap[ub]?=some (.cells #[.pointer (some ⟨rb,0,none⟩),v,.int .i64 (aN:Int),.int .i64 (most:Int)] 93 (0,0))/\w.ownsRow base 5 1 v u.out.length (byteCells u.out)
theorem sZ.row{w w':af}{base rb ub aN most:Nat}{s:ByteArray}{u:US}(h:sZ w base rb ub s aN most u)(c:kH rb w w')(st:bZ)(d:je w' rb s st):sZ w' base rb ub s aN most ⟨st,u.out⟩:=by
 obtain⟨_,e,f,h3,i,j,v,h6,k⟩:=h;refine⟨d,e,f,h3,by rw[c.size];exact i,j,v,(c.block ub (r_ h3)).trans h6,?_⟩;obtain⟨a,b⟩:=k;refine⟨a,?_⟩;rcases b with b|⟨g,cap,cur,l,m,n,r⟩
 ·exact .inl b
 ·exact .inr ⟨g,cap,cur,l,m,(c.block g (by omega)).trans n,r⟩
theorem kX{w:af}{base e size n:Nat}{v:ay}{xs:List ay}(h:w.ownsRow base e size v (n+1) xs):∃g cap,v= .slice (some ⟨g,0,none⟩) (n+1) cap:=by
 rcases h.2 with h|⟨g,cap,_,h,_⟩
 ·omega
 ·exact⟨g,cap,h⟩
theorem uD{wr w':af}{nN:Obj}{row:Option Nat}{k:Nat}{cur:Array ay}{T:aY}(b:(wr.alloc nN).grownBy w' row)(h:wr.heap[k]?=some (.cells cur T (0,0)))(a:some k≠row):
 w'.heap[k]?=some (.cells cur T (0,0))/\∀o,w'.frozen? ⟨k,o,none⟩=false:=by
 have c:=rJ h;have e:w'.heap[k]?=some (.cells cur T (0,0)):=((b.block k (by simp;omega) a).trans (aj wr nN k c)).trans h;exact⟨e,fun o=>by simp[World.frozen?,e]⟩
theorem Vo{w w1:af}{base rb ub aN most:Nat}{s:ByteArray}{st:bZ}{out:List UInt8}{x:UInt8}{v v':ay}{nN:Obj}{t:Nat}(nq:Nat)
 (y:sZ w base rb ub s aN most ⟨st,out⟩) (j:w.heap[ub]?=some (.cells #[.pointer (some ⟨rb,0,none⟩),v,.int .i64 (aN:Int),.int .i64 (most:Int)] 93 (0,0)))
 (h:w.ownsRow base 5 1 v out.length (byteCells out)) (l:((w.drewN nq).alloc nN).grownBy w1 v.ownBlock) (z:t=out.length+1)
 (i:w1.ownsRow base 5 1 v' t (byteCells out++[.int .u8 ((x.toNat:Nat):Int)])) (A:out.length<most):
 sZ (w1.setCell ⟨ub,1,none⟩ v') base rb ub s aN most ⟨st,out++[x]⟩/\nO base rb ub w (w1.setCell ⟨ub,1,none⟩ v'):=by
 subst z;obtain⟨B,u,o,h3,E,_,_⟩:=y;have c:∀k,k<w.heap.size->some k≠v.ownBlock->w1.heap[k]?=w.heap[k]?:=fun k m p=>(l.block k (by simp;exact Nat.lt_succ_of_lt m) p).trans (aj (w.drewN nq) nN k m)
 have d:∀k,k<base->w1.heap[k]?=w.heap[k]?:=fun k m=>c k (by omega) (fun e=>by have:=(h.lt k e.symm).1;omega);have q:w.heap.size<=w1.heap.size:=by have:=l.size;simp at this;exact Nat.le_of_succ_le this
 refine⟨⟨?_,u,o,h3,by simp;omega,by simp;omega,v',?_,?_⟩,⟨l.os,l.tape,l.output,by simpa using q,?_,?_⟩⟩
 ·exact B.over ((iy w1 ⟨ub,1,none⟩ v' rb h3).trans (d rb u))
 ·have:=(d ub o).trans j;simp[World.setCell,Array.getElem?_modify,this]
 ·have:=ownsRow_setCell_below i (a:=⟨ub,1,none⟩) o v';rw[jw,bQ];exact this
 ·intro k m a b;exact(iy w1 ⟨ub,1,none⟩ v' k b).trans (d k m)
 ·intro k cur T f e C a b;refine(iy w1 ⟨ub,1,none⟩ v' k b).trans (c k (Array.getElem?_eq_some_iff.1 e).1 ?_);intro n;rcases h.2 with⟨r,_⟩|⟨g,cap,F,r,_,D,_⟩
  ·rw[r]at n;simp[Value.ownBlock]at n
  ·rw[r]at n;simp[Value.ownBlock]at n;subst n;rw[D]at e;simp at e;exact C e.2.1.symm
theorem Sz(base rb ub:Nat)(s:ByteArray)(aN most:Nat)(u:US)(x:UInt8)(w:af)(B:sZ w base rb ub s aN most u)(hm:most<=16777216):
 aF prog 115 #[.pointer (some ⟨ub,0,none⟩),.int .u8 ((x.toNat:Nat):Int)] w fun e w'=>e= .returned (.tuple #[])/\sZ w' base rb ub s aN most (mQ most x u)/\nO base rb ub w w':=by
 have j:=B;obtain⟨n,D,E,F,o,G,v,b,i⟩:=B;have H:w.cell? ⟨ub,0,none⟩=some (.pointer (some ⟨rb,0,none⟩)):=by simp[World.cell?,b]
 have I:w.cell? ⟨ub,1,none⟩=some v:=by simp[World.cell?,b]
 have J:w.cell? ⟨ub,3,none⟩=some (.int .i64 (most:Int)):=by simp[World.cell?,b]
 have K:=n.c2;have L:=n.free 2;obtain⟨⟨p,dA⟩,out⟩:=u;by_cases h:most<=out.length
 ·have l:ah (mQ most x ⟨⟨p,dA⟩,out⟩=⟨⟨p,true⟩,out⟩):=rG most x _ h;obtain⟨_,d⟩:=i;rcases d with⟨rfl,d⟩|⟨g,cap,cur,rfl,d⟩
  ·have q:out.length=0:=d;go_enter func115,ntmps115
   go_wp2
   go_quiet (fail)
   go_wp2
   go_end0
   exact⟨rfl,by rw[l.out];exact j.row (((kH.refl rb w).drewN nq).setCell 2 _) ⟨p,true⟩ ((n.drewN nq).vk true),((nO.refl base rb ub w).drewN nq).set rb 2 (.inl rfl) _⟩
  ·clear d;go_enter func115,ntmps115
   go_wp2
   go_quiet (fail)
   go_wp2
   go_end0
   exact⟨rfl,by rw[l.out];exact j.row (((kH.refl rb w).drewN nq).setCell 2 _) ⟨p,true⟩ ((n.drewN nq).vk true),((nO.refl base rb ub w).drewN nq).set rb 2 (.inl rfl) _⟩
 ·cases dA
  ·have l:ah (mQ most x ⟨⟨p,false⟩,out⟩=⟨⟨p,false⟩,out++[x]⟩):=tX most x _ h rfl;have c:=i;have m:out.length<most:=by omega
   have r:out.length<=100000000:=by omega
   obtain⟨_,d⟩:=i;rcases d with⟨rfl,d⟩|⟨g,cap,cur,rfl,d⟩
   ·have q:out.length=0:=d;go_enter func115,ntmps115
    go_wp2
    go_quiet (fail)
    go_wp2_with (first
     |(at_builtin;refine Em rfl _ _ rfl base _ out.length (byteCells out) ((x.toNat:Nat):Int) (show(w.drewN nq).ownsRow _ _ _ _ _ _ from c) rfl rfl r o ?_;go_must (intro v' w1 a t;obtain⟨M,y,rfl⟩:=kX a;have k:=uD t (show(w.drewN nq).heap[ub]?=_ from b) (by simp[Value.ownBlock]);have z:=k.2 1;have A:w1.cell? ⟨ub,1,none⟩=some (.slice none 0 0):=by rw[iR k.1 1];rfl))
     |go_in)
    go_end0
    have C:out.length+1=1:=by omega
    rw[C]at a;have f:=Vo nq j b c t C.symm a m;exact⟨rfl,by rw[l.out];exact f.1,f.2⟩
   ·have N:base<=g:=d.1;go_enter func115,ntmps115
    go_wp2
    go_quiet (fail)
    go_wp2_with (first
     |(at_builtin;refine Em rfl _ _ rfl base _ out.length (byteCells out) ((x.toNat:Nat):Int) (show(w.drewN nq).ownsRow _ _ _ _ _ _ from c) rfl rfl r o ?_;go_must (intro v' w1 a t;obtain⟨M,y,rfl⟩:=kX a;have k:=uD t (show(w.drewN nq).heap[ub]?=_ from b) (by simp[Value.ownBlock];omega);have z:=k.2 1;have A:w1.cell? ⟨ub,1,none⟩=some (.slice (some ⟨g,0,none⟩) out.length cap):=by rw[iR k.1 1];rfl))
     |go_in)
    go_end0
    have f:=Vo nq j b c t rfl a m;exact⟨rfl,by rw[l.out];exact f.1,f.2⟩
  ·have l:ah (mQ most x ⟨⟨p,true⟩,out⟩=⟨⟨p,true⟩,out⟩):=BH most x _ h rfl;obtain⟨_,d⟩:=i;rcases d with⟨rfl,d⟩|⟨g,cap,cur,rfl,d⟩
   ·have q:out.length=0:=d;go_enter func115,ntmps115
    go_wp2
    go_quiet (fail)
    go_wp2
    go_end0
    exact⟨rfl,by rw[l.out];exact j.row ((kH.refl rb w).drewN nq) ⟨p,true⟩ (n.drewN nq),(nO.refl base rb ub w).drewN nq⟩
   ·clear d;go_enter func115,ntmps115
    go_wp2
    go_quiet (fail)
    go_wp2
    go_end0
    exact⟨rfl,by rw[l.out];exact j.row ((kH.refl rb w).drewN nq) ⟨p,true⟩ (n.drewN nq),(nO.refl base rb ub w).drewN nq⟩
theorem Md(base rb ub:Nat)(s:ByteArray)(aN most:Nat)(u:US)(x:UInt8)(a:Int)(b:((x.toNat:Nat):Int)=a)(w:af)(c:sZ w base rb ub s aN most u)(hm:most<=16777216):
 aF prog 115 #[.pointer (some ⟨ub,0,none⟩),.int .u8 a] w fun e w'=>e= .returned (.tuple #[])/\sZ w' base rb ub s aN most (mQ most x u)/\nO base rb ub w w':=by
 subst b;exact Sz base rb ub s aN most u x w c hm
end kW
namespace h_
open Go.RowKit Rf
def aT(s:ByteArray)(i:Nat):Nat:=16777216*aA s i+65536*aA s (i+1)+256*aA s (i+2)+aA s (i+3)
theorem fC(s:ByteArray)(i:Nat):aA s i<256:=by unfold aA;exact BA _
theorem fV(s:ByteArray)(i:Nat):aT s i<4294967296:=by have a:=fC s i;have b:=fC s (i+1);have c:=fC s (i+2);have h3:=fC s (i+3);unfold aT;omega
theorem yH(s:ByteArray)(w:af)(h:4<=s.size):
 aF prog 90 #[.string s] w fun e w'=>e= .returned (.int .i64 (aT s 0:Int))/\∃nq,w'=w.drewN nq:=by
 have g:0<s.size:=by omega
 have i:1<s.size:=by omega
 have j:2<s.size:=by omega
 have k:3<s.size:=by omega
 have l:=(dL s 0 g).symm;have m:=(dL s 1 i).symm;have n:=(dL s 2 j).symm;have o:=(dL s 3 k).symm;have p:=fC s 0;have q:=fC s 1;have r:=fC s 2;have h3:=fC s 3;have a:ah (aT s 0=16777216*aA s 0+65536*aA s 1+256*aA s 2+aA s 3):=rfl;rw[a.out];clear a h;generalize aA s 0=b at*;generalize aA s 1=c at*;generalize aA s 2=d at*;generalize aA s 3=f at*;go_enter func90,ntmps90
 go_wp2
 go_quiet (fail)
 go_wp2
 go_ret;exact⟨by rw[show((16777216*b+65536*c+256*d+f:Nat):Int)=16777216*(b:Int)+65536*(c:Int)+256*(d:Int)+(f:Int)by omega];rfl,_,rfl⟩
def manyN(a d n:Nat):Nat:=if n<=a then 0 else(n-a-1)/d+1
theorem FD(a d n:Nat)(w:af)(hd:1<=d)(g:a<=100)(i:n<=4294967296):
 aF prog 96 #[.int .i64 (a:Int),.int .i64 (d:Int),.int .i64 (n:Int)] w fun e w'=>e= .returned (.int .i64 (manyN a d n:Int))/\w'=w:=by
 by_cases h:n<=a
 ·have b:ah (manyN a d n=0):=(by unfold manyN;rw[aC h]:_=_);rw[b.out];go_enter func96,ntmps96
  go_wp2
  go_ret;exact⟨rfl,rfl⟩
 ·have b:ah ((manyN a d n:Int)=((n:Int)-(a:Int)-1)/(d:Int)+1):=(by
   unfold manyN;rw[au h];have:(n:Int)-(a:Int)-1=((n-a-1:Nat):Int):=by omega
   rw[this];simp:_=_)
  have j:((n:Int)-(a:Int)-1)/(d:Int)<=4294967296:=by
   have c:((n:Int)-(a:Int)-1)=((n-a-1:Nat):Int):=by omega
   have k:(n-a-1)/d<=n-a-1:=qy _ _;rw[c];have:(((n-a-1:Nat):Int)/(d:Int))=(((n-a-1)/d:Nat):Int):=by simp
   rw[this];omega
  have f:0<=((n:Int)-(a:Int)-1)/(d:Int):=Int.ediv_nonneg (by omega) (by omega);rw[b.out];go_enter func96,ntmps96
  go_wp2
  go_ret;exact⟨rfl,rfl⟩
def mg(a b:Int):Int:=if a<b then b-a else a-b
theorem Me(a b:Int)(w:af)(d: -1000<=a)(f:a<=1000)(g: -1000<=b)(h3:b<=1000):
 aF prog 167 #[.int .i64 a,.int .i64 b] w fun e w'=>e= .returned (.int .i64 (mg a b))/\w'=w:=by
 by_cases h:a<b
 ·have c:ah (mg a b=b-a):=(by unfold mg;rw[aC h]:_=_);rw[c.out];go_enter func167,ntmps167
  go_wp2
  go_ret;exact⟨rfl,rfl⟩
 ·have c:ah (mg a b=a-b):=(by unfold mg;rw[au h]:_=_);rw[c.out];go_enter func167,ntmps167
  go_wp2
  go_ret;exact⟨rfl,rfl⟩
def iT(f l a c:Nat):Nat:=
 if f=1 then l else if f=2 then a else if f=3 then(l+a)/2 else if f=4 then
  (if mg ((l:Int)+a-c) l<=mg ((l:Int)+a-c) a/\mg ((l:Int)+a-c) l<=mg ((l:Int)+a-c) c then l else if mg ((l:Int)+a-c) a<=mg ((l:Int)+a-c) c then a else c)
 else 0
theorem uq(f l a c:Nat)(b:l<=255)(d:a<=255)(e:c<=255):iT f l a c<=255:=by
 unfold iT;repeat' split
 all_goals omega
theorem JW(f l a c:Nat)(w:af)(t:f<=255)(u:l<=255)(v:a<=255)(x:c<=255):
 aF prog 129 #[.int .i64 (f:Int),.int .i64 (l:Int),.int .i64 (a:Int),.int .i64 (c:Int)] w fun e w'=>e= .returned (.int .i64 (iT f l a c:Int))/\∃nq,w'=w.drewN nq:=by
 rcases(by omega:f=1\/f=2\/f=3\/f=4\/(f≠1/\f≠2/\f≠3/\f≠4))with rfl|rfl|rfl|rfl|g
 ·go_enter func129,ntmps129
  go_wp2_with fail
  go_ret;exact⟨rfl,0,rfl⟩
 ·go_enter func129,ntmps129
  go_wp2_with fail
  go_ret;exact⟨rfl,0,rfl⟩
 ·have j:ah ((iT 3 l a c:Int)=((l:Int)+(a:Int))/2):=(by show(((l+a)/2:Nat):Int)=_;omega:_=_);rw[j.out];go_enter func129,ntmps129
  go_wp2_with fail
  go_ret;exact⟨rfl,0,rfl⟩
 ·have j:ah (iT 4 l a c=(if mg ((l:Int)+a-c) l<=mg ((l:Int)+a-c) a/\mg ((l:Int)+a-c) l<=mg ((l:Int)+a-c) c then l else if mg ((l:Int)+a-c) a<=mg ((l:Int)+a-c) c then a else c)):=rfl;have o:=fun w'=>Me ((l:Int)+a-c) l w' (by omega) (by omega) (by omega) (by omega);have p:=fun w'=>Me ((l:Int)+a-c) a w' (by omega) (by omega) (by omega) (by omega);have q:=fun w'=>Me ((l:Int)+a-c) c w' (by omega) (by omega) (by omega) (by omega);rw[j.out];generalize mg ((l:Int)+a-c) l=gl at*;generalize mg ((l:Int)+a-c) a=n at*;generalize mg ((l:Int)+a-c) c=gc at*;clear j;have k:ah _:=o;have i:ah _:=p;have m:ah _:=q;clear o p q;by_cases r:gl<=n
  ·by_cases s:gl<=gc
   ·rw[aC ⟨r,s⟩];go_enter func129,ntmps129
    go_wp2_with fail
    refine(k.out _).mono ?_;rintro e d ⟨rfl,b⟩;have b:=b.symm;subst b;go_wp2_with fail
    refine(i.out _).mono ?_;rintro e d ⟨rfl,b⟩;have b:=b.symm;subst b;go_wp2_with fail
    refine(k.out _).mono ?_;rintro e d ⟨rfl,b⟩;have b:=b.symm;subst b;go_wp2_with fail
    refine(m.out _).mono ?_;rintro e d ⟨rfl,b⟩;have b:=b.symm;subst b;go_wp2_with fail
    go_ret;exact⟨rfl,0,rfl⟩
   ·rw[au (fun h=>s h.2)];by_cases h3:n<=gc
    ·exfalso;omega
    ·rw[au h3];go_enter func129,ntmps129
     go_wp2_with fail
     refine(k.out _).mono ?_;rintro e d ⟨rfl,b⟩;have b:=b.symm;subst b;go_wp2_with fail
     refine(i.out _).mono ?_;rintro e d ⟨rfl,b⟩;have b:=b.symm;subst b;go_wp2_with fail
     refine(k.out _).mono ?_;rintro e d ⟨rfl,b⟩;have b:=b.symm;subst b;go_wp2_with fail
     refine(m.out _).mono ?_;rintro e d ⟨rfl,b⟩;have b:=b.symm;subst b;go_wp2_with fail
     refine(i.out _).mono ?_;rintro e d ⟨rfl,b⟩;have b:=b.symm;subst b;go_wp2_with fail
     refine(m.out _).mono ?_;rintro e d ⟨rfl,b⟩;have b:=b.symm;subst b;go_wp2_with fail
     go_ret;exact⟨rfl,0,rfl⟩
  ·rw[au (fun h=>r h.1)];by_cases h3:n<=gc
   ·rw[aC h3];go_enter func129,ntmps129
    go_wp2_with fail
    refine(k.out _).mono ?_;rintro e d ⟨rfl,b⟩;have b:=b.symm;subst b;go_wp2_with fail
    refine(i.out _).mono ?_;rintro e d ⟨rfl,b⟩;have b:=b.symm;subst b;go_wp2_with fail
    refine(i.out _).mono ?_;rintro e d ⟨rfl,b⟩;have b:=b.symm;subst b;go_wp2_with fail
    refine(m.out _).mono ?_;rintro e d ⟨rfl,b⟩;have b:=b.symm;subst b;go_wp2_with fail
    go_ret;exact⟨rfl,0,rfl⟩
   ·rw[au h3];go_enter func129,ntmps129
    go_wp2_with fail
    refine(k.out _).mono ?_;rintro e d ⟨rfl,b⟩;have b:=b.symm;subst b;go_wp2_with fail
    refine(i.out _).mono ?_;rintro e d ⟨rfl,b⟩;have b:=b.symm;subst b;go_wp2_with fail
    refine(i.out _).mono ?_;rintro e d ⟨rfl,b⟩;have b:=b.symm;subst b;go_wp2_with fail
    refine(m.out _).mono ?_;rintro e d ⟨rfl,b⟩;have b:=b.symm;subst b;go_wp2_with fail
    go_ret;exact⟨rfl,0,rfl⟩
 ·have j:ah (iT f l a c=0):=(by unfold iT;rw[au g.1,au g.2.1,au g.2.2.1,au g.2.2.2]:_=_);have y:((f:Int)==1)=false:=by rw[ax];omega
  have z:((f:Int)==2)=false:=by rw[ax];omega
  have d3:((f:Int)==3)=false:=by rw[ax];omega
  have A:((f:Int)==4)=false:=by rw[ax];omega
  rw[j.out];clear g;go_enter func129,ntmps129
  go_wp2_with fail
  go_ret;exact⟨rfl,0,rfl⟩
open kW (jW nJ tZ pW kX)
def FH(f d:Nat)(s:ByteArray)(a_ o:List Nat)(i:Nat):Nat:=
 (aA s i+iT f (if d<=i then o.getD (i-d) 0 else 0) (a_.getD i 0) (if d<=i then a_.getD (i-d) 0 else 0))%256
def lF(f d:Nat)(s:ByteArray)(a_:List Nat):Nat->List Nat
 |0=>[]
 |i+1=>lF f d s a_ i++[FH f d s a_ (lF f d s a_ i) i]
theorem FI(f d:Nat)(s:ByteArray)(a_:List Nat)(i:Nat):(lF f d s a_ i).length=i:=by
 induction i with
 |zero=>rfl
 |succ i a=>rw[lF,bQ,a];rfl
theorem Vp(f d:Nat)(s:ByteArray)(a_:List Nat)(i:Nat):∀x∈lF f d s a_ i,x<=255:=by
 induction i with
 |zero=>intro x hx;cases hx
 |succ i a=>
  intro x hx;rw[lF]at hx;rcases List.mem_append.1 hx with hx|hx
  ·exact a x hx
  ·rw[List.mem_singleton]at hx;subst hx;unfold FH;omega
theorem j_{L:List Nat}(h:∀x∈L,x<=255)(j:Nat):L.getD j 0<=255:=by
 rw[ak];cases e:L[j]? with
 |none=>exact aU _
 |some x=>exact h x (iP e)
def ig(w:af)(v:ay)(L:List Nat):Prop:=∃(la:Option bP) (cap:Nat),v= .slice la L.length cap/\∀i,i<L.length->∃g,la=some ⟨g,0,none⟩/\g<w.heap.size/\w.cell? ⟨g,i,none⟩=some (.int .i64 ((L.getD i 0:Nat):Int))
theorem ig.below{w w':af}{v:ay}{L:List Nat}(h:ig w v L)(hb:aJ w.heap.size w w'):ig w' v L:=by obtain⟨la,cap,e,b⟩:=h;refine⟨la,cap,e,fun i hi=> ?_⟩;obtain⟨g,c,a,d⟩:=b i hi;exact⟨g,c,bu a hb.size,(hb.cell (by exact a)).trans d⟩
theorem En{w:af}{base:Nat}{v:ay}{L:List Nat}(h:w.ownsRow base 3 1 v L.length (jW L)):ig w v L:=by
 rcases h.2 with⟨rfl,a⟩|⟨g,cap,cur,rfl,_⟩
 ·exact⟨none,0,by rw[a],fun i hi=>by omega⟩
 ·refine⟨some ⟨g,0,none⟩,cap,rfl,fun i hi=>⟨g,rfl,(h.lt g rfl).2,?_⟩⟩;refine(h.cellAt i (by omega)).trans ?_;simp[jW,List.getD_eq_getElem?_getD,List.getElem?_eq_getElem hi]
theorem FK(f d:Nat)(s:ByteArray)(av:ay)(a_:List Nat)(w:af)(hf:f<=255)(b4:1<=d)(b5:d<=8)(hs:s.size<=99999999)(hA:ig w av a_)(hl:a_.length=s.size)(C:∀x∈a_,x<=255):
 aF prog 99 #[.int .i64 (f:Int),.string s,av,.int .i64 (d:Int)] w fun e w'=> ∃v,e= .returned v/\w'.ownsRow w.heap.size 3 1 v s.size (jW (lF f d s a_ s.size))/\aJ w.heap.size w w':=by
 have HA:ah _:=hA;obtain⟨la,cap,rfl,-⟩:=hA;go_enter func99,ntmps99
 go_wp2_with fail
 go_loopw [9,10] (fun F iv wr=> ∃(i:Nat) (v:ay),i<=s.size/\iv= .int .i64 (i:Int)/\v=F/\wr.ownsRow w.heap.size 3 1 v i (jW (lF f d s a_ i))/\aJ w.heap.size w wr) (fun _ iv _=>s.size-(aX iv).toNat)
 case atStart=>exact⟨0,_,aU _,rfl,rfl,eX _ _ _ _,aP _ _⟩
 case round=>
  obtain⟨i,F,hi,rfl,rfl,b,c⟩:=hrel;by_cases a6:i<s.size;rotate_left
  ·have a7:i=s.size:=by omega
   have j:ah _:=b;have n:ah _:=c;clear b c hl;go_wp2_with fail
   go_ret;exact⟨_,rfl,by rw[<-a7];exact j.out,n.out⟩
  have R:ah (lF f d s a_ (i+1)=lF f d s a_ i++[FH f d s a_ (lF f d s a_ i) i]):=rfl;have S:=FI f d s a_ i;have H:=Vp f d s a_ i;obtain⟨I,o,e0,hc⟩:=ig.below (show ig w (.slice la a_.length cap) a_ from HA.out) c;obtain⟨T,J⟩:I=la/\o=cap:=by injection e0 with e1 _ e3;exact⟨e1.symm,e3.symm⟩
  subst T;subst J;obtain⟨g,U,b6,b7⟩:=hc i (by omega);obtain⟨a8,V,W,X⟩:=(show ig w (.slice I a_.length o) a_ from HA.out);obtain⟨rfl,rfl⟩:a8=I/\V=o:=by injection W with e1 _ e3;exact⟨e1.symm,e3.symm⟩
  obtain⟨g2,p,Y,-⟩:=X i (by omega);have b8:g<w.heap.size:=by rw[U]at p;injection p with h;injection h with h;omega
  clear p Y X W;subst U;have b9:i<a_.length:=by omega
  have D:=j_ C i;have c3:=fC s i;have c4:=(dL s i a6).symm;have G:w.heap.size<=wr.heap.size:=c.size;by_cases E:d<=i
  ·obtain⟨g',Z,_,c5⟩:=hc (i-d) (by omega);obtain rfl:g=g':=by injection Z with h;injection h
   obtain⟨q,a,rfl⟩:∃q a,F= .slice (some ⟨q,0,none⟩) i a:=by
    rcases b.2 with⟨_,h0⟩|⟨q,a,_,hv,_⟩
    ·omega
    ·exact⟨q,a,hv⟩
   have c6:wr.cell? ⟨q,i-d,none⟩=some (.int .i64 (((lF f d s a_ i).getD (i-d) 0:Nat):Int)):=by refine(b.cellAt (i-d) (by omega)).trans ?_;simp[jW,List.getD_eq_getElem?_getD,List.getElem?_eq_getElem (show i-d<(lF f d s a_ i).length by omega)]
   have a0:=j_ H (i-d);have a1:=j_ C (i-d);have r:=fun w'=>JW f ((lF f d s a_ i).getD (i-d) 0) (a_.getD i 0) (a_.getD (i-d) 0) w' hf a0 D a1;have a9:=uq f ((lF f d s a_ i).getD (i-d) 0) (a_.getD i 0) (a_.getD (i-d) 0) a0 D a1;have K:ah (FH f d s a_ (lF f d s a_ i) i=(aA s i+iT f ((lF f d s a_ i).getD (i-d) 0) (a_.getD i 0) (a_.getD (i-d) 0))%256):=(by unfold FH;rw[aC E,aC E]:_=_);have c7:(i:Int)-(d:Int)=((i-d:Nat):Int):=by omega
   have b2:i-d<i:=by omega
   have b3:i-d<a_.length:=by omega
   generalize FH f d s a_ (lF f d s a_ i) i=ub at*;generalize iT f ((lF f d s a_ i).getD (i-d) 0) (a_.getD i 0) (a_.getD (i-d) 0)=y at*;generalize (lF f d s a_ i).getD (i-d) 0=x1 at*;generalize a_.getD i 0=x2 at*;generalize a_.getD (i-d) 0=x3 at*;generalize aA s i=l at*;have z:ah ((IntKind.i64.wrap (IntKind.i64.wrap (l:Int)+(y:Int))).tmod 256=(ub:Int)):=(by
    have h1:IntKind.i64.wrap (l:Int)=(l:Int):=by rw[bK];omega
    have h2:IntKind.i64.wrap ((l:Int)+(y:Int))=(l:Int)+(y:Int):=by rw[bK];omega
    rw[h1,h2,Int.tmod_eq_emod_of_nonneg (by omega),K.out];omega:_=_)
   have L:ah _:=r;have n:ah _:=c;have j:ah _:=b;clear r c hc hl H C b S;go_wp2_with fail
   obtain⟨i0,M,N,O,P⟩:=info_parts tZ;have b0:(0:Int)<=(i:Int):=by omega
   have a2:(i:Int)<(a_.length:Int):=by omega
   have a3:(i:Int)<(s.size:Int):=by omega
   have Q:∀k,(Value.slice (some ⟨q,0,none⟩) i a).ownBlock=some k->k≠g:=fun k hk=>by have:=((show wr.ownsRow w.heap.size 3 1 (.slice (some ⟨q,0,none⟩) i a) i (jW (lF f d s a_ i))from j.out).lt k hk).1;omega
   have A:(Value.slice (some ⟨q,0,none⟩) i a).ownBlock≠some g:=fun e=>Q q rfl (by injection e)
   go_region_held3 (fun w'=>w'.cell? ⟨g,i,none⟩=some (.int .i64 (x2:Int))) (first|go_keep|(rw[B.cell_far _ (by simp;omega) (r_ A)];assumption)) (first
    |(go_at_call 129;refine(L.out _).mono ?_;rintro e w3 ⟨rfl,nq,rfl⟩)
    |((refine step_append_lies _ (by rfl) _ _ _ (by rfl) w.heap.size 3 i0 _ 1 8 underlying29 M N O P rfl (by omega) (.slice (some ⟨q,0,none⟩) i a) i (jW (lF f d s a_ i)) (by rfl) (by exact(show wr.ownsRow _ _ _ _ _ _ from j.out).alloc _) ⟨wr.heap.size,0,none⟩ 1 1 [.int .i64 ((IntKind.i64.wrap (IntKind.i64.wrap (l:Int)+(y:Int))).tmod 256)] (by rfl) rfl (World.news_of_block (cs:= #[.int .i64 ((IntKind.i64.wrap (IntKind.i64.wrap (l:Int)+(y:Int))).tmod 256)]) (t:=3) (fr:=(0,0)) (by exact aO wr _)) (by intro u hu;simp at hu;subst hu;rfl) (by omega) (by unfold maxLen;omega) (by omega) (by simp;omega) _ rfl ?_;intro ng a4 w4 m B b1 a5)))
   all_goals
    go_wp2_with fail
    go_roundw
    case rel=>refine⟨i+1,_,by omega,by go_num,rfl,?_,pW (wr:=wr.drewN _) (kW.cZ n.out) (ag _) G (show wr.ownsRow w.heap.size 3 1 (.slice (some ⟨q,0,none⟩) i a) i (jW (lF f d s a_ i))from j.out) B⟩;rw[R.out,nJ,<-z.out];exact m
    case measure=>simp[aX];omega
  ·have r:=fun w'=>JW f 0 (a_.getD i 0) 0 w' hf (by omega) D (by omega);have a9:=uq f 0 (a_.getD i 0) 0 (by omega) D (by omega);have K:ah (FH f d s a_ (lF f d s a_ i) i=(aA s i+iT f 0 (a_.getD i 0) 0)%256):=(by unfold FH;rw[au E,au E]:_=_);generalize FH f d s a_ (lF f d s a_ i) i=ub at*;generalize iT f 0 (a_.getD i 0) 0=y at*;generalize a_.getD i 0=x2 at*;generalize aA s i=l at*;have z:ah ((IntKind.i64.wrap (IntKind.i64.wrap (l:Int)+(y:Int))).tmod 256=(ub:Int)):=(by
    have h1:IntKind.i64.wrap (l:Int)=(l:Int):=by rw[bK];omega
    have h2:IntKind.i64.wrap ((l:Int)+(y:Int))=(l:Int)+(y:Int):=by rw[bK];omega
    rw[h1,h2,Int.tmod_eq_emod_of_nonneg (by omega),K.out];omega:_=_)
   have L:ah _:=r;have n:ah _:=c;have j:ah _:=b;clear r c hc hl H C b S;go_wp2_with fail
   obtain⟨i0,M,N,O,P⟩:=info_parts tZ;have b0:(0:Int)<=(i:Int):=by omega
   have a2:(i:Int)<(a_.length:Int):=by omega
   have a3:(i:Int)<(s.size:Int):=by omega
   have Q:∀k,F.ownBlock=some k->k≠g:=fun k hk=>by have:=((show wr.ownsRow w.heap.size 3 1 F i (jW (lF f d s a_ i))from j.out).lt k hk).1;omega
   have A:F.ownBlock≠some g:=fun e=>Q g e rfl
   go_region_held3 (fun w'=>w'.cell? ⟨g,i,none⟩=some (.int .i64 (x2:Int))) (first|go_keep|(rw[B.cell_far _ (by simp;omega) (r_ A)];assumption)) (first
    |(go_at_call 129;refine(L.out _).mono ?_;rintro e w3 ⟨rfl,nq,rfl⟩)
    |((refine step_append_lies _ (by rfl) _ _ _ (by rfl) w.heap.size 3 i0 _ 1 8 underlying29 M N O P rfl (by omega) F i (jW (lF f d s a_ i)) (by rfl) (by exact(show wr.ownsRow _ _ _ _ _ _ from j.out).alloc _) ⟨wr.heap.size,0,none⟩ 1 1 [.int .i64 ((IntKind.i64.wrap (IntKind.i64.wrap (l:Int)+(y:Int))).tmod 256)] (by rfl) rfl (World.news_of_block (cs:= #[.int .i64 ((IntKind.i64.wrap (IntKind.i64.wrap (l:Int)+(y:Int))).tmod 256)]) (t:=3) (fr:=(0,0)) (by exact aO wr _)) (by intro u hu;simp at hu;subst hu;rfl) (by omega) (by unfold maxLen;omega) (by omega) (by simp;omega) _ rfl ?_;intro ng a4 w4 m B b1 a5)))
   all_goals
    go_wp2_with fail
    go_roundw
    case rel=>refine⟨i+1,_,by omega,by go_num,rfl,?_,pW (wr:=wr.drewN _) (kW.cZ n.out) (ag _) G (show wr.ownsRow w.heap.size 3 1 F i (jW (lF f d s a_ i))from j.out) B⟩;rw[R.out,nJ,<-z.out];exact m
    case measure=>simp[aX];omega
end h_
namespace h_
open Go.RowKit Rf
def oQ(W H D K I:Nat):ay:= .agg #[.int .i64 (W:Int),.int .i64 (H:Int),.int .i64 (D:Int),.int .i64 (K:Int),.int .i64 (I:Int)]
def fB(K:Nat):Nat:=[1,0,3,1,2,0,4].getD K 0
theorem wI(K:Nat):fB K<=4:=by
 unfold fB;rcases(by omega:K=0\/K=1\/K=2\/K=3\/K=4\/K=5\/K=6\/7<=K)with rfl|rfl|rfl|rfl|rfl|rfl|rfl|h;all_goals first|decide|skip
 rw[ak,fE (by simpa using h)];decide
theorem vJ(W H D K I:Nat)(w:af)(hK:K<=6):
 aF prog 98 #[oQ W H D K I] w fun e w'=>e= .returned (.int .i64 (fB K:Int))/\aJ w.heap.size w w':=by
 unfold oQ;rcases(by omega:K=0\/K=1\/K=2\/K=3\/K=4\/K=5\/K=6)with rfl|rfl|rfl|rfl|rfl|rfl|rfl
 all_goals
  go_enter func98,ntmps98
  go_wp2_with fail
  go_ret;exact⟨rfl,((aP _ _).alloc (ag _) _).alloc (by simp) _⟩
def uF(D K px:Nat):Nat:=(px*fB K*D+7)/8
theorem BL(W H D K I px:Nat)(w:af)(hK:K<=6)(hD:D<=16)(hp:px<=4294967296):
 aF prog 97 #[oQ W H D K I,.int .i64 (px:Int)] w fun e w'=>e= .returned (.int .i64 (uF D K px:Int))/\aJ w.heap.size w w':=by
 have hs:=fun w'=>vJ W H D K I w' hK;have hle:=wI K;have f:px*fB K<=4294967296*4:=bT hp hle;have i:px*fB K*D<=4294967296*4*16:=bT f hD;have g:ah ((uF D K px:Int)=((px:Int)*(fB K:Int)*(D:Int)+7)/8):=(by
  have:((px:Int)*(fB K:Int)*(D:Int))=((px*fB K*D:Nat):Int):=by simp
  rw[this];unfold uF;omega:_=_)
 have c:((px:Int)*(fB K:Int))=((px*fB K:Nat):Int):=by simp
 have d:((px:Int)*(fB K:Int)*(D:Int))=((px*fB K*D:Nat):Int):=by simp
 have n:(px:Int)*(fB K:Int)<=17179869184:=by rw[c];omega
 have j:(px:Int)*(fB K:Int)*(D:Int)<=274877906944:=by rw[d];omega
 have o:0<=(px:Int)*(fB K:Int):=by rw[c];omega
 have k:0<=(px:Int)*(fB K:Int)*(D:Int):=by rw[d];omega
 rw[g.out];clear c d f i g;generalize fB K=b at*;unfold oQ at hs|-;obtain⟨m,a⟩:∃m,m=(px:Int)*(b:Int)*(D:Int):=⟨_,rfl⟩;rw[<-a];have h:ah (m=(px:Int)*(b:Int)*(D:Int)):=a;clear a;go_enter func97,ntmps97
 go_wp2_with fail
 go_region_held3 (fun w'=>w'.cell? ⟨w.heap.size,0,none⟩=some (.int .i64 (W:Int))/\w'.cell? ⟨w.heap.size,1,none⟩=some (.int .i64 (H:Int))/\w'.cell? ⟨w.heap.size,2,none⟩=some (.int .i64 (D:Int))/\w'.cell? ⟨w.heap.size,3,none⟩=some (.int .i64 (K:Int))/\w'.cell? ⟨w.heap.size,4,none⟩=some (.int .i64 (I:Int)))
  (first|go_keep|(go_split_ands;refine⟨?_,?_,?_,?_,?_⟩<;>(rw[hb.cell (by simp)];assumption)))
  ((go_at_call 98;refine(hs _).mono ?_;rintro e w3 ⟨rfl,hb⟩))
 have w1:IntKind.i64.wrap ((px:Int)*(b:Int))=(px:Int)*(b:Int):=by rw[bK];omega
 have l:ah (aJ w.heap.size w w3):=((kW.cZ ((aP w.heap.size w).alloc (ag _) _)).trans (hb.mono (by simp)):aJ _ _ _);simp only[w1,<-h.out];rw[<-h.out]at j k;clear hb w1 hs;go_wp2_with fail
 go_ret;exact⟨rfl,l.out⟩
def di(x D:Nat):Nat:=x*65535/(pw D-1)%65536
theorem yI(x D:Nat)(w:af)(hx:x<=65535)(c:1<=D)(hD:D<=16):
 aF prog 130 #[.int .i64 (x:Int),.int .i64 (D:Int)] w fun e w'=>e= .returned (.int .u16 (di x D:Int))/\∃nq,w'=w.drewN nq:=by
 have f:2<=pw D:=by unfold pw;exact(b_ (by omega) c:2^1<=2^D)
 have g:pw D<=65536:=by unfold pw;exact(b_ (by omega) hD:2^D<=2^16)
 have b:=fun w'=>kW.uo D (D:Int) rfl w' hD;have d:ah ((di x D:Int)=(x:Int)*65535/((pw D:Int)-1)%65536):=(by
  unfold di;have e:((pw D:Int)-1)=((pw D-1:Nat):Int):=by omega
  rw[e];simp:_=_)
 rw[d.out];generalize pw D=p at*;clear d;go_enter func130,ntmps130
 go_wp2_with fail
 refine(b _).mono ?_;rintro e i ⟨rfl,a⟩;have a:=a.symm;subst a;clear b;have h:(p:Int)-1≠0:=by omega
 go_wp2_with fail
 go_ret;exact⟨rfl,0,rfl⟩
end h_
namespace Pr
open Go.RowKit Rf
open h_ (di)
noncomputable def wJ(K D:Nat)(pl tr:ByteArray)(ted:Bool)(X:List Nat):Option (Nat×Nat×Nat×Nat):=
 open Classical in
 if K=3 then(if pl.size<=3*X.getD 0 0 then none else some (di (aA pl (3*X.getD 0 0)) 8,di (aA pl (3*X.getD 0 0+1)) 8,di (aA pl (3*X.getD 0 0+2)) 8,if X.getD 0 0<tr.size then di (aA tr (X.getD 0 0)) 8 else 65535))
 else if K=4 then some (di (X.getD 0 0) D,di (X.getD 0 0) D,di (X.getD 0 0) D,di (X.getD 1 0) D)
 else if K=6 then some (di (X.getD 0 0) D,di (X.getD 1 0) D,di (X.getD 2 0) D,di (X.getD 3 0) D)
 else if K=0 then some (di (X.getD 0 0) D,di (X.getD 0 0) D,di (X.getD 0 0) D,if ted=true/\∀i,i<X.length->256*aA tr (2*i)+aA tr (2*i+1)=X.getD i 0 then 0 else 65535)
 else some (di (X.getD 0 0) D,di (X.getD 1 0) D,di (X.getD 2 0) D,if ted=true/\∀i,i<X.length->256*aA tr (2*i)+aA tr (2*i+1)=X.getD i 0 then 0 else 65535)
end Pr
namespace h_
open Go.RowKit Rf
def tK(row:List Nat)(i D:Nat):Nat->Nat
 |0=>0
 |k+1=>2*tK row i D k+fP (row.getD ((i*D+k)/8) 0) (7-(i*D+k)%8)
theorem OE(row:List Nat)(i D k:Nat):tK row i D k<2^k:=by
 induction k with
 |zero=>simp[tK]
 |succ k a=>
  have:fP (row.getD ((i*D+k)/8) 0) (7-(i*D+k)%8)<=1:=by unfold fP;omega
  rw[tK,iD];omega
theorem MB(row:List Nat)(i D:Nat)(v:ay)(w:af)(C:ig w v row)(hb:∀x∈row,x<=255)(hD:D<=8)(s:(i+1)*D<=8*row.length)(hi:i<=100000000)(F:row.length<=100000000):
 aF prog 100 #[v,.int .i64 (i:Int),.int .i64 (D:Int)] w fun e w'=>e= .returned (.int .i64 (tK row i D D:Int))/\∃nq,w'=w.drewN nq:=by
 have G:((D:Int)==16)=false:=by rw[ax];omega
 have H:ah _:=C;obtain⟨la,cap,rfl,-⟩:=C;have t:i*D<=800000000:=aK (bT hi hD) (by omega);have n:i*D+D<=8*row.length:=by rw[fO,tJ]at s;exact s
 obtain⟨m,d⟩:∃m,m=i*D:=⟨_,rfl⟩;have I:(i:Int)*(D:Int)=(m:Int):=by rw[d];simp
 rw[<-d]at t n;have J:ah _:=d;have K:ah _:=hb;clear s d hb;go_enter func100,ntmps100
 go_wp2_with fail
 go_loopw [7,8] (fun vv u wr=> ∃k nq:Nat,k<=D/\u= .int .i64 (k:Int)/\vv= .int .i64 (tK row i D k:Int)/\wr=w.drewN nq) (fun _ u _=>D-(aX u).toNat)
 case atStart=>exact⟨0,0,aU _,rfl,rfl,rfl⟩
 case round=>
  obtain⟨k,nq,V,rfl,rfl,c⟩:=hrel;by_cases L:k<D;rotate_left
  ·have y:k=D:=by omega
   subst y;have h:ah _:=c;clear c;go_wp2_with fail
   go_ret;exact⟨rfl,nq,h.out⟩
  have M:ah (tK row i D (k+1)=2*tK row i D k+fP (row.getD ((m+k)/8) 0) (7-(m+k)%8)):=(by rw[J.out];rfl:_=_);have N:tK row i D k<256:=bu (OE row i D k) (b_ (by omega) (show k<=8 by omega):2^k<=2^8);obtain⟨z,o,O,E⟩:=(show ig w (.slice la row.length cap) row from H.out);obtain⟨A,p⟩:z=la/\o=cap:=by injection O with P _ Q;exact⟨P.symm,Q.symm⟩
  subst A;subst p;obtain⟨g,B,R,q⟩:=E ((m+k)/8) (by omega);subst B;have S:wr.cell? ⟨g,(m+k)/8,none⟩=some (.int .i64 ((row.getD ((m+k)/8) 0:Nat):Int)):=by rw[c];exact q
  have j:=j_ K.out ((m+k)/8);have f:=fun(a b:Int) w' T hb=>kW.Vm a b (row.getD ((m+k)/8) 0) (7-(m+k)%8) T hb w' j (by omega);have U:fP (row.getD ((m+k)/8) 0) (7-(m+k)%8)<=1:=by unfold fP;omega
  generalize fP (row.getD ((m+k)/8) 0) (7-(m+k)%8)=bv at*;generalize row.getD ((m+k)/8) 0=W at*;generalize tK row i D k=X at*;have r:ah _:=f;have h:ah _:=c;clear f c E q;go_wp2_with fail
  refine(r.out _ _ _ rfl (by omega)).mono ?_;rintro e Y ⟨rfl,l⟩;have l:=l.symm;subst l;go_wp2_with fail
  go_roundw
  case rel=>exact⟨k+1,nq,by omega,by go_num,by rw[M.out];go_num,h.out⟩
  case measure=>simp[aX];omega
theorem MC(row:List Nat)(i:Nat)(v:ay)(w:af)(j:ig w v row)(hb:∀x∈row,x<=255)(k:2*i+1<row.length)(l:row.length<=100000000):
 aF prog 100 #[v,.int .i64 (i:Int),.int .i64 16] w fun e w'=>e= .returned (.int .i64 ((256*row.getD (2*i) 0+row.getD (2*i+1) 0:Nat):Int))/\∃nq,w'=w.drewN nq:=by
 obtain⟨la,cap,rfl,b⟩:=j;obtain⟨g,c,m,o⟩:=b (2*i) (by omega);obtain⟨n,a,_,p⟩:=b (2*i+1) k;subst c;obtain rfl:g=n:=by injection a with h;injection h
 have q:=j_ hb (2*i);have r:=j_ hb (2*i+1);generalize row.getD (2*i) 0=d at*;generalize row.getD (2*i+1) 0=f at*;clear b a hb;go_enter func100,ntmps100
 go_wp2_with fail
 go_quiet (fail)
 go_wp2_with fail
 go_ret;exact⟨by rw[show((256*d+f:Nat):Int)=256*(d:Int)+(f:Int)by omega];rfl,_,rfl⟩
end h_
namespace Pr
open h_ (iT)
structure lC where
 x:Nat
 sx:Nat
 y:Nat
 sy:Nat
 W:Nat
 H:Nat
abbrev DV:Type:=Nat×Nat×Nat×Nat
structure wW where
 parts:List lC
 bits:Nat
 W:Nat
 px:List Nat->Nat->Option DV
def G_(dM:List Nat)(o:Nat)(q:DV):List Nat:=(((dM.set o q.1).set (o+1) q.2.1).set (o+2) q.2.2.1).set (o+3) q.2.2.2
theorem Qe(dM:List Nat)(o:Nat)(q:DV):(G_ dM o q).length=dM.length:=by simp[G_]
def eG(px:Nat->Option DV)(pos:Nat->Nat):Nat->Nat->List Nat->Option (List Nat)
 |0,_,dM=>some dM
 |k+1,i,dM=>(px i).bind fun q=>eG px pos k (i+1) (G_ dM (pos i) q)
theorem xK(px:Nat->Option DV)(pos:Nat->Nat)(k i:Nat)(dM a:List Nat)(h:eG px pos k i dM=some a):a.length=dM.length:=by
 induction k generalizing i dM with
 |zero=>simp[eG]at h;rw[h]
 |succ k b=>
  rw[eG]at h;cases e:px i with
  |none=>rw[e]at h;simp at h
  |some q=>rw[e]at h;have:=b _ _ h;rw[Qe]at this;exact this
theorem xM(px:Nat->Option DV)(pos:Nat->Nat)(a b i:Nat)(dM:List Nat):eG px pos (a+b) i dM=(eG px pos a i dM).bind (eG px pos b (i+a)):=by
 induction a generalizing i dM with
 |zero=>simp[eG]
 |succ a c=>
  rw[show a+1+b=(a+b)+1 by omega,eG,eG];cases px i with
  |none=>rfl
  |some q=>simp only[Option.bind_some];rw[c,show i+1+a=i+(a+1)by omega]
theorem Qg(p q:Nat->Option DV)(pos:Nat->Nat)(k i:Nat)(dM:List Nat)(h:∀j,i<=j->j<i+k->p j=q j):eG p pos k i dM=eG q pos k i dM:=by
 induction k generalizing i dM with
 |zero=>rfl
 |succ k a=>
  rw[eG,eG,h i (ag _) (by omega)];congr 1
  funext z
  exact a _ _ (fun j b c=>h j (by omega) (by omega))
def bY(bits W:Nat):Nat:=(W*bits+7)/8
def aQ(bits:Nat):Nat:=max 1 (bits/8)
def qN(W:Nat)(t:lC)(y i:Nat):Nat:=4*((t.y+y*t.sy)*W+t.x+i*t.sx)
def wX(P:wW)(t:lC)(y:Nat)(a dM:List Nat):Option (List Nat):=
 eG (P.px a) (qN P.W t y) (min (8*a.length/P.bits) t.W-8*(a.length-1)/P.bits) (8*(a.length-1)/P.bits) dM
structure eU where
 pt:Nat
 y:Nat
 told:Nat
 now:List Nat
 rq:List Nat
 at':Nat
 f:Nat
 dM:List Nat
def tq(P:wW)(st:eU):eU:=
 match P.parts[st.pt]? with
 |some t=>{st with now:=List.replicate (aQ P.bits+bY P.bits t.W) 0,rq:=List.replicate (aQ P.bits+bY P.bits t.W) 0,at':=0,f:=0}
 |none=>st
def lH(P:wW)(t:lC)(st:eU):eU:=
 if st.y+1<t.H then {st with told:=st.told+1,y:=st.y+1,now:=st.rq,rq:=st.now,at':=0}
 else tq P {st with told:=st.told+1,pt:=st.pt+1,y:=0}
def unB(st:eU)(step b:Nat):Nat:=(b+iT st.f (st.now.getD (st.at'-step) 0) (st.rq.getD st.at' 0) (st.rq.getD (st.at'-step) 0))%256
def uk(P:wW)(st:eU)(b:Nat):Option eU:=
 match P.parts[st.pt]? with
 |none=>none
 |some t=>
  if st.at'=0 then(if 4<b then none else some {st with f:=b,at':=aQ P.bits})
  else
   (wX P t st.y (((st.now.set st.at' (unB st (aQ P.bits) b)).drop (aQ P.bits)).take (st.at'+1-aQ P.bits)) st.dM).map fun a=>
     if st.at'+1=st.now.length then lH P t {st with now:=st.now.set st.at' (unB st (aQ P.bits) b),at':=st.at'+1,dM:=a}
     else {st with now:=st.now.set st.at' (unB st (aQ P.bits) b),at':=st.at'+1,dM:=a}
def n_(P:wW):List Nat->eU->Option eU
 | [],st=>some st
 |b::l,st=>(uk P st b).bind (n_ P l)
theorem qg(P:wW)(a b:List Nat)(st:eU):n_ P (a++b) st=(n_ P a st).bind (n_ P b):=by
 induction a generalizing st with
 |nil=>rfl
 |cons x a c=>
  rw[List.cons_append,n_,n_];cases uk P st x with
  |none=>rfl
  |some s=>simp only[Option.bind_some];exact c s
def Qh(f d:Nat)(s a_ o:List Nat)(i:Nat):Nat:=(s.getD i 0+iT f (if d<=i then o.getD (i-d) 0 else 0) (a_.getD i 0) (if d<=i then a_.getD (i-d) 0 else 0))%256
def pM(f d:Nat)(s a_:List Nat):Nat->List Nat
 |0=>[]
 |i+1=>pM f d s a_ i++[Qh f d s a_ (pM f d s a_ i) i]
theorem Cm(f d:Nat)(s a_:List Nat)(i:Nat):(pM f d s a_ i).length=i:=by
 induction i with
 |zero=>rfl
 |succ i a=>rw[pM,bQ,a];rfl
theorem TZ(f d:Nat)(s a_:List Nat)(i j:Nat)(h:i<=j):pM f d s a_ i<+:pM f d s a_ j:=by
 induction j with
 |zero=>rw[show i=0 by omega];exact dS _
 |succ j b=>
  rcases bU j i with a|a
  ·rw[show i=j+1 by omega];exact dS _
  ·exact(b a).trans (by rw[pM];exact List.prefix_append _ _)
def He(P:wW):Prop:=∀(r a:List Nat) (i:Nat),r<+:a->(i+1)*P.bits<=8*r.length->P.px r i=P.px a i
def qO(st:eU)(d f j:Nat)(U a:List Nat):eU:={st with f:=f,at':=d+j,now:=st.now.take d++U++st.now.drop (d+j),dM:=a}
theorem KX(Z U R:List Nat)(i:Nat)(a:Z.length<=i)(b:i<Z.length+U.length):(Z++U++R).getD i 0=U.getD (i-Z.length) 0:=by simp only[List.getD_eq_getElem?_getD];rw[dh (by simp;omega),dw a]
theorem KY(Z U R:List Nat)(i:Nat)(a:i<Z.length):(Z++U++R).getD i 0=Z.getD i 0:=by simp only[List.getD_eq_getElem?_getD];rw[dh (by simp;omega),dh a]
structure VN(P:wW)(st:eU)(t:lC)(s a_:List Nat):Prop where
 pt:P.parts[st.pt]?=some t
 len:s.length=bY P.bits t.W
 now:st.now.length=aQ P.bits+bY P.bits t.W
 nz:∀i,i<aQ P.bits->st.now.getD i 0=0
 az:∀i,i<aQ P.bits->st.rq.getD i 0=0
 ab:∀i,i<bY P.bits t.W->st.rq.getD (aQ P.bits+i) 0=a_.getD i 0
 at0:st.at'=0
theorem Qi(P:wW)(B:He P)(hb:1<=P.bits)(st:eU)(t:lC)(s a_:List Nat)(h:VN P st t s a_)(f j:Nat)(K:j<bY P.bits t.W)(a:List Nat):
 uk P (qO st (aQ P.bits) f j (pM f (aQ P.bits) s a_ j) a) (s.getD j 0)=
  (eG (P.px (pM f (aQ P.bits) s a_ (bY P.bits t.W))) (qN P.W t st.y) (min (8*(j+1)/P.bits) t.W-8*j/P.bits) (8*j/P.bits) a).map fun b=>
    if j+1=bY P.bits t.W then lH P t (qO st (aQ P.bits) f (j+1) (pM f (aQ P.bits) s a_ (j+1)) b)else qO st (aQ P.bits) f (j+1) (pM f (aQ P.bits) s a_ (j+1)) b:=by
 obtain⟨C,hs,L,D,m,z,E⟩:=h;have F:1<=aQ P.bits:=by unfold aQ;omega
 generalize hd:aQ P.bits=d at*;have c:=Cm f d s a_ j;have n:(st.now.take d).length=d:=by rw[jl];omega
 have G:∀i,i<d->(st.now.take d).getD i 0=0:=fun i hi=>by have:=D i hi;rw[ak]at this|-;rw[dU hi];exact this
 have o:(st.now.take d++pM f d s a_ j++st.now.drop (d+j)).length=d+bY P.bits t.W:=by simp[c];omega
 have p:unB (qO st d f j (pM f d s a_ j) a) d (s.getD j 0)=Qh f d s a_ (pM f d s a_ j) j:=by
  unfold unB Qh qO;dsimp only;have H:st.rq.getD (d+j) 0=a_.getD j 0:=z j (by omega);have I:st.rq.getD (d+j-d) 0=if d<=j then a_.getD (j-d) 0 else 0:=by
   rw[show d+j-d=j by omega];split
   ·next h=>rw[<-z (j-d) (by omega)];congr 1;omega
   ·next h=>exact m j (by omega)
  have J:(st.now.take d++pM f d s a_ j++st.now.drop (d+j)).getD (d+j-d) 0=if d<=j then(pM f d s a_ j).getD (j-d) 0 else 0:=by
   rw[show d+j-d=j by omega];split
   ·next h=>rw[KX _ _ _ _ (by omega) (by omega),n]
   ·next h=>rw[KY _ _ _ _ (by omega)];exact G j (by omega)
  rw[H,I,J]
 have e:(qO st d f j (pM f d s a_ j) a).now.set (d+j) (Qh f d s a_ (pM f d s a_ j) j)=st.now.take d++pM f d s a_ (j+1)++st.now.drop (d+(j+1)):=by
  unfold qO;dsimp only;have q:st.now.drop (d+j)=st.now.getD (d+j) 0::st.now.drop (d+(j+1)):=by rw[ak,aG (by omega),Option.getD_some,<-kF,mD (by omega)]
  rw[q,List.set_append_right _ _ (by simp[c];omega),pM];have:d+j-(st.now.take d++pM f d s a_ j).length=0:=by simp[c];omega
  rw[this,List.set_cons_zero];simp
 have g:((st.now.take d++pM f d s a_ (j+1)++st.now.drop (d+(j+1))).drop d).take (d+j+1-d)=pM f d s a_ (j+1):=by rw[bV,List.drop_append_of_le_length (by omega)];rw[lQ (by omega),List.nil_append];rw[show d+j+1-d=(pM f d s a_ (j+1)).length by rw[Cm];omega,List.take_left]
 have r:(qO st d f j (pM f d s a_ j) a).pt=st.pt:=rfl;have k:(qO st d f j (pM f d s a_ j) a).at'=d+j:=rfl;have u:(qO st d f j (pM f d s a_ j) a).y=st.y:=rfl;have v:(qO st d f j (pM f d s a_ j) a).dM=a:=rfl;have w:wX P t st.y (pM f d s a_ (j+1)) a=eG (P.px (pM f d s a_ (bY P.bits t.W))) (qN P.W t st.y) (min (8*(j+1)/P.bits) t.W-8*j/P.bits) (8*j/P.bits) a:=by
  unfold wX;rw[Cm,show j+1-1=j by omega];refine Qg _ _ _ _ _ _ (fun i M N=> ?_);refine B _ _ i (TZ _ _ _ _ _ _ (by omega)) ?_;rw[Cm];have l:i+1<=8*(j+1)/P.bits:=by omega
  exact aK (eY _ l) (Nat.div_mul_le_self _ _)
 unfold uk;rw[r,C];simp only;rw[k,au (by omega),hd,p,e,g,u,v,w];congr 1
 funext b
 have x:(qO st d f j (pM f d s a_ j) a).now.length=d+bY P.bits t.W:=o;rw[x];by_cases A:j+1=bY P.bits t.W
 ·rw[aC A,aC (by omega)];rfl
 ·rw[au A,au (by omega)];rfl
theorem aeC(P:wW)(i:He P)(hb:1<=P.bits)(st:eU)(t:lC)(s a_:List Nat)(h:VN P st t s a_)(f:Nat)(p:f<=4)(j:Nat)(k:j<bY P.bits t.W):
 n_ P (f::s.take j) st=(eG (P.px (pM f (aQ P.bits) s a_ (bY P.bits t.W))) (qN P.W t st.y) (8*j/P.bits) 0 st.dM).map (qO st (aQ P.bits) f j (pM f (aQ P.bits) s a_ j)):=by
 induction j with
 |zero=>
  have e:uk P st f=some {st with f:=f,at':=aQ P.bits}:=by unfold uk;rw[h.pt];simp only[h.at0];rw[aC trivial,au (by omega)]
  rw[lM,n_,e];simp only[Option.bind_some,n_,Nat.mul_zero,Nat.zero_div,eG,Option.map_some,qO,pM,Nat.add_zero,List.append_nil,List.take_append_drop]
 |succ j g=>
  have hs:=h.len;have c:j<s.length:=by omega
  have l:s.take (j+1)=s.take j++[s.getD j 0]:=by rw[BC,aG c,ak,aG c];rfl
  have m:f::s.take (j+1)=(f::s.take j)++[s.getD j 0]:=by rw[l];rfl
  rw[m,qg,g (by omega)];clear g;have d:8*(j+1)<t.W*P.bits:=by unfold bY at k;omega
  have n:8*(j+1)/P.bits<t.W:=by rw[Nat.div_lt_iff_lt_mul (by omega)];exact d
  have o:8*j/P.bits<=8*(j+1)/P.bits:=Nat.div_le_div_right (by omega);have a:=xM (P.px (pM f (aQ P.bits) s a_ (bY P.bits t.W))) (qN P.W t st.y) (8*j/P.bits) (8*(j+1)/P.bits-8*j/P.bits) 0 st.dM;rw[show 8*j/P.bits+(8*(j+1)/P.bits-8*j/P.bits)=8*(j+1)/P.bits by omega]at a;rw[a];cases hp:eG (P.px (pM f (aQ P.bits) s a_ (bY P.bits t.W))) (qN P.W t st.y) (8*j/P.bits) 0 st.dM with
  |none=>rfl
  |some b=>
   simp only[Option.map_some,Option.bind_some,n_];rw[Qi P i hb st t s a_ h f j (by omega) b,fF,qx (by omega)];cases eG (P.px (pM f (aQ P.bits) s a_ (bY P.bits t.W))) (qN P.W t st.y) (8*(j+1)/P.bits-8*j/P.bits) (8*j/P.bits) b with
   |none=>rfl
   |some q=>simp only[Option.map_some,Option.bind_some];rw[au (by omega)]
theorem VO(P:wW)(i:He P)(hb:1<=P.bits)(st:eU)(t:lC)(s a_:List Nat)(h:VN P st t s a_)(f:Nat)(k:f<=4)(hW:1<=t.W):
 n_ P (f::s) st=(eG (P.px (pM f (aQ P.bits) s a_ (bY P.bits t.W))) (qN P.W t st.y) t.W 0 st.dM).map fun c=>lH P t (qO st (aQ P.bits) f (bY P.bits t.W) (pM f (aQ P.bits) s a_ (bY P.bits t.W)) c):=by
 have hs:=h.len;have hm:1<=t.W*P.bits:=bT hW hb;obtain⟨j,e⟩:∃j,bY P.bits t.W=j+1:=⟨bY P.bits t.W-1,by unfold bY;omega⟩;have d:j<s.length:=by omega
 have l:s=s.take j++[s.getD j 0]:=by have:s.take (j+1)=s:=iY (by omega);rw[BC,aG d]at this;rw[ak,aG d];exact this.symm
 have m:f::s=(f::s.take j)++[s.getD j 0]:=by rw[List.cons_append,<-l]
 rw[m,qg,aeC P i hb st t s a_ h f k j (by omega)];have g:8*j<t.W*P.bits:=by unfold bY at e;omega
 have n:8*j/P.bits<t.W:=by rw[Nat.div_lt_iff_lt_mul (by omega)];exact g
 have o:t.W<=8*(j+1)/P.bits:=by rw[Nat.le_div_iff_mul_le (by omega)];unfold bY at e;omega
 have a:=xM (P.px (pM f (aQ P.bits) s a_ (bY P.bits t.W))) (qN P.W t st.y) (8*j/P.bits) (t.W-8*j/P.bits) 0 st.dM;rw[show 8*j/P.bits+(t.W-8*j/P.bits)=t.W by omega]at a;rw[a];cases hp:eG (P.px (pM f (aQ P.bits) s a_ (bY P.bits t.W))) (qN P.W t st.y) (8*j/P.bits) 0 st.dM with
 |none=>rfl
 |some b=>
  simp only[Option.map_some,Option.bind_some,n_];rw[Qi P i hb st t s a_ h f j (by omega) b,fF,Nat.min_eq_right (by omega)];cases eG (P.px (pM f (aQ P.bits) s a_ (bY P.bits t.W))) (qN P.W t st.y) (t.W-8*j/P.bits) (8*j/P.bits) b with
  |none=>rfl
  |some p=>simp only[Option.map_some,Option.bind_some];rw[aC (by omega),e]
theorem aau(P:wW)(st:eU)(t:lC)(b:P.parts[st.pt]?=some t)(a:st.at'=0)(f:Nat)(c:4<f)(l:List Nat):n_ P (f::l) st=none:=by
 have e:uk P st f=none:=by unfold uk;rw[b];simp only[a];rw[aC trivial,aC c]
 rw[n_,e];rfl
structure wY(P:wW)(st:eU)(t:lC)(a_:List Nat):Prop where
 pt:P.parts[st.pt]?=some t
 now:st.now.length=aQ P.bits+bY P.bits t.W
 rq:st.rq.length=aQ P.bits+bY P.bits t.W
 nz:∀i,i<aQ P.bits->st.now.getD i 0=0
 az:∀i,i<aQ P.bits->st.rq.getD i 0=0
 ab:∀i,i<bY P.bits t.W->st.rq.getD (aQ P.bits+i) 0=a_.getD i 0
 at0:st.at'=0
theorem wY.rowAt{P:wW}{st:eU}{t:lC}{a_:List Nat}(h:wY P st t a_)(s:List Nat)(hs:s.length=bY P.bits t.W):VN P st t s a_:=⟨h.pt,hs,h.now,h.nz,h.az,h.ab,h.at0⟩
theorem Hf(n i:Nat):(List.replicate n 0).getD i 0=0:=by rw[ak,nU];split<;>rfl
theorem wY.begin{P:wW}{st:eU}{t:lC}(h:P.parts[st.pt]?=some t)(a_:List Nat)(a:∀i,a_.getD i 0=0):wY P (tq P st) t a_:=by unfold tq;rw[h];exact⟨h,by simp,by simp,fun i _=>Hf _ _,fun i _=>Hf _ _,fun i _=>by rw[a];exact Hf _ _,rfl⟩
theorem wY.next{P:wW}{st:eU}{t:lC}{a_:List Nat}(h:wY P st t a_)(f:Nat)(U a:List Nat)(b:U.length=bY P.bits t.W)(c:st.y+1<t.H):
 wY P (lH P t (qO st (aQ P.bits) f (bY P.bits t.W) U a)) t U/\(lH P t (qO st (aQ P.bits) f (bY P.bits t.W) U a)).y=st.y+1/\(lH P t (qO st (aQ P.bits) f (bY P.bits t.W) U a)).dM=a/\(lH P t (qO st (aQ P.bits) f (bY P.bits t.W) U a)).pt=st.pt:=by
 have d:(st.now.take (aQ P.bits)).length=aQ P.bits:=by rw[jl];have:=h.now;omega
 have e:lH P t (qO st (aQ P.bits) f (bY P.bits t.W) U a)={st with told:=st.told+1,y:=st.y+1,now:=st.rq,rq:=st.now.take (aQ P.bits)++U++st.now.drop (aQ P.bits+bY P.bits t.W),at':=0,f:=f,dM:=a}:=by unfold lH;rw[aC (show(qO st (aQ P.bits) f (bY P.bits t.W) U a).y+1<t.H from c)];rfl
 rw[e];refine⟨⟨h.pt,h.rq,?_,h.az,fun i hi=> ?_,fun i hi=> ?_,rfl⟩,rfl,rfl,rfl⟩
 ·have:=h.now;simp[b];omega
 ·show(st.now.take (aQ P.bits)++U++st.now.drop (aQ P.bits+bY P.bits t.W)).getD i 0=0;rw[KY _ _ _ _ (by omega)];have:=h.nz i hi;rw[ak]at this|-;rw[dU hi];exact this
 ·show(st.now.take (aQ P.bits)++U++st.now.drop (aQ P.bits+bY P.bits t.W)).getD (aQ P.bits+i) 0=U.getD i 0;rw[KX _ _ _ _ (by omega) (by omega),d];congr 1;omega
def kV(P:wW)(t:lC):Nat->Nat->List Nat->List Nat->List Nat->Option (List Nat)
 |0,_,_,_,dM=>some dM
 |k+1,y,a_,l,dM=>
  if 4<l.getD 0 0 then none
  else(eG (P.px (pM (l.getD 0 0) (aQ P.bits) ((l.drop 1).take (bY P.bits t.W)) a_ (bY P.bits t.W))) (qN P.W t y) t.W 0 dM).bind
   (kV P t k (y+1) (pM (l.getD 0 0) (aQ P.bits) ((l.drop 1).take (bY P.bits t.W)) a_ (bY P.bits t.W)) (l.drop (bY P.bits t.W+1)))
def aeD(P:wW)(o:Option eU)(pt:Nat)(r:Option (List Nat)):Prop:=
 (r=none->o=none)/\∀a,r=some a->∃m_,o=some m_/\m_.pt=pt/\m_.y=0/\m_.dM=a/\∀b,P.parts[pt]?=some b->wY P m_ b []
theorem ac1(P:wW)(q:He P)(hb:1<=P.bits)(t:lC)(hW:1<=t.W)(k y:Nat)(a_ l:List Nat)(st:eU)(h:wY P st t a_)(u:st.y=y)(I:t.H=y+(k+1))(v:l.length=(k+1)*(bY P.bits t.W+1)):
 aeD P (n_ P l st) (st.pt+1) (kV P t (k+1) y a_ l st.dM):=by
 induction k generalizing y a_ l st with
 |zero=>
  have a:l.length=bY P.bits t.W+1:=by omega
  cases l with
  |nil=>simp at a
  |cons f s=>
   have b:s.length=bY P.bits t.W:=by simpa using a
   have g:(f::s).getD 0 0=f:=rfl;have i:((f::s).drop 1).take (bY P.bits t.W)=s:=by rw[List.drop_one,List.tail_cons,iY (by omega)]
   rw[kV,g,i];by_cases c:4<f
   ·rw[aC c,aau P st t h.pt h.at0 f c s];exact⟨fun _=>rfl,fun p e=>by cases e⟩
   ·rw[au c,VO P q hb st t s a_ (h.rowAt s b) f (by omega) hW,u];cases eG (P.px (pM f (aQ P.bits) s a_ (bY P.bits t.W))) (qN P.W t y) t.W 0 st.dM with
    |none=>exact⟨fun _=>rfl,fun p e=>by cases e⟩
    |some p=>
     refine⟨fun e=>(Option.some_ne_none _ e).elim,fun w e=> ?_⟩;have x:p=w:=by simpa [kV]using e
     subst x;have d:lH P t (qO st (aQ P.bits) f (bY P.bits t.W) (pM f (aQ P.bits) s a_ (bY P.bits t.W)) p)=tq P {qO st (aQ P.bits) f (bY P.bits t.W) (pM f (aQ P.bits) s a_ (bY P.bits t.W)) p with told:=st.told+1,pt:=st.pt+1,y:=0}:=by unfold lH;rw[au (show¬(qO st (aQ P.bits) f (bY P.bits t.W) (pM f (aQ P.bits) s a_ (bY P.bits t.W)) p).y+1<t.H by show¬st.y+1<t.H;omega)];rfl
     refine⟨_,rfl,?_,?_,?_,fun z j=> ?_⟩
     ·show(lH P t (qO st (aQ P.bits) f (bY P.bits t.W) (pM f (aQ P.bits) s a_ (bY P.bits t.W)) p)).pt=_;rw[d];unfold tq;split<;>rfl
     ·show(lH P t (qO st (aQ P.bits) f (bY P.bits t.W) (pM f (aQ P.bits) s a_ (bY P.bits t.W)) p)).y=_;rw[d];unfold tq;split<;>rfl
     ·show(lH P t (qO st (aQ P.bits) f (bY P.bits t.W) (pM f (aQ P.bits) s a_ (bY P.bits t.W)) p)).dM=_;rw[d];unfold tq;split<;>rfl
     ·show wY P (lH P t (qO st (aQ P.bits) f (bY P.bits t.W) (pM f (aQ P.bits) s a_ (bY P.bits t.W)) p)) z [];rw[d];exact wY.begin j [] (fun _=>rfl)
 |succ k A=>
  have a:l.length=(bY P.bits t.W+1)+(k+1)*(bY P.bits t.W+1):=by rw[v,fO (k+1) 1];omega
  cases l with
  |nil=>simp at a
  |cons f m=>
   have B:m.length=bY P.bits t.W+(k+1)*(bY P.bits t.W+1):=by simp at a;omega
   obtain⟨s,hs⟩:∃s,s=m.take (bY P.bits t.W):=⟨_,rfl⟩;obtain⟨r,n⟩:∃r,r=m.drop (bY P.bits t.W):=⟨_,rfl⟩;have b:s.length=bY P.bits t.W:=by rw[hs,jl];omega
   have o:r.length=(k+1)*(bY P.bits t.W+1):=by rw[n,iI];omega
   have hm:m=s++r:=by rw[hs,n,List.take_append_drop]
   have g:(f::m).getD 0 0=f:=rfl;have i:((f::m).drop 1).take (bY P.bits t.W)=s:=by rw[List.drop_one,List.tail_cons,hs]
   have C:(f::m).drop (bY P.bits t.W+1)=r:=by rw[ou,n]
   rw[kV,g,i,C];by_cases c:4<f
   ·rw[aC c,aau P st t h.pt h.at0 f c m];exact⟨fun _=>rfl,fun p e=>by cases e⟩
   ·rw[au c,hm,<-List.cons_append,qg,VO P q hb st t s a_ (h.rowAt s b) f (by omega) hW,u];cases eG (P.px (pM f (aQ P.bits) s a_ (bY P.bits t.W))) (qN P.W t y) t.W 0 st.dM with
    |none=>exact⟨fun _=>rfl,fun p e=>by cases e⟩
    |some p=>simp only[Option.map_some,Option.bind_some];obtain⟨D,E,F,G⟩:=h.next f (pM f (aQ P.bits) s a_ (bY P.bits t.W)) p (Cm _ _ _ _ _) (by omega);have:=A (y+1) (pM f (aQ P.bits) s a_ (bY P.bits t.W)) r (lH P t (qO st (aQ P.bits) f (bY P.bits t.W) (pM f (aQ P.bits) s a_ (bY P.bits t.W)) p)) D (by rw[E];omega) (by omega) o;rw[F,G]at this;exact this
def kY(bits:Nat):List lC->Nat
 | []=>0
 |t::a=>t.H*(1+bY bits t.W)+kY bits a
def Hg(P:wW):List lC->List Nat->List Nat->Option (List Nat)
 | [],_,dM=>some dM
 |t::a,l,dM=>(kV P t t.H 0 [] (l.take (t.H*(1+bY P.bits t.W))) dM).bind (Hg P a (l.drop (t.H*(1+bY P.bits t.W))))
theorem aav(P:wW)(n:He P)(hb:1<=P.bits)(tu:∀t∈P.parts,1<=t.W/\1<=t.H)(c:List lC)(st:eU)(l:List Nat)(a:c=P.parts.drop st.pt)(o:st.y=0)(q:∀t,P.parts[st.pt]?=some t->wY P st t [])(e:l.length=kY P.bits c):
 (n_ P l st).map (fun s=>s.dM)=Hg P c l st.dM:=by
 induction c generalizing st l with
 |nil=>have:l=[]:=gG (by simpa [kY]using e);subst this;rfl
 |cons t c r=>
  have b:st.pt<P.parts.length:=by
   rcases bU st.pt P.parts.length with h|h
   ·exact h
   ·rw[lQ h]at a;cases a
  rw[mD b]at a;obtain⟨g,u⟩:=List.cons.inj a;have v:P.parts[st.pt]?=some t:=by rw[aG b,g]
  obtain⟨w,C⟩:=tu t (by rw[g];exact xm b);have hle:t.H*(1+bY P.bits t.W)<=l.length:=by rw[e,kY];omega
  obtain⟨k,i⟩:∃k,t.H=k+1:=⟨t.H-1,by omega⟩;have d:=ac1 P n hb t w k 0 [] (l.take (t.H*(1+bY P.bits t.W))) st (q t v) o (by omega) (by rw[jl,qx hle,i,Nat.add_comm 1]);have f:n_ P l st=(n_ P (l.take (t.H*(1+bY P.bits t.W))) st).bind (n_ P (l.drop (t.H*(1+bY P.bits t.W)))):=by rw[<-qg,List.take_append_drop]
  rw[f,Hg];rw[<-i]at d;cases j:kV P t t.H 0 [] (l.take (t.H*(1+bY P.bits t.W))) st.dM with
  |none=>rw[j]at d;rw[d.1 rfl];rfl
  |some p=>rw[j]at d;obtain⟨m_,x,m,z,A,B⟩:=d.2 p rfl;rw[x];simp only[Option.bind_some];have:=r m_ (l.drop (t.H*(1+bY P.bits t.W))) (by rw[m];exact u) z (by rw[m];exact B) (by rw[iI,e,kY];omega);rw[this,A]
end Pr
namespace kW
open Go.RowKit Rf
theorem sZ.u0{w:af}{base rb ub aN most:Nat}{s:ByteArray}{u:US}(h:sZ w base rb ub s aN most u):w.cell? ⟨ub,0,none⟩=some (.pointer (some ⟨rb,0,none⟩)):=by obtain⟨_,_,_,_,_,_,v,h6,_⟩:=h;simp[World.cell?,h6]
theorem sZ.u2{w:af}{base rb ub aN most:Nat}{s:ByteArray}{u:US}(h:sZ w base rb ub s aN most u):w.cell? ⟨ub,2,none⟩=some (.int .i64 (aN:Int)):=by obtain⟨_,_,_,_,_,_,v,h6,_⟩:=h;simp[World.cell?,h6]
theorem JC(base rb ub:Nat)(s:ByteArray)(aN most:Nat)(u:US)(w:af)(hU:sZ w base rb ub s aN most u)(hs:s.size<=140737488351232)(hm:most<=16777216):
 aF prog 80 #[.pointer (some ⟨ub,0,none⟩)] w fun e w'=>e= .returned (.tuple #[])/\sZ w' base rb ub s aN most (iF s most u)/\nO base rb ub w w':=by
 obtain⟨⟨p,dA⟩,out⟩:=u;go_enter func80,ntmps80
 go_wp2
 go_loopw [] (fun wr=> ∃q:Nat,p<=q/\q<=(p+7)/8*8/\sZ wr base rb ub s aN most ⟨⟨q,dA⟩,out⟩/\nO base rb ub w wr) (fun wr=>8*s.size-(aX ((wr.cell? ⟨rb,1,none⟩).getD undef)).toNat)
 case atStart=>exact⟨p,ag _,by omega,hU,nO.refl _ _ _ _⟩
 case round=>
  obtain⟨q,O,P,a,E⟩:=hrel;have Q:=a.u0;have l:=a.1.c1;have R:=a.1.free 1;have a9:q<=8*s.size:=a.1.2;by_cases a6:q%8=0
  ·have ht:((q:Int)%8 !=0)=false:=by rw[bn];omega
   have HA:ah (qB ⟨p,dA⟩=⟨q,dA⟩):=(by unfold qB;rw[show(p+7)/8*8=q by omega]:_=_);clear O P;go_wp2_with fail
   refine(gu rb s ⟨q,dA⟩ 16 _ rfl _ a.1 hs (by omega)).mono ?_;rintro e w1 ⟨rfl,F,o⟩;have g:=a.row o _ F;have G:=E.trans (o.vw (base:=base) (ub:=ub));have H:=oG s 16 ⟨q,dA⟩;have r:=g.u0;clear Q l R F o;go_wp2_with fail
   refine(gu rb s _ 16 _ rfl _ g.1 hs (by omega)).mono ?_;rintro e w2 ⟨rfl,I,v⟩;have b:=g.row v _ I;have x:=G.trans (v.vw (base:=base) (ub:=ub));have y:=oG s 16 (bI s 16 ⟨q,dA⟩).2;have N:ah (nC s ⟨p,dA⟩=((bI s 16 ⟨q,dA⟩).1,if(bI s 16 ⟨q,dA⟩).1+(bI s 16 (bI s 16 ⟨q,dA⟩).2).1=65535 then(bI s 16 (bI s 16 ⟨q,dA⟩).2).2 else⟨(bI s 16 (bI s 16 ⟨q,dA⟩).2).2.pos,true⟩)):=(by unfold nC;rw[HA.out]:_=_);clear r I v g G;generalize bI s 16 (bI s 16 ⟨q,dA⟩).2=M at*;generalize (bI s 16 ⟨q,dA⟩).1=n at*;obtain⟨m,J⟩:=M;simp only at b y;have r:=b.u0;have S:=b.1.free 2;have T:=b.1.c2;have a7:n<65536:=H;have a8:m<65536:=y;clear H y;go_upto_if 38 with fail
   go_cut [] (fun wx=>sZ wx base rb ub s aN most ⟨(nC s ⟨p,dA⟩).2,out⟩/\nO base rb ub w wx)
   case first=>
    by_cases c:n+m=65535
    ·have hc:((n:Int)+(m:Int) !=65535)=false:=by rw[bn];omega
     have U:ah ((nC s ⟨p,dA⟩).2=J):=(by rw[N.out];exact aC c:_=_);clear c;go_wp2
     go_meet
     case rel=>exact⟨by rw[U.out];exact b,x⟩
    ·have hc:((n:Int)+(m:Int) !=65535)=true:=by rw[dG];omega
     have U:ah ((nC s ⟨p,dA⟩).2=⟨J.pos,true⟩):=(by rw[N.out];exact au c:_=_);clear c;go_wp2
     go_meet
     case rel=>exact⟨by rw[U.out];exact b.row ((kH.refl rb w2).setCell 2 _) _ (b.1.vk true),x.set rb 2 (.inl rfl) _⟩
   case rest=>
    obtain⟨V,W⟩:=hcut;have HN:ah ((nC s ⟨p,dA⟩).1=n):=(by rw[N.out]:_=_);clear b x r S T N HA;have HT:ah (iF s most ⟨⟨p,dA⟩,out⟩=Jb s most n ⟨(nC s ⟨p,dA⟩).2,out⟩):=(by unfold iF;rw[HN.out]:_=_);generalize (nC s ⟨p,dA⟩).2=h0 at*;go_wp2
    go_loopw [4] (fun i wr=> ∃(k j:Nat) (t:US),k+j=n/\iF s most ⟨⟨p,dA⟩,out⟩=Jb s most j t/\i= .int .i64 k/\sZ wr base rb ub s aN most t/\nO base rb ub w wr) (fun i _=>n-(aX i).toNat)
    case atStart=>exact⟨0,n,_,by omega,HT.out,rfl,V,W⟩
    case round=>
     obtain⟨k,j,t,z,C,rfl,f,A⟩:=hrel;have X:=f.u0;have Y:=f.1.c2;obtain⟨⟨h,tb⟩,d⟩:=t;cases j with
     |zero=>
      have D:ah (iF s most ⟨⟨p,dA⟩,out⟩=⟨⟨h,tb⟩,d⟩):=C;have Z:¬k<n:=by omega
      clear C z;go_wp2
      go_end0
      exact⟨rfl,by rw[D.out];exact f,A⟩
     |succ j=>
      have Z:k<n:=by omega
      cases tb
      ·have D:ah (iF s most ⟨⟨p,dA⟩,out⟩=Jb s most j (mQ most (UInt8.ofNat (bI s 8 ⟨h,false⟩).1) ⟨(bI s 8 ⟨h,false⟩).2,d⟩)/\k+1+j=n):=(⟨C.trans (LU s most j _ rfl),by omega⟩:_/\_);clear C z;go_wp2_with fail
       refine(gu rb s ⟨h,false⟩ 8 _ rfl _ f.1 hs (by omega)).mono ?_;rintro e w4 ⟨rfl,a0,K⟩;have a1:=f.row K _ a0;have a2:=A.trans (K.vw (base:=base) (ub:=ub));have L:=oG s 8 ⟨h,false⟩;have hx:(((UInt8.ofNat (bI s 8 ⟨h,false⟩).1).toNat:Nat):Int)=(((bI s 8 ⟨h,false⟩).1:Nat):Int):=by rw[tN];omega
       generalize bI s 8 ⟨h,false⟩=B at*;obtain⟨bv,a3⟩:=B;have HX:ah _:=hx;have b0:bv<=255:=by simp at L;omega
       clear hx L X Y;go_wp2_with fail
       refine(Md base rb ub s aN most ⟨a3,d⟩ (UInt8.ofNat bv) _ HX.out _ a1 hm).mono ?_;rintro e w5 ⟨rfl,a4,a5⟩;go_wp2
       go_roundw
       case rel=>exact⟨k+1,j,_,D.out.2,D.out.1,by go_num,a4,a2.trans a5⟩
       case measure=>simp[aX];omega
      ·have D:ah (iF s most ⟨⟨p,dA⟩,out⟩=⟨⟨h,true⟩,d⟩):=C.trans (tY s most _ _ rfl);clear C z;go_wp2
       go_end0
       exact⟨rfl,by rw[D.out];exact f,A⟩
  ·have ht:((q:Int)%8 !=0)=true:=by rw[dG];omega
   go_wp2
   go_roundw
   case rel=>exact⟨q+1,by omega,by omega,a.row ((kH.refl rb wr).setCell 1 _) _ (a.1.ae7 (q+1) (by omega) _ (by go_num)),E.set rb 1 (.inl rfl) _⟩
   case measure=>rw[World.cell?_setCell_same _ _ _ l,l];simp[aX];omega
end kW
namespace h_
theorem aeN(W H y c:Nat)(a:y<H)(d:c<W):4*(y*W+c)+4<=4*W*H:=by
 have b:(y+1)*W<=H*W:=eY W a;rw[fO,tJ]at b;have e:4*W*H=4*(H*W):=by rw[jM,eu W H]
 omega
theorem aeO(D K a x j:Nat)(hx:x<a)(c:j<fB K):(x*fB K+j+1)*D<=8*uF D K a:=by have b:(x+1)*fB K<=a*fB K:=eY _ hx;rw[fO,tJ]at b;have d:(x*fB K+j+1)*D<=a*fB K*D:=eY D (by omega);unfold uF;omega
theorem adp(K a x j:Nat)(hx:x<a)(c:j<fB K):2*(x*fB K+j)+1<uF 16 K a:=by have b:(x+1)*fB K<=a*fB K:=eY _ hx;rw[fO,tJ]at b;unfold uF;omega
end h_
end Go.Proofs.YtephkcdbnogdhaaGreatDoor
