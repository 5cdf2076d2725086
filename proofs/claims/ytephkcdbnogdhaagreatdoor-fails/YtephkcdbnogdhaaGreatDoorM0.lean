import Derived.BigQuiet
import Derived.Deep.DeepCutAuto
import Derived.Deep.QuietTactic
import Derived.Deep.RegionWith
import Derived.Laws.BitsAllLaws
import Derived.StillTail
import Derived.Test.YtephkcdbnogdhaaGreatDoorRows
import Derived.WalkKit
set_option linter.unusedVariables false
set_option maxHeartbeats 40000000
set_option maxRecDepth 10000
namespace Go.Proofs.YtephkcdbnogdhaaGreatDoor
open Go.Proofs.Tryz
open Go renaming World->af,Value->ay,Calls->aF
open Go.RowKit renaming Hid->ah,Below->aJ,intOf->aX
theorem ag:type_of% @Nat.le_refl:=@Nat.le_refl
theorem aj:type_of% @Go.RowKit.Below.heap_alloc:=@Go.RowKit.Below.heap_alloc
theorem ak:type_of% @List.getD_eq_getElem?_getD:=@List.getD_eq_getElem?_getD
theorem au:type_of% @if_neg:=@if_neg
theorem ax:type_of% @beq_eq_false_iff_ne:=@beq_eq_false_iff_ne
theorem aC:type_of% @if_pos:=@if_pos
theorem aG:type_of% @List.getElem?_eq_getElem:=@List.getElem?_eq_getElem
theorem aI:type_of% @Go.bodyPost_ret:=@Go.bodyPost_ret
theorem aK:type_of% @Nat.le_trans:=@Nat.le_trans
theorem aO:type_of% @Go.heap_alloc_new:=@Go.heap_alloc_new
theorem aP:type_of% @Go.RowKit.Below.refl:=@Go.RowKit.Below.refl
theorem aS:type_of% @decide_eq_false:=@decide_eq_false
theorem aU:type_of% @Nat.zero_le:=@Nat.zero_le
theorem aZ:type_of% @decide_eq_true:=@decide_eq_true
theorem bn:type_of% @bne_eq_false_iff_eq:=@bne_eq_false_iff_eq
theorem bu:type_of% @Nat.lt_of_lt_of_le:=@Nat.lt_of_lt_of_le
theorem bz:type_of% @Go.Calls.mono:=@Go.Calls.mono
theorem bC:type_of% @Array.getElem?_setIfInBounds_ne:=@Array.getElem?_setIfInBounds_ne
theorem bD:type_of% @Go.ByteArray.toList_eq:=@Go.ByteArray.toList_eq
theorem bK:type_of% @Go.IntKind.wrap_i64:=@Go.IntKind.wrap_i64
theorem bQ:type_of% @List.length_append:=@List.length_append
theorem bT:type_of% @Nat.mul_le_mul:=@Nat.mul_le_mul
theorem bU:type_of% @Nat.lt_or_ge:=@Nat.lt_or_ge
theorem bV:type_of% @List.append_assoc:=@List.append_assoc
theorem b_:type_of% @Nat.pow_le_pow_right:=@Nat.pow_le_pow_right
theorem dh:type_of% @List.getElem?_append_left:=@List.getElem?_append_left
theorem dw:type_of% @List.getElem?_append_right:=@List.getElem?_append_right
theorem dB:type_of% @Option.some.inj:=@Option.some.inj
theorem dG:type_of% @bne_iff_ne:=@bne_iff_ne
theorem dR:type_of% @Go.MapKept.heap_alloc:=@Go.MapKept.heap_alloc
theorem dS:type_of% @List.prefix_refl:=@List.prefix_refl
theorem dU:type_of% @List.getElem?_take_of_lt:=@List.getElem?_take_of_lt
theorem dY:type_of% @Array.getElem?_setIfInBounds_self_of_lt:=@Array.getElem?_setIfInBounds_self_of_lt
theorem eu:type_of% @Nat.mul_comm:=@Nat.mul_comm
theorem eH:type_of% @Nat.add_zero:=@Nat.add_zero
theorem eX:type_of% @Go.World.ownsRow_nil:=@Go.World.ownsRow_nil
theorem eY:type_of% @Nat.mul_le_mul_right:=@Nat.mul_le_mul_right
theorem fE:type_of% @List.getElem?_eq_none:=@List.getElem?_eq_none
theorem fF:type_of% @Nat.zero_add:=@Nat.zero_add
theorem fG:type_of% @ByteArray.data_extract:=@ByteArray.data_extract
theorem fO:type_of% @Nat.add_mul:=@Nat.add_mul
theorem gG:type_of% @List.eq_nil_of_length_eq_zero:=@List.eq_nil_of_length_eq_zero
theorem gI:type_of% @Go.RowKit.Below.trans:=@Go.RowKit.Below.trans
theorem gK:type_of% @List.length_cons:=@List.length_cons
theorem gQ:type_of% @Bool.and_eq_true:=@Bool.and_eq_true
theorem gX:type_of% @List.eq_of_mem_replicate:=@List.eq_of_mem_replicate
theorem gY:type_of% @congrArg:=@congrArg
theorem g_:type_of% @Go.Calls.quiet_of:=@Go.Calls.quiet_of
theorem iy:type_of% @Go.RowKit.Below.heap_setCell:=@Go.RowKit.Below.heap_setCell
theorem iD:type_of% @Nat.pow_succ:=@Nat.pow_succ
theorem iE:type_of% @Go.World.ownsRow.lt:=@Go.World.ownsRow.lt
theorem iH:type_of% @Nat.mod_eq_of_lt:=@Nat.mod_eq_of_lt
theorem iI:type_of% @List.length_drop:=@List.length_drop
theorem iP:type_of% @List.mem_of_getElem?:=@List.mem_of_getElem?
theorem iV:type_of% @beq_iff_eq:=@beq_iff_eq
theorem iW:type_of% @Nat.sub_self:=@Nat.sub_self
theorem iY:type_of% @List.take_of_length_le:=@List.take_of_length_le
theorem iZ:type_of% @List.getElem?_drop:=@List.getElem?_drop
theorem jh:type_of% @Go.RowKit.Below.size:=@Go.RowKit.Below.size
theorem jl:type_of% @List.length_take:=@List.length_take
theorem jr:type_of% @List.getElem?_map:=@List.getElem?_map
theorem jB:type_of% @Go.Calls.quiet_of_same:=@Go.Calls.quiet_of_same
theorem jM:type_of% @Nat.mul_assoc:=@Nat.mul_assoc
theorem jO:type_of% @List.length_set:=@List.length_set
theorem jS:type_of% @Option.bind_some:=@Option.bind_some
theorem jT:type_of% @Go.heap_alloc_old:=@Go.heap_alloc_old
theorem jU:type_of% @List.extract_eq_take_drop:=@List.extract_eq_take_drop
theorem kD:type_of% @List.length_singleton:=@List.length_singleton
theorem kE:type_of% @Array.getElem?_toList:=@Array.getElem?_toList
theorem kF:type_of% @Nat.add_assoc:=@Nat.add_assoc
theorem kG:type_of% @List.drop_zero:=@List.drop_zero
theorem lq:type_of% @Nat.two_pow_add_eq_or_of_lt:=@Nat.two_pow_add_eq_or_of_lt
theorem lM:type_of% @List.take_zero:=@List.take_zero
theorem lN:type_of% @List.take_succ_eq_append_getElem:=@List.take_succ_eq_append_getElem
theorem lQ:type_of% @List.drop_of_length_le:=@List.drop_of_length_le
theorem mD:type_of% @List.drop_eq_getElem_cons:=@List.drop_eq_getElem_cons
theorem mJ:type_of% @List.length_replicate:=@List.length_replicate
theorem mO:type_of% @List.getElem?_take:=@List.getElem?_take
theorem ni:type_of% @Array.toList_extract:=@Array.toList_extract
theorem nS:type_of% @of_decide_eq_true:=@of_decide_eq_true
theorem nT:type_of% @Nat.le_mul_of_pos_right:=@Nat.le_mul_of_pos_right
theorem nU:type_of% @List.getElem?_replicate:=@List.getElem?_replicate
theorem nY:type_of% @Option.map_some:=@Option.map_some
theorem og:type_of% @Go.size_madeCells:=@Go.size_madeCells
theorem oq:type_of% @List.take_succ_cons:=@List.take_succ_cons
theorem ou:type_of% @List.drop_succ_cons:=@List.drop_succ_cons
theorem oD:type_of% @Array.getElem?_eq_none:=@Array.getElem?_eq_none
theorem oJ:type_of% @ByteArray.ext:=@ByteArray.ext
theorem oL:type_of% @List.filter_cons:=@List.filter_cons
theorem oO:type_of% @Nat.mod_two_eq_zero_or_one:=@Nat.mod_two_eq_zero_or_one
theorem oP:type_of% @Nat.mod_lt:=@Nat.mod_lt
theorem qh:type_of% @Go.World.size_alloc:=@Go.World.size_alloc
theorem qw:type_of% @Nat.not_lt_zero:=@Nat.not_lt_zero
theorem qx:type_of% @Nat.min_eq_left:=@Nat.min_eq_left
theorem qy:type_of% @Nat.div_le_self:=@Nat.div_le_self
theorem qZ:type_of% @List.map_cons:=@List.map_cons
theorem rZ:type_of% @if_true:=@if_true
theorem r_:type_of% @Ne.symm:=@Ne.symm
theorem sO:type_of% @Go.setRow_other:=@Go.setRow_other
theorem sQ:type_of% @Nat.and_two_pow_sub_one_eq_mod:=@Nat.and_two_pow_sub_one_eq_mod
theorem sS:type_of% @List.take_length:=@List.take_length
theorem tJ:type_of% @Nat.one_mul:=@Nat.one_mul
theorem tN:type_of% @UInt8.toNat_ofNat':=@UInt8.toNat_ofNat'
theorem tV:type_of% @Nat.le_mul_of_pos_left:=@Nat.le_mul_of_pos_left
theorem uB:type_of% @Bool.eq_iff_iff:=@Bool.eq_iff_iff
theorem vg:type_of% @ByteArray.size_append:=@ByteArray.size_append
theorem xm:type_of% @List.getElem_mem:=@List.getElem_mem
theorem xY:type_of% @Go.wpList_append_own:=@Go.wpList_append_own
theorem xZ:type_of% @Array.getElem?_eq_getElem:=@Array.getElem?_eq_getElem
theorem yB:type_of% @Go.rounds_succ:=@Go.rounds_succ
theorem yC:type_of% @List.any_cons:=@List.any_cons
theorem zy:type_of% @List.length_nil:=@List.length_nil
theorem zA:type_of% @List.append_nil:=@List.append_nil
theorem Bz:type_of% @decide_eq_true_eq:=@decide_eq_true_eq
theorem BA:type_of% @UInt8.toNat_lt:=@UInt8.toNat_lt
theorem BB:type_of% @Nat.le_of_lt:=@Nat.le_of_lt
theorem BC:type_of% @List.take_add_one:=@List.take_add_one
namespace Rf
structure bZ where
 pos:Nat
 dA:Bool
def fP(v k:Nat):Nat:=v/2^k%2
theorem Eg(v k:Nat):fP v k<=1:=by unfold fP;omega
theorem Ov(v k y:Nat)(h:y=v/2^k):fP v k=y%2:=by unfold fP;rw[h]
theorem LP(a k:Nat):a/2^(k+1)=a/2^k/2:=by rw[Nat.div_div_eq_div_mul,iD]
def aA(s:ByteArray)(i:Nat):Nat:=(s.data.toList.getD i 0).toNat
theorem dH(s:ByteArray)(i:Nat):aA s i<=255:=by unfold aA;have:=(s.data.toList.getD i 0).toNat_lt;omega
theorem dL(s:ByteArray)(i:Nat)(h:i<s.size):aA s i=s[i].toNat:=by
 unfold aA;have a:i<s.data.toList.length:=by simpa using h
 simp only[List.getD,List.getElem?_eq_getElem a,Option.getD_some];rfl
def gy(s:ByteArray)(st:bZ):Nat×bZ:=
 if st.dA=true\/8*s.size<=st.pos then(0,⟨st.pos,true⟩)else(fP (aA s (st.pos/8)) (st.pos%8),⟨st.pos+1,false⟩)
theorem yD(s:ByteArray)(st:bZ)(h:st.dA=true\/8*s.size<=st.pos):gy s st=(0,⟨st.pos,true⟩):=by unfold gy;rw[aC h]
theorem E_(s:ByteArray)(st:bZ)(h:¬(st.dA=true\/8*s.size<=st.pos)):gy s st=(fP (aA s (st.pos/8)) (st.pos%8),⟨st.pos+1,false⟩):=by unfold gy;rw[au h]
theorem BD(s:ByteArray)(st:bZ):(gy s st).1<=1:=by
 unfold gy;split
 ·simp
 ·exact Eg _ _
def Dk(s:ByteArray):Nat->Nat->Nat->bZ->Nat×bZ
 |0,v,_,st=>(v,st)
 |k+1,v,u,st=>Dk s k (v+u*(gy s st).1) (2*u) (gy s st).2
def bI(s:ByteArray)(n:Nat)(st:bZ):Nat×bZ:=Dk s n 0 1 st
theorem ace(s:ByteArray)(k:Nat):∀v i st,v<2^i->(Dk s k v (2^i) st).1<2^(i+k):=by
 induction k with
 |zero=>intro v i st h;exact h
 |succ k a=>intro v i st h;simp only[Dk];rw[show 2*2^i=2^(i+1)by rw[iD,eu],show i+(k+1)=i+1+k by omega];refine a _ _ _ ?_;have b:=BD s st;have c:2^i*(gy s st).1<=2^i*1:=Nat.mul_le_mul_left _ b;rw[iD];omega
theorem oG(s:ByteArray)(n:Nat)(st:bZ):(bI s n st).1<2^n:=by have:=ace s n 0 0 st (by simp);simpa [bI]using this
def pw(n:Nat):Nat:=2^n
theorem BF(n:Nat):pw (n+1)=2*pw n:=by unfold pw;rw[iD,eu]
theorem uC(n m:Nat)(h:n<=m):pw n<=pw m:=b_ (n:=2) (by omega) h
def oH(s:Nat):Nat:=if s<261 then 0 else(s-261)/4
def ny(s:Nat):Nat:=if s<2 then 0 else(s-2)/2
def Fq:Nat->Nat->Nat->Nat
 |0,_,at_=>at_
 |j+1,k,at_=>Fq j (k+1) (at_+pw (oH k))
def Af:Nat->Nat->Nat->Nat
 |0,_,at_=>at_
 |j+1,k,at_=>Af j (k+1) (at_+pw (ny k))
def ja(s:Nat):Nat×Nat:=if s=285 then(258,0)else(Fq (s-257) 257 3,oH s)
def iK(s:Nat):Nat×Nat:=(Af s 0 1,ny s)
theorem AA(s:Nat)(h:s<=285):oH s<=6:=by unfold oH;split<;>omega
theorem yE(s:Nat)(h:s<=29):ny s<=13:=by unfold ny;split<;>omega
def zW:Nat->Nat->List UInt8->List UInt8
 |0,_,acc=>acc
 |j+1,v,acc=>zW j (v/2) ((if v%2=1 then 49 else 48)::acc)
def qj(v n:Nat):List UInt8:=zW n v []
theorem Ox(j:Nat):∀v acc,(zW j v acc).length=j+acc.length:=by
 induction j with
 |zero=>intro v acc;simp[zW]
 |succ j a=>intro v acc;simp only[zW,a,List.length_cons];omega
theorem vI(v n:Nat):(qj v n).length=n:=by simp[qj,Ox]
structure CS where
 cs:List (Nat×List UInt8)
 value:Nat
 qA:Nat
 nZ:Nat
def ru(L:List Nat)(n s:Nat)(st:CS):CS:=
 if L.getD s 0=n then⟨st.cs++[(s,qj (st.value*pw (n-st.qA)) n)],st.value*pw (n-st.qA)+1,n,st.nZ+pw (15-n)⟩else st
def nM(L:List Nat)(n:Nat):Nat->Nat->CS->CS
 |0,_,st=>st
 |j+1,s,st=>nM L n j (s+1) (ru L n s st)
def vV(L:List Nat):Nat->Nat->CS->CS
 |0,_,st=>st
 |j+1,n,st=>vV L j (n+1) (nM L n L.length 0 st)
def bJ(L:List Nat):CS:=vV L 15 1 ⟨[],0,0,0⟩
def CS.ok(st:CS)(n c:Nat):Prop:=st.qA<=n/\st.value<=st.cs.length*pw st.qA/\st.cs.length<=c/\st.nZ<=st.cs.length*16384
theorem CS.ok.mono{st:CS}{n c a b:Nat}(h:st.ok n c)(d:n<=a)(e:c<=b):st.ok a b:=⟨aK h.1 d,h.2.1,aK h.2.2.1 e,h.2.2.2⟩
theorem LQ(n:Nat):1<=pw n:=Nat.two_pow_pos n
theorem Y_(a b:Nat)(h:a<=b):pw a*pw (b-a)=pw b:=by unfold pw;rw[<-Nat.pow_add];congr 1;omega
theorem adU{st:CS}{n c:Nat}(h:st.ok n c):st.value*pw (n-st.qA)<=st.cs.length*pw n:=by have a:=eY (pw (n-st.qA)) h.2.1;rw[jM,Y_ _ _ h.1]at a;exact a
theorem Oy(L:List Nat)(n s c:Nat)(st:CS)(h:st.ok n c)(b:1<=n):(ru L n s st).ok n (c+1):=by
 unfold ru;split
 ·have hu:=adU h;have hp:=LQ n;have d:pw (15-n)<=pw 14:=uC _ _ (by omega);have a:pw 14=16384:=rfl;refine⟨ag _,?_,?_,?_⟩
  ·simp only[List.length_append,List.length_cons,List.length_nil];rw[fO];omega
  ·simp only[List.length_append,List.length_cons,List.length_nil];have:=h.2.2.1;omega
  ·simp only[List.length_append,List.length_cons,List.length_nil];have:=h.2.2.2;rw[fO];omega
 ·exact h.mono (ag _) (by omega)
theorem WI(L:List Nat)(n:Nat)(a:1<=n)(j:Nat):∀s st c,st.ok n c->(nM L n j s st).ok n (c+j):=by
 induction j with
 |zero=>intro s st c h;exact h
 |succ j b=>intro s st c h;have:=b (s+1) _ _ (Oy L n s c st h a);rw[show c+(j+1)=c+1+j by omega];exact this
theorem JO(L:List Nat)(j:Nat):∀n st c,1<=n->st.ok n c->(vV L j n st).ok (n+j) (c+j*L.length):=by
 induction j with
 |zero=>intro n st c _ h;simpa [vV]using h
 |succ j a=>intro n st c b h;have:=a (n+1) _ _ (by omega) ((WI L n b L.length 0 st c h).mono (by omega) (ag _));rw[show n+(j+1)=n+1+j by omega,fO,tJ,show c+(j*L.length+L.length)=c+L.length+j*L.length by omega];exact this
theorem AB(L:List Nat)(h:L.length<=400):(bJ L).cs.length<=1000000:=by have:=(JO L 15 1 ⟨[],0,0,0⟩ 0 (by omega) ⟨by simp,by simp,by simp,by simp⟩).2.2.1;unfold bJ;omega
def kS(cs:List (Nat×List UInt8))(p:List UInt8):Option Nat:=(cs.find? fun c=>c.2==p).map (·.1)
theorem Si(cs:List (Nat×List UInt8))(p:List UInt8)(h:∀j (a:j<cs.length),(cs[j].2==p)=false):kS cs p=none:=by unfold kS;rw[Option.map_eq_none_iff,List.find?_eq_none];intro x hx;obtain⟨j,a,rfl⟩:=List.getElem_of_mem hx;simpa using h j a
theorem Sj(cs:List (Nat×List UInt8))(p:List UInt8)(k:Nat)(b:k<cs.length)(h:∀j (a:j<k),(cs[j].2==p)=false)(e:(cs[k].2==p)=true):kS cs p=some cs[k].1:=by
 unfold kS;have:cs.find? (fun c=>c.2==p)=some cs[k]:=by rw[List.find?_eq_some_iff_getElem];exact⟨e,k,b,rfl,fun j a=>by simpa using h j a⟩
 rw[this];rfl
def sign(b:Nat):UInt8:=if b=1 then 49 else 48
def pF(s:ByteArray)(cs:List (Nat×List UInt8)):Nat->List UInt8->bZ->Nat×bZ
 |0,_,st=>(0,⟨st.pos,true⟩)
 |k+1,pre,st=>if st.dA=true then(0,⟨st.pos,true⟩)else
   if(gy s st).2.dA=true then(0,⟨(gy s st).2.pos,true⟩)else
    match kS cs (pre++[sign (gy s st).1])with
    |some y=>(y,(gy s st).2)
    |none=>pF s cs k (pre++[sign (gy s st).1]) (gy s st).2
def cu(s:ByteArray)(cs:List (Nat×List UInt8))(st:bZ):Nat×bZ:=pF s cs 15 [] st
theorem BG(s:ByteArray)(cs:List (Nat×List UInt8))(k:Nat)(pre:List UInt8)(st:bZ)(h:st.dA=false)(a:(gy s st).2.dA=true):pF s cs (k+1) pre st=(0,⟨(gy s st).2.pos,true⟩):=by rw[pF,au (by simp[h]),aC a]
theorem Oz(s:ByteArray)(cs:List (Nat×List UInt8))(k:Nat)(pre:List UInt8)(st:bZ)(h:st.dA=false)(a:(gy s st).2.dA=false)(y:Nat)(b:kS cs (pre++[sign (gy s st).1])=some y):pF s cs (k+1) pre st=(y,(gy s st).2):=by rw[pF,au (by simp[h]),au (by simp[a]),b]
theorem Dl(s:ByteArray)(cs:List (Nat×List UInt8))(k:Nat)(pre:List UInt8)(st:bZ)(h:st.dA=false)(a:(gy s st).2.dA=false)(b:kS cs (pre++[sign (gy s st).1])=none):pF s cs (k+1) pre st=pF s cs k (pre++[sign (gy s st).1]) (gy s st).2:=by rw[pF,au (by simp[h]),au (by simp[a]),b]
theorem yF(s:ByteArray)(cs:List (Nat×List UInt8))(k:Nat)(pre:List UInt8)(st:bZ)(h:st.dA=true):pF s cs k pre st=(0,⟨st.pos,true⟩):=by
 cases k with
 |zero=>rfl
 |succ k=>rw[pF,aC h]
structure US where
 st:bZ
 out:List UInt8
def mQ(most:Nat)(x:UInt8)(u:US):US:=
 if most<=u.out.length then⟨⟨u.st.pos,true⟩,u.out⟩else if u.st.dA=true then u else⟨u.st,u.out++[x]⟩
theorem rG(most:Nat)(x:UInt8)(u:US)(h:most<=u.out.length):mQ most x u=⟨⟨u.st.pos,true⟩,u.out⟩:=aC h
theorem BH(most:Nat)(x:UInt8)(u:US)(h:¬most<=u.out.length)(hb:u.st.dA=true):mQ most x u=u:=by unfold mQ;rw[au h,aC hb]
theorem tX(most:Nat)(x:UInt8)(u:US)(h:¬most<=u.out.length)(hb:u.st.dA=false):mQ most x u=⟨u.st,u.out++[x]⟩:=by unfold mQ;rw[au h,au (by simp[hb])]
def Jb(s:ByteArray)(most:Nat):Nat->US->US
 |0,u=>u
 |k+1,u=>if u.st.dA=true then u else Jb s most k (mQ most (UInt8.ofNat (bI s 8 u.st).1) ⟨(bI s 8 u.st).2,u.out⟩)
theorem tY(s:ByteArray)(most k:Nat)(u:US)(h:u.st.dA=true):Jb s most k u=u:=by
 cases k with
 |zero=>rfl
 |succ k=>rw[Jb,aC h]
theorem LU(s:ByteArray)(most k:Nat)(u:US)(h:u.st.dA=false):Jb s most (k+1) u=Jb s most k (mQ most (UInt8.ofNat (bI s 8 u.st).1) ⟨(bI s 8 u.st).2,u.out⟩):=by rw[Jb,au (by simp[h])]
def qB(st:bZ):bZ:=⟨(st.pos+7)/8*8,st.dA⟩
def nC(s:ByteArray)(st:bZ):Nat×bZ:=
 ((bI s 16 (qB st)).1,if(bI s 16 (qB st)).1+(bI s 16 (bI s 16 (qB st)).2).1=65535 then(bI s 16 (bI s 16 (qB st)).2).2 else⟨(bI s 16 (bI s 16 (qB st)).2).2.pos,true⟩)
def iF(s:ByteArray)(most:Nat)(u:US):US:=Jb s most (nC s u.st).1 ⟨(nC s u.st).2,u.out⟩
theorem Vk(j:Nat):∀k x,k+j<=286->x<=Fq j k x/\Fq j k x<=x+64*j:=by
 induction j with
 |zero=>intro k x _;exact⟨ag _,ag _⟩
 |succ j a=>intro k x h;have hp:pw (oH k)<=64:=uC _ 6 (AA k (by omega));have:=a (k+1) (x+pw (oH k)) (by omega);simp only[Fq];omega
theorem Za(j:Nat):∀k x,k+j<=30->x<=Af j k x/\Af j k x<=x+8192*j:=by
 induction j with
 |zero=>intro k x _;exact⟨ag _,ag _⟩
 |succ j a=>intro k x h;have hp:pw (ny k)<=8192:=uC _ 13 (yE k (by omega));have:=a (k+1) (x+pw (ny k)) (by omega);simp only[Af];omega
theorem LV(y:Nat)(c:257<=y)(a:y<=285):(ja y).1<=2000/\(ja y).2<=6:=by
 unfold ja;split
 ·refine⟨?_,?_⟩
  ·simp
  ·simp
 ·have h:=(Vk (y-257) 257 3 (by omega)).2;have b:=AA y a;dsimp only;exact⟨by omega,b⟩
theorem OA(d:Nat)(h:d<=29):1<=(iK d).1/\(iK d).1<=245761/\(iK d).2<=13:=by have:=Za d 0 1 (by omega);have a:=yE d h;unfold iK;dsimp only;exact⟨this.1,by omega,a⟩
def BI(most Dp:Nat):Nat->US->US
 |0,u=>u
 |k+1,u=>if u.st.dA=true then u else BI most Dp k (mQ most (u.out.getD (u.out.length-Dp) 0) u)
theorem BJ(most Dp k:Nat)(u:US)(h:u.st.dA=true):BI most Dp k u=u:=by
 cases k with
 |zero=>rfl
 |succ k=>rw[BI,aC h]
theorem Sl(most Dp k:Nat)(u:US)(h:u.st.dA=false):BI most Dp (k+1) u=BI most Dp k (mQ most (u.out.getD (u.out.length-Dp) 0) u):=by rw[BI,au (by simp[h])]
structure Mt where
 st:bZ
 n:Nat
 Dp:Nat
 stop:Bool
def iQ(s:ByteArray)(aN len:Nat)(B:List (Nat×List UInt8))(y:Nat)(st:bZ):Mt:=
 let c:=bI s (ja y).2 st
 let a:=cu s B c.2
 if 29<a.1 then⟨⟨a.2.pos,true⟩,0,0,true⟩else
  let b:=bI s (iK a.1).2 a.2
  let Dp:=(iK a.1).1+b.1
  ⟨if aN<Dp\/len<Dp then⟨b.2.pos,true⟩else b.2,(ja y).1+c.1,Dp,false⟩
theorem AL(s:ByteArray)(aN len:Nat)(B:List (Nat×List UInt8))(y:Nat)(st:bZ)(h:29<(cu s B (bI s (ja y).2 st).2).1):
 iQ s aN len B y st=⟨⟨(cu s B (bI s (ja y).2 st).2).2.pos,true⟩,0,0,true⟩:=by
 unfold iQ;rw[aC h]
theorem um(s:ByteArray)(aN len:Nat)(B:List (Nat×List UInt8))(y:Nat)(st:bZ)(h:¬29<(cu s B (bI s (ja y).2 st).2).1):
 iQ s aN len B y st=⟨if aN<(iK (cu s B (bI s (ja y).2 st).2).1).1+(bI s (iK (cu s B (bI s (ja y).2 st).2).1).2 (cu s B (bI s (ja y).2 st).2).2).1\/len<(iK (cu s B (bI s (ja y).2 st).2).1).1+(bI s (iK (cu s B (bI s (ja y).2 st).2).1).2 (cu s B (bI s (ja y).2 st).2).2).1 then⟨(bI s (iK (cu s B (bI s (ja y).2 st).2).1).2 (cu s B (bI s (ja y).2 st).2).2).2.pos,true⟩else(bI s (iK (cu s B (bI s (ja y).2 st).2).1).2 (cu s B (bI s (ja y).2 st).2).2).2,
  (ja y).1+(bI s (ja y).2 st).1,(iK (cu s B (bI s (ja y).2 st).2).1).1+(bI s (iK (cu s B (bI s (ja y).2 st).2).1).2 (cu s B (bI s (ja y).2 st).2).2).1,false⟩:=by
 unfold iQ;rw[au h]
def gm(s:ByteArray)(aN most:Nat)(A B:List (Nat×List UInt8)):Nat->US->US
 |0,u=>u
 |f+1,u=>if u.st.dA=true then u else
   let r:=cu s A u.st
   if r.2.dA=true then⟨r.2,u.out⟩
   else if r.1<256 then gm s aN most A B f (mQ most (UInt8.ofNat r.1) ⟨r.2,u.out⟩)
   else if r.1=256 then⟨r.2,u.out⟩
   else if 285<r.1 then⟨⟨r.2.pos,true⟩,u.out⟩
   else
    let m:=iQ s aN u.out.length B r.1 r.2
    if m.stop=true then⟨m.st,u.out⟩
    else gm s aN most A B f (BI most m.Dp m.n ⟨m.st,u.out⟩)
theorem wG(s:ByteArray)(aN most:Nat)(A B:List (Nat×List UInt8))(f:Nat)(u:US)(h:u.st.dA=true):gm s aN most A B f u=u:=by
 cases f with
 |zero=>rfl
 |succ f=>rw[gm,aC h]
theorem JP(s:ByteArray)(aN most:Nat)(A B:List (Nat×List UInt8))(f:Nat)(u:US)(h:u.st.dA=false)(a:(cu s A u.st).2.dA=true):gm s aN most A B (f+1) u=⟨(cu s A u.st).2,u.out⟩:=by rw[gm,au (by simp[h]),aC a]
theorem JQ(s:ByteArray)(aN most:Nat)(A B:List (Nat×List UInt8))(f:Nat)(u:US)(h:u.st.dA=false)(a:(cu s A u.st).2.dA=false)(h3:(cu s A u.st).1<256):
 gm s aN most A B (f+1) u=gm s aN most A B f (mQ most (UInt8.ofNat (cu s A u.st).1) ⟨(cu s A u.st).2,u.out⟩):=by
 rw[gm,au (by simp[h]),au (by simp[a]),aC h3]
theorem AO(s:ByteArray)(aN most:Nat)(A B:List (Nat×List UInt8))(f:Nat)(u:US)(h:u.st.dA=false)(a:(cu s A u.st).2.dA=false)(h3:(cu s A u.st).1=256):
 gm s aN most A B (f+1) u=⟨(cu s A u.st).2,u.out⟩:=by
 rw[gm,au (by simp[h]),au (by simp[a]),au (by omega),aC h3]
theorem Fv(s:ByteArray)(aN most:Nat)(A B:List (Nat×List UInt8))(f:Nat)(u:US)(h:u.st.dA=false)(a:(cu s A u.st).2.dA=false)(h3:285<(cu s A u.st).1):
 gm s aN most A B (f+1) u=⟨⟨(cu s A u.st).2.pos,true⟩,u.out⟩:=by
 rw[gm,au (by simp[h]),au (by simp[a]),au (by omega),au (by omega),aC h3]
theorem JR(s:ByteArray)(aN most:Nat)(A B:List (Nat×List UInt8))(f:Nat)(u:US)(h:u.st.dA=false)(a:(cu s A u.st).2.dA=false)(h3:257<=(cu s A u.st).1)(c:(cu s A u.st).1<=285)
 (b:(iQ s aN u.out.length B (cu s A u.st).1 (cu s A u.st).2).stop=true):gm s aN most A B (f+1) u=⟨(iQ s aN u.out.length B (cu s A u.st).1 (cu s A u.st).2).st,u.out⟩:=by
 rw[gm,au (by simp[h]),au (by simp[a]),au (by omega),au (by omega),au (by omega),aC b]
theorem Fz(s:ByteArray)(aN most:Nat)(A B:List (Nat×List UInt8))(f:Nat)(u:US)(h:u.st.dA=false)(a:(cu s A u.st).2.dA=false)(h3:257<=(cu s A u.st).1)(c:(cu s A u.st).1<=285)
 (b:(iQ s aN u.out.length B (cu s A u.st).1 (cu s A u.st).2).stop=false):gm s aN most A B (f+1) u=gm s aN most A B f (BI most (iQ s aN u.out.length B (cu s A u.st).1 (cu s A u.st).2).Dp (iQ s aN u.out.length B (cu s A u.st).1 (cu s A u.st).2).n ⟨(iQ s aN u.out.length B (cu s A u.st).1 (cu s A u.st).2).st,u.out⟩):=by
 rw[gm,au (by simp[h]),au (by simp[a]),au (by omega),au (by omega),au (by omega),au (by simp[b])]
theorem JS(s:ByteArray)(st:bZ):(gy s st).2.dA=true\/(gy s st).2.pos=st.pos+1:=by
 unfold gy;split
 ·exact .inl rfl
 ·exact .inr rfl
theorem Fa(s:ByteArray)(st:bZ):st.pos<=(gy s st).2.pos:=by
 unfold gy;split
 ·exact ag _
 ·exact Nat.le_succ _
theorem acf(s:ByteArray)(k:Nat):∀v u st,st.pos<=(Dk s k v u st).2.pos:=by
 induction k with
 |zero=>intro v u st;exact ag _
 |succ k a=>intro v u st;exact aK (Fa s st) (a _ _ _)
theorem mF(s:ByteArray)(n:Nat)(st:bZ):st.pos<=(bI s n st).2.pos:=acf s n _ _ st
theorem Vl(s:ByteArray)(cs:List (Nat×List UInt8))(k:Nat):∀pre st,st.pos<=(pF s cs k pre st).2.pos:=by
 induction k with
 |zero=>intro pre st;exact ag _
 |succ k a=>
  intro pre st;rw[pF];split
  ·exact ag _
  ·split
   ·exact Fa s st
   ·split
    ·exact Fa s st
    ·exact aK (Fa s st) (a _ _)
theorem Fb(s:ByteArray)(cs:List (Nat×List UInt8))(st:bZ):st.pos<=(cu s cs st).2.pos:=Vl s cs 15 [] st
theorem JU(s:ByteArray)(cs:List (Nat×List UInt8))(st:bZ):(cu s cs st).2.dA=true\/st.pos+1<=(cu s cs st).2.pos:=by
 unfold cu;rw[pF];split
 ·exact .inl rfl
 ·split
  ·exact .inl rfl
  ·rename_i h;have hm:(gy s st).2.pos=st.pos+1:=(JS s st).resolve_left h;split
   ·exact .inr (by rw[hm];exact ag _)
   ·exact .inr (by rw[<-hm];exact Vl _ _ _ _ _)
end Rf
namespace kW
open Go.RowKit Rf
theorem jf{k:IntKind}{a b:Int}(h:a=b):Ending.returned (.int k a)= .returned (.int k b):=by rw[h]
structure kH(b:Nat)(w w':af):Prop where
 os:w'.os=w.os
 tape:w'.tape=w.tape
 output:w'.output=w.output
 size:w'.heap.size=w.heap.size
 block:∀k,k≠b->w'.heap[k]?=w.heap[k]?
theorem kH.refl(b:Nat)(w:af):kH b w w:=⟨rfl,rfl,rfl,rfl,fun _ _=>rfl⟩
theorem kH.trans{b:Nat}{u v w:af}(h:kH b u v)(k:kH b v w):kH b u w:=
 ⟨k.os.trans h.os,k.tape.trans h.tape,k.output.trans h.output,k.size.trans h.size,fun i hi=>(k.block i hi).trans (h.block i hi)⟩
theorem kH.drewN{b:Nat}{u v:af}(h:kH b u v)(n:Nat):kH b u (v.drewN n):=⟨h.os,h.tape,h.output,h.size,h.block⟩
theorem kH.setCell{b:Nat}{u v:af}(h:kH b u v)(o:Nat)(x:ay):kH b u (v.setCell ⟨b,o,none⟩ x):=
 ⟨h.os,h.tape,h.output,by simpa using h.size,fun k a=>(iy v ⟨b,o,none⟩ x k a).trans (h.block k a)⟩
def je(w:af)(b:Nat)(s:ByteArray)(st:bZ):Prop:=
 w.heap[b]?=some (.cells #[.string s,.int .i64 (st.pos:Nat),.bool st.dA] 91 (0,0))/\st.pos<=8*s.size
theorem je.c0{w:af}{b:Nat}{s:ByteArray}{st:bZ}(h:je w b s st):w.cell? ⟨b,0,none⟩=some (.string s):=by simp[World.cell?,h.1]
theorem je.c1{w:af}{b:Nat}{s:ByteArray}{st:bZ}(h:je w b s st):w.cell? ⟨b,1,none⟩=some (.int .i64 (st.pos:Nat)):=by simp[World.cell?,h.1]
theorem je.c2{w:af}{b:Nat}{s:ByteArray}{st:bZ}(h:je w b s st):w.cell? ⟨b,2,none⟩=some (.bool st.dA):=by simp[World.cell?,h.1]
theorem je.free{w:af}{b:Nat}{s:ByteArray}{st:bZ}(h:je w b s st)(o:Nat):w.frozen? ⟨b,o,none⟩=false:=by simp[World.frozen?,h.1]
theorem je.drewN{w:af}{b:Nat}{s:ByteArray}{st:bZ}(h:je w b s st)(n:Nat):je (w.drewN n) b s st:=h
theorem je.over{w w':af}{b:Nat}{s:ByteArray}{st:bZ}(h:je w b s st)(e:w'.heap[b]?=w.heap[b]?):je w' b s st:=⟨e.trans h.1,h.2⟩
theorem je.ae7{w:af}{b:Nat}{s:ByteArray}{st:bZ}(h:je w b s st)(p:Nat)(hp:p<=8*s.size)(x:ay)(hx:x= .int .i64 (p:Nat)):je (w.setCell ⟨b,1,none⟩ x) b s ⟨p,st.dA⟩:=by subst hx;refine⟨?_,hp⟩;simp[World.setCell,Array.getElem?_modify,h.1]
theorem je.vk{w:af}{b:Nat}{s:ByteArray}{st:bZ}(h:je w b s st)(x:Bool):je (w.setCell ⟨b,2,none⟩ (.bool x)) b s ⟨st.pos,x⟩:=by refine⟨?_,h.2⟩;simp[World.setCell,Array.getElem?_modify,h.1]
theorem Sm(v k:Nat)(w:af)(d:v<=255)(g:k<=8):
 aF prog 114 #[.int .i64 v,.int .i64 k] w fun e w'=>e= .returned (.int .i64 ((fP v k:Nat):Int))/\w'=w:=by
 go_enter func114,ntmps114
 go_wp2
 go_loop [0,1] (fun x j=> ∃n m y:Nat,n+m=k/\y=v/2^n/\j= .int .i64 m/\x= .int .i64 y) (fun _ j=>(aX j).toNat)
 case atStart=>exact⟨0,k,v,by omega,by simp,rfl,rfl⟩
 case round=>
  obtain⟨n,m,y,a,b,rfl,rfl⟩:=hrel;have hle:y<=255:=by rw[b];exact aK (qy _ _) d
  have f:m<=8:=by omega
  by_cases hm:0<m
  ·have H:ah (n+1+(m-1)=k/\y/2=v/2^(n+1)):=(⟨by omega,by rw[b,LP]⟩:_/\_);clear a b;go_wp2
   go_round
   case rel=>exact⟨n+1,m-1,y/2,H.out.1,H.out.2,by go_num,by go_num⟩
   case measure=>simp[aX];omega
  ·have c:m=0:=by omega
   subst c;have H:ah (y=v/2^k):=(by rw[<-a];exact b:_=_);clear a b;go_wp2
   go_ret;exact⟨jf (by rw[Ov v k y H.out];omega),rfl⟩
theorem Vm(a b:Int)(v k:Nat)(c:a=v)(hb:b=k)(w:af)(d:v<=255)(f:k<=8):
 aF prog 114 #[.int .i64 a,.int .i64 b] w fun e w'=>e= .returned (.int .i64 ((fP v k:Nat):Int))/\w'=w:=by
 subst c hb;exact Sm v k w d f
theorem Fe(b:Nat)(s:ByteArray)(st:bZ)(w:af)(c:je w b s st)(hs:s.size<=140737488351232):
 aF prog 78 #[.pointer (some ⟨b,0,none⟩)] w fun e w'=>e= .returned (.int .i64 (((gy s st).1:Nat):Int))/\je w' b s (gy s st).2/\kH b w w':=by
 have o:=c.c0;have r:=c.c1;have t:=c.c2;have g:=c.free 1;have h:=c.free 2;obtain⟨p,dA⟩:=st;have hp:p<=8*s.size:=c.2;cases dA
 ·by_cases v:p<8*s.size
  ·have d:=E_ s ⟨p,false⟩ (by simp;omega);rw[d];clear d;have hd:decide ((8*(s.size:Int))<=(p:Int))=false:=by simp;omega
   obtain⟨q,u⟩:∃q,q=p/8:=⟨_,rfl⟩;obtain⟨m,hm⟩:∃m,m=p%8:=⟨_,rfl⟩;have x:IntKind.i64.wrap ((p:Int)/8)=(q:Int):=by rw[bK];omega
   have i:ah ((p:Int).tmod 8=(m:Int)):=(by rw[Int.tmod_eq_emod_of_nonneg (by omega)];omega:_=_);have j:ah ((p:Int)%8=(m:Int)):=(by omega:_=_);have k:q<s.size:=by omega
   have l:m<=8:=by omega
   have y:ah (fP (aA s (p/8)) (p%8)=fP (s[q]).toNat m):=(by rw[<-u,<-hm,dL s q k]:_=_);have f:s[q].toNat<=255:=by have:=s[q].toNat_lt;omega
   clear u hm;go_enter func78,ntmps78
   go_wp2
   go_quiet (fail)
   have n:kH b w (w.drewN nq):=(kH.refl b w).drewN nq;have a:=c.drewN nq;generalize w.drewN nq=w1 at*;clear o r t g h;have o:=a.c0;have r:=a.c1;have t:=a.c2;have g:=a.free 1;go_wp2
   go_quiet ((go_at_call 114;exact jB (Vm _ _ (s[q]).toNat m (by first|rfl|(rw[bK];omega)) (by first|exact i.out|exact j.out) _ f l)))
   go_wp2
   go_ret;exact⟨jf (by rw[y.out]),(a.drewN nq).ae7 (p+1) (by omega) _ (by go_num),(n.drewN nq).setCell 1 _⟩
  ·have d:=yD s ⟨p,false⟩ (Or.inr (by simp;omega));rw[d];clear d;have hd:decide ((8*(s.size:Int))<=(p:Int))=true:=by simp;omega
   go_enter func78,ntmps78
   go_wp2
   go_quiet (fail)
   go_wp2
   go_ret;exact⟨rfl,(c.drewN nq).vk true,((kH.refl b w).drewN nq).setCell 2 _⟩
 ·have d:=yD s ⟨p,true⟩ (Or.inl rfl);rw[d];clear d;go_enter func78,ntmps78
  go_wp2
  go_quiet (fail)
  go_wp2
  go_ret;exact⟨rfl,(c.drewN nq).vk true,((kH.refl b w).drewN nq).setCell 2 _⟩
theorem gu(b:Nat)(s:ByteArray)(st:bZ)(n:Nat)(a:Int)(A:a=n)(w:af)(B:je w b s st)(hs:s.size<=140737488351232)(I:n<=16):
 aF prog 79 #[.pointer (some ⟨b,0,none⟩),.int .i64 a] w fun e w'=>e= .returned (.int .i64 (((bI s n st).1:Nat):Int))/\je w' b s (bI s n st).2/\kH b w w':=by
 subst A;go_enter func79,ntmps79
 go_wp2
 go_loopw [5,6,7] (fun v u i wr=> ∃(k j x y:Nat) (t:bZ),k+j=n/\y=2^k/\x<y/\bI s n st=Dk s j x y t/\v= .int .i64 x/\u= .int .i64 y/\i= .int .i64 k/\je wr b s t/\kH b w wr) (fun _ _ i _=>n-(aX i).toNat)
 case atStart=>exact⟨0,n,0,1,st,by omega,rfl,by omega,rfl,rfl,rfl,rfl,B,kH.refl b w⟩
 case round=>
  obtain⟨k,j,x,y,t,f,o,C,c,rfl,rfl,rfl,g,d⟩:=hrel;have D:y<=65536:=by rw[o];exact aK (b_ (n:=2) (by omega) (show k<=16 by omega)) (by decide)
  have p:k<=16:=by omega
  cases j with
  |zero=>
   have E:k=n:=by omega
   subst E;have H:ah _:=c;clear c o f;go_wp2
   go_ret;exact⟨jf (by rw[H.out];rfl),by rw[H.out];exact g,d⟩
  |succ j=>
   have F:k<n:=by omega
   have h:=BD s t;have H:ah (bI s n st=Dk s j (x+y*(gy s t).1) (2*y) (gy s t).2/\2*y=2^(k+1)/\k+1+j=n):=(⟨c,by rw[o,iD,eu],by omega⟩:_/\_/\_);clear c o f;go_wp2_with fail
   refine(Fe b s t _ g hs).mono ?_;rintro e w2 ⟨rfl,l,m⟩;generalize gy s t=z at*;obtain⟨q,r⟩:=z;have G:q=0\/q=1:=by simp at h;omega
   rcases G with rfl|rfl
   ·go_wp2
    go_roundw
    case rel=>exact⟨k+1,j,x,2*y,r,H.out.2.2,H.out.2.1,by omega,by simpa using H.out.1,by go_num,by go_num,by go_num,l,d.trans m⟩
    case measure=>simp[aX];omega
   ·go_wp2
    go_roundw
    case rel=>exact⟨k+1,j,x+y,2*y,r,H.out.2.2,H.out.2.1,by omega,by simpa using H.out.1,by go_num,by go_num,by go_num,l,d.trans m⟩
    case measure=>simp[aX];omega
end kW
namespace kW
open Go.RowKit
theorem cZ{B:Nat}{w w':af}(h:aJ B w w'){n:Nat}:aJ B w (w'.drewN n):=⟨h.os,h.tape,h.output,h.size,h.block⟩
end kW
namespace Qt
section
variable {P:Program} {ops:Array Oper} {md:Region.Mode} {C:af->Prop}
def FQ(P:Program)(md:Region.Mode)(ops:Array Oper)(C:af->Prop)(n:Nat)(L:Array Bool->Act->Prop):Nat->Array Bool->Act->Prop
 |0,listed,a=>L listed a
 |f+1,listed,a=>Region.ready md ops listed≠[]/\∀i∈Region.ready md ops listed,i<n/\qOp P ops C i (FQ P md ops C n L f (listed.setIfInBounds i true)) a
theorem yM{n g:Nat}{L:Array Bool->Act->Prop}{Q':Exit->Act->af->Prop}(hL:∀listed a w,C w->L listed a->wpAny P md ops Q' g listed a w):
 ∀(f:Nat) (listed:Array Bool) (a:Act) (w:af),C w->FQ P md ops C n L f listed a->wpAny P md ops Q' (f+g) listed a w
 |0,listed,a,w,hw,h=>by rw[fF];exact hL _ _ _ hw h
 |f+1,listed,a,w,hw,h=>by rw[show f+1+g=(f+g)+1 by omega];exact⟨fun h0=>absurd h0 h.1,fun i hi=>wpOp_of_qOp hw (fun a' w' hw' h'=>yM hL f _ a' w' hw' h') (h.2 i hi).2⟩
theorem MG{n i:Nat}{oi:Oper}{v:ay}{L:Array Bool->Act->Prop}(hi:ops[i]?=some oi)(hsel:∀(j:Nat) (o:Oper) cs b,ops[j]?=some o->o.op≠ .select cs b)
 (hs:Region.sinkB md ops n=true) (hc:Region.chainB md ops n=true) (hn:n<ops.size) (hin:i<n)
 (hdone:∀listed a,L listed a->∀j∈Region.ready md ops listed,n<=j):
 ∀(f:Nat) (listed:Array Bool) (a:Act),HeadInv md ops n listed->
  (∀j oj,ops[j]?=some oj->j≠i->listed.getD j true=false->(∀e∈oj.after,Region.binds md e=true->e.on≠i)->oi.apart ops oj=true)->
  i∈Region.ready md ops listed->YieldsIn P ops C oi v a->
  FQ P md ops C n L f (listed.setIfInBounds i true) (a.put oi.dst v)->FQ P md ops C n L (f+1) listed a:=by
 intro f;induction f with
 |zero=>
  intro listed a inv _ hr hy H;have hun:=(mem_ready.1 hr).1;refine⟨fun h=>(by rw[h]at hr;cases hr),fun j hj=> ?_⟩;have hjn:j<n:=by
   rcases bU j n with h|h
   ·exact h
   ·exact absurd hj (tail_waits hs hc hn inv _ i rfl hin hun j h)
  refine⟨hjn,?_⟩;by_cases hji:j=i
  ·subst hji;exact hy.qOp hi H
  ·have:=hdone _ _ H j (ready_mono hj hji);omega
 |succ f ih=>
  intro listed a inv hfree hr hy H;have hun:=(mem_ready.1 hr).1;refine⟨fun h=>(by rw[h]at hr;cases hr),fun j hj=> ?_⟩;have hjn:j<n:=by
   rcases bU j n with h|h
   ·exact h
   ·exact absurd hj (tail_waits hs hc hn inv _ i rfl hin hun j h)
  refine⟨hjn,?_⟩;by_cases hji:j=i
  ·subst hji;exact hy.qOp hi H
  ·have h1:=(H.2 j (ready_mono hj hji)).2;obtain⟨hjun,oj,hoj,hall⟩:=mem_ready.1 hj;have hnot:∀e∈oj.after,Region.binds md e=true->e.on≠i:=fun e he hb heq=>by
    have h1:=hall e he hb;rw[heq,getD_both hun]at h1;cases h1
   have h2:=qOp_put hoj (hfree j oj hoj hji hjun hnot) (fun cs b=>hsel i oi cs b hi) (fun cs b=>hsel j oj cs b hoj) hy h1
   have hfree':∀k ok,ops[k]?=some ok->k≠i->(listed.setIfInBounds j true).getD k true=false->
    (∀e∈ok.after,Region.binds md e=true->e.on≠i)->oi.apart ops ok=true:=fun k ok hk hki hun hno=>by
    refine hfree k ok hk hki ?_ hno;by_cases hjk:j=k
    ·subst hjk;exact hjun
    ·rw[getD_set_ne true hjk]at hun;exact hun
   refine qOp_mono (fun a' h3=>ih (listed.setIfInBounds j true) a' (inv.set hj hjn) hfree' (ready_mono hr (r_ hji)) h3.1 ?_) h2;rw[Array.setIfInBounds_comm _ _ hji];exact h3.2
theorem FT{n g:Nat}{Lq:Act->Prop}(hsel:Region.noSelect ops=true)(hs:Region.sinkB md ops n=true)(hc:Region.chainB md ops n=true)(hn:n<ops.size):
 ∀(l:List Oper) (k:Nat) (listed:Array Bool) (a:Act),(∀j,j<l.length->l[j]?=ops[k+j]?)->k+l.length=n->HeadInv md ops n listed->
 Region.lexHead md ops g l.length k listed=true->wpQuiet P ops C Lq l a->
 FQ P md ops C n (fun listed' a'=>Region.seqB md ops g n listed'=true/\Lq a') l.length listed a
 | [],k,listed,a,_,hk,_,hB,h=>by
   have:k=n:=by simpa using hk
   subst this;exact⟨by simpa [Region.lexHead]using hB,h⟩
 |o::l,k,listed,a,hl,hk,inv,hB,h=>by
  have h0:ops[k]?=some o:=by simpa using(hl 0 (by simp)).symm
  simp only[List.length_cons,Region.lexHead,Bool.and_eq_true]at hB;obtain⟨⟨hr,hf⟩,hB'⟩:=hB;have hkn:k<n:=by simp only[List.length_cons]at hk;omega
  have hr':k∈Region.ready md ops listed:=by simpa using hr
  have uJ:qOp P ops C k (wpQuiet P ops C Lq l) a:=by unfold qOp;simp only[h0];exact h
  obtain⟨v,hy,hK⟩:=yieldsIn_of_qOp h0 uJ
  exact MG h0 (Region.noSelect_spec hsel) hs hc hn hkn (fun listed' a' hL=>seqB_ready hL.1) l.length listed a inv (Region.free_spec h0 hf) hr' hy
   (FT hsel hs hc hn l (k+1) _ _ (fun j hj=>by have:=hl (j+1) (by simp;omega);simpa [Nat.add_assoc,Nat.add_comm 1 j]using this) (by simp only[List.length_cons]at hk;omega) (inv.set hr' hkn) hB' hK)
theorem ji{id:Nat}{Q:Exit->Act->af->Prop}{a:Act}{w:af}{l:List Oper}(n:Nat)(hm:P.follows .mixedOrders=true)(hB:Region.lexTailB .any l.toArray n=true)
 (h:wpQuiet P l.toArray (fun w'=> ∃k,w'=w.drewN k) (fun a'=> ∀w',(∃k,w'=w.drewN k)->wpList P l.toArray Q (l.drop n) a' w') (l.take n) a):(Code.region id l.toArray true).wp P Q a w:=by
 simp only[Region.lexTailB,Bool.and_eq_true,decide_eq_true_eq]at hB;obtain⟨⟨⟨⟨hsel,hn⟩,hs⟩,hc⟩,hlex⟩:=hB;have hn':n<l.length:=by simpa using hn
 have htl:(l.take n).length=n:=by simp;omega
 have hdl:(l.drop n).length=l.toArray.size-n:=by simp
 have inv0:HeadInv .any l.toArray n (Array.replicate l.toArray.size false):=
  ⟨by simp,fun j oj _ hl=>(by rw[getD_replicate_false]at hl;cases hl),fun t _ ht=>getD_in (by simpa using ht) (getD_replicate_false _ _)⟩
 have H:=FT (md:= .any) (g:=l.toArray.size-n) hsel hs hc hn (l.take n) 0 _ a (fun j hj=>by
  have hj':j<n:=by rw[htl]at hj;exact hj
  simp[hj']) (by simpa using htl) inv0 (by rw[htl];exact hlex) h
 refine wp_region_any hm ?_;have:=yM (C:=fun w'=> ∃k,w'=w.drewN k) (Q':=Q) (g:=l.toArray.size-n) (fun listed a' w' hw' hL=>by have:=wpAny_of_seq (md:= .any) (Q':=Q) (l.drop n) n listed a' w' (fun j=>by simp[List.getElem?_drop]) (by rw[hdl];exact hL.1) (hL.2 w' hw');rwa [hdl]at this) _ _ _ {w with drawn:=w.drawn+1} ⟨1,rfl⟩ H
 rw[htl,show n+(l.toArray.size-n)=l.toArray.size by omega]at this;exact this
end
end Qt
namespace Cr
def step(c:Nat):Nat:=if c%2=1 then(c/2)^^^3988292384 else c/2
def Ep(c b:Nat):Nat:=if c%2=b then c/2 else(c/2)^^^3988292384
def steps:Nat->Nat->Nat
 |0,c=>c
 |n+1,c=>steps n (step c)
def mW:Nat->Nat->Nat->Nat
 |0,c,_=>c
 |n+1,c,y=>mW n (Ep c (y%2)) (y/2)
theorem FW(a b:Nat):(a^^^b)%2=(a%2+b%2)%2:=by have h:= @Nat.xor_mod_two_pow a b 1;simp only[Nat.pow_one]at h;rw[h];rcases oO a with c|c<;>rcases oO b with hb|hb<;>rw[c,hb]<;>rfl
theorem OL(a b:Nat):(a^^^b)/2=(a/2)^^^(b/2):=by have h:= @Nat.xor_div_two_pow a b 1;simpa using h
theorem Zm(a b p:Nat):(a^^^p)^^^(b^^^p)=a^^^b:=by rw[Nat.xor_comm b p,Nat.xor_assoc,<-Nat.xor_assoc p p b,Nat.xor_self,Nat.zero_xor]
theorem aer(a b p:Nat):(a^^^p)^^^b=(a^^^b)^^^p:=by rw[Nat.xor_assoc,Nat.xor_comm p b,<-Nat.xor_assoc]
theorem OM(a b:Nat):step (a^^^b)=step a^^^step b:=by
 unfold step;rw[FW,OL];rcases oO a with c|c<;>rcases oO b with hb|hb<;>rw[c,hb]<;>simp
 ·rw[Nat.xor_assoc]
 ·rw[aer]
 ·rw[Zm]
theorem WO(n:Nat):∀a b:Nat,steps n (a^^^b)=steps n a^^^steps n b:=by
 induction n with
 |zero=>intro a b;rfl
 |succ n c=>intro a b;simp only[steps];rw[OM,c]
theorem OO(a:Nat):step (2*a)=a:=by unfold step;rw[au (by omega)];omega
theorem WQ(n:Nat):∀a:Nat,steps n (2^n*a)=a:=by
 induction n with
 |zero=>intro a;simp[steps]
 |succ n b=>intro a;simp only[steps];rw[iD,eu (2^n) 2,jM,OO,b]
theorem Ko(n c:Nat):c=(2^n*(c/2^n))^^^(c%2^n):=by
 have h:=lq (i:=n) (oP c (Nat.two_pow_pos n)) (c/2^n);have e:2^n*(c/2^n)|||c%2^n=2^n*(c/2^n)^^^c%2^n:=by
  apply Nat.eq_of_testBit_eq;intro i;rw[Nat.testBit_or,Nat.testBit_xor,Nat.testBit_two_pow_mul,Nat.testBit_mod_two_pow];by_cases hi:i<n
  ·have:¬n<=i:=by omega
   simp[this]
  ·simp[hi]
 rw[<-e,<-h];exact(Nat.div_add_mod c (2^n)).symm
theorem SK(c:Nat):steps 4 c=(c/16)^^^steps 4 (c%16):=by have h:=Ko 4 c;have e:=WO 4 (2^4*(c/2^4)) (c%2^4);rw[<-h,WQ]at e;exact e
theorem WR(m n:Nat):∀c,steps (m+n) c=steps n (steps m c):=by
 induction m with
 |zero=>intro c;simp[steps]
 |succ m a=>intro c;rw[Nat.succ_add];simp only[steps];exact a _
theorem OQ(c b:Nat)(hb:b<=1):Ep c b=step (c^^^b):=by
 unfold Ep step;have a:b=0\/b=1:=by omega
 rcases a with rfl|rfl
 ·rw[Nat.xor_zero];rcases oO c with h|h<;>simp[h]
 ·rw[FW,OL];rcases oO c with h|h<;>simp[h]
theorem WS(n:Nat):∀c y:Nat,steps n (c^^^y)=mW n c y^^^(y/2^n):=by
 induction n with
 |zero=>intro c y;simp[steps,mW]
 |succ n a=>
  intro c y;simp only[steps,mW];have b:y=(2*(y/2))^^^(y%2):=by have:=Ko 1 y;simpa using this
  have e:step (c^^^y)=Ep c (y%2)^^^(y/2):=by
   rw[OQ c _ (by omega)];have:c^^^y=(c^^^(y%2))^^^(2*(y/2)):=by rw[Nat.xor_assoc,Nat.xor_comm (y%2),<-b]
   rw[this,OM,OO]
  rw[e,a,Nat.div_div_eq_div_mul,iD,eu (2^n) 2]
theorem OT(c y:Nat)(a:y<256):mW 8 c y=steps 8 (c^^^y):=by have h:=WS 8 c y;rw[Nat.div_eq_of_lt (show y<2^8 from a),Nat.xor_zero]at h;exact h.symm
def next(c:Nat)(b:UInt8):Nat:=steps 8 (c^^^b.toNat)
def ET(c:Nat)(l:List UInt8):Nat:=l.foldl next c
theorem Vs(c:Nat):ET c []=c:=rfl
theorem OU(c:Nat)(b:UInt8)(l:List UInt8):ET c (b::l)=ET (next c b) l:=rfl
theorem SL(l m:List UInt8)(c:Nat):ET c (l++m)=ET (ET c l) m:=List.foldl_append
theorem BQ(l:List UInt8)(b:UInt8)(c:Nat):ET c (l++[b])=next (ET c l) b:=by rw[SL,OU,Vs]
theorem Vt(c:Nat)(h:c<4294967296):step c<4294967296:=by
 unfold step;split
 ·exact Nat.xor_lt_two_pow (n:=32) (by omega) (by omega)
 ·omega
theorem FX(n:Nat):∀c,c<4294967296->steps n c<4294967296:=by
 induction n with
 |zero=>intro c h;exact h
 |succ n a=>intro c h;exact a _ (Vt c h)
theorem Es(c:Nat)(b:UInt8)(h:c<4294967296):c^^^b.toNat<4294967296:=
 Nat.xor_lt_two_pow (n:=32) h (by have:=b.toNat_lt;omega)
theorem acn(c:Nat)(b:UInt8)(h:c<4294967296):next c b<4294967296:=FX 8 _ (Es c b h)
theorem SN(l:List UInt8):∀c,c<4294967296->ET c l<4294967296:=by
 induction l with
 |nil=>intro c h;exact h
 |cons b l a=>intro c h;rw[OU];exact a _ (acn c b h)
theorem WT(n:Nat):∀c y,c<4294967296->mW n c y<4294967296:=by
 induction n with
 |zero=>intro c y h;exact h
 |succ n a=>intro c y h;simp only[mW];refine a _ _ ?_;rw[OQ c _ (by omega)];exact Vt _ (Nat.xor_lt_two_pow (n:=32) h (by omega))
theorem OV(n:Nat):∀c y,mW (n+1) c y=Ep (mW n c y) (y/2^n%2):=by
 induction n with
 |zero=>intro c y;simp[mW]
 |succ n a=>intro c y;show mW (n+1) (Ep c (y%2)) (y/2)=Ep (mW n (Ep c (y%2)) (y/2)) _;rw[a,Nat.div_div_eq_div_mul,iD,eu (2^n) 2]
def qG(v k:Nat):Nat:=v/2^k%2
theorem ad1(v k:Nat):qG v k<=1:=by unfold qG;omega
theorem OW(v k y:Nat)(h:y=v/2^k):qG v k=y%2:=by unfold qG;rw[h]
theorem OX(k c y:Nat):mW (k+1) c y=if mW k c y%2=qG y k then mW k c y/2 else(mW k c y/2)^^^3988292384:=OV k c y
theorem aco(c:Nat)(b:UInt8):next c b=mW 8 c b.toNat:=(OT c b.toNat b.toNat_lt).symm
theorem WU(c:Nat)(h:c<4294967296):4294967295^^^c=4294967295-c:=by
 apply Nat.eq_of_testBit_eq;intro i;have e:=Nat.testBit_two_pow_sub_succ (n:=32) (x:=c) h i;have f:=Nat.testBit_two_pow_sub_one 32 i;rw[show(4294967295:Nat)-c=2^32-(c+1)by omega,Nat.testBit_xor,e,show(4294967295:Nat)=2^32-1 by omega,f];by_cases hi:i<32
 ·simp[hi]
 ·have:c.testBit i=false:=Nat.testBit_lt_two_pow (bu h (b_ (n:=2) (by omega) (show 32<=i by omega)));simp[hi,this]
theorem acp(a b k:Nat):(a^^^b)/2^k%2=(a/2^k+b/2^k)%2:=by rw[Nat.xor_div_two_pow,FW];omega
theorem Zn(a b k:Nat):(a^^^b)%2^(k+1)=(a^^^b)%2^k+(a/2^k+b/2^k)%2*2^k:=by rw[Nat.mod_pow_succ,acp,eu]
theorem xw(a k:Nat):a/2^(k+1)=a/2^k/2:=by rw[Nat.div_div_eq_div_mul,iD]
end Cr
open Go.RowKit Cr
theorem BR(s:ByteArray)(k:Nat)(h:k<s.size):s.data.toList.take (k+1)=s.data.toList.take k++[s[k]]:=by rw[lN (by simpa using h)];rfl
theorem Et(s:ByteArray)(k:Nat)(h:¬k<s.size):s.data.toList.take k=s.data.toList:=iY (by simp;omega)
theorem uK{k:IntKind}{a b:Int}(h:a=b):Ending.returned (.int k a)= .returned (.int k b):=by rw[h]
def Tab(w:af):Prop:=∀i:Nat,i<16->w.cell? ⟨4,i,none⟩=some (.int .u32 ((steps 4 i:Nat):Int))
theorem Zo(x:Nat)(hx:x<4294967296)(w:af)(a:Tab w):∃r t y:Nat,r<16/\y<4294967296/\bits BinOp.and IntKind.u32 (x:Int) 15=(r:Int)/\w.cell? ⟨4,r,none⟩=some (.int .u32 (t:Int))/\
 bits BinOp.xor IntKind.u32 ((x:Int)/16) (t:Int)=(y:Int)/\y=steps 4 x:=by
 refine⟨x%16,steps 4 (x%16),steps 4 x,oP _ (by omega),FX 4 x hx,?_,a _ (oP _ (by omega)),?_,rfl⟩
 ·have h:=u32_and_nat x 15 hx (by omega);have e:x&&&15=x%16:=sQ x 4;rw[e]at h;exact h
 ·have h:=u32_xor_nat (x/16) (steps 4 (x%16)) (by omega) (FX 4 _ (by omega));rw[SK x,<-h];congr 1
theorem acr(c:Nat)(b:UInt8)(a:c<4294967296):∃x:Nat,x<4294967296/\bits BinOp.xor IntKind.u32 (c:Int) (b.toNat:Int)=(x:Int)/\x=c^^^b.toNat:=
 ⟨c^^^b.toNat,Es c b a,u32_xor_nat c b.toNat a (by have:=b.toNat_lt;omega),rfl⟩
theorem Zp(s:ByteArray)(k:Nat)(h:k<s.size)(c x y z:Nat)(a:c=ET 4294967295 (s.data.toList.take k))(hx:x=c^^^s[k].toNat)(b:y=steps 4 x)(d:z=steps 4 y):
 ET 4294967295 (s.data.toList.take (k+1))=z:=by
 rw[BR s k h,BQ,<-a,d,b,hx];exact WR 4 4 _
theorem Vu(c:Nat)(h:c<4294967296):bits BinOp.xor IntKind.u32 IntKind.u32.max (c:Int)=((4294967295-c:Nat):Int):=by have e:=u32_xor_nat 4294967295 c (by omega) h;rw[WU c h]at e;exact e
def yO(c:Nat)(b:UInt8):Nat:=steps 4 (steps 4 (c^^^b.toNat))
theorem Kq(s:ByteArray)(k:Nat)(h:k<s.size):ET 4294967295 (s.data.toList.take (k+1))=yO (ET 4294967295 (s.data.toList.take k)) s[k]:=
 Zp s k h _ _ _ _ rfl rfl rfl rfl
theorem FY(v c:Nat)(b:UInt8)(w:af)(q:c<4294967296)(r:v=4294967295-c)(n:Tab w):
 aF prog 131 #[.int .u32 (v:Int),.int .u8 ((b.toNat:Nat):Int)] w fun e w'=>e= .returned (.int .u32 ((4294967295-yO c b:Nat):Int))/\w'=w:=by
 have C:bits BinOp.xor IntKind.u32 IntKind.u32.max (v:Int)=(c:Int):=by rw[Vu v (by omega)];congr 1;omega
 have f:b.toNat<=255:=by have:=b.toNat_lt;omega
 obtain⟨x,g,s,hx⟩:=acr c b q;obtain⟨D,E,y,t,h,i,a,j,o⟩:=Zo x g w n;obtain⟨F,G,z,u,k,l,d,m,p⟩:=Zo y h w n;have A:=Vu z k;have B:IntKind.u32.signed=false:=rfl;have H:ah (yO c b=z):=(by unfold yO;rw[p,o,hx]:_=_);clear hx o p r;go_enter func131,ntmps131
 go_wp2
 go_ret;exact⟨uK (by rw[H.out]),rfl⟩
theorem WV(s:ByteArray)(w:af)(hs:s.size<=maxLen)(f:Tab w):
 aF prog 103 #[.string s] w fun e w'=>e= .returned (.int .u32 ((4294967295-ET 4294967295 s.data.toList:Nat):Int))/\w'=w:=by
 unfold maxLen at hs;go_enter func103,ntmps103
 go_wp2
 go_loop [3,7] (fun c i=> ∃k v:Nat,k<=s.size/\i= .int .i64 k/\v=4294967295-ET 4294967295 (s.data.toList.take k)/\c= .int .u32 (v:Int)) (fun _ i=>s.size-(aX i).toNat)
 case atStart=>exact⟨0,0,aU _,rfl,by rw[lM,Vs],rfl⟩
 case round=>
  obtain⟨k,v,h,rfl,b,rfl⟩:=hrel;have d:ah _:=b;clear b;by_cases a:k<s.size
  ·have hb:=SN (s.data.toList.take k) 4294967295 (by decide);have g:ah _:=hb;clear hb;go_wp2_with fail
   refine(FY v (ET 4294967295 (s.data.toList.take k)) s[k] _ g.out d.out f).mono ?_;rintro e w' ⟨rfl,rfl⟩;go_wp2
   go_round
   case rel=>exact⟨k+1,_,by omega,by go_num,by rw[Kq s k a],rfl⟩
   case measure=>simp[aX];omega
  ·go_wp2
   go_ret;exact⟨uK (by rw[d.out,Et s k a]),rfl⟩
theorem FZ(v k:Nat)(w:af)(d:v<=255)(g:k<=8):
 aF prog 114 #[.int .i64 v,.int .i64 k] w fun e w'=>e= .returned (.int .i64 ((qG v k:Nat):Int))/\w'=w:=by
 go_enter func114,ntmps114
 go_wp2
 go_loop [0,1] (fun x j=> ∃n m y:Nat,n+m=k/\y=v/2^n/\j= .int .i64 m/\x= .int .i64 y) (fun _ j=>(aX j).toNat)
 case atStart=>exact⟨0,k,v,by omega,by simp,rfl,rfl⟩
 case round=>
  obtain⟨n,m,y,a,b,rfl,rfl⟩:=hrel;have hle:y<=255:=by rw[b];exact aK (qy _ _) d
  have f:m<=8:=by omega
  by_cases hm:0<m
  ·have H:ah (n+1+(m-1)=k/\y/2=v/2^(n+1)):=(⟨by omega,by rw[b,xw]⟩:_/\_);clear a b;go_wp2
   go_round
   case rel=>exact⟨n+1,m-1,y/2,H.out.1,H.out.2,by go_num,by go_num⟩
   case measure=>simp[aX];omega
  ·have c:m=0:=by omega
   subst c;have H:ah (y=v/2^k):=(by rw[<-a];exact b:_=_);clear a b;go_wp2
   go_ret;exact⟨uK (by rw[OW v k y H.out];omega),rfl⟩
theorem acs(a b:Nat)(w:af)(h:a<4294967296)(hb:b<4294967296):
 aF prog 128 #[.int .i64 a,.int .i64 b] w fun e w'=>e= .returned (.int .i64 ((a^^^b:Nat):Int))/\w'=w:=by
 go_enter func128,ntmps128
 go_wp2
 go_loop [0,1,5,6,7] (fun x y o u i=> ∃k p q r s:Nat,k<=32/\p=a/2^k/\q=b/2^k/\r=(a^^^b)%2^k/\s=2^k/\x= .int .i64 p/\y= .int .i64 q/\o= .int .i64 r/\u= .int .i64 s/\i= .int .i64 k) (fun _ _ _ _ i=>32-(aX i).toNat)
 case atStart=>exact⟨0,a,b,0,1,by omega,by simp,by simp,by simp[Nat.mod_one],rfl,rfl,rfl,rfl,rfl,rfl⟩
 case round=>
  obtain⟨k,p,q,r,s,j,hp,d,f,hs,rfl,rfl,rfl,rfl,rfl⟩:=hrel;have l:p<4294967296:=by rw[hp];exact Nat.lt_of_le_of_lt (qy _ _) h
  have m:q<4294967296:=by rw[d];exact Nat.lt_of_le_of_lt (qy _ _) hb
  have t:s<=4294967296:=by rw[hs];exact b_ (n:=2) (by omega) j
  have v:r<4294967296:=by rw[f];exact bu (oP _ (Nat.two_pow_pos k)) (b_ (n:=2) (by omega) j)
  by_cases z:k<32
  ·have H:ah (p/2=a/2^(k+1)/\q/2=b/2^(k+1)/\r+(p+q)%2*s=(a^^^b)%2^(k+1)/\2*s=2^(k+1)):=
    (⟨by rw[hp,xw],by rw[d,xw],by rw[f,hp,d,hs,Zn],by rw[hs,iD,eu]⟩:_/\_/\_/\_)
   clear hp d f hs;by_cases c:(p+q)%2=1
   ·have A:((p:Int)+(q:Int))%2=1:=by omega
    rw[c]at H;clear c;go_wp2
    go_round
    case rel=>exact⟨k+1,p/2,q/2,r+s,2*s,by omega,H.out.1,H.out.2.1,by rw[<-H.out.2.2.1];omega,H.out.2.2.2,by go_num,by go_num,by go_num,by go_num,by go_num⟩
    case measure=>simp[aX];omega
   ·have A:((p:Int)+(q:Int))%2=0:=by omega
    rw[show(p+q)%2=0 by omega]at H;clear c;go_wp2
    go_round
    case rel=>exact⟨k+1,p/2,q/2,r,2*s,by omega,H.out.1,H.out.2.1,by rw[<-H.out.2.2.1];omega,H.out.2.2.2,by go_num,by go_num,by go_num,by go_num,by go_num⟩
    case measure=>simp[aX];omega
  ·have g:k=32:=by omega
   subst g;have H:ah (r=a^^^b):=(by rw[f];exact iH (Nat.xor_lt_two_pow (n:=32) h hb):_=_);clear hp d f hs;go_wp2
   go_ret;exact⟨uK (by rw[<-H.out]),rfl⟩
theorem acu(a b:Int)(w:af)(m n:Nat)(c:a=m)(hb:b=n)(hm:m<4294967296)(d:n<4294967296):
 aF prog 128 #[.int .i64 a,.int .i64 b] w fun e w'=>e= .returned (.int .i64 ((m^^^n:Nat):Int))/\w'=w:=by
 subst c hb;exact acs m n w hm d
theorem SS(s:ByteArray)(w:af)(hs:s.size<=maxLen):
 aF prog 91 #[.string s] w fun e w'=>e= .returned (.int .u32 ((4294967295-ET 4294967295 s.data.toList:Nat):Int))/\w'=w:=by
 unfold maxLen at hs;go_enter func91,ntmps91
 go_wp2
 go_loop [3,4] (fun c i=> ∃k:Nat,k<=s.size/\i= .int .i64 k/\c= .int .i64 ((ET 4294967295 (s.data.toList.take k):Nat):Int)) (fun _ i=>s.size-(aX i).toNat)
 case atStart=>exact⟨0,aU _,rfl,rfl⟩
 case round=>
  obtain⟨k,q,rfl,rfl⟩:=hrel;have hb:=SN (s.data.toList.take k) 4294967295 (by decide);by_cases d:k<s.size
  ·obtain⟨c,f⟩:∃c,c=ET 4294967295 (s.data.toList.take k):=⟨_,rfl⟩;rw[<-f]at hb|-;have a:s[k].toNat<=255:=by have:=s[k].toNat_lt;omega
   have l:ah (ET 4294967295 (s.data.toList.take (k+1))=mW 8 c s[k].toNat):=(by rw[BR s k d,BQ,<-f,aco]:_=_);clear f;go_wp2
   go_loop [3,5] (fun x j=> ∃n y:Nat,n<=8/\y=mW n c s[k].toNat/\j= .int .i64 n/\x= .int .i64 y) (fun _ j=>8-(aX j).toNat)
   case atStart=>exact⟨0,c,by omega,rfl,rfl,rfl⟩
   case round=>
    obtain⟨n,y,h,b,rfl,rfl⟩:=hrel;have m:y<4294967296:=by rw[b];exact WT n c _ hb
    by_cases o:n<8
    ·have hm:=OX n c s[k].toNat;rw[<-b]at hm;by_cases heq:y%2=qG s[k].toNat n
     ·rw[aC heq]at hm;have H:ah _:=hm;have p:((y:Int)%2 !=((qG s[k].toNat n:Nat):Int))=false:=by
       rw[bn];omega
      clear hm b heq;go_wp2_with fail
      refine(FZ _ _ _ a h).mono ?_;rintro e w' ⟨rfl,rfl⟩;go_wp2
      go_round
      case rel=>exact⟨n+1,y/2,by omega,H.out.symm,by go_num,by go_num⟩
      case measure=>simp[aX];omega
     ·rw[au heq]at hm;have H:ah _:=hm;have p:((y:Int)%2 !=((qG s[k].toNat n:Nat):Int))=true:=by
       rw[dG];omega
      clear hm b heq;go_wp2_with fail
      refine(FZ _ _ _ a h).mono ?_;rintro e w' ⟨rfl,rfl⟩;go_wp2_with fail
      refine(acu _ _ _ (y/2) 3988292384 (by omega) (by omega) (by omega) (by omega)).mono ?_;rintro e w' ⟨rfl,rfl⟩;go_wp2
      go_round
      case rel=>exact⟨n+1,(y/2)^^^3988292384,by omega,H.out.symm,by go_num,rfl⟩
      case measure=>simp[aX];omega
    ·have g:n=8:=by omega
     subst g;have H:ah _:=b;clear b;go_wp2
     go_round
     case rel=>exact⟨k+1,by omega,by go_num,by rw[l.out,H.out]⟩
     case measure=>simp[aX];omega
  ·rw[Et s k d]at hb|-;go_wp2
   go_ret;exact⟨uK (by omega),rfl⟩
namespace Rf
def wE(L:List Nat):Nat:=(L.filter fun x=>decide (0<x)).length
def sD(L:List Nat):Bool:=wE L==1
theorem OY(L:List Nat)(x:Nat):wE (L++[x])=wE L+if 0<x then 1 else 0:=by unfold wE;rw[List.filter_append];by_cases h:0<x<;>simp[h]
theorem SV(L:List Nat):wE L<=L.length:=List.length_filter_le _ _
def order:List Nat:=[16,17,18,0,8,7,9,6,10,5,11,4,12,3,13,2,14,1,15]
def lX(s:ByteArray):Nat->Nat->List Nat->bZ->List Nat×bZ
 |0,_,L,st=>(L,st)
 |j+1,i,L,st=>lX s j (i+1) (L.set (order.getD i 0) (bI s 3 st).1) (bI s 3 st).2
def jb(s:ByteArray)(L:List Nat)(y:Nat)(st:bZ):(Nat×Nat×bZ) ⊕ bZ:=
 if y=16 then(if L.length=0 then .inr ⟨(bI s 2 st).2.pos,true⟩else .inl (L.getD (L.length-1) 0,3+(bI s 2 st).1,(bI s 2 st).2))
 else if y=17 then .inl (0,3+(bI s 3 st).1,(bI s 3 st).2)
 else if y=18 then .inl (0,11+(bI s 7 st).1,(bI s 7 st).2)
 else .inl (y,1,st)
def gV(s:ByteArray)(N:Nat)(cs:List (Nat×List UInt8)):Nat->List Nat->bZ->List Nat×bZ
 |0,L,st=>(L,st)
 |f+1,L,st=>if L.length<N then(if st.dA=true then(L,st)else
   match jb s L (cu s cs st).1 (cu s cs st).2 with
   | .inl (v,k,m_)=>gV s N cs f (L++List.replicate k v) m_
   | .inr m_=>(L,m_))else(L,st)
theorem AQ(s:ByteArray)(N:Nat)(cs:List (Nat×List UInt8))(f:Nat)(L:List Nat)(st:bZ)(h:¬L.length<N):gV s N cs f L st=(L,st):=by
 cases f with
 |zero=>rfl
 |succ f=>rw[gV,au h]
theorem zC(s:ByteArray)(N:Nat)(cs:List (Nat×List UInt8))(f:Nat)(L:List Nat)(st:bZ)(h:st.dA=true):gV s N cs f L st=(L,st):=by
 cases f with
 |zero=>rfl
 |succ f=>
  rw[gV];by_cases a:L.length<N
  ·rw[aC a,aC h]
  ·rw[au a]
theorem F_(s:ByteArray)(N:Nat)(cs:List (Nat×List UInt8))(f:Nat)(L:List Nat)(st:bZ)(h:L.length<N)(hb:st.dA=false)(v k:Nat)(m_:bZ)(e:jb s L (cu s cs st).1 (cu s cs st).2= .inl (v,k,m_)):
 gV s N cs (f+1) L st=gV s N cs f (L++List.replicate k v) m_:=by
 rw[gV,aC h,au (by simp[hb]),e]
theorem Gf(s:ByteArray)(N:Nat)(cs:List (Nat×List UInt8))(f:Nat)(L:List Nat)(st:bZ)(h:L.length<N)(hb:st.dA=false)(m_:bZ)(e:jb s L (cu s cs st).1 (cu s cs st).2= .inr m_):
 gV s N cs (f+1) L st=(L,m_):=by
 rw[gV,aC h,au (by simp[hb]),e]
theorem SX(L:List Nat)(n N:Nat)(j:Nat):∀s st,s+j<=N->(∀c∈st.cs,c.1<N)->∀c∈(nM L n j s st).cs,c.1<N:=by
 induction j with
 |zero=>intro s st _ h;exact h
 |succ j b=>
  intro s st hs h;refine b (s+1) _ (by omega) ?_;unfold ru;split
  ·intro c a;rcases List.mem_append.1 a with a|a
   ·exact h c a
   ·simp at a;subst a;show s<N;omega
  ·exact h
theorem SY(L:List Nat)(j:Nat):∀n st,(∀c∈st.cs,c.1<L.length)->∀c∈(vV L j n st).cs,c.1<L.length:=by
 induction j with
 |zero=>intro n st h;exact h
 |succ j a=>intro n st h;exact a _ _ (SX L n L.length L.length 0 st (by omega) h)
theorem S_(L:List Nat):∀c∈(bJ L).cs,c.1<L.length:=SY L 15 1 _ (by intro c a;cases a)
theorem WW(cs:List (Nat×List UInt8))(p:List UInt8)(y N:Nat)(h:∀c∈cs,c.1<N)(e:kS cs p=some y):y<N:=by unfold kS at e;obtain⟨c,a,rfl⟩:=Option.map_eq_some_iff.1 e;exact h c (List.mem_of_find?_eq_some a)
theorem Zq(s:ByteArray)(cs:List (Nat×List UInt8))(N:Nat)(a:0<N)(h:∀c∈cs,c.1<N)(k:Nat):∀pre st,(pF s cs k pre st).1<N:=by
 induction k with
 |zero=>intro pre st;exact a
 |succ k b=>
  intro pre st;rw[pF];split
  ·exact a
  ·split
   ·exact a
   ·split
    ·rename_i y e;exact WW cs _ y N h e
    ·exact b _ _
theorem OZ(s:ByteArray)(L:List Nat)(st:bZ)(h:0<L.length):(cu s (bJ L).cs st).1<L.length:=Zq s _ _ h (S_ L) 15 [] st
def uM(a b:Nat)(st:bZ):bZ:=if 286<a\/30<b then⟨st.pos,true⟩else st
def yu(m:Nat)(st:bZ):bZ:=if m=32768 then st else⟨st.pos,true⟩
def ad2(a:Nat)(L:List Nat):Bool:=(bJ (L.take a)).nZ==16384&&L.getD 256 0==1
def ad3(a:Nat)(L:List Nat):Bool:=(bJ (L.drop a)).nZ==0||((bJ (L.drop a)).nZ==16384&&sD (L.drop a))
def rO(a:Nat)(L:List Nat):Bool:=L.getD 256 0==0||((bJ (L.take a)).nZ !=32768&& !(ad2 a L&&sD (L.take a)))||((bJ (L.drop a)).nZ !=32768&& !ad3 a L)
def zY(s:ByteArray)(aN most a b:Nat)(out:List UInt8)(L:List Nat)(st:bZ):US:=
 if st.dA=true\/L.length≠a+b then⟨⟨st.pos,true⟩,out⟩else
 if rO a L=true then⟨⟨st.pos,true⟩,out⟩else gm s aN most (bJ (L.take a)).cs (bJ (L.drop a)).cs (8*s.size+1) ⟨st,out⟩
def yc(s:ByteArray)(a b n:Nat)(st:bZ):List Nat×bZ:=
 gV s (a+b) (bJ (lX s n 0 (List.replicate 19 0) st).1).cs (a+b+1) [] (yu (bJ (lX s n 0 (List.replicate 19 0) st).1).nZ (lX s n 0 (List.replicate 19 0) st).2)
def yx(s:ByteArray)(aN most:Nat)(u:US):US:=
 let a:=bI s 5 u.st
 let b:=bI s 5 a.2
 let c:=bI s 4 b.2
 let l:=yc s (a.1+257) (b.1+1) (c.1+4) (uM (a.1+257) (b.1+1) c.2)
 zY s aN most (a.1+257) (b.1+1) u.out l.1 l.2
theorem Tc(s:ByteArray)(j:Nat):∀i L st,(lX s j i L st).1.length=L.length:=by
 induction j with
 |zero=>intro i L st;rfl
 |succ j a=>intro i L st;simp only[lX];rw[a];simp
theorem Kr(s:ByteArray)(j:Nat):∀i L st,(∀x∈L,x<=15)->∀x∈(lX s j i L st).1,x<=15:=by
 induction j with
 |zero=>intro i L st h;exact h
 |succ j a=>
  intro i L st h;refine a _ _ _ (fun x hx=> ?_);rcases List.mem_or_eq_of_mem_set hx with hx|hx
  ·exact h x hx
  ·subst hx;have:=oG s 3 st;omega
theorem gU(L:List Nat)(N:Nat)(h:∀x∈L,x<=N)(i:Nat):L.getD i 0<=N:=by
 by_cases hi:i<L.length
 ·simp only[List.getD,List.getElem?_eq_getElem hi,Option.getD_some];exact h _ (xm hi)
 ·simp[List.getD,List.getElem?_eq_none (show L.length<=i by omega)]
theorem BU(s:ByteArray)(aN most a b:Nat)(out:List UInt8)(L:List Nat)(st:bZ)(h:st.dA=true\/L.length≠a+b):zY s aN most a b out L st=⟨⟨st.pos,true⟩,out⟩:=aC h
theorem Gg(s:ByteArray)(aN most a b:Nat)(out:List UInt8)(L:List Nat)(st:bZ)(h:st.dA=false)(c:L.length=a+b)(hw:rO a L=true):zY s aN most a b out L st=⟨⟨st.pos,true⟩,out⟩:=by unfold zY;rw[au (by simp[h,c]),aC hw]
theorem Vw(s:ByteArray)(aN most a b:Nat)(out:List UInt8)(L:List Nat)(st:bZ)(h:st.dA=false)(c:L.length=a+b)(hw:rO a L=false):zY s aN most a b out L st=gm s aN most (bJ (L.take a)).cs (bJ (L.drop a)).cs (8*s.size+1) ⟨st,out⟩:=by unfold zY;rw[au (by simp[h,c]),au (by simp[hw])]
theorem ad4(L:List Nat)(h:L.length<=400):(bJ L).nZ<=1000000000:=by have a:=(JO L 15 1 ⟨[],0,0,0⟩ 0 (by omega) ⟨by simp,by simp,by simp,by simp⟩);have b:=a.2.2.1;have h3:=a.2.2.2;unfold bJ;omega
theorem BV(most:Nat)(x:UInt8)(u:US):(mQ most x u).st.pos=u.st.pos:=by
 unfold mQ;split
 ·rfl
 ·split<;>rfl
theorem aes(s:ByteArray)(most k:Nat):∀u,u.st.pos<=(Jb s most k u).st.pos:=by
 induction k with
 |zero=>intro u;exact ag _
 |succ k a=>
  intro u;rw[Jb];split
  ·exact ag _
  ·refine aK ?_ (a _);rw[BV];exact mF s 8 u.st
theorem WX(st:bZ):st.pos<=(qB st).pos:=by unfold qB;show st.pos<=(st.pos+7)/8*8;omega
theorem Zr(s:ByteArray)(st:bZ):st.pos<=(nC s st).2.pos:=by have h:st.pos<=(bI s 16 (bI s 16 (qB st)).2).2.pos:=aK (WX st) (aK (mF s 16 _) (mF s 16 _));unfold nC;dsimp only;split<;>exact h
theorem Td(s:ByteArray)(most:Nat)(u:US):u.st.pos<=(iF s most u).st.pos:=aK (Zr s u.st) (aes s most _ ⟨(nC s u.st).2,u.out⟩)
theorem Vx(most Dp k:Nat):∀u,(BI most Dp k u).st.pos=u.st.pos:=by
 induction k with
 |zero=>intro u;rfl
 |succ k a=>
  intro u;rw[BI];split
  ·rfl
  ·rw[a,BV]
theorem Kt(s:ByteArray)(aN len:Nat)(B:List (Nat×List UInt8))(y:Nat)(st:bZ):st.pos<=(iQ s aN len B y st).st.pos:=by
 have a:=mF s (ja y).2 st;have b:=Fb s B (bI s (ja y).2 st).2;unfold iQ;dsimp only;split
 ·exact aK a b
 ·have h3:=mF s (iK (cu s B (bI s (ja y).2 st).2).1).2 (cu s B (bI s (ja y).2 st).2).2;dsimp only;split<;>exact aK a (aK b h3)
theorem O_(s:ByteArray)(aN most:Nat)(A B:List (Nat×List UInt8))(f:Nat):∀u,u.st.pos<=(gm s aN most A B f u).st.pos:=by
 induction f with
 |zero=>intro u;exact ag _
 |succ f b=>
  intro u;have a:=Fb s A u.st;rw[gm];dsimp only;split
  ·exact ag _
  ·split
   ·exact a
   ·split
    ·refine aK ?_ (b _);rw[BV];exact a
    ·split
     ·exact a
     ·split
      ·exact a
      ·have c:=Kt s aN u.out.length B (cu s A u.st).1 (cu s A u.st).2;split
       ·exact aK a c
       ·refine aK ?_ (b _);rw[Vx];exact aK a c
theorem WY(s:ByteArray)(j:Nat):∀i L st,st.pos<=(lX s j i L st).2.pos:=by
 induction j with
 |zero=>intro i L st;exact ag _
 |succ j a=>intro i L st;exact aK (mF s 3 st) (a _ _ _)
theorem Zt(s:ByteArray)(N:Nat)(cs:List (Nat×List UInt8))(f:Nat):∀L st,st.pos<=(gV s N cs f L st).2.pos:=by
 induction f with
 |zero=>intro L st;exact ag _
 |succ f j=>
  intro L st;have h:=Fb s cs st;rw[gV];split
  ·split
   ·exact ag _
   ·have hs:∀y a,(match jb s L y a with| .inl (_,_,m_)=>a.pos<=m_.pos| .inr m_=>a.pos<=m_.pos):=by
     intro y a;unfold jb;by_cases b:y=16
     ·rw[aC b];by_cases i:L.length=0
      ·rw[aC i];exact mF s 2 a
      ·rw[au i];exact mF s 2 a
     ·rw[au b];by_cases c:y=17
      ·rw[aC c];exact mF s 3 a
      ·rw[au c];by_cases d:y=18
       ·rw[aC d];exact mF s 7 a
       ·rw[au d];exact ag _
    have g:=hs (cu s cs st).1 (cu s cs st).2;split
    ·rename_i v k m_ e;rw[e]at g;exact aK h (aK g (j _ _))
    ·rename_i m_ e;rw[e]at g;exact aK h g
  ·exact ag _
theorem WZ(a b:Nat)(st:bZ):(uM a b st).pos=st.pos:=by unfold uM;split<;>rfl
theorem Zu(m:Nat)(st:bZ):(yu m st).pos=st.pos:=by unfold yu;split<;>rfl
theorem acv(s:ByteArray)(aN most a b:Nat)(out:List UInt8)(L:List Nat)(st:bZ):st.pos<=(zY s aN most a b out L st).st.pos:=by
 unfold zY;split
 ·exact ag _
 ·split
  ·exact ag _
  ·exact O_ s aN most _ _ _ ⟨st,out⟩
theorem Zv(s:ByteArray)(a b n:Nat)(st:bZ):st.pos<=(yc s a b n st).2.pos:=by unfold yc;refine aK ?_ (Zt s _ _ _ _ _);rw[Zu];exact WY s _ _ _ _
theorem acw(s:ByteArray)(aN most:Nat)(u:US):u.st.pos<=(yx s aN most u).st.pos:=by unfold yx;dsimp only;refine aK ?_ (acv s aN most _ _ u.out _ _);refine aK ?_ (Zv s _ _ _ _);rw[WZ];exact aK (mF s 5 u.st) (aK (mF s 5 _) (mF s 4 _))
theorem W_(s:ByteArray)(st:bZ)(h:st.dA=true):(gy s st).2.dA=true:=by rw[yD s st (.inl h)]
theorem Ku(s:ByteArray)(k:Nat):∀v u st,st.dA=true->(Dk s k v u st).2.dA=true:=by
 induction k with
 |zero=>intro v u st h;exact h
 |succ k a=>intro v u st h;exact a _ _ _ (W_ s st h)
theorem nK(s:ByteArray)(n:Nat)(st:bZ)(h:st.dA=true):(bI s n st).2.dA=true:=Ku s n _ _ st h
def rP(i:Nat):Nat:=if 144<=i/\i<256 then 9 else if 256<=i/\i<280 then 7 else 8
def fH:List Nat:=(List.range 288).map rP
def lT(s:ByteArray)(aN most:Nat)(y:Nat)(u:US):US:=
 if u.st.dA=true then u else if y=0 then iF s most u else if y=1 then gm s aN most (bJ fH).cs (bJ (List.replicate 32 5)).cs (8*s.size+1) u
 else if y=2 then yx s aN most u else⟨⟨u.st.pos,true⟩,u.out⟩
theorem Gh(s:ByteArray)(aN most y:Nat)(u:US):u.st.pos<=(lT s aN most y u).st.pos:=by
 unfold lT;split
 ·exact ag _
 ·split
  ·exact Td s most u
  ·split
   ·exact O_ s aN most _ _ _ u
   ·split
    ·exact acw s aN most u
    ·exact ag _
def jq(s:ByteArray)(aN most:Nat)(u:US):Nat×US:=
 ((gy s u.st).1,lT s aN most (bI s 2 (gy s u.st).2).1 ⟨(bI s 2 (gy s u.st).2).2,u.out⟩)
def rQ(s:ByteArray)(aN most:Nat):Nat->US->US
 |0,u=>u
 |f+1,u=>if u.st.dA=true then u else if(jq s aN most u).1=0 then rQ s aN most f (jq s aN most u).2 else(jq s aN most u).2
theorem Gi(s:ByteArray)(aN most f:Nat)(u:US)(h:u.st.dA=true):rQ s aN most f u=u:=by
 cases f with
 |zero=>rfl
 |succ f=>rw[rQ,aC h]
theorem MI(s:ByteArray)(aN most f:Nat)(u:US)(h:u.st.dA=false)(a:(jq s aN most u).1=0):rQ s aN most (f+1) u=rQ s aN most f (jq s aN most u).2:=by rw[rQ,au (by simp[h]),aC a]
theorem Gj(s:ByteArray)(aN most f:Nat)(u:US)(h:u.st.dA=false)(a:(jq s aN most u).1≠0):rQ s aN most (f+1) u=(jq s aN most u).2:=by rw[rQ,au (by simp[h]),au a]
def Pg(s:ByteArray)(p:Nat):Nat:=fP (aA s (p/8)) (p%8)
theorem acy(s:ByteArray)(p:Nat):Pg s p<=1:=Eg _ _
def bH(s:ByteArray)(p:Nat):Nat->Nat
 |0=>0
 |n+1=>bH s p n+2^n*Pg s (p+n)
theorem fQ(s:ByteArray)(p n:Nat):bH s p n<2^n:=by
 induction n with
 |zero=>simp[bH]
 |succ n a=>have h:=acy s (p+n);have b:2^n*Pg s (p+n)<=2^n*1:=Nat.mul_le_mul_left _ h;rw[bH,iD];omega
theorem wM(s:ByteArray)(p a b:Nat):bH s p (a+b)=bH s p a+2^a*bH s (p+a) b:=by
 induction b with
 |zero=>simp[bH]
 |succ b c=>rw[<-kF,bH,c,bH,Nat.mul_add,<-jM,<-Nat.pow_add,kF,kF p a b]
theorem Dq(s:ByteArray)(p a c:Nat)(h:a<=c):bH s p c%2^a=bH s p a:=by have e:=wM s p a (c-a);rw[show a+(c-a)=c by omega]at e;rw[e,Nat.add_mul_mod_self_left,iH (fQ s p a)]
theorem Dt(s:ByteArray)(p a c:Nat)(h:a<=c):bH s p c/2^a=bH s (p+a) (c-a):=by have e:=wM s p a (c-a);rw[show a+(c-a)=c by omega]at e;rw[e,Nat.add_mul_div_left _ _ (Nat.two_pow_pos a),Nat.div_eq_of_lt (fQ s p a),fF]
theorem Tf(v:Nat)(h:v<=255):fP v 0+2*fP v 1+4*fP v 2+8*fP v 3+16*fP v 4+32*fP v 5+64*fP v 6+128*fP v 7=v:=by simp only[fP];have a:(2:Nat)^0=1:=rfl;have b:(2:Nat)^1=2:=rfl;have c:(2:Nat)^2=4:=rfl;have d:(2:Nat)^3=8:=rfl;have e:(2:Nat)^4=16:=rfl;have f:(2:Nat)^5=32:=rfl;have g:(2:Nat)^6=64:=rfl;have i:(2:Nat)^7=128:=rfl;rw[a,b,c,d,e,f,g,i];omega
theorem pI(s:ByteArray)(p t:Nat)(h:p=8*t):bH s p 8=aA s t:=by
 have a:∀k,k<8->Pg s (p+k)=fP (aA s t) k:=fun k a=>by unfold Pg;rw[show(p+k)/8=t by omega,show(p+k)%8=k by omega]
 simp only[bH];rw[a 0 (by omega),a 1 (by omega),a 2 (by omega),a 3 (by omega),a 4 (by omega),a 5 (by omega),a 6 (by omega),a 7 (by omega)];have h8:=Tf (aA s t) (dH s t);have b:(2:Nat)^0=1:=rfl;have c:(2:Nat)^1=2:=rfl;have d:(2:Nat)^2=4:=rfl;have e:(2:Nat)^3=8:=rfl;have f:(2:Nat)^4=16:=rfl;have g:(2:Nat)^5=32:=rfl;have i:(2:Nat)^6=64:=rfl;have j:(2:Nat)^7=128:=rfl;rw[b,c,d,e,f,g,i,j];omega
theorem Ti(s:ByteArray)(p c t:Nat)(h:p+c=8*t):bH s p (c+8)=bH s p c+aA s t*2^c:=by rw[wM,pI s (p+c) t h,eu]
theorem acz(s:ByteArray)(k:Nat):∀v i p,p+k<=8*s.size->Dk s k v (2^i) ⟨p,false⟩=(v+2^i*bH s p k,⟨p+k,false⟩):=by
 induction k with
 |zero=>intro v i p _;simp[Dk,bH]
 |succ k a=>intro v i p h;rw[Dk,E_ s ⟨p,false⟩ (by simp;omega)];dsimp only;rw[show 2*2^i=2^(i+1)by rw[iD,eu],a _ _ _ (by omega),Nat.add_comm k 1,wM s p 1 k];simp only[bH,Nat.pow_zero,Nat.one_mul,Nat.add_zero,Nat.zero_add,Nat.pow_succ,Pg];rw[Nat.mul_add,jM (2^i) 2,kF,kF p 1 k]
theorem jc(s:ByteArray)(n p:Nat)(h:p+n<=8*s.size):bI s n ⟨p,false⟩=(bH s p n,⟨p+n,false⟩):=by have:=acz s n 0 0 p h;simpa [bI]using this
theorem Tj(s:ByteArray)(k:Nat):∀v u p,p<=8*s.size->¬p+k<=8*s.size->(Dk s k v u ⟨p,false⟩).2.dA=true:=by
 induction k with
 |zero=>intro v u p a b;omega
 |succ k c=>
  intro v u p a b;rw[Dk];by_cases hp:p<8*s.size
  ·rw[E_ s ⟨p,false⟩ (by simp;omega)];exact c _ _ _ (by show p+1<=_;omega) (by show¬p+1+k<=_;omega)
  ·rw[yD s ⟨p,false⟩ (.inr (by show 8*s.size<=p;omega))];exact Ku s k _ _ _ rfl
theorem uN(s:ByteArray)(n p:Nat)(a:p<=8*s.size)(b:¬p+n<=8*s.size):(bI s n ⟨p,false⟩).2.dA=true:=Tj s n _ _ p a b
theorem zD(s:ByteArray)(p:Nat)(h:p<8*s.size):gy s ⟨p,false⟩=(bH s p 1,⟨p+1,false⟩):=by rw[E_ s ⟨p,false⟩ (by simp;omega)];simp[bH,Pg]
theorem Gl(s:ByteArray)(p:Nat)(h:¬p<8*s.size):(gy s ⟨p,false⟩).2.dA=true:=by rw[yD s ⟨p,false⟩ (.inr (by show 8*s.size<=p;omega))]
theorem p_(s:ByteArray)(t:Nat):(s.extract t s.size).size=s.size-t:=by simp
theorem Xa(s:ByteArray)(t:Nat)(h:t<s.size):(s.extract t s.size).extract 1 (s.extract t s.size).size=s.extract (t+1) s.size:=by
 apply oJ;simp only[ByteArray.data_extract,p_ s t,Array.extract_extract];congr 1
 omega
def cN(L:List Nat)(n:Nat):Nat:=if n=0 then 0 else L.count n
def fN(L:List Nat):Nat->Nat
 |0=>0
 |n+1=>2*(fN L n+cN L n)
def sN(L:List Nat):Nat->Nat
 |0=>0
 |n+1=>sN L n+cN L n
def kN(L:List Nat):Nat->Nat
 |0=>0
 |n+1=>kN L n+cN L n*pw (15-n)
def jy(L:List Nat)(n m:Nat):List Nat:=(List.range m).filter fun s=>L.getD s 0==n
def qJ(L:List Nat)(n:Nat):List Nat:=if n=0 then []else jy L n L.length
def BZ(L:List Nat):Nat->List Nat
 |0=>[]
 |n+1=>BZ L n++qJ L n
theorem lU(L:List Nat)(n m:Nat):jy L n (m+1)=if L.getD m 0=n then jy L n m++[m]else jy L n m:=by
 unfold jy;rw[List.range_succ,List.filter_append];by_cases h:L.getD m 0=n
 ·rw[aC h];simp only[List.filter_cons,List.filter_nil,h,beq_self_eq_true,if_true]
 ·rw[au h];simp only[List.filter_cons,List.filter_nil,beq_eq_false_iff_ne.2 h,Bool.false_eq_true,if_false,List.append_nil]
theorem Tt(L:List Nat)(n:Nat):∀m,m<=L.length->(jy L n m).length=(L.take m).count n:=by
 intro m;induction m with
 |zero=>intro _;simp[jy]
 |succ m b=>
  intro h;have hm:L.getD m 0=L[m]'(by omega):=by simp[List.getD,List.getElem?_eq_getElem (show m<L.length by omega)]
  rw[lU,lN (by omega),List.count_append,<-b (by omega)];by_cases a:L.getD m 0=n
  ·rw[aC a];rw[hm]at a;simp[a]
  ·rw[au a];rw[hm]at a;simp[a]
theorem pJ(L:List Nat)(n:Nat):(qJ L n).length=cN L n:=by
 unfold qJ cN;by_cases h:n=0
 ·simp[h]
 ·rw[au h,au h,Tt L n L.length (ag _),sS]
theorem Zz(L:List Nat)(n:Nat):(BZ L n).length=sN L n:=by
 induction n with
 |zero=>rfl
 |succ n a=>rw[BZ,bQ,a,pJ,sN]
theorem zF(L:List Nat)(a b:Nat)(h:a<=b):sN L a<=sN L b:=by
 induction b with
 |zero=>have:a=0:=by omega
        subst this;exact ag _
 |succ b c=>
  by_cases e:a=b+1
  ·subst e;exact ag _
  ·have:=c (by omega);rw[sN];omega
theorem VA(L:List Nat)(m:Nat):∀n j,n<m->j<cN L n->(BZ L m).getD (sN L n+j) 0=(qJ L n).getD j 0:=by
 induction m with
 |zero=>intro n j h;omega
 |succ m a=>
  intro n j f b;have c:=Zz L m;have g:=pJ L n;by_cases e:n=m
  ·subst e;rw[BZ,ak,dw (by omega),c,show sN L n+j-sN L n=j by omega,<-ak]
  ·have d:=a n j (by omega) b;have h3:=zF L (n+1) m (by omega);rw[sN]at h3;rw[BZ,ak,dh (by omega),<-ak];exact d
def iL(v n:Nat):List Nat->List (Nat×List UInt8)
 | []=>[]
 |x::l=>(x,qj v n)::iL (v+1) n l
theorem Gm(n:Nat)(l:List Nat):∀v x,iL v n (l++[x])=iL v n l++[(x,qj (v+l.length) n)]:=by
 induction l with
 |nil=>intro v x;rfl
 |cons y l a=>intro v x;simp only[List.cons_append,iL,a,List.length_cons];rw[show v+1+l.length=v+(l.length+1)by omega]
def ZA(L:List Nat):Nat->List (Nat×List UInt8)
 |0=>[]
 |n+1=>ZA L n++iL (fN L n) n (qJ L n)
theorem Xc(L:List Nat)(n:Nat)(k:1<=n)(j:Nat):∀s st,s+j=L.length->st.qA<=n->st.value*pw (n-st.qA)=fN L n+(jy L n s).length->st.cs=ZA L n++iL (fN L n) n (jy L n s)->st.nZ=kN L n+(jy L n s).length*pw (15-n)->
 (nM L n j s st).qA<=n/\(nM L n j s st).value*pw (n-(nM L n j s st).qA)=fN L n+cN L n/\(nM L n j s st).cs=ZA L (n+1)/\(nM L n j s st).nZ=kN L (n+1):=by
 induction j with
 |zero=>
  intro s st hs c h3 b a;have d:s=L.length:=by omega
  subst d;have f:qJ L n=jy L n L.length:=by unfold qJ;rw[au (by omega)]
  have g:=pJ L n;rw[f]at g;rw[g]at h3 a;refine⟨c,h3,?_,a⟩;show st.cs=_;rw[b,ZA,f]
 |succ j h=>
  intro s st hs c h3 b a;rw[nM];by_cases e:L.getD s 0=n
  ·have es:jy L n (s+1)=jy L n s++[s]:=by rw[lU,aC e]
   refine h (s+1) _ (by omega) ?_ ?_ ?_ ?_
   ·unfold ru;rw[aC e];exact ag _
   ·unfold ru;rw[aC e,es];simp only[Nat.sub_self,List.length_append,List.length_cons,List.length_nil];rw[h3];simp[pw];omega
   ·unfold ru;rw[aC e,es,Gm];simp only[h3,b,List.append_assoc]
   ·unfold ru;rw[aC e,es];simp only[List.length_append,List.length_cons,List.length_nil];rw[a,fO];omega
  ·have es:jy L n (s+1)=jy L n s:=by rw[lU,au e]
   have i:ru L n s st=st:=by unfold ru;rw[au e]
   rw[i];exact h (s+1) _ (by omega) c (by rw[es];exact h3) (by rw[es];exact b) (by rw[es];exact a)
theorem Xd(L:List Nat)(j:Nat):∀n st,1<=n->st.qA<=n->st.value*pw (n-st.qA)=fN L n->st.cs=ZA L n->st.nZ=kN L n->(vV L j n st).cs=ZA L (n+j)/\(vV L j n st).nZ=kN L (n+j):=by
 induction j with
 |zero=>intro n st _ _ _ e f;exact⟨e,f⟩
 |succ j g=>intro n st h i h3 e f;obtain⟨a,b,c,d⟩:=Xc L n h L.length 0 st (by omega) i (by simpa [jy]using h3) (by simpa [jy,iL]using e) (by simpa [jy]using f);rw[vV,show n+(j+1)=n+1+j by omega];refine g (n+1) _ (by omega) (by omega) ?_ c d;rw[fN,<-b,show n+1-(nM L n L.length 0 st).qA=(n-(nM L n L.length 0 st).qA)+1 by omega,BF];rw[Nat.mul_left_comm]
theorem Dw(L:List Nat):(bJ L).cs=ZA L 16/\(bJ L).nZ=kN L 16:=by
 refine Xd L 15 1 ⟨[],0,0,0⟩ (by omega) (by simp) ?_ ?_ ?_
 ·simp[fN,cN]
 ·rfl
 ·simp[kN,cN]
theorem ae_(L:List Nat):∀n,n<=15->fN L n*pw (15-n)=kN L n:=by
 intro n;induction n with
 |zero=>intro _;simp[fN,kN]
 |succ n a=>
  intro h;have e:pw (15-n)=2*pw (15-(n+1)):=by rw[<-BF];congr 1;omega
  rw[fN,kN,<-a (by omega),<-fO,e,eu 2 (fN L n+cN L n),jM]
theorem acB(L:List Nat)(a b:Nat)(h:a<=b):kN L a<=kN L b:=by
 induction b with
 |zero=>have:a=0:=by omega
        subst this;exact ag _
 |succ b c=>
  by_cases e:a=b+1
  ·subst e;exact ag _
  ·have:=c (by omega);rw[kN];omega
theorem acC(L:List Nat)(n:Nat)(a:n<=15)(hK:kN L 16<=32768):fN L n+cN L n<=2^n:=by
 have b:=acB L (n+1) 16 (by omega);have c:=ae_ L n a;rw[kN,<-c,<-fO]at b;have e:(2:Nat)^n*pw (15-n)=32768:=by unfold pw;rw[<-Nat.pow_add,show n+(15-n)=15 by omega]
 have h3:(fN L n+cN L n)*pw (15-n)<=2^n*pw (15-n):=by rw[e];omega
 exact Nat.le_of_mul_le_mul_right h3 (LQ _)
theorem ZB(j:Nat):∀v acc,zW j v acc=zW j v []++acc:=by
 induction j with
 |zero=>intro v acc;simp[zW]
 |succ j a=>intro v acc;rw[zW,a,zW,a _ [_],bV];rfl
theorem Dx(v n:Nat):qj v (n+1)=qj (v/2) n++[sign (v%2)]:=by unfold qj;rw[zW,ZB];rfl
theorem Dy(v b n:Nat)(hb:b<=1):qj v n++[sign b]=qj (2*v+b) (n+1):=by rw[Dx,show(2*v+b)/2=v by omega,show(2*v+b)%2=b by omega]
theorem ZC(a b:Nat)(e:a<=1)(hb:b<=1)(h:sign a=sign b):a=b:=by unfold sign at h;by_cases c:a=1<;>by_cases d:b=1<;>simp[c,d]at h|- <;>omega
theorem ZE(n:Nat):∀v u,v<2^n->u<2^n->qj v n=qj u n->v=u:=by
 induction n with
 |zero=>intro v u a hu _;simp at a hu;omega
 |succ n c=>intro v u a hu h;rw[Dx,Dx]at h;have b:=List.append_inj' h rfl;rw[iD]at a hu;have d:=c _ _ (by omega) (by omega) b.1;have e:=ZC _ _ (by omega) (by omega) (List.cons.inj b.2).1;omega
theorem ML(a b:List (Nat×List UInt8))(p:List UInt8):kS (a++b) p=(kS a p).or (kS b p):=by unfold kS;rw[List.find?_append];cases List.find? (fun c=>c.2==p) a<;>rfl
theorem AV(cs:List (Nat×List UInt8))(p:List UInt8)(h:∀c∈cs,c.2.length≠p.length):kS cs p=none:=by
 unfold kS;rw[Option.map_eq_none_iff,List.find?_eq_none];intro c a e;have:c.2=p:=by simpa using e
 exact h c a (by rw[this])
theorem Ah(n:Nat)(l:List Nat):∀v,∀c∈iL v n l,c.2.length=n:=by
 induction l with
 |nil=>intro v c a;cases a
 |cons x l b=>
  intro v c a;rcases List.mem_cons.1 a with rfl|a
  ·exact vI _ _
  ·exact b _ c a
theorem Tu(n:Nat)(l:List Nat):∀v c,c<2^n->v+l.length<=2^n->v<=c->kS (iL v n l) (qj c n)=if c-v<l.length then some (l.getD (c-v) 0)else none:=by
 induction l with
 |nil=>intro v c _ _ _;simp[iL,kS]
 |cons x l f=>
  intro v c b g hle;simp only[List.length_cons]at g|-;by_cases e:c=v
  ·subst e;have:kS (iL c n (x::l)) (qj c n)=some x:=by simp[iL,kS]
   rw[this,aC (by omega)];simp
  ·have a:(qj v n==qj c n)=false:=by
    rw[ax];intro h;exact e (ZE n v c (by omega) b h).symm
   have i:kS (iL v n (x::l)) (qj c n)=kS (iL (v+1) n l) (qj c n):=by simp only[iL,kS,List.find?_cons,a]
   rw[i,f (v+1) c b (by omega) (by omega)];obtain⟨d,rfl⟩:∃d,c=v+1+d:=⟨c-(v+1),by omega⟩;rw[show v+1+d-(v+1)=d by omega,show v+1+d-v=d+1 by omega];by_cases h3:d<l.length
   ·rw[aC h3,aC (by omega)];simp
   ·rw[au h3,au (by omega)]
theorem VB(L:List Nat)(m:Nat):∀c∈ZA L m,c.2.length<m:=by
 induction m with
 |zero=>intro c a;cases a
 |succ m b=>
  intro c a;rcases List.mem_append.1 a with a|a
  ·have:=b c a;omega
  ·have:=Ah m _ _ c a;omega
theorem Ky(L:List Nat)(n:Nat)(p:List UInt8)(hp:p.length=n)(m:Nat):n<m->kS (ZA L m) p=kS (iL (fN L n) n (qJ L n)) p:=by
 induction m with
 |zero=>intro h;omega
 |succ m b=>
  intro h;rw[ZA,ML];by_cases e:n=m
  ·subst e;rw[AV (ZA L n) p (fun c a=>by have:=VB L n c a;omega)];rfl
  ·rw[b (by omega),AV (iL (fN L m) m (qJ L m)) p (fun c a=>by have:=Ah m _ _ c a;omega)];cases kS (iL (fN L n) n (qJ L n)) p<;>rfl
theorem Pm(L:List Nat)(n c:Nat)(a:n<=15)(b:c<2^n)(hF:fN L n<=c)(hK:kN L 16<=32768):
 kS (bJ L).cs (qj c n)=if c-fN L n<cN L n then some ((BZ L 16).getD (sN L n+(c-fN L n)) 0)else none:=by
 have e:=acC L n a hK;have d:=pJ L n;rw[(Dw L).1,Ky L n _ (vI _ _) 16 (by omega),Tu n _ _ _ b (by omega) hF,d];by_cases h:c-fN L n<cN L n
 ·rw[aC h,aC h,VA L 16 n _ (by omega) h]
 ·rw[au h,au h]
def dK(L:List Nat):Nat:=L.foldl max 0
theorem MN(L:List Nat):∀a,a<=L.foldl max a/\∀x∈L,x<=L.foldl max a:=by
 induction L with
 |nil=>intro a;exact⟨ag _,fun x hx=>by cases hx⟩
 |cons y L c=>
  intro a;obtain⟨b,d⟩:=c (max a y);refine⟨aK (Nat.le_max_left a y) b,fun x hx=> ?_⟩;rcases List.mem_cons.1 hx with rfl|hx
  ·exact aK (Nat.le_max_right a x) b
  ·exact d x hx
theorem ug(L:List Nat)(x:Nat):dK (L++[x])=max (dK L) x:=by unfold dK;rw[List.foldl_append];rfl
theorem MO(L:List Nat)(N:Nat):∀a,a<=N->(∀x∈L,x<=N)->L.foldl max a<=N:=by
 induction L with
 |nil=>intro a h _;exact h
 |cons y L b=>intro a h hx;exact b _ (Nat.max_le.2 ⟨h,hx y (List.mem_cons_self ..)⟩) (fun x h=>hx x (List.mem_cons_of_mem _ h))
theorem Gn(L:List Nat)(N:Nat)(h:∀x∈L,x<=N):dK L<=N:=MO L N 0 (aU _) h
theorem acD(L:List Nat)(n:Nat)(h:dK L<n):cN L n=0:=by unfold cN;rw[au (by omega),List.count_eq_zero];intro hm;have:=(MN L 0).2 n hm;unfold dK at h;omega
theorem B_(L:List Nat)(n:Nat):cN L n<=L.length:=by
 unfold cN;split
 ·exact aU _
 ·exact List.count_le_length
theorem Gp(L:List Nat)(p:List UInt8)(h:dK L<p.length):kS (bJ L).cs p=none:=by
 rw[(Dw L).1];by_cases hp:p.length<16
 ·rw[Ky L p.length p rfl 16 hp];have a:(qJ L p.length).length=0:=by rw[pJ,acD L _ h]
  rw[gG a];rfl
 ·exact AV _ _ (fun c b=>by have:=VB L 16 c b;omega)
theorem Kz(s:ByteArray)(cs:List (Nat×List UInt8))(k:Nat):∀pre st,(∀q:List UInt8,pre.length<q.length->kS cs q=none)->(pF s cs k pre st).2.dA=true:=by
 induction k with
 |zero=>intro pre st _;rfl
 |succ k a=>
  intro pre st h;rw[pF];split
  ·rfl
  ·split
   ·rfl
   ·rw[h _ (by simp)];exact a _ _ (fun q b=>h q (by simp at b;omega))
def jD(L:List Nat):Nat:=(L.map fun x=>if 0<x then pw (15-x)else 0).sum
theorem Tv(L:List Nat)(x:Nat):jD (L++[x])=jD L+if 0<x then pw (15-x)else 0:=by unfold jD;rw[List.map_append,List.sum_append];simp
theorem acE(L:List Nat)(x n:Nat):cN (x::L) n=cN L n+if x=n/\n≠0 then 1 else 0:=by
 unfold cN;by_cases h:n=0
 ·simp[h]
 ·rw[au h,au h,List.count_cons];by_cases e:x=n
  ·simp[e,h]
  ·simp[e]
theorem acF(L:List Nat)(x:Nat):∀m,kN (x::L) m=kN L m+if 0<x/\x<m then pw (15-x)else 0:=by
 intro m;induction m with
 |zero=>simp[kN]
 |succ m b=>
  rw[kN,b,kN,acE,fO];by_cases h:x=m
  ·subst h;by_cases c:x=0
   ·rw[au (by omega),au (by omega),au (by omega)];generalize pw (15-x)=P;rw[Nat.zero_mul];omega
   ·rw[au (by omega),aC ⟨rfl,c⟩,aC (by omega)];generalize pw (15-x)=P;omega
  ·rw[au (show¬(x=m/\m≠0)from fun e=>h e.1)];by_cases a:0<x/\x<m
   ·rw[aC a,aC (by omega)];omega
   ·rw[au a,au (by omega)];omega
theorem aet(m:Nat):kN [] m=0:=by
 induction m with
 |zero=>rfl
 |succ m a=>rw[kN,a];simp[cN]
theorem Cb(L:List Nat)(h:∀x∈L,x<=15):kN L 16=jD L:=by
 induction L with
 |nil=>rw[aet];rfl
 |cons x L b=>
  rw[acF,b (fun y c=>h y (List.mem_cons_of_mem _ c))];have hx:=h x (List.mem_cons_self ..);unfold jD;rw[qZ,List.sum_cons];by_cases a:0<x
  ·rw[aC (by omega),aC a];omega
  ·rw[au (by omega),au a];omega
theorem uh(L:List Nat)(h:∀x∈L,x<=15):(bJ L).nZ=jD L:=(Dw L).2.trans (Cb L h)
def kC(s:ByteArray)(aN most:Nat)(B:List (Nat×List UInt8))(y:Nat)(u:US):US:=
 if(iQ s aN u.out.length B y u.st).stop=true then⟨(iQ s aN u.out.length B y u.st).st,u.out⟩else BI most (iQ s aN u.out.length B y u.st).Dp (iQ s aN u.out.length B y u.st).n ⟨(iQ s aN u.out.length B y u.st).st,u.out⟩
theorem Yb(s:ByteArray)(cs:List (Nat×List UInt8))(k:Nat):∀pre st,(pF s cs k pre st).2.dA=true->(pF s cs k pre st).1=0:=by
 induction k with
 |zero=>intro pre st _;rfl
 |succ k c=>
  intro pre st h;rw[pF]at h|-;by_cases b:st.dA=true
  ·rw[aC b]
  ·rw[au b]at h|-;by_cases a:(gy s st).2.dA=true
   ·rw[aC a]
   ·rw[au a]at h|-;split at h
    ·exact absurd h a
    ·exact c _ _ h
theorem Lj(s:ByteArray)(cs:List (Nat×List UInt8))(st:bZ)(h:(cu s cs st).2.dA=true):(cu s cs st).1=0:=Yb s cs 15 [] st h
theorem Yc(s:ByteArray)(cs:List (Nat×List UInt8))(st:bZ)(h:st.dA=true):(cu s cs st).2.dA=true:=by unfold cu;rw[yF s cs 15 [] st h]
theorem zO{s:ByteArray}{aN most:Nat}{B:List (Nat×List UInt8)}{y:Nat}{u:US}(h:(iQ s aN u.out.length B y u.st).st.dA=true):(kC s aN most B y u).st.dA=true:=by
 unfold kC;split
 ·exact h
 ·rw[BJ _ _ _ _ h];exact h
theorem Ic{s:ByteArray}{aN most:Nat}{B:List (Nat×List UInt8)}{y:Nat}{u:US}(h:(cu s B (bI s (ja y).2 u.st).2).2.dA=true):(kC s aN most B y u).st.dA=true:=by
 apply zO;have a:=Lj s B _ h;rw[um s aN u.out.length B y u.st (by omega)];dsimp only;split
 ·rfl
 ·exact nK s _ _ h
theorem Yd{s:ByteArray}{aN most:Nat}{B:List (Nat×List UInt8)}{y:Nat}{u:US}(h:(bI s (ja y).2 u.st).2.dA=true):(kC s aN most B y u).st.dA=true:=Ic (Yc s B _ h)
theorem Ll{s:ByteArray}{aN most:Nat}{B:List (Nat×List UInt8)}{y:Nat}{u:US}(h:29<(cu s B (bI s (ja y).2 u.st).2).1):(kC s aN most B y u).st.dA=true:=by apply zO;rw[AL s aN u.out.length B y u.st h]
theorem Um{s:ByteArray}{aN most:Nat}{B:List (Nat×List UInt8)}{y:Nat}{u:US}(a:¬29<(cu s B (bI s (ja y).2 u.st).2).1)
 (h:(bI s (iK (cu s B (bI s (ja y).2 u.st).2).1).2 (cu s B (bI s (ja y).2 u.st).2).2).2.dA=true):(kC s aN most B y u).st.dA=true:=by
 apply zO;rw[um s aN u.out.length B y u.st a];dsimp only;split
 ·rfl
 ·exact h
theorem aaT(most Dp:Nat)(n:Nat):∀u:US,most<u.out.length+n->u.out.length<=most->(BI most Dp n u).st.dA=true:=by
 induction n with
 |zero=>intro u h c;omega
 |succ n d=>
  intro u h c;by_cases hb:u.st.dA=true
  ·rw[BJ _ _ _ _ hb];exact hb
  ·have a:u.st.dA=false:=by simpa using hb
   rw[Sl most Dp n u a];by_cases b:most<=u.out.length
   ·rw[rG most _ u b];rw[BJ _ _ _ _ rfl]
   ·rw[tX most _ u b a];exact d _ (by simp;omega) (by simp;omega)
theorem Un{s:ByteArray}{aN most:Nat}{B:List (Nat×List UInt8)}{y:Nat}{u:US}(b:u.out.length<=most)(h:¬u.out.length+((ja y).1+(bI s (ja y).2 u.st).1)<=most):(kC s aN most B y u).st.dA=true:=by
 by_cases a:29<(cu s B (bI s (ja y).2 u.st).2).1
 ·exact Ll a
 ·unfold kC;rw[um s aN u.out.length B y u.st a];rw[au (by simp)];exact aaT most _ _ _ (by dsimp only;omega) b
theorem QK{s:ByteArray}{aN most:Nat}{B:List (Nat×List UInt8)}{y pos c e b f d a:Nat}{out:List UInt8}(g:bI s (ja y).2 ⟨pos,false⟩=(f,⟨c,false⟩))(i:cu s B ⟨c,false⟩=(d,⟨e,false⟩))(h3:d<=29)(j:bI s (iK d).2 ⟨e,false⟩=(a,⟨b,false⟩)):
 kC s aN most B y ⟨⟨pos,false⟩,out⟩=if aN<(iK d).1+a\/out.length<(iK d).1+a then⟨⟨b,true⟩,out⟩else BI most ((iK d).1+a) ((ja y).1+f) ⟨⟨b,false⟩,out⟩:=by
 unfold kC;rw[um s aN out.length B y ⟨pos,false⟩ (by rw[g,i];exact Nat.not_lt.2 h3)];rw[au (by simp)];dsimp only;rw[g];dsimp only;rw[i];dsimp only;rw[j];dsimp only;by_cases h:aN<(iK d).1+a\/out.length<(iK d).1+a
 ·rw[aC h,aC h,BJ _ _ _ _ rfl]
 ·rw[au h,au h]
theorem QL(s:ByteArray)(aN most:Nat)(A B:List (Nat×List UInt8))(f:Nat)(u:US)(h:u.st.dA=false)(a:(cu s A u.st).2.dA=false)(h3:257<=(cu s A u.st).1)(b:(cu s A u.st).1<=285):
 gm s aN most A B (f+1) u=(if(iQ s aN u.out.length B (cu s A u.st).1 (cu s A u.st).2).stop=true then kC s aN most B (cu s A u.st).1 ⟨(cu s A u.st).2,u.out⟩else gm s aN most A B f (kC s aN most B (cu s A u.st).1 ⟨(cu s A u.st).2,u.out⟩)):=by
 unfold kC;dsimp only;by_cases hs:(iQ s aN u.out.length B (cu s A u.st).1 (cu s A u.st).2).stop=true
 ·rw[aC hs,JR s aN most A B f u h a h3 b hs,aC hs]
 ·rw[au hs,Fz s aN most A B f u h a h3 b (by simpa using hs),au hs]
theorem QO(s:ByteArray)(aN len:Nat)(B:List (Nat×List UInt8))(y:Nat)(st:bZ)(h:(iQ s aN len B y st).stop=true):(iQ s aN len B y st).st.dA=true:=by
 by_cases a:29<(cu s B (bI s (ja y).2 st).2).1
 ·rw[AL s aN len B y st a]
 ·rw[um s aN len B y st a]at h;simp at h
theorem VW(y:Nat)(a:257<=y)(b:y<=285):3<=(ja y).1:=by
 unfold ja;split
 ·dsimp only;omega
 ·have h:=(Vk (y-257) 257 3 (by omega)).1;dsimp only;generalize Fq (y-257) 257 3=z at*;exact h
theorem Bg(a b:Nat)(st:bZ)(h:st.dA=true):(uM a b st).dA=true:=by
 unfold uM;split
 ·rfl
 ·exact h
theorem EN(s:ByteArray)(j:Nat):∀i L st,st.dA=true->(lX s j i L st).2.dA=true:=by
 induction j with
 |zero=>intro i L st h;exact h
 |succ j a=>intro i L st h;exact a _ _ _ (nK s 3 st h)
theorem Lm(m:Nat)(st:bZ)(h:st.dA=true):(yu m st).dA=true:=by
 unfold yu;split
 ·exact h
 ·rfl
theorem Ie(s:ByteArray)(a b n:Nat)(st:bZ)(h:(yu (bJ (lX s n 0 (List.replicate 19 0) st).1).nZ (lX s n 0 (List.replicate 19 0) st).2).dA=true):(yc s a b n st).2.dA=true:=by unfold yc;rw[zC _ _ _ _ _ _ h];exact h
theorem Bh(s:ByteArray)(aN most a b:Nat)(out:List UInt8)(L:List Nat)(st:bZ)(h:st.dA=true\/L.length≠a+b):(zY s aN most a b out L st).st.dA=true:=by rw[BU s aN most a b out L st h]
def vH(s:ByteArray)(st:bZ):Nat×Nat×Nat×bZ:=
 ((bI s 5 st).1+257,(bI s 5 (bI s 5 st).2).1+1,(bI s 4 (bI s 5 (bI s 5 st).2).2).1+4,uM ((bI s 5 st).1+257) ((bI s 5 (bI s 5 st).2).1+1) (bI s 4 (bI s 5 (bI s 5 st).2).2).2)
theorem Fg(s:ByteArray)(aN most:Nat)(u:US):yx s aN most u=zY s aN most (vH s u.st).1 (vH s u.st).2.1 u.out (yc s (vH s u.st).1 (vH s u.st).2.1 (vH s u.st).2.2.1 (vH s u.st).2.2.2).1 (yc s (vH s u.st).1 (vH s u.st).2.1 (vH s u.st).2.2.1 (vH s u.st).2.2.2).2:=rfl
theorem adb(s:ByteArray)(aN most:Nat)(u:US)(h:(vH s u.st).2.2.2.dA=true):(yx s aN most u).st.dA=true:=by rw[Fg];exact Bh _ _ _ _ _ _ _ _ (.inl (Ie _ _ _ _ _ (Lm _ _ (EN _ _ _ _ _ h))))
def NI(s:ByteArray)(n:Nat)(st:bZ):List Nat×bZ:=lX s n 0 (List.replicate 19 0) st
theorem Ye(s:ByteArray)(aN most:Nat)(u:US)(h:(yu (bJ (NI s (vH s u.st).2.2.1 (vH s u.st).2.2.2).1).nZ (NI s (vH s u.st).2.2.1 (vH s u.st).2.2.2).2).dA=true):(yx s aN most u).st.dA=true:=by rw[Fg];exact Bh _ _ _ _ _ _ _ _ (.inl (Ie _ _ _ _ _ h))
theorem ade(s:ByteArray)(n:Nat)(st:bZ):(NI s n st).1.length=19:=by unfold NI;rw[Tc];simp
theorem aaU(s:ByteArray)(n:Nat)(st:bZ):∀x∈(NI s n st).1,x<=15:=Kr s n 0 _ st (fun x hx=>by rw[gX hx];omega)
theorem sH(L:List Nat)(h:wE L=0):jD L=0:=by
 induction L with
 |nil=>rfl
 |cons x L a=>
  have hx:¬0<x:=by intro hx;unfold wE at h;simp[hx]at h
  have b:wE L=0:=by unfold wE at h|-;simpa [List.filter_cons,hx]using h
  unfold jD at*;rw[qZ,List.sum_cons,au hx,a b]
theorem Ig(most:Nat)(x:UInt8)(u:US):u.out<+:(mQ most x u).out:=by
 unfold mQ;split
 ·exact dS _
 ·split
  ·exact dS _
  ·exact List.prefix_append _ _
theorem VX(s:ByteArray)(most:Nat)(k:Nat):∀u:US,u.out<+:(Jb s most k u).out:=by
 induction k with
 |zero=>intro u;exact dS _
 |succ k a=>
  intro u;rw[Jb];split
  ·exact dS _
  ·exact(Ig most _ ⟨(bI s 8 u.st).2,u.out⟩).trans (a _)
theorem QS(s:ByteArray)(most:Nat)(u:US):u.out<+:(iF s most u).out:=VX s most _ ⟨(nC s u.st).2,u.out⟩
theorem VY(most Dp:Nat)(k:Nat):∀u:US,u.out<+:(BI most Dp k u).out:=by
 induction k with
 |zero=>intro u;exact dS _
 |succ k a=>
  intro u;rw[BI];split
  ·exact dS _
  ·exact(Ig most _ u).trans (a _)
theorem zQ(s:ByteArray)(aN most:Nat)(A B:List (Nat×List UInt8))(f:Nat):∀u:US,u.out<+:(gm s aN most A B f u).out:=by
 induction f with
 |zero=>intro u;exact dS _
 |succ f a=>
  intro u;rw[gm];split
  ·exact dS _
  ·dsimp only;split
   ·exact dS _
   ·split
    ·exact(Ig most _ ⟨(cu s A u.st).2,u.out⟩).trans (a _)
    ·split
     ·exact dS _
     ·split
      ·exact dS _
      ·split
       ·exact dS _
       ·refine List.IsPrefix.trans ?_ (a _);exact VY most _ _ ⟨(iQ s aN u.out.length B (cu s A u.st).1 (cu s A u.st).2).st,u.out⟩
theorem aaV(s:ByteArray)(aN most a b:Nat)(out:List UInt8)(L:List Nat)(st:bZ):out<+:(zY s aN most a b out L st).out:=by
 unfold zY;split
 ·exact dS _
 ·split
  ·exact dS _
  ·exact zQ s aN most _ _ _ ⟨st,out⟩
theorem aaW(s:ByteArray)(aN most:Nat)(u:US):u.out<+:(yx s aN most u).out:=aaV s aN most _ _ u.out _ _
theorem Yf(s:ByteArray)(aN most y:Nat)(u:US):u.out<+:(lT s aN most y u).out:=by
 unfold lT;split
 ·exact dS _
 ·split
  ·exact QS s most u
  ·split
   ·exact zQ s aN most _ _ _ u
   ·split
    ·exact aaW s aN most u
    ·exact dS _
theorem QT(s:ByteArray)(aN most:Nat)(u:US):u.out<+:(jq s aN most u).2.out:=Yf s aN most _ ⟨(bI s 2 (gy s u.st).2).2,u.out⟩
theorem aaX(s:ByteArray)(aN most:Nat)(f:Nat):∀u:US,u.out<+:(rQ s aN most f u).out:=by
 induction f with
 |zero=>intro u;exact dS _
 |succ f a=>
  intro u;rw[rQ];split
  ·exact dS _
  ·split
   ·exact(QT s aN most u).trans (a _)
   ·exact QT s aN most u
end Rf
namespace Ad
def raw:Nat->Nat->List UInt8->Nat×Nat
 |a,b,[]=>(a,b)
 |a,b,c::l=>raw (a+c.toNat) (b+(a+c.toNat)) l
def wF:Nat->Nat->List UInt8->Nat×Nat
 |a,b,[]=>(a,b)
 |a,b,c::l=>wF ((a+c.toNat)%65521) ((b+(a+c.toNat)%65521)%65521) l
theorem UC(l m:List UInt8):∀a b:Nat,wF a b (l++m)=wF (wF a b l).1 (wF a b l).2 m:=by
 induction l with
 |nil=>intro a b;rfl
 |cons c l d=>intro a b;simp only[List.cons_append,wF];exact d _ _
theorem Ea(l:List UInt8):∀a b:Nat,a<=65520->b<=65520->(wF a b l).1<=65520/\(wF a b l).2<=65520:=by
 induction l with
 |nil=>intro a b d hb;exact⟨d,hb⟩
 |cons c l e=>intro a b d hb;exact e _ _ (by omega) (by omega)
theorem Ip(l:List UInt8)(c:UInt8)(a b:Nat):wF a b (l++[c])=(((wF a b l).1+c.toNat)%65521,((wF a b l).2+((wF a b l).1+c.toNat)%65521)%65521):=by rw[UC];rfl
end Ad
namespace YX
open Go.RowKit Ad
theorem NP(s:ByteArray)(k:Nat)(h:k<s.size):s.data.toList.take (k+1)=s.data.toList.take k++[s[k]]:=by rw[lN (by simpa using h)];rfl
theorem QZ(s:ByteArray)(k:Nat)(h:k<s.size)(a b:Nat):wF a b (s.data.toList.take (k+1))=(((wF a b (s.data.toList.take k)).1+s[k].toNat)%65521,((wF a b (s.data.toList.take k)).2+((wF a b (s.data.toList.take k)).1+s[k].toNat)%65521)%65521):=by rw[NP s k h,Ip]
theorem UD{k:IntKind}{a b:Int}(h:a=b):Ending.returned (.int k a)= .returned (.int k b):=by rw[h]
theorem Q_(s:ByteArray)(k:Nat)(h:¬k<s.size):s.data.toList.take k=s.data.toList:=iY (by simp;omega)
theorem aeH(x y:Nat)(hx:x<=65520)(a:y<=65520):bits BinOp.or IntKind.u32 ((y:Int)*65536) (x:Int)=((65536*y+x:Nat):Int):=by
 have h:=u32_or_nat (y*65536) x (by omega) (by omega);have e:y*65536|||x=65536*y+x:=by rw[eu y];exact(lq (i:=16) (by omega) y).symm
 rw[e]at h;rw[<-h];congr 1
theorem UF(v:Nat)(h:v<4294967296):bits BinOp.and IntKind.u32 (v:Int) 65535=((v%65536:Nat):Int):=by have h:=u32_and_nat v 65535 h (by omega);have e:v&&&65535=v%65536:=sQ v 16;rw[e]at h;exact h
def JB(v c:Nat):Nat:=65536*((v/65536+(v%65536+c)%65521)%65521)+(v%65536+c)%65521
def one(p:Nat×Nat):Nat:=65536*p.2+p.1
theorem abe(p:Nat×Nat)(h:p.1<=65520):one p%65536=p.1:=by unfold one;omega
theorem abf(p:Nat×Nat)(h:p.1<=65520):one p/65536=p.2:=by unfold one;omega
theorem UG(v c:Nat)(a:v%65536<=65520)(b:v/65536<=65520)(d:c<=255):∃x y t p z q:Nat,JB v c=65536*q+p/\v<4294967296/\v%65536=x/\(v:Int)/65536=(y:Int)/\(x:Int)+(c:Int)=(t:Int)/\(y:Int)+(p:Int)=(z:Int)/\t<=70000/\z<=140000/\p<=65520/\q<=65520/\
 (decide ((65521:Int)<=(t:Int))=false/\p=t\/(decide ((65521:Int)<=(t:Int))=true/\65521<=t)/\(t:Int)-65521=(p:Int))/\(decide ((65521:Int)<=(z:Int))=false/\q=z\/(decide ((65521:Int)<=(z:Int))=true/\65521<=z)/\(z:Int)-65521=(q:Int)):=by
 refine⟨v%65536,v/65536,v%65536+c,(v%65536+c)%65521,v/65536+(v%65536+c)%65521,(v/65536+(v%65536+c)%65521)%65521,rfl,by omega,rfl,by omega,by omega,by omega,by omega,by omega,by omega,by omega,?_,?_⟩
 ·by_cases h:v%65536+c<65521
  ·exact .inl ⟨aS (by omega),by omega⟩
  ·exact .inr ⟨⟨aZ (by omega),by omega⟩,by omega⟩
 ·by_cases h:v/65536+(v%65536+c)%65521<65521
  ·exact .inl ⟨aS (by omega),by omega⟩
  ·exact .inr ⟨⟨aZ (by omega),by omega⟩,by omega⟩
theorem UH(V c:Nat)(w:af)(d:V%65536<=65520)(a:V/65536<=65520)(j:c<=255):
 aF prog 102 #[.int .u32 (V:Int),.int .u8 (c:Int)] w fun e w'=>e= .returned (.int .u32 ((JB V c:Nat):Int))/\w'=w:=by
 obtain⟨x,y,t,p,z,q,h,k,i,o,r,s,u,v,l,m,f,b⟩:=UG V c d a j;rw[h];have A:bits BinOp.and IntKind.u32 (V:Int) 65535=(x:Int):=by rw[UF V k,i]
 have B:=aeH p q l m;clear h i d a;rcases f with⟨d,rfl⟩|⟨⟨d,n⟩,C⟩
 ·rcases b with⟨a,rfl⟩|⟨⟨a,g⟩,eq⟩
  ·go_enter func102,ntmps102
   go_wp2
   go_ret;exact⟨rfl,rfl⟩
  ·go_enter func102,ntmps102
   go_wp2
   go_ret;exact⟨rfl,rfl⟩
 ·rcases b with⟨a,rfl⟩|⟨⟨a,g⟩,eq⟩
  ·go_enter func102,ntmps102
   go_wp2
   go_ret;exact⟨rfl,rfl⟩
  ·go_enter func102,ntmps102
   go_wp2
   go_ret;exact⟨rfl,rfl⟩
end YX
namespace h_
def Aw:Code->Option Code
 | .loop c=>some (.loop c)
 | .seq a b=>match Aw a with
   |some c=>some c
   |none=>Aw b
 | .block _ c=>Aw c
 | .scope c=>Aw c
 | .cond _ a b=>match Aw a with
   |some c=>some c
   |none=>Aw b
 |_=>none
def inner:Code->Option Code
 | .loop c=>Aw c
 |_=>none
def Ws(Q:Exit->Act->af->Prop):Exit->Act->af->Prop
 | .panic _,_,_=>False
 | .normal,a,w=>Q .normal a w
 | .exit i,a,w=>Q (.exit i) a w
 | .goto i,a,w=>Q (.goto i) a w
 | .ret,a,w=>Q .ret a w
 | .outgrown,a,w=>Q .outgrown a w
theorem Ru{Q:Exit->Act->af->Prop}(e:Exit)(a:Act)(w:af)(h:Ws Q e a w):Q e a w:=by
 cases e with
 |panic _=>exact False.elim h
 |normal=>exact h
 |exit i=>exact h
 |goto i=>exact h
 |ret=>exact h
 |outgrown=>exact h
end h_
namespace Qt
section
variable {P:Program} {ops:Array Oper} {md:Region.Mode}
def qd(P:Program)(o:Oper)(a:Act)(v:ay):Prop:=∀w,o.quietAt P a (fun w''=> ∃n,w''=w.drewN n) w v
def Ot(P:Program)(ops:Array Oper)(i:Nat)(K:Act->Prop)(a:Act):Prop:=
 match ops[i]? with
 |none=>K a
 |some o=>if Region.wanted o (yielded ops a.tmps)then∃v,qd P o a v/\K (a.put o.dst v)else K (a.put o.dst undef)
def YD(P:Program)(ops:Array Oper)(o:Oper)(v:ay)(a:Act):Prop:=
 (Region.wanted o (yielded ops a.tmps)=true/\qd P o a v)\/(Region.wanted o (yielded ops a.tmps)=false/\v=undef)
theorem IG{C C':af->Prop}{w:af}{v:ay}(hC:∀w,C w->C' w):∀r,Oper.quietUpon P C w v r->Oper.quietUpon P C' w v r
 | .ok (.enter f args) w',h=>⟨h.1,h.2.mono fun _ _ ⟨a,b⟩=>⟨a,hC _ b⟩⟩
 | .ok (.value u) w',h=>h
 | .ok .skip w',h=>h
 | .halt x w',h=>h
theorem abI{o:Oper}{a:Act}{v:ay}(h:qd P o a v)(u w:af)(hw:∃n,w=u.drewN n):o.quietAt P a (fun w'=> ∃n,w'=u.drewN n) w v:=by obtain⟨n,rfl⟩:=hw;exact IG (fun w' ⟨m,hm⟩=>⟨n+m,by rw[hm,World.drewN_drewN]⟩) _ (h _)
theorem aeb{i:Nat}{K:Act->Prop}{a:Act}(u:af)(h:Ot P ops i K a):qOp P ops (fun w'=> ∃n,w'=u.drewN n) i K a:=by
 unfold Ot at h;unfold qOp;split at h
 ·rename_i ho;simp only[ho];exact h
 ·rename_i o ho;simp only[ho];split at h
  ·rename_i hw;simp only[hw,if_true];obtain⟨v,h1,h2⟩:=h;exact⟨v,fun w hw'=>abI h1 u w hw',h2⟩
  ·rename_i hw;simp only[hw];exact h
theorem abJ{i:Nat}{a:Act}{K K':Act->Prop}(h:∀a,K a->K' a)(hh:Ot P ops i K a):Ot P ops i K' a:=by
 unfold Ot at*;split
 ·exact h _ (by simpa [*]using hh)
 ·rename_i o ho;simp only[ho]at hh;split
  ·rename_i hw;simp only[hw,if_true]at hh;obtain⟨v,h1,h2⟩:=hh;exact⟨v,h1,h _ h2⟩
  ·rename_i hw;simp only[hw]at hh;exact h _ hh
theorem YD.Ot{i:Nat}{o:Oper}{v:ay}{a:Act}(hi:ops[i]?=some o)(hy:YD P ops o v a){K:Act->Prop}(h:K (a.put o.dst v)):Ot P ops i K a:=by
 unfold Qt.Ot;simp only[hi];rcases hy with⟨hw,hv⟩|⟨hw,rfl⟩
 ·simp only[hw,if_true];exact⟨v,hv,h⟩
 ·simp only[hw,Bool.false_eq_true,if_false];exact h
theorem YD.of_same{o:Oper}{v:ay}{a a':Act}(hy:YD P ops o v a)(he:execOp a'.eval o=execOp a.eval o)
 (hw:Region.wanted o (yielded ops a'.tmps)=Region.wanted o (yielded ops a.tmps)):YD P ops o v a':=by
 unfold YD qd Oper.quietAt at*;rw[he,hw];exact hy
theorem aft{i:Nat}{o:Oper}{a:Act}{K:Act->Prop}(hi:ops[i]?=some o)(h:Ot P ops i K a):∃v,YD P ops o v a/\K (a.put o.dst v):=by
 unfold Ot at h;simp only[hi]at h;by_cases hw:Region.wanted o (yielded ops a.tmps)=true
 ·simp only[hw,if_true]at h;obtain⟨v,h1,h2⟩:=h;exact⟨v,.inl ⟨hw,h1⟩,h2⟩
 ·simp only[hw]at h;exact⟨undef,.inr ⟨by simpa using hw,rfl⟩,h⟩
theorem adx{j:Nat}{oi oj:Oper}{v:ay}(hj:ops[j]?=some oj)(hap:oi.apart ops oj=true)
 (hsi:∀cs b,oi.op≠ .select cs b) (hsj:∀cs b,oj.op≠ .select cs b) {K:Act->Prop} {a:Act}
 (hy:YD P ops oi v a) (h:Ot P ops j K (a.put oi.dst v)):
 Ot P ops j (fun a'=>YD P ops oi v a'/\K (a'.put oi.dst v)) a:=by
 obtain⟨h1,h2,h3⟩:=Oper.apart_spec hap;have iU:∀(a:Act),YD P ops oi v a->∀u,YD P ops oi v (a.put oj.dst u):=fun a hy u=>hy.of_same (execOp_put oi hsi a oj.dst u h3) (wanted_put oi a oj.dst u h3)
 unfold Ot at*;simp only[hj]at*;rw[wanted_put oj a oi.dst v h1]at h;split
 ·rename_i hw;simp only[hw,if_true]at h;obtain⟨u,hu,hn⟩:=h;refine⟨u,fun w=> ?_,iU a hy u,by rw[<-Act.put_comm a v u h2];exact hn⟩;have:=hu w;unfold Oper.quietAt at*;rwa [execOp_put oj hsj a oi.dst v h1]at this
 ·rename_i hw;simp only[hw]at h;exact⟨iU a hy _,by rw[<-Act.put_comm a v undef h2];exact h⟩
def Eb(P:Program)(md:Region.Mode)(ops:Array Oper)(p:Nat)(dp:Option Tmp)(vp:ay)(n:Nat)(L:Array Bool->Act->Prop):Nat->Array Bool->Act->Prop
 |0,listed,a=>L listed a
 |f+1,listed,a=>
  Region.ready md ops listed≠[]/\∀i∈Region.ready md ops listed,i<n/\
   ((i=p->Eb P md ops p dp vp n L f (listed.setIfInBounds i true) (a.put dp vp))/\(i≠p->Ot P ops i (Eb P md ops p dp vp n L f (listed.setIfInBounds i true)) a))
theorem qU{n g p:Nat}{dp:Option Tmp}{vp:ay}{L:Array Bool->Act->Prop}{Q':Exit->Act->af->Prop}{w0 w1:af}
 (hal:∀(a:Act) (m:Nat) (K':Act->af->Prop),(∀k,K' (a.put dp vp) (w1.drewN k))->wpOp P ops Q' p K' a (w0.drewN m))
 (hL:∀listed a m,L listed a->wpAny P md ops Q' g listed a (w1.drewN m)) (hLp:∀listed a,L listed a->listed.getD p false=true):
 ∀(f:Nat) (listed:Array Bool) (a:Act) (w:af),(listed.getD p false=true->∃m,w=w1.drewN m)->(listed.getD p false=false->∃m,w=w0.drewN m)->Eb P md ops p dp vp n L f listed a->wpAny P md ops Q' (f+g) listed a w
 |0,listed,a,w,c1,c0,h=>by rw[fF];obtain⟨m,rfl⟩:=c1 (hLp _ _ h);exact hL _ _ _ h
 |f+1,listed,a,w,c1,c0,h=>by
  rw[show f+1+g=(f+g)+1 by omega];refine⟨fun h0=>absurd h0 h.1,fun i hi=> ?_⟩;obtain⟨_,h2,h3⟩:=h.2 i hi;by_cases hip:i=p
  ·subst hip;have hun:=(mem_ready.1 hi).1;obtain⟨m,rfl⟩:=c0 (getD_both hun);have hlt:i<listed.size:=by
    rcases bU i listed.size with h'|h'
    ·exact h'
    ·simp[Array.getElem?_eq_none h']at hun
   refine hal a m _ (fun k=> ?_);exact qU hal hL hLp f _ _ _ (fun _=>⟨k,rfl⟩) (fun e=>by simp[hlt]at e) (h2 rfl)
  ·have hg:(listed.setIfInBounds i true).getD p false=listed.getD p false:=getD_set_ne false hip;cases hp:listed.getD p false with
   |true=>refine wpOp_of_qOp (C:=fun w'=> ∃n,w'=w1.drewN n) (c1 hp) (fun a' w' hw' h'=> ?_) (aeb w1 (h3 hip));exact qU hal hL hLp f _ a' w' (fun _=>hw') (fun e=>by rw[hg,hp]at e;cases e) h'
   |false=>refine wpOp_of_qOp (C:=fun w'=> ∃n,w'=w0.drewN n) (c0 hp) (fun a' w' hw' h'=> ?_) (aeb w0 (h3 hip));exact qU hal hL hLp f _ a' w' (fun e=>by rw[hg,hp]at e;cases e) (fun _=>hw') h'
theorem NR{n i p:Nat}{oi op:Oper}{v vp:ay}{L:Array Bool->Act->Prop}(hi:ops[i]?=some oi)(hop:ops[p]?=some op)(hsel:∀(j:Nat) (o:Oper) cs b,ops[j]?=some o->o.op≠ .select cs b)
 (hs:Region.sinkB md ops n=true) (hc:Region.chainB md ops n=true) (hn:n<ops.size) (hin:i<n) (hip:i≠p)
 (hdone:∀listed a,L listed a->∀j∈Region.ready md ops listed,n<=j):
 ∀(f:Nat) (listed:Array Bool) (a:Act),HeadInv md ops n listed->
  (∀j oj,ops[j]?=some oj->j≠i->listed.getD j true=false->(∀e∈oj.after,Region.binds md e=true->e.on≠i)->oi.apart ops oj=true)->
  i∈Region.ready md ops listed->YD P ops oi v a->
  Eb P md ops p op.dst vp n L f (listed.setIfInBounds i true) (a.put oi.dst v)->Eb P md ops p op.dst vp n L (f+1) listed a:=by
 intro f;induction f with
 |zero=>
  intro listed a inv _ hr hy H;have hun:=(mem_ready.1 hr).1;refine⟨fun h=>(by rw[h]at hr;cases hr),fun j hj=> ?_⟩;have hjn:j<n:=by
   rcases bU j n with h|h
   ·exact h
   ·exact absurd hj (tail_waits hs hc hn inv _ i rfl hin hun j h)
  refine⟨hjn,?_⟩;by_cases hji:j=i
  ·subst hji;exact⟨fun e=>absurd e hip,fun _=>hy.Ot hi H⟩
  ·have:=hdone _ _ H j (ready_mono hj hji);omega
 |succ f ih=>
  intro listed a inv hfree hr hy H;have hun:=(mem_ready.1 hr).1;refine⟨fun h=>(by rw[h]at hr;cases hr),fun j hj=> ?_⟩;have hjn:j<n:=by
   rcases bU j n with h|h
   ·exact h
   ·exact absurd hj (tail_waits hs hc hn inv _ i rfl hin hun j h)
  refine⟨hjn,?_⟩;by_cases hji:j=i
  ·subst hji;exact⟨fun e=>absurd e hip,fun _=>hy.Ot hi H⟩
  ·have h1:=(H.2 j (ready_mono hj hji)).2;obtain⟨hjun,oj,hoj,hall⟩:=mem_ready.1 hj;have hnot:∀e∈oj.after,Region.binds md e=true->e.on≠i:=fun e he hb heq=>by
    have h1:=hall e he hb;rw[heq,getD_both hun]at h1;cases h1
   have hap:=hfree j oj hoj hji hjun hnot
   have hfree':∀k ok,ops[k]?=some ok->k≠i->(listed.setIfInBounds j true).getD k true=false->
    (∀e∈ok.after,Region.binds md e=true->e.on≠i)->oi.apart ops ok=true:=fun k ok hk hki hun hno=>by
    refine hfree k ok hk hki ?_ hno;by_cases hjk:j=k
    ·subst hjk;exact hjun
    ·rw[getD_set_ne true hjk]at hun;exact hun
   have hsi:=fun cs b=>hsel i oi cs b hi;refine⟨fun e=> ?_,fun e=> ?_⟩
   ·subst e;have:oj=op:=dB (hoj.symm.trans hop);subst this;obtain⟨a1,a2,a3⟩:=Oper.apart_spec hap;refine ih (listed.setIfInBounds j true) _ (inv.set hj hjn) hfree' (ready_mono hr (r_ hji)) (hy.of_same (execOp_put oi hsi a oj.dst vp a3) (wanted_put oi a oj.dst vp a3)) ?_;rw[Array.setIfInBounds_comm _ _ hji,<-Act.put_comm a v vp a2];exact h1.1 rfl
   ·have h2:=adx hoj hap hsi (fun cs b=>hsel j oj cs b hoj) hy (h1.2 e);refine abJ (fun a' h3=>ih (listed.setIfInBounds j true) a' (inv.set hj hjn) hfree' (ready_mono hr (r_ hji)) h3.1 ?_) h2;rw[Array.setIfInBounds_comm _ _ hji];exact h3.2
def wpD(P:Program)(ops:Array Oper)(Q:Act->Prop):List Oper->Act->Prop
 | [],a=>Q a
 |o::rest,a=>if Region.wanted o (yielded ops a.tmps)then∃v,qd P o a v/\wpD P ops Q rest (a.put o.dst v)else wpD P ops Q rest (a.put o.dst undef)
theorem II{g p:Nat}{op:Oper}{vp:ay}{Lq:Act->Prop}(hop:ops[p]?=some op)(hsel:Region.noSelect ops=true)(hs:Region.sinkB md ops (p+1)=true)(hc:Region.chainB md ops (p+1)=true)(hn:p+1<ops.size):
 ∀(l:List Oper) (k:Nat) (listed:Array Bool) (a:Act),(∀j,j<l.length->l[j]?=ops[k+j]?)->k+l.length=p->HeadInv md ops (p+1) listed->
 Region.lexHead md ops (g+1) l.length k listed=true->wpD P ops (fun a'=>Lq (a'.put op.dst vp)) l a->
 Eb P md ops p op.dst vp (p+1) (fun listed' a'=>(Region.seqB md ops g (p+1) listed'=true/\listed'.getD p false=true)/\Lq a') (l.length+1) listed a
 | [],k,listed,a,_,hk,inv,hB,h=>by
   have:k=p:=by simpa using hk
   subst this;simp only[List.length_nil,Region.lexHead,Region.seqB,Bool.and_eq_true,decide_eq_true_eq]at hB;have hlt:k<listed.size:=by rw[inv.size];omega
   refine⟨fun h=>(by rw[hB.1]at h;cases h),fun i hi=> ?_⟩;rw[hB.1]at hi;have hik:i=k:=by simpa using hi
   subst hik;exact⟨by omega,fun _=>⟨⟨hB.2,by simp[hlt]⟩,h⟩,fun e=>absurd rfl e⟩
 |o::l,k,listed,a,hl,hk,inv,hB,h=>by
  have h0:ops[k]?=some o:=by simpa using(hl 0 (by simp)).symm
  simp only[List.length_cons,Region.lexHead,Bool.and_eq_true]at hB;obtain⟨⟨hr,hf⟩,hB'⟩:=hB;have hkn:k<p:=by simp only[List.length_cons]at hk;omega
  have hr':k∈Region.ready md ops listed:=by simpa using hr
  have uJ:Ot P ops k (wpD P ops (fun a'=>Lq (a'.put op.dst vp)) l) a:=by unfold Ot;simp only[h0];exact h
  obtain⟨v,hy,hK⟩:=aft h0 uJ
  exact NR h0 hop (Region.noSelect_spec hsel) hs hc hn (by omega) (by omega) (fun listed' a' hL=>seqB_ready hL.1.1) (l.length+1) listed a inv (Region.free_spec h0 hf) hr' hy
   (II hop hsel hs hc hn l (k+1) _ _ (fun j hj=>by have:=hl (j+1) (by simp;omega);simpa [Nat.add_assoc,Nat.add_comm 1 j]using this) (by simp only[List.length_cons]at hk;omega) (inv.set hr' (by omega)) hB' hK)
def Wu(md:Region.Mode)(ops:Array Oper)(p:Nat):Bool:=
 Region.noSelect ops&&decide (p+1<ops.size)&&Region.sinkB md ops (p+1)&&Region.chainB md ops (p+1)&&Region.lexHead md ops (ops.size-(p+1)+1) p 0 (Array.replicate ops.size false)
theorem Ac{id:Nat}{Q:Exit->Act->af->Prop}{a:Act}{w w1:af}{l:List Oper}{op:Oper}{vp:ay}(p:Nat)(hm:P.follows .mixedOrders=true)(hB:Wu .any l.toArray p=true)(hop:l.toArray[p]?=some op)
 (hal:∀(a:Act) (m:Nat) (K':Act->af->Prop),(∀k,K' (a.put op.dst vp) (w1.drewN k))->wpOp P l.toArray Q p K' a (w.drewN m))
 (h:wpD P l.toArray (fun a'=> ∀m,wpList P l.toArray Q (l.drop (p+1)) (a'.put op.dst vp) (w1.drewN m)) (l.take p) a):(Code.region id l.toArray true).wp P Q a w:=by
 simp only[Wu,Bool.and_eq_true,decide_eq_true_eq]at hB;obtain⟨⟨⟨⟨hsel,hn⟩,hs⟩,hc⟩,hlex⟩:=hB;have hn':p+1<l.length:=by simpa using hn
 have htl:(l.take p).length=p:=by simp;omega
 have hdl:(l.drop (p+1)).length=l.toArray.size-(p+1):=by simp
 have inv0:HeadInv .any l.toArray (p+1) (Array.replicate l.toArray.size false):=
  ⟨by simp,fun j oj _ hl=>(by rw[getD_replicate_false]at hl;cases hl),fun t _ ht=>getD_in (by simpa using ht) (getD_replicate_false _ _)⟩
 have H:=II (md:= .any) (g:=l.toArray.size-(p+1)) (Lq:=fun a'=> ∀m,wpList P l.toArray Q (l.drop (p+1)) a' (w1.drewN m)) hop hsel hs hc hn (l.take p) 0 _ a (fun j hj=>by
  have hj':j<p:=by rw[htl]at hj;exact hj
  simp[hj']) (by simpa using htl) inv0 (by rw[htl];exact hlex) h
 refine wp_region_any hm ?_;have:=qU (Q':=Q) (g:=l.toArray.size-(p+1)) (w0:=w) (w1:=w1) hal (fun listed a' m hL=>by have:=wpAny_of_seq (md:= .any) (Q':=Q) (l.drop (p+1)) (p+1) listed a' (w1.drewN m) (fun j=>by simp[List.getElem?_drop]) (by rw[hdl];exact hL.1.1) (hL.2 m);rwa [hdl]at this) (fun listed a' hL=>hL.1.2) _ _ _ {w with drawn:=w.drawn+1} (fun e=>by rw[getD_replicate_false]at e;cases e) (fun _=>⟨1,rfl⟩) H
 rw[htl,show p+1+(l.toArray.size-(p+1))=l.toArray.size by omega]at this;exact this
theorem abK{Q:Act->Prop}{a:Act}{o:Oper}{rest:List Oper}
 (h:∀K:Act->Prop,(∀a,wpD P ops Q rest a->K a)->if Region.wanted o (yielded ops a.tmps)then∃v,qd P o a v/\K (a.put o.dst v)else K (a.put o.dst undef)):wpD P ops Q (o::rest) a:=
 h _ (fun _ h=>h)
theorem ady{Q:Act->Prop}{a:Act}(h:Q a):wpD P ops Q [] a:=h
end
end Qt
namespace YX
open Go.RowKit Ad
theorem adK(s:ByteArray)(w:af)(hs:s.size<=maxLen):
 aF prog 47 #[.string s] w fun e w'=>e= .returned (.int .u32 ((65536*(wF 1 0 s.data.toList).2+(wF 1 0 s.data.toList).1:Nat):Int))/\w'=w:=by
 unfold maxLen at hs;go_enter func47,ntmps47
 go_wp2
 go_loop [3,4,5] (fun a b i=> ∃k:Nat,k<=s.size/\i= .int .i64 k/\a= .int .i64 ((wF 1 0 (s.data.toList.take k)).1:Nat)/\b= .int .i64 ((wF 1 0 (s.data.toList.take k)).2:Nat)) (fun _ _ i=>s.size-(aX i).toNat)
 case atStart=>exact⟨0,aU _,rfl,rfl,rfl⟩
 case round=>
  obtain⟨k,g,rfl,rfl,rfl⟩:=hrel;obtain⟨d,f⟩:=Ea (s.data.toList.take k) 1 0 (by omega) (by omega);by_cases c:k<s.size
  ·have h:s[k].toNat<=255:=by have:=s[k].toNat_lt;omega
   go_wp2
   go_round
   case rel=>exact⟨k+1,by omega,by go_num,by rw[QZ s k c];go_num,by rw[QZ s k c];go_num⟩
   case measure=>simp[aX];omega
  ·rw[Q_ s k c]at d f|-;go_wp2
   go_ret;exact⟨UD (by omega),rfl⟩
end YX
end Go.Proofs.YtephkcdbnogdhaaGreatDoor
