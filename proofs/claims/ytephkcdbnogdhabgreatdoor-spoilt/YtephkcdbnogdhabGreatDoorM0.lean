import Derived.BigQuiet
import Derived.BigRegion
import Derived.ChangeArms
import Derived.ChangeAt
import Derived.ChangeShapes
import Derived.ChangeSlices
import Derived.Deep.AppendLies
import Derived.Deep.CutBlock
import Derived.Deep.DeepAppendWide
import Derived.Deep.DeepCutAuto
import Derived.Deep.DeepMust
import Derived.Deep.LoopGhost
import Derived.Deep.MidRow
import Derived.Deep.QuietTactic
import Derived.Deep.RegionHeld3
import Derived.Deep.RegionLaw
import Derived.Deep.RegionWith
import Derived.LaidEql
import Derived.LaidHandle
import Derived.LaidMore
import Derived.Laws.BitsAllLaws
import Derived.Laws.BytesArg
import Derived.Laws.CopyOwn
import Derived.Laws.CopyRow
import Derived.Laws.MakeOwn
import Derived.Laws.OwnMore
import Derived.Lib.Builder
import Derived.Lib.LaidTab
import Derived.Lib.UnsafeStr
import Derived.OneCell
import Derived.OpenShut
import Derived.OwnWalk
import Derived.ProofKit
import Derived.RowKitTokens
import Derived.SizedLaws
import Derived.StillTail
import Derived.Stop.Asserts
import Derived.Stop.Joined
import Derived.Stop.LaidErr
import Derived.Stop.LaidTwo
import Derived.Test.YtephkcdbnogdhabGreatDoorRows
import Derived.WalkKit
import Derived.WideShapes
set_option linter.unusedVariables false
set_option maxHeartbeats 40000000
set_option maxRecDepth 10000
namespace Go.Proofs.YtephkcdbnogdhabGreatDoor
theorem ag:type_of% @List.getD_eq_getElem?_getD:=@List.getD_eq_getElem?_getD
theorem ah:type_of% @Nat.le_refl:=@Nat.le_refl
theorem ai:type_of% @Go.RowKit.Below.heap_alloc:=@Go.RowKit.Below.heap_alloc
theorem ax:type_of% @if_neg:=@if_neg
theorem aB:type_of% @List.getElem?_eq_getElem:=@List.getElem?_eq_getElem
theorem aG:type_of% @if_pos:=@if_pos
theorem aI:type_of% @beq_eq_false_iff_ne:=@beq_eq_false_iff_ne
theorem aK:type_of% @List.length_append:=@List.length_append
theorem aN:type_of% @Nat.lt_of_lt_of_le:=@Nat.lt_of_lt_of_le
theorem aP:type_of% @Go.heap_alloc_new:=@Go.heap_alloc_new
theorem aS:type_of% @decide_eq_false:=@decide_eq_false
theorem aU:type_of% @Go.Calls.mono:=@Go.Calls.mono
theorem aV:type_of% @Go.RowKit.Below.refl:=@Go.RowKit.Below.refl
theorem aX:type_of% @Nat.zero_le:=@Nat.zero_le
theorem aY:type_of% @Nat.le_trans:=@Nat.le_trans
theorem aZ:type_of% @decide_eq_true:=@decide_eq_true
theorem a_:type_of% @Go.bodyPost_ret:=@Go.bodyPost_ret
theorem bu:type_of% @Array.getElem?_setIfInBounds_ne:=@Array.getElem?_setIfInBounds_ne
theorem bD:type_of% @Nat.mul_le_mul:=@Nat.mul_le_mul
theorem bI:type_of% @List.append_assoc:=@List.append_assoc
theorem bT:type_of% @Nat.pow_le_pow_right:=@Nat.pow_le_pow_right
theorem bW:type_of% @Nat.lt_or_ge:=@Nat.lt_or_ge
theorem cO:type_of% @Nat.add_zero:=@Nat.add_zero
theorem dh:type_of% @List.getElem?_take_of_lt:=@List.getElem?_take_of_lt
theorem di:type_of% @bne_eq_false_iff_eq:=@bne_eq_false_iff_eq
theorem dn:type_of% @List.take_of_length_le:=@List.take_of_length_le
theorem dB:type_of% @UInt8.toNat_ofNat':=@UInt8.toNat_ofNat'
theorem dD:type_of% @List.getElem?_eq_none:=@List.getElem?_eq_none
theorem dF:type_of% @List.length_cons:=@List.length_cons
theorem dI:type_of% @List.getElem?_append_left:=@List.getElem?_append_left
theorem dK:type_of% @Nat.add_assoc:=@Nat.add_assoc
theorem dM:type_of% @Nat.mul_le_mul_right:=@Nat.mul_le_mul_right
theorem dN:type_of% @List.take_succ_eq_append_getElem:=@List.take_succ_eq_append_getElem
theorem dO:type_of% @List.prefix_refl:=@List.prefix_refl
theorem dP:type_of% @Go.ByteArray.toList_eq:=@Go.ByteArray.toList_eq
theorem dS:type_of% @Array.getElem?_setIfInBounds_self_of_lt:=@Array.getElem?_setIfInBounds_self_of_lt
theorem eu:type_of% @Option.some.inj:=@Option.some.inj
theorem eF:type_of% @Nat.add_mul:=@Nat.add_mul
theorem eH:type_of% @List.length_take:=@List.length_take
theorem eP:type_of% @Nat.mul_comm:=@Nat.mul_comm
theorem eX:type_of% @Go.World.ownsRow_nil:=@Go.World.ownsRow_nil
theorem eY:type_of% @Go.IntKind.wrap_i64:=@Go.IntKind.wrap_i64
theorem fC:type_of% @List.getElem?_append_right:=@List.getElem?_append_right
theorem fH:type_of% @List.getElem?_map:=@List.getElem?_map
theorem fQ:type_of% @Nat.zero_add:=@Nat.zero_add
theorem fU:type_of% @List.drop_of_length_le:=@List.drop_of_length_le
theorem gm:type_of% @List.eq_nil_of_length_eq_zero:=@List.eq_nil_of_length_eq_zero
theorem gz:type_of% @Nat.mod_eq_of_lt:=@Nat.mod_eq_of_lt
theorem gB:type_of% @Bool.and_eq_true:=@Bool.and_eq_true
theorem gJ:type_of% @List.getElem?_drop:=@List.getElem?_drop
theorem gK:type_of% @ByteArray.ext:=@ByteArray.ext
theorem gX:type_of% @ByteArray.size_append:=@ByteArray.size_append
theorem gY:type_of% @Go.MapKept.heap_alloc:=@Go.MapKept.heap_alloc
theorem g_:type_of% @Go.World.ownsRow.lt:=@Go.World.ownsRow.lt
theorem ig:type_of% @bne_iff_ne:=@bne_iff_ne
theorem iE:type_of% @ByteArray.data_extract:=@ByteArray.data_extract
theorem iH:type_of% @List.length_set:=@List.length_set
theorem iL:type_of% @Nat.sub_self:=@Nat.sub_self
theorem iP:type_of% @Go.Calls.quiet_of_same:=@Go.Calls.quiet_of_same
theorem iY:type_of% @List.mem_of_getElem?:=@List.mem_of_getElem?
theorem jd:type_of% @Go.RowKit.Below.trans:=@Go.RowKit.Below.trans
theorem jl:type_of% @Option.bind_some:=@Option.bind_some
theorem jm:type_of% @List.length_drop:=@List.length_drop
theorem jo:type_of% @congrArg:=@congrArg
theorem jK:type_of% @Int.natCast_mul:=@Int.natCast_mul
theorem jR:type_of% @Nat.mod_lt:=@Nat.mod_lt
theorem jZ:type_of% @Nat.two_pow_add_eq_or_of_lt:=@Nat.two_pow_add_eq_or_of_lt
theorem kD:type_of% @Go.RowKit.Below.size:=@Go.RowKit.Below.size
theorem kS:type_of% @Nat.two_pow_pos:=@Nat.two_pow_pos
theorem kT:type_of% @List.length_map:=@List.length_map
theorem kU:type_of% @List.append_nil:=@List.append_nil
theorem kX:type_of% @List.drop_eq_getElem_cons:=@List.drop_eq_getElem_cons
theorem lq:type_of% @List.length_singleton:=@List.length_singleton
theorem lF:type_of% @Nat.and_two_pow_sub_one_eq_mod:=@Nat.and_two_pow_sub_one_eq_mod
theorem lH:type_of% @Nat.pow_succ:=@Nat.pow_succ
theorem lS:type_of% @List.mem_cons_of_mem:=@List.mem_cons_of_mem
theorem lW:type_of% @of_decide_eq_true:=@of_decide_eq_true
theorem lX:type_of% @decide_eq_true_eq:=@decide_eq_true_eq
theorem mD:type_of% @beq_iff_eq:=@beq_iff_eq
theorem mF:type_of% @Option.map_some:=@Option.map_some
theorem m_:type_of% @Nat.one_mul:=@Nat.one_mul
theorem ni:type_of% @Nat.mul_assoc:=@Nat.mul_assoc
theorem nC:type_of% @List.cons_append:=@List.cons_append
theorem nS:type_of% @List.take_append_drop:=@List.take_append_drop
theorem nU:type_of% @Go.World.cell?_alloc_mark:=@Go.World.cell?_alloc_mark
theorem oL:type_of% @List.extract_eq_take_drop:=@List.extract_eq_take_drop
theorem oU:type_of% @Go.size_madeCells:=@Go.size_madeCells
theorem oV:type_of% @List.mem_of_mem_take:=@List.mem_of_mem_take
theorem qQ:type_of% @List.filter_cons:=@List.filter_cons
theorem rG:type_of% @Ne.symm:=@Ne.symm
theorem rH:type_of% @Nat.lt_trans:=@Nat.lt_trans
theorem rJ:type_of% @Array.getElem?_eq_none:=@Array.getElem?_eq_none
theorem sG:type_of% @Go.World.size_alloc:=@Go.World.size_alloc
theorem sH:type_of% @Nat.min_eq_left:=@Nat.min_eq_left
theorem sJ:type_of% @Bool.or_eq_true:=@Bool.or_eq_true
theorem uj:type_of% @List.length_replicate:=@List.length_replicate
theorem uZ:type_of% @List.drop_zero:=@List.drop_zero
theorem u_:type_of% @Int.tmod_eq_emod_of_nonneg:=@Int.tmod_eq_emod_of_nonneg
theorem ve:type_of% @Int.tdiv_eq_ediv_of_nonneg:=@Int.tdiv_eq_ediv_of_nonneg
theorem vg:type_of% @Array.toList_extract:=@Array.toList_extract
theorem wo:type_of% @List.getElem_mem:=@List.getElem_mem
theorem xg:type_of% @Array.getElem?_eq_getElem:=@Array.getElem?_eq_getElem
theorem xx:type_of% @Go.rounds_succ:=@Go.rounds_succ
theorem xy:type_of% @Go.heap_alloc_old:=@Go.heap_alloc_old
theorem xA:type_of% @List.any_cons:=@List.any_cons
theorem yD:type_of% @List.nil_append:=@List.nil_append
theorem zl:type_of% @List.mem_cons_self:=@List.mem_cons_self
theorem zA:type_of% @List.getElem?_replicate:=@List.getElem?_replicate
theorem zO:type_of% @Go.World.news_of_block:=@Go.World.news_of_block
theorem Az:type_of% @List.take_zero:=@List.take_zero
theorem AA:type_of% @List.size_toArray:=@List.size_toArray
namespace Rf
structure dG where
 pos:Nat
 dV:Bool
def jT(v k:Nat):Nat:=v/2^k%2
theorem Di(v k:Nat):jT v k<=1:=by unfold jT;omega
def aF(s:ByteArray)(i:Nat):Nat:=(s.data.toList.getD i 0).toNat
theorem bY(s:ByteArray)(i:Nat):aF s i<=255:=by unfold aF;have:=(s.data.toList.getD i 0).toNat_lt;omega
theorem mQ(s:ByteArray)(i:Nat)(h:i<s.size):aF s i=s[i].toNat:=by
 unfold aF;have h2:i<s.data.toList.length:=by simpa using h
 simp only[List.getD,List.getElem?_eq_getElem h2,Option.getD_some];rfl
def kE(s:ByteArray)(st:dG):Nat×dG:=
 if st.dV=true\/8*s.size<=st.pos then(0,⟨st.pos,true⟩)else(jT (aF s (st.pos/8)) (st.pos%8),⟨st.pos+1,false⟩)
theorem Ej(s:ByteArray)(st:dG)(h:st.dV=true\/8*s.size<=st.pos):kE s st=(0,⟨st.pos,true⟩):=by unfold kE;rw[aG h]
theorem Js(s:ByteArray)(st:dG)(h:¬(st.dV=true\/8*s.size<=st.pos)):kE s st=(jT (aF s (st.pos/8)) (st.pos%8),⟨st.pos+1,false⟩):=by unfold kE;rw[ax h]
theorem aaz(s:ByteArray)(st:dG):(kE s st).1<=1:=by
 unfold kE;split
 ·simp
 ·exact Di _ _
def Em(s:ByteArray):Nat->Nat->Nat->dG->Nat×dG
 |0,v,_,st=>(v,st)
 |k+1,v,u,st=>Em s k (v+u*(kE s st).1) (2*u) (kE s st).2
def bZ(s:ByteArray)(n:Nat)(st:dG):Nat×dG:=Em s n 0 1 st
theorem aaA(s:ByteArray)(k:Nat):∀v i st,v<2^i->(Em s k v (2^i) st).1<2^(i+k):=by
 induction k with
 |zero=>intro v i st h;exact h
 |succ k a=>intro v i st h;simp only[Em];rw[show 2*2^i=2^(i+1)by rw[lH,eP],show i+(k+1)=i+1+k by omega];refine a _ _ _ ?_;have h1:=aaz s st;have h2:2^i*(kE s st).1<=2^i*1:=Nat.mul_le_mul_left _ h1;rw[lH];omega
theorem aaB(s:ByteArray)(n:Nat)(st:dG):(bZ s n st).1<2^n:=by have:=aaA s n 0 0 st (by simp);simpa [bZ]using this
def pw(n:Nat):Nat:=2^n
theorem RU(n:Nat):pw (n+1)=2*pw n:=by unfold pw;rw[lH,eP]
theorem Ih(n m:Nat)(h:n<=m):pw n<=pw m:=bT (n:=2) (by omega) h
def yE(s:Nat):Nat:=if s<261 then 0 else(s-261)/4
def vk(s:Nat):Nat:=if s<2 then 0 else(s-2)/2
def TQ:Nat->Nat->Nat->Nat
 |0,_,at_=>at_
 |j+1,k,at_=>TQ j (k+1) (at_+pw (yE k))
def Lt:Nat->Nat->Nat->Nat
 |0,_,at_=>at_
 |j+1,k,at_=>Lt j (k+1) (at_+pw (vk k))
def jq(s:Nat):Nat×Nat:=if s=285 then(258,0)else(TQ (s-257) 257 3,yE s)
def jh(s:Nat):Nat×Nat:=(Lt s 0 1,vk s)
theorem En(s:Nat)(h:s<=285):yE s<=6:=by unfold yE;split<;>omega
theorem Dj(s:Nat)(h:s<=29):vk s<=13:=by unfold vk;split<;>omega
def Eo:Nat->Nat->List UInt8->List UInt8
 |0,_,acc=>acc
 |j+1,v,acc=>Eo j (v/2) ((if v%2=1 then 49 else 48)::acc)
def qY(v n:Nat):List UInt8:=Eo n v []
theorem Lu(j:Nat):∀v acc,(Eo j v acc).length=j+acc.length:=by
 induction j with
 |zero=>intro v acc;simp[Eo]
 |succ j a=>intro v acc;simp only[Eo,a,List.length_cons];omega
theorem uy(v n:Nat):(qY v n).length=n:=by simp[qY,Lu]
structure CS where
 cs:List (Nat×List UInt8)
 value:Nat
 GI:Nat
 xk:Nat
def Dk(L:List Nat)(n s:Nat)(st:CS):CS:=
 if L.getD s 0=n then⟨st.cs++[(s,qY (st.value*pw (n-st.GI)) n)],st.value*pw (n-st.GI)+1,n,st.xk+pw (15-n)⟩else st
def sK(L:List Nat)(n:Nat):Nat->Nat->CS->CS
 |0,_,st=>st
 |j+1,s,st=>sK L n j (s+1) (Dk L n s st)
def BQ(L:List Nat):Nat->Nat->CS->CS
 |0,_,st=>st
 |j+1,n,st=>BQ L j (n+1) (sK L n L.length 0 st)
def bK(L:List Nat):CS:=BQ L 15 1 ⟨[],0,0,0⟩
theorem WN(n:Nat):1<=pw n:=kS n
def lY(cs:List (Nat×List UInt8))(p:List UInt8):Option Nat:=(cs.find? fun c=>c.2==p).map (·.1)
def sign(b:Nat):UInt8:=if b=1 then 49 else 48
def qw(s:ByteArray)(cs:List (Nat×List UInt8)):Nat->List UInt8->dG->Nat×dG
 |0,_,st=>(0,⟨st.pos,true⟩)
 |k+1,pre,st=>if st.dV=true then(0,⟨st.pos,true⟩)else
   if(kE s st).2.dV=true then(0,⟨(kE s st).2.pos,true⟩)else
    match lY cs (pre++[sign (kE s st).1])with
    |some y=>(y,(kE s st).2)
    |none=>qw s cs k (pre++[sign (kE s st).1]) (kE s st).2
def dX(s:ByteArray)(cs:List (Nat×List UInt8))(st:dG):Nat×dG:=qw s cs 15 [] st
theorem LC(s:ByteArray)(cs:List (Nat×List UInt8))(k:Nat)(pre:List UInt8)(st:dG)(h:st.dV=false)(h2:(kE s st).2.dV=true):qw s cs (k+1) pre st=(0,⟨(kE s st).2.pos,true⟩):=by rw[qw,ax (by simp[h]),aG h2]
theorem WO(s:ByteArray)(cs:List (Nat×List UInt8))(k:Nat)(pre:List UInt8)(st:dG)(h:st.dV=false)(h2:(kE s st).2.dV=false)(y:Nat)(a:lY cs (pre++[sign (kE s st).1])=some y):qw s cs (k+1) pre st=(y,(kE s st).2):=by rw[qw,ax (by simp[h]),ax (by simp[h2]),a]
theorem TR(s:ByteArray)(cs:List (Nat×List UInt8))(k:Nat)(pre:List UInt8)(st:dG)(h:st.dV=false)(h2:(kE s st).2.dV=false)(a:lY cs (pre++[sign (kE s st).1])=none):qw s cs (k+1) pre st=qw s cs k (pre++[sign (kE s st).1]) (kE s st).2:=by rw[qw,ax (by simp[h]),ax (by simp[h2]),a]
theorem WQ(s:ByteArray)(cs:List (Nat×List UInt8))(k:Nat)(pre:List UInt8)(st:dG)(h:st.dV=true):qw s cs k pre st=(0,⟨st.pos,true⟩):=by
 cases k with
 |zero=>rfl
 |succ k=>rw[qw,aG h]
structure US where
 st:dG
 out:List UInt8
def uO(most:Nat)(x:UInt8)(u:US):US:=
 if most<=u.out.length then⟨⟨u.st.pos,true⟩,u.out⟩else if u.st.dV=true then u else⟨u.st,u.out++[x]⟩
theorem rY(most:Nat)(x:UInt8)(u:US)(h:most<=u.out.length):uO most x u=⟨⟨u.st.pos,true⟩,u.out⟩:=aG h
theorem Ep(most:Nat)(x:UInt8)(u:US)(h:¬most<=u.out.length)(hb:u.st.dV=true):uO most x u=u:=by unfold uO;rw[ax h,aG hb]
theorem rM(most:Nat)(x:UInt8)(u:US)(h:¬most<=u.out.length)(hb:u.st.dV=false):uO most x u=⟨u.st,u.out++[x]⟩:=by unfold uO;rw[ax h,ax (by simp[hb])]
def GK(s:ByteArray)(most:Nat):Nat->US->US
 |0,u=>u
 |k+1,u=>if u.st.dV=true then u else GK s most k (uO most (UInt8.ofNat (bZ s 8 u.st).1) ⟨(bZ s 8 u.st).2,u.out⟩)
theorem uz(s:ByteArray)(most k:Nat)(u:US)(h:u.st.dV=true):GK s most k u=u:=by
 cases k with
 |zero=>rfl
 |succ k=>rw[GK,aG h]
theorem Jt(s:ByteArray)(most k:Nat)(u:US)(h:u.st.dV=false):GK s most (k+1) u=GK s most k (uO most (UInt8.ofNat (bZ s 8 u.st).1) ⟨(bZ s 8 u.st).2,u.out⟩):=by rw[GK,ax (by simp[h])]
def oW(st:dG):dG:=⟨(st.pos+7)/8*8,st.dV⟩
def qg(s:ByteArray)(st:dG):Nat×dG:=
 ((bZ s 16 (oW st)).1,if(bZ s 16 (oW st)).1+(bZ s 16 (bZ s 16 (oW st)).2).1=65535 then(bZ s 16 (bZ s 16 (oW st)).2).2 else⟨(bZ s 16 (bZ s 16 (oW st)).2).2.pos,true⟩)
def jA(s:ByteArray)(most:Nat)(u:US):US:=GK s most (qg s u.st).1 ⟨(qg s u.st).2,u.out⟩
theorem RX(j:Nat):∀k x,k+j<=286->x<=TQ j k x/\TQ j k x<=x+64*j:=by
 induction j with
 |zero=>intro k x _;exact⟨ah _,ah _⟩
 |succ j a=>intro k x h;have hp:pw (yE k)<=64:=Ih _ 6 (En k (by omega));have:=a (k+1) (x+pw (yE k)) (by omega);simp only[TQ];omega
theorem WR(j:Nat):∀k x,k+j<=30->x<=Lt j k x/\Lt j k x<=x+8192*j:=by
 induction j with
 |zero=>intro k x _;exact⟨ah _,ah _⟩
 |succ j a=>intro k x h;have hp:pw (vk k)<=8192:=Ih _ 13 (Dj k (by omega));have:=a (k+1) (x+pw (vk k)) (by omega);simp only[Lt];omega
theorem RY(y:Nat)(h1:257<=y)(h2:y<=285):(jq y).1<=2000/\(jq y).2<=6:=by
 unfold jq;split
 ·refine⟨?_,?_⟩
  ·simp
  ·simp
 ·have h:=(RX (y-257) 257 3 (by omega)).2;have a:=En y h2;dsimp only;exact⟨by omega,a⟩
theorem WS(d:Nat)(h:d<=29):1<=(jh d).1/\(jh d).1<=245761/\(jh d).2<=13:=by have:=WR d 0 1 (by omega);have a:=Dj d h;unfold jh;dsimp only;exact⟨this.1,by omega,a⟩
def GL(most Es:Nat):Nat->US->US
 |0,u=>u
 |k+1,u=>if u.st.dV=true then u else GL most Es k (uO most (u.out.getD (u.out.length-Es) 0) u)
theorem Ea(most Es k:Nat)(u:US)(h:u.st.dV=true):GL most Es k u=u:=by
 cases k with
 |zero=>rfl
 |succ k=>rw[GL,aG h]
theorem WT(most Es k:Nat)(u:US)(h:u.st.dV=false):GL most Es (k+1) u=GL most Es k (uO most (u.out.getD (u.out.length-Es) 0) u):=by rw[GL,ax (by simp[h])]
structure Mt where
 st:dG
 n:Nat
 Es:Nat
 stop:Bool
def jr(s:ByteArray)(aO len:Nat)(B:List (Nat×List UInt8))(y:Nat)(st:dG):Mt:=
 let c:=bZ s (jq y).2 st
 let a:=dX s B c.2
 if 29<a.1 then⟨⟨a.2.pos,true⟩,0,0,true⟩else
  let b:=bZ s (jh a.1).2 a.2
  let Es:=(jh a.1).1+b.1
  ⟨if aO<Es\/len<Es then⟨b.2.pos,true⟩else b.2,(jq y).1+c.1,Es,false⟩
theorem Et(s:ByteArray)(aO len:Nat)(B:List (Nat×List UInt8))(y:Nat)(st:dG)(h:29<(dX s B (bZ s (jq y).2 st).2).1):
 jr s aO len B y st=⟨⟨(dX s B (bZ s (jq y).2 st).2).2.pos,true⟩,0,0,true⟩:=by
 unfold jr;rw[aG h]
theorem vw(s:ByteArray)(aO len:Nat)(B:List (Nat×List UInt8))(y:Nat)(st:dG)(h:¬29<(dX s B (bZ s (jq y).2 st).2).1):
 jr s aO len B y st=⟨if aO<(jh (dX s B (bZ s (jq y).2 st).2).1).1+(bZ s (jh (dX s B (bZ s (jq y).2 st).2).1).2 (dX s B (bZ s (jq y).2 st).2).2).1\/len<(jh (dX s B (bZ s (jq y).2 st).2).1).1+(bZ s (jh (dX s B (bZ s (jq y).2 st).2).1).2 (dX s B (bZ s (jq y).2 st).2).2).1 then⟨(bZ s (jh (dX s B (bZ s (jq y).2 st).2).1).2 (dX s B (bZ s (jq y).2 st).2).2).2.pos,true⟩else(bZ s (jh (dX s B (bZ s (jq y).2 st).2).1).2 (dX s B (bZ s (jq y).2 st).2).2).2,
  (jq y).1+(bZ s (jq y).2 st).1,(jh (dX s B (bZ s (jq y).2 st).2).1).1+(bZ s (jh (dX s B (bZ s (jq y).2 st).2).1).2 (dX s B (bZ s (jq y).2 st).2).2).1,false⟩:=by
 unfold jr;rw[ax h]
def iZ(s:ByteArray)(aO most:Nat)(A B:List (Nat×List UInt8)):Nat->US->US
 |0,u=>u
 |f+1,u=>if u.st.dV=true then u else
   let r:=dX s A u.st
   if r.2.dV=true then⟨r.2,u.out⟩
   else if r.1<256 then iZ s aO most A B f (uO most (UInt8.ofNat r.1) ⟨r.2,u.out⟩)
   else if r.1=256 then⟨r.2,u.out⟩
   else if 285<r.1 then⟨⟨r.2.pos,true⟩,u.out⟩
   else
    let m:=jr s aO u.out.length B r.1 r.2
    if m.stop=true then⟨m.st,u.out⟩
    else iZ s aO most A B f (GL most m.Es m.n ⟨m.st,u.out⟩)
theorem Ii(s:ByteArray)(aO most:Nat)(A B:List (Nat×List UInt8))(f:Nat)(u:US)(h:u.st.dV=true):iZ s aO most A B f u=u:=by
 cases f with
 |zero=>rfl
 |succ f=>rw[iZ,aG h]
theorem TS(s:ByteArray)(aO most:Nat)(A B:List (Nat×List UInt8))(f:Nat)(u:US)(h:u.st.dV=false)(h2:(dX s A u.st).2.dV=true):iZ s aO most A B (f+1) u=⟨(dX s A u.st).2,u.out⟩:=by rw[iZ,ax (by simp[h]),aG h2]
theorem TT(s:ByteArray)(aO most:Nat)(A B:List (Nat×List UInt8))(f:Nat)(u:US)(h:u.st.dV=false)(h2:(dX s A u.st).2.dV=false)(a:(dX s A u.st).1<256):
 iZ s aO most A B (f+1) u=iZ s aO most A B f (uO most (UInt8.ofNat (dX s A u.st).1) ⟨(dX s A u.st).2,u.out⟩):=by
 rw[iZ,ax (by simp[h]),ax (by simp[h2]),aG a]
theorem Eu(s:ByteArray)(aO most:Nat)(A B:List (Nat×List UInt8))(f:Nat)(u:US)(h:u.st.dV=false)(h2:(dX s A u.st).2.dV=false)(a:(dX s A u.st).1=256):
 iZ s aO most A B (f+1) u=⟨(dX s A u.st).2,u.out⟩:=by
 rw[iZ,ax (by simp[h]),ax (by simp[h2]),ax (by omega),aG a]
theorem OZ(s:ByteArray)(aO most:Nat)(A B:List (Nat×List UInt8))(f:Nat)(u:US)(h:u.st.dV=false)(h2:(dX s A u.st).2.dV=false)(a:285<(dX s A u.st).1):
 iZ s aO most A B (f+1) u=⟨⟨(dX s A u.st).2.pos,true⟩,u.out⟩:=by
 rw[iZ,ax (by simp[h]),ax (by simp[h2]),ax (by omega),ax (by omega),aG a]
theorem TU(s:ByteArray)(aO most:Nat)(A B:List (Nat×List UInt8))(f:Nat)(u:US)(h:u.st.dV=false)(h2:(dX s A u.st).2.dV=false)(b:257<=(dX s A u.st).1)(c:(dX s A u.st).1<=285)
 (a:(jr s aO u.out.length B (dX s A u.st).1 (dX s A u.st).2).stop=true):iZ s aO most A B (f+1) u=⟨(jr s aO u.out.length B (dX s A u.st).1 (dX s A u.st).2).st,u.out⟩:=by
 rw[iZ,ax (by simp[h]),ax (by simp[h2]),ax (by omega),ax (by omega),ax (by omega),aG a]
theorem O_(s:ByteArray)(aO most:Nat)(A B:List (Nat×List UInt8))(f:Nat)(u:US)(h:u.st.dV=false)(h2:(dX s A u.st).2.dV=false)(b:257<=(dX s A u.st).1)(c:(dX s A u.st).1<=285)
 (a:(jr s aO u.out.length B (dX s A u.st).1 (dX s A u.st).2).stop=false):iZ s aO most A B (f+1) u=iZ s aO most A B f (GL most (jr s aO u.out.length B (dX s A u.st).1 (dX s A u.st).2).Es (jr s aO u.out.length B (dX s A u.st).1 (dX s A u.st).2).n ⟨(jr s aO u.out.length B (dX s A u.st).1 (dX s A u.st).2).st,u.out⟩):=by
 rw[iZ,ax (by simp[h]),ax (by simp[h2]),ax (by omega),ax (by omega),ax (by omega),ax (by simp[a])]
theorem TV(s:ByteArray)(st:dG):(kE s st).2.dV=true\/(kE s st).2.pos=st.pos+1:=by
 unfold kE;split
 ·exact .inl rfl
 ·exact .inr rfl
theorem Eb(s:ByteArray)(st:dG):st.pos<=(kE s st).2.pos:=by
 unfold kE;split
 ·exact ah _
 ·exact Nat.le_succ _
theorem aaC(s:ByteArray)(k:Nat):∀v u st,st.pos<=(Em s k v u st).2.pos:=by
 induction k with
 |zero=>intro v u st;exact ah _
 |succ k a=>intro v u st;exact aY (Eb s st) (a _ _ _)
theorem mV(s:ByteArray)(n:Nat)(st:dG):st.pos<=(bZ s n st).2.pos:=aaC s n _ _ st
theorem RZ(s:ByteArray)(cs:List (Nat×List UInt8))(k:Nat):∀pre st,st.pos<=(qw s cs k pre st).2.pos:=by
 induction k with
 |zero=>intro pre st;exact ah _
 |succ k a=>
  intro pre st;rw[qw];split
  ·exact ah _
  ·split
   ·exact Eb s st
   ·split
    ·exact Eb s st
    ·exact aY (Eb s st) (a _ _)
theorem Ju(s:ByteArray)(cs:List (Nat×List UInt8))(st:dG):st.pos<=(dX s cs st).2.pos:=RZ s cs 15 [] st
theorem TW(s:ByteArray)(cs:List (Nat×List UInt8))(st:dG):(dX s cs st).2.dV=true\/st.pos+1<=(dX s cs st).2.pos:=by
 unfold dX;rw[qw];split
 ·exact .inl rfl
 ·split
  ·exact .inl rfl
  ·rename_i h;have hm:(kE s st).2.pos=st.pos+1:=(TV s st).resolve_left h;split
   ·exact .inr (by rw[hm];exact ah _)
   ·exact .inr (by rw[<-hm];exact RZ _ _ _ _ _)
end Rf
namespace lI
open Go.RowKit Rf
end lI
namespace Rf
def vz(L:List Nat):Nat:=(L.filter fun x=>decide (0<x)).length
def Jv(L:List Nat):Bool:=vz L==1
theorem WU(L:List Nat)(x:Nat):vz (L++[x])=vz L+if 0<x then 1 else 0:=by unfold vz;rw[List.filter_append];by_cases h:0<x<;>simp[h]
theorem WV(L:List Nat):vz L<=L.length:=List.length_filter_le _ _
def order:List Nat:=[16,17,18,0,8,7,9,6,10,5,11,4,12,3,13,2,14,1,15]
def nD(s:ByteArray):Nat->Nat->List Nat->dG->List Nat×dG
 |0,_,L,st=>(L,st)
 |j+1,i,L,st=>nD s j (i+1) (L.set (order.getD i 0) (bZ s 3 st).1) (bZ s 3 st).2
def jC(s:ByteArray)(L:List Nat)(y:Nat)(st:dG):(Nat×Nat×dG) ⊕ dG:=
 if y=16 then(if L.length=0 then .inr ⟨(bZ s 2 st).2.pos,true⟩else .inl (L.getD (L.length-1) 0,3+(bZ s 2 st).1,(bZ s 2 st).2))
 else if y=17 then .inl (0,3+(bZ s 3 st).1,(bZ s 3 st).2)
 else if y=18 then .inl (0,11+(bZ s 7 st).1,(bZ s 7 st).2)
 else .inl (y,1,st)
def mG(s:ByteArray)(N:Nat)(cs:List (Nat×List UInt8)):Nat->List Nat->dG->List Nat×dG
 |0,L,st=>(L,st)
 |f+1,L,st=>if L.length<N then(if st.dV=true then(L,st)else
   match jC s L (dX s cs st).1 (dX s cs st).2 with
   | .inl (v,k,qR)=>mG s N cs f (L++List.replicate k v) qR
   | .inr qR=>(L,qR))else(L,st)
theorem Ew(s:ByteArray)(N:Nat)(cs:List (Nat×List UInt8))(f:Nat)(L:List Nat)(st:dG)(h:¬L.length<N):mG s N cs f L st=(L,st):=by
 cases f with
 |zero=>rfl
 |succ f=>rw[mG,ax h]
theorem Ij(s:ByteArray)(N:Nat)(cs:List (Nat×List UInt8))(f:Nat)(L:List Nat)(st:dG)(h:st.dV=true):mG s N cs f L st=(L,st):=by
 cases f with
 |zero=>rfl
 |succ f=>
  rw[mG];by_cases a:L.length<N
  ·rw[aG a,aG h]
  ·rw[ax a]
theorem LD(s:ByteArray)(N:Nat)(cs:List (Nat×List UInt8))(f:Nat)(L:List Nat)(st:dG)(h:L.length<N)(hb:st.dV=false)(v k:Nat)(qR:dG)(e:jC s L (dX s cs st).1 (dX s cs st).2= .inl (v,k,qR)):
 mG s N cs (f+1) L st=mG s N cs f (L++List.replicate k v) qR:=by
 rw[mG,aG h,ax (by simp[hb]),e]
theorem Pg(s:ByteArray)(N:Nat)(cs:List (Nat×List UInt8))(f:Nat)(L:List Nat)(st:dG)(h:L.length<N)(hb:st.dV=false)(qR:dG)(e:jC s L (dX s cs st).1 (dX s cs st).2= .inr qR):
 mG s N cs (f+1) L st=(L,qR):=by
 rw[mG,aG h,ax (by simp[hb]),e]
theorem Ph(L:List Nat)(n N:Nat)(j:Nat):∀s st,s+j<=N->(∀c∈st.cs,c.1<N)->∀c∈(sK L n j s st).cs,c.1<N:=by
 induction j with
 |zero=>intro s st _ h;exact h
 |succ j b=>
  intro s st d h;refine b (s+1) _ (by omega) ?_;unfold Dk;split
  ·intro c a;rcases List.mem_append.1 a with a|a
   ·exact h c a
   ·simp at a;subst a;show s<N;omega
  ·exact h
theorem Pj(L:List Nat)(j:Nat):∀n st,(∀c∈st.cs,c.1<L.length)->∀c∈(BQ L j n st).cs,c.1<L.length:=by
 induction j with
 |zero=>intro n st h;exact h
 |succ j a=>intro n st h;exact a _ _ (Ph L n L.length L.length 0 st (by omega) h)
theorem Pm(L:List Nat):∀c∈(bK L).cs,c.1<L.length:=Pj L 15 1 _ (by intro c a;cases a)
theorem TZ(cs:List (Nat×List UInt8))(p:List UInt8)(y N:Nat)(h:∀c∈cs,c.1<N)(e:lY cs p=some y):y<N:=by unfold lY at e;obtain⟨c,a,rfl⟩:=Option.map_eq_some_iff.1 e;exact h c (List.mem_of_find?_eq_some a)
theorem WW(s:ByteArray)(cs:List (Nat×List UInt8))(N:Nat)(a:0<N)(h:∀c∈cs,c.1<N)(k:Nat):∀pre st,(qw s cs k pre st).1<N:=by
 induction k with
 |zero=>intro pre st;exact a
 |succ k b=>
  intro pre st;rw[qw];split
  ·exact a
  ·split
   ·exact a
   ·split
    ·rename_i y e;exact TZ cs _ y N h e
    ·exact b _ _
theorem WX(s:ByteArray)(L:List Nat)(st:dG)(h:0<L.length):(dX s (bK L).cs st).1<L.length:=WW s _ _ h (Pm L) 15 [] st
def AL(a b:Nat)(st:dG):dG:=if 286<a\/30<b then⟨st.pos,true⟩else st
def DW(m:Nat)(st:dG):dG:=if m=32768 then st else⟨st.pos,true⟩
def ach(a:Nat)(L:List Nat):Bool:=(bK (L.take a)).xk==16384&&L.getD 256 0==1
def aci(a:Nat)(L:List Nat):Bool:=(bK (L.drop a)).xk==0||((bK (L.drop a)).xk==16384&&Jv (L.drop a))
def wu(a:Nat)(L:List Nat):Bool:=L.getD 256 0==0||((bK (L.take a)).xk !=32768&& !(ach a L&&Jv (L.take a)))||((bK (L.drop a)).xk !=32768&& !aci a L)
def BR(s:ByteArray)(aO most a b:Nat)(out:List UInt8)(L:List Nat)(st:dG):US:=
 if st.dV=true\/L.length≠a+b then⟨⟨st.pos,true⟩,out⟩else
 if wu a L=true then⟨⟨st.pos,true⟩,out⟩else iZ s aO most (bK (L.take a)).cs (bK (L.drop a)).cs (8*s.size+1) ⟨st,out⟩
def AO(s:ByteArray)(a b n:Nat)(st:dG):List Nat×dG:=
 mG s (a+b) (bK (nD s n 0 (List.replicate 19 0) st).1).cs (a+b+1) [] (DW (bK (nD s n 0 (List.replicate 19 0) st).1).xk (nD s n 0 (List.replicate 19 0) st).2)
def AP(s:ByteArray)(aO most:Nat)(u:US):US:=
 let a:=bZ s 5 u.st
 let b:=bZ s 5 a.2
 let c:=bZ s 4 b.2
 let l:=AO s (a.1+257) (b.1+1) (c.1+4) (AL (a.1+257) (b.1+1) c.2)
 BR s aO most (a.1+257) (b.1+1) u.out l.1 l.2
theorem Pn(s:ByteArray)(j:Nat):∀i L st,(nD s j i L st).1.length=L.length:=by
 induction j with
 |zero=>intro i L st;rfl
 |succ j a=>intro i L st;simp only[nD];rw[a];simp
theorem T_(s:ByteArray)(j:Nat):∀i L st,(∀x∈L,x<=15)->∀x∈(nD s j i L st).1,x<=15:=by
 induction j with
 |zero=>intro i L st h;exact h
 |succ j b=>
  intro i L st h;refine b _ _ _ (fun x a=> ?_);rcases List.mem_or_eq_of_mem_set a with a|a
  ·exact h x a
  ·subst a;have:=aaB s 3 st;omega
theorem jU(L:List Nat)(N:Nat)(h:∀x∈L,x<=N)(i:Nat):L.getD i 0<=N:=by
 by_cases hi:i<L.length
 ·simp only[List.getD,List.getElem?_eq_getElem hi,Option.getD_some];exact h _ (wo hi)
 ·simp[List.getD,List.getElem?_eq_none (show L.length<=i by omega)]
theorem WY(s:ByteArray)(aO most a b:Nat)(out:List UInt8)(L:List Nat)(st:dG)(h:st.dV=true\/L.length≠a+b):BR s aO most a b out L st=⟨⟨st.pos,true⟩,out⟩:=aG h
theorem Po(s:ByteArray)(aO most a b:Nat)(out:List UInt8)(L:List Nat)(st:dG)(h:st.dV=false)(c:L.length=a+b)(hw:wu a L=true):BR s aO most a b out L st=⟨⟨st.pos,true⟩,out⟩:=by unfold BR;rw[ax (by simp[h,c]),aG hw]
theorem aaD(s:ByteArray)(aO most a b:Nat)(out:List UInt8)(L:List Nat)(st:dG)(h:st.dV=false)(c:L.length=a+b)(hw:wu a L=false):BR s aO most a b out L st=iZ s aO most (bK (L.take a)).cs (bK (L.drop a)).cs (8*s.size+1) ⟨st,out⟩:=by unfold BR;rw[ax (by simp[h,c]),ax (by simp[hw])]
theorem AQ(most:Nat)(x:UInt8)(u:US):(uO most x u).st.pos=u.st.pos:=by
 unfold uO;split
 ·rfl
 ·split<;>rfl
theorem acF(s:ByteArray)(most k:Nat):∀u,u.st.pos<=(GK s most k u).st.pos:=by
 induction k with
 |zero=>intro u;exact ah _
 |succ k a=>
  intro u;rw[GK];split
  ·exact ah _
  ·refine aY ?_ (a _);rw[AQ];exact mV s 8 u.st
theorem Ua(st:dG):st.pos<=(oW st).pos:=by unfold oW;show st.pos<=(st.pos+7)/8*8;omega
theorem WZ(s:ByteArray)(st:dG):st.pos<=(qg s st).2.pos:=by have h:st.pos<=(bZ s 16 (bZ s 16 (oW st)).2).2.pos:=aY (Ua st) (aY (mV s 16 _) (mV s 16 _));unfold qg;dsimp only;split<;>exact h
theorem Pq(s:ByteArray)(most:Nat)(u:US):u.st.pos<=(jA s most u).st.pos:=aY (WZ s u.st) (acF s most _ ⟨(qg s u.st).2,u.out⟩)
theorem R_(most Es k:Nat):∀u,(GL most Es k u).st.pos=u.st.pos:=by
 induction k with
 |zero=>intro u;rfl
 |succ k a=>
  intro u;rw[GL];split
  ·rfl
  ·rw[a,AQ]
theorem Ik(s:ByteArray)(aO len:Nat)(B:List (Nat×List UInt8))(y:Nat)(st:dG):st.pos<=(jr s aO len B y st).st.pos:=by
 have h1:=mV s (jq y).2 st;have h2:=Ju s B (bZ s (jq y).2 st).2;unfold jr;dsimp only;split
 ·exact aY h1 h2
 ·have a:=mV s (jh (dX s B (bZ s (jq y).2 st).2).1).2 (dX s B (bZ s (jq y).2 st).2).2;dsimp only;split<;>exact aY h1 (aY h2 a)
theorem LG(s:ByteArray)(aO most:Nat)(A B:List (Nat×List UInt8))(f:Nat):∀u,u.st.pos<=(iZ s aO most A B f u).st.pos:=by
 induction f with
 |zero=>intro u;exact ah _
 |succ f a=>
  intro u;have h1:=Ju s A u.st;rw[iZ];dsimp only;split
  ·exact ah _
  ·split
   ·exact h1
   ·split
    ·refine aY ?_ (a _);rw[AQ];exact h1
    ·split
     ·exact h1
     ·split
      ·exact h1
      ·have h2:=Ik s aO u.out.length B (dX s A u.st).1 (dX s A u.st).2;split
       ·exact aY h1 h2
       ·refine aY ?_ (a _);rw[R_];exact aY h1 h2
theorem Ub(s:ByteArray)(j:Nat):∀i L st,st.pos<=(nD s j i L st).2.pos:=by
 induction j with
 |zero=>intro i L st;exact ah _
 |succ j a=>intro i L st;exact aY (mV s 3 st) (a _ _ _)
theorem W_(s:ByteArray)(N:Nat)(cs:List (Nat×List UInt8))(f:Nat):∀L st,st.pos<=(mG s N cs f L st).2.pos:=by
 induction f with
 |zero=>intro L st;exact ah _
 |succ f g=>
  intro L st;have h1:=Ju s cs st;rw[mG];split
  ·split
   ·exact ah _
   ·have h:∀y a,(match jC s L y a with| .inl (_,_,qR)=>a.pos<=qR.pos| .inr qR=>a.pos<=qR.pos):=by
     intro y a;unfold jC;by_cases b:y=16
     ·rw[aG b];by_cases h0:L.length=0
      ·rw[aG h0];exact mV s 2 a
      ·rw[ax h0];exact mV s 2 a
     ·rw[ax b];by_cases c:y=17
      ·rw[aG c];exact mV s 3 a
      ·rw[ax c];by_cases d:y=18
       ·rw[aG d];exact mV s 7 a
       ·rw[ax d];exact ah _
    have h2:=h (dX s cs st).1 (dX s cs st).2;split
    ·rename_i v k qR e;rw[e]at h2;exact aY h1 (aY h2 (g _ _))
    ·rename_i qR e;rw[e]at h2;exact aY h1 h2
  ·exact ah _
theorem Uc(a b:Nat)(st:dG):(AL a b st).pos=st.pos:=by unfold AL;split<;>rfl
theorem Xa(m:Nat)(st:dG):(DW m st).pos=st.pos:=by unfold DW;split<;>rfl
theorem aaE(s:ByteArray)(aO most a b:Nat)(out:List UInt8)(L:List Nat)(st:dG):st.pos<=(BR s aO most a b out L st).st.pos:=by
 unfold BR;split
 ·exact ah _
 ·split
  ·exact ah _
  ·exact LG s aO most _ _ _ ⟨st,out⟩
theorem Xb(s:ByteArray)(a b n:Nat)(st:dG):st.pos<=(AO s a b n st).2.pos:=by unfold AO;refine aY ?_ (W_ s _ _ _ _ _);rw[Xa];exact Ub s _ _ _ _
theorem aaF(s:ByteArray)(aO most:Nat)(u:US):u.st.pos<=(AP s aO most u).st.pos:=by unfold AP;dsimp only;refine aY ?_ (aaE s aO most _ _ u.out _ _);refine aY ?_ (Xb s _ _ _ _);rw[Uc];exact aY (mV s 5 u.st) (aY (mV s 5 _) (mV s 4 _))
theorem Ud(s:ByteArray)(st:dG)(h:st.dV=true):(kE s st).2.dV=true:=by rw[Ej s st (.inl h)]
theorem Il(s:ByteArray)(k:Nat):∀v u st,st.dV=true->(Em s k v u st).2.dV=true:=by
 induction k with
 |zero=>intro v u st h;exact h
 |succ k a=>intro v u st h;exact a _ _ _ (Ud s st h)
theorem mX(s:ByteArray)(n:Nat)(st:dG)(h:st.dV=true):(bZ s n st).2.dV=true:=Il s n _ _ st h
def sO(i:Nat):Nat:=if 144<=i/\i<256 then 9 else if 256<=i/\i<280 then 7 else 8
def gU:List Nat:=(List.range 288).map sO
def qh(s:ByteArray)(aO most:Nat)(y:Nat)(u:US):US:=
 if u.st.dV=true then u else if y=0 then jA s most u else if y=1 then iZ s aO most (bK gU).cs (bK (List.replicate 32 5)).cs (8*s.size+1) u
 else if y=2 then AP s aO most u else⟨⟨u.st.pos,true⟩,u.out⟩
theorem LH(s:ByteArray)(aO most y:Nat)(u:US):u.st.pos<=(qh s aO most y u).st.pos:=by
 unfold qh;split
 ·exact ah _
 ·split
  ·exact Pq s most u
  ·split
   ·exact LG s aO most _ _ _ u
   ·split
    ·exact aaF s aO most u
    ·exact ah _
def iI(s:ByteArray)(aO most:Nat)(u:US):Nat×US:=
 ((kE s u.st).1,qh s aO most (bZ s 2 (kE s u.st).2).1 ⟨(bZ s 2 (kE s u.st).2).2,u.out⟩)
def xC(s:ByteArray)(aO most:Nat):Nat->US->US
 |0,u=>u
 |f+1,u=>if u.st.dV=true then u else if(iI s aO most u).1=0 then xC s aO most f (iI s aO most u).2 else(iI s aO most u).2
theorem LJ(s:ByteArray)(aO most f:Nat)(u:US)(h:u.st.dV=true):xC s aO most f u=u:=by
 cases f with
 |zero=>rfl
 |succ f=>rw[xC,aG h]
theorem Jw(s:ByteArray)(aO most f:Nat)(u:US)(h:u.st.dV=false)(h2:(iI s aO most u).1=0):xC s aO most (f+1) u=xC s aO most f (iI s aO most u).2:=by rw[xC,ax (by simp[h]),aG h2]
theorem AU(s:ByteArray)(aO most f:Nat)(u:US)(h:u.st.dV=false)(h2:(iI s aO most u).1≠0):xC s aO most (f+1) u=(iI s aO most u).2:=by rw[xC,ax (by simp[h]),ax h2]
def LK(s:ByteArray)(p:Nat):Nat:=jT (aF s (p/8)) (p%8)
theorem aaG(s:ByteArray)(p:Nat):LK s p<=1:=Di _ _
def bC(s:ByteArray)(p:Nat):Nat->Nat
 |0=>0
 |n+1=>bC s p n+2^n*LK s (p+n)
theorem fJ(s:ByteArray)(p n:Nat):bC s p n<2^n:=by
 induction n with
 |zero=>simp[bC]
 |succ n a=>have h:=aaG s (p+n);have h2:2^n*LK s (p+n)<=2^n*1:=Nat.mul_le_mul_left _ h;rw[bC,lH];omega
theorem rZ(s:ByteArray)(p a b:Nat):bC s p (a+b)=bC s p a+2^a*bC s (p+a) b:=by
 induction b with
 |zero=>simp[bC]
 |succ b c=>rw[<-dK,bC,c,bC,Nat.mul_add,<-ni,<-Nat.pow_add,dK,dK p a b]
theorem vC(s:ByteArray)(p a c:Nat)(h:a<=c):bC s p c%2^a=bC s p a:=by have e:=rZ s p a (c-a);rw[show a+(c-a)=c by omega]at e;rw[e,Nat.add_mul_mod_self_left,gz (fJ s p a)]
theorem yF(s:ByteArray)(p a c:Nat)(h:a<=c):bC s p c/2^a=bC s (p+a) (c-a):=by have e:=rZ s p a (c-a);rw[show a+(c-a)=c by omega]at e;rw[e,Nat.add_mul_div_left _ _ (kS a),Nat.div_eq_of_lt (fJ s p a),fQ]
theorem Pv(v:Nat)(h:v<=255):jT v 0+2*jT v 1+4*jT v 2+8*jT v 3+16*jT v 4+32*jT v 5+64*jT v 6+128*jT v 7=v:=by simp only[jT];have a:(2:Nat)^0=1:=rfl;have b:(2:Nat)^1=2:=rfl;have c:(2:Nat)^2=4:=rfl;have e3:(2:Nat)^3=8:=rfl;have d:(2:Nat)^4=16:=rfl;have e:(2:Nat)^5=32:=rfl;have f:(2:Nat)^6=64:=rfl;have g:(2:Nat)^7=128:=rfl;rw[a,b,c,e3,d,e,f,g];omega
theorem jV(s:ByteArray)(p t:Nat)(h:p=8*t):bC s p 8=aF s t:=by
 have a:∀k,k<8->LK s (p+k)=jT (aF s t) k:=fun k a=>by unfold LK;rw[show(p+k)/8=t by omega,show(p+k)%8=k by omega]
 simp only[bC];rw[a 0 (by omega),a 1 (by omega),a 2 (by omega),a 3 (by omega),a 4 (by omega),a 5 (by omega),a 6 (by omega),a 7 (by omega)];have j:=Pv (aF s t) (bY s t);have b:(2:Nat)^0=1:=rfl;have c:(2:Nat)^1=2:=rfl;have d:(2:Nat)^2=4:=rfl;have e3:(2:Nat)^3=8:=rfl;have e:(2:Nat)^4=16:=rfl;have f:(2:Nat)^5=32:=rfl;have g:(2:Nat)^6=64:=rfl;have i:(2:Nat)^7=128:=rfl;rw[b,c,d,e3,e,f,g,i];omega
theorem Px(s:ByteArray)(p c t:Nat)(h:p+c=8*t):bC s p (c+8)=bC s p c+aF s t*2^c:=by rw[rZ,jV s (p+c) t h,eP]
theorem aaH(s:ByteArray)(k:Nat):∀v i p,p+k<=8*s.size->Em s k v (2^i) ⟨p,false⟩=(v+2^i*bC s p k,⟨p+k,false⟩):=by
 induction k with
 |zero=>intro v i p _;simp[Em,bC]
 |succ k a=>intro v i p h;rw[Em,Js s ⟨p,false⟩ (by simp;omega)];dsimp only;rw[show 2*2^i=2^(i+1)by rw[lH,eP],a _ _ _ (by omega),Nat.add_comm k 1,rZ s p 1 k];simp only[bC,Nat.pow_zero,Nat.one_mul,Nat.add_zero,Nat.zero_add,Nat.pow_succ,LK];rw[Nat.mul_add,ni (2^i) 2,dK,dK p 1 k]
theorem gV(s:ByteArray)(n p:Nat)(h:p+n<=8*s.size):bZ s n ⟨p,false⟩=(bC s p n,⟨p+n,false⟩):=by have:=aaH s n 0 0 p h;simpa [bZ]using this
theorem Py(s:ByteArray)(k:Nat):∀v u p,p<=8*s.size->¬p+k<=8*s.size->(Em s k v u ⟨p,false⟩).2.dV=true:=by
 induction k with
 |zero=>intro v u p h1 h2;omega
 |succ k a=>
  intro v u p h1 h2;rw[Em];by_cases hp:p<8*s.size
  ·rw[Js s ⟨p,false⟩ (by simp;omega)];exact a _ _ _ (by show p+1<=_;omega) (by show¬p+1+k<=_;omega)
  ·rw[Ej s ⟨p,false⟩ (.inr (by show 8*s.size<=p;omega))];exact Il s k _ _ _ rfl
theorem sQ(s:ByteArray)(n p:Nat)(h1:p<=8*s.size)(h2:¬p+n<=8*s.size):(bZ s n ⟨p,false⟩).2.dV=true:=Py s n _ _ p h1 h2
theorem wB(s:ByteArray)(p:Nat)(h:p<8*s.size):kE s ⟨p,false⟩=(bC s p 1,⟨p+1,false⟩):=by rw[Js s ⟨p,false⟩ (by simp;omega)];simp[bC,LK]
theorem Ey(s:ByteArray)(p:Nat)(h:¬p<8*s.size):(kE s ⟨p,false⟩).2.dV=true:=by rw[Ej s ⟨p,false⟩ (.inr (by show 8*s.size<=p;omega))]
theorem oG(s:ByteArray)(t:Nat):(s.extract t s.size).size=s.size-t:=by simp
theorem Ue(s:ByteArray)(t:Nat)(h:t<s.size):(s.extract t s.size).extract 1 (s.extract t s.size).size=s.extract (t+1) s.size:=by
 apply gK;simp only[ByteArray.data_extract,oG s t,Array.extract_extract];congr 1
 omega
def cN(L:List Nat)(n:Nat):Nat:=if n=0 then 0 else L.count n
def fN(L:List Nat):Nat->Nat
 |0=>0
 |n+1=>2*(fN L n+cN L n)
def sN(L:List Nat):Nat->Nat
 |0=>0
 |n+1=>sN L n+cN L n
def kN(L:List Nat):Nat->Nat
 |0=>0
 |n+1=>kN L n+cN L n*pw (15-n)
def iO(L:List Nat)(n m:Nat):List Nat:=(List.range m).filter fun s=>L.getD s 0==n
def pz(L:List Nat)(n:Nat):List Nat:=if n=0 then []else iO L n L.length
def AY(L:List Nat):Nat->List Nat
 |0=>[]
 |n+1=>AY L n++pz L n
theorem kK(L:List Nat)(n m:Nat):iO L n (m+1)=if L.getD m 0=n then iO L n m++[m]else iO L n m:=by
 unfold iO;rw[List.range_succ,List.filter_append];by_cases h:L.getD m 0=n
 ·rw[aG h];simp only[List.filter_cons,List.filter_nil,h,beq_self_eq_true,if_true]
 ·rw[ax h];simp only[List.filter_cons,List.filter_nil,beq_eq_false_iff_ne.2 h,Bool.false_eq_true,if_false,List.append_nil]
theorem PL(L:List Nat)(n:Nat):∀m,m<=L.length->(iO L n m).length=(L.take m).count n:=by
 intro m;induction m with
 |zero=>intro _;simp[iO]
 |succ m a=>
  intro h;have hm:L.getD m 0=L[m]'(by omega):=by simp[List.getD,List.getElem?_eq_getElem (show m<L.length by omega)]
  rw[kK,dN (by omega),List.count_append,<-a (by omega)];by_cases h2:L.getD m 0=n
  ·rw[aG h2];rw[hm]at h2;simp[h2]
  ·rw[ax h2];rw[hm]at h2;simp[h2]
theorem nX(L:List Nat)(n:Nat):(pz L n).length=cN L n:=by
 unfold pz cN;by_cases h:n=0
 ·simp[h]
 ·rw[ax h,ax h,PL L n L.length (ah _),List.take_length]
theorem Xk(L:List Nat)(n:Nat):(AY L n).length=sN L n:=by
 induction n with
 |zero=>rfl
 |succ n a=>rw[AY,aK,a,nX,sN]
theorem yH(L:List Nat)(a b:Nat)(h:a<=b):sN L a<=sN L b:=by
 induction b with
 |zero=>have:a=0:=by omega
        subst this;exact ah _
 |succ b c=>
  by_cases e:a=b+1
  ·subst e;exact ah _
  ·have:=c (by omega);rw[sN];omega
theorem Sr(L:List Nat)(m:Nat):∀n j,n<m->j<cN L n->(AY L m).getD (sN L n+j) 0=(pz L n).getD j 0:=by
 induction m with
 |zero=>intro n j h;omega
 |succ m a=>
  intro n j f b;have c:=Xk L m;have g:=nX L n;by_cases e:n=m
  ·subst e;rw[AY,ag,fC (by omega),c,show sN L n+j-sN L n=j by omega,<-ag]
  ·have h2:=a n j (by omega) b;have d:=yH L (n+1) m (by omega);rw[sN]at d;rw[AY,ag,dI (by omega),<-ag];exact h2
def iw(v n:Nat):List Nat->List (Nat×List UInt8)
 | []=>[]
 |x::l=>(x,qY v n)::iw (v+1) n l
theorem EE(n:Nat)(l:List Nat):∀v x,iw v n (l++[x])=iw v n l++[(x,qY (v+l.length) n)]:=by
 induction l with
 |nil=>intro v x;rfl
 |cons y l a=>intro v x;simp only[List.cons_append,iw,a,List.length_cons];rw[show v+1+l.length=v+(l.length+1)by omega]
def Xl(L:List Nat):Nat->List (Nat×List UInt8)
 |0=>[]
 |n+1=>Xl L n++iw (fN L n) n (pz L n)
theorem Uh(L:List Nat)(n:Nat)(h1:1<=n)(j:Nat):∀s st,s+j=L.length->st.GI<=n->st.value*pw (n-st.GI)=fN L n+(iO L n s).length->st.cs=Xl L n++iw (fN L n) n (iO L n s)->st.xk=kN L n+(iO L n s).length*pw (15-n)->
 (sK L n j s st).GI<=n/\(sK L n j s st).value*pw (n-(sK L n j s st).GI)=fN L n+cN L n/\(sK L n j s st).cs=Xl L (n+1)/\(sK L n j s st).xk=kN L (n+1):=by
 induction j with
 |zero=>
  intro s st i h2 a c b;have d:s=L.length:=by omega
  subst d;have f:pz L n=iO L n L.length:=by unfold pz;rw[ax (by omega)]
  have g:=nX L n;rw[f]at g;rw[g]at a b;refine⟨h2,a,?_,b⟩;show st.cs=_;rw[c,Xl,f]
 |succ j h=>
  intro s st i h2 a c b;rw[sK];by_cases e:L.getD s 0=n
  ·have es:iO L n (s+1)=iO L n s++[s]:=by rw[kK,aG e]
   refine h (s+1) _ (by omega) ?_ ?_ ?_ ?_
   ·unfold Dk;rw[aG e];exact ah _
   ·unfold Dk;rw[aG e,es];simp only[Nat.sub_self,List.length_append,List.length_cons,List.length_nil];rw[a];simp[pw];omega
   ·unfold Dk;rw[aG e,es,EE];simp only[a,c,List.append_assoc]
   ·unfold Dk;rw[aG e,es];simp only[List.length_append,List.length_cons,List.length_nil];rw[b,eF];omega
  ·have es:iO L n (s+1)=iO L n s:=by rw[kK,ax e]
   have k:Dk L n s st=st:=by unfold Dk;rw[ax e]
   rw[k];exact h (s+1) _ (by omega) h2 (by rw[es];exact a) (by rw[es];exact c) (by rw[es];exact b)
theorem Ui(L:List Nat)(j:Nat):∀n st,1<=n->st.GI<=n->st.value*pw (n-st.GI)=fN L n->st.cs=Xl L n->st.xk=kN L n->(BQ L j n st).cs=Xl L (n+j)/\(BQ L j n st).xk=kN L (n+j):=by
 induction j with
 |zero=>intro n st _ _ _ e f;exact⟨e,f⟩
 |succ j g=>intro n st h1 h2 h e f;obtain⟨a,b,c,d⟩:=Uh L n h1 L.length 0 st (by omega) h2 (by simpa [iO]using h) (by simpa [iO,iw]using e) (by simpa [iO]using f);rw[BQ,show n+(j+1)=n+1+j by omega];refine g (n+1) _ (by omega) (by omega) ?_ c d;rw[fN,<-b,show n+1-(sK L n L.length 0 st).GI=(n-(sK L n L.length 0 st).GI)+1 by omega,RU];rw[Nat.mul_left_comm]
theorem BX(L:List Nat):(bK L).cs=Xl L 16/\(bK L).xk=kN L 16:=by
 refine Ui L 15 1 ⟨[],0,0,0⟩ (by omega) (by simp) ?_ ?_ ?_
 ·simp[fN,cN]
 ·rfl
 ·simp[kN,cN]
theorem adu(L:List Nat):∀n,n<=15->fN L n*pw (15-n)=kN L n:=by
 intro n;induction n with
 |zero=>intro _;simp[fN,kN]
 |succ n a=>
  intro h;have e:pw (15-n)=2*pw (15-(n+1)):=by rw[<-RU];congr 1;omega
  rw[fN,kN,<-a (by omega),<-eF,e,eP 2 (fN L n+cN L n),ni]
theorem aaP(L:List Nat)(a b:Nat)(h:a<=b):kN L a<=kN L b:=by
 induction b with
 |zero=>have:a=0:=by omega
        subst this;exact ah _
 |succ b c=>
  by_cases e:a=b+1
  ·subst e;exact ah _
  ·have:=c (by omega);rw[kN];omega
theorem aaQ(L:List Nat)(n:Nat)(a:n<=15)(hK:kN L 16<=32768):fN L n+cN L n<=2^n:=by
 have h1:=aaP L (n+1) 16 (by omega);have h2:=adu L n a;rw[kN,<-h2,<-eF]at h1;have e:(2:Nat)^n*pw (15-n)=32768:=by unfold pw;rw[<-Nat.pow_add,show n+(15-n)=15 by omega]
 have b:(fN L n+cN L n)*pw (15-n)<=2^n*pw (15-n):=by rw[e];omega
 exact Nat.le_of_mul_le_mul_right b (WN _)
theorem Xm(j:Nat):∀v acc,Eo j v acc=Eo j v []++acc:=by
 induction j with
 |zero=>intro v acc;simp[Eo]
 |succ j a=>intro v acc;rw[Eo,a,Eo,a _ [_],bI];rfl
theorem BZ(v n:Nat):qY v (n+1)=qY (v/2) n++[sign (v%2)]:=by unfold qY;rw[Eo,Xm];rfl
theorem B_(v b n:Nat)(hb:b<=1):qY v n++[sign b]=qY (2*v+b) (n+1):=by rw[BZ,show(2*v+b)/2=v by omega,show(2*v+b)%2=b by omega]
theorem Xn(a b:Nat)(c:a<=1)(hb:b<=1)(h:sign a=sign b):a=b:=by unfold sign at h;by_cases h1:a=1<;>by_cases h2:b=1<;>simp[h1,h2]at h|- <;>omega
theorem Xo(n:Nat):∀v u,v<2^n->u<2^n->qY v n=qY u n->v=u:=by
 induction n with
 |zero=>intro v u a hu _;simp at a hu;omega
 |succ n b=>intro v u a hu h;rw[BZ,BZ]at h;have h2:=List.append_inj' h rfl;rw[lH]at a hu;have c:=b _ _ (by omega) (by omega) h2.1;have d:=Xn _ _ (by omega) (by omega) (List.cons.inj h2.2).1;omega
theorem JA(a b:List (Nat×List UInt8))(p:List UInt8):lY (a++b) p=(lY a p).or (lY b p):=by unfold lY;rw[List.find?_append];cases List.find? (fun c=>c.2==p) a<;>rfl
theorem zT(cs:List (Nat×List UInt8))(p:List UInt8)(h:∀c∈cs,c.2.length≠p.length):lY cs p=none:=by
 unfold lY;rw[Option.map_eq_none_iff,List.find?_eq_none];intro c a e;have:c.2=p:=by simpa using e
 exact h c a (by rw[this])
theorem zD(n:Nat)(l:List Nat):∀v,∀c∈iw v n l,c.2.length=n:=by
 induction l with
 |nil=>intro v c a;cases a
 |cons x l b=>
  intro v c a;rcases List.mem_cons.1 a with rfl|a
  ·exact uy _ _
  ·exact b _ c a
theorem PM(n:Nat)(l:List Nat):∀v c,c<2^n->v+l.length<=2^n->v<=c->lY (iw v n l) (qY c n)=if c-v<l.length then some (l.getD (c-v) 0)else none:=by
 induction l with
 |nil=>intro v c _ _ _;simp[iw,lY]
 |cons x l g=>
  intro v c b i hle;simp only[List.length_cons]at i|-;by_cases e:c=v
  ·subst e;have:lY (iw c n (x::l)) (qY c n)=some x:=by simp[iw,lY]
   rw[this,aG (by omega)];simp
  ·have a:(qY v n==qY c n)=false:=by
    rw[aI];intro h;exact e (Xo n v c (by omega) b h).symm
   have h2:lY (iw v n (x::l)) (qY c n)=lY (iw (v+1) n l) (qY c n):=by simp only[iw,lY,List.find?_cons,a]
   rw[h2,g (v+1) c b (by omega) (by omega)];obtain⟨d,rfl⟩:∃d,c=v+1+d:=⟨c-(v+1),by omega⟩;rw[show v+1+d-(v+1)=d by omega,show v+1+d-v=d+1 by omega];by_cases f:d<l.length
   ·rw[aG f,aG (by omega)];simp
   ·rw[ax f,ax (by omega)]
theorem Sv(L:List Nat)(m:Nat):∀c∈Xl L m,c.2.length<m:=by
 induction m with
 |zero=>intro c a;cases a
 |succ m b=>
  intro c a;rcases List.mem_append.1 a with a|a
  ·have:=b c a;omega
  ·have:=zD m _ _ c a;omega
theorem Iw(L:List Nat)(n:Nat)(p:List UInt8)(hp:p.length=n)(m:Nat):n<m->lY (Xl L m) p=lY (iw (fN L n) n (pz L n)) p:=by
 induction m with
 |zero=>intro h;omega
 |succ m b=>
  intro h;rw[Xl,JA];by_cases e:n=m
  ·subst e;rw[zT (Xl L n) p (fun c a=>by have:=Sv L n c a;omega)];rfl
  ·rw[b (by omega),zT (iw (fN L m) m (pz L m)) p (fun c a=>by have:=zD m _ _ c a;omega)];cases lY (iw (fN L n) n (pz L n)) p<;>rfl
theorem LW(L:List Nat)(n c:Nat)(a:n<=15)(b:c<2^n)(hF:fN L n<=c)(hK:kN L 16<=32768):
 lY (bK L).cs (qY c n)=if c-fN L n<cN L n then some ((AY L 16).getD (sN L n+(c-fN L n)) 0)else none:=by
 have e:=aaQ L n a hK;have d:=nX L n;rw[(BX L).1,Iw L n _ (uy _ _) 16 (by omega),PM n _ _ _ b (by omega) hF,d];by_cases h:c-fN L n<cN L n
 ·rw[aG h,aG h,Sr L 16 n _ (by omega) h]
 ·rw[ax h,ax h]
def dA(L:List Nat):Nat:=L.foldl max 0
theorem JB(L:List Nat):∀a,a<=L.foldl max a/\∀x∈L,x<=L.foldl max a:=by
 induction L with
 |nil=>intro a;exact⟨ah _,fun x b=>by cases b⟩
 |cons y L c=>
  intro a;obtain⟨h1,h2⟩:=c (max a y);refine⟨aY (Nat.le_max_left a y) h1,fun x b=> ?_⟩;rcases List.mem_cons.1 b with rfl|b
  ·exact aY (Nat.le_max_right a x) h1
  ·exact h2 x b
theorem rQ(L:List Nat)(x:Nat):dA (L++[x])=max (dA L) x:=by unfold dA;rw[List.foldl_append];rfl
theorem JC(L:List Nat)(N:Nat):∀a,a<=N->(∀x∈L,x<=N)->L.foldl max a<=N:=by
 induction L with
 |nil=>intro a h _;exact h
 |cons y L c=>intro a h b;exact c _ (Nat.max_le.2 ⟨h,b y (zl ..)⟩) (fun x h=>b x (lS _ h))
theorem EF(L:List Nat)(N:Nat)(h:∀x∈L,x<=N):dA L<=N:=JC L N 0 (aX _) h
theorem aaR(L:List Nat)(n:Nat)(h:dA L<n):cN L n=0:=by unfold cN;rw[ax (by omega),List.count_eq_zero];intro hm;have:=(JB L 0).2 n hm;unfold dA at h;omega
theorem AZ(L:List Nat)(n:Nat):cN L n<=L.length:=by
 unfold cN;split
 ·exact aX _
 ·exact List.count_le_length
theorem EG(L:List Nat)(p:List UInt8)(h:dA L<p.length):lY (bK L).cs p=none:=by
 rw[(BX L).1];by_cases hp:p.length<16
 ·rw[Iw L p.length p rfl 16 hp];have a:(pz L p.length).length=0:=by rw[nX,aaR L _ h]
  rw[gm a];rfl
 ·exact zT _ _ (fun c b=>by have:=Sv L 16 c b;omega)
theorem Iy(s:ByteArray)(cs:List (Nat×List UInt8))(k:Nat):∀pre st,(∀q:List UInt8,pre.length<q.length->lY cs q=none)->(qw s cs k pre st).2.dV=true:=by
 induction k with
 |zero=>intro pre st _;rfl
 |succ k a=>
  intro pre st h;rw[qw];split
  ·rfl
  ·split
   ·rfl
   ·rw[h _ (by simp)];exact a _ _ (fun q b=>h q (by simp at b;omega))
def iR(L:List Nat):Nat:=(L.map fun x=>if 0<x then pw (15-x)else 0).sum
theorem PN(L:List Nat)(x:Nat):iR (L++[x])=iR L+if 0<x then pw (15-x)else 0:=by unfold iR;rw[List.map_append,List.sum_append];simp
theorem aaS(L:List Nat)(x n:Nat):cN (x::L) n=cN L n+if x=n/\n≠0 then 1 else 0:=by
 unfold cN;by_cases h:n=0
 ·simp[h]
 ·rw[ax h,ax h,List.count_cons];by_cases e:x=n
  ·simp[e,h]
  ·simp[e]
theorem aaT(L:List Nat)(x:Nat):∀m,kN (x::L) m=kN L m+if 0<x/\x<m then pw (15-x)else 0:=by
 intro m;induction m with
 |zero=>simp[kN]
 |succ m a=>
  rw[kN,a,kN,aaS,eF];by_cases h:x=m
  ·subst h;by_cases h0:x=0
   ·rw[ax (by omega),ax (by omega),ax (by omega)];generalize pw (15-x)=P;rw[Nat.zero_mul];omega
   ·rw[ax (by omega),aG ⟨rfl,h0⟩,aG (by omega)];generalize pw (15-x)=P;omega
  ·rw[ax (show¬(x=m/\m≠0)from fun e=>h e.1)];by_cases h2:0<x/\x<m
   ·rw[aG h2,aG (by omega)];omega
   ·rw[ax h2,ax (by omega)];omega
theorem acK(m:Nat):kN [] m=0:=by
 induction m with
 |zero=>rfl
 |succ m a=>rw[kN,a];simp[cN]
theorem A_(L:List Nat)(h:∀x∈L,x<=15):kN L 16=iR L:=by
 induction L with
 |nil=>rw[acK];rfl
 |cons x L a=>
  rw[aaT,a (fun y b=>h y (lS _ b))];have c:=h x (zl ..);unfold iR;rw[List.map_cons,List.sum_cons];by_cases h0:0<x
  ·rw[aG (by omega),aG h0];omega
  ·rw[ax (by omega),ax h0];omega
theorem rU(L:List Nat)(h:∀x∈L,x<=15):(bK L).xk=iR L:=(BX L).2.trans (A_ L h)
end Rf
end Go.Proofs.YtephkcdbnogdhabGreatDoor
