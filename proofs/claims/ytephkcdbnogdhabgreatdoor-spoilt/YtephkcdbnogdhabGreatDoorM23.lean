import Derived.Test.YtephkcdbnogdhabGreatDoorM19
import Derived.Test.YtephkcdbnogdhabGreatDoorM20
import Derived.Test.YtephkcdbnogdhabGreatDoorM22
set_option linter.unusedVariables false
set_option maxHeartbeats 40000000
set_option maxRecDepth 10000
namespace Go.Proofs.YtephkcdbnogdhabGreatDoor
open Go.Proofs.Tryz
open Go renaming World->af,Value->ay,Calls->aH,TypeId->aW
open Go.RowKit renaming Hid->au,Below->aA,intOf->bH
namespace Pr
open Go.RowKit Rf Cr
open gI (b_)
theorem Kw(bits:Nat)(a b:List jX):kH bits (a++b)=kH bits a+kH bits b:=by
 induction a with
 |nil=>simp[kH]
 |cons t a c=>rw[nC,kH,kH,c];omega
theorem QC(bits:Nat)(ps:List jX)(i:Nat)(t:jX)(h:ps[i]?=some t):kH bits (ps.take (i+1))=kH bits (ps.take i)+t.H*(1+bJ bits t.W):=by rw[List.take_add_one,h,Kw];show _+(t.H*(1+bJ bits t.W)+0)=_;omega
def xZ:List jX->Nat
 | []=>0
 |t::a=>t.W*t.H+xZ a
theorem NM(bits:Nat)(hb:bits<=64)(ps:List jX)(h:∀t∈ps,1<=t.W/\1<=t.H):kH bits ps<=10*xZ ps:=by
 induction ps with
 |nil=>simp[kH,xZ]
 |cons t ps a=>
  have h1:=h t (by simp);have h2:=a (fun x b=>h x (by simp[b]));rw[kH,xZ];have d:t.W*bits<=t.W*64:=Nat.mul_le_mul_left _ hb;have c:1+bJ bits t.W<=10*t.W:=by unfold bJ;omega
  have e:t.H*(1+bJ bits t.W)<=t.H*(10*t.W):=Nat.mul_le_mul_left _ c;have f:t.H*(10*t.W)=10*(t.W*t.H):=by rw[Nat.mul_left_comm,eP t.H]
  omega
theorem sD(e s:Nat)(a:s=1\/s=2\/s=4):cu e 0 (2*s)+cu e s (2*s)=cu e 0 s:=by
 unfold cu;rcases a with rfl|rfl|rfl
 all_goals
  repeat' split
  all_goals omega
theorem yO(e:Nat):cu e 0 1=e:=by unfold cu;split<;>omega
theorem NP(l:List jX):xZ (l.filter fun t=>decide (0<t.W)&&decide (0<t.H))=xZ l:=by
 induction l with
 |nil=>rfl
 |cons t l a=>
  by_cases h:(decide (0<t.W)&&decide (0<t.H))=true
  ·rw[qQ,aG h,xZ,xZ,a]
  ·rw[qQ,ax h,xZ,a];have:t.W=0\/t.H=0:=by simp at h;omega
   rcases this with e|e<;>rw[e]<;>simp
theorem FO(W H:Nat)(I:Bool):xZ (dU W H I)=W*H:=by
 unfold dU;cases I
 ·simp[xZ]
 ·simp only[if_true];unfold uV;rw[NP];have w1:=sD W 4 (by omega);have w2:=sD W 2 (by omega);have w3:=sD W 1 (by omega);have h1:=sD H 4 (by omega);have h2:=sD H 2 (by omega);have a:=sD H 1 (by omega);rw[yO]at w3 a;simp only[Nat.reduceMul]at w1 w2 w3 h1 h2 a;show cu W 0 8*cu H 0 8+(cu W 4 8*cu H 0 8+(cu W 0 4*cu H 4 8+(cu W 2 4*cu H 0 4+(cu W 0 2*cu H 2 4+(cu W 1 2*cu H 0 2+(cu W 0 1*cu H 1 2+0))))))=W*H;rw[yO];have b:cu W 0 8*cu H 0 8+cu W 4 8*cu H 0 8=cu W 0 4*cu H 0 8:=by rw[<-eF,w1]
  have c:cu W 0 4*cu H 0 8+cu W 0 4*cu H 4 8=cu W 0 4*cu H 0 4:=by rw[<-Nat.mul_add,h1]
  have e3:cu W 0 4*cu H 0 4+cu W 2 4*cu H 0 4=cu W 0 2*cu H 0 4:=by rw[<-eF,w2]
  have d:cu W 0 2*cu H 0 4+cu W 0 2*cu H 2 4=cu W 0 2*cu H 0 2:=by rw[<-Nat.mul_add,h2]
  have e:cu W 0 2*cu H 0 2+cu W 1 2*cu H 0 2=W*cu H 0 2:=by rw[<-eF,w3]
  have f:W*cu H 0 2+W*cu H 1 2=W*H:=by rw[<-Nat.mul_add,a]
  omega
theorem YK(rb bits base:Nat)(pv:ay)(ps:List jX)(w:af)(c0:w.cell? ⟨rb,0,none⟩=some (.int .i64 (bits:Int)))(c1:w.cell? ⟨rb,1,none⟩=some pv)(hp:w.ownsRow base 188 6 pv ps.length (bV ps))(hl:ps.length<=100)(hb:bits<=64)(hW:∀t∈ps,t.W<=1048576/\t.H<=1048576)(B:rb<w.heap.size):
 aH prog 69 #[.pointer (some ⟨rb,0,none⟩)] w fun e w'=>e= .returned (.int .i64 ((kH bits ps:Nat):Int))/\aA w.heap.size w w':=by
 have HP:au _:=hp;have HW:au _:=hW;have f:au (∀i t,ps[i]?=some t->∃g cap,pv= .slice (some ⟨g,0,none⟩) ps.length cap/\g<w.heap.size/\∀j,j<6->w.cell? ⟨g,i*6+j,none⟩=(lQ t)[j]?):=(fun i t z=>jf hp i t z:∀i t,_);obtain⟨la,cap,rfl⟩:=lZ hp;have J:au _:=c0;obtain⟨n,C⟩:∃n,n=ps.length:=⟨_,rfl⟩;rw[<-C]at c1 hl f;have X:au _:=C;obtain⟨T,K⟩:∃T,T=kH bits ps:=⟨_,rfl⟩;rw[<-K];have HT:au _:=K;clear hp hW C K c0;go_enter func69,ntmps69
 go_wp2_with fail
 go_loopw [3,11] (fun sv iv wr=> ∃(i s:Nat),i<=n/\iv= .int .i64 (i:Int)/\sv= .int .i64 (s:Int)/\s=kH bits (ps.take i)/\s<=i*1000000000000000/\aA w.heap.size w wr) (fun _ iv _=>n-(bH iv).toNat)
 case atStart=>exact⟨0,0,aX _,rfl,rfl,rfl,by omega,aV _ _⟩
 case round=>
  obtain⟨i,s,hi,rfl,rfl,I,h,b⟩:=hrel;by_cases a1:i<n
  ·have L:i<ps.length:=by have:=X.out;omega
   obtain⟨t,z⟩:∃t,ps[i]?=some t:=⟨_,aB L⟩;obtain⟨g,Y,k,M,D⟩:=f.out i t z;have N:la=some ⟨g,0,none⟩:=by simp at k;exact k.1
   subst N;have l:=HW.out t (iY z);have p:au _:=QC bits ps i t z;have a:∀j,j<6->wr.cell? ⟨g,i*6+j,none⟩=(lQ t)[j]?:=fun j hj=>(aQ (b.block g M)).trans (D j hj);have Z:=a 0 (by omega);have p1:=a 1 (by omega);have p2:=a 2 (by omega);have p3:=a 3 (by omega);have p4:=a 4 (by omega);have p5:=a 5 (by omega);have E:wr.cell? ⟨rb,0,none⟩=some (.int .i64 (bits:Int)):=(aQ (b.block rb B)).trans J.out;have F:rb<wr.heap.size:=aN B b.size;have q:=fun o=>Dz rb bits t.x t.sx t.y t.sy t.W t.H (wr.alloc o).drew (by simp[World.drew];omega) ((aQ (ai _ _ rb F)).trans E) hb (by omega);have O:bJ bits t.W<=100000000:=by have:t.W*bits<=1048576*64:=bD l.1 hb;unfold bJ;omega
   obtain⟨P,r,ty,u,G,A⟩:=t;simp only[lQ]at Z p1 p2 p3 p4 p5;simp at Z p1 p2 p3 p4 p5;dsimp only at q O p l;have c:∀o,aH prog 98 #[.pointer (some ⟨rb,0,none⟩),xQ P r ty u G A] (wr.alloc o).drew fun e w'=>e= .returned (.int .i64 ((bJ bits G:Nat):Int))/\aA (wr.alloc o).drew.heap.size (wr.alloc o).drew w':=q;unfold xQ at c;generalize bJ bits G=R at*;obtain⟨m,hm⟩:∃m,m=A*(1+R):=⟨_,rfl⟩;have a2:(A:Int)*(1+(R:Int))=(m:Int):=by rw[hm];simp
   have a3:m<=1048576*100000001:=by rw[hm];exact bD l.2 (by omega)
   rw[<-hm]at p;have HS:au _:=I;have d:au _:=b;have Q:au _:=c;have a0:s<=100*1000000000000000:=aY h (dM _ (by omega));have a4:(i:Int)<(n:Int):=by omega
   have S:au _:=h;clear hm I b q c a D k z h E f;go_wp2_with fail
   go_region_with (first
    |(go_at_call 98;refine(Q.out (.cells #[.int .i64 (P:Int),.int .i64 (r:Int),.int .i64 (ty:Int),.int .i64 (u:Int),.int .i64 (G:Int),.int .i64 (A:Int)] 188)).mono ?_;rintro e w3 ⟨rfl,v⟩;have z5:w3.cell? ⟨wr.heap.size,5,none⟩=some (.int .i64 (A:Int)):=(aQ (v.block wr.heap.size (by simp[World.drew]))).trans (by simp)))
   all_goals
    have U:au (aA w.heap.size w w3):=(jd (Below.Bf (Below.alloc d.out (kD d.out) (.cells #[.int .i64 (P:Int),.int .i64 (r:Int),.int .i64 (ty:Int),.int .i64 (u:Int),.int .i64 (G:Int),.int .i64 (A:Int)] 188))) (v.mono (by have:=kD d.out;simp[World.drew];omega)):aA _ _ _);clear v z5;go_wp2_with fail
    go_roundw
    case rel=>
     refine⟨i+1,s+m,by omega,by go_num,?_,?_,?_,U.out⟩
     ·go_num
     ·rw[p.out,<-HS.out]
     ·have:=S.out;rw[eF];omega
    case measure=>simp[bH];omega
  ·have e:i=n:=by omega
   subst e;have V:s=T:=by have C:=X.out;rw[I,HT.out,C,List.take_length]
   subst V;have d:au _:=b;clear b I;go_wp2_with fail
   go_ret;exact⟨rfl,d.out⟩
end Pr
namespace Pr
open gI (b_ manyN zB)
theorem VL(K:Nat)(hK:K=0\/K=2\/K=3\/K=4\/K=6):zB K=aT K:=by rcases hK with rfl|rfl|rfl|rfl|rfl<;>decide
end Pr
namespace Pr
open gI (b_ iD)
def BB(P:xU):List jX->List Nat->List Nat->Option (List Nat)
 | [],_,dQ=>some dQ
 |t::a,l,dQ=>if t.W=0 then BB P a l dQ else(vO P t t.H 0 [] (l.take (t.H*(1+bJ P.bits t.W))) dQ).bind (BB P a (l.drop (t.H*(1+bJ P.bits t.W))))
theorem Rk(P:xU)(a:List jX)(l dQ:List Nat):BB P a l dQ=FC P (a.filter fun t=>decide (0<t.W)&&decide (0<t.H)) l dQ:=by
 induction a generalizing l dQ with
 |nil=>rfl
 |cons t a b=>
  rw[BB,qQ];by_cases h1:t.W=0
  ·rw[aG h1,ax (by simp[h1]),b]
  ·rw[ax h1];by_cases h2:t.H=0
   ·rw[ax (by simp[h2]),h2,Nat.zero_mul,Az,uZ,vO,jl,b]
   ·rw[aG (by simp;omega),FC];congr 1
    funext p
    exact b _ _
theorem VP(P:xU)(e:Fz P)(hb:1<=P.bits)(c:List jX)(a:P.parts=c.filter fun t=>decide (0<t.W)&&decide (0<t.H))(st:d_)(l:List Nat)(b:st.pt=0)(f:st.y=0)(g:∀t,P.parts[0]?=some t->vN P st t [])(h:l.length=kH P.bits P.parts):
 (mJ P l st).map (fun s=>s.dQ)=BB P c l st.dQ:=by
 rw[Rk,<-a];refine Yo P e hb (fun t d=> ?_) P.parts st l (by rw[b,uZ]) f (by rw[b];exact g) h;rw[a]at d;have:=(List.mem_filter.1 d).2;simp only[Bool.and_eq_true,decide_eq_true_eq]at this;exact this
end Pr
namespace Pr
open Go.RowKit Rf
open lI (byteCells iM Bq)
end Pr
namespace Pr
open Go.RowKit Rf
open lI (Bq)
open Jo (one)
open Ad (oM)
end Pr
open Go.RowKit
theorem own:ownKnob prog.godebug=none:=by kernel_rfl
theorem adX:prog.globalNamed "errors.errorType" =some 3:=by kernel_rfl
theorem adY:prog.globalNamed "vellum/fault.End" =some 2:=by kernel_rfl
theorem Ll:prog.globalNamed "vellum/fault.Failed" =some 0:=by kernel_rfl
theorem aat:prog.globalNamed "vellum/unpack.lengthOrder" =some 6:=by kernel_rfl
theorem aef:(prog.globals[2]?).map (·.type)=some 73:=by kernel_rfl
theorem TM:(prog.globals[0]?).map (·.type)=some 73:=by kernel_rfl
theorem adk:(prog.globals[6]?).map (·.type)=some 275:=by kernel_rfl
theorem adZ:(prog.cutTypes.find? (·.1== "internal/reflectlite.rtype")).map (·.2)=some 147:=by kernel_rfl
theorem adm:prog.types.size=317:=by kernel_rfl
theorem adn:((List.range 317).filter fun t=>prog.rowNamed t [101,114,114,111,114])=[73]:=by kernel_rfl
theorem star: "*" ++ "errors.errorString" = "*errors.errorString" :=by decide
theorem aau (u:aW) (h:prog.typeName? 3 u=some "*errors.errorString"):u=284:=
 typeName_ptr_named (nm:= "errors.errorString") (by rw[star];kernel_rfl) (by kernel_rfl) (by decide) u (by rw[star];exact h)
theorem TN:prog.cellsOf 307=1:=by kernel_rfl
theorem OM:prog.cellsOf 9=1:=by kernel_rfl
def v_:List Int:=Rf.order.map fun(i:Nat)=>(i:Int)
theorem aav:(Rows.laid_vellum_unpack_lengthOrder:DataW Unit)=Lib.tabData .u8 v_:=by kernel_rfl
end Go.Proofs.YtephkcdbnogdhabGreatDoor
