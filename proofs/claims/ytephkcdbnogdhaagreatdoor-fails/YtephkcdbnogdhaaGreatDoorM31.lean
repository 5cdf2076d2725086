import Derived.LaidHandle
import Derived.LaidMore
import Derived.Lib.LaidTab
import Derived.ProofKit
import Derived.Stop.Joined
import Derived.Stop.LaidErr
import Derived.Test.YtephkcdbnogdhaaGreatDoorM28
import Derived.Test.YtephkcdbnogdhaaGreatDoorM29
import Derived.Test.YtephkcdbnogdhaaGreatDoorM30
set_option linter.unusedVariables false
set_option maxHeartbeats 40000000
set_option maxRecDepth 10000
namespace Go.Proofs.YtephkcdbnogdhaaGreatDoor
open Go.Proofs.Tryz
open Go renaming World->af,Value->ay,Calls->aF,TypeId->aY,Addr->bP
open Go.RowKit renaming Hid->ah,Below->aJ,intOf->aX
namespace Pr
open Go.RowKit Rf Cr
open h_ (dX)
theorem Nz(W H D K:Nat)(I:Bool)(w:af)(hS:mG w)(a:7<=w.heap.size)(hW:W<=1048576)(hH:H<=1048576):
 aF prog 187 #[qX W H D K I] w fun e w'=> ∃v,e= .returned v/\w'.ownsRow w.heap.size 301 6 v (dZ W H I).length (dn (dZ W H I))/\aJ w.heap.size w w':=by
 cases I
 ·exact Qq W H D K w hW hH
 ·exact Qu W H D K w hS a hW hH
theorem Qv(e f t i:Nat)(h:i<cO e f t):f+i*t<e:=by
 unfold cO at h;split at h
 ·omega
 ·have a:i<=(e-f-1)/t:=by omega
  have b:=eY t a;have h3:=Nat.div_mul_le_self (e-f-1) t;omega
def afk(W H:Nat)(t:lC):Prop:=(1<=t.W/\t.W<=1048576/\1<=t.H/\t.H<=1048576/\t.x<=8/\t.sx<=8/\t.y<=8/\t.sy<=8)/\∀y i,y<t.H->i<t.W->qN W t y i+4<=4*W*H
theorem VT(W H Y X:Nat)(a:Y<H)(b:X<W):4*(Y*W+X)+4<=4*W*H:=by
 have c:Y*W+W<=H*W:=by have:=eY W (show Y+1<=H from a);rw[fO]at this;omega
 have d:4*W*H=4*(H*W):=by rw[jM,eu W H]
 omega
theorem KZ(W H:Nat)(I:Bool)(c:1<=W)(d:1<=H)(hW:W<=1048576)(hH:H<=1048576):∀t∈dZ W H I,afk W H t:=by
 intro t b;unfold dZ at b;cases I
 ·simp only[Bool.false_eq_true,if_false,List.mem_singleton]at b;subst b;refine⟨⟨c,hW,d,hH,by simp,by simp,by simp,by simp⟩,fun y i e hi=> ?_⟩;unfold qN;have:=VT W H y i e hi;simp only[Nat.zero_add,Nat.mul_one,Nat.add_zero];exact this
 ·simp only[if_true]at b;unfold nR at b;obtain⟨g,f⟩:=List.mem_filter.1 b;obtain⟨x,hx,rfl⟩:=List.mem_map.1 g;simp only[Bool.and_eq_true,decide_eq_true_eq]at f;have a:x.1<=8/\x.2.1<=8/\x.2.2.1<=8/\x.2.2.2<=8/\1<=x.2.1/\1<=x.2.2.2:=by
   simp only[dX]at hx;simp at hx;rcases hx with rfl|rfl|rfl|rfl|rfl|rfl|rfl<;>decide
  have hw:=Qs W x.1 x.2.1 a.2.2.2.2.1;have k:=Qs H x.2.2.1 x.2.2.2 a.2.2.2.2.2;refine⟨⟨f.1,by show cO W x.1 x.2.1<=_;omega,f.2,by show cO H x.2.2.1 x.2.2.2<=_;omega,a.1,a.2.1,a.2.2.1,a.2.2.2.1⟩,fun y i e hi=> ?_⟩;have h:=Qv H x.2.2.1 x.2.2.2 y e;have j:=Qv W x.1 x.2.1 i hi;show 4*((x.2.2.1+y*x.2.2.2)*W+x.1+i*x.2.1)+4<=4*W*H;rw[kF];exact VT W H _ _ h j
theorem Be(W H:Nat)(I:Bool):(dZ W H I).length<=100:=by
 unfold dZ;cases I
 ·simp
 ·have:=Qr W H 7;have e:fJ W H 7=nR W H (dX 1):=rfl;rw[e]at this;simp only[if_true];omega
theorem CB(W H:Nat)(I:Bool)(a:1<=W)(b:1<=H):∃t,(dZ W H I)[0]?=some t:=by
 unfold dZ;cases I
 ·exact⟨_,rfl⟩
 ·simp only[if_true];have hp:0<cO W 0 8/\0<cO H 0 8:=by unfold cO;constructor<;>(split<;>omega)
  have e:nR W H (dX 1)=lI W H (0,8,0,8)::nR W H ((dX 1).drop 1):=by unfold nR;show List.filter _ (lI W H (0,8,0,8)::List.map (lI W H) ((dX 1).drop 1))=_;rw[List.filter_cons_of_pos (by show(decide (0<cO W 0 8)&&decide (0<cO H 0 8))=true;simp[hp.1,hp.2])]
  rw[e];exact⟨_,rfl⟩
theorem NC(bits:Nat)(a b:List lC):kY bits (a++b)=kY bits a+kY bits b:=by
 induction a with
 |nil=>simp[kY]
 |cons t a c=>rw[List.cons_append,kY,kY,c];omega
theorem Ub(bits:Nat)(ps:List lC)(i:Nat)(t:lC)(h:ps[i]?=some t):kY bits (ps.take (i+1))=kY bits (ps.take i)+t.H*(1+bY bits t.W):=by rw[BC,h,NC];show _+(t.H*(1+bY bits t.W)+0)=_;omega
def zh:List lC->Nat
 | []=>0
 |t::a=>t.W*t.H+zh a
theorem Qw(bits:Nat)(hb:bits<=64)(ps:List lC)(h:∀t∈ps,1<=t.W/\1<=t.H):kY bits ps<=10*zh ps:=by
 induction ps with
 |nil=>simp[kY,zh]
 |cons t ps a=>
  have c:=h t (by simp);have d:=a (fun x hx=>h x (by simp[hx]));rw[kY,zh];have h3:t.W*bits<=t.W*64:=Nat.mul_le_mul_left _ hb;have b:1+bY bits t.W<=10*t.W:=by unfold bY;omega
  have e:t.H*(1+bY bits t.W)<=t.H*(10*t.W):=Nat.mul_le_mul_left _ b;have h6:t.H*(10*t.W)=10*(t.W*t.H):=by rw[Nat.mul_left_comm,eu t.H]
  omega
theorem uu(e s:Nat)(hs:s=1\/s=2\/s=4):cO e 0 (2*s)+cO e s (2*s)=cO e 0 s:=by
 unfold cO;rcases hs with rfl|rfl|rfl
 all_goals
  repeat' split
  all_goals omega
theorem uw(e:Nat):cO e 0 1=e:=by unfold cO;split<;>omega
theorem Qx(l:List lC):zh (l.filter fun t=>decide (0<t.W)&&decide (0<t.H))=zh l:=by
 induction l with
 |nil=>rfl
 |cons t l a=>
  by_cases h:(decide (0<t.W)&&decide (0<t.H))=true
  ·rw[oL,aC h,zh,zh,a]
  ·rw[oL,au h,zh,a];have:t.W=0\/t.H=0:=by simp at h;omega
   rcases this with e|e<;>rw[e]<;>simp
theorem Hq(W H:Nat)(I:Bool):zh (dZ W H I)=W*H:=by
 unfold dZ;cases I
 ·simp[zh]
 ·simp only[if_true];unfold nR;rw[Qx];have w1:=uu W 4 (by omega);have w2:=uu W 2 (by omega);have w3:=uu W 1 (by omega);have a:=uu H 4 (by omega);have b:=uu H 2 (by omega);have h3:=uu H 1 (by omega);rw[uw]at w3 h3;simp only[Nat.reduceMul]at w1 w2 w3 a b h3;show cO W 0 8*cO H 0 8+(cO W 4 8*cO H 0 8+(cO W 0 4*cO H 4 8+(cO W 2 4*cO H 0 4+(cO W 0 2*cO H 2 4+(cO W 1 2*cO H 0 2+(cO W 0 1*cO H 1 2+0))))))=W*H;rw[uw];have c:cO W 0 8*cO H 0 8+cO W 4 8*cO H 0 8=cO W 0 4*cO H 0 8:=by rw[<-fO,w1]
  have d:cO W 0 4*cO H 0 8+cO W 0 4*cO H 4 8=cO W 0 4*cO H 0 4:=by rw[<-Nat.mul_add,a]
  have e:cO W 0 4*cO H 0 4+cO W 2 4*cO H 0 4=cO W 0 2*cO H 0 4:=by rw[<-fO,w2]
  have f:cO W 0 2*cO H 0 4+cO W 0 2*cO H 2 4=cO W 0 2*cO H 0 2:=by rw[<-Nat.mul_add,b]
  have g:cO W 0 2*cO H 0 2+cO W 1 2*cO H 0 2=W*cO H 0 2:=by rw[<-fO,w3]
  have h:W*cO H 0 2+W*cO H 1 2=W*H:=by rw[<-Nat.mul_add,h3]
  omega
theorem aaI(rb bits base:Nat)(pv:ay)(ps:List lC)(w:af)(c0:w.cell? ⟨rb,0,none⟩=some (.int .i64 (bits:Int)))(c1:w.cell? ⟨rb,1,none⟩=some pv)(hp:w.ownsRow base 301 6 pv ps.length (dn ps))(hl:ps.length<=100)(hb:bits<=64)(hW:∀t∈ps,t.W<=1048576/\t.H<=1048576)(B:rb<w.heap.size):
 aF prog 160 #[.pointer (some ⟨rb,0,none⟩)] w fun e w'=>e= .returned (.int .i64 ((kY bits ps:Nat):Int))/\aJ w.heap.size w w':=by
 have HP:ah _:=hp;have HW:ah _:=hW;have f:ah (∀i t,ps[i]?=some t->∃g cap,pv= .slice (some ⟨g,0,none⟩) ps.length cap/\g<w.heap.size/\∀j,j<6->w.cell? ⟨g,i*6+j,none⟩=(fD t)[j]?):=(fun i t z=>jR hp i t z:∀i t,_);obtain⟨la,cap,rfl⟩:=nX hp;have I:ah _:=c0;obtain⟨n,C⟩:∃n,n=ps.length:=⟨_,rfl⟩;rw[<-C]at c1 hl f;have X:ah _:=C;obtain⟨T,J⟩:∃T,T=kY bits ps:=⟨_,rfl⟩;rw[<-J];have HT:ah _:=J;clear hp hW C J c0;go_enter func160,ntmps160
 go_wp2_with fail
 go_loopw [3,11] (fun sv K wr=> ∃(i s:Nat),i<=n/\K= .int .i64 (i:Int)/\sv= .int .i64 (s:Int)/\s=kY bits (ps.take i)/\s<=i*1000000000000000/\aJ w.heap.size w wr) (fun _ K _=>n-(aX K).toNat)
 case atStart=>exact⟨0,0,aU _,rfl,rfl,rfl,by omega,aP _ _⟩
 case round=>
  obtain⟨i,s,hi,rfl,rfl,hs,h,b⟩:=hrel;by_cases a1:i<n
  ·have L:i<ps.length:=by have:=X.out;omega
   obtain⟨t,z⟩:∃t,ps[i]?=some t:=⟨_,aG L⟩;obtain⟨g,Y,k,M,D⟩:=f.out i t z;have N:la=some ⟨g,0,none⟩:=by simp at k;exact k.1
   subst N;have l:=HW.out t (iP z);have p:ah _:=Ub bits ps i t z;have a:∀j,j<6->wr.cell? ⟨g,i*6+j,none⟩=(fD t)[j]?:=fun j hj=>(aV (b.block g M)).trans (D j hj);have Z:=a 0 (by omega);have p1:=a 1 (by omega);have p2:=a 2 (by omega);have p3:=a 3 (by omega);have p4:=a 4 (by omega);have p5:=a 5 (by omega);have E:wr.cell? ⟨rb,0,none⟩=some (.int .i64 (bits:Int)):=(aV (b.block rb B)).trans I.out;have F:rb<wr.heap.size:=bu B b.size;have q:=fun o=>EG rb bits t.x t.sx t.y t.sy t.W t.H (wr.alloc o).drew (by simp[World.drew];omega) ((aV (aj _ _ rb F)).trans E) hb (by omega);have O:bY bits t.W<=100000000:=by have:t.W*bits<=1048576*64:=bT l.1 hb;unfold bY;omega
   obtain⟨P,r,ty,u,G,A⟩:=t;simp only[fD]at Z p1 p2 p3 p4 p5;simp at Z p1 p2 p3 p4 p5;dsimp only at q O p l;have c:∀o,aF prog 190 #[.pointer (some ⟨rb,0,none⟩),yX P r ty u G A] (wr.alloc o).drew fun e w'=>e= .returned (.int .i64 ((bY bits G:Nat):Int))/\aJ (wr.alloc o).drew.heap.size (wr.alloc o).drew w':=q;unfold yX at c;generalize bY bits G=R at*;obtain⟨m,hm⟩:∃m,m=A*(1+R):=⟨_,rfl⟩;have a2:(A:Int)*(1+(R:Int))=(m:Int):=by rw[hm];simp
   have a3:m<=1048576*100000001:=by rw[hm];exact bT l.2 (by omega)
   rw[<-hm]at p;have HS:ah _:=hs;have d:ah _:=b;have Q:ah _:=c;have a0:s<=100*1000000000000000:=aK h (eY _ (by omega));have a4:(i:Int)<(n:Int):=by omega
   have S:ah _:=h;clear hm hs b q c a D k z h E f;go_wp2_with fail
   go_region_with (first
    |(go_at_call 190;refine(Q.out (.cells #[.int .i64 (P:Int),.int .i64 (r:Int),.int .i64 (ty:Int),.int .i64 (u:Int),.int .i64 (G:Int),.int .i64 (A:Int)] 301)).mono ?_;rintro e w3 ⟨rfl,v⟩;have z5:w3.cell? ⟨wr.heap.size,5,none⟩=some (.int .i64 (A:Int)):=(aV (v.block wr.heap.size (by simp[World.drew]))).trans (by simp)))
   all_goals
    have U:ah (aJ w.heap.size w w3):=(gI (Below.PR (Below.alloc d.out (jh d.out) (.cells #[.int .i64 (P:Int),.int .i64 (r:Int),.int .i64 (ty:Int),.int .i64 (u:Int),.int .i64 (G:Int),.int .i64 (A:Int)] 301))) (v.mono (by have:=jh d.out;simp[World.drew];omega)):aJ _ _ _);clear v z5;go_wp2_with fail
    go_roundw
    case rel=>
     refine⟨i+1,s+m,by omega,by go_num,?_,?_,?_,U.out⟩
     ·go_num
     ·rw[p.out,<-HS.out]
     ·have:=S.out;rw[fO];omega
    case measure=>simp[aX];omega
  ·have e:i=n:=by omega
   subst e;have V:s=T:=by have C:=X.out;rw[hs,HT.out,C,sS]
   subst V;have d:ah _:=b;clear b hs;go_wp2_with fail
   go_ret;exact⟨rfl,d.out⟩
end Pr
namespace Pr
open h_ (dX manyN uF fB x_ lG)
theorem K_(a d n:Nat):manyN a d n=cO n a d:=rfl
theorem zN(K:Nat)(hK:K=0\/K=2\/K=3\/K=4\/K=6):fB K=bF K:=by rcases hK with rfl|rfl|rfl|rfl|rfl<;>decide
theorem Qy(D K px:Nat)(hK:K=0\/K=2\/K=3\/K=4\/K=6):uF D K px=bY (D*bF K) px:=by unfold uF bY;rw[zN K hK,jM,eu (bF K) D]
theorem ac6(D K W H:Nat)(hK:K=0\/K=2\/K=3\/K=4\/K=6)(l:List (Nat×Nat×Nat×Nat)):lG D K W H l=kY (D*bF K) (nR W H l):=by
 induction l with
 |nil=>rfl
 |cons q l c=>
  have d:lG D K W H (q::l)=x_ D K W H q+lG D K W H l:=by unfold lG;rw[qZ,List.sum_cons]
  have e:nR W H (q::l)=if(decide (0<(lI W H q).W)&&decide (0<(lI W H q).H))=true then lI W H q::nR W H l else nR W H l:=by unfold nR;rw[qZ,oL]
  rw[d,c,e];unfold x_;rw[K_,K_,Qy D K _ hK];by_cases a:0<cO W q.1 q.2.1
  ·rw[aC a];by_cases b:0<cO H q.2.2.1 q.2.2.2
   ·rw[aC (by show(decide (0<cO W q.1 q.2.1)&&decide (0<cO H q.2.2.1 q.2.2.2))=true;simp[a,b]),kY];rfl
   ·rw[au (by show¬(decide (0<cO W q.1 q.2.1)&&decide (0<cO H q.2.2.1 q.2.2.2))=true;simp[b])];have f:cO H q.2.2.1 q.2.2.2=0:=by omega
    rw[f,Nat.zero_mul,fF]
  ·rw[au a,au (by show¬(decide (0<cO W q.1 q.2.1)&&decide (0<cO H q.2.2.1 q.2.2.2))=true;simp[a]),fF]
theorem XR(D K W H:Nat)(I:Bool)(hK:K=0\/K=2\/K=3\/K=4\/K=6)(hW:1<=W)(hH:1<=H):lG D K W H (dX (if I then 1 else 0))=kY (D*bF K) (dZ W H I):=by
 rw[ac6 D K W H hK];cases I
 ·have e:nR W H (dX 0)=[⟨0,1,0,1,W,H⟩]:=by
   have a:nR W H (dX 0)=List.filter (fun t=>decide (0<t.W)&&decide (0<t.H)) [⟨0,1,0,1,cO W 0 1,cO H 0 1⟩]:=rfl;rw[a,uw,uw,oL,aC (by simp;omega)];rfl
  show kY _ (nR W H (dX 0))=_;rw[e];rfl
 ·rfl
end Pr
namespace Pr
open h_ (dX iT)
def qo(P:wW):List lC->List Nat->List Nat->Option (List Nat)
 | [],_,dM=>some dM
 |t::a,l,dM=>if t.W=0 then qo P a l dM else(kV P t t.H 0 [] (l.take (t.H*(1+bY P.bits t.W))) dM).bind (qo P a (l.drop (t.H*(1+bY P.bits t.W))))
theorem Uc(P:wW)(a:List lC)(l dM:List Nat):qo P a l dM=Hg P (a.filter fun t=>decide (0<t.W)&&decide (0<t.H)) l dM:=by
 induction a generalizing l dM with
 |nil=>rfl
 |cons t a b=>
  rw[qo,oL];by_cases c:t.W=0
  ·rw[aC c,au (by simp[c]),b]
  ·rw[au c];by_cases d:t.H=0
   ·rw[au (by simp[d]),d,Nat.zero_mul,lM,kG,kV,jS,b]
   ·rw[aC (by simp;omega),Hg];congr 1
    funext p
    exact b _ _
theorem Ud(f d:Nat)(s a b o:List Nat)(i:Nat)(h:∀j,a.getD j 0=b.getD j 0):Qh f d s a o i=Qh f d s b o i:=by unfold Qh;rw[h,h]
theorem XT(f d:Nat)(s a b:List Nat)(h:∀j,a.getD j 0=b.getD j 0)(i:Nat):pM f d s a i=pM f d s b i:=by
 induction i with
 |zero=>rfl
 |succ i c=>rw[pM,pM,c,Ud f d s a b _ i h]
theorem Qz(P:wW)(t:lC)(k y:Nat)(a b l dM:List Nat)(h:∀j,a.getD j 0=b.getD j 0):kV P t k y a l dM=kV P t k y b l dM:=by
 cases k with
 |zero=>rfl
 |succ k=>rw[kV,kV,XT _ _ _ a b h]
theorem XU(P:wW)(e:He P)(hb:1<=P.bits)(c:List lC)(a:P.parts=c.filter fun t=>decide (0<t.W)&&decide (0<t.H))(st:eU)(l:List Nat)(b:st.pt=0)(f:st.y=0)(g:∀t,P.parts[0]?=some t->wY P st t [])(h:l.length=kY P.bits P.parts):
 (n_ P l st).map (fun s=>s.dM)=qo P c l st.dM:=by
 rw[Uc,<-a];refine aav P e hb (fun t d=> ?_) P.parts st l (by rw[b,kG]) f (by rw[b];exact g) h;rw[a]at d;have:=(List.mem_filter.1 d).2;simp only[Bool.and_eq_true,decide_eq_true_eq]at this;exact this
end Pr
namespace Pr
open Go.RowKit Rf
open YX (one JB)
open Ad (wF Ea Ip)
def cI(fn:FuncId)(a b:bP)(K:af->List UInt8->(Nat->Prop)->Prop)(stop:List UInt8->Prop):Hy:=
 ⟨.func (.func fn) #[] #[.pointer (some a),.pointer (some b)],fn,fun x=> #[x,.pointer (some a),.pointer (some b)],K,stop⟩
theorem afo(fn:FuncId)(v y:bP)(K:af->List UInt8->(Nat->Prop)->Prop)(stop:List UInt8->Prop)(base:Nat)(hI:(cI fn v y K stop).Ok base):wZ (Ld (cI fn v y K stop)) base:=by
 intro A s aN most u x w V h B hm C D;subst V;obtain⟨c0,c1,c2,c3⟩:=h.cells;obtain⟨z,F,fx,q,p,h3,j,m,h6,n,h8,r,b,c,d,f,g,i⟩:=h;have W:=(cell_of m 2).2;obtain⟨l,E⟩:∃l,l=most-u.out.length:=⟨_,rfl⟩;rw[<-E]at c2 m;have X:1<=l:=by omega
 have Y:l<=16777216:=by omega
 have Z:ah (l=most-u.out.length):=E;clear E c0 c3;have t:A.gb≠A.ub:=fU j.1 m (by decide);have o:z.ownBlock≠some A.ub:=jA j.2.1 m (by decide);have M:kR (w.setCell ⟨A.ub,2,none⟩ (.int .i64 ((l:Int)-1))) A.gb A.base z aN u.out:=⟨(aB 2 _ t).trans j.1,gW j.2.1 (fun k G=>aB 2 _ (fun e=>o (e▸G))),by simpa using j.2.2⟩;go_enter func170,ntmps170
 go_wp2_with fail
 refine(Uj A.gb A.base z aN u.out x _ M C D).mono ?_;rintro e w2 ⟨rfl,a0,N,O,P⟩;obtain⟨hM,Q⟩:=Mid.mk q p j m h6 n h8 r b c d f g i Z.out B N O P;clear q p j m h6 n h8 r b c d f g i N O P c1 c2 W M t o;obtain⟨z,F,fx,q,p,h3,j,m,h6,n,h8,r,b,c,d,f,g,i⟩:=hM;have a1:w2.cell? ⟨A.ub,4,none⟩=some (.func (.func fn) #[] #[.pointer (some v),.pointer (some y)]):=by simpa [Ld,cI]using(cell_of m 4).1
 have R:=hI.call w2 u.out F x n (by omega) (fun k G=>(h8 k G).1) (by have:=p.Jf;omega);have a2:∀args w,(callFunc fn args).run prog w= .ok (.enter fn args) w:=hI.body;have H:aF prog fn #[.int .u8 ((x.toNat:Nat):Int),.pointer (some v),.pointer (some y)] w2 _:=R;clear R;go_wp2_with fail
 refine H.mono ?_;rintro e w3 (⟨rfl,F',I,J,b3⟩|⟨T,a,rfl,b0,I,J⟩)
 ·obtain⟨S,L,U⟩:=Mid.fin (F':=F') q p h3 j m h6 n h8 r b c d f g i (hI.busy n) J;go_wp2_with fail
  go_ret;exact .inl ⟨rfl,U I b3,Q.trans L⟩
 ·obtain⟨S,L,U⟩:=Mid.fin (F':=F) q p h3 j m h6 n h8 r b c d f g i (hI.busy n) J;go_wp2_with fail
  go_ret;exact .inr ⟨⟨T,a,rfl,.inl ⟨b0,I⟩⟩,S,Q.trans L⟩
def KC(b:Nat)(fn:FuncId)(K:af->List UInt8->(Nat->Prop)->Prop)(sb pb:Nat)(w:af)(out:List UInt8)(F:Nat->Prop):Prop:=
 ∃a,K w out a/\(F=fun k=>a k\/k=sb\/k=pb)/\w.heap[sb]?=some (.cells #[.int .u32 ((one (wF 1 0 out):Nat):Int)] 174 (0,0))/\
  w.heap[pb]?=some (.cells #[.func (.func fn) #[.pointer (some ⟨b,0,none⟩)] #[]] 134 (0,0))/\¬a sb/\¬a pb/\sb≠pb
def abg(a:Nat)(fn:FuncId)(K:af->List UInt8->(Nat->Prop)->Prop)(stop:List UInt8->Prop)(sb pb:Nat):Hy:=
 cI 122 ⟨sb,0,none⟩ ⟨pb,0,none⟩ (KC a fn K sb pb) stop
theorem abh(out:List UInt8)(x:UInt8):one (wF 1 0 (out++[x]))=JB (one (wF 1 0 out)) x.toNat:=by have hb:=Ea out 1 0 (by omega) (by omega);rw[Ip];unfold JB;rw[YX.abe _ hb.1,YX.abf _ hb.1];rfl
theorem Rh(i:Nat)(fn:FuncId)(K:af->List UInt8->(Nat->Prop)->Prop)(stop:List UInt8->Prop)(sb pb base:Nat)(hI:(mI i fn K stop).Ok base)(w:af)(out:List UInt8)(c:Nat->Prop)(x:UInt8)(hK:K w out c)(D:out.length<16777216)(hF:∀k,c k->base<=k)(E:base<=sb)(hb:base<=w.heap.size)
 (p:w.heap[sb]?=some (.cells #[.int .u32 ((one (wF 1 0 out):Nat):Int)] 174 (0,0))) (F:w.heap[pb]?=some (.cells #[.func (.func fn) #[.pointer (some ⟨i,0,none⟩)] #[]] 134 (0,0))) (h3:¬c sb) (y:¬c pb) (z:sb≠pb):
 aF prog 122 #[.int .u8 ((x.toNat:Nat):Int),.pointer (some ⟨sb,0,none⟩),.pointer (some ⟨pb,0,none⟩)] w fun e w'=>
  (e= .returned .nilIface/\∃F',KC i fn K sb pb w' (out++[x]) F'/\Fr (fun k=>c k\/k=sb\/k=pb) w w'/\∀k,F' k->(c k\/k=sb\/k=pb)\/w.heap.size<=k)\/
  (∃T a,e= .returned (.iface T (.pointer (some a)))/\jC w' T a/\stop (out++[x])/\Fr (fun k=>c k\/k=sb\/k=pb) w w'):=by
 obtain⟨d,j⟩:=Ea out 1 0 (by omega) (by omega);have G:ah _:=abh out x;have f:x.toNat<=255:=by have:=x.toNat_lt;omega
 have H1:ah (one (wF 1 0 out)%65536<=65520):=(by rw[YX.abe _ d];exact d:_<=_);have H:ah (one (wF 1 0 out)/65536<=65520):=(by rw[YX.abf _ d];exact j:_<=_);clear d j;generalize one (wF 1 0 out)=V at*;have c1:w.cell? ⟨sb,0,none⟩=some (.int .u32 (V:Int)):=by simpa using(cell_of p 0).1
 have I:=(cell_of p 0).2;have A:=fun v=>bG p 0 v;have q:∀v,(w.setCell ⟨sb,0,none⟩ v).heap[pb]?=_:=fun v=>(aB 0 v (r_ z)).trans F;have c2:∀v,(w.setCell ⟨sb,0,none⟩ v).cell? ⟨pb,0,none⟩=some (.func (.func fn) #[.pointer (some ⟨i,0,none⟩)] #[]):=fun v=>by simpa using(cell_of (q v) 0).1
 have B:∀v,K (w.setCell ⟨sb,0,none⟩ v) out c:=fun v=>hI.iJ hK (fun k b=>aB 0 v (fun e=>b.elim (fun b=>h3 (e▸b)) (fun b=>by omega))) (by simp);have J:∀args w,(callFunc fn args).run prog w= .ok (.enter fn args) w:=hI.body;have C:=fun v=>hI.call (w.setCell ⟨sb,0,none⟩ v) out c x (B v) D hF (by simpa using hb);have l:∀v,aF prog fn #[.pointer (some ⟨i,0,none⟩),.int .u8 ((x.toNat:Nat):Int)] (w.setCell ⟨sb,0,none⟩ v) _:=C;clear C;go_enter func122,ntmps122
 go_wp2_with fail
 refine(YX.UH V x.toNat _ H1.out H.out f).mono ?_;rintro e N ⟨rfl,g⟩;have g:=g.symm;subst g;go_wp2_with fail
 refine(l _).mono ?_;have m:Fr (fun k=>c k\/k=sb\/k=pb) w (w.setCell ⟨sb,0,none⟩ (.int .u32 ((JB V x.toNat:Nat):Int))):=(Fr.refl (fun k=>c k\/k=sb\/k=pb) w).set sb 0 (.inr (.inl rfl)) _;have n:(w.setCell ⟨sb,0,none⟩ (.int .u32 ((JB V x.toNat:Nat):Int))).heap.size=w.heap.size:=by simp
 have L:ah _:=n;have r:=A (.int .u32 ((JB V x.toNat:Nat):Int));have s:=q (.int .u32 ((JB V x.toNat:Nat):Int));clear n c1 I A q c2 B l;generalize (w.setCell ⟨sb,0,none⟩ (.int .u32 ((JB V x.toNat:Nat):Int)))=w1 at*;rintro e w3 (⟨rfl,F',t,o,u⟩|⟨T,a,rfl,M,t,o⟩)
 ·go_wp2_with fail
  go_ret;refine .inl ⟨rfl,(fun k=>F' k\/k=sb\/k=pb),⟨F',t,rfl,?_,?_,?_,?_,z⟩,m.trans (o.mono (fun k b=> .inl b)),fun k b=> ?_⟩
  ·refine(o.block sb (ai r) h3).trans (r.trans ?_);rw[G.out];simp
  ·exact(o.block pb (ai s) y).trans s
  ·exact fun e=>(u sb e).elim h3 (fun h=>by have:=ai r;omega)
  ·exact fun e=>(u pb e).elim y (fun h=>by have:=ai s;omega)
  ·rcases b with b|b
   ·rcases u k b with e|e
    ·exact .inl (.inl e)
    ·exact .inr (by have:=L.out;omega)
   ·exact .inl (.inr b)
 ·go_wp2_with fail
  go_ret;exact .inr ⟨T,a,rfl,M,t,m.trans (o.mono (fun k b=> .inl b))⟩
theorem Wj{h:Nat}{fn:FuncId}{K:af->List UInt8->(Nat->Prop)->Prop}{stop:List UInt8->Prop}{base:Nat}(hI:(mI h fn K stop).Ok base)(sb pb:Nat):(abg h fn K stop sb pb).Ok base where
 lt:=by
  rintro w out F ⟨g,b,rfl,c,d,_⟩ k a;rcases a with a|rfl|rfl
  ·exact hI.lt b k a
  ·exact ai c
  ·exact ai d
 iJ:=by rintro w w' out F ⟨g,b,rfl,c,d,h3⟩ e hs;exact⟨g,hI.iJ b (fun k a=>e k (a.imp .inl id)) hs,rfl,(e sb (.inl (.inr (.inl rfl)))).trans c,(e pb (.inl (.inr (.inr rfl)))).trans d,h3⟩
 busy:=by
  rintro w out F ⟨g,b,rfl,c,d,h3⟩ k cur T f a e;rcases a with a|rfl|rfl
  ·exact hI.busy b k cur T f a e
  ·rw[c]at e;simp at e;rw[<-e.2.1];decide
  ·rw[d]at e;simp at e;rw[<-e.2.1];decide
 body:=fun args w=>qI func122 (by kernel_rfl) (by kernel_rfl) args w
 call:=by rintro w out F x ⟨g,b,rfl,c,d,h3,i,j⟩ l hF hb;exact Rh h fn K stop sb pb base hI w out g x b l (fun k a=>hF k (.inl a)) (hF sb (.inr (.inl rfl))) hb c d h3 i j
theorem afK{a:Nat}{fn:FuncId}{K:af->List UInt8->(Nat->Prop)->Prop}{stop:List UInt8->Prop}{base:Nat}(hI:(mI a fn K stop).Ok base)(sb pb:Nat):wZ (Ld (abg a fn K stop sb pb)) base:=afo _ _ _ _ _ base (Wj hI sb pb)
theorem afp(c:Nat)(h:c<256):bits BinOp.and IntKind.i64 (c:Int) 15=((c%16:Nat):Int):=by have h:=Eu c 15 (by omega) (by omega);have e:c&&&15=c%16:=sQ c 4;rw[e]at h;exact h
theorem afq(f:Nat)(h:f<256):bits BinOp.and IntKind.i64 (f:Int) 32=((f/32%2*32:Nat):Int):=by
 have a:=Eu f 32 (by omega) (by omega);have e:f&&&32=f/32%2*32:=by
  have all:∀f:Fin 256,f.val&&&32=f.val/32%2*32:=by decide+kernel
  exact all ⟨f,h⟩
 rw[e]at a;exact a
theorem or8(c f:Nat)(a:c<256)(b:f<256):bits BinOp.or IntKind.i64 ((c:Int)*256) (f:Int)=((256*c+f:Nat):Int):=by
 have h:=AX (c*256) f (by omega) (by omega);have e:c*256|||f=256*c+f:=by rw[eu c];exact(lq (i:=8) (by omega) c).symm
 rw[e]at h;rw[<-h];congr 1
def oN(c f:Nat):Prop:=c%16=8/\c/16<=7/\(256*c+f)%31=0/\f/32%2=0
theorem abj(tb:Src)(rb:Nat)(s:ByteArray)(w:af)(h:Rd w tb rb s 0)(hs:s.size<=140737488354000):
 aF prog 121 #[.pointer (some ⟨rb,0,none⟩)] w fun e w'=>
  ((2<=s.size/\oN (bH s 0 8) (bH s 8 8))/\e= .returned (.tuple #[.int .i64 ((pw (bH s 0 8/16+8):Nat):Int),.nilIface])/\Rd w' tb rb s 16/\RF tb rb w w')\/
  ((∃T a,e= .returned (.tuple #[.int .i64 0,.iface T (.pointer (some a))])/\dO tb w' T a (¬(2<=s.size/\oN (bH s 0 8) (bH s 8 8))))/\qc w' tb rb s/\RF tb rb w w'):=by
 have J:=fQ s 0 8;have z:=fQ s 8 8;have K:=fM tb rb s 0 8 w h hs (by omega);have i:(bI s 8 ⟨0,false⟩).2.dA=true->¬2<=s.size:=fun hb L=>by rw[jc s 8 0 (by omega)]at hb;cases hb
 have j:(bI s 8 ⟨0+8,false⟩).2.dA=true->¬2<=s.size:=fun hb L=>by rw[jc s 8 (0+8) (by omega)]at hb;cases hb
 have A:ah _:=i;have B:ah _:=j;clear i j;generalize bH s 0 8=c at*;obtain⟨f,hF⟩:∃f,bH s (0+8) 8=f:=⟨_,rfl⟩;have k:bH s 8 8=f:=hF;rw[k]at z|-;have M:ah (bH s (0+8) 8=f):=hF;clear hF k;have l:c<256:=J;have m:f<256:=z;have R:=afp c l;have N:=or8 c f l m;have O:=afq f m;clear J z;go_enter func121,ntmps121
 go_wp2_with fail
 refine K.mono ?_;clear K;rintro e w1 (⟨_,C,rfl,n,g⟩|⟨⟨T,a,rfl,u⟩,n,g⟩);rotate_left
 ·have D:dO tb w1 T a (¬(2<=s.size/\oN c f)):=u.imp (fun u b=>A.out u b.1);clear u;go_wp2_with fail
  go_ret2;exact .inr ⟨⟨T,a,rfl,D⟩,n,g⟩
 by_cases o:c%16=8;rotate_left
 ·have E:((c:Int)%16 !=8)=true:=by rw[dG];omega
  have d:ah (¬(2<=s.size/\oN c f)):=(fun b=>o b.2.1:¬_);clear o C;go_wp2_with fail
  refine(dJ _ _).mono ?_;rintro e w2 ⟨rfl,rfl⟩;go_wp2_with fail
  go_ret2;exact .inr ⟨⟨_,_,rfl,dO.ve d.out⟩,n.Ag.alloc _,g.alloc _⟩
 have E:((c:Int)%16 !=8)=false:=by rw[bn];omega
 by_cases v:c/16<=7;rotate_left
 ·have F:decide ((7:Int)<(c:Int)/16)=true:=aZ (by omega);have d:ah (¬(2<=s.size/\oN c f)):=(fun b=>v b.2.2.1:¬_);clear o v C;go_wp2_with fail
  refine(dJ _ _).mono ?_;rintro e w2 ⟨rfl,rfl⟩;go_wp2_with fail
  go_ret2;exact .inr ⟨⟨_,_,rfl,dO.ve d.out⟩,n.Ag.alloc _,g.alloc _⟩
 have F:decide ((7:Int)<(c:Int)/16)=false:=aS (by omega);have G:ah (c%16=8/\c/16<=7):=⟨o,v⟩;clear o v;go_wp2_with fail
 refine(fM tb rb s (0+8) 8 _ n hs (by omega)).mono ?_;rintro e w2 (⟨_,P,rfl,p,q⟩|⟨⟨T,a,rfl,x⟩,p,q⟩);rotate_left
 ·have D:dO tb w2 T a (¬(2<=s.size/\oN c f)):=x.imp (fun x b=>B.out x b.1);clear x;go_wp2_with fail
  go_ret2;exact .inr ⟨⟨T,a,rfl,D⟩,p,g.trans q⟩
 rw[M.out]at*;have Q:ah (2<=s.size):=(by omega:_<=_);clear C P;by_cases r:(256*c+f)%31=0;rotate_left
 ·have t:((256*(c:Int)+(f:Int))%31 !=0)=true:=by rw[dG];omega
  have d:ah (¬(2<=s.size/\oN c f)):=(fun b=>r b.2.2.2.1:¬_);clear r;go_wp2_with fail
  refine(dJ _ _).mono ?_;rintro e w3 ⟨rfl,rfl⟩;go_wp2_with fail
  go_ret2;exact .inr ⟨⟨_,_,rfl,dO.ve d.out⟩,p.Ag.alloc _,(g.trans q).alloc _⟩
 have t:((256*(c:Int)+(f:Int))%31 !=0)=false:=by rw[bn];omega
 by_cases y:f/32%2=0;rotate_left
 ·have H:((f:Int)/32%2*32 !=0)=true:=by rw[dG];omega
  have d:ah (¬(2<=s.size/\oN c f)):=(fun b=>y b.2.2.2.2:¬_);clear r y;go_wp2_with fail
  refine(dJ _ _).mono ?_;rintro e w3 ⟨rfl,rfl⟩;go_wp2_with fail
  go_ret2;exact .inr ⟨⟨_,_,rfl,dO.ve d.out⟩,p.Ag.alloc _,(g.trans q).alloc _⟩
 have H:((f:Int)/32%2*32 !=0)=false:=by rw[bn];omega
 have d:ah (2<=s.size/\oN c f):=(⟨Q.out,G.out.1,G.out.2,r,y⟩:_/\_);clear r y;have I:=G.out;rcases(by omega:c=8\/c=24\/c=40\/c=56\/c=72\/c=88\/c=104\/c=120)with rfl|rfl|rfl|rfl|rfl|rfl|rfl|rfl
 all_goals
  clear I;simp at N t;go_wp2_with fail
  go_ret2;exact .inl ⟨d.out,rfl,p,g.trans q⟩
end Pr
namespace Pr
open Go.RowKit Rf
open kW (uX)
open YX (one)
open Ad (wF)
def wU(s:ByteArray)(size:Nat):US:=uX (s.extract 2 s.size) (pw (aA s 0/16+8)) size
def Iw(s:ByteArray)(size:Nat):Prop:=(2<=s.size/\oN (aA s 0) (aA s 1))/\(wU s size).st.dA=false/\(wU s size).out.length=size/\vS s (2+((wU s size).st.pos+7)/8) (one (wF 1 0 (wU s size).out))
def Oo(s:ByteArray)(size:Nat)(done:ByteArray->Prop):Prop:=(2<=s.size/\oN (aA s 0) (aA s 1))/\(wU s size).st.dA=false/\(wU s size).out.length=size/\vS s (2+((wU s size).st.pos+7)/8) (one (wF 1 0 (wU s size).out))/\2+((wU s size).st.pos+7)/8+4=s.size/\done s
theorem aeJ(k:Nat)(h:k<=7):1<=pw (k+8)/\pw (k+8)<=32768:=by rcases(by omega:k=0\/k=1\/k=2\/k=3\/k=4\/k=5\/k=6\/k=7)with rfl|rfl|rfl|rfl|rfl|rfl|rfl|rfl<;>decide
theorem aeK(l:List UInt8):one (wF 1 0 l)<4294967296:=by have:=Ad.Ea l 1 0 (by omega) (by omega);unfold one;omega
theorem UL(tb:Src)(rb:Nat)(s:ByteArray)(size:Nat)(w:af)(f:Nat)(fn:FuncId)(K:af->List UInt8->(Nat->Prop)->Prop)(stop:List UInt8->Prop)(hI:(mI f fn K stop).Ok tb.base)(F:Nat->Prop)(hK:K w [] F)(hF:∀k,F k->tb.base<=k/\¬tb.F k/\k≠rb)(O:Rd w tb rb s 0)(hO:jk w)(hz:tb.z=0)(hs:s.size<=140737488354000)(hm:size<=16777216):
 aF prog 85 #[.pointer (some ⟨rb,0,none⟩),.int .i64 (size:Int),.func (.func fn) #[.pointer (some ⟨f,0,none⟩)] #[]] w fun e w'=>
  (Iw s size/\e= .returned .nilIface/\(∃F',K w' (wU s size).out F'/\∀k,F' k->tb.base<=k/\¬tb.F k/\k≠rb)/\Rd w' tb rb s (8*(2+((wU s size).st.pos+7)/8+4))/\PE tb.base w w')\/
  ((∃T a,e= .returned (.iface T (.pointer (some a)))/\dO tb w' T a (¬Iw s size\/∃p,stop p/\p<+:(wU s size).out))/\qc w' tb rb s/\PE tb.base w w'):=by
 have u:tb.Ok:=by obtain⟨_,_,_,_,_,_,_,h5,_⟩:=O;exact h5
 have d5:=u.ng;have hl:=O.Jf;have v:=O.new (ag w.heap.size);have x:=O.alloc (.cells #[.func (.func fn) #[.pointer (some ⟨f,0,none⟩)] #[]] 134);have g:=PE.alloc tb.base w (.cells #[.func (.func fn) #[.pointer (some ⟨f,0,none⟩)] #[]] 134) hl.2.2.2;have R:=(dR w (.cells #[.func (.func fn) #[.pointer (some ⟨f,0,none⟩)] #[]] 134)).1;have d2:(w.alloc (.cells #[.func (.func fn) #[.pointer (some ⟨f,0,none⟩)] #[]] 134)).heap.size=w.heap.size+1:=by simp
 have W:=hI.lt hK;have X:K (w.alloc (.cells #[.func (.func fn) #[.pointer (some ⟨f,0,none⟩)] #[]] 134)) [] F:=hI.iJ hK (fun k b=>b.elim (fun b=>alloc_old (W k b)) (fun b=>g.low k b)) (by simp);have b6:=hO.over (g.low _ (by omega));have Y:ah (bH s 0 8=aA s 0):=pI s 0 0 rfl;have Z:ah (bH s 8 8=aA s 1):=pI s 8 1 rfl;have hH:=abj tb rb s _ x hs;rw[Y.out,Z.out]at hH;obtain⟨P,y⟩:∃P:Prop,P=(2<=s.size/\oN (aA s 0) (aA s 1)):=⟨_,rfl⟩;rw[<-y]at hH;obtain⟨Q,A⟩:∃Q:Prop,Q=Iw s size:=⟨_,rfl⟩;rw[<-A];have HP:ah (P=(2<=s.size/\oN (aA s 0) (aA s 1))):=y;have HQ:ah (Q=Iw s size):=A;have HU:ah (wU s size=uX (s.extract 2 s.size) (pw (aA s 0/16+8)) size):=rfl;clear y A O hK hO;generalize wU s size=U at*;go_enter func85,ntmps85
 go_wp2_with fail
 generalize (w.alloc (.cells #[.func (.func fn) #[.pointer (some ⟨f,0,none⟩)] #[]] 134))=w0 at*;refine hH.mono ?_;clear hH;rintro e w1 (⟨a0,rfl,g1,B⟩|⟨⟨T,a,rfl,g0⟩,g1,B⟩);rotate_left
 ·have d:=B.pe x;have HW:dO tb w1 T a (¬Q\/∃p,stop p/\p<+:U.out):=g0.imp (fun g0=> .inl (fun h=>g0 (by rw[HP.out];rw[HQ.out]at h;exact h.1)));clear g0;go_wp2_with fail
  go_ret;exact .inr ⟨⟨T,a,rfl,HW⟩,g1,g.trans d⟩
 have d:=B.pe x;have a1:ah P:=a0;clear a0;have a2:2<=s.size/\oN (aA s 0) (aA s 1):=by rw[<-HP.out];exact a1.out
 obtain⟨a3,d6,b7,_⟩:=a2;have n:=aeJ (aA s 0/16) b7;have C:K w1 [] F:=hI.iJ X (fun k b=>b.elim (fun b=>B.block k (hI.lt X k b) (hF k b).2.1 (hF k b).2.2) (fun b=>d.low k b)) B.size;have b8:=b6.over (d.low _ (by omega));have a4:w1.heap[w.heap.size]?=_:=(B.block w.heap.size (by omega) v.2.1 v.2.2).trans R;have d4:w.heap.size+1<=w1.heap.size:=by have:=B.size;omega
 have b9:=g1.new (ag w1.heap.size);have a5:(w1.alloc (.cells #[.int .u32 1] 174)).heap[w1.heap.size]?=some (.cells #[.int .u32 1] 174 (0,0)):=(dR w1 (.cells #[.int .u32 1] 174)).1;have hold:∀k,k<w1.heap.size->(w1.alloc (.cells #[.int .u32 1] 174)).heap[k]?=w1.heap[k]?:=fun k b=>alloc_old b;have o:(w1.alloc (.cells #[.int .u32 1] 174)).heap.size=w1.heap.size+1:=by simp
 have q:PE tb.base w1 (w1.alloc (.cells #[.int .u32 1] 174)):=PE.alloc tb.base w1 _ (by have:=g1.Jf;omega);have i:ah _:=hold;have c3:ah _:=a5;have j:ah _:=o;have l:ah _:=q;clear hold a5 o q R;go_wp2_with fail
 generalize (w1.alloc (.cells #[.int .u32 1] 174))=w2 at*;have a6:Rd w2 (tb.shift 2 s) rb (s.extract 2 s.size) 0:=Rd.acA 2 (by omega) a3 (g1.grow i.out);have a7:K w2 [] F:=hI.iJ C (fun k b=>b.elim (fun b=>i.out k (hI.lt C k b)) (fun b=>l.out.low k b)) (by have:=j.out;omega);have a8:(abg f fn K stop w1.heap.size w.heap.size).K w2 [] (fun k=>F k\/k=w1.heap.size\/k=w.heap.size):=⟨F,a7,rfl,c3.out,(i.out _ (by omega)).trans a4,fun e=>by have:=hI.lt C _ e;omega,fun e=>by have:=W _ e;omega,by omega⟩;have a9:=UP.start (S:=Ld (abg f fn K stop w1.heap.size w.heap.size)) (tb.shift 2 s) rb (s.extract 2 s.size) (pw (aA s 0/16+8)) size 0 w2 _ _ _ _ rfl (aaO (Wj hI _ _)) a8 (fun k b=>by
  rcases b with b|rfl|rfl
  ·exact hF k b
  ·exact b9
  ·exact v) a6 (b8.over (l.out.low _ (by omega)))
 have D:=(PE.alloc tb.base w2 (.cells #[.int .i64 ((pw (aA s 0/16+8):Nat):Int),.slice none 0 0,.int .i64 0] 231) (by have:=j.out;omega)).trans (PE.alloc tb.base _ (.cells #[.pointer (some ⟨rb,0,none⟩),.pointer (some ⟨w2.heap.size,0,none⟩),.int .i64 (size:Int),.bool false,.func (.func 122) #[] #[.pointer (some ⟨w1.heap.size,0,none⟩),.pointer (some ⟨w.heap.size,0,none⟩)],.pointer none] 185) (by have:=j.out;simp;omega));clear a6 a7 a8;refine(abd _ _ size _ _ _ _).mono ?_;rintro e w3 ⟨rfl,E⟩;rw[<-E]at D;have c:UP (Ld (abg f fn K stop w1.heap.size w.heap.size)) w3 ⟨tb.shift 2 s,rb,w2.heap.size,w2.heap.size+1,false⟩ (s.extract 2 s.size) (pw (aA s 0/16+8)) size ⟨⟨0,false⟩,[]⟩:=by rw[E];exact a9
 clear a9;clear E;obtain⟨G,b0⟩:=c.aeG;have ca:=c.all;have cf:=c.afI;dsimp only at ca cf G;have H:=(((g.trans d).trans l.out).trans D).trans b0;go_wp2_with fail
 refine(JA _ ⟨tb.shift 2 s,rb,w2.heap.size,w2.heap.size+1,true⟩ (s.extract 2 s.size) (pw (aA s 0/16+8)) size ⟨⟨0,false⟩,[]⟩ _ (afK hI w1.heap.size w.heap.size) G (by rw[p_];omega) hm n.1 n.2).mono ?_;clear ca cf b0;have c4:ah (rQ (s.extract 2 s.size) (pw (aA s 0/16+8)) size (8*(s.extract 2 s.size).size+1) ⟨⟨0,false⟩,[]⟩=U):=(HU.out.symm:_=_);rw[c4.out];rintro e w4 (⟨m,rfl,I,q4,q5⟩|⟨⟨T,a,rfl,m⟩,I,q4⟩);rotate_left
 ·have c5:qc w4 tb rb s:=qc.MK a3 u I.1;have HW:dO tb w4 T a (¬Q\/∃p,stop p/\p<+:U.out):=dO.imp (S:=tb) m (fun m=>m.elim (fun m=>m.elim (fun hb=> .inl (fun h=>by rw[HQ.out]at h;have r:=h.2.1;rw[show wU s size=U from HU.out.symm]at r;rw[hb]at r;cases r)) .inr) (fun m=> .inl (fun h=>by rw[HQ.out]at h;have r:=h.2.2.1;rw[show wU s size=U from HU.out.symm]at r;have:=m.2;omega)));clear m I;go_wp2_with fail
  go_ret;exact .inr ⟨⟨T,a,rfl,HW⟩,c5,H.trans q4⟩
 have J:Rd w4 tb rb s (U.st.pos+8*2):=Rd.MK u I.facts.2.1;have d7:U.out.length<=size:=I.facts.2.2;obtain⟨_,_,c2,_⟩:=I.cells;obtain⟨vr,Fs,fx,h1,h2,h3,h4,h5,h6,⟨F0,k0,b1,k1,k2,k3⟩,h8,_⟩:=I;have c6:ah _:=q5 rfl;clear q5;have L:∀k,F0 k->tb.base<=k/\¬tb.F k/\k≠rb:=fun k b=>by have:=h8 k (by rw[b1];exact .inl b);exact⟨this.1,this.2.1,this.2.2.1⟩
 have cs:w4.cell? ⟨w1.heap.size,0,none⟩=some (.int .u32 ((one (wF 1 0 U.out):Nat):Int)):=by simpa using(cell_of k1 0).1
 have b2:=H.trans q4;have c7:ah (U.st.dA=false):=m;have HV:ah (∀V,V=one (wF 1 0 U.out)->V<4294967296):=fun V N=>by rw[N];exact aeK _
 clear h1 h2 h3 h4 h5 h6 b1 k1 k2 k3 h8 m q4 H D d g c G;obtain⟨V,N⟩:∃V,V=one (wF 1 0 U.out):=⟨_,rfl⟩;rw[<-N]at cs;have c8:=HV.out V N;have b3:ah (V=one (wF 1 0 U.out)):=N;clear N;have b4:ah (U.out.length=size):=(by have:=c6.out;omega:_=_);clear c2;go_wp2_with fail
 refine(Ri tb rb s (U.st.pos+8*2) (2+(U.st.pos+7)/8) V _ J hs c8 (by omega)).mono ?_;rintro e w5 (⟨M,rfl,r3,r4⟩|⟨⟨T,a,rfl,M⟩,r3,r4⟩);rotate_left
 ·have c9:=r4.pe J;have HW:dO tb w5 T a (¬Q\/∃p,stop p/\p<+:U.out):=M.imp (fun M=> .inl (fun h=>by rw[HQ.out]at h;have r:=h.2.2.2;rw[show wU s size=U from HU.out.symm,<-b3.out]at r;exact M r));clear M;go_wp2_with fail
  go_ret;exact .inr ⟨⟨T,a,rfl,HW⟩,r3,b2.trans c9⟩
 have t:=r4.pe J;have b5:ah _:=M;clear M;have d0:K w5 U.out F0:=hI.iJ k0 (fun k b=>b.elim (fun b=>r4.block k (hI.lt k0 k b) (L k b).2.1 (L k b).2.2) (fun b=>t.low k b)) r4.size;have d1:ah Q:=(by rw[HQ.out];unfold Iw;rw[show wU s size=U from HU.out.symm,<-b3.out,<-HP.out];exact⟨a1.out,c7.out,b4.out,b5.out⟩:Q)
 go_wp2_with fail
 go_ret;exact .inl ⟨d1.out,rfl,⟨F0,d0,L⟩,r3,b2.trans t⟩
theorem UM(tb:Src)(i:tb.Ok)(s:ByteArray)(size:Nat)(w:af)(S:Nat)(fn:FuncId)(K:af->List UInt8->(Nat->Prop)->Prop)(stop:List UInt8->Prop)(hI:(mI S fn K stop).Ok tb.base)(fe:FuncId)(done:ByteArray->Prop)(KD:af->Prop)(O:tb.ad5 fe done KD)(F:Nat->Prop)(hK:K w [] F)(hF:∀k,F k->tb.base<=k/\¬tb.F k)(V:tb.K w s 0)(hO:jk w)(hz:tb.z=0)(hs:s.size<=140737488354000)(hm:size<=16777216):
 aF prog 45 #[.iface tb.T (.pointer (some tb.a)),.int .i64 (size:Int),.func (.func fn) #[.pointer (some ⟨S,0,none⟩)] #[]] w fun e w'=>
  (Oo s size done/\e= .returned .nilIface/\(∃F',K w' (wU s size).out F'/\∀k,F' k->tb.base<=k/\¬tb.F k)/\KD w'/\tb.KE w'/\PE tb.base w w')\/
  ((∃T a,e= .returned (.iface T (.pointer (some a)))/\dO tb w' T a (¬Oo s size done\/∃p,stop p/\p<+:(wU s size).out))/\tb.KE w'/\PE tb.base w w'):=by
 have A:=Rd.first i V hz
 have a7:=i.ng;have W:=i.hb (i.ke V);have q:=PE.alloc tb.base w (.cells #[.iface tb.T (.pointer (some tb.a)),.int .u32 0,.int .u64 0,.int .i64 0] 180) W;have B:=hI.lt hK;have hW:=UL tb w.heap.size s size _ S fn K stop hI F (hI.iJ hK (fun k g=>g.elim (fun g=>alloc_old (B k g)) (fun g=>q.low k g)) (by simp)) (fun k g=>⟨(hF k g).1,(hF k g).2,by have:=B k g;omega⟩) A (hO.over (q.low _ (by omega))) hz hs hm;have m:ah (Oo s size done↔Iw s size/\2+((wU s size).st.pos+7)/8+4=s.size/\done s):=(⟨fun⟨a,b,c,d,e,f⟩=>⟨⟨a,b,c,d⟩,e,f⟩,fun⟨⟨a,b,c,d⟩,e,f⟩=>⟨a,b,c,d,e,f⟩⟩:_↔_);obtain⟨Q,C⟩:∃Q:Prop,Q=Oo s size done:=⟨_,rfl⟩;rw[<-C]at m|-;obtain⟨R,D⟩:∃R:Prop,R=Iw s size:=⟨_,rfl⟩;rw[<-D]at m hW;clear C D;generalize wU s size=U at*;obtain⟨t,E⟩:∃t,t=2+(U.st.pos+7)/8+4:=⟨_,rfl⟩;rw[<-E]at hW m;have a8:=O.ae9;have a9:=O.body;clear A hK V E;go_enter func45,ntmps45
 go_wp2_with fail
 refine(UB _ _ _).mono ?_;rintro e w1 ⟨rfl,rfl⟩;go_wp2_with fail
 refine hW.mono ?_;clear hW;rintro e w2 (⟨x,rfl,⟨F',G,H⟩,X,q6⟩|⟨⟨T,a,rfl,x⟩,G,H⟩)
 ·have HR:ah R:=x;clear x;have I:=X.Ag;have Y:=X.no;obtain⟨c,hc,J,h1,h2,h3,L,h5,h6⟩:=X;have Z:J=t:=by omega
  subst Z;have a0:=hI.lt G;have M:=i.hb (i.ke L);have j:∀w',tb.KE w'->Fr tb.F w2 w'->qc w' tb w.heap.size s/\(∃F',K w' U.out F'/\∀k,F' k->tb.base<=k/\¬tb.F k)/\PE tb.base w2 w':=fun w' g P=>by
   have N:PE tb.base w2 w':=P.pe M (fun k g=>i.low k g) (fun k cur T f g e=>by obtain⟨a6,T',f',e1,e2⟩:=i.Vy (i.ke L) g;rw[e]at e1;cases e1;unfold yg;rw[e2];rfl)
   refine⟨?_,⟨F',hI.iJ G (fun k g=>g.elim (fun g=>P.block k (a0 k g) (H k g).2.1) (fun g=>N.low k g)) P.size,fun k g=>⟨(H k g).1,(H k g).2.1⟩⟩,N⟩;obtain⟨c,t,v,o,l,r,k4,k5,k6⟩:=I;exact⟨c,t,v,o,l,r,g,k5,(P.block _ (ai k6) Y).trans k6⟩
  have HN:aF prog fe #[.pointer (some tb.a)] w2 fun e w'=>
   (Q/\e= .returned .nilIface/\KD w'/\tb.KE w'/\Fr tb.F w2 w')\/
   (∃T a,e= .returned (.iface T (.pointer (some a)))/\dO tb w' T a (¬Q)/\tb.KE w'/\Fr tb.F w2 w'):=by
   by_cases hd:J=s.size/\done s
   ·refine(O.ok w2 s (by rw[<-hd.1];exact L) hd.2).mono ?_;rintro e w' (⟨u,o,l,r⟩|⟨T,a,u,o,l,r,k4⟩)
    ·exact .inl ⟨m.out.2 ⟨HR.out,hd⟩,u,o,l,r⟩
    ·exact .inr ⟨T,a,u,.inr ⟨o,l⟩,r,k4⟩
   ·refine(O.dA w2 s J L (by
     rcases bU J s.size with hl|hl
     ·exact .inl hl
     ·have he:J=s.size:=by omega
      exact .inr ⟨he,fun a1=>hd ⟨he,a1⟩⟩)).mono ?_
    rintro e w' ⟨T,a,u,o,l,r⟩;exact .inr ⟨T,a,u,o.imp (fun _ hq=>hd (m.out.1 hq).2),l,r⟩
  clear h6 L I;go_wp2_with fail
  refine HN.mono ?_;clear HN;rintro e w3 (⟨u,rfl,o,l,r⟩|⟨T,a,rfl,o,l,r⟩)
  ·have HQ:ah Q:=u;clear u;obtain⟨z1,z2,z3⟩:=j w3 l r;clear j;go_wp2_with fail
   go_ret;exact .inl ⟨HQ.out,rfl,z2,o,l,(q.trans q6).trans z3⟩
  ·obtain⟨z1,z2,z3⟩:=j w3 l r;have a2:tb.base<=w3.heap.size:=i.hb l;have HW:dO tb w3 T a (¬Q\/∃p,stop p/\p<+:U.out):=o.imp .inl;clear j o;go_wp2_with fail
   refine(Kw tb w.heap.size s _ z1).mono ?_;rintro e w4 ⟨⟨n,rfl⟩,a3⟩;subst a3;go_wp2_with fail
   refine(NM _ _ _ _ _).mono ?_;rintro e w5 ⟨rfl,rfl⟩;go_wp2_with fail
   go_ret;exact .inr ⟨⟨_,_,rfl,HW.xN _ _ _ rfl⟩,i.qH l (fun k g=>alloc_old (g.elim (fun g=>i.lt l g) (fun g=>by omega))),((q.trans q6).trans z3).trans (PE.alloc _ _ _ a2)⟩
 ·have y:tb.KE w2:=by obtain⟨_,_,_,_,_,_,h,_⟩:=G;exact h
  have a4:tb.base<=w2.heap.size:=i.hb y;have HW:dO tb w2 T a (¬Q\/∃p,stop p/\p<+:U.out):=x.imp (fun x=>x.imp (fun hn hq=>hn (m.out.1 hq).1) id);clear x;go_wp2_with fail
  refine(Kw tb w.heap.size s _ G).mono ?_;rintro e w3 ⟨⟨n,rfl⟩,a5⟩;subst a5;go_wp2_with fail
  refine(NM _ _ _ _ _).mono ?_;rintro e w4 ⟨rfl,rfl⟩;go_wp2_with fail
  go_ret;exact .inr ⟨⟨_,_,rfl,HW.xN _ _ _ rfl⟩,i.qH y (fun k g=>alloc_old (g.elim (fun g=>i.lt y g) (fun g=>by omega))),(q.trans H).trans (PE.alloc _ _ _ a4)⟩
end Pr
namespace Pr
open Go.RowKit Rf
open kW (byteCells jw uX Ls)
end Pr
namespace Pr
open Go.RowKit Rf
open kW (uX rF LH RH adA NY JG Wv)
open YX (one)
open Ad (wF)
theorem RI(s:ByteArray)(q a:Nat)(e:q+4=s.size):rF s 4 0 a=true↔vS s q a:=by
 unfold vS;simp only[rF];rw[show s.size-1-0=q+3 by omega,show s.size-1-(0+1)=q+2 by omega,show s.size-1-(0+1+1)=q+1 by omega,show s.size-1-(0+1+1+1)=q by omega];rw[show a/256/256=a/65536 by omega,show a/65536/256=a/16777216 by omega];constructor
 ·intro h;split at h
  ·split at h
   ·split at h
    ·split at h
     ·exact⟨by omega,by assumption,by assumption,by assumption,by assumption⟩
     ·cases h
    ·cases h
   ·cases h
  ·cases h
 ·rintro⟨_,b,c,h3,d⟩;rw[aC d,aC h3,aC c,aC b]
theorem adL(s:ByteArray)(n:Nat)(d:2<=s.size)(e:oN (aA s 0) (aA s 1)):NY s n (wU s n)=true↔Oo s n (fun _=>True):=by
 unfold NY Oo;have f:adA (wU s n).out=one (wF 1 0 (wU s n).out):=rfl;rw[f];simp only[Bool.and_eq_true,decide_eq_true_eq,Bool.not_eq_true'];constructor
 ·rintro⟨⟨⟨b,h3⟩,a⟩,c⟩;exact⟨⟨d,e⟩,b,h3,(RI s _ _ a).1 c,a,trivial⟩
 ·rintro⟨_,b,h3,c,a,_⟩;exact⟨⟨⟨b,h3⟩,a⟩,(RI s _ _ a).2 c⟩
noncomputable def JH(s:ByteArray)(n:Nat):ByteArray×Int:=by
 classical
 exact if Oo s n (fun _=>True)then(⟨(wU s n).out.toArray⟩,0)else(⟨#[]⟩,3)
theorem IU(s:ByteArray)(n:Nat)(w:af)(hs:s.size<=140737488351232)(h3:n<=16777216):
 aF prog 15 #[.string s,.int .i64 (n:Int)] w fun e w'=>e= .returned (.tuple #[.string (JH s n).1,.int .i64 (JH s n).2])/\aJ w.heap.size w w':=by
 by_cases c:s.size<2
 ·refine(kW.NW s n w h3 c).mono ?_;rintro e w' ⟨rfl,rfl⟩;refine⟨?_,aP _ _⟩;unfold JH;rw[au (fun h=>by have:=h.1.1;omega)]
 ·have d:(s[0]'(by omega)).toNat=aA s 0:=(dL s 0 (by omega)).symm;have f:(s[1]'(by omega)).toNat=aA s 1:=(dL s 1 (by omega)).symm;by_cases a:oN (aA s 0) (aA s 1)
  ·refine(kW.NZ s n w hs h3 c _ _ d f a).mono ?_;rintro e w' ⟨rfl,hb⟩;refine⟨?_,hb⟩;show Ending.returned (JG (NY s n (wU s n)) (wU s n).out)=_;have hi:=adL s n (by omega) a;unfold JH JG;by_cases b:Oo s n (fun _=>True)
   ·rw[aC (hi.2 b),aC b]
   ·rw[au (fun h=>b (hi.1 h)),au b]
  ·refine(kW.RG s n w h3 c _ _ d f a).mono ?_;rintro e w' ⟨rfl,rfl⟩;refine⟨?_,aP _ _⟩;unfold JH;rw[au (fun h=>a h.1.2)]
end Pr
open Go.RowKit
theorem own:ownKnob prog.godebug=none:=by kernel_rfl
theorem afy:prog.globalNamed "errors.errorType" =some 3:=by kernel_rfl
theorem afz:prog.globalNamed "vellum/fault.End" =some 2:=by kernel_rfl
theorem Oi:prog.globalNamed "vellum/fault.Failed" =some 0:=by kernel_rfl
theorem ab3:prog.globalNamed "vellum/unpack.lengthOrder" =some 6:=by kernel_rfl
theorem afP:(prog.globals[2]?).map (·.type)=some 80:=by kernel_rfl
theorem WG:(prog.globals[0]?).map (·.type)=some 80:=by kernel_rfl
theorem aeZ:(prog.globals[6]?).map (·.type)=some 347:=by kernel_rfl
theorem afA:(prog.cutTypes.find? (·.1== "internal/reflectlite.rtype")).map (·.2)=some 238:=by kernel_rfl
theorem ae0:prog.types.size=394:=by kernel_rfl
theorem ae1:((List.range 394).filter fun t=>prog.rowNamed t [101,114,114,111,114])=[80]:=by kernel_rfl
theorem star: "*" ++ "errors.errorString" = "*errors.errorString" :=by decide
theorem ab4 (u:aY) (h:prog.typeName? 3 u=some "*errors.errorString"):u=362:=
 typeName_ptr_named (nm:= "errors.errorString") (by rw[star];kernel_rfl) (by kernel_rfl) (by decide) u (by rw[star];exact h)
theorem WH:prog.cellsOf 384=1:=by kernel_rfl
theorem RS:prog.cellsOf 9=1:=by kernel_rfl
def xk:List Int:=Rf.order.map fun(i:Nat)=>(i:Int)
theorem ab5:(Rows.laid_vellum_unpack_lengthOrder:DataW Unit)=Lib.tabData .u8 xk:=by kernel_rfl
end Go.Proofs.YtephkcdbnogdhaaGreatDoor
