import Derived.Test.YtephkcdbnogdhabGreatDoorM8
import Derived.Test.YtephkcdbnogdhabGreatDoorM9
import Derived.Test.YtephkcdbnogdhabGreatDoorM12
import Derived.Test.YtephkcdbnogdhabGreatDoorM13
set_option linter.unusedVariables false
set_option maxHeartbeats 40000000
set_option maxRecDepth 10000
namespace Go.Proofs.YtephkcdbnogdhabGreatDoor
open Go.Proofs.Tryz
open Go renaming World->af,Value->ay,Calls->aH,TypeId->aW,Addr->bG
open Go.RowKit renaming Hid->au,Below->aA
namespace gI
open Go.RowKit Rf
def Dt(d:Nat):ByteArray:=if 10<=d then⟨#[32,49]⟩++⟨#[UInt8.ofNat (48+d%10)]⟩++⟨#[32]⟩else⟨#[32]⟩++⟨#[UInt8.ofNat (48+d)]⟩++⟨#[32]⟩
end gI
namespace Pr
open Go.RowKit Rf
open gI (inW Dt)
def PZ(K:Nat):ByteArray:=[⟨#[32,49,32,50,32,52,32,56,32,49,54,32]⟩,⟨#[]⟩,⟨#[32,56,32,49,54,32]⟩,⟨#[32,49,32,50,32,52,32,56,32]⟩,⟨#[32,56,32,49,54,32]⟩,⟨#[]⟩,⟨#[32,56,32,49,54,32]⟩].getD K ⟨#[]⟩
def inL(l s:List UInt8):Bool:=(List.range (l.length+1)).any fun i=>decide (i+s.length<=l.length)&&((l.drop i).take s.length==s)
theorem MH(l s:ByteArray):inW l s↔inL l.data.toList s.data.toList=true:=by
 have a:∀i,l.extract i (i+s.size)=s↔((l.data.toList.drop i).take s.data.toList.length==s.data.toList)=true:=fun i=>by
  rw[mD];have e:(l.extract i (i+s.size)).data.toList=(l.data.toList.drop i).take s.size:=by rw[iE,vg,oL,show i+s.size-i=s.size by omega]
  have b:s.data.toList.length=s.size:=by simp
  rw[b,<-e];constructor
  ·intro h;rw[h]
  ·intro h;have h2:(l.extract i (i+s.size)).data=s.data:=Array.toList_inj.1 h;cases s;cases c:l.extract i (i+_);rw[c]at h2;exact jo _ h2
 have d:l.data.toList.length=l.size:=by simp
 have b:s.data.toList.length=s.size:=by simp
 unfold inW inL;rw[List.any_eq_true];constructor
 ·rintro⟨i,h1,h2⟩;exact⟨i,List.mem_range.2 (by omega),by rw[gB];exact⟨aZ (by omega),(a i).1 h2⟩⟩
 ·rintro⟨i,_,h⟩;rw[gB]at h;exact⟨i,by have:=lW h.1;omega,(a i).2 h.2⟩
theorem MI:∀K,K<7->∀D,D<17->inL (PZ K).data.toList (Dt D).data.toList=rW K D:=by decide
end Pr
namespace Pr
open Go.RowKit Rf Cr
open gI (bz inW Dt)
def headD(d:ByteArray):Prop:=aF d 9<7/\aF d 8<17/\inW (PZ (aF d 9)) (Dt (aF d 8))/\(0<bz d 0/\0<bz d 4/\bz d 0<=2147483647/\bz d 4<=2147483647)/\aF d 10=0/\aF d 11=0/\aF d 12<2
end Pr
namespace Pr
open Go.RowKit Rf
def UL(L:List Nat):List ay:=L.map fun(x:Nat)=> .int .u8 ((x:Nat):Int)
def jb(w:af)(g:Nat)(L:List Nat):Prop:=w.heap[g]?=some (.cells (UL L).toArray 5 (0,0))
theorem jb.cell{w:af}{g:Nat}{L:List Nat}(h:jb w g L)(i:Nat)(hi:i<L.length):w.cell? ⟨g,i,none⟩=some (.int .u8 ((L.getD i 0:Nat):Int))/\w.frozen? ⟨g,i,none⟩=false:=by refine⟨(cell_of h i).1.trans ?_,(cell_of h i).2⟩;simp[UL,List.getD,List.getElem?_eq_getElem hi]
theorem jb.set{w:af}{g:Nat}{L:List Nat}(h:jb w g L)(i x:Nat):jb (w.setCell ⟨g,i,none⟩ (.int .u8 (x:Int))) g (L.set i x):=by refine(bF h i _).trans ?_;simp[UL,List.map_set]
theorem jb.over{w w':af}{g:Nat}{L:List Nat}(h:jb w g L)(e:w'.heap[g]?=w.heap[g]?):jb w' g L:=e.trans h
theorem Qd(n:Nat):madeCells #[.int .u8 0] n=(UL (List.replicate n 0)).toArray:=by
 apply Array.ext
 ·rw[oU];simp[UL]
 ·intro i h1 h2;have h:i<n:=by rw[oU]at h1;exact h1
  have:=IJ n i h;rw[xg h1]at this;have e:=eu this;rw[e];simp[UL]
theorem XT(W:af)(n:Nat)(e:n<=1000000000):(Instr.makeSlice 39 (.int .i64 (n:Int)) (.int .i64 (n:Int))).run prog W= .ok (.slice (some ⟨W.heap.size,0,none⟩) n n) (W.alloc (.cells (UL (List.replicate n 0)).toArray 5)):=by obtain⟨d,hi,a,b,c⟩:=info_parts MN;have h:=run_make (P:=prog) W 39 5 d _ underlying39 hi a .i64 .i64 (n:Int) (n:Int) (by omega) (by omega) (by rw[c];omega) (by omega);rw[h,b,<-Qd];simp[Value.cells]
theorem yM(rb d n cap t g7:Nat)(w:af)(h:w.cell? ⟨rb,6,none⟩=some (.int .i64 (d:Int)))(i:w.cell? ⟨rb,7,none⟩=some (.slice (some ⟨g7,0,none⟩) n cap))(j:w.cell? ⟨rb,9,none⟩=some (.int .i64 (t:Int)))(b:d<=t)(c:t<=n)(f:n<=cap)(g:d<cap)(k:cap<=1000000000):
 aH prog 121 #[.pointer (some ⟨rb,6,none⟩)] w fun e w'=>e= .returned (.slice (some ⟨g7,d,none⟩) (t-d) (cap-d))/\∃nq,w'=w.drewN nq:=by
 go_enter func121,ntmps121
 go_wp2_with fail
 have a:¬cap=d:=by omega
 go_region
 all_goals
  go_wp2_with fail
  all_goals
   go_ret
   first
    |exact⟨rfl,1,rfl⟩
    |exact⟨by rw[show t-d=0 by omega];rfl,1,rfl⟩
theorem IL(w:af)(o a:Obj)(L:List Nat):jb (((w.alloc o).alloc (.cells (UL L).toArray 5)).alloc a).drew (w.heap.size+1) L:=by show(((w.alloc o).alloc (.cells (UL L).toArray 5)).alloc a).heap[w.heap.size+1]?=_;rw[ai _ _ _ (by simp)];have:=aP (w.alloc o) (.cells (UL L).toArray 5);simpa using this
theorem MO(w:af)(o a:Obj)(L:List Nat):jb (((w.alloc o).alloc a).alloc (.cells (UL L).toArray 5)).drew (w.heap.size+1+1) L:=by show(((w.alloc o).alloc a).alloc (.cells (UL L).toArray 5)).heap[w.heap.size+1+1]?=_;have:=aP ((w.alloc o).alloc a) (.cells (UL L).toArray 5);simpa using this
theorem Below.Bf{B:Nat}{w w':af}(h:aA B w w'):aA B w w'.drew:=⟨h.os,h.tape,h.output,h.size,h.block⟩
theorem MP(size d:Nat)(w:af)(h:size<=900000000)(hd:d<=100):
 aH prog 112 #[.int .i64 (size:Int),.int .i64 (d:Int)] w fun e w'=> ∃g a,e= .returned (.agg #[.int .i64 (d:Int),.slice (some ⟨g,0,none⟩) (d+size) (d+size),.slice (some ⟨a,0,none⟩) (d+size) (d+size),.int .i64 0,.int .u8 0])/\g≠a/\w.heap.size<=g/\w.heap.size<=a/\jb w' g (List.replicate (d+size) 0)/\jb w' a (List.replicate (d+size) 0)/\aA w.heap.size w w':=by
 obtain⟨N,b⟩:∃N,N=d+size:=⟨_,rfl⟩;have c:(d:Int)+(size:Int)=(N:Int):=by omega
 have f:=fun W=>XT W N (by omega);rw[<-b];clear b;go_enter func112,ntmps112
 go_wp2_with fail
 go_region
 all_goals
  go_wp2_with fail
  refine a_ (v:=Value.agg #[.int .i64 (d:Int),_,_,.int .i64 0,.int .u8 0]) (by simp[results,results112,go_sem];exact⟨rfl,rfl⟩) rfl ?_;refine⟨_,_,rfl,by omega,by omega,by omega,?_,?_,?_⟩
  ·first
    |exact IL _ _ _ _
    |exact MO _ _ _ _
  ·first
    |exact IL _ _ _ _
    |exact MO _ _ _ _
  ·exact Below.Bf ((((aV w.heap.size w).alloc (ah _) _).alloc (by simp) _).alloc (by simp;omega) _)
end Pr
namespace Pr
open Go.RowKit Rf Cr
open gI (cut fK dZ gy gW h_ bQ gQ fO dw bz)
def kM:ay:= .func (.func 67) #[] #[]
theorem QD(F:Nat->Prop):Dx 67 #[] je (fun _=>True) F where
 body:=fun args w=>pq func67 (by kernel_rfl) (by kernel_rfl) args w
 ask:=fun x w _ h0 a=>GX x w h0 a
 xu:=fun _ _=>trivial
theorem Vm(F:Nat->Prop):Dx 59 #[] nN (fun _=>True) F where
 body:=fun args w=>pq func59 (by kernel_rfl) (by kernel_rfl) args w
 ask:=fun x w _ h0 a=>JP x w h0 a
 xu:=fun _ _=>trivial
theorem YL(F:Nat->Prop):Dx 73 #[] j_ (fun _=>True) F where
 body:=fun args w=>pq func73 (by kernel_rfl) (by kernel_rfl) args w
 ask:=fun x w _ h0 a=>Dw x w h0 a
 xu:=fun _ _=>trivial
theorem QG(S:Src)(cb:Nat)(fn:FuncId)(bs:Array ay)(f:bs= #[]\/∃r,bs= #[r])(M:ByteArray->Bool)(C:af->Prop)(g:Dx fn bs M C (jc S cb))(s:ByteArray)(w:af)(p left:Nat)(name:ByteArray)(l:List UInt8)(h:CR S cb s w p name left l)(i:C w):
 aH prog 72 #[.pointer (some ⟨cb,0,none⟩),.func (.func fn) bs #[]] w fun e w'=> ∃v:ay,e= .returned v/\
  (((jw s p left l/\lC M s (p+left+4))/\v= .nilIface/\CR S cb s w' (p+left+4+8) (fG s (p+left+4+4) 4) (bz s (p+left+4)) (cut s (p+left+4+4) 4)/\Fr (jc S cb) w w')\/
  ((∃T a,v= .iface T (.pointer (some a))/\dJ S w' T a (¬(jw s p left l/\lC M s (p+left+4))))/\mP S cb w'/\Fr (jc S cb) w w')):=by
 refine(zY S cb fn bs f M C g s w p left name l h i).mono ?_;rintro e w' (⟨a,rfl,b,c⟩|⟨⟨T,a,rfl,b⟩,c,d⟩)
 ·exact⟨_,rfl,.inl ⟨a,rfl,b,c⟩⟩
 ·exact⟨_,rfl,.inr ⟨⟨T,a,rfl,b⟩,c,d⟩⟩
theorem DF(S:Src)(cb i:Nat)(s:ByteArray)(w:af)(p left:Nat)(l:List UInt8)(h:CR S cb s w p fD left l)(hJ:w.heap[i]?=some (OT cb kM))(hj:¬S.F i)(L:i≠cb):
 aH prog 199 #[.pointer (some ⟨i,0,none⟩)] w fun e w'=>
  (∃P:Pt,(jP s p left l=[]/\Ends s p left l P)/\e= .returned .nilIface/\CR S cb s w' P.p P.name P.left P.l/\Fr (jc S cb) w w')\/
  ((∃T a,e= .returned (.iface T (.pointer (some a)))/\dJ S w' T a (¬(jP s p left l=[]/\∃P,Ends s p left l P)))/\mP S cb w'/\Fr (jc S cb) w w'):=by
 have hM:=QD (jc S cb);obtain⟨R,M⟩:∃R,R=jP s p left l:=⟨_,rfl⟩;rw[<-M];have y:au _:=M;clear M;obtain⟨E,N⟩:∃E:Pt->Prop,E=Ends s p left l:=⟨_,rfl⟩;rw[<-N];have A:au (∀P,Ends s p left l P↔E P):=(fun P=>by rw[N]:∀P,_);clear N;go_enter func199,ntmps199
 go_wp2_with fail
 go_loopg [3] (s.size-p+1) (fun gk _ wr=> ∃P1:Pt,s.size-P1.p<gk/\((P1.name=fD/\R=jP s P1.p P1.left P1.l/\∀P,Ends s P1.p P1.left P1.l P↔E P)\/(P1.name≠fD/\R=[]/\E P1))/\CR S cb s wr P1.p P1.name P1.left P1.l/\Fr (jc S cb) w wr)
 case atStart=>exact⟨⟨p,fD,left,l⟩,by dsimp only;omega,.inl ⟨rfl,y.out,A.out⟩,h,Fr.refl _ _⟩
 case round=>
  clear y A;obtain⟨⟨b,d,c,g⟩,hg,j,t,hF⟩:=hrel;dsimp only at hg j t;have u:wr.heap[i]?=some (OT cb kM):=(hF.block i (ak hJ) (fun e=>e.elim hj L)).trans hJ;have c0:wr.cell? ⟨i,0,none⟩=some (.pointer (some ⟨cb,0,none⟩)):=by simpa using(cell_of u 0).1
  have c1:wr.cell? ⟨i,1,none⟩=some (.string fD):=by simpa using(cell_of u 1).1
  have c2:wr.cell? ⟨i,2,none⟩=some kM:=by simpa using(cell_of u 2).1
  have a0:=t.lf;have f:∀n,CR S cb s (wr.drewN n) b d c g:=fun n=>t.grow (fun _ _=>rfl);have I:=fun n=>xO S cb s (wr.drewN n) b c d g (f n);rcases j with⟨J,o,q⟩|⟨J,o,q⟩;rotate_left
  ·have a5:(d.toList==fD.toList)=false:=by
    rw[aI];intro e;rw[dP,dP]at e;exact J (gK (Array.toList_inj.1 e))
   have B:au (R=[]/\E ⟨b,d,c,g⟩):=⟨o,q⟩;clear o q J c2;go_wp2_with fail
   go_quiet ((go_at_call 60;exact iP (I _)))
   go_wp2_with fail
   go_ret;exact .inl ⟨_,B.out,rfl,f _,hF.drewN _⟩
  ·subst J;have y:au _:=o;have K:au _:=q;clear o q;have O:=fun n=>tq S cb s (wr.drewN n) b c fD g (f n);cases c with
   |succ m=>
    have HN:au (¬(R=[]/\∃P,E P)):=(fun⟨h1,P,h2⟩=>by
     have hf:=((K.out P).2 h2).first.1
     have hp:b<s.size:=by have:=hf.1;omega
     rw[y.out,Fb s b m g hp]at h1;exact absurd h1 (by simp):¬_)
    clear c2;go_wp2_with fail
    go_quiet ((go_at_call 60;exact iP (I _)))
    go_wp2_with fail
    refine(O _).mono ?_;rintro e wz ⟨rfl,rfl⟩;go_wp2_with fail
    refine(cZ _ _).mono ?_;rintro e w3 ⟨rfl,rfl⟩;go_wp2_with fail
    go_ret;exact .inr ⟨⟨_,_,rfl,dJ.uh HN.out⟩,(f _).e.grow (fun k hk=>ai _ _ k hk),(hF.drewN _).alloc _⟩
   |zero=>
    have hN:=fun w' Q=>QG S cb 67 #[] (.inl rfl) je _ hM s w' b 0 fD g Q trivial;simp only[Nat.add_zero]at hN;unfold kM at c2;go_wp2_with fail
    go_quiet ((go_at_call 60;exact iP (I _)))
    go_wp2_with fail
    refine(O _).mono ?_;rintro e wz ⟨rfl,rfl⟩;have U:=f nq;have C:=hF.drewN nq;have d0:(wr.drewN nq).cell? ⟨i,0,none⟩=some (.pointer (some ⟨cb,0,none⟩)):=c0;have d2:(wr.drewN nq).cell? ⟨i,2,none⟩=some (.func (.func 67) #[] #[]):=c2;clear c0 c1 c2 I O f t u hF;generalize wr.drewN nq=wq at*;go_upto_region 4 with fail
    go_cut [3] (fun v3 wx=> ∃v:ay,v3=v/\(((jw s b 0 g/\lC je s (b+4))/\v= .nilIface/\CR S cb s wx (b+4+8) (fG s (b+4+4) 4) (bz s (b+4)) (cut s (b+4+4) 4)/\Fr (jc S cb) wq wx)\/
     ((∃T a,v= .iface T (.pointer (some a))/\dJ S wx T a (¬(jw s b 0 g/\lC je s (b+4))))/\mP S cb wx/\Fr (jc S cb) wq wx)))
    case first=>
     go_region_with ((go_at_call 72;refine(hN _ (by exact U.grow (fun _ _=>rfl))).mono ?_;rintro e w3 ⟨v,rfl,V⟩))
     all_goals
      go_wp2_with fail
      go_meet
      case rel=>
       refine⟨v,rfl,?_⟩;rcases V with⟨W,X,x,D⟩|⟨W,X,x⟩
       ·exact .inl ⟨W,X,x,⟨D.os,D.tape,D.output,D.size,D.block⟩⟩
       ·exact .inr ⟨W,X,⟨x.os,x.tape,x.output,x.size,x.block⟩⟩
    case rest=>
     obtain⟨v,rfl,V⟩:=hcut;rcases V with⟨r,rfl,Y,Z⟩|⟨⟨T,a,rfl,r⟩,Y,Z⟩
     ·have hle:b+4+8<=s.size:=by have:=r.2.2.1;omega
      have G:au ((fG s (b+4+4) 4=fD/\R=jP s (b+4+8) (bz s (b+4)) (cut s (b+4+4) 4)/\∀P,Ends s (b+4+8) (bz s (b+4)) (cut s (b+4+4) 4) P↔E P)\/(fG s (b+4+4) 4≠fD/\R=[]/\E ⟨b+4+8,fG s (b+4+4) 4,bz s (b+4),cut s (b+4+4) 4⟩)):=(by
       by_cases H:fG s (b+4+4) 4=fD
       ·have z:nG s b 0 g:=(vH s b 0 g).2 ⟨r.1,r.2,H⟩;exact .inl ⟨H,by rw[y.out,tu z,dZ];rfl,fun P=>(IW z P).trans (K.out P)⟩
       ·have z:¬nG s b 0 g:=fun z=>H ((vH s b 0 g).1 z).2.2;exact .inr ⟨H,by rw[y.out,nZ z,dZ],(K.out _).1 (Ends.stop (left:=0) r.1 r.2 H)⟩:_\/_)
      clear r d0 d2;go_wp2_with fail
      go_roundg (s.size-(b+4+8)+1)
      case measure=>omega
      case rel=>exact⟨⟨_,_,_,_⟩,by dsimp only;omega,G.out,Y,C.trans Z⟩
     ·have HW:dJ S wc T a (¬(R=[]/\∃P,E P)):=r.imp (fun r ⟨_,P,hP⟩=>r ((K.out P).2 hP).first);clear r d0 d2;go_wp2_with fail
      go_ret;exact .inr ⟨⟨T,a,rfl,HW⟩,Y,C.trans Z⟩
theorem Vo(S:Src)(cb m:Nat)(s:ByteArray)(eb lb:bG)(E:Pt->Prop)(hS:S.Ok)(B:S.base<=cb)(y:¬S.F m)(n:m≠cb):
 (SN S cb m kM s eb lb E).acp 199 (fun _=> ∃P,E P) (fun w=> ∃P,E P/\CR S cb s w P.p P.name P.left P.l) where
 adt:=fun v w=>by kernel_rfl
 body:=fun args w=>pq func199 (by kernel_rfl) (by kernel_rfl) args w
 ok:=fun w d ⟨a,b,p,left,l,c,hd,f,g⟩ o=>by
  have h:∀w',Fr (jc S cb) w w'->w'.heap[m]?=some (OT cb kM)/\ja w' eb S.fb lb S.base:=fun w' u=>⟨(u.block m (ak a) (fun e=>e.elim y n)).trans a,b.over (fun k q=>u.block k (by have:=c.e.lt.2;omega) (fun e=>by
   rcases e with e|e
   ·have:=hS.low k e;omega
   ·omega))⟩
  have h0:jP s p left l=[]:=by rw[<-f];exact fU (by simp)
  refine(DF S cb m s w p left l c a y n).mono ?_;rintro e w' (⟨P,⟨j,z⟩,rfl,r,i⟩|⟨⟨T,A,rfl,j⟩,r,i⟩)
  ·exact .inl ⟨rfl,⟨P,(g P).1 z,r⟩,⟨(h w' i).1,(h w' i).2,r.e⟩,i.mono (fun k q=> .inl q)⟩
  ·rcases j with⟨_,j⟩|⟨j,C⟩
   ·obtain⟨P,D⟩:=o;exact absurd ⟨h0,P,(g P).2 D⟩ j
   ·exact .inr ⟨T,A,rfl,j,C,⟨(h w' i).1,(h w' i).2,r⟩,i.mono (fun k q=> .inl q)⟩
 dV:=fun w d t ⟨a,b,p,left,l,c,hd,f,g⟩ x=>by
  have h:∀w',Fr (jc S cb) w w'->w'.heap[m]?=some (OT cb kM)/\ja w' eb S.fb lb S.base:=fun w' u=>⟨(u.block m (ak a) (fun e=>e.elim y n)).trans a,b.over (fun k q=>u.block k (by have:=c.e.lt.2;omega) (fun e=>by
   rcases e with e|e
   ·have:=hS.low k e;omega
   ·omega))⟩
  refine(DF S cb m s w p left l c a y n).mono ?_;rintro e w' (⟨P,⟨j,z⟩,rfl,r,i⟩|⟨⟨T,A,rfl,j⟩,r,i⟩)
  ·exfalso;rw[j]at f;have h1:d.data.toList.length<=t:=List.drop_eq_nil_iff.1 f;have h2:d.data.toList.length=d.size:=by simp
   rcases x with hb|⟨_,hb⟩
   ·omega
   ·exact hb ⟨P,(g P).1 z⟩
  ·exact⟨T,A,rfl,Or.imp (fun g=>⟨g.1,trivial⟩) id j,⟨(h w' i).1,(h w' i).2,r⟩,i.mono (fun k q=> .inl q)⟩
end Pr
namespace Pr
open Go.RowKit Rf Cr
open gI (cut fK dZ gy gW h_ bQ gQ fO dw bz gu)
def FP(S:Src)(b:Prop):Prop:=∀(w:af) (s:ByteArray) (t:Nat),S.K w s t->t<=s.size->
 aH prog 100 #[.iface S.T (.pointer (some S.a))] w fun e w'=>
  ((t=s.size/\b)/\e= .returned .nilIface/\S.KE w'/\Fr S.F w w')\/
  ((∃T a,e= .returned (.iface T (.pointer (some a)))/\dJ S w' T a (t<s.size))/\S.KE w'/\Fr S.F w w')
theorem Ky(S:Src)(m:Prop)(f:FP S m)(cb:Nat)(s:ByteArray)(w:af)(p left:Nat)(name:ByteArray)(l:List UInt8)(h:CR S cb s w p name left l):
 aH prog 76 #[.pointer (some ⟨cb,0,none⟩)] w fun e w'=>
  ((p=s.size/\m)/\e= .returned .nilIface/\mP S cb w'/\Fr (jc S cb) w w')\/
  ((∃T a,e= .returned (.iface T (.pointer (some a)))/\dJ S w' T a (p<s.size))/\mP S cb w'/\Fr (jc S cb) w w'):=by
 obtain⟨num,c0,c1,c2,c3,c4,o,b⟩:=h.cells;clear c1 c2 c3 c4 o b;have n:=f w s p h.k h.le;go_enter func76,ntmps76
 go_wp2_with fail
 refine n.mono ?_;clear n;rintro e w1 (⟨d,rfl,g,c⟩|⟨⟨T,a,rfl,d⟩,g,c⟩)
 ·have i:=h.MF g c;have q:au _:=d;clear d c0;go_wp2_with fail
  go_ret;exact .inl ⟨q.out,rfl,i,c.mono (fun k j=> .inl j)⟩
 ·have i:=h.MF g c;clear c0;go_wp2_with fail
  go_ret;exact .inr ⟨⟨T,a,rfl,d⟩,i,c.mono (fun k j=> .inl j)⟩
inductive Rest(s:ByteArray):Pt->Prop
 |last {p:Nat} {l:List UInt8}:jw s p 0 l->p+4=s.size->Rest s ⟨p,nM,0,l⟩
 |more {p left:Nat} {name:ByteArray} {l:List UInt8}:name≠nM->jw s p left l->lC j_ s (p+left+4)->Rest s ⟨p+left+4+8,fG s (p+left+4+4) 4,bz s (p+left+4),cut s (p+left+4+4) 4⟩->Rest s ⟨p,name,left,l⟩
theorem sF{x y:ByteArray}(h:x≠y):(x.toList==y.toList)=false:=by rw[aI];intro e;rw[dP,dP]at e;exact h (gK (Array.toList_inj.1 e))
theorem Ac:nM.toList=[73,69,78,68]:=by rw[dP];rfl
theorem Kz(S:Src)(F:Prop)(I:FP S F)(cb:Nat)(s:ByteArray)(w:af)(p left:Nat)(name:ByteArray)(l:List UInt8)(h:CR S cb s w p name left l):
 aH prog 46 #[.pointer (some ⟨cb,0,none⟩)] w fun e w'=>
  ((Rest s ⟨p,name,left,l⟩/\F)/\e= .returned .nilIface/\mP S cb w'/\Fr (jc S cb) w w')\/
  ((∃T a,e= .returned (.iface T (.pointer (some a)))/\dJ S w' T a (¬Rest s ⟨p,name,left,l⟩))/\mP S cb w'/\Fr (jc S cb) w w'):=by
 have W:=YL (jc S cb);obtain⟨Q,J⟩:∃Q:Prop,Q=Rest s ⟨p,name,left,l⟩:=⟨_,rfl⟩;rw[<-J];have z:au (Q↔Rest s ⟨p,name,left,l⟩):=(by rw[J]:_↔_);clear J;go_enter func46,ntmps46
 go_wp2_with fail
 go_loopg [3] (s.size-p+1) (fun gk _ wr=> ∃P1:Pt,s.size-P1.p<gk/\(Q↔Rest s P1)/\CR S cb s wr P1.p P1.name P1.left P1.l/\Fr (jc S cb) w wr)
 case atStart=>exact⟨⟨p,name,left,l⟩,by dsimp only;omega,z.out,h,Fr.refl _ _⟩
 case round=>
  clear z;obtain⟨⟨q,g,f,A⟩,X,o,n,hF⟩:=hrel;dsimp only at X n;have v:au _:=o;clear o;have Y:=n.lf;have G:=xO S cb s wr q f g A n;by_cases H:g=nM
  ·subst H;have R:=tq S cb s wr q f nM A n;have K:(nM.toList !=[73,69,78,68])=false:=by rw[Ac];rfl
   have B:nM.toList=[73,69,78,68]:=Ac;go_wp2_with fail
   refine G.mono ?_;rintro e U ⟨rfl,i⟩;have i:=i.symm;subst i;clear G;go_wp2_with fail
   refine R.mono ?_;rintro e U ⟨rfl,i⟩;have i:=i.symm;subst i;clear R;cases f with
   |succ m=>
    have Z:au (¬Q):=(fun o=>by
     have:=v.out.1 o;cases this with
     |more a b c d=>exact a rfl:¬_)
    go_wp2_with fail
    refine(cZ _ _).mono ?_;rintro e w3 ⟨rfl,rfl⟩;go_wp2_with fail
    go_ret;exact .inr ⟨⟨_,_,rfl,dJ.uh Z.out⟩,n.e.grow (fun k hk=>ai _ _ k hk),hF.alloc _⟩
   |zero=>
    have C:=wO S cb s wr q 0 nM A n;go_wp2_with fail
    refine C.mono ?_;clear C;rintro e w2 (⟨j,rfl,t,u⟩|⟨⟨T,a,rfl,j⟩,t,u⟩);rotate_left
    ·have D:dJ S w2 T a (¬Q):=j.imp (fun j o=>by
      have:=v.out.1 o;cases this with
      |last b c=>exact j b
      |more a b c d=>exact a rfl)
     clear j;go_wp2_with fail
     go_ret;exact .inr ⟨⟨T,a,rfl,D⟩,t,hF.trans u⟩
    have L:au (jw s q 0 A):=j;clear j;rw[cO]at t;have E:=Ky S F I cb s w2 _ _ _ _ t;go_wp2_with fail
    refine E.mono ?_;clear E;rintro e w3 (⟨x,rfl,M,N⟩|⟨⟨T,a,rfl,x⟩,M,N⟩)
    ·have O:au (Q/\F):=(⟨v.out.2 (.last L.out x.1),x.2⟩:_/\_);clear x;go_wp2_with fail
     go_ret;exact .inl ⟨O.out,rfl,M,(hF.trans u).trans N⟩
    ·have D:dJ S w3 T a (¬Q):=x.imp (fun x o=>by
      have:=v.out.1 o;cases this with
      |last b c=>omega
      |more a b c d=>exact a rfl)
     clear x;go_wp2_with fail
     go_ret;exact .inr ⟨⟨T,a,rfl,D⟩,M,(hF.trans u).trans N⟩
  ·have r:=sF H;rw[Ac]at r;have K:(g.toList !=[73,69,78,68])=true:=by unfold bne;rw[r];rfl
   have B:¬g.toList=[73,69,78,68]:=by simpa using r
   have V:=zY S cb 73 #[] (.inl rfl) j_ _ W s wr q f g A n trivial;have y:au (g≠nM):=H;clear H;go_wp2_with fail
   refine G.mono ?_;rintro e U ⟨rfl,i⟩;have i:=i.symm;subst i;clear G;go_wp2_with fail
   refine V.mono ?_;clear V;rintro e w2 (⟨j,rfl,t,u⟩|⟨⟨T,a,rfl,j⟩,t,u⟩)
   ·have hle:q+f+4+8<=s.size:=by have:=j.2.2.1;omega
    have P:au (Q↔Rest s ⟨q+f+4+8,fG s (q+f+4+4) 4,bz s (q+f+4),cut s (q+f+4+4) 4⟩):=(⟨fun o=>by
     have:=v.out.1 o;cases this with
     |last b c=>exact absurd rfl y.out
     |more a b c d=>exact d,fun hr=>v.out.2 (.more y.out j.1 j.2 hr)⟩:_↔_)
    clear j;go_wp2_with fail
    go_roundg (s.size-(q+f+4+8)+1)
    case measure=>omega
    case rel=>exact⟨⟨_,_,_,_⟩,by dsimp only;omega,P.out,t,hF.trans u⟩
   ·have D:dJ S w2 T a (¬Q):=j.imp (fun j o=>by
     have:=v.out.1 o;cases this with
     |last b c=>exact y.out rfl
     |more a b c d=>exact j ⟨b,c⟩)
    clear j;go_wp2_with fail
    go_ret;exact .inr ⟨⟨T,a,rfl,D⟩,t,hF.trans u⟩
theorem KA(D:Ce)(d:ByteArray)(h:xK D d):FP (uD D d) (d=D.b/\∃k,nY D.L d.size=some k):=fun w s t hK i=>by
 have e:s=d:=hK.1;subst e;refine(PW D s h w t hK i).mono ?_;rintro e w' (⟨⟨a,b,c⟩,f,g,j⟩|⟨l,f,g⟩)
 ·subst a;exact .inl ⟨⟨rfl,b,c⟩,f,g,j⟩
 ·exact .inr ⟨l,f,g⟩
end Pr
namespace gI
open Go.RowKit Rf Cr
def lets(s:ByteArray)(p:Nat):Prop:=∀i,i<4->dw (aF s (p+4+i)) i=true
def Bv(s:ByteArray)(p:Nat):Prop:=bz s (p+8+bz s p)=gQ (cut s (p+4) (bz s p+4))
def rC(s:ByteArray)(p:Nat):Prop:=p+12<=s.size/\bz s p<=2147483647/\p+12+bz s p<=s.size/\lets s p/\Bv s p
end gI
namespace Pr
open Go.RowKit Rf Cr
open gI (cut bz rC Oh)
structure PS where
 pos:Nat
 jQ:Nat
 pl:ByteArray
 tr:ByteArray
 pb:Bool
 tb:Bool
 da:ByteArray
def plD(K D:Nat)(x:PS)(n:Nat):Prop:=x.jQ=0/\x.pb=false/\x.tb=false/\K≠0/\K≠4/\n%3=0/\1<=n/3/\n/3<=256/\(K=3->n/3<=pw D)
def trD(K D:Nat)(x:PS)(d:ByteArray):Prop:=(K=3/\x.pb=true/\1<=d.size/\d.size<=x.pl.size/3)\/((K=0\/K=2)/\Oh d D K)
def VM(s:ByteArray)(p:Nat):Nat:=p+8+bz s p+4
inductive Ia(s:ByteArray)(K D:Nat):PS->PS->Prop
 |done {x:PS}:rC s x.pos->fG s (x.pos+4) 4=nM->1<=x.jQ->bz s x.pos=0->x.pos+8+4=s.size->Ia s K D x x
 |VF {x y:PS}:rC s x.pos->fG s (x.pos+4) 4=fD->x.jQ<=1->(K=3->x.pb=true)->Ia s K D ⟨VM s x.pos,1,x.pl,x.tr,x.pb,x.tb,x.da++fG s (x.pos+8) (bz s x.pos)⟩ y->Ia s K D x y
 |VN {x y:PS}:rC s x.pos->fG s (x.pos+4) 4=rD->plD K D x (bz s x.pos)->Ia s K D ⟨VM s x.pos,x.jQ,fG s (x.pos+8) (bz s x.pos),x.tr,true,x.tb,x.da⟩ y->Ia s K D x y
 |VO {x y:PS}:rC s x.pos->fG s (x.pos+4) 4=uI->x.jQ=0->x.tb=false->trD K D x (fG s (x.pos+8) (bz s x.pos))->Ia s K D ⟨VM s x.pos,x.jQ,x.pl,fG s (x.pos+8) (bz s x.pos),x.pb,true,x.da⟩ y->Ia s K D x y
 |other {x y:PS}:rC s x.pos->fG s (x.pos+4) 4≠nM->fG s (x.pos+4) 4≠fD->fG s (x.pos+4) 4≠rD->fG s (x.pos+4) 4≠uI->97<=aF s (x.pos+4)->
   Ia s K D ⟨VM s x.pos,if x.jQ=1 then 2 else x.jQ,x.pl,x.tr,x.pb,x.tb,x.da⟩ y->Ia s K D x y
end Pr
namespace gI
open Go.RowKit Rf
open Pr (VK)
end gI
namespace Rf
theorem ZN(L:List Int)(i:Nat):∀m k,(∀j,j<i->k+j<L.length/\L.getD (k+j) 0=0)->qA L (m+i) k=qA L m (k+i):=by
 induction i with
 |zero=>intro m k _;rfl
 |succ i a=>intro m k h;obtain⟨h1,h2⟩:=h 0 (by omega);rw[cO]at h1 h2;rw[show m+(i+1)=(m+i)+1 by omega,qA,ax (by omega),h2,ax (by omega),aG rfl,a m (k+1) (fun j b=>by have:=h (j+1) (by omega);rw[show k+(j+1)=k+1+j by omega]at this;exact this),show k+1+i=k+(i+1)by omega]
theorem abX(L:List Int)(i k:Nat)(hi:i<=100)(h:∀j,j<i->k+j<L.length/\L.getD (k+j) 0=0):qA L 101 k=qA L (100-i+1) (k+i):=by have:=ZN L i (100-i+1) k h;rw[show 100-i+1+i=101 by omega]at this;exact this
def acA(L:List Int):Prop:=∀k,∃a,qA L 101 k=some a
theorem Rt{L:List Int}(h:acA L)(t:Nat):∃k,nY L t=some k:=by
 induction t with
 |zero=>exact⟨0,rfl⟩
 |succ t a=>obtain⟨k,b⟩:=a;rw[nY,b];exact h k
structure ZO(L:List Int)(e:Nat):Prop where
 zn:e<=100
 run:∀k,k<=L.length->∃i,i<=100/\(∀j,j<i->k+j<L.length/\L.getD (k+j) 0=0)/\((k+i=L.length/\i<=e)\/(k+i<L.length/\0<L.getD (k+i) 0))
theorem ZO.nil:ZO [] 0:=⟨by omega,fun k a=>⟨0,by omega,fun j b=>by omega,.inl ⟨by simp at a;simp[a],ah _⟩⟩⟩
theorem aei(L:List Int)(n:Int)(j:Nat):(L++[n]).getD j 0=if j<L.length then L.getD j 0 else if j=L.length then n else 0:=by
 simp only[List.getD_eq_getElem?_getD];by_cases h:j<L.length
 ·rw[aG h,dI h]
 ·rw[ax h,fC (by omega)];by_cases h2:j=L.length
  ·rw[aG h2,h2];simp
  ·rw[ax h2,dD (by simp;omega)];rfl
theorem ZO.more{L:List Int}{e:Nat}(h:ZO L e){n:Int}(d:0<n):ZO (L++[n]) 0:=by
 refine⟨by omega,fun k f=> ?_⟩;rw[aK,lq]at f|-;by_cases g:k<=L.length
 ·obtain⟨i,h1,h2,l⟩:=h.run k g;refine⟨i,h1,fun j c=> ?_,.inr ?_⟩
  ·obtain⟨a,b⟩:=h2 j c;exact⟨by omega,by rw[aei,aG a];exact b⟩
  ·rcases l with⟨a,b⟩|⟨a,b⟩
   ·exact⟨by omega,by rw[aei,ax (by omega),aG a];exact d⟩
   ·exact⟨by omega,by rw[aei,aG a];exact b⟩
 ·exact⟨0,by omega,fun j c=>by omega,.inl ⟨by omega,ah _⟩⟩
theorem ZO.zero{L:List Int}{e:Nat}(h:ZO L e)(he:e+1<=100):ZO (L++[0]) (e+1):=by
 refine⟨he,fun k g=> ?_⟩;rw[aK,lq]at g|-;by_cases l:k<=L.length
 ·obtain⟨i,h1,h2,m⟩:=h.run k l;rcases m with⟨a,b⟩|⟨a,b⟩
  ·refine⟨i+1,by omega,fun j f=> ?_,.inl ⟨by omega,by omega⟩⟩;rcases(by omega:j<i\/j=i)with f|rfl
   ·obtain⟨c,d⟩:=h2 j f;exact⟨by omega,by rw[aei,aG c];exact d⟩
   ·exact⟨by omega,by rw[aei,ax (by omega),aG a]⟩
  ·refine⟨i,h1,fun j f=> ?_,.inr ⟨by omega,by rw[aei,aG a];exact b⟩⟩;obtain⟨c,d⟩:=h2 j f;exact⟨by omega,by rw[aei,aG c];exact d⟩
 ·exact⟨0,by omega,fun j f=>by omega,.inl ⟨by omega,by omega⟩⟩
theorem ZO.adS{L:List Int}{e:Nat}(h:ZO L e):acA L:=by
 intro k;by_cases c:k<=L.length
 ·obtain⟨i,h1,h2,d⟩:=h.run k c;rw[abX L i k h1 h2,qA];rcases d with⟨a,b⟩|⟨a,b⟩
  ·exact⟨_,aG (by omega)⟩
  ·rw[ax (by omega),ax (by omega),ax (by omega)];exact⟨_,rfl⟩
 ·exact⟨k,by rw[show(101:Nat)=100+1 from rfl,qA,aG (by omega)]⟩
structure Far(L:List Int)(i e sure:Nat):Prop where
 le:e<=i
 zn:e<=100
 pos:nY L sure=some (i-e)
 run:∀j,i-e<=j->j<i->L.getD j 0=0
theorem Far.start(L:List Int):Far L 0 0 0:=⟨by omega,by omega,rfl,fun j _ h=>by omega⟩
theorem Far.ask{L:List Int}{i e sure:Nat}(h:Far L i e sure)(hi:i<L.length):nY L (sure+1)=qA L (100-e+1) i:=by rw[nY,h.pos];show qA L 101 (i-e)=_;have a:=h.le;rw[abX L e (i-e) h.zn (fun j b=>⟨by omega,h.run _ (by omega) (by omega)⟩),show i-e+e=i by omega]
theorem Far.more{L:List Int}{i e sure:Nat}(h:Far L i e sure)(hi:i<L.length)(c:0<L.getD i 0):Far L (i+1) 0 (sure+1):=by refine⟨by omega,by omega,?_,fun j a b=>by omega⟩;rw[h.ask hi,qA,ax (by omega),ax (by omega),ax (by omega)];rfl
theorem Far.zero{L:List Int}{i e sure:Nat}(h:Far L i e sure)(hi:i<L.length)(c:L.getD i 0=0)(he:e+1<=100):Far L (i+1) (e+1) sure:=by
 have f:=h.le;refine⟨by omega,he,by rw[h.pos];congr 1;omega,fun j a b=> ?_⟩;rcases(by omega:j<i\/j=i)with d|rfl
 ·exact h.run j (by omega) d
 ·exact c
theorem Far.fail{L:List Int}{i e sure:Nat}(h:Far L i e sure)(hi:i<L.length)(a:L.getD i 0<0):nY L (sure+1)=none:=by rw[h.ask hi,qA,ax (by omega),aG a]
theorem Far.afd{L:List Int}{i e sure:Nat}(h:Far L i e sure)(hi:i<L.length)(a:L.getD i 0=0)(he:100<e+1):nY L (sure+1)=none:=by
 have:=h.zn;obtain rfl:e=100:=by omega
 rw[h.ask hi,qA,ax (by omega),ax (by omega),aG a];rfl
end Rf
open Go.ChangeShapes Go.WideShapes Go.ChangeAt Go.RowKit
theorem OL:prog.cellsOf 3=1:=by kernel_rfl
theorem ug{z:Int}(h:(Lit.int .i64 z).wf=true): -9223372036854775808<=z/\z<=9223372036854775807:=bounds_i64 h
set_option maxRecDepth 100000 in
theorem afa{H:Type}{enc:aW×ay->H}{W:af}{base:Nat}{v:ay}{d:DataW H}{ps:List MemPlace}(b:Value.okWide prog W .any base 22 v)(hd:DataW.Trod enc prog W 0 (fun _=>true) true 22 v d ps):
 ∃(la:Option bG) (n cap:Nat) (L:List Int),v= .slice la n cap/\L.length=n/\(∀i,i<n->∃a:bG,la=some a/\a.block<W.heap.size/\W.cell? (a.add i)=some (.int .i64 (L.getD i 0))/\ -9223372036854775808<=L.getD i 0/\L.getD i 0<=9223372036854775807)/\(n=0\/∃el sp:List (DataW H),d= .slice el sp/\el.length=n):=by
 obtain⟨f,m,c,rfl⟩:=okWide_slice underlying22 b;obtain⟨fuel,o⟩:=hd;have g:DataW.trod enc prog W 0 (fun _=>true) true fuel 22 [.slice f m c]=some (d,ps):=o;rcases open_ints underlying22 underlying3 OL g with⟨h0,h1⟩|⟨a,len,cap,zs,h0,_,h,_,j,p,k,hw⟩
 ·injection h0 with h0 _
  exact⟨none,0,0,[],h0,rfl,fun i hi=>absurd hi (Nat.not_lt_zero _),.inl rfl⟩
 ·injection h0 with h0 _
  have l:len<=zs.length:=by rw[j];simp;exact h
  refine⟨some a,len,cap,zs.take len,h0,by simp;omega,fun i hi=>⟨a,rfl,?_,?_⟩,.inr ⟨_,_,jo Prod.fst p,?_⟩⟩
  ·have:=k 0 (by omega);have h2:=World.block_lt_of_cell? W _ this;rw[Pr.wH]at h2;exact h2
  ·have e:(zs.take len).getD i 0=zs.getD i 0:=by
    simp only[List.getD_eq_getElem?_getD];rw[dh hi]
   rw[e];refine⟨k i (by omega),?_⟩;have hm:zs.getD i 0∈zs:=by rw[ag,aB (show i<zs.length by omega)];exact wo _
   exact ug (hw _ hm)
  ·simp[lits];omega
theorem WB:prog.cellsOf 24=10:=by kernel_rfl
theorem aas:prog.cellsOf 22=1:=by kernel_rfl
theorem WC:prog.cellsOf 4=1:=by kernel_rfl
set_option maxRecDepth 100000 in
theorem ints_at{H:Type}{enc:aW×ay->H}{W:af}{k:Nat}{v:ay}{d:DataW H}{ps:List MemPlace}(h:DataW.trod enc prog W 0 (fun _=>true) true k 22 [v]=some (d,ps)):
 ∃(la:Option bG) (n cap:Nat) (L:List Int),v= .slice la n cap/\L.length=n/\(∀i,i<n->∃a:bG,la=some a/\a.block<W.heap.size/\W.cell? (a.add i)=some (.int .i64 (L.getD i 0))/\ -9223372036854775808<=L.getD i 0/\L.getD i 0<=9223372036854775807)/\(n=0\/∃el sp:List (DataW H),d= .slice el sp/\el.length=n):=by
 rcases open_ints underlying22 underlying3 OL h with⟨h0,h1⟩|⟨a,len,cap,zs,h0,_,b,_,c,j,f,hw⟩
 ·injection h0 with h0 _
  exact⟨none,0,0,[],h0,rfl,fun i hi=>absurd hi (Nat.not_lt_zero _),.inl rfl⟩
 ·injection h0 with h0 _
  have g:len<=zs.length:=by rw[c];simp;exact b
  refine⟨some a,len,cap,zs.take len,h0,by simp;omega,fun i hi=>⟨a,rfl,?_,?_⟩,.inr ⟨_,_,jo Prod.fst j,?_⟩⟩
  ·have:=f 0 (by omega);have h2:=World.block_lt_of_cell? W _ this;rw[Pr.wH]at h2;exact h2
  ·have e:(zs.take len).getD i 0=zs.getD i 0:=by
    simp only[List.getD_eq_getElem?_getD];rw[dh hi]
   rw[e];refine⟨f i (by omega),?_⟩;have hm:zs.getD i 0∈zs:=by rw[ag,aB (show i<zs.length by omega)];exact wo _
   exact ug (hw _ hm)
  ·simp[lits];omega
theorem BL{H:Type}{enc:aW×ay->H}{W:af}{k:Nat}{v:ay}{d:DataW H}{ps:List MemPlace}(b:DataW.trod enc prog W 0 (fun _=>true) true k 22 [v]=some (d,ps))(c:∀n∈d.weights prog 22,n<=reachBytes):∃L:List Int,Pr.gq W W.heap.size v L:=by
 obtain⟨la,n,cap,L,rfl,e,f,hd⟩:=ints_at b;refine⟨L,la,cap,by rw[e],?_,fun i hi=>f i (by omega)⟩;rcases hd with h|⟨el,sp,rfl,a⟩
 ·omega
 ·have h1:=c ((el.length+sp.length)*prog.bytesOf 3) (by simp[DataW.weights,underlying22]);have h2:prog.bytesOf 3=8:=by kernel_rfl
  rw[h2,a]at h1;have g:reachBytes=140737488351232:=rfl;omega
set_option maxRecDepth 100000 in
theorem acg{H:Type}{enc:aW×ay->H}{W:af}{base:Nat}{v:ay}{d:DataW H}{ps:List MemPlace}(g:Value.okWide prog W .any base 24 v)(hd:DataW.Trod enc prog W 0 (fun _=>true) true 24 v d ps)(J:∀n∈d.weights prog 24,n<=reachBytes):
 ∃(a b c z:Int) (I T:Bool) (ev t fv pv:ay) (E S F P:List Int),v= .agg #[.int .i64 a,.int .i64 b,.int .i64 c,.bool I,ev,.bool T,t,fv,pv,.int .i64 z]/\Pr.gq W W.heap.size ev E/\Pr.gq W W.heap.size t S/\Pr.gq W W.heap.size fv F/\Pr.gq W W.heap.size pv P/\(-9223372036854775808<=a/\a<=9223372036854775807)/\(-9223372036854775808<=b/\b<=9223372036854775807)/\(-9223372036854775808<=c/\c<=9223372036854775807)/\(-9223372036854775808<=z/\z<=9223372036854775807):=by
 obtain⟨cs,rfl,K⟩:=okWide_struct underlying24 g;obtain⟨fuel,L⟩:=hd;have h:DataW.trod enc prog W 0 (fun _=>true) true fuel 24 cs.toList=some (d,ps):=L;obtain⟨xs,k,_,M,u,i,e⟩:=DataW.trod_struct underlying24 h;rw[WB]at u;obtain⟨cl⟩:=cs;match xs,i,cl,u with
 | [N,O,Q,R,U,V,X,Y,Z,y9],_,[v0,v1,v2,v3,v4,v5,v6,v7,v8,v9],_=>
   have w:=e 0 _ rfl;have x:=e 1 _ rfl;have y:=e 2 _ rfl;have A:=e 3 _ rfl;have B:=e 4 _ rfl;have C:=e 5 _ rfl;have D:=e 6 _ rfl;have g7:=e 7 _ rfl;have g8:=e 8 _ rfl;have G:=e 9 _ rfl;simp[OL,aas,WC]at w x y A B C D g7 g8 G;injection M with l a0
   subst l;have hw:∀n∈DataW.weightsEach prog [3,3,3,4,22,4,22,22,22,3] [N.1,O.1,Q.1,R.1,U.1,V.1,X.1,Y.1,Z.1,y9.1],n<=reachBytes:=fun n f=>J n (by simpa [DataW.weights,underlying24]using f);obtain⟨a,m,_,w0⟩:=DataW.trod_int underlying3 w;obtain⟨b,o,_,w1⟩:=DataW.trod_int underlying3 x;obtain⟨c,p,_,w2⟩:=DataW.trod_int underlying3 y;obtain⟨z,q,_,w9⟩:=DataW.trod_int underlying3 G;obtain⟨I,r,_⟩:=DataW.trod_bool underlying4 A;obtain⟨T,s,_⟩:=DataW.trod_bool underlying4 C;injection m with m _
   injection o with o _
   injection p with p _
   injection r with r _
   injection s with s _
   injection q with q _
   subst m;subst o;subst p;subst r;subst s;subst q;obtain⟨E,hE⟩:=BL B (fun n f=>hw n (DataW.weights_mem_each (j:=4) rfl rfl n f));obtain⟨S,hS⟩:=BL D (fun n f=>hw n (DataW.weights_mem_each (j:=6) rfl rfl n f));obtain⟨F,hF⟩:=BL g7 (fun n f=>hw n (DataW.weights_mem_each (j:=7) rfl rfl n f));obtain⟨P,hP⟩:=BL g8 (fun n f=>hw n (DataW.weights_mem_each (j:=8) rfl rfl n f));exact⟨a,b,c,z,I,T,v4,v6,v7,v8,E,S,F,P,rfl,hE,hS,hF,hP,ug w0,ug w1,ug w2,ug w9⟩
end Go.Proofs.YtephkcdbnogdhabGreatDoor
