import Derived.Test.YtephkcdbnogdhaaGreatDoorM14
import Derived.Test.YtephkcdbnogdhaaGreatDoorM16
set_option linter.unusedVariables false
set_option maxHeartbeats 40000000
set_option maxRecDepth 10000
namespace Go.Proofs.YtephkcdbnogdhaaGreatDoor
open Go.Proofs.Tryz
open Go renaming World->af,Value->ay,Calls->aF,Addr->bP
open Go.RowKit renaming Hid->ah,Below->aJ,intOf->aX
namespace h_
open Go.RowKit Rf Cr
def lets(s:ByteArray)(p:Nat):Prop:=∀i,i<4->dF (aA s (p+4+i)) i=true
def yS(s:ByteArray)(p:Nat):Prop:=aT s (p+8+aT s p)=jo (cut s (p+4) (aT s p+4))
theorem VE(s:ByteArray)(i j k:Nat)(h:i+k<j)(b:j<=s.size):aA (s.extract i j) k=aA s (i+k):=by
 have a:k<(s.extract i j).size:=by simp;omega
 rw[dL _ _ a,dL s (i+k) (by omega)];simp[ByteArray.getElem_eq_getElem_data,ByteArray.data_extract]
theorem MX(s:ByteArray)(i n:Nat):s.extract i (i+n)=Pr.dQ s i n:=by have e:=yP s i (i+n);rw[show i+n-i=n by omega]at e;unfold Pr.dQ;rw[<-e]
theorem Xw(s:ByteArray)(p:Nat)(w:af)(hs:s.size<=140737488354000)(h:p+12<=s.size)(a5:aT s p<=2147483647)(a6:p+12+aT s p<=s.size):
 aF prog 51 #[.string s,.int .i64 (p:Int)] w fun e w'=>((MR e/\¬(lets s p/\yS s p))\/((lets s p/\yS s p)/\e= .returned (.tuple #[.agg #[.string (Pr.dQ s (p+4) 4),.string (Pr.dQ s (p+8) (aT s p))],.int .i64 ((p+12+aT s p:Nat):Int),.bool true])))/\aJ w.heap.size w w':=by
 obtain⟨Q,X⟩:∃Q:Prop,Q=(lets s p/\yS s p):=⟨_,rfl⟩;rw[<-X];have z:ah (Q↔lets s p/\yS s p):=(by rw[X]:_↔_);clear X;have hi:¬((s.size:Int)<(p:Int)+12):=by omega
 have hF:=fun w'=>yH (s.extract p s.size) w' (by simp;omega);rw[su]at hF;have q:ah (∀i,i<4->aA (s.extract (p+4) (p+8)) i=aA s (p+4+i)):=(fun i hi=>VE s _ _ i (by omega) (by omega):∀i,_);have Y:ah (∀w',aF prog 90 #[.string (s.extract (p+8+aT s p) s.size)] w' fun e Z=>e= .returned (.int .i64 (aT s (p+8+aT s p):Int))/\∃nq,Z=w'.drewN nq):=(fun w'=>by have:=yH (s.extract (p+8+aT s p) s.size) w' (by simp;omega);rw[su]at this;exact this:∀w',_);have et:=MX s (p+4) 4;have ed:=MX s (p+8) (aT s p);rw[<-et,<-ed];rw[show p+4+4=p+8 by omega];have C:ah (yS s p↔aT s (p+8+aT s p)=jo (cut s (p+4) (aT s p+4))):=(Iff.rfl:_↔_);have ql:p<=s.size:=by omega
 generalize a0:aT s p=n at*;have HF:ah _:=hF;clear hF et ed a0;have a7:¬((2147483647:Int)<(n:Int)):=by omega
 go_enter func51,ntmps51
 go_wp2_with fail
 refine bz (HF.out _) ?_;rintro e w1 ⟨rfl,nq,rfl⟩;have b0:(0:Int)<=(p:Int)+4:=by omega
 have b1:(p:Int)+4<=(p:Int)+8:=by omega
 have b2:(p:Int)+8<=(s.size:Int):=by omega
 have b3:(0:Int)<=(p:Int)+8:=by omega
 have b4:(p:Int)+8<=(p:Int)+8+(n:Int):=by omega
 have b5:(p:Int)+8+(n:Int)<=(s.size:Int):=by omega
 have t1:((p:Int)+4).toNat=p+4:=by omega
 have t2:((p:Int)+8).toNat=p+8:=by omega
 have t3:((p:Int)+8+(n:Int)).toNat=p+8+n:=by omega
 have v1:IntKind.i64.wrap ((p:Int)+4)=(p:Int)+4:=by rw[bK];omega
 have v2:IntKind.i64.wrap ((p:Int)+8)=(p:Int)+8:=by rw[bK];omega
 have v3:IntKind.i64.wrap ((p:Int)+8+(n:Int))=(p:Int)+8+(n:Int):=by rw[bK];omega
 go_wp2_with fail
 go_region
 have D:(((w.alloc (.cells #[.string ⟨#[]⟩,.string ⟨#[]⟩] 105)).drewN (nq+1)).alloc (.cells #[.string (s.extract (p+4) (p+8)),.string (s.extract (p+8) (p+8+n))] 105)).heap[w.heap.size]?=some (.cells #[.string ⟨#[]⟩,.string ⟨#[]⟩] 105 (0,0)):=(aj _ _ _ (by simp[World.drewN])).trans (aO w _);have h8:(((w.alloc (.cells #[.string ⟨#[]⟩,.string ⟨#[]⟩] 105)).drewN (nq+1)).alloc (.cells #[.string (s.extract (p+4) (p+8)),.string (s.extract (p+8) (p+8+n))] 105)).heap[w.heap.size+1]?=some (.cells #[.string (s.extract (p+4) (p+8)),.string (s.extract (p+8) (p+8+n))] 105 (0,0)):=by
  have:=aO ((w.alloc (.cells #[.string ⟨#[]⟩,.string ⟨#[]⟩] 105)).drewN (nq+1)) (.cells #[.string (s.extract (p+4) (p+8)),.string (s.extract (p+8) (p+8+n))] 105);have e:((w.alloc (.cells #[.string ⟨#[]⟩,.string ⟨#[]⟩] 105)).drewN (nq+1)).heap.size=w.heap.size+1:=by simp[World.drewN]
  rw[e]at this;exact this
 have A:aJ w.heap.size w (((w.alloc (.cells #[.string ⟨#[]⟩,.string ⟨#[]⟩] 105)).drewN (nq+1)).alloc (.cells #[.string (s.extract (p+4) (p+8)),.string (s.extract (p+8) (p+8+n))] 105)):=(kW.cZ ((aP _ _).alloc (ag _) _)).alloc (by simp[World.drewN]) _;clear v1 v2 v3 hi HF;have a1:(s.extract (p+4) (p+8)).size=4:=by simp;omega
 have E:(s.extract (p+8) (p+8+n)).size=n:=by simp;omega
 have r:ah _:=E;clear E;have m:ah (jo (cut s (p+4) (n+4))=jo ((s.extract (p+4) (p+8)++s.extract (p+8) (p+8+n)).data.toList)):=(by
  have e1:=yP s (p+4) (p+8);have e2:=yP s (p+8) (p+8+n);rw[show p+8-(p+4)=4 by omega]at e1;rw[show p+8+n-(p+8)=n by omega]at e2;have e3:(s.extract (p+4) (p+8)++s.extract (p+8) (p+8+n)).data.toList=(s.extract (p+4) (p+8)).data.toList++(s.extract (p+8) (p+8+n)).data.toList:=by rw[ByteArray.data_append,Array.toList_append]
  rw[e3,e1,e2,show n+4=4+n by omega];congr 1
  have:=iG s (p+4) 4 n;rw[show p+4+4=p+8 by omega]at this;exact this:_=_)
 go_wp2_with fail
 generalize (((w.alloc (.cells #[.string ⟨#[]⟩,.string ⟨#[]⟩] 105)).drewN (nq+1)).alloc (.cells #[.string (s.extract (p+4) (p+8)),.string (s.extract (p+8) (p+8+n))] 105))=w2 at*;obtain⟨ty,c⟩:∃ty,ty=s.extract (p+4) (p+8):=⟨_,rfl⟩;obtain⟨da,d⟩:∃da,da=s.extract (p+8) (p+8+n):=⟨_,rfl⟩;rw[<-c]at h8 a1 m q|-;rw[<-d]at h8 m r|-;have H:ah _:=c;have I:ah _:=d;clear c d;have c0:w2.cell? ⟨w.heap.size+1,0,none⟩=some (.string ty):=by simpa using(Pr.cell_of h8 0).1
 have c1:w2.cell? ⟨w.heap.size+1,1,none⟩=some (.string da):=by simpa using(Pr.cell_of h8 1).1
 have J:w2.cell? ⟨w.heap.size,0,none⟩=some (.string ⟨#[]⟩):=by simpa using(Pr.cell_of D 0).1
 have K:w2.cell? ⟨w.heap.size,1,none⟩=some (.string ⟨#[]⟩):=by simpa using(Pr.cell_of D 1).1
 have f0:=(Pr.cell_of D 0).2;have f1:=(Pr.cell_of D 1).2;have L:ah _:=A;clear A D h8 b0 b1 b2 b3 b4 b5 t1 t2 t3;go_loopw [9] (fun iv wr=> ∃i:Nat,i<=4/\iv= .int .i64 (i:Int)/\(∀j,j<i->dF (aA s (p+4+j)) j=true)/\wr=w2) (fun iv _=>4-(aX iv).toNat)
 case atStart=>exact⟨0,by omega,rfl,fun j M=>absurd M (qw j),rfl⟩
 case round=>
  obtain⟨i,hi,rfl,b,rfl⟩:=hrel;by_cases f:i<4
  ·have N:=q.out i f;have hx:aA s (p+4+i)<256:=fC s _;have a2:i<ty.size:=by omega
   have O:=dL ty i a2;have o:ah _:=b;have P:ah (ty[i].toNat=aA s (p+4+i)):=(by rw[<-O];exact N:_=_);clear b N O;obtain⟨x,t⟩:∃x,x=ty[i].toNat:=⟨_,rfl⟩;have u:ah (aA s (p+4+i)=x):=(by rw[t];exact P.out.symm:_=_);have a8:ty[i].toNat=x:=t.symm;have a9:x<256:=by have:=u.out;omega
   clear P hx t;rcases(by omega:x<65\/(65<=x/\x<=90)\/(90<x/\x<97)\/(97<=x/\x<=122)\/122<x)with k|⟨k,k'⟩|⟨k,k'⟩|⟨k,k'⟩|k
   ·have R:¬((65:Int)<=(x:Int)):=by omega
    have S:¬((97:Int)<=(x:Int)):=by omega
    have a:ah (dF x i=false):=(by unfold dF;simp;omega:_=_);go_wp2_with fail
    refine aI (v:= .tuple #[.agg #[.string ty,.string da],.int .i64 0,.bool false]) (by simp[results,results51,go_sem,J,K]) rfl ?_;exact⟨.inl ⟨⟨_,_,_,rfl⟩,fun y=>by have:=(z.out.1 y).1 i f;rw[u.out,a.out]at this;cases this⟩,lV (lV L.out _ _ (ag _) _) _ _ (ag _) _⟩
   ·have R:(65:Int)<=(x:Int):=by omega
    have S:(x:Int)<=90:=by omega
    have W:¬((97:Int)<=(x:Int)):=by omega
    have g:ah (dF x i=true):=(by unfold dF;simp;omega:_=_);go_wp2_with fail
    all_goals
     go_roundw
     case rel=>
      refine⟨i+1,by omega,by go_num,fun j M=> ?_,by first|rfl|trivial⟩;rcases bU j i with l|l
      ·exact o.out j l
      ·rw[show j=i by omega,u.out];exact g.out
     case measure=>simp[aX];omega
   ·have R:(65:Int)<=(x:Int):=by omega
    have S:¬((x:Int)<=90):=by omega
    have W:¬((97:Int)<=(x:Int)):=by omega
    have a:ah (dF x i=false):=(by unfold dF;simp;omega:_=_);go_wp2_with fail
    refine aI (v:= .tuple #[.agg #[.string ty,.string da],.int .i64 0,.bool false]) (by simp[results,results51,go_sem,J,K]) rfl ?_;exact⟨.inl ⟨⟨_,_,_,rfl⟩,fun y=>by have:=(z.out.1 y).1 i f;rw[u.out,a.out]at this;cases this⟩,lV (lV L.out _ _ (ag _) _) _ _ (ag _) _⟩
   ·by_cases h2:i=2
    ·have R:(65:Int)<=(x:Int):=by omega
     have S:¬((x:Int)<=90):=by omega
     have W:(97:Int)<=(x:Int):=by omega
     have i4:(x:Int)<=122:=by omega
     subst h2;have a:ah (dF x 2=false):=(by unfold dF;simp;omega:_=_);go_wp2_with fail
     refine aI (v:= .tuple #[.agg #[.string ty,.string da],.int .i64 0,.bool false]) (by simp[results,results51,go_sem,J,K]) rfl ?_;exact⟨.inl ⟨⟨_,_,_,rfl⟩,fun y=>by have:=(z.out.1 y).1 2 f;rw[u.out,a.out]at this;cases this⟩,lV (lV L.out _ _ (ag _) _) _ _ (ag _) _⟩
    ·have R:(65:Int)<=(x:Int):=by omega
     have S:¬((x:Int)<=90):=by omega
     have W:(97:Int)<=(x:Int):=by omega
     have i4:(x:Int)<=122:=by omega
     have j2:((i:Int)==2)=false:=by rw[ax];omega
     have g:ah (dF x i=true):=(by unfold dF;simp;omega:_=_);go_wp2_with fail
     go_roundw
     case rel=>
      refine⟨i+1,by omega,by go_num,fun j M=> ?_,by first|rfl|trivial⟩;rcases bU j i with l|l
      ·exact o.out j l
      ·rw[show j=i by omega,u.out];exact g.out
     case measure=>simp[aX];omega
   ·have R:(65:Int)<=(x:Int):=by omega
    have S:¬((x:Int)<=90):=by omega
    have W:(97:Int)<=(x:Int):=by omega
    have i4:¬((x:Int)<=122):=by omega
    have a:ah (dF x i=false):=(by unfold dF;simp;omega:_=_);go_wp2_with fail
    refine aI (v:= .tuple #[.agg #[.string ty,.string da],.int .i64 0,.bool false]) (by simp[results,results51,go_sem,J,K]) rfl ?_;exact⟨.inl ⟨⟨_,_,_,rfl⟩,fun y=>by have:=(z.out.1 y).1 i f;rw[u.out,a.out]at this;cases this⟩,lV (lV L.out _ _ (ag _) _) _ _ (ag _) _⟩
  ·have e:i=4:=by omega
   subst e;have T:ah (lets s p):=(fun j M=>b j M:∀j,_);clear b;have hG:=fun w'=>SS (ty++da) w' (by rw[vg,r.out];unfold maxLen;omega);have b6:jo ((ty++da).data.toList)<4294967296:=jd _;have U:(4294967295-ET 4294967295 (ty++da).data.toList:Nat)=jo ((ty++da).data.toList):=rfl;rw[U]at hG;have a3:ah (Q↔aT s (p+8+n)=jo ((ty++da).data.toList)):=(by rw[z.out,C.out,m.out];exact⟨fun h=>h.2,fun h=>⟨T.out,h⟩⟩:_↔_);clear U m C z q T;generalize aT s (p+8+n)=F at*;generalize jo ((ty++da).data.toList)=G at*;have v2:IntKind.i64.wrap ((p:Int)+8)=(p:Int)+8:=by rw[bK];omega
   have v3:IntKind.i64.wrap ((p:Int)+8+(n:Int))=(p:Int)+8+(n:Int):=by rw[bK];omega
   have v4:IntKind.i64.wrap ((p:Int)+12)=(p:Int)+12:=by rw[bK];omega
   have v5:IntKind.i64.wrap ((p:Int)+12+(n:Int))=(p:Int)+12+(n:Int):=by rw[bK];omega
   have b3:(0:Int)<=(p:Int)+8+(n:Int):=by omega
   have b5:(p:Int)+8+(n:Int)<=(s.size:Int):=by omega
   have t3:((p:Int)+8+(n:Int)).toNat=p+8+n:=by omega
   have a4:¬(9223372036854775807<4+da.size):=by have:=r.out;omega
   have HG:ah _:=hG;clear hG;go_wp2_with fail
   go_region_held3 (fun w'=>w'.cell? ⟨w.heap.size+1,0,none⟩=some (.string ty)/\w'.cell? ⟨w.heap.size+1,1,none⟩=some (.string da)) (first|go_keep|exact⟨(Pr.aV ((Pr.aB _ _ (by omega)).trans (Pr.aB _ _ (by omega)))).trans c0,(Pr.aV ((Pr.aB _ _ (by omega)).trans (Pr.aB _ _ (by omega)))).trans c1⟩) (first
    |(go_at_call 90;refine bz (Y.out _) ?_;rintro e w3 ⟨rfl,b7,rfl⟩)
    |(go_at_call 91;refine bz (HG.out _) ?_;rintro e w4 ⟨rfl,rfl⟩))
   have vG:IntKind.i64.wrap (G:Int)=(G:Int):=by rw[bK];omega
   rw[vG];obtain⟨B,A⟩:∃B,B=((F:Int)==(G:Int)):=⟨_,rfl⟩;rw[<-A];have V:ah (B=true↔Q):=(by rw[A,iV,a3.out];omega:_↔_);clear A vG;go_wp2_with fail
   refine aI (v:= .tuple #[.agg #[.string ty,.string da],.int .i64 ((p:Int)+12+(n:Int)),.bool B]) (by simp[results,results51,go_sem,J,K]) rfl ?_;refine⟨?_,lV (lV (kW.cZ L.out) _ _ (ag _) _) _ _ (ag _) _⟩;cases B
   ·exact .inl ⟨⟨_,_,_,rfl⟩,fun hq=>by have:=V.out.2 hq;cases this⟩
   ·refine .inr ⟨V.out.1 rfl,?_⟩;rw[Int.natCast_add,Int.natCast_add,<-H.out,<-I.out];rfl
end h_
namespace Pr
open Go.RowKit Rf Cr
open h_ (cut gz eP gJ iq iG iw jo jd dF aT)
def lW:ay:= .func (.func 159) #[] #[]
theorem Uk(F:Nat->Prop):EC 159 #[] jQ (fun _=>True) F where
 body:=fun args w=>qI func159 (by kernel_rfl) (by kernel_rfl) args w
 ask:=fun x w _ a b=>Jj x w a b
 iU:=fun _ _=>trivial
theorem X_(F:Nat->Prop):EC 151 #[] oV (fun _=>True) F where
 body:=fun args w=>qI func151 (by kernel_rfl) (by kernel_rfl) args w
 ask:=fun x w _ a b=>MS x w a b
 iU:=fun _ _=>trivial
theorem aaR(F:Nat->Prop):EC 164 #[] kQ (fun _=>True) F where
 body:=fun args w=>qI func164 (by kernel_rfl) (by kernel_rfl) args w
 ask:=fun x w _ a b=>Ez x w a b
 iU:=fun _ _=>trivial
theorem Ul(S:Src)(cb:Nat)(fn:FuncId)(bs:Array ay)(f:bs= #[]\/∃r,bs= #[r])(M:ByteArray->Bool)(C:af->Prop)(hM:EC fn bs M C (jP S cb))(s:ByteArray)(w:af)(p left:Nat)(name:ByteArray)(l:List UInt8)(h:CR S cb s w p name left l)(g:C w):
 aF prog 163 #[.pointer (some ⟨cb,0,none⟩),.func (.func fn) bs #[]] w fun e w'=> ∃v:ay,e= .returned v/\
  (((jK s p left l/\l_ M s (p+left+4))/\v= .nilIface/\CR S cb s w' (p+left+4+8) (dQ s (p+left+4+4) 4) (aT s (p+left+4)) (cut s (p+left+4+4) 4)/\Fr (jP S cb) w w')\/
  ((∃T a,v= .iface T (.pointer (some a))/\dO S w' T a (¬(jK s p left l/\l_ M s (p+left+4))))/\oC S cb w'/\Fr (jP S cb) w w')):=by
 refine(Bc S cb fn bs f M C hM s w p left name l h g).mono ?_;rintro e w' (⟨a,rfl,b,c⟩|⟨⟨T,a,rfl,b⟩,c,d⟩)
 ·exact⟨_,rfl,.inl ⟨a,rfl,b,c⟩⟩
 ·exact⟨_,rfl,.inr ⟨⟨T,a,rfl,b⟩,c,d⟩⟩
theorem EM(S:Src)(cb i:Nat)(s:ByteArray)(w:af)(p left:Nat)(l:List UInt8)(h:CR S cb s w p dV left l)(Z:w.heap[i]?=some (RY cb lW))(hj:¬S.F i)(K:i≠cb):
 aF prog 284 #[.pointer (some ⟨i,0,none⟩)] w fun e w'=>
  (∃P:Pt,(kU s p left l=[]/\Ends s p left l P)/\e= .returned .nilIface/\CR S cb s w' P.p P.name P.left P.l/\Fr (jP S cb) w w')\/
  ((∃T a,e= .returned (.iface T (.pointer (some a)))/\dO S w' T a (¬(kU s p left l=[]/\∃P,Ends s p left l P)))/\oC S cb w'/\Fr (jP S cb) w w'):=by
 have hM:=Uk (jP S cb);obtain⟨R,L⟩:∃R,R=kU s p left l:=⟨_,rfl⟩;rw[<-L];have y:ah _:=L;clear L;obtain⟨E,M⟩:∃E:Pt->Prop,E=Ends s p left l:=⟨_,rfl⟩;rw[<-M];have A:ah (∀P,Ends s p left l P↔E P):=(fun P=>by rw[M]:∀P,_);clear M;go_enter func284,ntmps284
 go_wp2_with fail
 go_loopg [3] (s.size-p+1) (fun gk _ wr=> ∃P1:Pt,s.size-P1.p<gk/\((P1.name=dV/\R=kU s P1.p P1.left P1.l/\∀P,Ends s P1.p P1.left P1.l P↔E P)\/(P1.name≠dV/\R=[]/\E P1))/\CR S cb s wr P1.p P1.name P1.left P1.l/\Fr (jP S cb) w wr)
 case atStart=>exact⟨⟨p,dV,left,l⟩,by dsimp only;omega,.inl ⟨rfl,y.out,A.out⟩,h,Fr.refl _ _⟩
 case round=>
  clear y A;obtain⟨⟨b,d,c,g⟩,hg,j,t,hF⟩:=hrel;dsimp only at hg j t;have u:wr.heap[i]?=some (RY cb lW):=(hF.block i (ai Z) (fun e=>e.elim hj K)).trans Z;have c0:wr.cell? ⟨i,0,none⟩=some (.pointer (some ⟨cb,0,none⟩)):=by simpa using(cell_of u 0).1
  have c1:wr.cell? ⟨i,1,none⟩=some (.string dV):=by simpa using(cell_of u 1).1
  have c2:wr.cell? ⟨i,2,none⟩=some lW:=by simpa using(cell_of u 2).1
  have a0:=t.lf;have f:∀n,CR S cb s (wr.drewN n) b d c g:=fun n=>t.grow (fun _ _=>rfl);have H:=fun n=>yU S cb s (wr.drewN n) b c d g (f n);rcases j with⟨I,o,q⟩|⟨I,o,q⟩;rotate_left
  ·have a5:(d.toList==dV.toList)=false:=by
    rw[ax];intro e;rw[bD,bD]at e;exact I (oJ (Array.toList_inj.1 e))
   have B:ah (R=[]/\E ⟨b,d,c,g⟩):=⟨o,q⟩;clear o q I c2;go_wp2_with fail
   go_quiet ((go_at_call 152;exact jB (H _)))
   go_wp2_with fail
   go_ret;exact .inl ⟨_,B.out,rfl,f _,hF.drewN _⟩
  ·subst I;have y:ah _:=o;have J:ah _:=q;clear o q;have N:=fun n=>uQ S cb s (wr.drewN n) b c dV g (f n);cases c with
   |succ m=>
    have HN:ah (¬(R=[]/\∃P,E P)):=(fun⟨h1,P,h2⟩=>by
     have hf:=((J.out P).2 h2).first.1
     have hp:b<s.size:=by have:=hf.1;omega
     rw[y.out,GL s b m g hp]at h1;exact absurd h1 (by simp):¬_)
    clear c2;go_wp2_with fail
    go_quiet ((go_at_call 152;exact jB (H _)))
    go_wp2_with fail
    refine(N _).mono ?_;rintro e wz ⟨rfl,rfl⟩;go_wp2_with fail
    refine(dJ _ _).mono ?_;rintro e w3 ⟨rfl,rfl⟩;go_wp2_with fail
    go_ret;exact .inr ⟨⟨_,_,rfl,dO.ve HN.out⟩,(f _).e.grow (fun k hk=>aj _ _ k hk),(hF.drewN _).alloc _⟩
   |zero=>
    have hN:=fun w' O=>Ul S cb 159 #[] (.inl rfl) jQ _ hM s w' b 0 dV g O trivial;simp only[Nat.add_zero]at hN;unfold lW at c2;go_wp2_with fail
    go_quiet ((go_at_call 152;exact jB (H _)))
    go_wp2_with fail
    refine(N _).mono ?_;rintro e wz ⟨rfl,rfl⟩;have Q:=f nq;have C:=hF.drewN nq;have d0:(wr.drewN nq).cell? ⟨i,0,none⟩=some (.pointer (some ⟨cb,0,none⟩)):=c0;have d2:(wr.drewN nq).cell? ⟨i,2,none⟩=some (.func (.func 159) #[] #[]):=c2;clear c0 c1 c2 H N f t u hF;generalize wr.drewN nq=wq at*;go_upto_region 4 with fail
    go_cut [3] (fun v3 wx=> ∃v:ay,v3=v/\(((jK s b 0 g/\l_ jQ s (b+4))/\v= .nilIface/\CR S cb s wx (b+4+8) (dQ s (b+4+4) 4) (aT s (b+4)) (cut s (b+4+4) 4)/\Fr (jP S cb) wq wx)\/
     ((∃T a,v= .iface T (.pointer (some a))/\dO S wx T a (¬(jK s b 0 g/\l_ jQ s (b+4))))/\oC S cb wx/\Fr (jP S cb) wq wx)))
    case first=>
     go_region_with ((go_at_call 163;refine(hN _ (by exact Q.grow (fun _ _=>rfl))).mono ?_;rintro e w3 ⟨v,rfl,U⟩))
     all_goals
      go_wp2_with fail
      go_meet
      case rel=>
       refine⟨v,rfl,?_⟩;rcases U with⟨V,W,x,D⟩|⟨V,W,x⟩
       ·exact .inl ⟨V,W,x,⟨D.os,D.tape,D.output,D.size,D.block⟩⟩
       ·exact .inr ⟨V,W,⟨x.os,x.tape,x.output,x.size,x.block⟩⟩
    case rest=>
     obtain⟨v,rfl,U⟩:=hcut;rcases U with⟨r,rfl,X,Y⟩|⟨⟨T,a,rfl,r⟩,X,Y⟩
     ·have hle:b+4+8<=s.size:=by have:=r.2.2.1;omega
      have G:ah ((dQ s (b+4+4) 4=dV/\R=kU s (b+4+8) (aT s (b+4)) (cut s (b+4+4) 4)/\∀P,Ends s (b+4+8) (aT s (b+4)) (cut s (b+4+4) 4) P↔E P)\/(dQ s (b+4+4) 4≠dV/\R=[]/\E ⟨b+4+8,dQ s (b+4+4) 4,aT s (b+4),cut s (b+4+4) 4⟩)):=(by
       by_cases hx:dQ s (b+4+4) 4=dV
       ·have z:oM s b 0 g:=(wQ s b 0 g).2 ⟨r.1,r.2,hx⟩;exact .inl ⟨hx,by rw[y.out,uS z,eP];rfl,fun P=>(KU z P).trans (J.out P)⟩
       ·have z:¬oM s b 0 g:=fun z=>hx ((wQ s b 0 g).1 z).2.2;exact .inr ⟨hx,by rw[y.out,pK z,eP],(J.out _).1 (Ends.stop (left:=0) r.1 r.2 hx)⟩:_\/_)
      clear r d0 d2;go_wp2_with fail
      go_roundg (s.size-(b+4+8)+1)
      case measure=>omega
      case rel=>exact⟨⟨_,_,_,_⟩,by dsimp only;omega,G.out,X,C.trans Y⟩
     ·have HW:dO S wc T a (¬(R=[]/\∃P,E P)):=r.imp (fun r ⟨_,P,hP⟩=>r ((J.out P).2 hP).first);clear r d0 d2;go_wp2_with fail
      go_ret;exact .inr ⟨⟨T,a,rfl,HW⟩,X,C.trans Y⟩
theorem Ya(S:Src)(cb m:Nat)(s:ByteArray)(eb lb:bP)(E:Pt->Prop)(hS:S.Ok)(B:S.base<=cb)(y:¬S.F m)(n:m≠cb):
 (VL S cb m lW s eb lb E).ad5 284 (fun _=> ∃P,E P) (fun w=> ∃P,E P/\CR S cb s w P.p P.name P.left P.l) where
 ae9:=fun v w=>by kernel_rfl
 body:=fun args w=>qI func284 (by kernel_rfl) (by kernel_rfl) args w
 ok:=fun w d ⟨a,b,p,left,l,c,hd,f,g⟩ o=>by
  have h:∀w',Fr (jP S cb) w w'->w'.heap[m]?=some (RY cb lW)/\jI w' eb S.fb lb S.base:=fun w' u=>⟨(u.block m (ai a) (fun e=>e.elim y n)).trans a,b.over (fun k q=>u.block k (by have:=c.e.lt.2;omega) (fun e=>by
   rcases e with e|e
   ·have:=hS.low k e;omega
   ·omega))⟩
  have C:kU s p left l=[]:=by rw[<-f];exact lQ (by simp)
  refine(EM S cb m s w p left l c a y n).mono ?_;rintro e w' (⟨P,⟨j,z⟩,rfl,r,i⟩|⟨⟨T,A,rfl,j⟩,r,i⟩)
  ·exact .inl ⟨rfl,⟨P,(g P).1 z,r⟩,⟨(h w' i).1,(h w' i).2,r.e⟩,i.mono (fun k q=> .inl q)⟩
  ·rcases j with⟨_,j⟩|⟨j,D⟩
   ·obtain⟨P,G⟩:=o;exact absurd ⟨C,P,(g P).2 G⟩ j
   ·exact .inr ⟨T,A,rfl,j,D,⟨(h w' i).1,(h w' i).2,r⟩,i.mono (fun k q=> .inl q)⟩
 dA:=fun w d t ⟨a,b,p,left,l,c,hd,f,g⟩ x=>by
  have h:∀w',Fr (jP S cb) w w'->w'.heap[m]?=some (RY cb lW)/\jI w' eb S.fb lb S.base:=fun w' u=>⟨(u.block m (ai a) (fun e=>e.elim y n)).trans a,b.over (fun k q=>u.block k (by have:=c.e.lt.2;omega) (fun e=>by
   rcases e with e|e
   ·have:=hS.low k e;omega
   ·omega))⟩
  refine(EM S cb m s w p left l c a y n).mono ?_;rintro e w' (⟨P,⟨j,z⟩,rfl,r,i⟩|⟨⟨T,A,rfl,j⟩,r,i⟩)
  ·exfalso;rw[j]at f;have H:d.data.toList.length<=t:=List.drop_eq_nil_iff.1 f;have I:d.data.toList.length=d.size:=by simp
   rcases x with hb|⟨_,hb⟩
   ·omega
   ·exact hb ⟨P,(g P).1 z⟩
  ·exact⟨T,A,rfl,Or.imp (fun g=>⟨g.1,trivial⟩) id j,⟨(h w' i).1,(h w' i).2,r⟩,i.mono (fun k q=> .inl q)⟩
end Pr
namespace Pr
open Go.RowKit Rf Cr
open h_ (cut gz eP gJ iq iG iw jo jd dF aT fV)
def Hz(S:Src)(b:Prop):Prop:=∀(w:af) (s:ByteArray) (t:Nat),S.K w s t->t<=s.size->
 aF prog 192 #[.iface S.T (.pointer (some S.a))] w fun e w'=>
  ((t=s.size/\b)/\e= .returned .nilIface/\S.KE w'/\Fr S.F w w')\/
  ((∃T a,e= .returned (.iface T (.pointer (some a)))/\dO S w' T a (t<s.size))/\S.KE w'/\Fr S.F w w')
theorem NF(S:Src)(m:Prop)(f:Hz S m)(cb:Nat)(s:ByteArray)(w:af)(p left:Nat)(name:ByteArray)(l:List UInt8)(h:CR S cb s w p name left l):
 aF prog 166 #[.pointer (some ⟨cb,0,none⟩)] w fun e w'=>
  ((p=s.size/\m)/\e= .returned .nilIface/\oC S cb w'/\Fr (jP S cb) w w')\/
  ((∃T a,e= .returned (.iface T (.pointer (some a)))/\dO S w' T a (p<s.size))/\oC S cb w'/\Fr (jP S cb) w w'):=by
 obtain⟨num,c0,c1,c2,o,q,r,b⟩:=h.cells;clear c1 c2 o q r b;have n:=f w s p h.k h.le;go_enter func166,ntmps166
 go_wp2_with fail
 refine n.mono ?_;clear n;rintro e w1 (⟨d,rfl,g,c⟩|⟨⟨T,a,rfl,d⟩,g,c⟩)
 ·have i:=h.PD g c;have t:ah _:=d;clear d c0;go_wp2_with fail
  go_ret;exact .inl ⟨t.out,rfl,i,c.mono (fun k j=> .inl j)⟩
 ·have i:=h.PD g c;clear c0;go_wp2_with fail
  go_ret;exact .inr ⟨⟨T,a,rfl,d⟩,i,c.mono (fun k j=> .inl j)⟩
inductive Rest(s:ByteArray):Pt->Prop
 |last {p:Nat} {l:List UInt8}:jK s p 0 l->p+4=s.size->Rest s ⟨p,jm,0,l⟩
 |more {p left:Nat} {name:ByteArray} {l:List UInt8}:name≠jm->jK s p left l->l_ kQ s (p+left+4)->Rest s ⟨p+left+4+8,dQ s (p+left+4+4) 4,aT s (p+left+4),cut s (p+left+4+4) 4⟩->Rest s ⟨p,name,left,l⟩
theorem uz{x y:ByteArray}(h:x≠y):(x.toList==y.toList)=false:=by rw[ax];intro e;rw[bD,bD]at e;exact h (oJ (Array.toList_inj.1 e))
theorem Bf:jm.toList=[73,69,78,68]:=by rw[bD];rfl
theorem NG(S:Src)(F:Prop)(I:Hz S F)(cb:Nat)(s:ByteArray)(w:af)(p left:Nat)(name:ByteArray)(l:List UInt8)(h:CR S cb s w p name left l):
 aF prog 127 #[.pointer (some ⟨cb,0,none⟩)] w fun e w'=>
  ((Rest s ⟨p,name,left,l⟩/\F)/\e= .returned .nilIface/\oC S cb w'/\Fr (jP S cb) w w')\/
  ((∃T a,e= .returned (.iface T (.pointer (some a)))/\dO S w' T a (¬Rest s ⟨p,name,left,l⟩))/\oC S cb w'/\Fr (jP S cb) w w'):=by
 have hM:=aaR (jP S cb);obtain⟨Q,J⟩:∃Q:Prop,Q=Rest s ⟨p,name,left,l⟩:=⟨_,rfl⟩;rw[<-J];have z:ah (Q↔Rest s ⟨p,name,left,l⟩):=(by rw[J]:_↔_);clear J;go_enter func127,ntmps127
 go_wp2_with fail
 go_loopg [3] (s.size-p+1) (fun gk _ wr=> ∃P1:Pt,s.size-P1.p<gk/\(Q↔Rest s P1)/\CR S cb s wr P1.p P1.name P1.left P1.l/\Fr (jP S cb) w wr)
 case atStart=>exact⟨⟨p,name,left,l⟩,by dsimp only;omega,z.out,h,Fr.refl _ _⟩
 case round=>
  clear z;obtain⟨⟨q,g,f,A⟩,W,o,n,hF⟩:=hrel;dsimp only at W n;have v:ah _:=o;clear o;have X:=n.lf;have G:=yU S cb s wr q f g A n;by_cases H:g=jm
  ·subst H;have R:=uQ S cb s wr q f jm A n;have K:(jm.toList !=[73,69,78,68])=false:=by rw[Bf];rfl
   have B:jm.toList=[73,69,78,68]:=Bf;go_wp2_with fail
   refine G.mono ?_;rintro e U ⟨rfl,i⟩;have i:=i.symm;subst i;clear G;go_wp2_with fail
   refine R.mono ?_;rintro e U ⟨rfl,i⟩;have i:=i.symm;subst i;clear R;cases f with
   |succ m=>
    have Y:ah (¬Q):=(fun o=>by
     have:=v.out.1 o;cases this with
     |more a b c d=>exact a rfl:¬_)
    go_wp2_with fail
    refine(dJ _ _).mono ?_;rintro e w3 ⟨rfl,rfl⟩;go_wp2_with fail
    go_ret;exact .inr ⟨⟨_,_,rfl,dO.ve Y.out⟩,n.e.grow (fun k Z=>aj _ _ k Z),hF.alloc _⟩
   |zero=>
    have C:=xC S cb s wr q 0 jm A n;go_wp2_with fail
    refine C.mono ?_;clear C;rintro e w2 (⟨j,rfl,t,u⟩|⟨⟨T,a,rfl,j⟩,t,u⟩);rotate_left
    ·have D:dO S w2 T a (¬Q):=j.imp (fun j o=>by
      have:=v.out.1 o;cases this with
      |last b c=>exact j b
      |more a b c d=>exact a rfl)
     clear j;go_wp2_with fail
     go_ret;exact .inr ⟨⟨T,a,rfl,D⟩,t,hF.trans u⟩
    have L:ah (jK s q 0 A):=j;clear j;rw[eH]at t;have E:=NF S F I cb s w2 _ _ _ _ t;go_wp2_with fail
    refine E.mono ?_;clear E;rintro e w3 (⟨x,rfl,M,N⟩|⟨⟨T,a,rfl,x⟩,M,N⟩)
    ·have O:ah (Q/\F):=(⟨v.out.2 (.last L.out x.1),x.2⟩:_/\_);clear x;go_wp2_with fail
     go_ret;exact .inl ⟨O.out,rfl,M,(hF.trans u).trans N⟩
    ·have D:dO S w3 T a (¬Q):=x.imp (fun x o=>by
      have:=v.out.1 o;cases this with
      |last b c=>omega
      |more a b c d=>exact a rfl)
     clear x;go_wp2_with fail
     go_ret;exact .inr ⟨⟨T,a,rfl,D⟩,M,(hF.trans u).trans N⟩
  ·have r:=uz H;rw[Bf]at r;have K:(g.toList !=[73,69,78,68])=true:=by unfold bne;rw[r];rfl
   have B:¬g.toList=[73,69,78,68]:=by simpa using r
   have V:=Bc S cb 164 #[] (.inl rfl) kQ _ hM s wr q f g A n trivial;have y:ah (g≠jm):=H;clear H;go_wp2_with fail
   refine G.mono ?_;rintro e U ⟨rfl,i⟩;have i:=i.symm;subst i;clear G;go_wp2_with fail
   refine V.mono ?_;clear V;rintro e w2 (⟨j,rfl,t,u⟩|⟨⟨T,a,rfl,j⟩,t,u⟩)
   ·have hle:q+f+4+8<=s.size:=by have:=j.2.2.1;omega
    have P:ah (Q↔Rest s ⟨q+f+4+8,dQ s (q+f+4+4) 4,aT s (q+f+4),cut s (q+f+4+4) 4⟩):=(⟨fun o=>by
     have:=v.out.1 o;cases this with
     |last b c=>exact absurd rfl y.out
     |more a b c d=>exact d,fun hr=>v.out.2 (.more y.out j.1 j.2 hr)⟩:_↔_)
    clear j;go_wp2_with fail
    go_roundg (s.size-(q+f+4+8)+1)
    case measure=>omega
    case rel=>exact⟨⟨_,_,_,_⟩,by dsimp only;omega,P.out,t,hF.trans u⟩
   ·have D:dO S w2 T a (¬Q):=j.imp (fun j o=>by
     have:=v.out.1 o;cases this with
     |last b c=>exact y.out rfl
     |more a b c d=>exact j ⟨b,c⟩)
    clear j;go_wp2_with fail
    go_ret;exact .inr ⟨⟨T,a,rfl,D⟩,t,hF.trans u⟩
theorem NH(D:DD)(d:ByteArray)(h:yR D d):Hz (vN D d) (d=D.b/\∃k,jJ D.L d.size=some k):=fun w s t hK i=>by
 have e:s=d:=hK.1;subst e;refine(TD D s h w t hK i).mono ?_;rintro e w' (⟨⟨a,b,c⟩,f,g,j⟩|⟨l,f,g⟩)
 ·subst a;exact .inl ⟨⟨rfl,b,c⟩,f,g,j⟩
 ·exact .inr ⟨l,f,g⟩
end Pr
namespace h_
open Go.RowKit Rf Cr
def qp(s:ByteArray)(p:Nat):Prop:=p+12<=s.size/\aT s p<=2147483647/\p+12+aT s p<=s.size/\lets s p/\yS s p
def xU(s:ByteArray)(p:Nat):ay:= .tuple #[.agg #[.string (Pr.dQ s (p+4) 4),.string (Pr.dQ s (p+8) (aT s p))],.int .i64 ((p+12+aT s p:Nat):Int),.bool true]
theorem uY(s:ByteArray)(p:Nat)(w:af)(hp:p<=281474976710656)(hs:s.size<=140737488354000):
 aF prog 51 #[.string s,.int .i64 (p:Int)] w fun e w'=>((¬qp s p/\MR e)\/(qp s p/\e= .returned (xU s p)))/\aJ w.heap.size w w':=by
 by_cases d:p+12<=s.size
 ·by_cases c:aT s p<=2147483647/\p+12+aT s p<=s.size
  ·refine(Xw s p w hs d c.1 c.2).mono ?_;rintro e w' ⟨⟨a,b⟩|⟨a,b⟩,f⟩
   ·exact⟨.inl ⟨fun h=>b ⟨h.2.2.2.1,h.2.2.2.2⟩,a⟩,f⟩
   ·exact⟨.inr ⟨⟨d,c.1,c.2,a.1,a.2⟩,b⟩,f⟩
  ·refine(Xt s p w hs d (by omega)).mono ?_;rintro e w' ⟨a,b⟩;exact⟨.inl ⟨fun h=>c ⟨h.2.1,h.2.2.1⟩,a⟩,b⟩
 ·refine(TE s p w hp hs (by omega)).mono ?_;rintro e w' ⟨a,b⟩;exact⟨.inl ⟨fun h=>d h.1,a⟩,b⟩
end h_
namespace Pr
open Go.RowKit Rf Cr
open h_ (cut aT qp YE)
structure PS where
 pos:Nat
 bW:Nat
 pl:ByteArray
 tr:ByteArray
 pb:Bool
 tb:Bool
 da:ByteArray
def Jd(K D:Nat)(x:PS)(n:Nat):Prop:=x.bW=0/\x.pb=false/\x.tb=false/\K≠0/\K≠4/\n%3=0/\1<=n/3/\n/3<=256/\(K=3->n/3<=pw D)
def Oq(K D:Nat)(x:PS)(d:ByteArray):Prop:=(K=3/\x.pb=true/\1<=d.size/\d.size<=x.pl.size/3)\/((K=0\/K=2)/\YE d D K)
def Bv(s:ByteArray)(p:Nat):Nat:=p+8+aT s p+4
inductive qY(s:ByteArray)(K D:Nat):PS->PS->Prop
 |done {x:PS}:qp s x.pos->dQ s (x.pos+4) 4=jm->1<=x.bW->aT s x.pos=0->x.pos+8+4=s.size->qY s K D x x
 |Bi {x y:PS}:qp s x.pos->dQ s (x.pos+4) 4=dV->x.bW<=1->(K=3->x.pb=true)->qY s K D ⟨Bv s x.pos,1,x.pl,x.tr,x.pb,x.tb,x.da++dQ s (x.pos+8) (aT s x.pos)⟩ y->qY s K D x y
 |Bj {x y:PS}:qp s x.pos->dQ s (x.pos+4) 4=kT->Jd K D x (aT s x.pos)->qY s K D ⟨Bv s x.pos,x.bW,dQ s (x.pos+8) (aT s x.pos),x.tr,true,x.tb,x.da⟩ y->qY s K D x y
 |Bl {x y:PS}:qp s x.pos->dQ s (x.pos+4) 4=nD->x.bW=0->x.tb=false->Oq K D x (dQ s (x.pos+8) (aT s x.pos))->qY s K D ⟨Bv s x.pos,x.bW,x.pl,dQ s (x.pos+8) (aT s x.pos),x.pb,true,x.da⟩ y->qY s K D x y
 |other {x y:PS}:qp s x.pos->dQ s (x.pos+4) 4≠jm->dQ s (x.pos+4) 4≠dV->dQ s (x.pos+4) 4≠kT->dQ s (x.pos+4) 4≠nD->97<=aA s (x.pos+4)->
   qY s K D ⟨Bv s x.pos,if x.bW=1 then 2 else x.bW,x.pl,x.tr,x.pb,x.tb,x.da⟩ y->qY s K D x y
end Pr
namespace h_
open Go.RowKit Rf Cr
open Pr (PS qY Oq Jd)
theorem lK{x y:ByteArray}(h:x≠y):(x.toList==y.toList)=false:=by rw[ax];intro e;rw[bD,bD]at e;exact h (oJ (Array.toList_inj.1 e))
theorem UX(W H D K I:Nat)(x:PS)(d:ByteArray)(B:Bool)(b:B=true↔Oq K D x d)(w:af)(hK:K=0\/K=2\/K=3\/K=4\/K=6)(c:1<=D)(hD:D<=16)(hp:x.pl.size<=140737488354000)(hd:d.size<=140737488354000):
 aF prog 94 #[nV W H D K I x.pl x.tr x.pb x.tb x.da,.string d] w fun e w'=>e= .returned (.bool B)/\aJ w.heap.size w w':=by
 rcases(by omega:(K=0\/K=2)\/K=3\/(K=4\/K=6))with h|h|h
 ·refine IA W H D K I x.pl x.tr x.da d x.pb x.tb B (b.trans ?_) w h c hD hd;unfold Oq;constructor
  ·rintro(⟨a,_⟩|⟨_,a⟩)
   ·omega
   ·exact a
  ·exact fun a=> .inr ⟨h,a⟩
 ·subst h;refine(MF W H D I x.pl x.tr x.da d x.pb x.tb w hp hd).mono ?_;rintro e w' ⟨rfl,f⟩;refine⟨?_,f⟩;have:(x.pb&&(decide (1<=d.size)&&decide (d.size<=x.pl.size/3)))=B:=by
   rw[uB,b];unfold Oq;simp
  rw[this]
 ·have hb:B=false:=by
   cases B
   ·rfl
   ·have:=b.1 rfl;unfold Oq at this;omega
  rw[hb];exact WN W H D K I x.pl x.tr x.da d x.pb x.tb w h
def oI(W H D K I:Nat)(x:PS):Array ay:= #[.int .i64 (W:Int),.int .i64 (H:Int),.int .i64 (D:Int),.int .i64 (K:Int),.int .i64 (I:Int),.string x.pl,.string x.tr,.bool x.pb,.bool x.tb,.string x.da]
structure PM(w0 wr:af)(W H D K I:Nat)(x:PS):Prop where
 h3:wr.heap[w0.heap.size]?=some (.cells #[.int .i64 (W:Int),.int .i64 (H:Int),.int .i64 (D:Int),.int .i64 (K:Int),.int .i64 (I:Int)] 109 (0,0))
 h6:wr.heap[w0.heap.size+1]?=some (.cells #[.int .i64 0,.int .i64 0,.int .i64 0,.int .i64 0,.int .i64 0,.string ⟨#[]⟩,.string ⟨#[]⟩,.bool false,.bool false,.string ⟨#[]⟩] 113 (0,0))
 h8:wr.heap[w0.heap.size+2]?=some (.cells (oI W H D K I x) 113 (0,0))
 bl:aJ w0.heap.size w0 wr
theorem PM.iU{w0 wr w1:af}{W H D K I:Nat}{x:PS}(h:PM w0 wr W H D K I x)(hb:aJ wr.heap.size wr w1):PM w0 w1 W H D K I x:=
 ⟨(hb.block _ (Pr.ai h.h3)).trans h.h3,(hb.block _ (Pr.ai h.h6)).trans h.h6,(hb.block _ (Pr.ai h.h8)).trans h.h8,h.bl.trans (hb.mono h.bl.size)⟩
theorem PM.alloc{w0 wr:af}{W H D K I:Nat}{x:PS}(h:PM w0 wr W H D K I x)(o:Obj):PM w0 (wr.alloc o) W H D K I x:=h.iU ((aP _ _).alloc (ag _) _)
theorem PM.start(w:af)(W H D K I:Nat):PM w (((w.alloc (.cells #[.int .i64 (W:Int),.int .i64 (H:Int),.int .i64 (D:Int),.int .i64 (K:Int),.int .i64 (I:Int)] 109)).alloc (.cells #[.int .i64 0,.int .i64 0,.int .i64 0,.int .i64 0,.int .i64 0,.string ⟨#[]⟩,.string ⟨#[]⟩,.bool false,.bool false,.string ⟨#[]⟩] 113)).alloc (.cells #[.int .i64 (W:Int),.int .i64 (H:Int),.int .i64 (D:Int),.int .i64 (K:Int),.int .i64 (I:Int),.string ⟨#[]⟩,.string ⟨#[]⟩,.bool false,.bool false,.string ⟨#[]⟩] 113)) W H D K I ⟨33,0,ByteArray.empty,ByteArray.empty,false,false,ByteArray.empty⟩:=by
 obtain⟨d,a⟩:∃o:Obj,o= .cells #[.int .i64 (W:Int),.int .i64 (H:Int),.int .i64 (D:Int),.int .i64 (K:Int),.int .i64 (I:Int)] 109:=⟨_,rfl⟩;obtain⟨e,b⟩:∃o:Obj,o= .cells #[.int .i64 0,.int .i64 0,.int .i64 0,.int .i64 0,.int .i64 0,.string ⟨#[]⟩,.string ⟨#[]⟩,.bool false,.bool false,.string ⟨#[]⟩] 113:=⟨_,rfl⟩;obtain⟨f,c⟩:∃o:Obj,o= .cells #[.int .i64 (W:Int),.int .i64 (H:Int),.int .i64 (D:Int),.int .i64 (K:Int),.int .i64 (I:Int),.string ⟨#[]⟩,.string ⟨#[]⟩,.bool false,.bool false,.string ⟨#[]⟩] 113:=⟨_,rfl⟩;rw[<-a,<-b,<-c];have s1:(w.alloc d).heap.size=w.heap.size+1:=by simp
 have s2:((w.alloc d).alloc e).heap.size=w.heap.size+2:=by simp
 refine⟨?_,?_,?_,(((aP w.heap.size w).alloc (ag _) _).alloc (by omega) _).alloc (by omega) _⟩
 ·rw[jT _ _ (by omega),jT _ _ (by omega),aO,a]
 ·have:=aO (w.alloc d) e;rw[s1]at this;rw[jT _ _ (by omega),this,b]
 ·have:=aO ((w.alloc d).alloc e) f;rw[s2]at this;rw[this,c];rfl
theorem PM.cells{w0 wr:af}{W H D K I:Nat}{x:PS}(h:PM w0 wr W H D K I x):
 (wr.cell? ⟨w0.heap.size+2,0,none⟩=some (.int .i64 (W:Int))/\wr.cell? ⟨w0.heap.size+2,1,none⟩=some (.int .i64 (H:Int))/\wr.cell? ⟨w0.heap.size+2,2,none⟩=some (.int .i64 (D:Int))/\wr.cell? ⟨w0.heap.size+2,3,none⟩=some (.int .i64 (K:Int))/\wr.cell? ⟨w0.heap.size+2,4,none⟩=some (.int .i64 (I:Int))/\
  wr.cell? ⟨w0.heap.size+2,5,none⟩=some (.string x.pl)/\wr.cell? ⟨w0.heap.size+2,6,none⟩=some (.string x.tr)/\wr.cell? ⟨w0.heap.size+2,7,none⟩=some (.bool x.pb)/\wr.cell? ⟨w0.heap.size+2,8,none⟩=some (.bool x.tb)/\wr.cell? ⟨w0.heap.size+2,9,none⟩=some (.string x.da))/\
 wr.cell? ⟨w0.heap.size,2,none⟩=some (.int .i64 (D:Int))/\wr.cell? ⟨w0.heap.size,3,none⟩=some (.int .i64 (K:Int)):=by
 have h8:=h.h8;unfold oI at h8;exact⟨⟨by simpa using(Pr.cell_of h8 0).1,by simpa using(Pr.cell_of h8 1).1,by simpa using(Pr.cell_of h8 2).1,by simpa using(Pr.cell_of h8 3).1,by simpa using(Pr.cell_of h8 4).1,by simpa using(Pr.cell_of h8 5).1,by simpa using(Pr.cell_of h8 6).1,by simpa using(Pr.cell_of h8 7).1,by simpa using(Pr.cell_of h8 8).1,by simpa using(Pr.cell_of h8 9).1⟩,by simpa using(Pr.cell_of h.h3 2).1,by simpa using(Pr.cell_of h.h3 3).1⟩
theorem PM.soft{w0 wr:af}{W H D K I:Nat}{x:PS}(h:PM w0 wr W H D K I x):wr.frozen? ⟨w0.heap.size+1,0,none⟩=false/\wr.frozen? ⟨w0.heap.size+1,1,none⟩=false/\wr.frozen? ⟨w0.heap.size+1,2,none⟩=false/\wr.frozen? ⟨w0.heap.size+1,3,none⟩=false/\wr.frozen? ⟨w0.heap.size+1,4,none⟩=false/\wr.frozen? ⟨w0.heap.size+1,5,none⟩=false/\wr.frozen? ⟨w0.heap.size+1,6,none⟩=false/\wr.frozen? ⟨w0.heap.size+1,7,none⟩=false/\wr.frozen? ⟨w0.heap.size+1,8,none⟩=false/\wr.frozen? ⟨w0.heap.size+1,9,none⟩=false:=
 ⟨(Pr.cell_of h.h6 0).2,(Pr.cell_of h.h6 1).2,(Pr.cell_of h.h6 2).2,(Pr.cell_of h.h6 3).2,(Pr.cell_of h.h6 4).2,(Pr.cell_of h.h6 5).2,(Pr.cell_of h.h6 6).2,(Pr.cell_of h.h6 7).2,(Pr.cell_of h.h6 8).2,(Pr.cell_of h.h6 9).2⟩
theorem PM.Lt{w0 wr:af}{W H D K I:Nat}{x:PS}(h:PM w0 wr W H D K I x):wr.frozen? ⟨w0.heap.size+2,5,none⟩=false/\wr.frozen? ⟨w0.heap.size+2,6,none⟩=false/\wr.frozen? ⟨w0.heap.size+2,7,none⟩=false/\wr.frozen? ⟨w0.heap.size+2,8,none⟩=false/\wr.frozen? ⟨w0.heap.size+2,9,none⟩=false:=
 ⟨(Pr.cell_of h.h8 5).2,(Pr.cell_of h.h8 6).2,(Pr.cell_of h.h8 7).2,(Pr.cell_of h.h8 8).2,(Pr.cell_of h.h8 9).2⟩
theorem PM.ER{w0 wr:af}{W H D K I:Nat}{x:PS}(h:PM w0 wr W H D K I x):
 wr.cell? ⟨w0.heap.size+1,0,none⟩=some (.int .i64 0)/\wr.cell? ⟨w0.heap.size+1,1,none⟩=some (.int .i64 0)/\wr.cell? ⟨w0.heap.size+1,2,none⟩=some (.int .i64 0)/\wr.cell? ⟨w0.heap.size+1,3,none⟩=some (.int .i64 0)/\wr.cell? ⟨w0.heap.size+1,4,none⟩=some (.int .i64 0)/\
  wr.cell? ⟨w0.heap.size+1,5,none⟩=some (.string ⟨#[]⟩)/\wr.cell? ⟨w0.heap.size+1,6,none⟩=some (.string ⟨#[]⟩)/\wr.cell? ⟨w0.heap.size+1,7,none⟩=some (.bool false)/\wr.cell? ⟨w0.heap.size+1,8,none⟩=some (.bool false)/\wr.cell? ⟨w0.heap.size+1,9,none⟩=some (.string ⟨#[]⟩):=by
 have h6:=h.h6;exact⟨by simpa using(Pr.cell_of h6 0).1,by simpa using(Pr.cell_of h6 1).1,by simpa using(Pr.cell_of h6 2).1,by simpa using(Pr.cell_of h6 3).1,by simpa using(Pr.cell_of h6 4).1,by simpa using(Pr.cell_of h6 5).1,by simpa using(Pr.cell_of h6 6).1,by simpa using(Pr.cell_of h6 7).1,by simpa using(Pr.cell_of h6 8).1,by simpa using(Pr.cell_of h6 9).1⟩
theorem adr(K D:Nat)(x:PS)(n:Nat)(hs:x.bW=0):¬Jd K D x n↔(x.pb=true\/x.tb=true\/K=0\/K=4\/n%3≠0\/n/3<1\/256<n/3\/(K=3/\pw D<n/3)):=by unfold Jd;cases x.pb<;>cases x.tb<;>simp<;>omega
theorem PM.as{w0 wr:af}{W H D K I:Nat}{x y:PS}(h:PM w0 wr W H D K I x)(a:y.pl=x.pl)(b:y.tr=x.tr)(c:y.pb=x.pb)(d:y.tb=x.tb)(e:y.da=x.da):PM w0 wr W H D K I y:=by refine⟨h.h3,h.h6,?_,h.bl⟩;unfold oI;rw[a,b,c,d,e];exact h.h8
theorem PM.set{w0 wr:af}{W H D K I:Nat}{x y:PS}(h:PM w0 wr W H D K I x)(o:Nat)(v:ay)(a:(oI W H D K I x).setIfInBounds o v=oI W H D K I y):PM w0 (wr.setCell ⟨w0.heap.size+2,o,none⟩ v) W H D K I y:=by refine⟨(Pr.aB o v (by omega)).trans h.h3,(Pr.aB o v (by omega)).trans h.h6,?_,lV h.bl _ o (by omega) v⟩;rw[Pr.bG h.h8 o v,a]
structure abD(w0 w3:af)(W H D K I:Nat)(x:PS):Prop where
 b:w3.heap[w0.heap.size+1]?=some (.cells (oI W H D K I x) 113 (0,0))
 bl:aJ w0.heap.size w0 w3
theorem abD.cells{w0 wr:af}{W H D K I:Nat}{x:PS}(h:abD w0 wr W H D K I x):
 (wr.cell? ⟨w0.heap.size+1,0,none⟩=some (.int .i64 (W:Int))/\wr.cell? ⟨w0.heap.size+1,1,none⟩=some (.int .i64 (H:Int))/\wr.cell? ⟨w0.heap.size+1,2,none⟩=some (.int .i64 (D:Int))/\wr.cell? ⟨w0.heap.size+1,3,none⟩=some (.int .i64 (K:Int))/\wr.cell? ⟨w0.heap.size+1,4,none⟩=some (.int .i64 (I:Int))/\
  wr.cell? ⟨w0.heap.size+1,5,none⟩=some (.string x.pl)/\wr.cell? ⟨w0.heap.size+1,6,none⟩=some (.string x.tr)/\wr.cell? ⟨w0.heap.size+1,7,none⟩=some (.bool x.pb)/\wr.cell? ⟨w0.heap.size+1,8,none⟩=some (.bool x.tb)/\wr.cell? ⟨w0.heap.size+1,9,none⟩=some (.string x.da)):=by
 have h8:=h.b;unfold oI at h8;exact⟨by simpa using(Pr.cell_of h8 0).1,by simpa using(Pr.cell_of h8 1).1,by simpa using(Pr.cell_of h8 2).1,by simpa using(Pr.cell_of h8 3).1,by simpa using(Pr.cell_of h8 4).1,by simpa using(Pr.cell_of h8 5).1,by simpa using(Pr.cell_of h8 6).1,by simpa using(Pr.cell_of h8 7).1,by simpa using(Pr.cell_of h8 8).1,by simpa using(Pr.cell_of h8 9).1⟩
theorem PM.ret{w0 wr:af}{W H D K I:Nat}{y:PS}(h:PM w0 wr W H D K I y):abD w0 ((((((((((wr.setCell ⟨w0.heap.size+1,0,none⟩ (.int .i64 (W:Int))).setCell ⟨w0.heap.size+1,1,none⟩ (.int .i64 (H:Int))).setCell ⟨w0.heap.size+1,2,none⟩ (.int .i64 (D:Int))).setCell ⟨w0.heap.size+1,3,none⟩ (.int .i64 (K:Int))).setCell ⟨w0.heap.size+1,4,none⟩ (.int .i64 (I:Int))).setCell ⟨w0.heap.size+1,5,none⟩ (.string y.pl)).setCell ⟨w0.heap.size+1,6,none⟩ (.string y.tr)).setCell ⟨w0.heap.size+1,7,none⟩ (.bool y.pb)).setCell ⟨w0.heap.size+1,8,none⟩ (.bool y.tb)).setCell ⟨w0.heap.size+1,9,none⟩ (.string y.da)) W H D K I y:=by
 constructor
 ·refine(Pr.bG (Pr.bG (Pr.bG (Pr.bG (Pr.bG (Pr.bG (Pr.bG (Pr.bG (Pr.bG (Pr.bG h.h6 0 _) 1 _) 2 _) 3 _) 4 _) 5 _) 6 _) 7 _) 8 _) 9 _).trans ?_;simp[oI]
 ·exact lV (lV (lV (lV (lV (lV (lV (lV (lV (lV h.bl _ 0 (by omega) _) _ 1 (by omega) _) _ 2 (by omega) _) _ 3 (by omega) _) _ 4 (by omega) _) _ 5 (by omega) _) _ 6 (by omega) _) _ 7 (by omega) _) _ 8 (by omega) _) _ 9 (by omega) _
theorem IB{s:ByteArray}{K D:Nat}{x y:PS}(h:qY s K D x y)(b:Pr.dQ s (x.pos+4) 4=Pr.jm):1<=x.bW/\aT s x.pos=0/\x.pos+8+4=s.size/\y=x:=by
 cases h with
 |done c a h3 d e=>exact⟨h3,d,e,rfl⟩
 |Bi c a=>rw[b]at a;exact absurd a (by decide)
 |Bj c a=>rw[b]at a;exact absurd a (by decide)
 |Bl c a=>rw[b]at a;exact absurd a (by decide)
 |other c a=>exact absurd b a
theorem IC{s:ByteArray}{K D:Nat}{x y:PS}(h:qY s K D x y)(b:Pr.dQ s (x.pos+4) 4=Pr.dV):x.bW<=1/\(K=3->x.pb=true)/\qY s K D ⟨Pr.Bv s x.pos,1,x.pl,x.tr,x.pb,x.tb,x.da++Pr.dQ s (x.pos+8) (aT s x.pos)⟩ y:=by
 cases h with
 |done c a=>rw[b]at a;exact absurd a (by decide)
 |Bi c a h3 d e=>exact⟨h3,d,e⟩
 |Bj c a=>rw[b]at a;exact absurd a (by decide)
 |Bl c a=>rw[b]at a;exact absurd a (by decide)
 |other c a h3=>exact absurd b h3
theorem IE{s:ByteArray}{K D:Nat}{x y:PS}(h:qY s K D x y)(b:Pr.dQ s (x.pos+4) 4=Pr.kT):Jd K D x (aT s x.pos)/\qY s K D ⟨Pr.Bv s x.pos,x.bW,Pr.dQ s (x.pos+8) (aT s x.pos),x.tr,true,x.tb,x.da⟩ y:=by
 cases h with
 |done c a=>rw[b]at a;exact absurd a (by decide)
 |Bi c a=>rw[b]at a;exact absurd a (by decide)
 |Bj c a h3 d=>exact⟨h3,d⟩
 |Bl c a=>rw[b]at a;exact absurd a (by decide)
 |other c a h3 d=>exact absurd b d
theorem Rw{s:ByteArray}{K D:Nat}{x y:PS}(h:qY s K D x y)(b:Pr.dQ s (x.pos+4) 4=Pr.nD):x.bW=0/\x.tb=false/\Oq K D x (Pr.dQ s (x.pos+8) (aT s x.pos))/\qY s K D ⟨Pr.Bv s x.pos,x.bW,x.pl,Pr.dQ s (x.pos+8) (aT s x.pos),x.pb,true,x.da⟩ y:=by
 cases h with
 |done c a=>rw[b]at a;exact absurd a (by decide)
 |Bi c a=>rw[b]at a;exact absurd a (by decide)
 |Bj c a=>rw[b]at a;exact absurd a (by decide)
 |Bl c a h3 e d h6=>exact⟨h3,e,d,h6⟩
 |other c a h3 e d=>exact absurd b d
theorem Lu{s:ByteArray}{K D:Nat}{x y:PS}(h:qY s K D x y)(i:Pr.dQ s (x.pos+4) 4≠Pr.jm)(j:Pr.dQ s (x.pos+4) 4≠Pr.dV)(h3:Pr.dQ s (x.pos+4) 4≠Pr.kT)(k:Pr.dQ s (x.pos+4) 4≠Pr.nD):97<=aA s (x.pos+4)/\qY s K D ⟨Pr.Bv s x.pos,if x.bW=1 then 2 else x.bW,x.pl,x.tr,x.pb,x.tb,x.da⟩ y:=by
 cases h with
 |done a b=>exact absurd b i
 |Bi a b=>exact absurd b j
 |Bj a b=>exact absurd b h3
 |Bl a b=>exact absurd b k
 |other a b c d e f g=>exact⟨f,g⟩
theorem abE{s:ByteArray}{K D:Nat}{x y:PS}(h:qY s K D x y)(a:¬qp s x.pos):False:=by
 cases h with
 |done b=>exact a b
 |Bi b=>exact a b
 |Bj b=>exact a b
 |Bl b=>exact a b
 |other b=>exact a b
noncomputable def afM:Code:=match(f53.body.bind Aw).getD .skip with
 | .loop c=>c
 |_=> .skip
structure PaR(W H D K I:Nat)(s:ByteArray)(x0 x:PS)(w wr:af):Prop where
 hx:∀y,qY s K D x0 y↔qY s K D x y
 uJ:x.bW<=2
 tu:x.pos<=s.size
 hda:x.da.size<=x.pos
 ql:x.pl.size<=s.size
 yj:x.tr.size<=s.size
 hM:PM w wr W H D K I x
def PaY(s:ByteArray)(K D:Nat)(x0 y:PS):Prop:=qY s K D x0 y/\y.da.size<=s.size/\y.pl.size<=s.size/\y.tr.size<=s.size
def UY(C:ByteArray->Nat->Prop):Prop:=∀(W H D K I:Nat) (s:ByteArray) (x0 x:PS) (w wr:af) (hP:PaR W H D K I s x0 x w wr) (hs:s.size<=140737488354000) (hK:K=0\/K=2\/K=3\/K=4\/K=6) (o7:1<=D) (hD:D<=16) (hC:C s x.pos) {c0 c4 c5 o6 Gq u7 f3 f4 f5 f6 f7 f8 f9 g0 g1 g2 g3 g4 g5 g6 g9 h0 h1 h2 h4 h5 u32 h7 h9 i0 i1 i2 i3 i4 i5 i6 i7 i9 j0 j1 j2 j3 j4 j5 j6 j7 j8 j9 k0 k1 k2 k3 k4 k5 k6 k7 k8 k9 u64 l0 l1 l3 l4 l5 l6 l7 l8 l9 m0 m1 m2 m3 m4 m5 m6 m7 m8 m9 n0 n1 n2 n3 n4 n5 n6 n7 n8 n9 o0 o1 o2 o3 o4 o5 a c d e f g h i j k l m n o p q r t u v z A B E F G J L M N O P Q R S T U V X Y Z a0 a1 a2 a3 a4 a5 a6 a7 a8 a9 b0 b1 b2 b3 b4 b5 b6 b7 b8 b9 c3 c6 c7 c8 c9 d0 d1 d2 d4 d5 d6 d7 d8 d9 e0 e1 e2 e3 e4 e5 e6 e7 e8 e9 f0 f1 f2:ay} {Q0:Exit->Act->af->Prop}
 (o8:∀(x':PS) (pv sv:ay) {u7 f3 f4 f5 f6 f7 f8 f9 g0 g1 g2 g3 g4 g5 g6 g9 h0 h1 h2 h4 h5 u32 h7 h9 i0 i1 i2 i3 i4 i5 i6 i7 i9 j0 j1 j2 j3 j4 j5 j6 j7 j8 j9 k0 k1 k2 k3 k4 k5 k6 k7 k8 k9 u64 l0 l1 l3 l4 l5 l6 l7 l8 l9 m0 m1 m2 m3 m4 m5 m6 m7 m8 m9 n0 n1 n2 n3 n4 n5 n6 n7 n8 n9 o0 o1 o2 o3 o4 o5 a c d e f g h i j k l m n o p q r t u v z A B E F G J L M N O P Q R S T U V X Y Z a0 a1 a2 a3 a4 a5 a6 a7 a8 a9 b0 b1 b2 b3 b4 b5 b6 b7 b8 b9 c3 c6 c7 c8 c9 d0 d1 d2 d4 d5 d6 d7 d8 d9 e0 e1 e2 e3 e4 e5 e6 e7 e8 e9 f0 f1 f2:ay} (wx:af),pv= .int .i64 (x'.pos:Int)->sv= .int .i64 (x'.bW:Int)->PaR W H D K I s x0 x' w wx->x.pos<x'.pos->Q0 .normal ⟨#[c0,.string s,pv,.pointer (some ⟨w.heap.size,0,none⟩),c4,c5,.pointer (some ⟨w.heap.size+1,0,none⟩),u7,.pointer (some ⟨w.heap.size+2,0,none⟩),sv,f3,f4,f5,f6,f7,f8,o6,Gq,f9,g0,g1,g2,g3,g4,g5,g6,g9,h0,h1,h2,h4,h5,u32,h7,h9,i0,i1,i2,i3,i4,i5,i6,i7,i9,j0,j1,j2,j3,j4,j5,j6,j7,j8,j9,k0,k1,k2,k3,k4,k5,k6,k7,k8,k9,u64,l0,l1,l3,l4,l5,l6,l7,l8,l9,m0,m1,m2,m3,m4,m5,m6,m7,m8,m9,n0,n1,n2,n3,n4,n5,n6,n7,n8,n9,o0,o1,o2,o3,o4,o5,a,c,d,e,f,g,h,i,j,k,l,m,n,o,p,q,r,t,u,v,z,A,B,E,F,G,J,L,M,N,O,P,Q,R,S,T,U,V,X,Y,Z,a0,a1,a2,a3,a4,a5,a6,a7,a8,a9,b0,b1,b2,b3,b4,b5,b6,b7,b8,b9,c3,c6,c7,c8,c9,d0,d1,d2,d4,d5,d6,d7,d8,d9,e0,e1,e2,e3,e4,e5,e6,e7,e8,e9,f0,f1,f2],[]⟩ wx)
 (o9:∀(b:Bool) (y:PS) {u2 u9 f3 f4 f5 f6 f7 f8 f9 g0 g1 g2 g3 g4 g5 g6 g9 h0 h1 h2 h4 h5 u32 h7 h9 i0 i1 i2 i3 i4 i5 i6 i7 i9 j0 j1 j2 j3 j4 j5 j6 j7 j8 j9 k0 k1 k2 k3 k4 k5 k6 k7 k8 k9 u64 l0 l1 l3 l4 l5 l6 l7 l8 l9 m0 m1 m2 m3 m4 m5 m6 m7 m8 m9 n0 n1 n2 n3 n4 n5 n6 n7 n8 n9 o0 o1 o2 o3 o4 o5 a c d e f g h i j k l m n o p q r t u v z A B E F G J L M N O P Q R S T U V X Y Z a0 a1 a2 a3 a4 a5 a6 a7 a8 a9 b0 b1 b2 b3 b4 b5 b6 b7 b8 b9 c3 c6 c7 c8 c9 d0 d1 d2 d4 d5 d6 d7 d8 d9 e0 e1 e2 e3 e4 e5 e6 e7 e8 e9 f0 f1 f2:ay} (wx:af),abD w wx W H D K I y->(b=false->¬ ∃y,qY s K D x0 y)->(b=true->PaY s K D x0 y)->Q0 .ret ⟨#[c0,.string s,u2,.pointer (some ⟨w.heap.size,0,none⟩),c4,c5,.pointer (some ⟨w.heap.size+1,0,none⟩),.bool b,.pointer (some ⟨w.heap.size+2,0,none⟩),u9,f3,f4,f5,f6,f7,f8,o6,Gq,f9,g0,g1,g2,g3,g4,g5,g6,g9,h0,h1,h2,h4,h5,u32,h7,h9,i0,i1,i2,i3,i4,i5,i6,i7,i9,j0,j1,j2,j3,j4,j5,j6,j7,j8,j9,k0,k1,k2,k3,k4,k5,k6,k7,k8,k9,u64,l0,l1,l3,l4,l5,l6,l7,l8,l9,m0,m1,m2,m3,m4,m5,m6,m7,m8,m9,n0,n1,n2,n3,n4,n5,n6,n7,n8,n9,o0,o1,o2,o3,o4,o5,a,c,d,e,f,g,h,i,j,k,l,m,n,o,p,q,r,t,u,v,z,A,B,E,F,G,J,L,M,N,O,P,Q,R,S,T,U,V,X,Y,Z,a0,a1,a2,a3,a4,a5,a6,a7,a8,a9,b0,b1,b2,b3,b4,b5,b6,b7,b8,b9,c3,c6,c7,c8,c9,d0,d1,d2,d4,d5,d6,d7,d8,d9,e0,e1,e2,e3,e4,e5,e6,e7,e8,e9,f0,f1,f2],[]⟩ wx),
 Code.wp prog afM Q0 ⟨#[c0,.string s,.int .i64 (x.pos:Int),.pointer (some ⟨w.heap.size,0,none⟩),c4,c5,.pointer (some ⟨w.heap.size+1,0,none⟩),u7,.pointer (some ⟨w.heap.size+2,0,none⟩),.int .i64 (x.bW:Int),f3,f4,f5,f6,f7,f8,o6,Gq,f9,g0,g1,g2,g3,g4,g5,g6,g9,h0,h1,h2,h4,h5,u32,h7,h9,i0,i1,i2,i3,i4,i5,i6,i7,i9,j0,j1,j2,j3,j4,j5,j6,j7,j8,j9,k0,k1,k2,k3,k4,k5,k6,k7,k8,k9,u64,l0,l1,l3,l4,l5,l6,l7,l8,l9,m0,m1,m2,m3,m4,m5,m6,m7,m8,m9,n0,n1,n2,n3,n4,n5,n6,n7,n8,n9,o0,o1,o2,o3,o4,o5,a,c,d,e,f,g,h,i,j,k,l,m,n,o,p,q,r,t,u,v,z,A,B,E,F,G,J,L,M,N,O,P,Q,R,S,T,U,V,X,Y,Z,a0,a1,a2,a3,a4,a5,a6,a7,a8,a9,b0,b1,b2,b3,b4,b5,b6,b7,b8,b9,c3,c6,c7,c8,c9,d0,d1,d2,d4,d5,d6,d7,d8,d9,e0,e1,e2,e3,e4,e5,e6,e7,e8,e9,f0,f1,f2],[]⟩ wr
set_option maxRecDepth 100000 in
theorem ads:UY fun s p=> ¬qp s p:=by
 rintro W H D K I s x0 x w wr m hs hK n hD o;intros
 rename_i h c;obtain⟨hx,uJ,tu,hda,ql,yj,hM⟩:=m;have d:ah _:=fun(w':af)=>uY s x.pos w' (by omega) hs;have q:ah _:=hx;have l:ah _:=hM;have i:ah _:=c;clear hx hM h c;conv=>arg 2;whnf
 go_wp2_with fail
 refine bz (d.out wr) ?_;rintro e w1 ⟨b,f⟩;have g:ah (PM w w1 W H D K I x):=(l.out.iU f:PM _ _ _ _ _ _ _ _);clear l f d;rcases b with⟨j,c1,c2,z,rfl⟩|⟨k,rfl⟩;rotate_left
 ·exact absurd k o
 go_upto_region 4 with fail
 have a:ah _:=g.out.alloc (.cells #[.string c1,.string c2] 105);clear g;revert a;generalize (w1.alloc _)=w2;intro a;obtain⟨⟨t,u,v,A,B,C,E,F,G,J⟩,L,M⟩:=PM.cells a.out;obtain⟨N,O,P,Q,R,S,T,U,V,X⟩:=PM.ER a.out;obtain⟨Y,s1,s2,Z,s4,s5,s6,s7,s8,s9⟩:=PM.soft a.out;go_wp2_with fail
 refine i.out false ⟨x.pos,x.bW,x.pl,x.tr,x.pb,x.tb,x.da⟩ _ (PM.ret (a.out.as rfl rfl rfl rfl rfl)) (fun _=>(fun⟨y,r⟩=>abE ((q.out y).1 r) j)) (fun e=>Bool.noConfusion e)
set_option maxRecDepth 100000 in
theorem adw:UY fun s p=>qp s p/\Pr.dQ s (p+4) 4=Pr.nD:=by
 rintro W H D K I s x0 x w wr hP hs hK a0 hD ⟨hc,l⟩;intros
 rename_i P Q;obtain⟨hx,uJ,tu,hda,ql,yj,hM⟩:=hP;have R:ah _:=fun(w':af)=>uY s x.pos w' (by omega) hs;have HX:ah _:=hx;have HM:ah _:=hM;have a1:ah _:=P;have r:ah _:=Q;clear hx hM P Q;conv=>arg 2;whnf
 go_wp2_with fail
 refine bz (R.out wr) ?_;rintro e w1 ⟨t,S⟩;have T:ah (PM w w1 W H D K I x):=(HM.out.iU S:PM _ _ _ _ _ _ _ _);clear HM S R;rcases t with⟨a2,c1,c2,z,rfl⟩|⟨u,rfl⟩
 ·exact absurd hc a2
 obtain⟨ty,m⟩:∃ty,ty=Pr.dQ s (x.pos+4) 4:=⟨_,rfl⟩;obtain⟨b,n⟩:∃b,b=Pr.dQ s (x.pos+8) (aT s x.pos):=⟨_,rfl⟩;obtain⟨bh,v⟩:∃bh,bh=x.pos+12+aT s x.pos:=⟨_,rfl⟩;unfold xU;rw[<-m,<-n,<-v];have a3:=u.2.2.1;have b1:ty.size=4:=by rw[m];exact Pr.gq s _ 4 (by omega)
 have a4:b.size=aT s x.pos:=by rw[n];exact Pr.gq s _ _ (by omega)
 have a5:bh<=s.size:=by omega
 have b2:x.pos<bh:=by omega
 have b3:x.pos+b.size<=bh:=by omega
 have i:ah _:=m;have o:ah _:=n;have a6:ah _:=v;have a7:ah _:=u;clear m n v u a3 a4;go_upto_region 4 with fail
 have a:ah _:=T.out.alloc (.cells #[.string ty,.string b] 105);have d:(w1.alloc (.cells #[.string ty,.string b] 105)).heap[w1.heap.size]?=_:=aO w1 (.cells #[.string ty,.string b] 105);clear T;revert a d;generalize (w1.alloc _)=w2;generalize w1.heap.size=cb;intro a d;have c0:w2.cell? ⟨cb,0,none⟩=some (.string ty):=by simpa using(Pr.cell_of d 0).1
 have c1:w2.cell? ⟨cb,1,none⟩=some (.string b):=by simpa using(Pr.cell_of d 1).1
 have a8:ah (cb<w2.heap.size):=(Pr.ai d:_<_);clear d;obtain⟨⟨Z,p1,p2,p3,p4,p5,p6,p7,N,p9⟩,k2,k3⟩:=PM.cells a.out;obtain⟨r0,r1,r2,r3,r4,r5,r6,r7,r8,r9⟩:=PM.ER a.out;obtain⟨s0,s1,s2,s3,s4,s5,s6,s7,s8,s9⟩:=PM.soft a.out;obtain⟨A,C,E,F,G⟩:=PM.Lt a.out;have U:ah (Pr.Bv s x.pos=bh):=(by have:=a6.out;unfold Pr.Bv;omega:_=_);have t1:ty≠Pr.jm:=by rw[i.out,l];decide
 have l1:=lK t1;rw[show Pr.jm.toList=[73,69,78,68]by rw[bD];rfl]at l1;clear t1;have t2:ty≠Pr.dV:=by rw[i.out,l];decide
 have l2:=lK t2;rw[show Pr.dV.toList=[73,68,65,84]by rw[bD];rfl]at l2;clear t2;have t3:ty≠Pr.kT:=by rw[i.out,l];decide
 have l3:=lK t3;rw[show Pr.kT.toList=[80,76,84,69]by rw[bD];rfl]at l3;clear t3;have t4:ty=Pr.nD:=by rw[i.out];exact l
 have J:ah (Pr.dQ s (x.pos+4) 4=Pr.nD):=(by rw[<-i.out];exact t4:_=_);subst t4;clear l1 l2 l3;unfold Pr.nD at*;obtain⟨B,hB⟩:∃B:Bool,B=true↔Oq K D x b:=by classical exact⟨decide (Oq K D x b),by simp⟩
 have V:ah (∀w',aF prog 94 #[.agg #[.int .i64 (W:Int),.int .i64 (H:Int),.int .i64 (D:Int),.int .i64 (K:Int),.int .i64 (I:Int),.string x.pl,.string x.tr,.bool x.pb,.bool x.tb,.string x.da],.string b] w' fun e a9=>e= .returned (.bool B)/\aJ w'.heap.size w' a9):=(fun w'=>UX W H D K I x b B hB w' hK a0 hD (by omega) (by omega):∀w',_);have X:ah _:=hB;clear hB;have L:ah (¬(x.bW=0/\x.tb=false/\B=true)->¬ ∃y,qY s K D x0 y):=(fun h=>(fun⟨y,hy⟩=>by obtain⟨h1,h2,h3,_⟩:=Rw ((HX.out y).1 hy) J.out;rw[<-o.out]at h3;exact h ⟨h1,h2,X.out.2 h3⟩):_)
 have Y:ah (x.bW=0->x.tb=false->B=true->∀y,qY s K D x0 y↔qY s K D ⟨bh,x.bW,x.pl,b,x.pb,true,x.da⟩ y):=(fun h1 h2 h3 y=>(HX.out y).trans ⟨fun h=>by have h4:=(Rw h J.out).2.2.2;rw[U.out,<-o.out]at h4;exact h4,fun h=> .Bl a7.out J.out h1 h2 (by rw[<-o.out];exact X.out.1 h3) (by rw[U.out,<-o.out];exact h)⟩:_);rcases(by omega:x.bW=0\/x.bW=1\/x.bW=2)with O|O|O
 ·have HE:ah _:=O;rw[O];clear r0 r1 r2 r3 r4 r5 r6 r7 r8 r9 s0 s1 s2 s3 s4 s5 s6 s7 s8 s9 A C E F G;go_wp2_with fail
  refine bz (V.out _) ?_;rintro e w3 ⟨rfl,f⟩;have j:ah (PM w w3 W H D K I x):=(a.out.iU f:PM _ _ _ _ _ _ _ _);have b4:w3.cell? ⟨cb,1,none⟩=some (.string b):=(f.cell (a8.out)).trans c1;clear c0 c1 a f Z p1 p2 p3 p4 p5 p6 p7 N p9 k2 k3;have a:ah _:=j.out;clear j;obtain⟨⟨Z,p1,p2,p3,p4,p5,p6,p7,N,p9⟩,k2,k3⟩:=PM.cells a.out;obtain⟨r0,r1,r2,r3,r4,r5,r6,r7,r8,r9⟩:=PM.ER a.out;obtain⟨s0,s1,s2,s3,s4,s5,s6,s7,s8,s9⟩:=PM.soft a.out;obtain⟨A,C,E,F,G⟩:=PM.Lt a.out;cases g:x.tb with
  |true=>
   rw[g]at N;have k:ah _:=g;clear g;go_wp2_with fail
   have c:=PM.ret (y:=⟨x.pos,x.bW,x.pl,x.tr,x.pb,true,x.da⟩) (a.out.as rfl rfl rfl k.out.symm rfl);dsimp only at c;exact r.out false ⟨x.pos,x.bW,x.pl,x.tr,x.pb,true,x.da⟩ _ c (fun _=>L.out (fun h=>by rw[k.out]at h;exact Bool.noConfusion h.2.1)) (fun e=>Bool.noConfusion e)
  |false=>
   rw[g]at N;have k:ah _:=g;clear g;cases q:B with
   |false=>
    have M:ah _:=q;clear q;go_wp2_with fail
    have c:=PM.ret (y:=⟨x.pos,x.bW,x.pl,x.tr,x.pb,false,x.da⟩) (a.out.as rfl rfl rfl k.out.symm rfl);dsimp only at c;exact r.out false ⟨x.pos,x.bW,x.pl,x.tr,x.pb,false,x.da⟩ _ c (fun _=>L.out (fun h=>by rw[M.out]at h;exact Bool.noConfusion h.2.2)) (fun e=>Bool.noConfusion e)
   |true=>
    have M:ah _:=q;clear q;have b0:ah (PM w ((w3.setCell ⟨w.heap.size+2,8,none⟩ (.bool true)).setCell ⟨w.heap.size+2,6,none⟩ (.string b)) W H D K I ⟨bh,x.bW,x.pl,b,x.pb,true,x.da⟩):=((a.out.set (y:=⟨x.pos,x.bW,x.pl,x.tr,x.pb,true,x.da⟩) 8 _ (by simp[oI])).set 6 _ (by simp[oI]):PM _ _ _ _ _ _ _ _);go_wp2_with fail
    exact a1.out ⟨bh,x.bW,x.pl,b,x.pb,true,x.da⟩ _ _ _ rfl ((by show Value.int .i64 _= .int .i64 ((x.bW:Nat):Int);rw[HE.out];try rfl)) ⟨Y.out HE.out k.out M.out,uJ,a5,by show x.da.size<=bh;omega,ql,by show b.size<=s.size;omega,b0.out⟩ (by show x.pos<bh;omega)
 all_goals
  have HE:ah _:=O;rw[O];clear r0 r1 r2 r3 r4 r5 r6 r7 r8 r9 s0 s1 s2 s3 s4 s5 s6 s7 s8 s9 A C E F G;go_wp2_with fail
  refine bz (V.out _) ?_;rintro e w3 ⟨rfl,f⟩;have j:ah (PM w w3 W H D K I x):=(a.out.iU f:PM _ _ _ _ _ _ _ _);clear c0 c1 a f Z p1 p2 p3 p4 p5 p6 p7 N p9 k2 k3;have a:ah _:=j.out;clear j;obtain⟨⟨Z,p1,p2,p3,p4,p5,p6,p7,N,p9⟩,k2,k3⟩:=PM.cells a.out;obtain⟨r0,r1,r2,r3,r4,r5,r6,r7,r8,r9⟩:=PM.ER a.out;obtain⟨s0,s1,s2,s3,s4,s5,s6,s7,s8,s9⟩:=PM.soft a.out;go_wp2_with fail
  have c:=PM.ret (y:=⟨x.pos,x.bW,x.pl,x.tr,x.pb,x.tb,x.da⟩) (a.out.as rfl rfl rfl rfl rfl);dsimp only at c;exact r.out false ⟨x.pos,x.bW,x.pl,x.tr,x.pb,x.tb,x.da⟩ _ c (fun _=>L.out (fun h=>by have h1:=HE.out;omega)) (fun e=>Bool.noConfusion e)
end h_
end Go.Proofs.YtephkcdbnogdhaaGreatDoor
