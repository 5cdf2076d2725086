import Derived.Laws.MakeOwn
import Derived.Test.YtephkcdbnogdhaaGreatDoorM7
set_option linter.unusedVariables false
set_option maxHeartbeats 40000000
set_option maxRecDepth 10000
namespace Go.Proofs.YtephkcdbnogdhaaGreatDoor
open Go.Proofs.Tryz
open Go renaming World->af,Value->ay,Calls->aF,TypeId->aY
open Go.RowKit renaming Hid->ah,Below->aJ,intOf->aX
namespace Pr
open Go.RowKit Rf
theorem kM.over{w w':af}{b o:Nat}{L:List Nat}(h:kM w b o L)(e:w'.heap[b]?=w.heap[b]?):kM w' b o L:=by intro i hi;have:=h i hi;unfold World.cell? at this|-;rw[e];exact this
theorem afg:(prog.info? 3).map (fun i=>(i.zero,i.size,i.bytes))=some (some (.int .i64 0),1,8):=by kernel_rfl
theorem info_parts{P:Program}{t:aY}{z:Option ay}{a b:Nat}(h:(P.info? t).map (fun i=>(i.zero,i.size,i.bytes))=some (z,a,b)):∃i,P.info? t=some i/\i.zero=z/\i.size=a/\i.bytes=b:=by obtain⟨i,hi,e⟩:=Option.map_eq_some_iff.1 h;simp at e;exact⟨i,hi,e.1,e.2.1,e.2.2⟩
theorem jY(w:af)(o:Obj)(k:Nat)(a:k=w.heap.size):(w.alloc o).heap[k]?=some o:=by subst a;exact(dR w o).1
theorem alloc_old{w:af}{o:Obj}{k:Nat}(a:k<w.heap.size):(w.alloc o).heap[k]?=w.heap[k]?:=aj w o k a
theorem DN(w:af)(T:aY):sW (w.alloc (.cells #[.int .i64 0,.int .i64 0,.int .i64 0,.int .i64 0,.int .i64 0,.int .i64 0,.int .i64 0,.int .i64 0,.int .i64 0,.int .i64 0,.int .i64 0,.int .i64 0,.int .i64 0,.int .i64 0,.int .i64 0,.int .i64 0,.int .i64 0,.slice none 0 0] T)) w.heap.size T 0 (cN []) (.slice none 0 0):=by
 refine⟨_,jY w _ _ rfl,rfl,rfl,?_,rfl⟩;intro n a;have e:cN [] n=0:=by unfold cN;split<;>simp
 rw[e];match n,a with
 |0,_=>rfl
 |1,_=>rfl
 |2,_=>rfl
 |3,_=>rfl
 |4,_=>rfl
 |5,_=>rfl
 |6,_=>rfl
 |7,_=>rfl
 |8,_=>rfl
 |9,_=>rfl
 |10,_=>rfl
 |11,_=>rfl
 |12,_=>rfl
 |13,_=>rfl
 |14,_=>rfl
 |15,_=>rfl
 |n+16,h=>exact absurd h (by omega)
theorem DR(w:af)(T:aY):yz (w.alloc (.cells #[.int .i64 0,.int .i64 0,.int .i64 0,.int .i64 0,.int .i64 0,.int .i64 0,.int .i64 0,.int .i64 0,.int .i64 0,.int .i64 0,.int .i64 0,.int .i64 0,.int .i64 0,.int .i64 0,.int .i64 0,.int .i64 0] T)) w.heap.size T (fun _=>0):=by
 refine⟨_,jY w _ _ rfl,rfl,?_⟩;intro n a;match n,a with
 |0,_=>rfl
 |1,_=>rfl
 |2,_=>rfl
 |3,_=>rfl
 |4,_=>rfl
 |5,_=>rfl
 |6,_=>rfl
 |7,_=>rfl
 |8,_=>rfl
 |9,_=>rfl
 |10,_=>rfl
 |11,_=>rfl
 |12,_=>rfl
 |13,_=>rfl
 |14,_=>rfl
 |15,_=>rfl
 |n+16,h=>exact absurd h (by omega)
def vP(w:af)(vb N:Nat)(g:Nat->Option Nat):Prop:=∃cur,w.heap[vb]?=some (.cells cur 3 (0,0))/\cur.size=N/\∀j y,j<N->g j=some y->cur[j]?=some (.int .i64 ((y:Nat):Int))
theorem vP.over{w w':af}{vb N:Nat}{g:Nat->Option Nat}(h:vP w vb N g)(e:w'.heap[vb]?=w.heap[vb]?):vP w' vb N g:=by obtain⟨cur,a,b⟩:=h;exact⟨cur,e.trans a,b⟩
theorem vP.drew{w:af}{vb N:Nat}{g:Nat->Option Nat}(h:vP w vb N g):vP w.drew vb N g:=h
theorem vP.any{w:af}{vb N:Nat}{g:Nat->Option Nat}(h:vP w vb N g)(p:Nat)(hp:p<N):(∃v,w.cell? ⟨vb,p,none⟩=some v)/\w.frozen? ⟨vb,p,none⟩=false:=by obtain⟨cur,a,b,h3⟩:=h;refine⟨⟨cur[p]'(by omega),?_⟩,(cell_of a p).2⟩;rw[(cell_of a p).1,xZ (by omega)]
theorem vP.set{w:af}{vb N:Nat}{g:Nat->Option Nat}(h:vP w vb N g)(p y:Nat)(hp:p<N):vP (w.setCell ⟨vb,p,none⟩ (.int .i64 (y:Int))) vb N (fun j=>if j=p then some y else g j):=by
 obtain⟨cur,b,c,h3⟩:=h;refine⟨_,bG b _ _,by simpa using c,?_⟩;intro j z d a;by_cases e:j=p
 ·subst e;simp at a;subst a;rw[dY (by omega)]
 ·simp only[if_neg e]at a;rw[bC (by omega)];exact h3 j z d a
theorem Na(L:List Nat)(n:Nat):∀i,i<=15->EU (fun i=>if i<=n then sN L i else 0) (n+1) (sN L (n+1)) i=if i<=n+1 then sN L i else 0:=by
 intro i _;unfold EU;by_cases e:i=n+1
 ·subst e;rw[aC rfl,aC (ag _)]
 ·rw[au e];dsimp only;by_cases h:i<=n
  ·rw[aC h,aC (by omega)]
  ·rw[au h,au (by omega)]
def yA(L:List Nat)(i n:Nat):Nat:=if n=0 then 0 else sN L n+rk L n i
theorem DT(L:List Nat)(i n:Nat)(h:0<n):yA L i n=sN L n+rk L n i:=au (by omega)
theorem Nb(L:List Nat)(i:Nat)(b:0<L.getD i 0):∀n,n<=15->EU (yA L i) (L.getD i 0) (sN L (L.getD i 0)+rk L (L.getD i 0) i+1) n=yA L (i+1) n:=by
 intro n _;unfold EU yA;by_cases e:n=L.getD i 0
 ·rw[aC e,au (by omega),zJ,aC e.symm,<-e];omega
 ·rw[au e];by_cases a:n=0
  ·rw[aC a,aC a]
  ·rw[au a,au a,zJ,au (fun h=>e h.symm),eH]
theorem Nc(L:List Nat)(i:Nat)(b:L.getD i 0=0):∀n,n<=15->yA L i n=yA L (i+1) n:=by
 intro n _;unfold yA;by_cases a:n=0
 ·rw[aC a,aC a]
 ·rw[au a,au a,zJ,au (by omega),eH]
theorem acV(v:ay)(w:af):aF prog 230 #[v] w fun e w'=>e= .returned v/\w'=w:=by
 go_enter func230,ntmps230
 go_wp2
 go_ret;exact⟨rfl,rfl⟩
theorem sW.drew{w:af}{k:Nat}{T:aY}{a:Nat}{f:Nat->Nat}{v:ay}(h:sW w k T a f v):sW w.drew k T a f v:=h
theorem yz.drew{w:af}{k:Nat}{T:aY}{f:Nat->Nat}(h:yz w k T f):yz w.drew k T f:=h
theorem kz{B:Nat}{w w':af}(h:aJ B w w'):aJ B w w'.drew:=⟨h.os,h.tape,h.output,h.size,h.block⟩
theorem Z_(b o cap:Nat)(L:List Nat)(w:af)(h:kM w b o L)(hb:b<w.heap.size)(hl:L.length<=400)(hx:∀x∈L,x<=15):
 aF prog 229 #[.slice (some ⟨b,o,none⟩) L.length cap,.func (.func 230) #[] #[]] w fun e w'=>(∃k,e= .returned (.pointer (some ⟨k,0,none⟩))/\Gs w' k L/\w.heap.size<=k)/\aJ w.heap.size w w':=by
 go_enter func229,ntmps229
 go_wp2_with fail
 go_loopw [16] (fun i wr=> ∃j:Nat,j<=L.length/\i= .int .i64 (j:Int)/\sW wr w.heap.size 360 (dK (L.take j)) (cN (L.take j)) (.slice none 0 0)/\aJ w.heap.size w wr/\wr.heap.size=w.heap.size+1) (fun i _=>L.length-(aX i).toNat)
 case atStart=>exact⟨0,aU _,rfl,DN w _,(aP _ _).alloc (ag _) _,by simp⟩
 case round=>
  obtain⟨j,hj,rfl,d,f,z⟩:=hrel;by_cases l:j<L.length
  ·have hc:=(h.over (f.block b hb)) j l;have c:L.getD j 0<=15:=gU L 15 hx j;have HT:ah _:=uj L j l;generalize L.getD j 0=x at*;have cx:=d.cn x c;have fx:=d.fr (1+x);have A:cN (L.take j) x<=400:=by have:=B_ (L.take j) x;simp at this;omega
   have a5:ah (dK (L.take j++[x])=max (dK (L.take j)) x):=ug _ _;by_cases v:0<x
   ·have T1:=d.aex x (cN (L.take j) x+1) c ((cN (L.take j) x:Int)+1) (by omega);have a6:=T1.c0;have a7:=T1.fr 0;obtain⟨cc,B⟩:∃cc,cc=cN (L.take j) x:=⟨_,rfl⟩;rw[<-B]at cx A T1 a6 a7;have a8:ah (∀n,EU (cN (L.take j)) x (cc+1) n=cN (L.take j++[x]) n):=fun n=>by rw[B];exact TJ _ x v n
    clear B;generalize dK (L.take j)=lg at*;go_wp2_with fail
    go_region
    go_wp2_with fail
    go_roundw
    case rel=>refine⟨j+1,by omega,by go_num,?_,kz ((f.setCell (ag _) _).setCell (ag _) _),by simpa using z⟩;rw[HT.out,a5.out];exact((T1.aey (max lg x) _ (by split<;>omega)).congr (fun n _=>a8.out n)).drew
    case measure=>simp[aX];omega
   ·have K:ah (dK (L.take j++[x])=dK (L.take j)/\∀n,cN (L.take j) n=cN (L.take j++[x]) n):=(⟨xE _ x v,M_ _ x v⟩:_/\_);go_wp2_with fail
    go_roundw
    case rel=>refine⟨j+1,by omega,by go_num,?_,f,z⟩;rw[HT.out,K.out.1];exact d.congr (fun n _=>K.out.2 n)
    case measure=>simp[aX];omega
  ·have M:L.take j=L:=iY (by omega);rw[M]at d;clear M;have C:=DR wr 340;have N:=d.over (alloc_old (o:= .cells #[.int .i64 0,.int .i64 0,.int .i64 0,.int .i64 0,.int .i64 0,.int .i64 0,.int .i64 0,.int .i64 0,.int .i64 0,.int .i64 0,.int .i64 0,.int .i64 0,.int .i64 0,.int .i64 0,.int .i64 0,.int .i64 0] 340) d.lt);rw[z]at C;go_wp2_with fail
   go_loopw [9] (fun lv wx=> ∃n:Nat,1<=n/\n<=15/\lv= .int .i64 (n:Int)/\sW wx w.heap.size 360 (dK L) (cN L) (.slice none 0 0)/\yz wx (w.heap.size+1) 340 (fun i=>if i<=n then sN L i else 0)/\aJ w.heap.size w wx/\wx.heap.size=w.heap.size+2) (fun lv _=>16-(aX lv).toNat)
   case atStart=>
    refine⟨1,by omega,by omega,rfl,N,C.congr (fun n O=> ?_),f.alloc (by omega) _,by simp;omega⟩;rcases n with _|_|n
    ·simp[sN]
    ·simp[sN,cN]
    ·simp
   case round=>
    clear d f z C N;obtain⟨n,c7,c8,rfl,d,m,f,z⟩:=hrel;have a9:sN L n<=6000:=by have:=MP L hl n;omega
    have A:cN L n<=400:=by have:=B_ L n;omega
    by_cases O:n<15
    ·have Q:=m.cn n (by omega);have a2:=m.cn (n+1) (by omega);have t1:=d.cn n (by omega);have fa:=m.fr (n+1);have HS:ah (sN L (n+1)=sN L n+cN L n):=rfl;have HU:ah _:=Na L n;simp only[Nat.le_refl,if_true,show¬n+1<=n by omega,if_false]at Q a2;obtain⟨sn,D⟩:∃sn,sn=sN L n:=⟨_,rfl⟩;obtain⟨cn,E⟩:∃cn,cn=cN L n:=⟨_,rfl⟩;rw[<-D]at Q a9;rw[<-E]at t1 A;have HX:ah (sN L (n+1)=sn+cn):=(by rw[HS.out,D,E]:_=_);clear D E;go_wp2_with fail
     go_region
     go_wp2_with fail
     go_roundw
     case rel=>refine⟨n+1,by omega,by omega,by go_num,(d.over (aB _ _ (by omega))).drew,?_,kz (f.setCell (show w.heap.size<=w.heap.size+1 by omega) _),by simpa using z⟩;exact((m.set (n+1) (sN L (n+1)) (by omega) _ (by rw[HX.out];omega)).congr (fun i hi=>HU.out i hi)).drew
     case measure=>simp[aX];omega
    ·have R:n=15:=by omega
     subst R;have Q:=m.cn 15 (by omega);have t1:=d.cn 15 (by omega);have F:=d.Gq;have S:=d.fr 17;have b0:ah (sN L 16=sN L 15+cN L 15):=rfl;simp only[Nat.le_refl,if_true]at Q;obtain⟨a,r⟩:∃a,a=sN L 16:=⟨_,rfl⟩;have c9:a<=6400:=by rw[r];exact Pq L hl
     have c4:(sN L 15:Int)+(cN L 15:Int)=(a:Int):=by rw[r,b0.out];omega
     have K:ah (a=sN L 16):=r;have q:yz wr (w.heap.size+1) 340 (yA L 0):=m.congr (fun i hi=>by
      rw[aC hi];unfold yA;by_cases e0:i=0
      ·subst e0;simp[sN]
      ·rw[au e0];simp[rk,jy])
     clear r m;generalize sN L 15=d0 at*;generalize cN L 15=d1 at*;obtain⟨i0,hi,T,U,V⟩:=info_parts afg;have b1:∀W:af,(Instr.makeSlice 29 (.int .i64 (a:Int)) (.int .i64 (a:Int))).run prog W= .ok (.slice (some ⟨W.heap.size,0,none⟩) a a) (W.alloc (.cells (madeCells #[.int .i64 0] a) 3)):=fun W=>by have h:=run_make (P:=prog) W 29 3 i0 _ underlying29 hi T .i64 .i64 (a:Int) (a:Int) (by omega) (by omega) (by rw[V];omega) (by omega);rw[h,U];simp[Value.cells]
     have b2:∀o:Obj,(wr.alloc o).cell? ⟨w.heap.size,17,none⟩=_:=fun o=>Er.dm F o;have b3:∀o:Obj,(wr.alloc o).frozen? ⟨w.heap.size,17,none⟩=false:=fun o=>Er.f_ F o S;clear hi T U V F S;go_wp2_with fail
     go_region
     have T2:sW ((wr.setCell ⟨w.heap.size,17,none⟩ (.slice (some ⟨w.heap.size+2,0,none⟩) a a)).alloc (.cells (madeCells #[.int .i64 0] a) 3)).drew w.heap.size 360 (dK L) (cN L) (.slice (some ⟨w.heap.size+2,0,none⟩) a a):=
      ((d.aez _).over (alloc_old (by simp;omega))).drew
     have A2:yz ((wr.setCell ⟨w.heap.size,17,none⟩ (.slice (some ⟨w.heap.size+2,0,none⟩) a a)).alloc (.cells (madeCells #[.int .i64 0] a) 3)).drew (w.heap.size+1) 340 (yA L 0):=
      ((q.over (aB _ _ (by omega))).over (alloc_old (by simp;omega))).drew
     have V2:vP ((wr.setCell ⟨w.heap.size,17,none⟩ (.slice (some ⟨w.heap.size+2,0,none⟩) a a)).alloc (.cells (madeCells #[.int .i64 0] a) 3)).drew (w.heap.size+2) a (fun _=>none):=
      ⟨_,jY _ _ _ (by simp;omega),og _ _,fun j y _ h=>by cases h⟩
     have B2:aJ w.heap.size w ((wr.setCell ⟨w.heap.size,17,none⟩ (.slice (some ⟨w.heap.size+2,0,none⟩) a a)).alloc (.cells (madeCells #[.int .i64 0] a) 3)).drew:=kz ((f.setCell (ag _) _).alloc (by simp;omega) _);clear d q f z b2 b3 b1 t1 Q;generalize ((wr.setCell ⟨w.heap.size,17,none⟩ (.slice (some ⟨w.heap.size+2,0,none⟩) a a)).alloc (.cells (madeCells #[.int .i64 0] a) 3)).drew=w2 at*;go_wp2_with fail
     go_loopw [74] (fun iv wx=> ∃(i:Nat) (g:Nat->Option Nat),i<=L.length/\iv= .int .i64 (i:Int)/\sW wx w.heap.size 360 (dK L) (cN L) (.slice (some ⟨w.heap.size+2,0,none⟩) a a)/\yz wx (w.heap.size+1) 340 (yA L i)/\vP wx (w.heap.size+2) a g/\ku L i g/\aJ w.heap.size w wx) (fun iv _=>L.length-(aX iv).toNat)
     case atStart=>exact⟨0,_,aU _,rfl,T2,A2,V2,ku.begin L _,B2⟩
     case round=>
      clear T2 A2 V2 B2;obtain⟨i,g,hi,rfl,d,m,X,hP,f⟩:=hrel;by_cases l:i<L.length
      ·have hc:=(h.over (f.block b hb)) i l;have c:L.getD i 0<=15:=gU L 15 hx i;by_cases v:0<L.getD i 0
       ·have s:=(m.cn (L.getD i 0) c);have fA:=m.fr (L.getD i 0);have Gq:=d.Gq;have ql:sN L (L.getD i 0)+rk L (L.getD i 0) i<a:=by rw[K.out];exact GI L _ _ c (VI L i l (by omega))
        obtain⟨⟨v0,G⟩,H⟩:=X.any _ ql;have HP:ah _:=hP.more l (by omega);have HX:ah _:=Nb L i v;rw[DT L i _ v]at s;have t:=X.set _ i ql;obtain⟨x,u⟩:∃x,x=L.getD i 0:=⟨_,rfl⟩;rw[<-u]at hc c v s fA ql G H t;have b4:ah (ku L (i+1) (fun j=>if j=sN L x+rk L x i then some i else g j)):=(by rw[u];exact HP.out:ku _ _ _);have b5:ah (∀n,n<=15->EU (yA L i) x (sN L x+rk L x i+1) n=yA L (i+1) n):=(by rw[u];exact HX.out:∀n,n<=15->_);clear HP HX u;obtain⟨p,hp⟩:∃p,p=sN L x+rk L x i:=⟨_,rfl⟩;simp only[<-hp]at s ql G H t;have I:ah (p=sN L x+rk L x i):=hp;clear hp;have Y:yz (wr.setCell ⟨w.heap.size+2,p,none⟩ (.int .i64 (i:Int))) (w.heap.size+1) 340 (yA L i):=m.over (aB _ _ (by omega));have Z:sW (wr.setCell ⟨w.heap.size+2,p,none⟩ (.int .i64 (i:Int))) w.heap.size 360 (dK L) (cN L) (.slice (some ⟨w.heap.size+2,0,none⟩) a a):=d.over (aB _ _ (by omega));have a0:aJ w.heap.size w (wr.setCell ⟨w.heap.size+2,p,none⟩ (.int .i64 (i:Int))):=f.setCell (show w.heap.size<=w.heap.size+2 by omega) _;have c5:i<=400:=by omega
        go_upto_region 19 with fail
        go_cut [] (fun wx=>sW wx w.heap.size 360 (dK L) (cN L) (.slice (some ⟨w.heap.size+2,0,none⟩) a a)/\yz wx (w.heap.size+1) 340 (yA L i)/\vP wx (w.heap.size+2) a (fun j=>if j=p then some i else g j)/\aJ w.heap.size w wx)
        case first=>
         go_region_with ((go_at_call 230;refine(acV _ _).mono ?_;rintro e w3 ⟨rfl,rfl⟩))
         all_goals
          go_wp2_with fail
          go_meet
          case rel=>exact⟨Z.drew,Y.drew,t.drew,kz a0⟩
        case rest=>
         obtain⟨b6,q,b7,b8⟩:=hcut;have a3:=q.cn x c;have c6:=q.fr x;rw[DT L i x v,<-I.out]at a3;have d2:p<=6400:=by omega
         clear Z Y a0 d m f X t G H fA s Gq hc;go_wp2_with fail
         go_roundw
         case rel=>
          refine⟨i+1,(fun j=>if j=p then some i else g j),by omega,by go_num,b6.over (aB _ _ (by omega)),?_,b7.over (aB _ _ (by omega)),?_,b8.setCell (show w.heap.size<=w.heap.size+1 by omega) _⟩
          ·refine(q.set x (p+1) c _ (by omega)).congr (fun n O=> ?_);rw[I.out];exact b5.out n O
          ·rw[I.out];exact b4.out
         case measure=>simp[aX];omega
       ·have J:L.getD i 0=0:=by omega
        have HP:ah (ku L (i+1) g):=hP.none J;have HR:ah (∀n,n<=15->yA L i n=yA L (i+1) n):=Nc L i J;rw[J]at hc;go_wp2_with fail
        go_roundw
        case rel=>exact⟨i+1,g,by omega,by go_num,d,m.congr (fun n O=>HR.out n O),X,HP.out,f⟩
        case measure=>simp[aX];omega
      ·have b9:i=L.length:=by omega
       subst b9;have c3:Gs wr w.heap.size L:=by obtain⟨a4,v1,v2,v3⟩:=X;refine⟨w.heap.size+2,a4,sW.hd (by rw[<-K.out];exact d),v1,fun j hj=> ?_⟩;exact v3 j _ (by rw[K.out];exact hj) (hP.all j hj)
       go_wp2_with fail
       go_ret;exact⟨⟨_,rfl,c3,ag _⟩,f⟩
theorem aea:(prog.info? 314).map (fun i=>(i.zero,i.size,i.bytes))=some (some (.agg #[.int .u8 0,.int .i64 0,.int .u64 0]),3,24):=by kernel_rfl
def oW(w:af)(vb N:Nat)(a:Nat->Nat×Nat×Nat)(g:Nat->Option Nat):Prop:=∃cur,w.heap[vb]?=some (.cells cur 314 (0,0))/\cur.size=N*3/\
 ∀j y,j<N->g j=some y->cur[j*3]?=some (.int .u8 ((a y).1:Int))/\cur[j*3+1]?=some (.int .i64 ((a y).2.1:Int))/\cur[j*3+2]?=some (.int .u64 ((a y).2.2:Int))
theorem oW.lt{w:af}{vb N:Nat}{a:Nat->Nat×Nat×Nat}{g:Nat->Option Nat}(h:oW w vb N a g):vb<w.heap.size:=by obtain⟨cur,b,_⟩:=h;exact ai b
theorem oW.over{w w':af}{vb N:Nat}{a:Nat->Nat×Nat×Nat}{g:Nat->Option Nat}(h:oW w vb N a g)(e:w'.heap[vb]?=w.heap[vb]?):oW w' vb N a g:=by obtain⟨cur,b,c⟩:=h;exact⟨cur,e.trans b,c⟩
theorem oW.drew{w:af}{vb N:Nat}{a:Nat->Nat×Nat×Nat}{g:Nat->Option Nat}(h:oW w vb N a g):oW w.drew vb N a g:=h
theorem oW.any{w:af}{vb N:Nat}{a:Nat->Nat×Nat×Nat}{g:Nat->Option Nat}(h:oW w vb N a g)(p q:Nat)(hp:p<N)(c:q<3):(∃v,w.cell? ⟨vb,p*3+q,none⟩=some v)/\w.frozen? ⟨vb,p*3+q,none⟩=false:=by obtain⟨cur,b,d,h3⟩:=h;refine⟨⟨cur[p*3+q]'(by omega),?_⟩,(cell_of b _).2⟩;rw[(cell_of b _).1,xZ (by omega)]
theorem oW.set{w:af}{vb N:Nat}{a:Nat->Nat×Nat×Nat}{g:Nat->Option Nat}(h:oW w vb N a g)(p y:Nat)(hp:p<N):
 oW (((w.setCell ⟨vb,p*3,none⟩ (.int .u8 ((a y).1:Int))).setCell ⟨vb,p*3+1,none⟩ (.int .i64 ((a y).2.1:Int))).setCell ⟨vb,p*3+2,none⟩ (.int .u64 ((a y).2.2:Int))) vb N a (fun j=>if j=p then some y else g j):=by
 obtain⟨cur,d,f,h3⟩:=h;refine⟨_,bG (bG (bG d _ _) _ _) _ _,by simpa using f,?_⟩;intro j z i b;by_cases e:j=p
 ·subst e;simp at b;subst b;refine⟨?_,?_,?_⟩
  ·rw[bC (by omega),bC (by omega),dY (by omega)]
  ·rw[bC (by omega),dY (by simp;omega)]
  ·rw[dY (by simp;omega)]
 ·simp only[if_neg e]at b;have c:=h3 j z i b;refine⟨?_,?_,?_⟩
  ·rw[bC (by omega),bC (by omega),bC (by omega)];exact c.1
  ·rw[bC (by omega),bC (by omega),bC (by omega)];exact c.2.1
  ·rw[bC (by omega),bC (by omega),bC (by omega)];exact c.2.2
theorem aab(y:Nat)(w:af)(a:y<=400):
 aF prog 223 #[.int .i64 (y:Int)] w fun e w'=>e= .returned (.agg #[.int .u8 ((jF y).1:Int),.int .i64 ((jF y).2.1:Int),.int .u64 ((jF y).2.2:Int)])/\w'=w.alloc (.cells #[.int .u8 ((jF y).1:Int),.int .i64 ((jF y).2.1:Int),.int .u64 ((jF y).2.2:Int)] 314):=ZX y w a
theorem aac(b o cap:Nat)(L:List Nat)(w:af)(h:kM w b o L)(hb:b<w.heap.size)(hl:L.length<=400)(hx:∀x∈L,x<=15):
 aF prog 222 #[.slice (some ⟨b,o,none⟩) L.length cap,.func (.func 223) #[] #[]] w fun e w'=>(∃k,e= .returned (.pointer (some ⟨k,0,none⟩))/\vF w' k jF L/\w.heap.size<=k)/\aJ w.heap.size w w':=by
 go_enter func222,ntmps222
 go_wp2_with fail
 go_loopw [16] (fun i wr=> ∃j:Nat,j<=L.length/\i= .int .i64 (j:Int)/\sW wr w.heap.size 343 (dK (L.take j)) (cN (L.take j)) (.slice none 0 0)/\aJ w.heap.size w wr/\wr.heap.size=w.heap.size+1) (fun i _=>L.length-(aX i).toNat)
 case atStart=>exact⟨0,aU _,rfl,DN w _,(aP _ _).alloc (ag _) _,by simp⟩
 case round=>
  obtain⟨j,hj,rfl,d,f,F⟩:=hrel;by_cases m:j<L.length
  ·have hc:=(h.over (f.block b hb)) j m;have c:L.getD j 0<=15:=gU L 15 hx j;have HT:ah _:=uj L j m;generalize L.getD j 0=x at*;have cx:=d.cn x c;have fx:=d.fr (1+x);have G:cN (L.take j) x<=400:=by have:=B_ (L.take j) x;simp at this;omega
   have b0:ah (dK (L.take j++[x])=max (dK (L.take j)) x):=ug _ _;by_cases D:0<x
   ·have T1:=d.aex x (cN (L.take j) x+1) c ((cN (L.take j) x:Int)+1) (by omega);have b1:=T1.c0;have b2:=T1.fr 0;obtain⟨cc,H⟩:∃cc,cc=cN (L.take j) x:=⟨_,rfl⟩;rw[<-H]at cx G T1 b1 b2;have b3:ah (∀n,EU (cN (L.take j)) x (cc+1) n=cN (L.take j++[x]) n):=fun n=>by rw[H];exact TJ _ x D n
    clear H;generalize dK (L.take j)=lg at*;go_wp2_with fail
    go_region
    go_wp2_with fail
    go_roundw
    case rel=>refine⟨j+1,by omega,by go_num,?_,kz ((f.setCell (ag _) _).setCell (ag _) _),by simpa using F⟩;rw[HT.out,b0.out];exact((T1.aey (max lg x) _ (by split<;>omega)).congr (fun n _=>b3.out n)).drew
    case measure=>simp[aX];omega
   ·have Q:ah (dK (L.take j++[x])=dK (L.take j)/\∀n,cN (L.take j) n=cN (L.take j++[x]) n):=(⟨xE _ x D,M_ _ x D⟩:_/\_);go_wp2_with fail
    go_roundw
    case rel=>refine⟨j+1,by omega,by go_num,?_,f,F⟩;rw[HT.out,Q.out.1];exact d.congr (fun n _=>Q.out.2 n)
    case measure=>simp[aX];omega
  ·have R:L.take j=L:=iY (by omega);rw[R]at d;clear R;have I:=DR wr 340;have S:=d.over (alloc_old (o:= .cells #[.int .i64 0,.int .i64 0,.int .i64 0,.int .i64 0,.int .i64 0,.int .i64 0,.int .i64 0,.int .i64 0,.int .i64 0,.int .i64 0,.int .i64 0,.int .i64 0,.int .i64 0,.int .i64 0,.int .i64 0,.int .i64 0] 340) d.lt);rw[F]at I;go_wp2_with fail
   go_loopw [9] (fun lv wx=> ∃n:Nat,1<=n/\n<=15/\lv= .int .i64 (n:Int)/\sW wx w.heap.size 343 (dK L) (cN L) (.slice none 0 0)/\yz wx (w.heap.size+1) 340 (fun i=>if i<=n then sN L i else 0)/\aJ w.heap.size w wx/\wx.heap.size=w.heap.size+2) (fun lv _=>16-(aX lv).toNat)
   case atStart=>
    refine⟨1,by omega,by omega,rfl,S,I.congr (fun n T=> ?_),f.alloc (by omega) _,by simp;omega⟩;rcases n with _|_|n
    ·simp[sN]
    ·simp[sN,cN]
    ·simp
   case round=>
    clear d f F I S;obtain⟨n,e1,e2,rfl,d,l,f,F⟩:=hrel;have b4:sN L n<=6000:=by have:=MP L hl n;omega
    have G:cN L n<=400:=by have:=B_ L n;omega
    by_cases T:n<15
    ·have U:=l.cn n (by omega);have a2:=l.cn (n+1) (by omega);have t1:=d.cn n (by omega);have fa:=l.fr (n+1);have HS:ah (sN L (n+1)=sN L n+cN L n):=rfl;have HU:ah _:=Na L n;simp only[Nat.le_refl,if_true,show¬n+1<=n by omega,if_false]at U a2;obtain⟨sn,J⟩:∃sn,sn=sN L n:=⟨_,rfl⟩;obtain⟨cn,K⟩:∃cn,cn=cN L n:=⟨_,rfl⟩;rw[<-J]at U b4;rw[<-K]at t1 G;have HX:ah (sN L (n+1)=sn+cn):=(by rw[HS.out,J,K]:_=_);clear J K;go_wp2_with fail
     go_region
     go_wp2_with fail
     go_roundw
     case rel=>refine⟨n+1,by omega,by omega,by go_num,(d.over (aB _ _ (by omega))).drew,?_,kz (f.setCell (show w.heap.size<=w.heap.size+1 by omega) _),by simpa using F⟩;exact((l.set (n+1) (sN L (n+1)) (by omega) _ (by rw[HX.out];omega)).congr (fun i hi=>HU.out i hi)).drew
     case measure=>simp[aX];omega
    ·have V:n=15:=by omega
     subst V;have U:=l.cn 15 (by omega);have t1:=d.cn 15 (by omega);have M:=d.Gq;have X:=d.fr 17;have b5:ah (sN L 16=sN L 15+cN L 15):=rfl;simp only[Nat.le_refl,if_true]at U;obtain⟨a,z⟩:∃a,a=sN L 16:=⟨_,rfl⟩;have e3:a<=6400:=by rw[z];exact Pq L hl
     have d8:(sN L 15:Int)+(cN L 15:Int)=(a:Int):=by rw[z,b5.out];omega
     have Q:ah (a=sN L 16):=z;have q:yz wr (w.heap.size+1) 340 (yA L 0):=l.congr (fun i hi=>by
      rw[aC hi];unfold yA;by_cases e0:i=0
      ·subst e0;simp[sN]
      ·rw[au e0];simp[rk,jy])
     clear z l;generalize sN L 15=e4 at*;generalize cN L 15=e5 at*;obtain⟨i0,hi,Y,Z,a0⟩:=info_parts aea;have b6:∀W:af,(Instr.makeSlice 341 (.int .i64 (a:Int)) (.int .i64 (a:Int))).run prog W= .ok (.slice (some ⟨W.heap.size,0,none⟩) a a) (W.alloc (.cells (madeCells #[.int .u8 0,.int .i64 0,.int .u64 0] (a*3)) 314)):=fun W=>by have h:=run_make (P:=prog) W 341 314 i0 _ underlying341 hi Y .i64 .i64 (a:Int) (a:Int) (by omega) (by omega) (by rw[a0];omega) (by omega);rw[h,Z];simp[Value.cells]
     have b7:∀o:Obj,(wr.alloc o).cell? ⟨w.heap.size,17,none⟩=_:=fun o=>Er.dm M o;have b8:∀o:Obj,(wr.alloc o).frozen? ⟨w.heap.size,17,none⟩=false:=fun o=>Er.f_ M o X;clear hi Y Z a0 M X;go_wp2_with fail
     go_region
     have T2:sW ((wr.setCell ⟨w.heap.size,17,none⟩ (.slice (some ⟨w.heap.size+2,0,none⟩) a a)).alloc (.cells (madeCells #[.int .u8 0,.int .i64 0,.int .u64 0] (a*3)) 314)).drew w.heap.size 343 (dK L) (cN L) (.slice (some ⟨w.heap.size+2,0,none⟩) a a):=
      ((d.aez _).over (alloc_old (by simp;omega))).drew
     have A2:yz ((wr.setCell ⟨w.heap.size,17,none⟩ (.slice (some ⟨w.heap.size+2,0,none⟩) a a)).alloc (.cells (madeCells #[.int .u8 0,.int .i64 0,.int .u64 0] (a*3)) 314)).drew (w.heap.size+1) 340 (yA L 0):=
      ((q.over (aB _ _ (by omega))).over (alloc_old (by simp;omega))).drew
     have V2:oW ((wr.setCell ⟨w.heap.size,17,none⟩ (.slice (some ⟨w.heap.size+2,0,none⟩) a a)).alloc (.cells (madeCells #[.int .u8 0,.int .i64 0,.int .u64 0] (a*3)) 314)).drew (w.heap.size+2) a jF (fun _=>none):=
      ⟨_,jY _ _ _ (by simp;omega),og _ _,fun j y _ h=>by cases h⟩
     have B2:aJ w.heap.size w ((wr.setCell ⟨w.heap.size,17,none⟩ (.slice (some ⟨w.heap.size+2,0,none⟩) a a)).alloc (.cells (madeCells #[.int .u8 0,.int .i64 0,.int .u64 0] (a*3)) 314)).drew:=kz ((f.setCell (ag _) _).alloc (by simp;omega) _);clear d q f F b7 b8 b6 t1 U;generalize ((wr.setCell ⟨w.heap.size,17,none⟩ (.slice (some ⟨w.heap.size+2,0,none⟩) a a)).alloc (.cells (madeCells #[.int .u8 0,.int .i64 0,.int .u64 0] (a*3)) 314)).drew=w2 at*;go_wp2_with fail
     go_loopw [74] (fun iv wx=> ∃(i:Nat) (g:Nat->Option Nat),i<=L.length/\iv= .int .i64 (i:Int)/\sW wx w.heap.size 343 (dK L) (cN L) (.slice (some ⟨w.heap.size+2,0,none⟩) a a)/\yz wx (w.heap.size+1) 340 (yA L i)/\oW wx (w.heap.size+2) a jF g/\ku L i g/\aJ w.heap.size w wx) (fun iv _=>L.length-(aX iv).toNat)
     case atStart=>exact⟨0,_,aU _,rfl,T2,A2,V2,ku.begin L _,B2⟩
     case round=>
      clear T2 A2 V2 B2;obtain⟨i,g,hi,rfl,d,l,E,hP,f⟩:=hrel;by_cases m:i<L.length
      ·have hc:=(h.over (f.block b hb)) i m;have c:L.getD i 0<=15:=gU L 15 hx i;by_cases D:0<L.getD i 0
       ·have s:=(l.cn (L.getD i 0) c);have fA:=l.fr (L.getD i 0);have Gq:=d.Gq;have ql:sN L (L.getD i 0)+rk L (L.getD i 0) i<a:=by rw[Q.out];exact GI L _ _ c (VI L i m (by omega))
        obtain⟨⟨v0,r⟩,t⟩:=E.any _ 0 ql (by omega);obtain⟨⟨v1,u⟩,A⟩:=E.any _ 1 ql (by omega);obtain⟨⟨v2,v⟩,B⟩:=E.any _ 2 ql (by omega);have HP:ah _:=hP.more m (by omega);have HX:ah _:=Nb L i D;rw[DT L i _ D]at s;obtain⟨x,C⟩:∃x,x=L.getD i 0:=⟨_,rfl⟩;rw[<-C]at hc c D s fA ql r t u A v B;have b9:ah (ku L (i+1) (fun j=>if j=sN L x+rk L x i then some i else g j)):=(by rw[C];exact HP.out:ku _ _ _);have c3:ah (∀n,n<=15->EU (yA L i) x (sN L x+rk L x i+1) n=yA L (i+1) n):=(by rw[C];exact HX.out:∀n,n<=15->_);clear HP HX C;obtain⟨p,hp⟩:∃p,p=sN L x+rk L x i:=⟨_,rfl⟩;simp only[<-hp]at s ql r t u A v B;have N:ah (p=sN L x+rk L x i):=hp;clear hp;have a3:∀o:Obj,yz (wr.alloc o) (w.heap.size+1) 340 (yA L i):=fun o=>l.over (alloc_old l.lt);have a4:∀o:Obj,sW (wr.alloc o) w.heap.size 343 (dK L) (cN L) (.slice (some ⟨w.heap.size+2,0,none⟩) a a):=fun o=>d.over (alloc_old d.lt);have a5:∀o:Obj,oW (wr.alloc o) (w.heap.size+2) a jF g:=fun o=>E.over (alloc_old E.lt);have a6:∀o:Obj,aJ w.heap.size w (wr.alloc o):=fun o=>f.alloc (BB d.lt) _;simp only[Nat.add_zero]at r t;have c4:∀o:Obj,(wr.alloc o).cell? ⟨w.heap.size+1,x,none⟩=_:=fun o=>Er.dm s o;have c5:∀o:Obj,(wr.alloc o).cell? ⟨w.heap.size,17,none⟩=_:=fun o=>Er.dm Gq o;have c6:∀o:Obj,(wr.alloc o).cell? ⟨w.heap.size+2,p*3,none⟩=_:=fun o=>Er.dm r o;have c7:∀o:Obj,(wr.alloc o).cell? ⟨w.heap.size+2,p*3+1,none⟩=_:=fun o=>Er.dm u o;have c8:∀o:Obj,(wr.alloc o).cell? ⟨w.heap.size+2,p*3+2,none⟩=_:=fun o=>Er.dm v o;have c9:∀o:Obj,(wr.alloc o).frozen? ⟨w.heap.size+2,p*3,none⟩=false:=fun o=>Er.f_ r o t;have d0:∀o:Obj,(wr.alloc o).frozen? ⟨w.heap.size+2,p*3+1,none⟩=false:=fun o=>Er.f_ u o A;have d1:∀o:Obj,(wr.alloc o).frozen? ⟨w.heap.size+2,p*3+2,none⟩=false:=fun o=>Er.f_ v o B;have a7:i<=400:=by omega
        go_upto_region 19 with fail
        go_cut [] (fun wx=>sW wx w.heap.size 343 (dK L) (cN L) (.slice (some ⟨w.heap.size+2,0,none⟩) a a)/\yz wx (w.heap.size+1) 340 (yA L i)/\oW wx (w.heap.size+2) a jF (fun j=>if j=p then some i else g j)/\aJ w.heap.size w wx)
        case first=>
         go_region_with ((go_at_call 223;refine(aab i _ a7).mono ?_;rintro e w3 ⟨rfl,rfl⟩))
         all_goals
          go_wp2_with fail
          go_meet
          case rel=>exact⟨((((a4 _).over (aB _ _ (show w.heap.size≠w.heap.size+2 by omega))).over (aB _ _ (show w.heap.size≠w.heap.size+2 by omega))).over (aB _ _ (show w.heap.size≠w.heap.size+2 by omega))).drew,((((a3 _).over (aB _ _ (show w.heap.size+1≠w.heap.size+2 by omega))).over (aB _ _ (show w.heap.size+1≠w.heap.size+2 by omega))).over (aB _ _ (show w.heap.size+1≠w.heap.size+2 by omega))).drew,((a5 _).set p i ql).drew,kz ((((a6 _).setCell (show w.heap.size<=w.heap.size+2 by omega) _).setCell (show w.heap.size<=w.heap.size+2 by omega) _).setCell (show w.heap.size<=w.heap.size+2 by omega) _)⟩
        case rest=>
         obtain⟨d2,q,d4,d5⟩:=hcut;have a8:=q.cn x c;have d9:=q.fr x;rw[DT L i x D,<-N.out]at a8;have e6:p<=6400:=by omega
         clear a4 a3 a5 a6 c4 c5 c6 c7 c8 c9 d0 d1 d l f E r t u A v B fA s Gq hc;go_wp2_with fail
         go_roundw
         case rel=>
          refine⟨i+1,(fun j=>if j=p then some i else g j),by omega,by go_num,d2.over (aB _ _ (by omega)),?_,d4.over (aB _ _ (by omega)),?_,d5.setCell (show w.heap.size<=w.heap.size+1 by omega) _⟩
          ·refine(q.set x (p+1) c _ (by omega)).congr (fun n T=> ?_);rw[N.out];exact c3.out n T
          ·rw[N.out];exact b9.out
         case measure=>simp[aX];omega
       ·have O:L.getD i 0=0:=by omega
        have HP:ah (ku L (i+1) g):=hP.none O;have HR:ah (∀n,n<=15->yA L i n=yA L (i+1) n):=Nc L i O;rw[O]at hc;go_wp2_with fail
        go_roundw
        case rel=>exact⟨i+1,g,by omega,by go_num,d,l.congr (fun n T=>HR.out n T),E,HP.out,f⟩
        case measure=>simp[aX];omega
      ·have d6:i=L.length:=by omega
       subst d6;have d7:vF wr w.heap.size jF L:=by obtain⟨a9,v1,v2,v3⟩:=E;refine⟨w.heap.size+2,a9,sW.hd (by rw[<-Q.out];exact d),v1,fun j hj=> ?_⟩;exact v3 j _ (by rw[Q.out];exact hj) (hP.all j hj)
       go_wp2_with fail
       go_ret;exact⟨⟨_,rfl,d7,ag _⟩,f⟩
theorem XB(y:Nat)(w:af)(a:y<=400):
 aF prog 224 #[.int .i64 (y:Int)] w fun e w'=>e= .returned (.agg #[.int .u8 ((lZ y).1:Int),.int .i64 ((lZ y).2.1:Int),.int .u64 ((lZ y).2.2:Int)])/\w'=w.alloc (.cells #[.int .u8 ((lZ y).1:Int),.int .i64 ((lZ y).2.1:Int),.int .u64 ((lZ y).2.2:Int)] 314):=XA y w a
theorem aad(b o cap:Nat)(L:List Nat)(w:af)(h:kM w b o L)(hb:b<w.heap.size)(hl:L.length<=400)(hx:∀x∈L,x<=15):
 aF prog 222 #[.slice (some ⟨b,o,none⟩) L.length cap,.func (.func 224) #[] #[]] w fun e w'=>(∃k,e= .returned (.pointer (some ⟨k,0,none⟩))/\vF w' k lZ L/\w.heap.size<=k)/\aJ w.heap.size w w':=by
 go_enter func222,ntmps222
 go_wp2_with fail
 go_loopw [16] (fun i wr=> ∃j:Nat,j<=L.length/\i= .int .i64 (j:Int)/\sW wr w.heap.size 343 (dK (L.take j)) (cN (L.take j)) (.slice none 0 0)/\aJ w.heap.size w wr/\wr.heap.size=w.heap.size+1) (fun i _=>L.length-(aX i).toNat)
 case atStart=>exact⟨0,aU _,rfl,DN w _,(aP _ _).alloc (ag _) _,by simp⟩
 case round=>
  obtain⟨j,hj,rfl,d,f,F⟩:=hrel;by_cases m:j<L.length
  ·have hc:=(h.over (f.block b hb)) j m;have c:L.getD j 0<=15:=gU L 15 hx j;have HT:ah _:=uj L j m;generalize L.getD j 0=x at*;have cx:=d.cn x c;have fx:=d.fr (1+x);have G:cN (L.take j) x<=400:=by have:=B_ (L.take j) x;simp at this;omega
   have b0:ah (dK (L.take j++[x])=max (dK (L.take j)) x):=ug _ _;by_cases D:0<x
   ·have T1:=d.aex x (cN (L.take j) x+1) c ((cN (L.take j) x:Int)+1) (by omega);have b1:=T1.c0;have b2:=T1.fr 0;obtain⟨cc,H⟩:∃cc,cc=cN (L.take j) x:=⟨_,rfl⟩;rw[<-H]at cx G T1 b1 b2;have b3:ah (∀n,EU (cN (L.take j)) x (cc+1) n=cN (L.take j++[x]) n):=fun n=>by rw[H];exact TJ _ x D n
    clear H;generalize dK (L.take j)=lg at*;go_wp2_with fail
    go_region
    go_wp2_with fail
    go_roundw
    case rel=>refine⟨j+1,by omega,by go_num,?_,kz ((f.setCell (ag _) _).setCell (ag _) _),by simpa using F⟩;rw[HT.out,b0.out];exact((T1.aey (max lg x) _ (by split<;>omega)).congr (fun n _=>b3.out n)).drew
    case measure=>simp[aX];omega
   ·have Q:ah (dK (L.take j++[x])=dK (L.take j)/\∀n,cN (L.take j) n=cN (L.take j++[x]) n):=(⟨xE _ x D,M_ _ x D⟩:_/\_);go_wp2_with fail
    go_roundw
    case rel=>refine⟨j+1,by omega,by go_num,?_,f,F⟩;rw[HT.out,Q.out.1];exact d.congr (fun n _=>Q.out.2 n)
    case measure=>simp[aX];omega
  ·have R:L.take j=L:=iY (by omega);rw[R]at d;clear R;have I:=DR wr 340;have S:=d.over (alloc_old (o:= .cells #[.int .i64 0,.int .i64 0,.int .i64 0,.int .i64 0,.int .i64 0,.int .i64 0,.int .i64 0,.int .i64 0,.int .i64 0,.int .i64 0,.int .i64 0,.int .i64 0,.int .i64 0,.int .i64 0,.int .i64 0,.int .i64 0] 340) d.lt);rw[F]at I;go_wp2_with fail
   go_loopw [9] (fun lv wx=> ∃n:Nat,1<=n/\n<=15/\lv= .int .i64 (n:Int)/\sW wx w.heap.size 343 (dK L) (cN L) (.slice none 0 0)/\yz wx (w.heap.size+1) 340 (fun i=>if i<=n then sN L i else 0)/\aJ w.heap.size w wx/\wx.heap.size=w.heap.size+2) (fun lv _=>16-(aX lv).toNat)
   case atStart=>
    refine⟨1,by omega,by omega,rfl,S,I.congr (fun n T=> ?_),f.alloc (by omega) _,by simp;omega⟩;rcases n with _|_|n
    ·simp[sN]
    ·simp[sN,cN]
    ·simp
   case round=>
    clear d f F I S;obtain⟨n,e1,e2,rfl,d,l,f,F⟩:=hrel;have b4:sN L n<=6000:=by have:=MP L hl n;omega
    have G:cN L n<=400:=by have:=B_ L n;omega
    by_cases T:n<15
    ·have U:=l.cn n (by omega);have a2:=l.cn (n+1) (by omega);have t1:=d.cn n (by omega);have fa:=l.fr (n+1);have HS:ah (sN L (n+1)=sN L n+cN L n):=rfl;have HU:ah _:=Na L n;simp only[Nat.le_refl,if_true,show¬n+1<=n by omega,if_false]at U a2;obtain⟨sn,J⟩:∃sn,sn=sN L n:=⟨_,rfl⟩;obtain⟨cn,K⟩:∃cn,cn=cN L n:=⟨_,rfl⟩;rw[<-J]at U b4;rw[<-K]at t1 G;have HX:ah (sN L (n+1)=sn+cn):=(by rw[HS.out,J,K]:_=_);clear J K;go_wp2_with fail
     go_region
     go_wp2_with fail
     go_roundw
     case rel=>refine⟨n+1,by omega,by omega,by go_num,(d.over (aB _ _ (by omega))).drew,?_,kz (f.setCell (show w.heap.size<=w.heap.size+1 by omega) _),by simpa using F⟩;exact((l.set (n+1) (sN L (n+1)) (by omega) _ (by rw[HX.out];omega)).congr (fun i hi=>HU.out i hi)).drew
     case measure=>simp[aX];omega
    ·have V:n=15:=by omega
     subst V;have U:=l.cn 15 (by omega);have t1:=d.cn 15 (by omega);have M:=d.Gq;have X:=d.fr 17;have b5:ah (sN L 16=sN L 15+cN L 15):=rfl;simp only[Nat.le_refl,if_true]at U;obtain⟨a,z⟩:∃a,a=sN L 16:=⟨_,rfl⟩;have e3:a<=6400:=by rw[z];exact Pq L hl
     have d8:(sN L 15:Int)+(cN L 15:Int)=(a:Int):=by rw[z,b5.out];omega
     have Q:ah (a=sN L 16):=z;have q:yz wr (w.heap.size+1) 340 (yA L 0):=l.congr (fun i hi=>by
      rw[aC hi];unfold yA;by_cases e0:i=0
      ·subst e0;simp[sN]
      ·rw[au e0];simp[rk,jy])
     clear z l;generalize sN L 15=e4 at*;generalize cN L 15=e5 at*;obtain⟨i0,hi,Y,Z,a0⟩:=info_parts aea;have b6:∀W:af,(Instr.makeSlice 341 (.int .i64 (a:Int)) (.int .i64 (a:Int))).run prog W= .ok (.slice (some ⟨W.heap.size,0,none⟩) a a) (W.alloc (.cells (madeCells #[.int .u8 0,.int .i64 0,.int .u64 0] (a*3)) 314)):=fun W=>by have h:=run_make (P:=prog) W 341 314 i0 _ underlying341 hi Y .i64 .i64 (a:Int) (a:Int) (by omega) (by omega) (by rw[a0];omega) (by omega);rw[h,Z];simp[Value.cells]
     have b7:∀o:Obj,(wr.alloc o).cell? ⟨w.heap.size,17,none⟩=_:=fun o=>Er.dm M o;have b8:∀o:Obj,(wr.alloc o).frozen? ⟨w.heap.size,17,none⟩=false:=fun o=>Er.f_ M o X;clear hi Y Z a0 M X;go_wp2_with fail
     go_region
     have T2:sW ((wr.setCell ⟨w.heap.size,17,none⟩ (.slice (some ⟨w.heap.size+2,0,none⟩) a a)).alloc (.cells (madeCells #[.int .u8 0,.int .i64 0,.int .u64 0] (a*3)) 314)).drew w.heap.size 343 (dK L) (cN L) (.slice (some ⟨w.heap.size+2,0,none⟩) a a):=
      ((d.aez _).over (alloc_old (by simp;omega))).drew
     have A2:yz ((wr.setCell ⟨w.heap.size,17,none⟩ (.slice (some ⟨w.heap.size+2,0,none⟩) a a)).alloc (.cells (madeCells #[.int .u8 0,.int .i64 0,.int .u64 0] (a*3)) 314)).drew (w.heap.size+1) 340 (yA L 0):=
      ((q.over (aB _ _ (by omega))).over (alloc_old (by simp;omega))).drew
     have V2:oW ((wr.setCell ⟨w.heap.size,17,none⟩ (.slice (some ⟨w.heap.size+2,0,none⟩) a a)).alloc (.cells (madeCells #[.int .u8 0,.int .i64 0,.int .u64 0] (a*3)) 314)).drew (w.heap.size+2) a lZ (fun _=>none):=
      ⟨_,jY _ _ _ (by simp;omega),og _ _,fun j y _ h=>by cases h⟩
     have B2:aJ w.heap.size w ((wr.setCell ⟨w.heap.size,17,none⟩ (.slice (some ⟨w.heap.size+2,0,none⟩) a a)).alloc (.cells (madeCells #[.int .u8 0,.int .i64 0,.int .u64 0] (a*3)) 314)).drew:=kz ((f.setCell (ag _) _).alloc (by simp;omega) _);clear d q f F b7 b8 b6 t1 U;generalize ((wr.setCell ⟨w.heap.size,17,none⟩ (.slice (some ⟨w.heap.size+2,0,none⟩) a a)).alloc (.cells (madeCells #[.int .u8 0,.int .i64 0,.int .u64 0] (a*3)) 314)).drew=w2 at*;go_wp2_with fail
     go_loopw [74] (fun iv wx=> ∃(i:Nat) (g:Nat->Option Nat),i<=L.length/\iv= .int .i64 (i:Int)/\sW wx w.heap.size 343 (dK L) (cN L) (.slice (some ⟨w.heap.size+2,0,none⟩) a a)/\yz wx (w.heap.size+1) 340 (yA L i)/\oW wx (w.heap.size+2) a lZ g/\ku L i g/\aJ w.heap.size w wx) (fun iv _=>L.length-(aX iv).toNat)
     case atStart=>exact⟨0,_,aU _,rfl,T2,A2,V2,ku.begin L _,B2⟩
     case round=>
      clear T2 A2 V2 B2;obtain⟨i,g,hi,rfl,d,l,E,hP,f⟩:=hrel;by_cases m:i<L.length
      ·have hc:=(h.over (f.block b hb)) i m;have c:L.getD i 0<=15:=gU L 15 hx i;by_cases D:0<L.getD i 0
       ·have s:=(l.cn (L.getD i 0) c);have fA:=l.fr (L.getD i 0);have Gq:=d.Gq;have ql:sN L (L.getD i 0)+rk L (L.getD i 0) i<a:=by rw[Q.out];exact GI L _ _ c (VI L i m (by omega))
        obtain⟨⟨v0,r⟩,t⟩:=E.any _ 0 ql (by omega);obtain⟨⟨v1,u⟩,A⟩:=E.any _ 1 ql (by omega);obtain⟨⟨v2,v⟩,B⟩:=E.any _ 2 ql (by omega);have HP:ah _:=hP.more m (by omega);have HX:ah _:=Nb L i D;rw[DT L i _ D]at s;obtain⟨x,C⟩:∃x,x=L.getD i 0:=⟨_,rfl⟩;rw[<-C]at hc c D s fA ql r t u A v B;have b9:ah (ku L (i+1) (fun j=>if j=sN L x+rk L x i then some i else g j)):=(by rw[C];exact HP.out:ku _ _ _);have c3:ah (∀n,n<=15->EU (yA L i) x (sN L x+rk L x i+1) n=yA L (i+1) n):=(by rw[C];exact HX.out:∀n,n<=15->_);clear HP HX C;obtain⟨p,hp⟩:∃p,p=sN L x+rk L x i:=⟨_,rfl⟩;simp only[<-hp]at s ql r t u A v B;have N:ah (p=sN L x+rk L x i):=hp;clear hp;have a3:∀o:Obj,yz (wr.alloc o) (w.heap.size+1) 340 (yA L i):=fun o=>l.over (alloc_old l.lt);have a4:∀o:Obj,sW (wr.alloc o) w.heap.size 343 (dK L) (cN L) (.slice (some ⟨w.heap.size+2,0,none⟩) a a):=fun o=>d.over (alloc_old d.lt);have a5:∀o:Obj,oW (wr.alloc o) (w.heap.size+2) a lZ g:=fun o=>E.over (alloc_old E.lt);have a6:∀o:Obj,aJ w.heap.size w (wr.alloc o):=fun o=>f.alloc (BB d.lt) _;simp only[Nat.add_zero]at r t;have c4:∀o:Obj,(wr.alloc o).cell? ⟨w.heap.size+1,x,none⟩=_:=fun o=>Er.dm s o;have c5:∀o:Obj,(wr.alloc o).cell? ⟨w.heap.size,17,none⟩=_:=fun o=>Er.dm Gq o;have c6:∀o:Obj,(wr.alloc o).cell? ⟨w.heap.size+2,p*3,none⟩=_:=fun o=>Er.dm r o;have c7:∀o:Obj,(wr.alloc o).cell? ⟨w.heap.size+2,p*3+1,none⟩=_:=fun o=>Er.dm u o;have c8:∀o:Obj,(wr.alloc o).cell? ⟨w.heap.size+2,p*3+2,none⟩=_:=fun o=>Er.dm v o;have c9:∀o:Obj,(wr.alloc o).frozen? ⟨w.heap.size+2,p*3,none⟩=false:=fun o=>Er.f_ r o t;have d0:∀o:Obj,(wr.alloc o).frozen? ⟨w.heap.size+2,p*3+1,none⟩=false:=fun o=>Er.f_ u o A;have d1:∀o:Obj,(wr.alloc o).frozen? ⟨w.heap.size+2,p*3+2,none⟩=false:=fun o=>Er.f_ v o B;have a7:i<=400:=by omega
        go_upto_region 19 with fail
        go_cut [] (fun wx=>sW wx w.heap.size 343 (dK L) (cN L) (.slice (some ⟨w.heap.size+2,0,none⟩) a a)/\yz wx (w.heap.size+1) 340 (yA L i)/\oW wx (w.heap.size+2) a lZ (fun j=>if j=p then some i else g j)/\aJ w.heap.size w wx)
        case first=>
         go_region_with ((go_at_call 224;refine(XB i _ a7).mono ?_;rintro e w3 ⟨rfl,rfl⟩))
         all_goals
          go_wp2_with fail
          go_meet
          case rel=>exact⟨((((a4 _).over (aB _ _ (show w.heap.size≠w.heap.size+2 by omega))).over (aB _ _ (show w.heap.size≠w.heap.size+2 by omega))).over (aB _ _ (show w.heap.size≠w.heap.size+2 by omega))).drew,((((a3 _).over (aB _ _ (show w.heap.size+1≠w.heap.size+2 by omega))).over (aB _ _ (show w.heap.size+1≠w.heap.size+2 by omega))).over (aB _ _ (show w.heap.size+1≠w.heap.size+2 by omega))).drew,((a5 _).set p i ql).drew,kz ((((a6 _).setCell (show w.heap.size<=w.heap.size+2 by omega) _).setCell (show w.heap.size<=w.heap.size+2 by omega) _).setCell (show w.heap.size<=w.heap.size+2 by omega) _)⟩
        case rest=>
         obtain⟨d2,q,d4,d5⟩:=hcut;have a8:=q.cn x c;have d9:=q.fr x;rw[DT L i x D,<-N.out]at a8;have e6:p<=6400:=by omega
         clear a4 a3 a5 a6 c4 c5 c6 c7 c8 c9 d0 d1 d l f E r t u A v B fA s Gq hc;go_wp2_with fail
         go_roundw
         case rel=>
          refine⟨i+1,(fun j=>if j=p then some i else g j),by omega,by go_num,d2.over (aB _ _ (by omega)),?_,d4.over (aB _ _ (by omega)),?_,d5.setCell (show w.heap.size<=w.heap.size+1 by omega) _⟩
          ·refine(q.set x (p+1) c _ (by omega)).congr (fun n T=> ?_);rw[N.out];exact c3.out n T
          ·rw[N.out];exact b9.out
         case measure=>simp[aX];omega
       ·have O:L.getD i 0=0:=by omega
        have HP:ah (ku L (i+1) g):=hP.none O;have HR:ah (∀n,n<=15->yA L i n=yA L (i+1) n):=Nc L i O;rw[O]at hc;go_wp2_with fail
        go_roundw
        case rel=>exact⟨i+1,g,by omega,by go_num,d,l.congr (fun n T=>HR.out n T),E,HP.out,f⟩
        case measure=>simp[aX];omega
      ·have d6:i=L.length:=by omega
       subst d6;have d7:vF wr w.heap.size lZ L:=by obtain⟨a9,v1,v2,v3⟩:=E;refine⟨w.heap.size+2,a9,sW.hd (by rw[<-Q.out];exact d),v1,fun j hj=> ?_⟩;exact v3 j _ (by rw[Q.out];exact hj) (hP.all j hj)
       go_wp2_with fail
       go_ret;exact⟨⟨_,rfl,d7,ag _⟩,f⟩
end Pr
end Go.Proofs.YtephkcdbnogdhaaGreatDoor
