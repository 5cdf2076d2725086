import Derived.Test.YtephkcdbnogdhabGreatDoorM2
import Derived.Test.YtephkcdbnogdhabGreatDoorM7
set_option linter.unusedVariables false
set_option maxHeartbeats 40000000
set_option maxRecDepth 10000
namespace Go.Proofs.YtephkcdbnogdhabGreatDoor
open Go.Proofs.Tryz
open Go renaming World->af,Value->ay,Calls->aH,TypeId->aW,Addr->bG
open Go.RowKit renaming Hid->au,Below->aA,intOf->bH
namespace Pr
open Go.RowKit Rf
theorem jL.over{w w':af}{b o:Nat}{L:List Nat}(h:jL w b o L)(e:w'.heap[b]?=w.heap[b]?):jL w' b o L:=by intro i hi;have:=h i hi;unfold World.cell? at this|-;rw[e];exact this
theorem adC:(prog.info? 3).map (fun i=>(i.zero,i.size,i.bytes))=some (some (.int .i64 0),1,8):=by kernel_rfl
theorem info_parts{P:Program}{t:aW}{z:Option ay}{a b:Nat}(h:(P.info? t).map (fun i=>(i.zero,i.size,i.bytes))=some (z,a,b)):∃i,P.info? t=some i/\i.zero=z/\i.size=a/\i.bytes=b:=by obtain⟨i,hi,e⟩:=Option.map_eq_some_iff.1 h;simp at e;exact⟨i,hi,e.1,e.2.1,e.2.2⟩
theorem jE(w:af)(o:Obj)(k:Nat)(a:k=w.heap.size):(w.alloc o).heap[k]?=some o:=by subst a;exact(gY w o).1
theorem alloc_old{w:af}{o:Obj}{k:Nat}(a:k<w.heap.size):(w.alloc o).heap[k]?=w.heap[k]?:=ai w o k a
theorem CE(w:af)(T:aW):qX (w.alloc (.cells #[.int .i64 0,.int .i64 0,.int .i64 0,.int .i64 0,.int .i64 0,.int .i64 0,.int .i64 0,.int .i64 0,.int .i64 0,.int .i64 0,.int .i64 0,.int .i64 0,.int .i64 0,.int .i64 0,.int .i64 0,.int .i64 0,.int .i64 0,.slice none 0 0] T)) w.heap.size T 0 (cN []) (.slice none 0 0):=by
 refine⟨_,jE w _ _ rfl,rfl,rfl,?_,rfl⟩;intro n a;have e:cN [] n=0:=by unfold cN;split<;>simp
 rw[e];match n,a with
 |0,_=>rfl
 |1,_=>rfl
 |2,_=>rfl
 |3,_=>rfl
 |4,_=>rfl
 |5,_=>rfl
 |6,_=>rfl
 |7,_=>rfl
 |8,_=>rfl
 |9,_=>rfl
 |10,_=>rfl
 |11,_=>rfl
 |12,_=>rfl
 |13,_=>rfl
 |14,_=>rfl
 |15,_=>rfl
 |n+16,h=>exact absurd h (by omega)
theorem CG(w:af)(T:aW):xm (w.alloc (.cells #[.int .i64 0,.int .i64 0,.int .i64 0,.int .i64 0,.int .i64 0,.int .i64 0,.int .i64 0,.int .i64 0,.int .i64 0,.int .i64 0,.int .i64 0,.int .i64 0,.int .i64 0,.int .i64 0,.int .i64 0,.int .i64 0] T)) w.heap.size T (fun _=>0):=by
 refine⟨_,jE w _ _ rfl,rfl,?_⟩;intro n a;match n,a with
 |0,_=>rfl
 |1,_=>rfl
 |2,_=>rfl
 |3,_=>rfl
 |4,_=>rfl
 |5,_=>rfl
 |6,_=>rfl
 |7,_=>rfl
 |8,_=>rfl
 |9,_=>rfl
 |10,_=>rfl
 |11,_=>rfl
 |12,_=>rfl
 |13,_=>rfl
 |14,_=>rfl
 |15,_=>rfl
 |n+16,h=>exact absurd h (by omega)
def uH(w:af)(vb N:Nat)(g:Nat->Option Nat):Prop:=∃cur,w.heap[vb]?=some (.cells cur 3 (0,0))/\cur.size=N/\∀j y,j<N->g j=some y->cur[j]?=some (.int .i64 ((y:Nat):Int))
theorem uH.over{w w':af}{vb N:Nat}{g:Nat->Option Nat}(h:uH w vb N g)(e:w'.heap[vb]?=w.heap[vb]?):uH w' vb N g:=by obtain⟨cur,h1,h2⟩:=h;exact⟨cur,e.trans h1,h2⟩
theorem uH.drew{w:af}{vb N:Nat}{g:Nat->Option Nat}(h:uH w vb N g):uH w.drew vb N g:=h
theorem uH.any{w:af}{vb N:Nat}{g:Nat->Option Nat}(h:uH w vb N g)(p:Nat)(hp:p<N):(∃v,w.cell? ⟨vb,p,none⟩=some v)/\w.frozen? ⟨vb,p,none⟩=false:=by obtain⟨cur,h1,h2,a⟩:=h;refine⟨⟨cur[p]'(by omega),?_⟩,(cell_of h1 p).2⟩;rw[(cell_of h1 p).1,xg (by omega)]
theorem uH.set{w:af}{vb N:Nat}{g:Nat->Option Nat}(h:uH w vb N g)(p y:Nat)(hp:p<N):uH (w.setCell ⟨vb,p,none⟩ (.int .i64 (y:Int))) vb N (fun j=>if j=p then some y else g j):=by
 obtain⟨cur,h1,h2,b⟩:=h;refine⟨_,bF h1 _ _,by simpa using h2,?_⟩;intro j z c a;by_cases e:j=p
 ·subst e;simp at a;subst a;rw[dS (by omega)]
 ·simp only[if_neg e]at a;rw[bu (by omega)];exact b j z c a
theorem JI(L:List Nat)(n:Nat):∀i,i<=15->DX (fun i=>if i<=n then sN L i else 0) (n+1) (sN L (n+1)) i=if i<=n+1 then sN L i else 0:=by
 intro i _;unfold DX;by_cases e:i=n+1
 ·subst e;rw[aG rfl,aG (ah _)]
 ·rw[ax e];dsimp only;by_cases h:i<=n
  ·rw[aG h,aG (by omega)]
  ·rw[ax h,ax (by omega)]
def xq(L:List Nat)(i n:Nat):Nat:=if n=0 then 0 else sN L n+rk L n i
theorem CJ(L:List Nat)(i n:Nat)(h:0<n):xq L i n=sN L n+rk L n i:=ax (by omega)
theorem JJ(L:List Nat)(i:Nat)(h0:0<L.getD i 0):∀n,n<=15->DX (xq L i) (L.getD i 0) (sN L (L.getD i 0)+rk L (L.getD i 0) i+1) n=xq L (i+1) n:=by
 intro n _;unfold DX xq;by_cases e:n=L.getD i 0
 ·rw[aG e,ax (by omega),yL,aG e.symm,<-e];omega
 ·rw[ax e];by_cases a:n=0
  ·rw[aG a,aG a]
  ·rw[ax a,ax a,yL,ax (fun h=>e h.symm),cO]
theorem JK(L:List Nat)(i:Nat)(h0:L.getD i 0=0):∀n,n<=15->xq L i n=xq L (i+1) n:=by
 intro n _;unfold xq;by_cases a:n=0
 ·rw[aG a,aG a]
 ·rw[ax a,ax a,yL,ax (by omega),cO]
theorem abb(v:ay)(w:af):aH prog 167 #[v] w fun e w'=>e= .returned v/\w'=w:=by
 go_enter func167,ntmps167
 go_wp2
 go_ret;exact⟨rfl,rfl⟩
theorem qX.drew{w:af}{k:Nat}{T:aW}{a:Nat}{f:Nat->Nat}{v:ay}(h:qX w k T a f v):qX w.drew k T a f v:=h
theorem xm.drew{w:af}{k:Nat}{T:aW}{f:Nat->Nat}(h:xm w k T f):xm w.drew k T f:=h
theorem jG{B:Nat}{w w':af}(h:aA B w w'):aA B w w'.drew:=⟨h.os,h.tape,h.output,h.size,h.block⟩
theorem XO(b o cap:Nat)(L:List Nat)(w:af)(h:jL w b o L)(hb:b<w.heap.size)(hl:L.length<=400)(hx:∀x∈L,x<=15):
 aH prog 166 #[.slice (some ⟨b,o,none⟩) L.length cap,.func (.func 167) #[] #[]] w fun e w'=>(∃k,e= .returned (.pointer (some ⟨k,0,none⟩))/\EI w' k L/\w.heap.size<=k)/\aA w.heap.size w w':=by
 go_enter func166,ntmps166
 go_wp2_with fail
 go_loopw [16] (fun i wr=> ∃j:Nat,j<=L.length/\i= .int .i64 (j:Int)/\qX wr w.heap.size 283 (dA (L.take j)) (cN (L.take j)) (.slice none 0 0)/\aA w.heap.size w wr/\wr.heap.size=w.heap.size+1) (fun i _=>L.length-(bH i).toNat)
 case atStart=>exact⟨0,aX _,rfl,CE w _,(aV _ _).alloc (ah _) _,by simp⟩
 case round=>
  obtain⟨j,hj,rfl,d,f,z⟩:=hrel;by_cases l:j<L.length
  ·have hc:=(h.over (f.block b hb)) j l;have c:L.getD j 0<=15:=jU L 15 hx j;have HT:au _:=rV L j l;generalize L.getD j 0=x at*;have cx:=d.cn x c;have fx:=d.fr (1+x);have A:cN (L.take j) x<=400:=by have:=AZ (L.take j) x;simp at this;omega
   have a5:au (dA (L.take j++[x])=max (dA (L.take j)) x):=rQ _ _;by_cases h0:0<x
   ·have T1:=d.acR x (cN (L.take j) x+1) c ((cN (L.take j) x:Int)+1) (by omega);have a6:=T1.c0;have a7:=T1.fr 0;obtain⟨cc,B⟩:∃cc,cc=cN (L.take j) x:=⟨_,rfl⟩;rw[<-B]at cx A T1 a6 a7;have a8:au (∀n,DX (cN (L.take j)) x (cc+1) n=cN (L.take j++[x]) n):=fun n=>by rw[B];exact Qb _ x h0 n
    clear B;generalize dA (L.take j)=lg at*;go_wp2_with fail
    go_region
    go_wp2_with fail
    go_roundw
    case rel=>refine⟨j+1,by omega,by go_num,?_,jG ((f.setCell (ah _) _).setCell (ah _) _),by simpa using z⟩;rw[HT.out,a5.out];exact((T1.acS (max lg x) _ (by split<;>omega)).congr (fun n _=>a8.out n)).drew
    case measure=>simp[bH];omega
   ·have K:au (dA (L.take j++[x])=dA (L.take j)/\∀n,cN (L.take j) n=cN (L.take j++[x]) n):=(⟨wL _ x h0,JH _ x h0⟩:_/\_);go_wp2_with fail
    go_roundw
    case rel=>refine⟨j+1,by omega,by go_num,?_,f,z⟩;rw[HT.out,K.out.1];exact d.congr (fun n _=>K.out.2 n)
    case measure=>simp[bH];omega
  ·have M:L.take j=L:=dn (by omega);rw[M]at d;clear M;have C:=CG wr 268;have N:=d.over (alloc_old (o:= .cells #[.int .i64 0,.int .i64 0,.int .i64 0,.int .i64 0,.int .i64 0,.int .i64 0,.int .i64 0,.int .i64 0,.int .i64 0,.int .i64 0,.int .i64 0,.int .i64 0,.int .i64 0,.int .i64 0,.int .i64 0,.int .i64 0] 268) d.lt);rw[z]at C;go_wp2_with fail
   go_loopw [9] (fun lv wx=> ∃n:Nat,1<=n/\n<=15/\lv= .int .i64 (n:Int)/\qX wx w.heap.size 283 (dA L) (cN L) (.slice none 0 0)/\xm wx (w.heap.size+1) 268 (fun i=>if i<=n then sN L i else 0)/\aA w.heap.size w wx/\wx.heap.size=w.heap.size+2) (fun lv _=>16-(bH lv).toNat)
   case atStart=>
    refine⟨1,by omega,by omega,rfl,N,C.congr (fun n O=> ?_),f.alloc (by omega) _,by simp;omega⟩;rcases n with _|_|n
    ·simp[sN]
    ·simp[sN,cN]
    ·simp
   case round=>
    clear d f z C N;obtain⟨n,c6,c7,rfl,d,m,f,z⟩:=hrel;have a9:sN L n<=6000:=by have:=JD L hl n;omega
    have A:cN L n<=400:=by have:=AZ L n;omega
    by_cases O:n<15
    ·have Q:=m.cn n (by omega);have a2:=m.cn (n+1) (by omega);have t1:=d.cn n (by omega);have fa:=m.fr (n+1);have HS:au (sN L (n+1)=sN L n+cN L n):=rfl;have HU:au _:=JI L n;simp only[Nat.le_refl,if_true,show¬n+1<=n by omega,if_false]at Q a2;obtain⟨sn,D⟩:∃sn,sn=sN L n:=⟨_,rfl⟩;obtain⟨cn,E⟩:∃cn,cn=cN L n:=⟨_,rfl⟩;rw[<-D]at Q a9;rw[<-E]at t1 A;have HX:au (sN L (n+1)=sn+cn):=(by rw[HS.out,D,E]:_=_);clear D E;go_wp2_with fail
     go_region
     go_wp2_with fail
     go_roundw
     case rel=>refine⟨n+1,by omega,by omega,by go_num,(d.over (aC _ _ (by omega))).drew,?_,jG (f.setCell (show w.heap.size<=w.heap.size+1 by omega) _),by simpa using z⟩;exact((m.set (n+1) (sN L (n+1)) (by omega) _ (by rw[HX.out];omega)).congr (fun i hi=>HU.out i hi)).drew
     case measure=>simp[bH];omega
    ·have R:n=15:=by omega
     subst R;have Q:=m.cn 15 (by omega);have t1:=d.cn 15 (by omega);have F:=d.c17;have S:=d.fr 17;have b0:au (sN L 16=sN L 15+cN L 15):=rfl;simp only[Nat.le_refl,if_true]at Q;obtain⟨a,r⟩:∃a,a=sN L 16:=⟨_,rfl⟩;have c8:a<=6400:=by rw[r];exact LZ L hl
     have c2:(sN L 15:Int)+(cN L 15:Int)=(a:Int):=by rw[r,b0.out];omega
     have K:au (a=sN L 16):=r;have q:xm wr (w.heap.size+1) 268 (xq L 0):=m.congr (fun i hi=>by
      rw[aG hi];unfold xq;by_cases e0:i=0
      ·subst e0;simp[sN]
      ·rw[ax e0];simp[rk,iO])
     clear r m;generalize sN L 15=c9 at*;generalize cN L 15=c15 at*;obtain⟨i0,hi,T,U,V⟩:=info_parts adC;have b1:∀W:af,(Instr.makeSlice 22 (.int .i64 (a:Int)) (.int .i64 (a:Int))).run prog W= .ok (.slice (some ⟨W.heap.size,0,none⟩) a a) (W.alloc (.cells (madeCells #[.int .i64 0] a) 3)):=fun W=>by have h:=run_make (P:=prog) W 22 3 i0 _ underlying22 hi T .i64 .i64 (a:Int) (a:Int) (by omega) (by omega) (by rw[V];omega) (by omega);rw[h,U];simp[Value.cells]
     have b2:∀o:Obj,(wr.alloc o).cell? ⟨w.heap.size,17,none⟩=_:=fun o=>Er.bU F o;have b3:∀o:Obj,(wr.alloc o).frozen? ⟨w.heap.size,17,none⟩=false:=fun o=>Er.fV F o S;clear hi T U V F S;go_wp2_with fail
     go_region
     have T2:qX ((wr.setCell ⟨w.heap.size,17,none⟩ (.slice (some ⟨w.heap.size+2,0,none⟩) a a)).alloc (.cells (madeCells #[.int .i64 0] a) 3)).drew w.heap.size 283 (dA L) (cN L) (.slice (some ⟨w.heap.size+2,0,none⟩) a a):=
      ((d.acT _).over (alloc_old (by simp;omega))).drew
     have A2:xm ((wr.setCell ⟨w.heap.size,17,none⟩ (.slice (some ⟨w.heap.size+2,0,none⟩) a a)).alloc (.cells (madeCells #[.int .i64 0] a) 3)).drew (w.heap.size+1) 268 (xq L 0):=
      ((q.over (aC _ _ (by omega))).over (alloc_old (by simp;omega))).drew
     have V2:uH ((wr.setCell ⟨w.heap.size,17,none⟩ (.slice (some ⟨w.heap.size+2,0,none⟩) a a)).alloc (.cells (madeCells #[.int .i64 0] a) 3)).drew (w.heap.size+2) a (fun _=>none):=
      ⟨_,jE _ _ _ (by simp;omega),oU _ _,fun j y _ h=>by cases h⟩
     have B2:aA w.heap.size w ((wr.setCell ⟨w.heap.size,17,none⟩ (.slice (some ⟨w.heap.size+2,0,none⟩) a a)).alloc (.cells (madeCells #[.int .i64 0] a) 3)).drew:=jG ((f.setCell (ah _) _).alloc (by simp;omega) _);clear d q f z b2 b3 b1 t1 Q;generalize ((wr.setCell ⟨w.heap.size,17,none⟩ (.slice (some ⟨w.heap.size+2,0,none⟩) a a)).alloc (.cells (madeCells #[.int .i64 0] a) 3)).drew=w2 at*;go_wp2_with fail
     go_loopw [74] (fun iv wx=> ∃(i:Nat) (g:Nat->Option Nat),i<=L.length/\iv= .int .i64 (i:Int)/\qX wx w.heap.size 283 (dA L) (cN L) (.slice (some ⟨w.heap.size+2,0,none⟩) a a)/\xm wx (w.heap.size+1) 268 (xq L i)/\uH wx (w.heap.size+2) a g/\jF L i g/\aA w.heap.size w wx) (fun iv _=>L.length-(bH iv).toNat)
     case atStart=>exact⟨0,_,aX _,rfl,T2,A2,V2,jF.begin L _,B2⟩
     case round=>
      clear T2 A2 V2 B2;obtain⟨i,g,hi,rfl,d,m,X,hP,f⟩:=hrel;by_cases l:i<L.length
      ·have hc:=(h.over (f.block b hb)) i l;have c:L.getD i 0<=15:=jU L 15 hx i;by_cases h0:0<L.getD i 0
       ·have s:=(m.cn (L.getD i 0) c);have fA:=m.fr (L.getD i 0);have c17:=d.c17;have t:sN L (L.getD i 0)+rk L (L.getD i 0) i<a:=by rw[K.out];exact EZ L _ _ c (SI L i l (by omega))
        obtain⟨⟨v0,G⟩,H⟩:=X.any _ t;have HP:au _:=hP.more l (by omega);have HX:au _:=JJ L i h0;rw[CJ L i _ h0]at s;have u:=X.set _ i t;obtain⟨x,v⟩:∃x,x=L.getD i 0:=⟨_,rfl⟩;rw[<-v]at hc c h0 s fA t G H u;have b4:au (jF L (i+1) (fun j=>if j=sN L x+rk L x i then some i else g j)):=(by rw[v];exact HP.out:jF _ _ _);have b5:au (∀n,n<=15->DX (xq L i) x (sN L x+rk L x i+1) n=xq L (i+1) n):=(by rw[v];exact HX.out:∀n,n<=15->_);clear HP HX v;obtain⟨p,hp⟩:∃p,p=sN L x+rk L x i:=⟨_,rfl⟩;simp only[<-hp]at s t G H u;have I:au (p=sN L x+rk L x i):=hp;clear hp;have Y:xm (wr.setCell ⟨w.heap.size+2,p,none⟩ (.int .i64 (i:Int))) (w.heap.size+1) 268 (xq L i):=m.over (aC _ _ (by omega));have Z:qX (wr.setCell ⟨w.heap.size+2,p,none⟩ (.int .i64 (i:Int))) w.heap.size 283 (dA L) (cN L) (.slice (some ⟨w.heap.size+2,0,none⟩) a a):=d.over (aC _ _ (by omega));have a0:aA w.heap.size w (wr.setCell ⟨w.heap.size+2,p,none⟩ (.int .i64 (i:Int))):=f.setCell (show w.heap.size<=w.heap.size+2 by omega) _;have c3:i<=400:=by omega
        go_upto_region 19 with fail
        go_cut [] (fun wx=>qX wx w.heap.size 283 (dA L) (cN L) (.slice (some ⟨w.heap.size+2,0,none⟩) a a)/\xm wx (w.heap.size+1) 268 (xq L i)/\uH wx (w.heap.size+2) a (fun j=>if j=p then some i else g j)/\aA w.heap.size w wx)
        case first=>
         go_region_with ((go_at_call 167;refine(abb _ _).mono ?_;rintro e w3 ⟨rfl,rfl⟩))
         all_goals
          go_wp2_with fail
          go_meet
          case rel=>exact⟨Z.drew,Y.drew,u.drew,jG a0⟩
        case rest=>
         obtain⟨b6,q,b7,b8⟩:=hcut;have a3:=q.cn x c;have c5:=q.fr x;rw[CJ L i x h0,<-I.out]at a3;have d0:p<=6400:=by omega
         clear Z Y a0 d m f X u G H fA s c17 hc;go_wp2_with fail
         go_roundw
         case rel=>
          refine⟨i+1,(fun j=>if j=p then some i else g j),by omega,by go_num,b6.over (aC _ _ (by omega)),?_,b7.over (aC _ _ (by omega)),?_,b8.setCell (show w.heap.size<=w.heap.size+1 by omega) _⟩
          ·refine(q.set x (p+1) c _ (by omega)).congr (fun n O=> ?_);rw[I.out];exact b5.out n O
          ·rw[I.out];exact b4.out
         case measure=>simp[bH];omega
       ·have J:L.getD i 0=0:=by omega
        have HP:au (jF L (i+1) g):=hP.none J;have HR:au (∀n,n<=15->xq L i n=xq L (i+1) n):=JK L i J;rw[J]at hc;go_wp2_with fail
        go_roundw
        case rel=>exact⟨i+1,g,by omega,by go_num,d,m.congr (fun n O=>HR.out n O),X,HP.out,f⟩
        case measure=>simp[bH];omega
      ·have b9:i=L.length:=by omega
       subst b9;have c1:EI wr w.heap.size L:=by obtain⟨a4,v1,v2,v3⟩:=X;refine⟨w.heap.size+2,a4,qX.hd (by rw[<-K.out];exact d),v1,fun j hj=> ?_⟩;exact v3 j _ (by rw[K.out];exact hj) (hP.all j hj)
       go_wp2_with fail
       go_ret;exact⟨⟨_,rfl,c1,ah _⟩,f⟩
theorem acw:(prog.info? 251).map (fun i=>(i.zero,i.size,i.bytes))=some (some (.agg #[.int .u8 0,.int .i64 0,.int .u64 0]),3,24):=by kernel_rfl
def nK(w:af)(vb N:Nat)(a:Nat->Nat×Nat×Nat)(g:Nat->Option Nat):Prop:=∃cur,w.heap[vb]?=some (.cells cur 251 (0,0))/\cur.size=N*3/\
 ∀j y,j<N->g j=some y->cur[j*3]?=some (.int .u8 ((a y).1:Int))/\cur[j*3+1]?=some (.int .i64 ((a y).2.1:Int))/\cur[j*3+2]?=some (.int .u64 ((a y).2.2:Int))
theorem nK.lt{w:af}{vb N:Nat}{a:Nat->Nat×Nat×Nat}{g:Nat->Option Nat}(h:nK w vb N a g):vb<w.heap.size:=by obtain⟨cur,h1,_⟩:=h;exact ak h1
theorem nK.over{w w':af}{vb N:Nat}{a:Nat->Nat×Nat×Nat}{g:Nat->Option Nat}(h:nK w vb N a g)(e:w'.heap[vb]?=w.heap[vb]?):nK w' vb N a g:=by obtain⟨cur,h1,h2⟩:=h;exact⟨cur,e.trans h1,h2⟩
theorem nK.drew{w:af}{vb N:Nat}{a:Nat->Nat×Nat×Nat}{g:Nat->Option Nat}(h:nK w vb N a g):nK w.drew vb N a g:=h
theorem nK.any{w:af}{vb N:Nat}{a:Nat->Nat×Nat×Nat}{g:Nat->Option Nat}(h:nK w vb N a g)(p q:Nat)(hp:p<N)(b:q<3):(∃v,w.cell? ⟨vb,p*3+q,none⟩=some v)/\w.frozen? ⟨vb,p*3+q,none⟩=false:=by obtain⟨cur,h1,h2,c⟩:=h;refine⟨⟨cur[p*3+q]'(by omega),?_⟩,(cell_of h1 _).2⟩;rw[(cell_of h1 _).1,xg (by omega)]
theorem nK.set{w:af}{vb N:Nat}{a:Nat->Nat×Nat×Nat}{g:Nat->Option Nat}(h:nK w vb N a g)(p y:Nat)(hp:p<N):
 nK (((w.setCell ⟨vb,p*3,none⟩ (.int .u8 ((a y).1:Int))).setCell ⟨vb,p*3+1,none⟩ (.int .i64 ((a y).2.1:Int))).setCell ⟨vb,p*3+2,none⟩ (.int .u64 ((a y).2.2:Int))) vb N a (fun j=>if j=p then some y else g j):=by
 obtain⟨cur,h1,h2,d⟩:=h;refine⟨_,bF (bF (bF h1 _ _) _ _) _ _,by simpa using h2,?_⟩;intro j z f b;by_cases e:j=p
 ·subst e;simp at b;subst b;refine⟨?_,?_,?_⟩
  ·rw[bu (by omega),bu (by omega),dS (by omega)]
  ·rw[bu (by omega),dS (by simp;omega)]
  ·rw[dS (by simp;omega)]
 ·simp only[if_neg e]at b;have c:=d j z f b;refine⟨?_,?_,?_⟩
  ·rw[bu (by omega),bu (by omega),bu (by omega)];exact c.1
  ·rw[bu (by omega),bu (by omega),bu (by omega)];exact c.2.1
  ·rw[bu (by omega),bu (by omega),bu (by omega)];exact c.2.2
theorem XP(y:Nat)(w:af)(a:y<=400):
 aH prog 160 #[.int .i64 (y:Int)] w fun e w'=>e= .returned (.agg #[.int .u8 ((iV y).1:Int),.int .i64 ((iV y).2.1:Int),.int .u64 ((iV y).2.2:Int)])/\w'=w.alloc (.cells #[.int .u8 ((iV y).1:Int),.int .i64 ((iV y).2.1:Int),.int .u64 ((iV y).2.2:Int)] 251):=XL y w a
theorem XQ(b o cap:Nat)(L:List Nat)(w:af)(h:jL w b o L)(hb:b<w.heap.size)(hl:L.length<=400)(hx:∀x∈L,x<=15):
 aH prog 159 #[.slice (some ⟨b,o,none⟩) L.length cap,.func (.func 160) #[] #[]] w fun e w'=>(∃k,e= .returned (.pointer (some ⟨k,0,none⟩))/\um w' k iV L/\w.heap.size<=k)/\aA w.heap.size w w':=by
 go_enter func159,ntmps159
 go_wp2_with fail
 go_loopw [16] (fun i wr=> ∃j:Nat,j<=L.length/\i= .int .i64 (j:Int)/\qX wr w.heap.size 271 (dA (L.take j)) (cN (L.take j)) (.slice none 0 0)/\aA w.heap.size w wr/\wr.heap.size=w.heap.size+1) (fun i _=>L.length-(bH i).toNat)
 case atStart=>exact⟨0,aX _,rfl,CE w _,(aV _ _).alloc (ah _) _,by simp⟩
 case round=>
  obtain⟨j,hj,rfl,d,f,F⟩:=hrel;by_cases m:j<L.length
  ·have hc:=(h.over (f.block b hb)) j m;have c:L.getD j 0<=15:=jU L 15 hx j;have HT:au _:=rV L j m;generalize L.getD j 0=x at*;have cx:=d.cn x c;have fx:=d.fr (1+x);have G:cN (L.take j) x<=400:=by have:=AZ (L.take j) x;simp at this;omega
   have b0:au (dA (L.take j++[x])=max (dA (L.take j)) x):=rQ _ _;by_cases h0:0<x
   ·have T1:=d.acR x (cN (L.take j) x+1) c ((cN (L.take j) x:Int)+1) (by omega);have b1:=T1.c0;have b2:=T1.fr 0;obtain⟨cc,H⟩:∃cc,cc=cN (L.take j) x:=⟨_,rfl⟩;rw[<-H]at cx G T1 b1 b2;have b3:au (∀n,DX (cN (L.take j)) x (cc+1) n=cN (L.take j++[x]) n):=fun n=>by rw[H];exact Qb _ x h0 n
    clear H;generalize dA (L.take j)=lg at*;go_wp2_with fail
    go_region
    go_wp2_with fail
    go_roundw
    case rel=>refine⟨j+1,by omega,by go_num,?_,jG ((f.setCell (ah _) _).setCell (ah _) _),by simpa using F⟩;rw[HT.out,b0.out];exact((T1.acS (max lg x) _ (by split<;>omega)).congr (fun n _=>b3.out n)).drew
    case measure=>simp[bH];omega
   ·have Q:au (dA (L.take j++[x])=dA (L.take j)/\∀n,cN (L.take j) n=cN (L.take j++[x]) n):=(⟨wL _ x h0,JH _ x h0⟩:_/\_);go_wp2_with fail
    go_roundw
    case rel=>refine⟨j+1,by omega,by go_num,?_,f,F⟩;rw[HT.out,Q.out.1];exact d.congr (fun n _=>Q.out.2 n)
    case measure=>simp[bH];omega
  ·have R:L.take j=L:=dn (by omega);rw[R]at d;clear R;have I:=CG wr 268;have S:=d.over (alloc_old (o:= .cells #[.int .i64 0,.int .i64 0,.int .i64 0,.int .i64 0,.int .i64 0,.int .i64 0,.int .i64 0,.int .i64 0,.int .i64 0,.int .i64 0,.int .i64 0,.int .i64 0,.int .i64 0,.int .i64 0,.int .i64 0,.int .i64 0] 268) d.lt);rw[F]at I;go_wp2_with fail
   go_loopw [9] (fun lv wx=> ∃n:Nat,1<=n/\n<=15/\lv= .int .i64 (n:Int)/\qX wx w.heap.size 271 (dA L) (cN L) (.slice none 0 0)/\xm wx (w.heap.size+1) 268 (fun i=>if i<=n then sN L i else 0)/\aA w.heap.size w wx/\wx.heap.size=w.heap.size+2) (fun lv _=>16-(bH lv).toNat)
   case atStart=>
    refine⟨1,by omega,by omega,rfl,S,I.congr (fun n T=> ?_),f.alloc (by omega) _,by simp;omega⟩;rcases n with _|_|n
    ·simp[sN]
    ·simp[sN,cN]
    ·simp
   case round=>
    clear d f F I S;obtain⟨n,d8,d9,rfl,d,l,f,F⟩:=hrel;have b4:sN L n<=6000:=by have:=JD L hl n;omega
    have G:cN L n<=400:=by have:=AZ L n;omega
    by_cases T:n<15
    ·have U:=l.cn n (by omega);have a2:=l.cn (n+1) (by omega);have t1:=d.cn n (by omega);have fa:=l.fr (n+1);have HS:au (sN L (n+1)=sN L n+cN L n):=rfl;have HU:au _:=JI L n;simp only[Nat.le_refl,if_true,show¬n+1<=n by omega,if_false]at U a2;obtain⟨sn,J⟩:∃sn,sn=sN L n:=⟨_,rfl⟩;obtain⟨cn,K⟩:∃cn,cn=cN L n:=⟨_,rfl⟩;rw[<-J]at U b4;rw[<-K]at t1 G;have HX:au (sN L (n+1)=sn+cn):=(by rw[HS.out,J,K]:_=_);clear J K;go_wp2_with fail
     go_region
     go_wp2_with fail
     go_roundw
     case rel=>refine⟨n+1,by omega,by omega,by go_num,(d.over (aC _ _ (by omega))).drew,?_,jG (f.setCell (show w.heap.size<=w.heap.size+1 by omega) _),by simpa using F⟩;exact((l.set (n+1) (sN L (n+1)) (by omega) _ (by rw[HX.out];omega)).congr (fun i hi=>HU.out i hi)).drew
     case measure=>simp[bH];omega
    ·have V:n=15:=by omega
     subst V;have U:=l.cn 15 (by omega);have t1:=d.cn 15 (by omega);have M:=d.c17;have X:=d.fr 17;have b5:au (sN L 16=sN L 15+cN L 15):=rfl;simp only[Nat.le_refl,if_true]at U;obtain⟨a,A⟩:∃a,a=sN L 16:=⟨_,rfl⟩;have e1:a<=6400:=by rw[A];exact LZ L hl
     have d6:(sN L 15:Int)+(cN L 15:Int)=(a:Int):=by rw[A,b5.out];omega
     have Q:au (a=sN L 16):=A;have q:xm wr (w.heap.size+1) 268 (xq L 0):=l.congr (fun i hi=>by
      rw[aG hi];unfold xq;by_cases e0:i=0
      ·subst e0;simp[sN]
      ·rw[ax e0];simp[rk,iO])
     clear A l;generalize sN L 15=e2 at*;generalize cN L 15=c15 at*;obtain⟨i0,hi,Y,Z,a0⟩:=info_parts acw;have b6:∀W:af,(Instr.makeSlice 269 (.int .i64 (a:Int)) (.int .i64 (a:Int))).run prog W= .ok (.slice (some ⟨W.heap.size,0,none⟩) a a) (W.alloc (.cells (madeCells #[.int .u8 0,.int .i64 0,.int .u64 0] (a*3)) 251)):=fun W=>by have h:=run_make (P:=prog) W 269 251 i0 _ underlying269 hi Y .i64 .i64 (a:Int) (a:Int) (by omega) (by omega) (by rw[a0];omega) (by omega);rw[h,Z];simp[Value.cells]
     have b7:∀o:Obj,(wr.alloc o).cell? ⟨w.heap.size,17,none⟩=_:=fun o=>Er.bU M o;have b8:∀o:Obj,(wr.alloc o).frozen? ⟨w.heap.size,17,none⟩=false:=fun o=>Er.fV M o X;clear hi Y Z a0 M X;go_wp2_with fail
     go_region
     have T2:qX ((wr.setCell ⟨w.heap.size,17,none⟩ (.slice (some ⟨w.heap.size+2,0,none⟩) a a)).alloc (.cells (madeCells #[.int .u8 0,.int .i64 0,.int .u64 0] (a*3)) 251)).drew w.heap.size 271 (dA L) (cN L) (.slice (some ⟨w.heap.size+2,0,none⟩) a a):=
      ((d.acT _).over (alloc_old (by simp;omega))).drew
     have A2:xm ((wr.setCell ⟨w.heap.size,17,none⟩ (.slice (some ⟨w.heap.size+2,0,none⟩) a a)).alloc (.cells (madeCells #[.int .u8 0,.int .i64 0,.int .u64 0] (a*3)) 251)).drew (w.heap.size+1) 268 (xq L 0):=
      ((q.over (aC _ _ (by omega))).over (alloc_old (by simp;omega))).drew
     have V2:nK ((wr.setCell ⟨w.heap.size,17,none⟩ (.slice (some ⟨w.heap.size+2,0,none⟩) a a)).alloc (.cells (madeCells #[.int .u8 0,.int .i64 0,.int .u64 0] (a*3)) 251)).drew (w.heap.size+2) a iV (fun _=>none):=
      ⟨_,jE _ _ _ (by simp;omega),oU _ _,fun j y _ h=>by cases h⟩
     have B2:aA w.heap.size w ((wr.setCell ⟨w.heap.size,17,none⟩ (.slice (some ⟨w.heap.size+2,0,none⟩) a a)).alloc (.cells (madeCells #[.int .u8 0,.int .i64 0,.int .u64 0] (a*3)) 251)).drew:=jG ((f.setCell (ah _) _).alloc (by simp;omega) _);clear d q f F b7 b8 b6 t1 U;generalize ((wr.setCell ⟨w.heap.size,17,none⟩ (.slice (some ⟨w.heap.size+2,0,none⟩) a a)).alloc (.cells (madeCells #[.int .u8 0,.int .i64 0,.int .u64 0] (a*3)) 251)).drew=w2 at*;go_wp2_with fail
     go_loopw [74] (fun iv wx=> ∃(i:Nat) (g:Nat->Option Nat),i<=L.length/\iv= .int .i64 (i:Int)/\qX wx w.heap.size 271 (dA L) (cN L) (.slice (some ⟨w.heap.size+2,0,none⟩) a a)/\xm wx (w.heap.size+1) 268 (xq L i)/\nK wx (w.heap.size+2) a iV g/\jF L i g/\aA w.heap.size w wx) (fun iv _=>L.length-(bH iv).toNat)
     case atStart=>exact⟨0,_,aX _,rfl,T2,A2,V2,jF.begin L _,B2⟩
     case round=>
      clear T2 A2 V2 B2;obtain⟨i,g,hi,rfl,d,l,E,hP,f⟩:=hrel;by_cases m:i<L.length
      ·have hc:=(h.over (f.block b hb)) i m;have c:L.getD i 0<=15:=jU L 15 hx i;by_cases h0:0<L.getD i 0
       ·have t:=(l.cn (L.getD i 0) c);have fA:=l.fr (L.getD i 0);have c17:=d.c17;have r:sN L (L.getD i 0)+rk L (L.getD i 0) i<a:=by rw[Q.out];exact EZ L _ _ c (SI L i m (by omega))
        obtain⟨⟨v0,s⟩,u⟩:=E.any _ 0 r (by omega);obtain⟨⟨v1,v⟩,B⟩:=E.any _ 1 r (by omega);obtain⟨⟨v2,z⟩,C⟩:=E.any _ 2 r (by omega);have HP:au _:=hP.more m (by omega);have HX:au _:=JJ L i h0;rw[CJ L i _ h0]at t;obtain⟨x,D⟩:∃x,x=L.getD i 0:=⟨_,rfl⟩;rw[<-D]at hc c h0 t fA r s u v B z C;have b9:au (jF L (i+1) (fun j=>if j=sN L x+rk L x i then some i else g j)):=(by rw[D];exact HP.out:jF _ _ _);have c1:au (∀n,n<=15->DX (xq L i) x (sN L x+rk L x i+1) n=xq L (i+1) n):=(by rw[D];exact HX.out:∀n,n<=15->_);clear HP HX D;obtain⟨p,hp⟩:∃p,p=sN L x+rk L x i:=⟨_,rfl⟩;simp only[<-hp]at t r s u v B z C;have N:au (p=sN L x+rk L x i):=hp;clear hp;have a3:∀o:Obj,xm (wr.alloc o) (w.heap.size+1) 268 (xq L i):=fun o=>l.over (alloc_old l.lt);have a4:∀o:Obj,qX (wr.alloc o) w.heap.size 271 (dA L) (cN L) (.slice (some ⟨w.heap.size+2,0,none⟩) a a):=fun o=>d.over (alloc_old d.lt);have a5:∀o:Obj,nK (wr.alloc o) (w.heap.size+2) a iV g:=fun o=>E.over (alloc_old E.lt);have a6:∀o:Obj,aA w.heap.size w (wr.alloc o):=fun o=>f.alloc (Nat.le_of_lt d.lt) _;simp only[Nat.add_zero]at s u;have c2:∀o:Obj,(wr.alloc o).cell? ⟨w.heap.size+1,x,none⟩=_:=fun o=>Er.bU t o;have c3:∀o:Obj,(wr.alloc o).cell? ⟨w.heap.size,17,none⟩=_:=fun o=>Er.bU c17 o;have c5:∀o:Obj,(wr.alloc o).cell? ⟨w.heap.size+2,p*3,none⟩=_:=fun o=>Er.bU s o;have c6:∀o:Obj,(wr.alloc o).cell? ⟨w.heap.size+2,p*3+1,none⟩=_:=fun o=>Er.bU v o;have c7:∀o:Obj,(wr.alloc o).cell? ⟨w.heap.size+2,p*3+2,none⟩=_:=fun o=>Er.bU z o;have c8:∀o:Obj,(wr.alloc o).frozen? ⟨w.heap.size+2,p*3,none⟩=false:=fun o=>Er.fV s o u;have c9:∀o:Obj,(wr.alloc o).frozen? ⟨w.heap.size+2,p*3+1,none⟩=false:=fun o=>Er.fV v o B;have d0:∀o:Obj,(wr.alloc o).frozen? ⟨w.heap.size+2,p*3+2,none⟩=false:=fun o=>Er.fV z o C;have a7:i<=400:=by omega
        go_upto_region 19 with fail
        go_cut [] (fun wx=>qX wx w.heap.size 271 (dA L) (cN L) (.slice (some ⟨w.heap.size+2,0,none⟩) a a)/\xm wx (w.heap.size+1) 268 (xq L i)/\nK wx (w.heap.size+2) a iV (fun j=>if j=p then some i else g j)/\aA w.heap.size w wx)
        case first=>
         go_region_with ((go_at_call 160;refine(XP i _ a7).mono ?_;rintro e w3 ⟨rfl,rfl⟩))
         all_goals
          go_wp2_with fail
          go_meet
          case rel=>exact⟨((((a4 _).over (aC _ _ (show w.heap.size≠w.heap.size+2 by omega))).over (aC _ _ (show w.heap.size≠w.heap.size+2 by omega))).over (aC _ _ (show w.heap.size≠w.heap.size+2 by omega))).drew,((((a3 _).over (aC _ _ (show w.heap.size+1≠w.heap.size+2 by omega))).over (aC _ _ (show w.heap.size+1≠w.heap.size+2 by omega))).over (aC _ _ (show w.heap.size+1≠w.heap.size+2 by omega))).drew,((a5 _).set p i r).drew,jG ((((a6 _).setCell (show w.heap.size<=w.heap.size+2 by omega) _).setCell (show w.heap.size<=w.heap.size+2 by omega) _).setCell (show w.heap.size<=w.heap.size+2 by omega) _)⟩
        case rest=>
         obtain⟨d1,q,d2,d3⟩:=hcut;have a8:=q.cn x c;have d7:=q.fr x;rw[CJ L i x h0,<-N.out]at a8;have e4:p<=6400:=by omega
         clear a4 a3 a5 a6 c2 c3 c5 c6 c7 c8 c9 d0 d l f E s u v B z C fA t c17 hc;go_wp2_with fail
         go_roundw
         case rel=>
          refine⟨i+1,(fun j=>if j=p then some i else g j),by omega,by go_num,d1.over (aC _ _ (by omega)),?_,d2.over (aC _ _ (by omega)),?_,d3.setCell (show w.heap.size<=w.heap.size+1 by omega) _⟩
          ·refine(q.set x (p+1) c _ (by omega)).congr (fun n T=> ?_);rw[N.out];exact c1.out n T
          ·rw[N.out];exact b9.out
         case measure=>simp[bH];omega
       ·have O:L.getD i 0=0:=by omega
        have HP:au (jF L (i+1) g):=hP.none O;have HR:au (∀n,n<=15->xq L i n=xq L (i+1) n):=JK L i O;rw[O]at hc;go_wp2_with fail
        go_roundw
        case rel=>exact⟨i+1,g,by omega,by go_num,d,l.congr (fun n T=>HR.out n T),E,HP.out,f⟩
        case measure=>simp[bH];omega
      ·have d4:i=L.length:=by omega
       subst d4;have d5:um wr w.heap.size iV L:=by obtain⟨a9,v1,v2,v3⟩:=E;refine⟨w.heap.size+2,a9,qX.hd (by rw[<-Q.out];exact d),v1,fun j hj=> ?_⟩;exact v3 j _ (by rw[Q.out];exact hj) (hP.all j hj)
       go_wp2_with fail
       go_ret;exact⟨⟨_,rfl,d5,ah _⟩,f⟩
theorem UK(y:Nat)(w:af)(a:y<=400):
 aH prog 161 #[.int .i64 (y:Int)] w fun e w'=>e= .returned (.agg #[.int .u8 ((kW y).1:Int),.int .i64 ((kW y).2.1:Int),.int .u64 ((kW y).2.2:Int)])/\w'=w.alloc (.cells #[.int .u8 ((kW y).1:Int),.int .i64 ((kW y).2.1:Int),.int .u64 ((kW y).2.2:Int)] 251):=UJ y w a
theorem XR(b o cap:Nat)(L:List Nat)(w:af)(h:jL w b o L)(hb:b<w.heap.size)(hl:L.length<=400)(hx:∀x∈L,x<=15):
 aH prog 159 #[.slice (some ⟨b,o,none⟩) L.length cap,.func (.func 161) #[] #[]] w fun e w'=>(∃k,e= .returned (.pointer (some ⟨k,0,none⟩))/\um w' k kW L/\w.heap.size<=k)/\aA w.heap.size w w':=by
 go_enter func159,ntmps159
 go_wp2_with fail
 go_loopw [16] (fun i wr=> ∃j:Nat,j<=L.length/\i= .int .i64 (j:Int)/\qX wr w.heap.size 271 (dA (L.take j)) (cN (L.take j)) (.slice none 0 0)/\aA w.heap.size w wr/\wr.heap.size=w.heap.size+1) (fun i _=>L.length-(bH i).toNat)
 case atStart=>exact⟨0,aX _,rfl,CE w _,(aV _ _).alloc (ah _) _,by simp⟩
 case round=>
  obtain⟨j,hj,rfl,d,f,F⟩:=hrel;by_cases m:j<L.length
  ·have hc:=(h.over (f.block b hb)) j m;have c:L.getD j 0<=15:=jU L 15 hx j;have HT:au _:=rV L j m;generalize L.getD j 0=x at*;have cx:=d.cn x c;have fx:=d.fr (1+x);have G:cN (L.take j) x<=400:=by have:=AZ (L.take j) x;simp at this;omega
   have b0:au (dA (L.take j++[x])=max (dA (L.take j)) x):=rQ _ _;by_cases h0:0<x
   ·have T1:=d.acR x (cN (L.take j) x+1) c ((cN (L.take j) x:Int)+1) (by omega);have b1:=T1.c0;have b2:=T1.fr 0;obtain⟨cc,H⟩:∃cc,cc=cN (L.take j) x:=⟨_,rfl⟩;rw[<-H]at cx G T1 b1 b2;have b3:au (∀n,DX (cN (L.take j)) x (cc+1) n=cN (L.take j++[x]) n):=fun n=>by rw[H];exact Qb _ x h0 n
    clear H;generalize dA (L.take j)=lg at*;go_wp2_with fail
    go_region
    go_wp2_with fail
    go_roundw
    case rel=>refine⟨j+1,by omega,by go_num,?_,jG ((f.setCell (ah _) _).setCell (ah _) _),by simpa using F⟩;rw[HT.out,b0.out];exact((T1.acS (max lg x) _ (by split<;>omega)).congr (fun n _=>b3.out n)).drew
    case measure=>simp[bH];omega
   ·have Q:au (dA (L.take j++[x])=dA (L.take j)/\∀n,cN (L.take j) n=cN (L.take j++[x]) n):=(⟨wL _ x h0,JH _ x h0⟩:_/\_);go_wp2_with fail
    go_roundw
    case rel=>refine⟨j+1,by omega,by go_num,?_,f,F⟩;rw[HT.out,Q.out.1];exact d.congr (fun n _=>Q.out.2 n)
    case measure=>simp[bH];omega
  ·have R:L.take j=L:=dn (by omega);rw[R]at d;clear R;have I:=CG wr 268;have S:=d.over (alloc_old (o:= .cells #[.int .i64 0,.int .i64 0,.int .i64 0,.int .i64 0,.int .i64 0,.int .i64 0,.int .i64 0,.int .i64 0,.int .i64 0,.int .i64 0,.int .i64 0,.int .i64 0,.int .i64 0,.int .i64 0,.int .i64 0,.int .i64 0] 268) d.lt);rw[F]at I;go_wp2_with fail
   go_loopw [9] (fun lv wx=> ∃n:Nat,1<=n/\n<=15/\lv= .int .i64 (n:Int)/\qX wx w.heap.size 271 (dA L) (cN L) (.slice none 0 0)/\xm wx (w.heap.size+1) 268 (fun i=>if i<=n then sN L i else 0)/\aA w.heap.size w wx/\wx.heap.size=w.heap.size+2) (fun lv _=>16-(bH lv).toNat)
   case atStart=>
    refine⟨1,by omega,by omega,rfl,S,I.congr (fun n T=> ?_),f.alloc (by omega) _,by simp;omega⟩;rcases n with _|_|n
    ·simp[sN]
    ·simp[sN,cN]
    ·simp
   case round=>
    clear d f F I S;obtain⟨n,d8,d9,rfl,d,l,f,F⟩:=hrel;have b4:sN L n<=6000:=by have:=JD L hl n;omega
    have G:cN L n<=400:=by have:=AZ L n;omega
    by_cases T:n<15
    ·have U:=l.cn n (by omega);have a2:=l.cn (n+1) (by omega);have t1:=d.cn n (by omega);have fa:=l.fr (n+1);have HS:au (sN L (n+1)=sN L n+cN L n):=rfl;have HU:au _:=JI L n;simp only[Nat.le_refl,if_true,show¬n+1<=n by omega,if_false]at U a2;obtain⟨sn,J⟩:∃sn,sn=sN L n:=⟨_,rfl⟩;obtain⟨cn,K⟩:∃cn,cn=cN L n:=⟨_,rfl⟩;rw[<-J]at U b4;rw[<-K]at t1 G;have HX:au (sN L (n+1)=sn+cn):=(by rw[HS.out,J,K]:_=_);clear J K;go_wp2_with fail
     go_region
     go_wp2_with fail
     go_roundw
     case rel=>refine⟨n+1,by omega,by omega,by go_num,(d.over (aC _ _ (by omega))).drew,?_,jG (f.setCell (show w.heap.size<=w.heap.size+1 by omega) _),by simpa using F⟩;exact((l.set (n+1) (sN L (n+1)) (by omega) _ (by rw[HX.out];omega)).congr (fun i hi=>HU.out i hi)).drew
     case measure=>simp[bH];omega
    ·have V:n=15:=by omega
     subst V;have U:=l.cn 15 (by omega);have t1:=d.cn 15 (by omega);have M:=d.c17;have X:=d.fr 17;have b5:au (sN L 16=sN L 15+cN L 15):=rfl;simp only[Nat.le_refl,if_true]at U;obtain⟨a,A⟩:∃a,a=sN L 16:=⟨_,rfl⟩;have e1:a<=6400:=by rw[A];exact LZ L hl
     have d6:(sN L 15:Int)+(cN L 15:Int)=(a:Int):=by rw[A,b5.out];omega
     have Q:au (a=sN L 16):=A;have q:xm wr (w.heap.size+1) 268 (xq L 0):=l.congr (fun i hi=>by
      rw[aG hi];unfold xq;by_cases e0:i=0
      ·subst e0;simp[sN]
      ·rw[ax e0];simp[rk,iO])
     clear A l;generalize sN L 15=e2 at*;generalize cN L 15=c15 at*;obtain⟨i0,hi,Y,Z,a0⟩:=info_parts acw;have b6:∀W:af,(Instr.makeSlice 269 (.int .i64 (a:Int)) (.int .i64 (a:Int))).run prog W= .ok (.slice (some ⟨W.heap.size,0,none⟩) a a) (W.alloc (.cells (madeCells #[.int .u8 0,.int .i64 0,.int .u64 0] (a*3)) 251)):=fun W=>by have h:=run_make (P:=prog) W 269 251 i0 _ underlying269 hi Y .i64 .i64 (a:Int) (a:Int) (by omega) (by omega) (by rw[a0];omega) (by omega);rw[h,Z];simp[Value.cells]
     have b7:∀o:Obj,(wr.alloc o).cell? ⟨w.heap.size,17,none⟩=_:=fun o=>Er.bU M o;have b8:∀o:Obj,(wr.alloc o).frozen? ⟨w.heap.size,17,none⟩=false:=fun o=>Er.fV M o X;clear hi Y Z a0 M X;go_wp2_with fail
     go_region
     have T2:qX ((wr.setCell ⟨w.heap.size,17,none⟩ (.slice (some ⟨w.heap.size+2,0,none⟩) a a)).alloc (.cells (madeCells #[.int .u8 0,.int .i64 0,.int .u64 0] (a*3)) 251)).drew w.heap.size 271 (dA L) (cN L) (.slice (some ⟨w.heap.size+2,0,none⟩) a a):=
      ((d.acT _).over (alloc_old (by simp;omega))).drew
     have A2:xm ((wr.setCell ⟨w.heap.size,17,none⟩ (.slice (some ⟨w.heap.size+2,0,none⟩) a a)).alloc (.cells (madeCells #[.int .u8 0,.int .i64 0,.int .u64 0] (a*3)) 251)).drew (w.heap.size+1) 268 (xq L 0):=
      ((q.over (aC _ _ (by omega))).over (alloc_old (by simp;omega))).drew
     have V2:nK ((wr.setCell ⟨w.heap.size,17,none⟩ (.slice (some ⟨w.heap.size+2,0,none⟩) a a)).alloc (.cells (madeCells #[.int .u8 0,.int .i64 0,.int .u64 0] (a*3)) 251)).drew (w.heap.size+2) a kW (fun _=>none):=
      ⟨_,jE _ _ _ (by simp;omega),oU _ _,fun j y _ h=>by cases h⟩
     have B2:aA w.heap.size w ((wr.setCell ⟨w.heap.size,17,none⟩ (.slice (some ⟨w.heap.size+2,0,none⟩) a a)).alloc (.cells (madeCells #[.int .u8 0,.int .i64 0,.int .u64 0] (a*3)) 251)).drew:=jG ((f.setCell (ah _) _).alloc (by simp;omega) _);clear d q f F b7 b8 b6 t1 U;generalize ((wr.setCell ⟨w.heap.size,17,none⟩ (.slice (some ⟨w.heap.size+2,0,none⟩) a a)).alloc (.cells (madeCells #[.int .u8 0,.int .i64 0,.int .u64 0] (a*3)) 251)).drew=w2 at*;go_wp2_with fail
     go_loopw [74] (fun iv wx=> ∃(i:Nat) (g:Nat->Option Nat),i<=L.length/\iv= .int .i64 (i:Int)/\qX wx w.heap.size 271 (dA L) (cN L) (.slice (some ⟨w.heap.size+2,0,none⟩) a a)/\xm wx (w.heap.size+1) 268 (xq L i)/\nK wx (w.heap.size+2) a kW g/\jF L i g/\aA w.heap.size w wx) (fun iv _=>L.length-(bH iv).toNat)
     case atStart=>exact⟨0,_,aX _,rfl,T2,A2,V2,jF.begin L _,B2⟩
     case round=>
      clear T2 A2 V2 B2;obtain⟨i,g,hi,rfl,d,l,E,hP,f⟩:=hrel;by_cases m:i<L.length
      ·have hc:=(h.over (f.block b hb)) i m;have c:L.getD i 0<=15:=jU L 15 hx i;by_cases h0:0<L.getD i 0
       ·have t:=(l.cn (L.getD i 0) c);have fA:=l.fr (L.getD i 0);have c17:=d.c17;have r:sN L (L.getD i 0)+rk L (L.getD i 0) i<a:=by rw[Q.out];exact EZ L _ _ c (SI L i m (by omega))
        obtain⟨⟨v0,s⟩,u⟩:=E.any _ 0 r (by omega);obtain⟨⟨v1,v⟩,B⟩:=E.any _ 1 r (by omega);obtain⟨⟨v2,z⟩,C⟩:=E.any _ 2 r (by omega);have HP:au _:=hP.more m (by omega);have HX:au _:=JJ L i h0;rw[CJ L i _ h0]at t;obtain⟨x,D⟩:∃x,x=L.getD i 0:=⟨_,rfl⟩;rw[<-D]at hc c h0 t fA r s u v B z C;have b9:au (jF L (i+1) (fun j=>if j=sN L x+rk L x i then some i else g j)):=(by rw[D];exact HP.out:jF _ _ _);have c1:au (∀n,n<=15->DX (xq L i) x (sN L x+rk L x i+1) n=xq L (i+1) n):=(by rw[D];exact HX.out:∀n,n<=15->_);clear HP HX D;obtain⟨p,hp⟩:∃p,p=sN L x+rk L x i:=⟨_,rfl⟩;simp only[<-hp]at t r s u v B z C;have N:au (p=sN L x+rk L x i):=hp;clear hp;have a3:∀o:Obj,xm (wr.alloc o) (w.heap.size+1) 268 (xq L i):=fun o=>l.over (alloc_old l.lt);have a4:∀o:Obj,qX (wr.alloc o) w.heap.size 271 (dA L) (cN L) (.slice (some ⟨w.heap.size+2,0,none⟩) a a):=fun o=>d.over (alloc_old d.lt);have a5:∀o:Obj,nK (wr.alloc o) (w.heap.size+2) a kW g:=fun o=>E.over (alloc_old E.lt);have a6:∀o:Obj,aA w.heap.size w (wr.alloc o):=fun o=>f.alloc (Nat.le_of_lt d.lt) _;simp only[Nat.add_zero]at s u;have c2:∀o:Obj,(wr.alloc o).cell? ⟨w.heap.size+1,x,none⟩=_:=fun o=>Er.bU t o;have c3:∀o:Obj,(wr.alloc o).cell? ⟨w.heap.size,17,none⟩=_:=fun o=>Er.bU c17 o;have c5:∀o:Obj,(wr.alloc o).cell? ⟨w.heap.size+2,p*3,none⟩=_:=fun o=>Er.bU s o;have c6:∀o:Obj,(wr.alloc o).cell? ⟨w.heap.size+2,p*3+1,none⟩=_:=fun o=>Er.bU v o;have c7:∀o:Obj,(wr.alloc o).cell? ⟨w.heap.size+2,p*3+2,none⟩=_:=fun o=>Er.bU z o;have c8:∀o:Obj,(wr.alloc o).frozen? ⟨w.heap.size+2,p*3,none⟩=false:=fun o=>Er.fV s o u;have c9:∀o:Obj,(wr.alloc o).frozen? ⟨w.heap.size+2,p*3+1,none⟩=false:=fun o=>Er.fV v o B;have d0:∀o:Obj,(wr.alloc o).frozen? ⟨w.heap.size+2,p*3+2,none⟩=false:=fun o=>Er.fV z o C;have a7:i<=400:=by omega
        go_upto_region 19 with fail
        go_cut [] (fun wx=>qX wx w.heap.size 271 (dA L) (cN L) (.slice (some ⟨w.heap.size+2,0,none⟩) a a)/\xm wx (w.heap.size+1) 268 (xq L i)/\nK wx (w.heap.size+2) a kW (fun j=>if j=p then some i else g j)/\aA w.heap.size w wx)
        case first=>
         go_region_with ((go_at_call 161;refine(UK i _ a7).mono ?_;rintro e w3 ⟨rfl,rfl⟩))
         all_goals
          go_wp2_with fail
          go_meet
          case rel=>exact⟨((((a4 _).over (aC _ _ (show w.heap.size≠w.heap.size+2 by omega))).over (aC _ _ (show w.heap.size≠w.heap.size+2 by omega))).over (aC _ _ (show w.heap.size≠w.heap.size+2 by omega))).drew,((((a3 _).over (aC _ _ (show w.heap.size+1≠w.heap.size+2 by omega))).over (aC _ _ (show w.heap.size+1≠w.heap.size+2 by omega))).over (aC _ _ (show w.heap.size+1≠w.heap.size+2 by omega))).drew,((a5 _).set p i r).drew,jG ((((a6 _).setCell (show w.heap.size<=w.heap.size+2 by omega) _).setCell (show w.heap.size<=w.heap.size+2 by omega) _).setCell (show w.heap.size<=w.heap.size+2 by omega) _)⟩
        case rest=>
         obtain⟨d1,q,d2,d3⟩:=hcut;have a8:=q.cn x c;have d7:=q.fr x;rw[CJ L i x h0,<-N.out]at a8;have e4:p<=6400:=by omega
         clear a4 a3 a5 a6 c2 c3 c5 c6 c7 c8 c9 d0 d l f E s u v B z C fA t c17 hc;go_wp2_with fail
         go_roundw
         case rel=>
          refine⟨i+1,(fun j=>if j=p then some i else g j),by omega,by go_num,d1.over (aC _ _ (by omega)),?_,d2.over (aC _ _ (by omega)),?_,d3.setCell (show w.heap.size<=w.heap.size+1 by omega) _⟩
          ·refine(q.set x (p+1) c _ (by omega)).congr (fun n T=> ?_);rw[N.out];exact c1.out n T
          ·rw[N.out];exact b9.out
         case measure=>simp[bH];omega
       ·have O:L.getD i 0=0:=by omega
        have HP:au (jF L (i+1) g):=hP.none O;have HR:au (∀n,n<=15->xq L i n=xq L (i+1) n):=JK L i O;rw[O]at hc;go_wp2_with fail
        go_roundw
        case rel=>exact⟨i+1,g,by omega,by go_num,d,l.congr (fun n T=>HR.out n T),E,HP.out,f⟩
        case measure=>simp[bH];omega
      ·have d4:i=L.length:=by omega
       subst d4;have d5:um wr w.heap.size kW L:=by obtain⟨a9,v1,v2,v3⟩:=E;refine⟨w.heap.size+2,a9,qX.hd (by rw[<-Q.out];exact d),v1,fun j hj=> ?_⟩;exact v3 j _ (by rw[Q.out];exact hj) (hP.all j hj)
       go_wp2_with fail
       go_ret;exact⟨⟨_,rfl,d5,ah _⟩,f⟩
theorem um.xu{w w':af}{k:Nat}{f:Nat->Nat×Nat×Nat}{L:List Nat}(h:um w k f L)(e:∀b,b<w.heap.size->w'.heap[b]?=w.heap[b]?):um w' k f L:=by obtain⟨vb,g,⟨cur,a,b⟩,c,d⟩:=h;exact⟨vb,g,⟨cur,(e k (ak a)).trans a,b⟩,(e vb (ak c)).trans c,d⟩
def lM(w:af)(k:Nat)(A B:List Nat):Prop:=∃a kb,w.heap[k]?=some (.cells #[.pointer (some ⟨a,0,none⟩),.pointer (some ⟨kb,0,none⟩)] 255 (0,0))/\um w a iV A/\um w kb kW B
theorem lM.xu{w w':af}{k:Nat}{A B:List Nat}(h:lM w k A B)(e:∀b,b<w.heap.size->w'.heap[b]?=w.heap[b]?):lM w' k A B:=by obtain⟨a,kb,h1,h2,c⟩:=h;exact⟨a,kb,(e k (ak h1)).trans h1,h2.xu e,c.xu e⟩
theorem zJ(b o cap f h a:Nat)(A B:List Nat)(w:af)(r:jL w b o A)(hb:b<w.heap.size)(i:A.length<=400)(j:∀x∈A,x<=15)(s:jL w f h B)(l:f<w.heap.size)(m:B.length<=400)(n:∀x∈B,x<=15):
 aH prog 151 #[.slice (some ⟨b,o,none⟩) A.length cap,.slice (some ⟨f,h,none⟩) B.length a] w fun e w'=>(∃k,e= .returned (.pointer (some ⟨k,0,none⟩))/\lM w' k A B/\w.heap.size<=k)/\aA w.heap.size w w':=by
 go_enter func151,ntmps151
 go_wp2_with fail
 refine(XQ b o cap A _ r hb i j).mono ?_;rintro e w1 ⟨⟨t,rfl,p,u⟩,c⟩;have v:=c.size;go_wp2_with fail
 refine(XR f h a B _ (s.over (c.block f l)) (by omega) m n).mono ?_;rintro e w2 ⟨⟨y,rfl,q,z⟩,d⟩;have C:=d.size;have g:=p.xu (fun b hb=>d.block b hb);go_wp2_with fail
 go_ret;refine⟨⟨_,rfl,⟨t,y,jE _ _ _ rfl,g.xu (fun b hb=>alloc_old hb),q.xu (fun b hb=>alloc_old hb)⟩,by omega⟩,?_⟩;exact(c.trans (d.mono (by omega))).alloc (by omega) _
def sZ(w:af)(b N:Nat)(f:Nat->Nat):Prop:=∃cur,w.heap[b]?=some (.cells cur 5 (0,0))/\cur.size=N/\∀n,n<N->cur[n]?=some (.int .u8 ((f n:Nat):Int))
theorem sZ.cn{w:af}{b N:Nat}{f:Nat->Nat}(h:sZ w b N f)(n:Nat)(a:n<N):w.cell? ⟨b,n,none⟩=some (.int .u8 ((f n:Nat):Int))/\w.frozen? ⟨b,n,none⟩=false:=by obtain⟨cur,h1,h2,c⟩:=h;exact⟨by rw[(cell_of h1 _).1,c n a],(cell_of h1 n).2⟩
theorem sZ.lt{w:af}{b N:Nat}{f:Nat->Nat}(h:sZ w b N f):b<w.heap.size:=by obtain⟨cur,h1,_⟩:=h;exact ak h1
theorem sZ.over{w w':af}{b N:Nat}{f:Nat->Nat}(h:sZ w b N f)(e:w'.heap[b]?=w.heap[b]?):sZ w' b N f:=by obtain⟨cur,h1,h2⟩:=h;exact⟨cur,e.trans h1,h2⟩
theorem sZ.congr{w:af}{b N:Nat}{f g:Nat->Nat}(h:sZ w b N f)(e:∀n,n<N->f n=g n):sZ w b N g:=by obtain⟨cur,h1,h2,c⟩:=h;exact⟨cur,h1,h2,fun n a=>by rw[c n a,e n a]⟩
theorem sZ.set{w:af}{b N:Nat}{f:Nat->Nat}(h:sZ w b N f)(n x:Nat)(d:n<N)(X:Int)(a:X=(x:Int)):sZ (w.setCell ⟨b,n,none⟩ (.int .u8 X)) b N (DX f n x):=by
 obtain⟨cur,h1,h2,c⟩:=h;subst a;refine⟨_,bF h1 _ _,by simpa using h2,?_⟩;intro m hm;by_cases e:m=n
 ·subst e;rw[dS (by omega)];simp[DX]
 ·rw[bu (by omega),c m hm];simp[DX,e]
theorem sZ.bytes{w:af}{b N:Nat}{f:Nat->Nat}(h:sZ w b N f)(L:List Nat)(a:L.length=N)(e:∀n,n<N->f n=L.getD n 0):jL w b 0 L:=by intro i hi;rw[fQ,(h.cn i (by omega)).1,e i (by omega)]
theorem MN:(prog.info? 5).map (fun i=>(i.zero,i.size,i.bytes))=some (some (.int .u8 0),1,1):=by kernel_rfl
theorem IJ(n j:Nat)(h:j<n):(madeCells #[.int .u8 0] n)[j]?=some (.int .u8 ((0:Nat):Int)):=by simp[madeCells,h];simp[Nat.mod_one]
theorem wM(W:af)(n:Nat)(e:n<=1000):(Instr.makeSlice 39 (.int .i64 (n:Int)) (.int .i64 (n:Int))).run prog W= .ok (.slice (some ⟨W.heap.size,0,none⟩) n n) (W.alloc (.cells (madeCells #[.int .u8 0] n) 5)):=by obtain⟨d,hi,a,b,c⟩:=info_parts MN;have h:=run_make (P:=prog) W 39 5 d _ underlying39 hi a .i64 .i64 (n:Int) (n:Int) (by omega) (by omega) (by rw[c];omega) (by omega);rw[h,b];simp[Value.cells]
theorem zX(W:af)(n b:Nat)(hb:b=W.heap.size):sZ (W.alloc (.cells (madeCells #[.int .u8 0] n) 5)) b n (fun _=>0):=
 ⟨_,jE W _ _ hb,oU _ _,fun j a=>IJ n j a⟩
theorem IK(f:Nat->Nat)(j:Nat):∀n,DX (fun n=>if n<j then f n else 0) j (f j) n=if n<j+1 then f n else 0:=by
 intro n;unfold DX;by_cases e:n=j
 ·subst e;rw[aG rfl,aG (by omega)]
 ·rw[ax e];dsimp only;by_cases h:n<j
  ·rw[aG h,aG (by omega)]
  ·rw[ax h,ax (by omega)]
theorem JL(w:af):
 aH prog 144 #[] w fun e w'=>(∃k,e= .returned (.pointer (some ⟨k,0,none⟩))/\lM w' k gU (List.replicate 32 5)/\w.heap.size<=k)/\aA w.heap.size w w':=by
 have l:(Instr.makeSlice 39 (.int .i64 288) (.int .i64 288)).run prog w= .ok (.slice (some ⟨w.heap.size,0,none⟩) 288 288) (w.alloc (.cells (madeCells #[.int .u8 0] 288) 5)):=wM w 288 (by omega);have b:=zX w 288 _ rfl;go_enter func144,ntmps144
 go_wp2_with fail
 go_loopw [8] (fun iv wr=> ∃j:Nat,j<=288/\iv= .int .i64 (j:Int)/\sZ wr w.heap.size 288 (fun n=>if n<j then sO n else 0)/\aA w.heap.size w wr/\wr.heap.size=w.heap.size+1) (fun iv _=>288-(bH iv).toNat)
 case atStart=>exact⟨0,by omega,rfl,b.congr (fun n _=>by simp),(aV _ _).alloc (ah _) _,by simp⟩
 case round=>
  clear l b;obtain⟨j,z,rfl,d,f,g⟩:=hrel;by_cases q:j<288
  ·obtain⟨c1,c2⟩:=d.cn j q;have t:au _:=IK sO j;have s:au (sO j=if 144<=j/\j<256 then 9 else if 256<=j/\j<280 then 7 else 8):=rfl;have a:∀(x:Nat),sO j=x->sZ (wr.setCell ⟨w.heap.size,j,none⟩ (.int .u8 (x:Int))) w.heap.size 288 (fun n=>if n<j+1 then sO n else 0):=fun x o=>
    (d.set j (sO j) q _ (by rw[o])).congr (fun n _=>t.out n)
   by_cases h1:j<144
   ·have d1:decide ((j:Int)<144)=true:=aZ (by omega);go_wp2_with fail
    go_roundw
    case rel=>exact⟨j+1,by omega,by go_num,a 8 (by rw[s.out,ax (by omega),ax (by omega)]),f.setCell (ah _) _,by simpa using g⟩
    case measure=>simp[bH];omega
   ·have d1:decide ((j:Int)<144)=false:=aS (by omega);by_cases h2:j<256
    ·have d2:decide ((j:Int)<256)=true:=aZ (by omega);go_wp2_with fail
     go_roundw
     case rel=>exact⟨j+1,by omega,by go_num,a 9 (by rw[s.out,aG (by omega)]),f.setCell (ah _) _,by simpa using g⟩
     case measure=>simp[bH];omega
    ·have d2:decide ((j:Int)<256)=false:=aS (by omega);by_cases C:j<280
     ·have d3:decide ((j:Int)<280)=true:=aZ (by omega);go_wp2_with fail
      go_roundw
      case rel=>exact⟨j+1,by omega,by go_num,a 7 (by rw[s.out,ax (by omega),aG (by omega)]),f.setCell (ah _) _,by simpa using g⟩
      case measure=>simp[bH];omega
     ·have d3:decide ((j:Int)<280)=false:=aS (by omega);go_wp2_with fail
      go_roundw
      case rel=>exact⟨j+1,by omega,by go_num,a 8 (by rw[s.out,ax (by omega),ax (by omega)]),f.setCell (ah _) _,by simpa using g⟩
      case measure=>simp[bH];omega
  ·have m:j=288:=by omega
   subst m;have l:(Instr.makeSlice 39 (.int .i64 32) (.int .i64 32)).run prog wr= .ok (.slice (some ⟨wr.heap.size,0,none⟩) 32 32) (wr.alloc (.cells (madeCells #[.int .u8 0] 32) 5)):=wM wr 32 (by omega);have b:=zX wr 32 (w.heap.size+1) g.symm;have c:sZ (wr.alloc (.cells (madeCells #[.int .u8 0] 32) 5)) w.heap.size 288 sO:=(d.congr (fun n p=>aG p)).over (alloc_old d.lt);have r:aA w.heap.size w (wr.alloc (.cells (madeCells #[.int .u8 0] 32) 5)):=f.alloc (by omega) _;go_wp2_with fail
   go_loopw [36] (fun iv wx=> ∃j:Nat,j<=32/\iv= .int .i64 (j:Int)/\sZ wx (w.heap.size+1) 32 (fun n=>if n<j then 5 else 0)/\sZ wx w.heap.size 288 sO/\aA w.heap.size w wx/\wx.heap.size=w.heap.size+2) (fun iv _=>32-(bH iv).toNat)
   case atStart=>exact⟨0,by omega,rfl,b.congr (fun n _=>by simp),c,r,by simp;omega⟩
   case round=>
    clear l b d c r f g;obtain⟨j,z,rfl,d,c,f,g⟩:=hrel;by_cases h:j<32
    ·obtain⟨c1,c2⟩:=d.cn j h;have t:au _:=IK (fun _=>5) j;go_wp2_with fail
     go_roundw
     case rel=>exact⟨j+1,by omega,by go_num,(d.set j 5 h _ rfl).congr (fun n _=>t.out n),c.over (aC _ _ (by omega)),f.setCell (show w.heap.size<=w.heap.size+1 by omega) _,by simpa using g⟩
     case measure=>simp[bH];omega
    ·have m:j=32:=by omega
     subst m;have A:jL wr w.heap.size 0 gU:=c.bytes gU (by simp[gU]) (fun n p=>by simp[gU,List.getD_eq_getElem?_getD,p]);have hD:jL wr (w.heap.size+1) 0 (List.replicate 32 5):=d.bytes _ (by simp) (fun n p=>by rw[aG p,ag,zA,aG p];rfl)
     have hlen:gU.length=288:=by simp[gU]
     have u:(List.replicate 32 5).length=32:=by simp
     have v:∀x∈gU,x<=15:=by intro x o;simp only[gU,List.mem_map]at o;obtain⟨i,_,rfl⟩:=o;unfold sO;split<;>(try split)<;>omega
     go_wp2_with fail
     refine(zJ w.heap.size 0 288 (w.heap.size+1) 0 32 gU (List.replicate 32 5) _ A (by omega) (by omega) v hD (by omega) (by omega) (fun x o=>by rw[List.eq_of_mem_replicate o];omega)).mono ?_;rintro e w2 ⟨⟨k,rfl,B,D⟩,y⟩;go_wp2_with fail
     go_ret;exact⟨⟨k,rfl,B,by omega⟩,f.trans (y.mono (by omega))⟩
open lI (byteCells iM)
theorem JW{w:af}{base:Nat}{v v':ay}{n:Nat}{xs:List ay}{z:Int}{w':af}(ty:aW)(f:w.ownsRow base 5 1 v n xs)(a:bG)(c:Nat)(x:w.cell? a=some (.int .u8 z))(E:n<=100000000)
 (q:(Builtin.append_ #[39,39] ty #[v,.slice (some a) 1 c]).run prog w= .ok v' w'):∀k,v'.ownBlock=some k->v.ownBlock=some k\/w.heap.size<=k:=by
 obtain⟨r,hi,l,h,m⟩:=info_parts MN;have e:∀j u,[Value.int .u8 z][j]?=some u->w.cell? (a.add j)=some u:=by
  intro j u p;match j,p with
  |0,p=>simp at p;subst p;simpa [Addr.add]using x
 rcases f.2 with⟨rfl,rfl⟩|⟨g,cap,cur,rfl,y,A,B,C,D,s⟩
 ·obtain⟨v2,w2,d,t,_⟩:=run_append_own (P:=prog) w w.heap.size 39 ty 5 r (.int .u8 0) 1 1 underlying39 hi l h m rfl (by decide) (.slice none 0 0) 0 [] (eX _ _ _ _) a 1 c [.int .u8 z] rfl e (by intro u hu;simp at hu;subst hu;rfl) (by unfold maxLen;omega) (by omega) (ah _);rw[q]at d;obtain⟨rfl,rfl⟩:v'=v2/\w'=w2:=by injection d with a b;exact⟨a,b⟩
  intro k o;exact .inr (t.lt k o).1
 ·by_cases i:n+1<=cap
  ·have d:=run_append_room (P:=prog) w 39 ty 5 r underlying39 hi g n cap cur A a 1 c [.int .u8 z] (by rw[h];rfl) e (by intro u hu;simp at hu;subst hu;rfl) i (by rw[h];simp;omega);rw[q]at d;obtain⟨rfl,_⟩:v'=_/\w'=_:=by injection d with a b;exact⟨a,b⟩
   intro k o;exact .inl o
  ·have d:=run_append_grow (P:=prog) w 39 ty 5 r (.int .u8 0) underlying39 hi l ⟨g,0,none⟩ n cap xs (by rw[h];exact f.1) (f.cells (g:=g) rfl) a 1 c [.int .u8 z] (by rw[h];rfl) e (by omega) (by omega) (growslice_fits (by omega) (by rw[m];omega));rw[q]at d;obtain⟨rfl,_⟩:v'=_/\w'=_:=by injection d with a b;exact⟨a,b⟩
   intro k o;simp[Value.ownBlock]at o;exact .inr (by omega)
theorem pK{wr:af}{ops:Array Oper}{rest:List Oper}{o:Oper}{a:Act}{Q:Exit->Act->af->Prop}(f:o.guard=none)(s x:Operand)
 (p:o.op= .call {callee:= .builtin .append,args:= #[s,x],argTypes:= #[39,39]}) (base:Nat) (v:ay) (n:Nat) (xs:List ay) (z:Int)
 (b:wr.ownsRow base 5 1 v n xs) (q:a.eval s=v) (r:a.eval x= .slice (some ⟨wr.heap.size,0,none⟩) 1 1) (t:n<=100000000) (hb:base<=wr.heap.size)
 (h:∀v' w',w'.ownsRow base 5 1 v' (n+1) (xs++[.int .u8 z])->(wr.alloc (.cells #[.int .u8 z] 5)).grownBy w' v.ownBlock->(∀k,v'.ownBlock=some k->v.ownBlock=some k\/wr.heap.size<=k)->wpList prog ops Q rest (a.put o.dst v') w'):
 wpList prog ops Q (o::rest) a (wr.alloc (.cells #[.int .u8 z] 5)):=by
 obtain⟨w,hi,g,i,l⟩:=info_parts MN;have c:(wr.alloc (.cells #[.int .u8 z] 5)).cell? ⟨wr.heap.size,0,none⟩=some (.int .u8 z):=by simp
 have d:∀j u,[Value.int .u8 z][j]?=some u->(wr.alloc (.cells #[.int .u8 z] 5)).cell? ((⟨wr.heap.size,0,none⟩:bG).add j)=some u:=by
  intro j u e;match j,e with
  |0,e=>simp at e;subst e;simp[Addr.add]
 obtain⟨v',w',m,h2,y,B⟩:=run_append_own (P:=prog) (wr.alloc (.cells #[.int .u8 z] 5)) base 39 o.type 5 w (.int .u8 0) 1 1 underlying39 hi g i l rfl (by decide) v n xs (b.alloc _) ⟨wr.heap.size,0,none⟩ 1 1 [.int .u8 z] rfl d (by intro u hu;simp at hu;subst hu;rfl) (by unfold maxLen;omega) (by omega) (by simp;omega);have hw:=JW o.type (b.alloc (.cells #[.int .u8 z] 5)) ⟨wr.heap.size,0,none⟩ 1 c t m;refine wpList_plain f fun K hK=> ?_;unfold Oper.wp execOp;simp only[p,resolve,invoke,builtin,Sem.run_bind,Sem.run_pure,Result.andThen_ok,List.map_toArray,List.map_cons,List.map_nil,q,r,m];exact hK _ _ (h v' w' h2 y (fun k A=>(hw k A).imp id (fun h=>by simp at h;omega)))
theorem fZ{w w':af}{base:Nat}{v:ay}{n:Nat}{xs:List ay}(h:w.ownsRow base 5 1 v n xs)(e:∀k,v.ownBlock=some k->w'.heap[k]?=w.heap[k]?):w'.ownsRow base 5 1 v n xs:=by
 refine⟨h.1,?_⟩;rcases h.2 with h|⟨g,cap,cur,rfl,a,b,c⟩
 ·exact .inl h
 ·exact .inr ⟨g,cap,cur,rfl,a,(e g rfl).trans b,c⟩
theorem iy{w:af}{base:Nat}{v:ay}{n:Nat}{xs:List ay}(h:w.ownsRow base 5 1 v n xs){k:Nat}{cur:Array ay}{T:aW}{f:Nat×Nat}(a:w.heap[k]?=some (.cells cur T f))(c:T≠5):v.ownBlock≠some k:=by
 rcases h.2 with⟨rfl,_⟩|⟨g,cap,d,rfl,_,b,_⟩
 ·simp[Value.ownBlock]
 ·intro e;simp[Value.ownBlock]at e;subst e;rw[b]at a;simp at a;exact c a.2.1.symm
end Pr
end Go.Proofs.YtephkcdbnogdhabGreatDoor
