import Derived.Test.YtephkcdbnogdhaaGreatDoorM27
import Derived.Test.YtephkcdbnogdhaaGreatDoorM31
set_option linter.unusedVariables false
set_option maxHeartbeats 40000000
set_option maxRecDepth 10000
namespace Go.Proofs.YtephkcdbnogdhaaGreatDoor
open Go.Proofs.Tryz
open Go renaming World->af,Value->ay,Calls->aF,TypeId->aY,Addr->bP
open Go.RowKit renaming Hid->ah,Below->aJ,intOf->aX
namespace Pr
open Go.RowKit Rf Cr
theorem mG.below{w w':af}{B:Nat}(h:mG w)(hb:aJ B w w')(a:5<B):mG w':=fun i hi=>(aV (hb.block _ a)).trans (h i hi)
theorem QI(W H D K vb:Nat)(I:Bool)(t:lC)(w:af)(hS:mG w)(hg:7<=w.heap.size)(hW:W<=1048576)(hH:H<=1048576)(hD:D<=16)(hK:K<=255)(X:(dZ W H I)[0]?=some t)(R:t.W<=1048576):
 aF prog 156 #[qX W H D K I,Qp vb] w fun e w'=> ∃rb pv g7 g8,e= .returned (.pointer (some ⟨rb,0,none⟩))/\w.heap.size<=rb/\g7≠g8/\w.heap.size<=g7/\w.heap.size<=g8/\w'.ownsRow w.heap.size 301 6 pv (dZ W H I).length (dn (dZ W H I))/\
  w'.heap[rb]?=some (dN (D*bF K) pv (Qp vb) 0 0 0 (aQ (D*bF K)) (.slice (some ⟨g7,0,none⟩) (aQ (D*bF K)+bY (D*bF K) t.W) (aQ (D*bF K)+bY (D*bF K) t.W)) (.slice (some ⟨g8,0,none⟩) (aQ (D*bF K)+bY (D*bF K) t.W) (aQ (D*bF K)+bY (D*bF K) t.W)) 0 0)/\jL w' g7 (List.replicate (aQ (D*bF K)+bY (D*bF K) t.W) 0)/\jL w' g8 (List.replicate (aQ (D*bF K)+bY (D*bF K) t.W) 0)/\aJ w.heap.size w w':=by
 have p:bF K<=4:=by unfold bF;(repeat' split)<;>omega
 have q:D*bF K<=16*4:=bT hD p;have r:=fun w'=>Ap W H D K I w' hD hK;have s:∀w',aJ w.heap.size w w'->aF prog 187 #[qX W H D K I] w' fun e i=> ∃la cap,e= .returned (.slice la (dZ W H I).length cap)/\ah (i.ownsRow w.heap.size 301 6 (.slice la (dZ W H I).length cap) (dZ W H I).length (dn (dZ W H I)))/\aJ w'.heap.size w' i:=fun w' hb=>by refine(Nz W H D K I w' (hS.below hb (by omega)) (by have:=hb.size;omega) hW hH).mono ?_;rintro e i ⟨v,rfl,G,S⟩;obtain⟨la,cap,rfl⟩:=nX G;exact⟨la,cap,rfl,zM G hb.size,S⟩
 have u:=fun rb pv w' (G:w'.heap[rb]?=some (dN (D*bF K) pv (Qp vb) 0 0 0 0 (.slice none 0 0) (.slice none 0 0) 0 0)) (S:w'.ownsRow w.heap.size 301 6 pv (dZ W H I).length (dn (dZ W H I)))=>QH rb (D*bF K) 0 0 0 0 0 0 w.heap.size pv (Qp vb) _ _ (dZ W H I) t w' G S X (Be W H I) q R;have x:ah _:=u;have j:ah _:=r;have l:ah _:=s;clear u r s X;generalize (dZ W H I).length=m at*;generalize dn (dZ W H I)=cells at*;generalize D*bF K=bits at*;unfold qX at j l|-;have y:ah (aJ w.heap.size w (w.alloc (.cells #[.int .i64 (W:Int),.int .i64 (H:Int),.int .i64 (D:Int),.int .u8 (K:Int),.bool I] 221)).drew):=(Below.PR ((aP _ _).alloc (ag _) _):aJ _ _ _);unfold Qp at x|-;go_enter func156,ntmps156
 go_wp2_with fail
 have z:ah (∀w',aJ (w.heap.size+1) (w.alloc (.cells #[.int .i64 (W:Int),.int .i64 (H:Int),.int .i64 (D:Int),.int .u8 (K:Int),.bool I] 221)).drew w'->w'.cell? ⟨w.heap.size,0,none⟩=some (.int .i64 (W:Int))/\w'.cell? ⟨w.heap.size,1,none⟩=some (.int .i64 (H:Int))/\w'.cell? ⟨w.heap.size,2,none⟩=some (.int .i64 (D:Int))/\w'.cell? ⟨w.heap.size,3,none⟩=some (.int .u8 (K:Int))/\w'.cell? ⟨w.heap.size,4,none⟩=some (.bool I)):=(fun w' hb=>by have A:w'.heap[w.heap.size]?=some (.cells #[.int .i64 (W:Int),.int .i64 (H:Int),.int .i64 (D:Int),.int .u8 (K:Int),.bool I] 221 (0,0)):=(hb.block _ (by omega)).trans (aO w _);exact⟨by simpa using(cell_of A 0).1,by simpa using(cell_of A 1).1,by simpa using(cell_of A 2).1,by simpa using(cell_of A 3).1,by simpa using(cell_of A 4).1⟩:∀w',_)
 have d:ah (∀w',aJ ((w.alloc (.cells #[.int .i64 (W:Int),.int .i64 (H:Int),.int .i64 (D:Int),.int .u8 (K:Int),.bool I] 221)).drew).heap.size (w.alloc (.cells #[.int .i64 (W:Int),.int .i64 (H:Int),.int .i64 (D:Int),.int .u8 (K:Int),.bool I] 221)).drew w'->aJ w.heap.size w w'/\aJ (w.heap.size+1) (w.alloc (.cells #[.int .i64 (W:Int),.int .i64 (H:Int),.int .i64 (D:Int),.int .u8 (K:Int),.bool I] 221)).drew w'):=(fun w' hb=>⟨gI y.out (hb.mono (by simp[World.drew])),hb.mono (by simp[World.drew])⟩:∀w',_)
 go_region_with (first
  |(go_at_call 186;refine(j.out (World.drew (w.alloc (.cells #[.int .i64 (W:Int),.int .i64 (H:Int),.int .i64 (D:Int),.int .u8 (K:Int),.bool I] 221)))).mono ?_;rintro e w3 ⟨rfl,b⟩;obtain⟨x0,Z,x2,x3,x4⟩:=z.out w3 (d.out w3 b).2)
  |(go_at_call 186;refine(j.out c).mono ?_;rintro e w3 ⟨rfl,b⟩)
  |(go_at_call 187;refine(l.out (World.drew (w.alloc (.cells #[.int .i64 (W:Int),.int .i64 (H:Int),.int .i64 (D:Int),.int .u8 (K:Int),.bool I] 221))) y.out).mono ?_;rintro e c ⟨la,cap,rfl,n,f⟩;obtain⟨y0,y1,y2,y3,y4⟩:=z.out c (d.out c f).2)
  |(go_at_call 187;refine(l.out w3 (d.out w3 b).1).mono ?_;rintro e c ⟨la,cap,rfl,n,f⟩))
 all_goals
  have o:w.heap.size<=w3.heap.size:=(d.out w3 b).1.size;have B:w3.heap.size<=c.heap.size:=f.size;have C:aJ w.heap.size w c:=(d.out w3 b).1.trans (f.mono o);have g:c.ownsRow w.heap.size 301 6 (.slice la m cap) m cells:=n.out;have Y:ah _:=x.out c.heap.size (.slice la m cap) (c.alloc (dN bits (.slice la m cap) (.func (.func 157) #[.pointer (some ⟨vb,0,none⟩)] #[]) 0 0 0 0 (.slice none 0 0) (.slice none 0 0) 0 0)) (aO c _) (g.alloc _);have T:ah _:=C;have U:ah (w.heap.size<=c.heap.size):=(aK o B:_<=_);have E:ah _:=g;clear o B C b f g n x0 Z x2 x3 x4;go_wp2_with fail
  refine bz Y.out ?_;rintro e w5 ⟨rfl,g7,g8,J,L,M,N,O,P,h⟩;have HQ:ah _:=(⟨J,L,M,N,O,P,h⟩:_/\_/\_/\_/\_/\_/\_);clear J L M N O P h Y;go_wp2_with fail
  go_ret;have hq:=HQ.out;obtain⟨J,L,M,N,O,P,h⟩:=hq;have hs:=U.out;have a:c.ownsRow w.heap.size 301 6 (.slice la m cap) m cells:=E.out;simp at L M;have V:aJ w.heap.size w w5:=by have F:=Below.alloc T.out hs (dN bits (.slice la m cap) (.func (.func 157) #[.pointer (some ⟨vb,0,none⟩)] #[]) 0 0 0 0 (.slice none 0 0) (.slice none 0 0) 0 0);exact⟨h.os.trans F.os,h.tape.trans F.tape,h.output.trans F.output,aK F.size h.size,fun k Q=>(h.block k (by simp;omega) (by omega)).trans (F.block k Q)⟩
  refine⟨c.heap.size,.slice la m cap,g7,g8,rfl,hs,J,by omega,by omega,?_,N,O,P,V⟩;refine iM (a.alloc _) (fun k Q=>h.block k (by have:=(a.lt k Q).2;simp;omega) (by have:=(a.lt k Q).2;omega))
open h_ (cut gz aT fV jo)
theorem Yr(s:ByteArray)(f:Nat):∀p left l,p<=s.size->(yV s f p left l).length<=s.size-p:=by
 induction f with
 |zero=>intro p left l _;simp[yV]
 |succ f a=>
  intro p left l hp;rw[yV,bQ];have b:(cut s p left).length<=left/\(cut s p left).length<=s.size-p:=by unfold cut;rw[jl,iI];simp;omega
  by_cases h:oM s p left l
  ·have c:=Cj h;rw[aC h];have d:=a (p+left+4+8) (aT s (p+left+4)) (cut s (p+left+4+4) 4) (by omega);omega
  ·rw[au h];simp;omega
noncomputable def qR(s:ByteArray)(p left:Nat)(l:List UInt8):ByteArray:=⟨(kU s p left l).toArray⟩
theorem UN(s:ByteArray)(p left:Nat)(l:List UInt8)(hp:p<=s.size):(qR s p left l).size<=s.size:=by have:=Yr s (s.size+1) p left l hp;show(kU s p left l).toArray.size<=_;simp only[List.size_toArray];unfold kU;omega
theorem Yt{P:wW}{a b:List UInt8}{c:eU}(h:n_ P (qP a) c=none)(hp:a<+:b):n_ P (qP b) c=none:=by obtain⟨t,rfl⟩:=hp;unfold qP at h|-;rw[List.map_append,qg,h];rfl
theorem abt(S:Src)(cb:Nat)(s:ByteArray)(w:af)(p left:Nat)(l:List UInt8)(h:CR S cb s w p dV left l):
 aF prog 158 #[.pointer (some ⟨cb,0,none⟩),lW] w fun e w'=>e= .returned (.pointer (some ⟨w.heap.size,0,none⟩))/\w'=w.alloc (RY cb lW):=by
 have a:=yU S cb s w p left dV l h;unfold lW;clear h;go_enter func158,ntmps158
 go_wp2_with fail
 refine a.mono ?_;rintro e w1 ⟨rfl,hw⟩;have hw:=hw.symm;subst hw;go_wp2_with fail
 go_ret;exact⟨rfl,rfl⟩
def rs0(bits N:Nat)(t:lC):eU:=⟨0,0,0,List.replicate (aQ bits+bY bits t.W) 0,List.replicate (aQ bits+bY bits t.W) 0,0,0,List.replicate N 0⟩
def Iy(W H D K:Nat)(I:Bool)(st:Cs):wW:=⟨dZ W H I,D*bF K,W,Om K D st.E st.C⟩
def UO(s:ByteArray)(p left:Nat)(l:List UInt8)(W H D K:Nat)(I:Bool)(st:Cs)(t:lC):Prop:=
 Oo (qR s p left l) (kY (D*bF K) (dZ W H I)) (fun _=> ∃P,Ends s p left l P)/\∃f,n_ (Iy W H D K I st) (qP (wU (qR s p left l) (kY (D*bF K) (dZ W H I))).out) (rs0 (D*bF K) (4*W*H) t)=some f
theorem Yu{w:af}{S:Src}{cb rb vb kb gp base W H D K g7 g8:Nat}{I:Bool}{ev cv pv:ay}{st:Cs}{t:lC}(e:oC S cb w)(hb:S.base<=base)
 (b:w.heap[rb]?=some (dN (D*bF K) pv (Qp vb) 0 0 0 (aQ (D*bF K)) (.slice (some ⟨g7,0,none⟩) (aQ (D*bF K)+bY (D*bF K) t.W) (aQ (D*bF K)+bY (D*bF K) t.W)) (.slice (some ⟨g8,0,none⟩) (aQ (D*bF K)+bY (D*bF K) t.W) (aQ (D*bF K)+bY (D*bF K) t.W)) 0 0))
 (p:jL w g7 (List.replicate (aQ (D*bF K)+bY (D*bF K) t.W) 0)) (h8:jL w g8 (List.replicate (aQ (D*bF K)+bY (D*bF K) t.W) 0)) (m:g7≠g8)
 (d:w.heap[vb]?=some (Aa W H D K I kb (.slice (some ⟨gp,0,none⟩) (4*W*H) (4*W*H)))) (i:iC w gp (List.replicate (4*W*H) 0)) (j:w.ownsRow base 301 6 pv (dZ W H I).length (dn (dZ W H I)))
 (a:jE w kb base W H D K I ev st.E st.jG cv st.C) (o:cv.ownBlock≠some gp) (r:S.base<=rb) (l2:S.base<=vb) (s:S.base<=gp) (u:S.base<=g7) (y:S.base<=g8) (A:S.base<=kb):
 fK ⟨rb,vb,kb,gp,base,W,H,D,K,I,ev,cv,pv,st.E,st.jG,st.C,dZ W H I⟩ w (rs0 (D*bF K) (4*W*H) t) g7 g8/\∀k,cnF ⟨rb,vb,kb,gp,base,W,H,D,K,I,ev,cv,pv,st.E,st.jG,st.C,dZ W H I⟩ g7 g8 k->S.base<=k/\¬jP S cb k:=by
 have q:∀x∈List.replicate (aQ (D*bF K)+bY (D*bF K) t.W) 0,x<=255:=fun x hx=>by have:=(List.mem_replicate.1 hx).2;omega
 refine⟨⟨?_,p,h8,by show(List.replicate _ 0).length=(List.replicate _ 0).length;simp,m,d,i,by show(List.replicate _ 0).length=_;simp,j,a,o,q,q,by show 0<=255;omega⟩,fun k f=> ?_⟩
 ·refine b.trans ?_;show some (dN _ _ _ _ _ _ _ _ _ _ _)=some (dN _ _ _ _ _ _ _ (.slice _ (List.replicate (aQ (D*bF K)+bY (D*bF K) t.W) 0).length (List.replicate (aQ (D*bF K)+bY (D*bF K) t.W) 0).length) (.slice _ (List.replicate (aQ (D*bF K)+bY (D*bF K) t.W) 0).length (List.replicate (aQ (D*bF K)+bY (D*bF K) t.W) 0).length) _ _);rw[mJ];rfl
 ·have c:∀{v:ay} {T:aY} {z n:Nat} {xs:List ay},w.ownsRow base T z v n xs->Ph T=false->v.ownBlock=some k->S.base<=k/\¬jP S cb k:=fun h B l=>by
   have G:=(h.lt k l).1;refine⟨by omega,?_⟩;rcases h.2 with⟨rfl,_⟩|⟨g,cap,cur,rfl,_,F,_⟩
   ·simp[Value.ownBlock]at l
   ·simp[Value.ownBlock]at l;subst l;exact e.ne F B
  rcases f with(rfl|rfl|rfl|rfl)|rfl|rfl|f|f|f
  ·exact⟨r,e.ne b (by decide)⟩
  ·exact⟨s,e.ne i (by decide)⟩
  ·exact⟨u,e.ne p (by decide)⟩
  ·exact⟨y,e.ne h8 (by decide)⟩
  ·exact⟨l2,e.ne d (by decide)⟩
  ·exact⟨A,e.ne a.nN (by decide)⟩
  ·exact c a.nP (by decide) f
  ·exact c a.Bq (by decide) f
  ·exact c j (by decide) f
end Pr
namespace Pr
open Rf
open h_ (lF FH iT)
theorem Fj(l:List UInt8):(qP l).length=l.length:=by simp[qP]
theorem abu(s:ByteArray)(i:Nat):(qP s.data.toList).getD i 0=aA s i:=by unfold qP aA;rw[ak,jr,ak];cases s.data.toList[i]?<;>rfl
theorem abw(f d:Nat)(s:ByteArray)(a_:List Nat)(i:Nat):lF f d s a_ i=pM f d (qP s.data.toList) a_ i:=by
 induction i with
 |zero=>rfl
 |succ i a=>
  rw[lF,pM,a];congr 1
  unfold FH Qh;rw[abu]
theorem Iz(l:List Nat)(a b m:Nat)(h:a+b<=m):((l.take m).drop a).take b=(l.drop a).take b:=by rw[List.drop_take,List.take_take,qx (by omega)]
theorem UQ(P:wW)(t:lC)(k:Nat):∀(y:Nat) (a_ l dM:List Nat) (m:Nat),k*(1+bY P.bits t.W)<=m->kV P t k y a_ (l.take m) dM=kV P t k y a_ l dM:=by
 induction k with
 |zero=>intros;rfl
 |succ k a=>
  intro y a_ l dM m hm;have e:k*(1+bY P.bits t.W)+(1+bY P.bits t.W)<=m:=by rw[<-Nat.succ_mul];exact hm
  have b:(l.take m).getD 0 0=l.getD 0 0:=by rw[ak,ak,dU (by omega)]
  have c:((l.take m).drop 1).take (bY P.bits t.W)=(l.drop 1).take (bY P.bits t.W):=Iz l 1 _ m (by omega);have d:(l.take m).drop (bY P.bits t.W+1)=(l.drop (bY P.bits t.W+1)).take (m-(bY P.bits t.W+1)):=List.drop_take;rw[kV,kV,b,c,d];congr 1
  congr 1
  funext p
  exact a _ _ _ _ _ (by omega)
theorem abx(P:wW)(t:lC)(a:List lC)(l dM:List Nat)(h:t.W≠0):qo P (t::a) l dM=(kV P t t.H 0 [] l dM).bind (qo P a (l.drop (t.H*(1+bY P.bits t.W)))):=by rw[qo,au h,UQ P t t.H 0 [] l dM _ (ag _)]
theorem Yv(P:wW)(t:lC)(a:List lC)(l dM:List Nat)(h:t.W=0):qo P (t::a) l dM=qo P a l dM:=by rw[qo,aC h]
theorem Yw(P:wW)(t:lC)(k y:Nat)(a_ l dM:List Nat)(f:List Nat->Option (List Nat))(row:List Nat)(a:¬4<l.getD 0 0)(b:row=pM (l.getD 0 0) (aQ P.bits) ((l.drop 1).take (bY P.bits t.W)) a_ (bY P.bits t.W)):
 (kV P t (k+1) y a_ l dM).bind f=(eG (P.px row) (qN P.W t y) t.W 0 dM).bind fun p=>(kV P t k (y+1) row (l.drop (bY P.bits t.W+1)) p).bind f:=by
 rw[kV,au a,<-b,Option.bind_assoc]
theorem Yx(P:wW)(t:lC)(k y:Nat)(a_ l dM:List Nat)(f:List Nat->Option (List Nat))(a:4<l.getD 0 0):(kV P t (k+1) y a_ l dM).bind f=none:=by rw[kV,aC a];rfl
theorem Wp(s:ByteArray)(i j:Nat):qP (s.extract i j).data.toList=((qP s.data.toList).drop i).take (j-i):=by unfold qP;rw[fG,ni,jU,List.map_take,List.map_drop]
theorem aby(s:ByteArray)(i:Nat):qP (s.extract i s.size).data.toList=(qP s.data.toList).drop i:=by rw[Wp,iY];rw[iI,Fj];simp
theorem Yy(P:wW)(t:lC)(m y rn f st:Nat)(a_ c:List Nat)(a:ByteArray)(G:List Nat->List Nat->Option (List Nat))(b:bY P.bits t.W=rn)(uJ:aQ P.bits=st)(d:(qP a.data.toList).getD 0 0=f)(g:¬4<f):
 (kV P t (m+1) y a_ (qP a.data.toList) c).bind (G ((qP a.data.toList).drop ((m+1)*(1+rn))))=
   (eG (P.px (lF f st (a.extract 1 (rn+1)) a_ rn)) (qN P.W t y) t.W 0 c).bind fun p=>(kV P t m (y+1) (lF f st (a.extract 1 (rn+1)) a_ rn) (qP (a.extract (rn+1) a.size).data.toList) p).bind (G ((qP (a.extract (rn+1) a.size).data.toList).drop (m*(1+rn)))):=by
 rw[Yw P t m y a_ _ c _ (lF f st (a.extract 1 (rn+1)) a_ rn) (by rw[d];exact g) (by rw[abw,Wp,d,uJ,b,Nat.add_sub_cancel])];rw[aby,b,List.drop_drop];have e:rn+1+m*(1+rn)=(m+1)*(1+rn):=by rw[fO,tJ];omega
 rw[e]
theorem UR(px:Nat->Option DV)(pos:Nat->Nat)(k i:Nat)(dM:List Nat)(q:DV)(h:px i=some q):eG px pos (k+1) i dM=eG px pos k (i+1) (G_ dM (pos i) q):=by rw[eG,h];rfl
theorem UT(px:Nat->Option DV)(pos:Nat->Nat)(k i:Nat)(dM:List Nat)(h:px i=none):eG px pos (k+1) i dM=none:=by rw[eG,h];rfl
end Pr
namespace h_
open Go.RowKit Rf
open Pr (wJ iC dI zg cell_of bG aB ai wW lC qo qP nI bY)
structure DM(w wr:af)(W H D K I:Nat)(pl tr:ByteArray)(pb tb:Bool)(da:ByteArray)(ib gp gl:Nat)(L:List (Nat×Nat×Nat×Nat))(dM:List Nat):Prop where
 p:wr.heap[w.heap.size]?=some (aeo W H D K I pl tr pb tb da)
 r:wr.heap[w.heap.size+1]?=some (.cells #[.int .i64 0,.int .i64 0,.slice none 0 0] 32 (0,0))
 h:wr.heap[w.heap.size+2]?=some (.cells #[.int .i64 (W:Int),.int .i64 (H:Int),.int .i64 (D:Int),.int .i64 (K:Int),.int .i64 (I:Int)] 109 (0,0))
 i:wr.heap[ib]?=some (.cells #[.int .i64 (W:Int),.int .i64 (H:Int),.slice (some ⟨gp,0,none⟩) (4*W*H) (4*W*H)] 32 (0,0))
 x:iC wr gp dM
 l:wr.heap[gl]?=some (.cells (rM L).toArray 169 (0,0))
 bl:aJ w.heap.size w wr
 ne:w.heap.size+2<ib/\w.heap.size+2<gp/\ib≠gp/\gl≠gp
structure D3(w w3:af)(W H D K I:Nat)(pl tr:ByteArray)(pb tb:Bool)(da:ByteArray):Prop where
 p:w3.heap[w.heap.size]?=some (aeo W H D K I pl tr pb tb da)
 r:w3.heap[w.heap.size+1]?=some (.cells #[.int .i64 0,.int .i64 0,.slice none 0 0] 32 (0,0))
 h:w3.heap[w.heap.size+2]?=some (.cells #[.int .i64 (W:Int),.int .i64 (H:Int),.int .i64 (D:Int),.int .i64 (K:Int),.int .i64 (I:Int)] 109 (0,0))
 bl:aJ w.heap.size w w3
theorem D3.iU{w w3 a:af}{W H D K I:Nat}{pl tr:ByteArray}{pb tb:Bool}{da:ByteArray}(h:D3 w w3 W H D K I pl tr pb tb da)(hb:aJ w3.heap.size w3 a):D3 w a W H D K I pl tr pb tb da:=
 ⟨(hb.block _ (ai h.p)).trans h.p,(hb.block _ (ai h.r)).trans h.r,(hb.block _ (ai h.h)).trans h.h,h.bl.trans (hb.mono h.bl.size)⟩
theorem D3.start(w:af)(W H D K I:Nat)(pl tr:ByteArray)(pb tb:Bool)(da:ByteArray):D3 w (((w.alloc (.cells #[.int .i64 (W:Int),.int .i64 (H:Int),.int .i64 (D:Int),.int .i64 (K:Int),.int .i64 (I:Int),.string pl,.string tr,.bool pb,.bool tb,.string da] 113)).alloc (.cells #[.int .i64 0,.int .i64 0,.slice none 0 0] 32)).alloc (.cells #[.int .i64 (W:Int),.int .i64 (H:Int),.int .i64 (D:Int),.int .i64 (K:Int),.int .i64 (I:Int)] 109)) W H D K I pl tr pb tb da:=by
 obtain⟨d,a⟩:∃o:Obj,o= .cells #[.int .i64 (W:Int),.int .i64 (H:Int),.int .i64 (D:Int),.int .i64 (K:Int),.int .i64 (I:Int),.string pl,.string tr,.bool pb,.bool tb,.string da] 113:=⟨_,rfl⟩;obtain⟨e,b⟩:∃o:Obj,o= .cells #[.int .i64 0,.int .i64 0,.slice none 0 0] 32:=⟨_,rfl⟩;obtain⟨f,c⟩:∃o:Obj,o= .cells #[.int .i64 (W:Int),.int .i64 (H:Int),.int .i64 (D:Int),.int .i64 (K:Int),.int .i64 (I:Int)] 109:=⟨_,rfl⟩;rw[<-a,<-b,<-c];have s1:(w.alloc d).heap.size=w.heap.size+1:=by simp
 have s2:((w.alloc d).alloc e).heap.size=w.heap.size+2:=by simp
 refine⟨?_,?_,?_,(((aP w.heap.size w).alloc (ag _) _).alloc (by omega) _).alloc (by omega) _⟩
 ·rw[jT _ _ (by omega),jT _ _ (by omega),aO,a];rfl
 ·have:=aO (w.alloc d) e;rw[s1]at this;rw[jT _ _ (by omega),this,b]
 ·have:=aO ((w.alloc d).alloc e) f;rw[s2]at this;rw[this,c]
theorem D3.cells{w w3:af}{W H D K I:Nat}{pl tr:ByteArray}{pb tb:Bool}{da:ByteArray}(h:D3 w w3 W H D K I pl tr pb tb da):
 w3.cell? ⟨w.heap.size+2,0,none⟩=some (.int .i64 (W:Int))/\w3.cell? ⟨w.heap.size+2,1,none⟩=some (.int .i64 (H:Int))/\w3.cell? ⟨w.heap.size+2,2,none⟩=some (.int .i64 (D:Int))/\w3.cell? ⟨w.heap.size+2,3,none⟩=some (.int .i64 (K:Int))/\w3.cell? ⟨w.heap.size+2,4,none⟩=some (.int .i64 (I:Int)):=
 ⟨by simpa using(cell_of h.h 0).1,by simpa using(cell_of h.h 1).1,by simpa using(cell_of h.h 2).1,by simpa using(cell_of h.h 3).1,by simpa using(cell_of h.h 4).1⟩
def Rt(D K:Nat):Nat:=if fB K*D/8=0 then 1 else fB K*D/8
theorem DM.of{w wr:af}{W H D K I:Nat}{pl tr:ByteArray}{pb tb:Bool}{da:ByteArray}{ib gp gl N:Nat}{L:List (Nat×Nat×Nat×Nat)}{dM:List Nat}(h:D3 w wr W H D K I pl tr pb tb da)(hi:wr.heap[ib]?=some (.cells #[.int .i64 (W:Int),.int .i64 (H:Int),.slice (some ⟨gp,0,none⟩) N N] 32 (0,0)))
 (hx:iC wr gp dM) (b:wr.heap[gl]?=some (.cells (rM L).toArray 169 (0,0))) (d:N=4*W*H) (a:w.heap.size+2<ib/\w.heap.size+2<gp/\ib≠gp):DM w wr W H D K I pl tr pb tb da ib gp gl L dM:=
 ⟨h.p,h.r,h.h,by rw[hi,d],hx,b,h.bl,a.1,a.2.1,a.2.2,fun e=>by
   have c:wr.heap[gp]?=_:=hx;rw[e,c]at b;injection b with b
   injection b with _ f _
   exact absurd f (by decide)⟩
theorem DM.d3{w wr:af}{W H D K I:Nat}{pl tr:ByteArray}{pb tb:Bool}{da:ByteArray}{ib gp gl:Nat}{L:List (Nat×Nat×Nat×Nat)}{dM:List Nat}(h:DM w wr W H D K I pl tr pb tb da ib gp gl L dM):D3 w wr W H D K I pl tr pb tb da:=⟨h.p,h.r,h.h,h.bl⟩
theorem DM.iU{w wr w1:af}{W H D K I:Nat}{pl tr:ByteArray}{pb tb:Bool}{da:ByteArray}{ib gp gl:Nat}{L:List (Nat×Nat×Nat×Nat)}{dM:List Nat}(h:DM w wr W H D K I pl tr pb tb da ib gp gl L dM)(hb:aJ wr.heap.size wr w1):DM w w1 W H D K I pl tr pb tb da ib gp gl L dM:=
 ⟨(hb.block _ (ai h.p)).trans h.p,(hb.block _ (ai h.r)).trans h.r,(hb.block _ (ai h.h)).trans h.h,(hb.block _ (ai h.i)).trans h.i,(hb.block _ (ai h.x)).trans h.x,(hb.block _ (ai h.l)).trans h.l,h.bl.trans (hb.mono h.bl.size),h.ne⟩
theorem DM.small{w wr:af}{W H D K I:Nat}{pl tr:ByteArray}{pb tb:Bool}{da:ByteArray}{ib gp gl:Nat}{L:List (Nat×Nat×Nat×Nat)}{dM:List Nat}(h:DM w wr W H D K I pl tr pb tb da ib gp gl L dM)(i:Nat)(q:Nat×Nat×Nat×Nat)(a:L[i]?=some q):
 wr.cell? ⟨gl,i*4,none⟩=some (.int .i64 (q.1:Int))/\wr.cell? ⟨gl,i*4+1,none⟩=some (.int .i64 (q.2.1:Int))/\wr.cell? ⟨gl,i*4+2,none⟩=some (.int .i64 (q.2.2.1:Int))/\wr.cell? ⟨gl,i*4+3,none⟩=some (.int .i64 (q.2.2.2:Int)):=by
 obtain⟨x0,b,c,d⟩:=J_ L i q a;exact⟨(cell_of h.l _).1.trans (by simpa using x0),(cell_of h.l _).1.trans (by simpa using b),(cell_of h.l _).1.trans (by simpa using c),(cell_of h.l _).1.trans (by simpa using d)⟩
structure aeL(w w3:af)(W H gp:Nat)(dM:List Nat):Prop where
 b:w3.heap[w.heap.size+1]?=some (.cells #[.int .i64 (W:Int),.int .i64 (H:Int),.slice (some ⟨gp,0,none⟩) (4*W*H) (4*W*H)] 32 (0,0))
 bl:aJ w.heap.size w w3
 x:iC w3 gp dM
theorem DM.ret{w wr:af}{W H D K I:Nat}{pl tr:ByteArray}{pb tb:Bool}{da:ByteArray}{ib gp gl:Nat}{L:List (Nat×Nat×Nat×Nat)}{dM:List Nat}(h:DM w wr W H D K I pl tr pb tb da ib gp gl L dM):
 aeL w (((wr.setCell ⟨w.heap.size+1,0,none⟩ (.int .i64 (W:Int))).setCell ⟨w.heap.size+1,1,none⟩ (.int .i64 (H:Int))).setCell ⟨w.heap.size+1,2,none⟩ (.slice (some ⟨gp,0,none⟩) (4*W*H) (4*W*H))) W H gp dM:=by
 have a:=h.ne;refine⟨(bG (bG (bG h.r 0 _) 1 _) 2 _).trans (by simp),lV (lV (lV h.bl _ 0 (by omega) _) _ 1 (by omega) _) _ 2 (by omega) _,?_⟩;exact(aB 2 _ (by omega)).trans ((aB 1 _ (by omega)).trans ((aB 0 _ (by omega)).trans h.x))
theorem DM.img{w wr:af}{W H D K I N:Nat}{pl tr:ByteArray}{pb tb:Bool}{da:ByteArray}{ib gp gl:Nat}{L:List (Nat×Nat×Nat×Nat)}{dM:List Nat}(h:DM w wr W H D K I pl tr pb tb da ib gp gl L dM)(a:N=4*W*H):
 (wr.cell? ⟨ib,0,none⟩=some (.int .i64 (W:Int))/\wr.cell? ⟨ib,1,none⟩=some (.int .i64 (H:Int))/\wr.cell? ⟨ib,2,none⟩=some (.slice (some ⟨gp,0,none⟩) N N))/\
 (wr.cell? ⟨w.heap.size+1,0,none⟩=some (.int .i64 0)/\wr.cell? ⟨w.heap.size+1,1,none⟩=some (.int .i64 0)/\wr.cell? ⟨w.heap.size+1,2,none⟩=some (.slice none 0 0))/\
 (wr.frozen? ⟨w.heap.size+1,0,none⟩=false/\wr.frozen? ⟨w.heap.size+1,1,none⟩=false/\wr.frozen? ⟨w.heap.size+1,2,none⟩=false):=by
 rw[a];exact⟨⟨by simpa using(cell_of h.i 0).1,by simpa using(cell_of h.i 1).1,by simpa using(cell_of h.i 2).1⟩,⟨by simpa using(cell_of h.r 0).1,by simpa using(cell_of h.r 1).1,by simpa using(cell_of h.r 2).1⟩,(cell_of h.r 0).2,(cell_of h.r 1).2,(cell_of h.r 2).2⟩
def xR(W H:Nat)(q:Nat×Nat×Nat×Nat):lC:=⟨q.1,q.2.1,q.2.2.1,q.2.2.2,manyN q.1 q.2.1 W,manyN q.2.2.1 q.2.2.2 H⟩
theorem UU(D K W H:Nat)(q:Nat×Nat×Nat×Nat)(l:List (Nat×Nat×Nat×Nat)):lG D K W H (q::l)=x_ D K W H q+lG D K W H l:=by first|rfl|simp[lG]
def aeM(w:af)(W H N:Nat)(R:Option (List Nat))(e:Ending)(w':af):Prop:=
 (R=none/\∃gp,e= .returned (.tuple #[.agg #[.int .i64 (W:Int),.int .i64 (H:Int),.slice (some ⟨gp,0,none⟩) N N],.bool false]))\/
 (∃dM gp,R=some dM/\e= .returned (.tuple #[.agg #[.int .i64 (W:Int),.int .i64 (H:Int),.slice (some ⟨gp,0,none⟩) N N],.bool true])/\iC w' gp dM/\w.heap.size<=gp)
end h_
namespace h_
open Go.RowKit Rf
open Pr (wJ iC dI zg cell_of bG aB ai eG nI)
theorem ig.apart{w w':af}{v:ay}{row L:List Nat}{gp:Nat}(h:ig w v row)(hp:iC w gp L)(hs:w.heap.size<=w'.heap.size)(e:∀k,k<w.heap.size->k≠gp->w'.heap[k]?=w.heap[k]?):ig w' v row:=by
 obtain⟨la,cap,rfl,f⟩:=h;refine⟨la,cap,rfl,fun j i=> ?_⟩;obtain⟨g,l,d,b⟩:=f j i;have c:g≠gp:=fun e=>by
  rw[e,(cell_of hp j).1]at b;have a:(dI L)[j]?=some (.int .i64 ((row.getD j 0:Nat):Int)):=by simpa using b
  unfold dI at a;rw[jr]at a;cases h3:L[j]? with
  |none=>rw[h3]at a;simp at a
  |some x=>rw[h3]at a;simp at a
 exact⟨g,l,bu d hs,(Pr.aV (e g d c)).trans b⟩
theorem DM.parts{w wr:af}{W H D K I:Nat}{pl tr:ByteArray}{pb tb:Bool}{da:ByteArray}{ib gp gl:Nat}{L:List (Nat×Nat×Nat×Nat)}{dM:List Nat}(h:DM w wr W H D K I pl tr pb tb da ib gp gl L dM):
 wr.cell? ⟨w.heap.size,0,none⟩=some (.int .i64 (W:Int))/\wr.cell? ⟨w.heap.size,1,none⟩=some (.int .i64 (H:Int))/\wr.cell? ⟨w.heap.size,2,none⟩=some (.int .i64 (D:Int))/\wr.cell? ⟨w.heap.size,3,none⟩=some (.int .i64 (K:Int))/\wr.cell? ⟨w.heap.size,4,none⟩=some (.int .i64 (I:Int))/\
 wr.cell? ⟨w.heap.size,5,none⟩=some (.string pl)/\wr.cell? ⟨w.heap.size,6,none⟩=some (.string tr)/\wr.cell? ⟨w.heap.size,7,none⟩=some (.bool pb)/\wr.cell? ⟨w.heap.size,8,none⟩=some (.bool tb)/\wr.cell? ⟨w.heap.size,9,none⟩=some (.string da):=by
 have hp:=h.p;unfold aeo at hp;exact⟨by simpa using(cell_of hp 0).1,by simpa using(cell_of hp 1).1,by simpa using(cell_of hp 2).1,by simpa using(cell_of hp 3).1,by simpa using(cell_of hp 4).1,by simpa using(cell_of hp 5).1,by simpa using(cell_of hp 6).1,by simpa using(cell_of hp 7).1,by simpa using(cell_of hp 8).1,by simpa using(cell_of hp 9).1⟩
theorem DM.afs{w wr:af}{W H D K I:Nat}{pl tr:ByteArray}{pb tb:Bool}{da:ByteArray}{ib gp gl:Nat}{L:List (Nat×Nat×Nat×Nat)}{dM a:List Nat}{cs:Array ay}(h:DM w wr W H D K I pl tr pb tb da ib gp gl L dM)(hx:iC (wr.setRow gp cs) gp a):DM w (wr.setRow gp cs) W H D K I pl tr pb tb da ib gp gl L a:=by
 obtain⟨d,e,b,c⟩:=h.ne
 exact⟨(sO _ gp _ _ (by omega)).trans h.p,(sO _ gp _ _ (by omega)).trans h.r,(sO _ gp _ _ (by omega)).trans h.h,(sO _ gp _ _ b).trans h.i,hx,(sO _ gp _ _ c).trans h.l,
  ⟨h.bl.os,h.bl.tape,h.bl.output,by rw[setRow_size];exact h.bl.size,fun k f=>(sO _ gp _ _ (by omega)).trans (h.bl.block k f)⟩,d,e,b,c⟩
theorem zu(z:Int)(a:0<=z)(b:z<=5000000):wrap64 z=z:=by unfold wrap64;omega
theorem abB(a b c o:Nat)(h:4*(a+b+c)<=5000000)(d:o=4*(a+b+c)):wrap64 (4*wrap64 (wrap64 (wrap64 (a:Int)+(b:Int))+wrap64 (c:Int)))=(o:Int):=by rw[zu (a:Int) (by omega) (by omega),zu (c:Int) (by omega) (by omega),zu ((a:Int)+(b:Int)) (by omega) (by omega),zu ((a:Int)+(b:Int)+(c:Int)) (by omega) (by omega),zu (4*((a:Int)+(b:Int)+(c:Int))) (by omega) (by omega),d];omega
theorem Az{P:Program}{ops:Array Oper}{rest:List Oper}{o:Oper}{a:Act}{w:af}{Q:Exit->Act->af->Prop}(m:o.guard=none)(d s:Operand)(n r:aY)
 (u:o.op= .call {callee:= .builtin .copy,args:= #[d,s],argTypes:= #[n,r]}) (elem:aY) (hu:P.underlying n=some (.slice elem)) (p:(P.info? elem).map (·.size)=some 1)
 (g off:Nat) (q:bP) (b e c f:Nat) (hd:a.eval d= .slice (some ⟨g,off,none⟩) b e) (hs:a.eval s= .slice (some q) c f)
 (cur:Array ay) (t:aY) (x:w.heap[g]?=some (.cells cur t (0,0))) (cs:List ay) (y:cs.length=Nat.min c b)
 (i:∀j v,cs[j]?=some v->w.cell? (q.add j)=some v)
 (k:off+cs.length<=cur.size) (z:∀v∈cs,v.oneCell'=true)
 (h:wpList P ops Q rest (a.put o.dst (goInt cs.length)) (w.setRow g (cur.toList.take off++cs++cur.toList.drop (off+cs.length)).toArray)):
 wpList P ops Q (o::rest) a w:=by
 have l:=run_copy_row (P:=P) w n r o.type elem g off b e q c f cur t cs hu p x y i k z;refine wpList_plain m fun K hK=> ?_;unfold Oper.wp;simp[execOp,u,resolve,invoke,builtin,hd,hs,l,Result.andThen];rw[bV]at h;exact hK _ _ h
theorem UW{w:af}{a:Nat}{c:Nat×Nat×Nat×Nat}(h:w.heap[a]?=some (.cells #[.int .u16 (c.1:Int),.int .u16 (c.2.1:Int),.int .u16 (c.2.2.1:Int),.int .u16 (c.2.2.2:Int)] 39 (0,0)))(j:Nat)(v:ay)(b:(Pr.nH c)[j]?=some v):w.cell? ((⟨a,0,none⟩:bP).add j)=some v:=by
 have e:(⟨a,0,none⟩:bP).add j=⟨a,j,none⟩:=by unfold Addr.add;split<;>simp_all
 rw[e,(cell_of h j).1,<-b];simp[Pr.nH]
set_option maxRecDepth 100000 in
theorem YB(W H D K I:Nat)(pl tr da:ByteArray)(pb tb:Bool)(w w0:af)(ib gp gl i n N b y q0 q1 q2 q3 sk:Nat)(L:List (Nat×Nat×Nat×Nat))(a pk:List Nat)(rv:ay){c0 c1 c3 c8 g6 g9 h0 h4 h5 h7 h9 i3 i4 i5 i6 i7 i9 j0 j1 j2 j3 j4 j5 j6 j7 j8 j9 l0 l1 l3 l4 l5 l6 l7 l8 l9 m0 m2 m4 m5 m6 m7 m8 m9 n0 n1 n2 n3 n4 n5 n6 n7 n8 n9 o0 o1 o2 o3 o4 o5 o6 o7 o8 o9 p0 p1 p2 p3 p4 p5 p6 p7 p8 p9 q4 q5 q6 q7 q8 q9 r3 r4 r5 r6 r7 e1 e2 e3 e4 e5 e6 e7 e8 u5 d8 e9 d9 f3 f4 Q R S T U f g l p q r s t u z A B C E F G J M O V Y Z a0 a1 a2 a3 a4 a5 a6 a7 a8 a9 b0 b1 b2 b3 b4 b5 b6 b7 b8 b9 c4 c5 c6 c7 c9 d0 d1 d2 d4 d5:ay}{Q0:Exit->Act->af->Prop}
 (e0:fB K=sk) (hK:K=0\/K=2\/K=3\/K=4\/K=6) (hD:D=1\/D=2\/D=4\/D=8\/D=16) (hN:N=4*W*H) (A2:N<=4194304) (hW:W<=1048576) (hH:H<=1048576) (hn:n=L.length) (hq:L[i]?=some (q0,q1,q2,q3)) (A3:q0<=8) (A4:q1<=8) (hy:y<H) (t0:∀x,x<b->q0+x*q1<W) (A5:b<=1048576)
 (t1:pk.length=N) (hM:DM w w0 W H D K I pl tr pb tb da ib gp gl L pk) (g2:ig w0 rv a) (f5:∀x∈a,x<=255) (f9:a.length=uF D K b)
 (ql:pl.size<=140737488354000) (g3:tr.size<=140737488354000) (h3:K=3->pl.size%3=0) (yj:(K=0\/K=2)->tb=true->tr.size=2*fB K)
 (t2:d8= .int .i64 0)
 (P:∀(px:List Nat) (u5 d8 e9 d9 f3 f4 Q R S T U f g l p q r s t u z A B C E F G J M O V Y Z a0 a1 a2 a3 a4 a5 a6 a7 a8 a9 b0 b1 b2 b3 b4 b5 b6 b7 b8 b9 c4 c5 c6 c7 c9 d0 d1 d2 d4 d5:ay) (wx:af),eG (fun j=>wJ K D pl tr tb (nI a j sk D)) (fun j=>4*(y*W+q0+j*q1)) b 0 pk=some px->px.length=N->DM w wx W H D K I pl tr pb tb da ib gp gl L px->ig wx rv a->Q0 (.exit 4) ⟨#[c0,c1,.pointer (some ⟨w.heap.size,0,none⟩),c3,.pointer (some ⟨w.heap.size+1,0,none⟩),u5,.pointer (some ⟨w.heap.size+2,0,none⟩),.pointer (some ⟨ib,0,none⟩),c8,.slice (some ⟨gl,0,none⟩) n n,.int .i64 (i:Int),.int .i64 (b:Int),g6,g9,.int .i64 (y:Int),h0,rv,d8,e9,d9,f3,f4,h4,h5,h7,h9,i3,i4,i5,i6,i7,i9,j0,j1,j2,j3,j4,j5,j6,j7,j8,j9,l0,l1,l3,l4,l5,l6,l7,l8,l9,m0,m2,m4,m5,m6,m7,m8,m9,n0,n1,n2,n3,n4,n5,n6,n7,n8,n9,o0,o1,o2,o3,o4,o5,o6,o7,o8,o9,p0,p1,p2,p3,p4,p5,p6,p7,p8,p9,q4,q5,q6,q7,q8,q9,r3,r4,r5,r6,r7,e1,e2,e3,e4,e5,e6,e7,Q,R,S,T,U,f,g,l,p,q,r,s,t,u,z,A,B,C,E,F,G,J,M,O,V,Y,Z,a0,a1,a2,a3,a4,a5,a6,a7,a8,a9,b0,b1,b2,b3,b4,b5,b6,b7,b8,b9,c4,c5,c6,c7,c9,d0,d1,d2,d4,d5,e8],[]⟩ wx)
 (d7:∀(px:List Nat) (d8 e9 d9 f3 f4 Q R S T U f g l p q r s t u z A B C E F G J M O V Y Z a0 a1 a2 a3 a4 a5 a6 a7 a8 a9 b0 b1 b2 b3 b4 b5 b6 b7 b8 b9 c4 c5 c6 c7 c9 d0 d1 d2 d4 d5:ay) (wx:af),eG (fun j=>wJ K D pl tr tb (nI a j sk D)) (fun j=>4*(y*W+q0+j*q1)) b 0 pk=none->aeL w wx W H gp px->Q0 .ret ⟨#[c0,c1,.pointer (some ⟨w.heap.size,0,none⟩),c3,.pointer (some ⟨w.heap.size+1,0,none⟩),.bool false,.pointer (some ⟨w.heap.size+2,0,none⟩),.pointer (some ⟨ib,0,none⟩),c8,.slice (some ⟨gl,0,none⟩) n n,.int .i64 (i:Int),.int .i64 (b:Int),g6,g9,.int .i64 (y:Int),h0,rv,d8,e9,d9,f3,f4,h4,h5,h7,h9,i3,i4,i5,i6,i7,i9,j0,j1,j2,j3,j4,j5,j6,j7,j8,j9,l0,l1,l3,l4,l5,l6,l7,l8,l9,m0,m2,m4,m5,m6,m7,m8,m9,n0,n1,n2,n3,n4,n5,n6,n7,n8,n9,o0,o1,o2,o3,o4,o5,o6,o7,o8,o9,p0,p1,p2,p3,p4,p5,p6,p7,p8,p9,q4,q5,q6,q7,q8,q9,r3,r4,r5,r6,r7,e1,e2,e3,e4,e5,e6,e7,Q,R,S,T,U,f,g,l,p,q,r,s,t,u,z,A,B,C,E,F,G,J,M,O,V,Y,Z,a0,a1,a2,a3,a4,a5,a6,a7,a8,a9,b0,b1,b2,b3,b4,b5,b6,b7,b8,b9,c4,c5,c6,c7,c9,d0,d1,d2,d4,d5,e8],[]⟩ wx):
 Code.wp prog afr (Ws Q0) ⟨#[c0,c1,.pointer (some ⟨w.heap.size,0,none⟩),c3,.pointer (some ⟨w.heap.size+1,0,none⟩),u5,.pointer (some ⟨w.heap.size+2,0,none⟩),.pointer (some ⟨ib,0,none⟩),c8,.slice (some ⟨gl,0,none⟩) n n,.int .i64 (i:Int),.int .i64 (b:Int),g6,g9,.int .i64 (y:Int),h0,rv,d8,e9,d9,f3,f4,h4,h5,h7,h9,i3,i4,i5,i6,i7,i9,j0,j1,j2,j3,j4,j5,j6,j7,j8,j9,l0,l1,l3,l4,l5,l6,l7,l8,l9,m0,m2,m4,m5,m6,m7,m8,m9,n0,n1,n2,n3,n4,n5,n6,n7,n8,n9,o0,o1,o2,o3,o4,o5,o6,o7,o8,o9,p0,p1,p2,p3,p4,p5,p6,p7,p8,p9,q4,q5,q6,q7,q8,q9,r3,r4,r5,r6,r7,e1,e2,e3,e4,e5,e6,e7,Q,R,S,T,U,f,g,l,p,q,r,s,t,u,z,A,B,C,E,F,G,J,M,O,V,Y,Z,a0,a1,a2,a3,a4,a5,a6,a7,a8,a9,b0,b1,b2,b3,b4,b5,b6,b7,b8,b9,c4,c5,c6,c7,c9,d0,d1,d2,d4,d5,e8],[]⟩ w0:=by
 have w7:K<=6:=by omega
 have w8:ah (∀x,x<b->∀j,j<sk->(x*sk+j+1)*D<=8*a.length):=(fun x hx j hj=>by rw[f9,<-e0];exact aeO D K b x j hx (by rw[e0];exact hj):∀x,_);have w9:ah (∀x,x<b->D=16->∀j,j<sk->2*(x*sk+j)+1<a.length):=(fun x hx e j hj=>by subst e;rw[f9,<-e0];exact adp K b x j hx (by rw[e0];exact hj):∀x,_);have x1:ah (a.length<=100000000):=(by rw[f9];unfold uF;have h1:b*fB K<=1048576*4:=bT (by omega) (wI K);have h2:b*fB K*D<=1048576*4*16:=bT h1 (by omega);omega:_<=_)
 have t3:ah (∀x,x<b->4*(y*W+q0+x*q1)+4<=N):=(fun x hx=>by have:=aeN W H y (q0+x*q1) hy (t0 x hx);rw[hN,kF];exact this:∀x,_)
 have t4:ah _:=fun(sv:ay) (X:List Nat) (w':af) (hX:ig w' sv X) (hlen:X.length=fB K) (hb:∀x∈X,x<=65535)=>SG W H D K I pl tr da pb tb sv X w' hX hlen hK hb (by omega) (by omega) ql g3 h3 yj;have x2:ah _:=fun j=>Pr.VR a j sk D f5 hD;obtain⟨fx,r8⟩:∃fx:Nat->Option (Nat×Nat×Nat×Nat),fx=fun j=>wJ K D pl tr tb (nI a j sk D):=⟨_,rfl⟩;obtain⟨fp,r9⟩:∃fp:Nat->Nat,fp=fun j=>4*(y*W+q0+j*q1):=⟨_,rfl⟩;rw[<-r8,<-r9]at P d7;have x3:ah (∀j,fx j=wJ K D pl tr tb (nI a j sk D)):=(fun j=>by rw[r8]:∀j,_);have x4:ah (∀j,fp j=4*(y*W+q0+j*q1)):=(fun j=>by rw[r9]:∀j,_);obtain⟨R1,s0⟩:∃R1,eG fx fp b 0 pk=R1:=⟨_,rfl⟩;rw[s0]at P d7;have x5:ah _:=P;have x6:ah _:=d7;have HM:ah _:=hM;have d:ah _:=g2;have t5:ah _:=t1;have t6:ah _:=s0;have t7:ah _:=f5;have HQ:ah _:=hq;have x7:ah _:=hn;have HN:ah _:=hN;have t8:ah _:=e0;have x8:ah _:=hD;clear P d7 hM g2 t1 s0 f5 hq r8 r9 f9 ql g3 h3 yj t0 hy hN hn hK e0 hD;subst t2;conv=>arg 2;whnf
 dsimp only;go_loopw [17] (fun xv wx=> ∃(x:Nat) (px:List Nat),xv= .int .i64 (x:Int)/\x<=b/\px.length=N/\DM w wx W H D K I pl tr pb tb da ib gp gl L px/\ig wx rv a/\eG fx fp (b-x) x px=R1) (fun xv _=>b-(aX xv).toNat)
 case atStart=>exact⟨0,pk,rfl,aU _,t5.out,HM.out,d.out,t6.out⟩
 case round=>
  obtain⟨x,px,rfl,hx,t9,u3,f6,hR⟩:=hrel;clear t5 HM d t6;have s3:ah _:=t9;have HM:ah _:=u3;have d:ah _:=f6;have HR:ah _:=hR;clear t9 u3 f6 hR;by_cases s4:x<b;rotate_left
  ·have x9:¬((x:Int)<(b:Int)):=by omega
   have y4:ah (R1=some px):=(by rw[<-HR.out,show b-x=0 by omega];rfl:_=_);go_wp2_with fail
   exact x5.out px _ _ _ _ _ _ _ _ _ _ _ _ _ _ _ _ _ _ _ _ _ _ _ _ _ _ _ _ _ _ _ _ _ _ _ _ _ _ _ _ _ _ _ _ _ _ _ _ _ _ _ _ _ _ _ _ _ _ _ _ _ _ _ _ y4.out s3.out HM.out d.out
  ·have x9:(x:Int)<(b:Int):=by omega
   go_wp2_with fail
   refine abA W H D K I x (w.heap.size+2) sk a rv wr t8.out w7 x8.out HM.out.h d.out t7.out (w8.out x s4) (w9.out x s4) x1.out (by omega) rfl rfl ?_;intro sv d9 f g l p q r s t u z A B C E F G J M O wx hX s5;have HX:ah _:=hX;have s6:ah _:=HM.out.iU s5;have g4:ah _:=ig.below d.out s5;have f7:ah _:=s3.out;clear hX s5 HM d s3;obtain⟨k0,k1,k2,k3,k4,k5,k6,k7,k8,k9⟩:=DM.parts s6.out;have f8:ah _:=t4.out sv _ wx HX.out (by rw[Pr.oZ];exact t8.out.symm) (x2.out x);rw[<-x3.out x]at f8;obtain⟨sa,z9,u4,-⟩:=id HX.out;obtain⟨u6,g5⟩:∃u6,u6=(nI a x sk D).length:=⟨_,rfl⟩;rw[<-g5]at u4;clear g5;subst u4;unfold nV at f8;obtain⟨cq,s7⟩:∃cq,cq=fx x:=⟨_,rfl⟩;rw[<-s7]at f8;have u7:ah _:=s7.symm;clear s7;go_wp2_with fail
   refine bz f8.out ?_;rintro e w2 ⟨u9,s8⟩;have d6:ah _:=s6.out.iU s8;have v3:ah _:=ig.below g4.out s8;clear s8 s6 g4 f8 k0 k1 k2 k3 k4 k5 k6 k7 k8 k9 HX;cases cq with
   |none=>
    obtain rfl:e=_:=u9;have y5:ah (R1=none):=(by rw[<-HR.out,show b-x=(b-x-1)+1 by omega];exact Pr.UT fx fp _ _ _ u7.out:_=_)
    obtain⟨⟨i0,i1,i2⟩,⟨r0,r1,r2⟩,f0,f1,f2⟩:=d6.out.img HN.out;have v5:ah _:=d6.out.ret;rw[<-HN.out]at v5;go_wp2_with fail
    exact x6.out px _ _ _ _ _ _ _ _ _ _ _ _ _ _ _ _ _ _ _ _ _ _ _ _ _ _ _ _ _ _ _ _ _ _ _ _ _ _ _ _ _ _ _ _ _ _ _ _ _ _ _ _ _ _ _ _ _ _ _ _ _ _ _ y5.out v5.out
   |some c=>
    obtain⟨cg,y6,rfl,v7⟩:=u9;obtain⟨⟨i0,i1,i2⟩,-,-⟩:=d6.out.img HN.out;obtain⟨z0,z1,z2,z3,z4⟩:=D3.cells d6.out.d3;obtain⟨y0,y1,y2,y3⟩:=d6.out.small i (q0,q1,q2,q3) HQ.out;dsimp only at y0 y1 y2 y3;have tu:=t3.out x s4;have A6:i<n:=by
     rw[x7.out];rcases bU i L.length with h|h
     ·exact h
     ·have:=HQ.out;rw[fE h]at this;cases this
    obtain⟨m1,g0⟩:∃m,m=y*W:=⟨_,rfl⟩;obtain⟨m3,g1⟩:∃m,m=x*q1:=⟨_,rfl⟩;have A0:(y:Int)*(W:Int)=(m1:Int):=by rw[g0];simp
    have A1:(x:Int)*(q1:Int)=(m3:Int):=by rw[g1];simp
    rw[<-g0,<-g1]at tu;obtain⟨o,ho⟩:∃o,o=4*(m1+q0+m3):=⟨_,rfl⟩;have HO:ah (fp x=o):=(by rw[x4.out,ho,g0,g1]:_=_);have A7:=abB m1 q0 m3 o (by omega) ho;have A8:(o:Int)<=(N:Int):=by omega
    have A9:¬N=o:=by omega
    have y7:o+4<=N:=by omega
    have y8:ah _:=y7;have v8:ah _:=fun(j:Nat) (v:ay) (hj:(Pr.nH c)[j]?=some v)=>UW v7 j v hj;have v9:ah (∀v∈Pr.nH c,v.oneCell'=true):=(Pr.Qk _:∀v,_);have y9:ah ((Pr.nH c).length=Nat.min 4 (N-o)):=((qx (by omega)).symm:4=Nat.min 4 (N-o));have z5:ah (o+(Pr.nH c).length<=(dI px).toArray.size):=(by have:=f7.out;simp[Pr.nH,dI];omega:_<=_);clear tu g0 g1 ho v7 y6;go_wp2_with fail
    refine Qt.ji 23 (by kernel_rfl) (by kernel_rfl) ?_;simp only[List.take_succ_cons,List.take_zero,List.drop_succ_cons,List.drop_zero];repeat (go_big_quiet_step (fail))
    refine wpQuiet_nil ?_;intro _ z6;obtain⟨nq,w4⟩:=z6;subst w4;refine Az (by rfl) _ _ _ _ (by rfl) 39 underlying30 Pr.aay gp o ⟨cg,0,none⟩ (N-o) (N-o) 4 4 (by rfl) (by rfl) (dI px).toArray 39 (by exact d6.out.x) (Pr.nH c) y9.out v8.out z5.out v9.out ?_
    all_goals
     go_wp2_with fail
     go_roundw
     case rel=>
      have w5:aJ w2.heap.size w2 (w2.drewN nq):=kW.cZ (aP _ _);have s9:=d6.out.iU w5;have w6:=ig.below v3.out w5;have z7:iC ((w2.drewN nq).setRow gp ((dI px).take o++(Pr.nH c++(dI px).drop (o+(Pr.nH c).length))).toArray) gp (Pr.G_ px (fp x) c):=by refine(setRow_heap _ gp _ _ _ _ s9.x).trans ?_;rw[<-bV,show o+(Pr.nH c).length=o+4 from rfl,Pr.Hl px o _ (by rw[f7.out];exact y8.out),HO.out]
      refine⟨x+1,Pr.G_ px (fp x) c,by go_num,by omega,by rw[Pr.Qe];exact f7.out,DM.afs s9 z7,ig.apart w6 s9.x (by rw[setRow_size];exact ag _) (fun k hk z8=>sO _ gp k _ z8),?_⟩;rw[<-HR.out,show b-x=(b-(x+1))+1 by omega];exact(Pr.UR fx fp _ _ _ _ u7.out).symm
     case measure=>simp[aX];omega
set_option maxRecDepth 100000 in
theorem abC(W H D K I:Nat)(pl tr da:ByteArray)(pb tb:Bool)(w w0:af)(ib gp gl i n N mw y q0 q1 q2 q3 sk:Nat)(L:List (Nat×Nat×Nat×Nat))(a pk:List Nat)(rv:ay){c0 c1 c3 c8 d8 d9 e0 e1 e2 e3 e4 e5 e6 e7 e8 e9 f0 f1 f2 f3 f4 f5 f6 f7 f8 f9 g0 g1 g2 g3 g4 g5 g6 g9 h0 h1 h2 h4 h5 h7 h9 i0 i1 i2 i3 i4 i5 i6 i7 i9 j0 j1 j2 j3 j4 j5 j6 j7 j8 j9 k0 k1 k2 k3 k4 k5 k6 k7 k8 k9 l0 l1 l3 l4 l5 l6 l7 l8 l9 m0 m1 m2 m3 m4 m5 c4 c5 c6 c7 c9 d0 d1 d2 u5 b9 d4 d5 d6 d7 b c d e f g h k l m o p q r s t u v z A B C E F G J M O P Q R S T U V X Y Z a0 a1 a2 a3 a4 a5 a6 a7 a8 a9 b0 b1 b2 b3 b4 b5 b6 b7 b8:ay}{Q0:Exit->Act->af->Prop}
 (n2:fB K=sk) (hK:K=0\/K=2\/K=3\/K=4\/K=6) (hD:D=1\/D=2\/D=4\/D=8\/D=16) (hN:N=4*W*H) (n3:N<=4194304) (hW:W<=1048576) (hH:H<=1048576) (hn:n=L.length) (hq:L[i]?=some (q0,q1,q2,q3)) (n4:q0<=8) (n5:q1<=8) (hy:y<H) (n6:∀x,x<mw->q0+x*q1<W) (n7:mw<=1048576)
 (n8:pk.length=N) (hM:DM w w0 W H D K I pl tr pb tb da ib gp gl L pk) (m7:ig w0 rv a) (m8:∀x∈a,x<=255) (n9:a.length=uF D K mw)
 (ql:pl.size<=140737488354000) (m9:tr.size<=140737488354000) (h3:K=3->pl.size%3=0) (yj:(K=0\/K=2)->tb=true->tr.size=2*fB K)
 (n0:b9= .int .i64 0)
 (m6:∀(px:List Nat) (u5 b9 d4 d5 d6 d7 b c d e f g h k l m o p q r s t u v z A B C E F G J M O P Q R S T U V X Y Z a0 a1 a2 a3 a4 a5 a6 a7 a8 a9 b0 b1 b2 b3 b4 b5 b6 b7 b8:ay) (wx:af),eG (fun j=>wJ K D pl tr tb (nI a j sk D)) (fun j=>4*(y*W+q0+j*q1)) mw 0 pk=some px->px.length=N->DM w wx W H D K I pl tr pb tb da ib gp gl L px->ig wx rv a->Q0 (.exit 4) ⟨#[c0,c1,.pointer (some ⟨w.heap.size,0,none⟩),c3,.pointer (some ⟨w.heap.size+1,0,none⟩),u5,.pointer (some ⟨w.heap.size+2,0,none⟩),.pointer (some ⟨ib,0,none⟩),c8,.slice (some ⟨gl,0,none⟩) n n,.int .i64 (i:Int),.int .i64 (mw:Int),d8,d9,.int .i64 (y:Int),e0,rv,b9,d4,d5,d6,d7,e1,e2,e3,e4,e5,e6,e7,e8,e9,f0,f1,f2,f3,f4,f5,f6,f7,f8,f9,g0,g1,g2,g3,g4,g5,g6,g9,h0,h1,h2,h4,h5,h7,h9,i0,i1,i2,i3,i4,i5,i6,i7,i9,j0,j1,j2,j3,j4,j5,j6,j7,j8,j9,k0,k1,k2,k3,k4,k5,k6,k7,k8,k9,l0,l1,l3,l4,l5,l6,l7,l8,l9,m0,m1,m2,m3,m4,m5,c4,c5,c6,c7,c9,d0,d1,b,c,d,e,f,g,h,k,l,m,o,p,q,r,s,t,u,v,z,A,B,C,E,F,G,J,M,O,P,Q,R,S,T,U,V,X,Y,Z,a0,a1,a2,a3,a4,a5,a6,a7,a8,a9,b0,b1,b2,b3,b4,b5,b6,b7,b8,d2],[]⟩ wx)
 (n1:∀(px:List Nat) (b9 d4 d5 d6 d7 b c d e f g h k l m o p q r s t u v z A B C E F G J M O P Q R S T U V X Y Z a0 a1 a2 a3 a4 a5 a6 a7 a8 a9 b0 b1 b2 b3 b4 b5 b6 b7 b8:ay) (wx:af),eG (fun j=>wJ K D pl tr tb (nI a j sk D)) (fun j=>4*(y*W+q0+j*q1)) mw 0 pk=none->aeL w wx W H gp px->Q0 .ret ⟨#[c0,c1,.pointer (some ⟨w.heap.size,0,none⟩),c3,.pointer (some ⟨w.heap.size+1,0,none⟩),.bool false,.pointer (some ⟨w.heap.size+2,0,none⟩),.pointer (some ⟨ib,0,none⟩),c8,.slice (some ⟨gl,0,none⟩) n n,.int .i64 (i:Int),.int .i64 (mw:Int),d8,d9,.int .i64 (y:Int),e0,rv,b9,d4,d5,d6,d7,e1,e2,e3,e4,e5,e6,e7,e8,e9,f0,f1,f2,f3,f4,f5,f6,f7,f8,f9,g0,g1,g2,g3,g4,g5,g6,g9,h0,h1,h2,h4,h5,h7,h9,i0,i1,i2,i3,i4,i5,i6,i7,i9,j0,j1,j2,j3,j4,j5,j6,j7,j8,j9,k0,k1,k2,k3,k4,k5,k6,k7,k8,k9,l0,l1,l3,l4,l5,l6,l7,l8,l9,m0,m1,m2,m3,m4,m5,c4,c5,c6,c7,c9,d0,d1,b,c,d,e,f,g,h,k,l,m,o,p,q,r,s,t,u,v,z,A,B,C,E,F,G,J,M,O,P,Q,R,S,T,U,V,X,Y,Z,a0,a1,a2,a3,a4,a5,a6,a7,a8,a9,b0,b1,b2,b3,b4,b5,b6,b7,b8,d2],[]⟩ wx):
 Code.wp prog afr Q0 ⟨#[c0,c1,.pointer (some ⟨w.heap.size,0,none⟩),c3,.pointer (some ⟨w.heap.size+1,0,none⟩),u5,.pointer (some ⟨w.heap.size+2,0,none⟩),.pointer (some ⟨ib,0,none⟩),c8,.slice (some ⟨gl,0,none⟩) n n,.int .i64 (i:Int),.int .i64 (mw:Int),d8,d9,.int .i64 (y:Int),e0,rv,b9,d4,d5,d6,d7,e1,e2,e3,e4,e5,e6,e7,e8,e9,f0,f1,f2,f3,f4,f5,f6,f7,f8,f9,g0,g1,g2,g3,g4,g5,g6,g9,h0,h1,h2,h4,h5,h7,h9,i0,i1,i2,i3,i4,i5,i6,i7,i9,j0,j1,j2,j3,j4,j5,j6,j7,j8,j9,k0,k1,k2,k3,k4,k5,k6,k7,k8,k9,l0,l1,l3,l4,l5,l6,l7,l8,l9,m0,m1,m2,m3,m4,m5,c4,c5,c6,c7,c9,d0,d1,b,c,d,e,f,g,h,k,l,m,o,p,q,r,s,t,u,v,z,A,B,C,E,F,G,J,M,O,P,Q,R,S,T,U,V,X,Y,Z,a0,a1,a2,a3,a4,a5,a6,a7,a8,a9,b0,b1,b2,b3,b4,b5,b6,b7,b8,d2],[]⟩ w0:=
 wp_mono (YB W H D K I pl tr da pb tb w w0 ib gp gl i n N mw y q0 q1 q2 q3 sk L a pk rv n2 hK hD hN n3 hW hH hn hq n4 n5 hy n6 n7 n8 hM m7 m8 n9 ql m9 h3 yj n0 m6 n1) Ru
end h_
end Go.Proofs.YtephkcdbnogdhaaGreatDoor
