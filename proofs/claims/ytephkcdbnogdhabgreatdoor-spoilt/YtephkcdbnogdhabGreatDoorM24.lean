import Derived.Test.YtephkcdbnogdhabGreatDoorM21
import Derived.Test.YtephkcdbnogdhabGreatDoorM23
set_option linter.unusedVariables false
set_option maxHeartbeats 40000000
set_option maxRecDepth 10000
namespace Go.Proofs.YtephkcdbnogdhabGreatDoor
open Go.Proofs.Tryz
open Go renaming World->af,Value->ay,Calls->aH,TypeId->aW,Addr->bG
open Go.RowKit renaming Hid->au,Below->aA
namespace Pr
open Go.RowKit Rf Cr
theorem kZ.below{w w':af}{B:Nat}(h:kZ w)(hb:aA B w w')(a:5<B):kZ w':=fun i hi=>(aQ (hb.block _ a)).trans (h i hi)
theorem NL(W H D K vb:Nat)(I:Bool)(t:jX)(w:af)(hS:kZ w)(hg:7<=w.heap.size)(hW:W<=1048576)(hH:H<=1048576)(hD:D<=16)(hK:K<=255)(U:(dU W H I)[0]?=some t)(Q:t.W<=1048576):
 aH prog 64 #[qc W H D K I,Nu vb] w fun e w'=> ∃rb pv g7 g8,e= .returned (.pointer (some ⟨rb,0,none⟩))/\w.heap.size<=rb/\g7≠g8/\w.heap.size<=g7/\w.heap.size<=g8/\w'.ownsRow w.heap.size 188 6 pv (dU W H I).length (bV (dU W H I))/\
  w'.heap[rb]?=some (dH (D*aT K) pv (Nu vb) 0 0 0 (aJ (D*aT K)) (.slice (some ⟨g7,0,none⟩) (aJ (D*aT K)+bJ (D*aT K) t.W) (aJ (D*aT K)+bJ (D*aT K) t.W)) (.slice (some ⟨g8,0,none⟩) (aJ (D*aT K)+bJ (D*aT K) t.W) (aJ (D*aT K)+bJ (D*aT K) t.W)) 0 0)/\jb w' g7 (List.replicate (aJ (D*aT K)+bJ (D*aT K) t.W) 0)/\jb w' g8 (List.replicate (aJ (D*aT K)+bJ (D*aT K) t.W) 0)/\aA w.heap.size w w':=by
 have p:aT K<=4:=by unfold aT;(repeat' split)<;>omega
 have q:D*aT K<=16*4:=bD hD p;have r:=fun w'=>zI W H D K I w' hD hK;have s:∀w',aA w.heap.size w w'->aH prog 92 #[qc W H D K I] w' fun e i=> ∃la cap,e= .returned (.slice la (dU W H I).length cap)/\au (i.ownsRow w.heap.size 188 6 (.slice la (dU W H I).length cap) (dU W H I).length (bV (dU W H I)))/\aA w'.heap.size w' i:=fun w' hb=>by refine(Vj W H D K I w' (hS.below hb (by omega)) (by have:=hb.size;omega) hW hH).mono ?_;rintro e i ⟨v,rfl,h1,h2⟩;obtain⟨la,cap,rfl⟩:=lZ h1;exact⟨la,cap,rfl,r_ h1 hb.size,h2⟩
 have u:=fun rb pv w' (h1:w'.heap[rb]?=some (dH (D*aT K) pv (Nu vb) 0 0 0 0 (.slice none 0 0) (.slice none 0 0) 0 0)) (h2:w'.ownsRow w.heap.size 188 6 pv (dU W H I).length (bV (dU W H I)))=>NK rb (D*aT K) 0 0 0 0 0 0 w.heap.size pv (Nu vb) _ _ (dU W H I) t w' h1 h2 U (Aa W H I) q Q;have x:au _:=u;have j:au _:=r;have l:au _:=s;clear u r s U;generalize (dU W H I).length=m at*;generalize bV (dU W H I)=cells at*;generalize D*aT K=bits at*;unfold qc at j l|-;have y:au (aA w.heap.size w (w.alloc (.cells #[.int .i64 (W:Int),.int .i64 (H:Int),.int .i64 (D:Int),.int .u8 (K:Int),.bool I] 102)).drew):=(Below.Bf ((aV _ _).alloc (ah _) _):aA _ _ _);unfold Nu at x|-;go_enter func64,ntmps64
 go_wp2_with fail
 have z:au (∀w',aA (w.heap.size+1) (w.alloc (.cells #[.int .i64 (W:Int),.int .i64 (H:Int),.int .i64 (D:Int),.int .u8 (K:Int),.bool I] 102)).drew w'->w'.cell? ⟨w.heap.size,0,none⟩=some (.int .i64 (W:Int))/\w'.cell? ⟨w.heap.size,1,none⟩=some (.int .i64 (H:Int))/\w'.cell? ⟨w.heap.size,2,none⟩=some (.int .i64 (D:Int))/\w'.cell? ⟨w.heap.size,3,none⟩=some (.int .u8 (K:Int))/\w'.cell? ⟨w.heap.size,4,none⟩=some (.bool I)):=(fun w' hb=>by have A:w'.heap[w.heap.size]?=some (.cells #[.int .i64 (W:Int),.int .i64 (H:Int),.int .i64 (D:Int),.int .u8 (K:Int),.bool I] 102 (0,0)):=(hb.block _ (by omega)).trans (aP w _);exact⟨by simpa using(cell_of A 0).1,by simpa using(cell_of A 1).1,by simpa using(cell_of A 2).1,by simpa using(cell_of A 3).1,by simpa using(cell_of A 4).1⟩:∀w',_)
 have d:au (∀w',aA ((w.alloc (.cells #[.int .i64 (W:Int),.int .i64 (H:Int),.int .i64 (D:Int),.int .u8 (K:Int),.bool I] 102)).drew).heap.size (w.alloc (.cells #[.int .i64 (W:Int),.int .i64 (H:Int),.int .i64 (D:Int),.int .u8 (K:Int),.bool I] 102)).drew w'->aA w.heap.size w w'/\aA (w.heap.size+1) (w.alloc (.cells #[.int .i64 (W:Int),.int .i64 (H:Int),.int .i64 (D:Int),.int .u8 (K:Int),.bool I] 102)).drew w'):=(fun w' hb=>⟨jd y.out (hb.mono (by simp[World.drew])),hb.mono (by simp[World.drew])⟩:∀w',_)
 go_region_with (first
  |(go_at_call 91;refine(j.out (World.drew (w.alloc (.cells #[.int .i64 (W:Int),.int .i64 (H:Int),.int .i64 (D:Int),.int .u8 (K:Int),.bool I] 102)))).mono ?_;rintro e w3 ⟨rfl,b⟩;obtain⟨Y,Z,x2,x3,x4⟩:=z.out w3 (d.out w3 b).2)
  |(go_at_call 91;refine(j.out c).mono ?_;rintro e w3 ⟨rfl,b⟩)
  |(go_at_call 92;refine(l.out (World.drew (w.alloc (.cells #[.int .i64 (W:Int),.int .i64 (H:Int),.int .i64 (D:Int),.int .u8 (K:Int),.bool I] 102))) y.out).mono ?_;rintro e c ⟨la,cap,rfl,n,f⟩;obtain⟨y0,y1,y2,y3,y4⟩:=z.out c (d.out c f).2)
  |(go_at_call 92;refine(l.out w3 (d.out w3 b).1).mono ?_;rintro e c ⟨la,cap,rfl,n,f⟩))
 all_goals
  have o:w.heap.size<=w3.heap.size:=(d.out w3 b).1.size;have B:w3.heap.size<=c.heap.size:=f.size;have C:aA w.heap.size w c:=(d.out w3 b).1.trans (f.mono o);have g:c.ownsRow w.heap.size 188 6 (.slice la m cap) m cells:=n.out;have V:au _:=x.out c.heap.size (.slice la m cap) (c.alloc (dH bits (.slice la m cap) (.func (.func 65) #[.pointer (some ⟨vb,0,none⟩)] #[]) 0 0 0 0 (.slice none 0 0) (.slice none 0 0) 0 0)) (aP c _) (g.alloc _);have R:au _:=C;have S:au (w.heap.size<=c.heap.size):=(aY o B:_<=_);have E:au _:=g;clear o B C b f g n Y Z x2 x3 x4;go_wp2_with fail
  refine aU V.out ?_;rintro e w5 ⟨rfl,g7,g8,G,J,L,M,N,O,h⟩;have HQ:au _:=(⟨G,J,L,M,N,O,h⟩:_/\_/\_/\_/\_/\_/\_);clear G J L M N O h V;go_wp2_with fail
  go_ret;have hq:=HQ.out;obtain⟨G,J,L,M,N,O,h⟩:=hq;have X:=S.out;have a:c.ownsRow w.heap.size 188 6 (.slice la m cap) m cells:=E.out;simp at J L;have T:aA w.heap.size w w5:=by have F:=Below.alloc R.out X (dH bits (.slice la m cap) (.func (.func 65) #[.pointer (some ⟨vb,0,none⟩)] #[]) 0 0 0 0 (.slice none 0 0) (.slice none 0 0) 0 0);exact⟨h.os.trans F.os,h.tape.trans F.tape,h.output.trans F.output,aY F.size h.size,fun k P=>(h.block k (by simp;omega) (by omega)).trans (F.block k P)⟩
  refine⟨c.heap.size,.slice la m cap,g7,g8,rfl,X,G,by omega,by omega,?_,M,N,O,T⟩;refine fE (a.alloc _) (fun k P=>h.block k (by have:=(a.lt k P).2;simp;omega) (by have:=(a.lt k P).2;omega))
open gI (cut fK bz gu gQ)
theorem VB(s:ByteArray)(f:Nat):∀p left l,p<=s.size->(xP s f p left l).length<=s.size-p:=by
 induction f with
 |zero=>intro p left l _;simp[xP]
 |succ f a=>
  intro p left l hp;rw[xP,aK];have b:(cut s p left).length<=left/\(cut s p left).length<=s.size-p:=by unfold cut;rw[eH,jm];simp;omega
  by_cases h:nG s p left l
  ·have h1:=Bg h;rw[aG h];have h2:=a (p+left+4+8) (bz s (p+left+4)) (cut s (p+left+4+4) 4) (by omega);omega
  ·rw[ax h];simp;omega
noncomputable def qp(s:ByteArray)(p left:Nat)(l:List UInt8):ByteArray:=⟨(jP s p left l).toArray⟩
theorem Q_(s:ByteArray)(p left:Nat)(l:List UInt8)(hp:p<=s.size):(qp s p left l).size<=s.size:=by have:=VB s (s.size+1) p left l hp;show(jP s p left l).toArray.size<=_;simp only[List.size_toArray];unfold jP;omega
theorem VC{P:xU}{a b:List UInt8}{c:d_}(h:mJ P (FN a) c=none)(hp:a<+:b):mJ P (FN b) c=none:=by obtain⟨t,rfl⟩:=hp;unfold FN at h|-;rw[List.map_append,oI,h];rfl
theorem Zl(S:Src)(cb:Nat)(s:ByteArray)(w:af)(p left:Nat)(l:List UInt8)(h:CR S cb s w p fD left l):
 aH prog 66 #[.pointer (some ⟨cb,0,none⟩),kM] w fun e w'=>e= .returned (.pointer (some ⟨w.heap.size,0,none⟩))/\w'=w.alloc (OT cb kM):=by
 have a:=xO S cb s w p left fD l h;unfold kM;clear h;go_enter func66,ntmps66
 go_wp2_with fail
 refine a.mono ?_;rintro e w1 ⟨rfl,hw⟩;have hw:=hw.symm;subst hw;go_wp2_with fail
 go_ret;exact⟨rfl,rfl⟩
def rs0(bits N:Nat)(t:jX):d_:=⟨0,0,0,List.replicate (aJ bits+bJ bits t.W) 0,List.replicate (aJ bits+bJ bits t.W) 0,0,0,List.replicate N 0⟩
def Oc(W H D K:Nat)(I:Bool)(st:Cs):xU:=⟨dU W H I,D*aT K,W,J_ K D st.E st.C⟩
def Rh(s:ByteArray)(p left:Nat)(l:List UInt8)(W H D K:Nat)(I:Bool)(st:Cs)(t:jX):Prop:=
 WI (qp s p left l) (kH (D*aT K) (dU W H I)) (fun _=> ∃P,Ends s p left l P)/\∃f,mJ (Oc W H D K I st) (FN (wU (qp s p left l) (kH (D*aT K) (dU W H I))).out) (rs0 (D*aT K) (4*W*H) t)=some f
theorem VD{w:af}{S:Src}{cb rb vb kb gp base W H D K g7 g8:Nat}{I:Bool}{ev cv pv:ay}{st:Cs}{t:jX}(e:mP S cb w)(hb:S.base<=base)
 (b:w.heap[rb]?=some (dH (D*aT K) pv (Nu vb) 0 0 0 (aJ (D*aT K)) (.slice (some ⟨g7,0,none⟩) (aJ (D*aT K)+bJ (D*aT K) t.W) (aJ (D*aT K)+bJ (D*aT K) t.W)) (.slice (some ⟨g8,0,none⟩) (aJ (D*aT K)+bJ (D*aT K) t.W) (aJ (D*aT K)+bJ (D*aT K) t.W)) 0 0))
 (p:jb w g7 (List.replicate (aJ (D*aT K)+bJ (D*aT K) t.W) 0)) (q:jb w g8 (List.replicate (aJ (D*aT K)+bJ (D*aT K) t.W) 0)) (m:g7≠g8)
 (d:w.heap[vb]?=some (zu W H D K I kb (.slice (some ⟨gp,0,none⟩) (4*W*H) (4*W*H)))) (i:mM w gp (List.replicate (4*W*H) 0)) (j:w.ownsRow base 188 6 pv (dU W H I).length (bV (dU W H I)))
 (a:iT w kb base W H D K I ev st.E st.iW cv st.C) (o:cv.ownBlock≠some gp) (s:S.base<=rb) (u:S.base<=vb) (y:S.base<=gp) (A:S.base<=g7) (B:S.base<=g8) (F:S.base<=kb):
 fB ⟨rb,vb,kb,gp,base,W,H,D,K,I,ev,cv,pv,st.E,st.iW,st.C,dU W H I⟩ w (rs0 (D*aT K) (4*W*H) t) g7 g8/\∀k,cnF ⟨rb,vb,kb,gp,base,W,H,D,K,I,ev,cv,pv,st.E,st.iW,st.C,dU W H I⟩ g7 g8 k->S.base<=k/\¬jc S cb k:=by
 have r:∀x∈List.replicate (aJ (D*aT K)+bJ (D*aT K) t.W) 0,x<=255:=fun x G=>by have:=(List.mem_replicate.1 G).2;omega
 refine⟨⟨?_,p,q,by show(List.replicate _ 0).length=(List.replicate _ 0).length;simp,m,d,i,by show(List.replicate _ 0).length=_;simp,j,a,o,r,r,by show 0<=255;omega⟩,fun k f=> ?_⟩
 ·refine b.trans ?_;show some (dH _ _ _ _ _ _ _ _ _ _ _)=some (dH _ _ _ _ _ _ _ (.slice _ (List.replicate (aJ (D*aT K)+bJ (D*aT K) t.W) 0).length (List.replicate (aJ (D*aT K)+bJ (D*aT K) t.W) 0).length) (.slice _ (List.replicate (aJ (D*aT K)+bJ (D*aT K) t.W) 0).length (List.replicate (aJ (D*aT K)+bJ (D*aT K) t.W) 0).length) _ _);rw[uj];rfl
 ·have c:∀{v:ay} {T:aW} {z n:Nat} {xs:List ay},w.ownsRow base T z v n xs->LU T=false->v.ownBlock=some k->S.base<=k/\¬jc S cb k:=fun h J l=>by
   have h1:=(h.lt k l).1;refine⟨by omega,?_⟩;rcases h.2 with⟨rfl,_⟩|⟨g,cap,cur,rfl,_,L,_⟩
   ·simp[Value.ownBlock]at l
   ·simp[Value.ownBlock]at l;subst l;exact e.ne L J
  rcases f with(rfl|rfl|rfl|rfl)|rfl|rfl|f|f|f
  ·exact⟨s,e.ne b (by decide)⟩
  ·exact⟨y,e.ne i (by decide)⟩
  ·exact⟨A,e.ne p (by decide)⟩
  ·exact⟨B,e.ne q (by decide)⟩
  ·exact⟨u,e.ne d (by decide)⟩
  ·exact⟨F,e.ne a.oD (by decide)⟩
  ·exact c a.lU (by decide) f
  ·exact c a.zZ (by decide) f
  ·exact c j (by decide) f
theorem KL(S:Src)(cb:Nat)(s:ByteArray)(w:af)(eb lb:bG)(p left:Nat)(l:List UInt8)(h:CR S cb s w p fD left l)(C:ja w eb S.fb lb S.base)(D:iK w)(c:Cn)(E:c.Ok)(d:d_)(g7 g8:Nat)(hm:fB c w d g7 g8)(hp:DD c d)(q:d.told=0)
 (hF:∀k,cnF c g7 g8 k->S.base<=k/\¬jc S cb k) (b:Nat) (G:w.heap[b]?=some (OT cb kM)) (r:S.base<=b) (j:¬jc S cb b) (t:¬cnF c g7 g8 b) (size:Nat) (u:size<=16777216) (hd:(qp s p left l).size<=140737488354000):
 aH prog 68 #[.iface 141 (.pointer (some ⟨b,0,none⟩)),.int .i64 (size:Int),.func (.func 70) #[.pointer (some ⟨c.rb,0,none⟩)] #[]] w fun e w'=>
  (WI (qp s p left l) size (fun _=> ∃P,Ends s p left l P)/\e= .returned .nilIface/\(∃f g i,mJ c.P (FN (wU (qp s p left l) size).out) d=some f/\fB c w' f g i)/\(∃P,Ends s p left l P/\CR S cb s w' P.p P.name P.left P.l)/\PE S.base w w')\/
  ((∃T a,e= .returned (.iface T (.pointer (some a)))/\dJ S w' T a (¬(WI (qp s p left l) size (fun _=> ∃P,Ends s p left l P)/\∃f,mJ c.P (FN (wU (qp s p left l) size).out) d=some f)))/\mP S cb w'/\PE S.base w w'):=by
 have m:¬S.F b:=fun e=>j (.inl e);have n:b≠cb:=fun e=>j (.inr e);have v:=X_ S cb b kM s eb lb (fun P=>Ends s p left l P) h.ok h.base r m n;have o:=Vo S cb b s eb lb (fun P=>Ends s p left l P) h.ok h.base m n;have hI:=abr NK c d S.base E;have hK:rwK c d w [] (cnF c g7 g8):=⟨d,g7,g8,rfl,hm,hp,by rw[q];exact aX _,rfl⟩;have x:(SN S cb b kM s eb lb (fun P=>Ends s p left l P)).K w (qp s p left l) 0:=⟨G,C,p,left,l,h,aX _,by rw[uZ];show(jP s p left l).toArray.toList=_;simp,fun P=>Iff.rfl⟩;refine(QZ (SN S cb b kM s eb lb (fun P=>Ends s p left l P)) v (qp s p left l) size w c.rb 70 (rwK c d) (YB c d) hI _ _ _ o (cnF c g7 g8) hK (fun k y=>⟨(hF k y).1,fun e=>e.elim (hF k y).2 (fun e=>t (e▸y))⟩) x D rfl hd u).mono ?_;rintro e w' (⟨z,rfl,⟨F',⟨f,g,i,H,I,U,V,W⟩,A⟩,⟨P,J,L⟩,X,M⟩|⟨⟨T,a,rfl,z⟩,N,A⟩)
 ·exact .inl ⟨z,rfl,⟨f,g,i,H,I⟩,⟨P,J,L⟩,M⟩
 ·refine .inr ⟨⟨T,a,rfl,?_⟩,N.2.2,A⟩;refine Or.imp (fun⟨h1,h2⟩=>⟨h1,?_⟩) id z;rintro⟨O,f,B⟩;rcases h2 with h2|⟨pre,Q,R⟩
  ·exact h2 O
  ·rw[VC Q R]at B;cases B
theorem PE.jI{base:Nat}{w w':af}(h:aA w.heap.size w w')(hb:base<=w.heap.size):PE base w w':=⟨h.os,h.tape,h.output,h.size,fun k a=>h.block k (by omega),fun k cur T f e _=>h.block k (ak e)⟩
theorem PE.dY{base:Nat}{w w':af}(h:PE base w w')(b o:Nat)(hb:w.heap.size<=b/\base<=b)(v:ay):PE base w (w'.setCell ⟨b,o,none⟩ v):=
 ⟨h.os,h.tape,h.output,by simp;exact h.size,fun k a=>(aC o v (by omega)).trans (h.low k a),fun k cur T f e c=>(aC o v (by have:=ak e;omega)).trans (h.other k cur T f e c)⟩
theorem KN(S:Src)(cb:Nat)(s:ByteArray)(w:af)(eb lb:bG)(p left:Nat)(l:List UInt8)(h:CR S cb s w p fD left l)(hs:ja w eb S.fb lb S.base)(kb base W H D K:Nat)(I:Bool)(st:Cs)(hc:qj w kb base W H D K I st)(hb:S.base<=base)(hO:iK w)(c8:kZ w)
 (hK:K=0\/K=2\/K=3\/K=4\/K=6) (hD:eG D) (j5:st.C.length<=4) (c9:1<=W) (d0:1<=H) (d1:W*H<=1048576) (t:jX) (n:(dU W H I)[0]?=some t) (j7:s.size<=140737488354000):
 aH prog 45 #[.pointer (some ⟨cb,0,none⟩),qc W H D K I,.pointer (some ⟨kb,0,none⟩)] w fun e w'=>
  (∃gp f,mJ (Oc W H D K I st) (FN (wU (qp s p left l) (kH (D*aT K) (dU W H I))).out) (rs0 (D*aT K) (4*W*H) t)=some f/\Rh s p left l W H D K I st t/\e= .returned (.tuple #[.agg #[.int .i64 (W:Int),.int .i64 (H:Int),.slice (some ⟨gp,0,none⟩) (4*W*H) (4*W*H)],.nilIface])/\mM w' gp f.dQ/\w.heap.size<=gp/\¬jc S cb gp/\(∃P,Ends s p left l P/\CR S cb s w' P.p P.name P.left P.l)/\PE S.base w w')\/
  ((∃T a,e= .returned (.tuple #[.agg #[.int .i64 0,.int .i64 0,.slice none 0 0],.iface T (.pointer (some a))])/\dJ S w' T a (¬Rh s p left l W H D K I st t))/\mP S cb w'/\PE S.base w w'):=by
 have Z:1<=D/\D<=16:=by rcases hD with rfl|rfl|rfl|rfl|rfl<;>omega
 have N:W<=1048576:=aY (Nat.le_mul_of_pos_right W d0) d1;have d2:H<=1048576:=aY (Nat.le_mul_of_pos_left H c9) d1;have d3:4*W*H<=4194304:=by rw[ni];omega
 have a0:aT K<=4:=by rcases hK with rfl|rfl|rfl|rfl|rfl<;>decide
 have u:D*aT K<=64:=bD Z.2 a0;have b:=Vk W H I c9 d0 N d2;have b0:t∈dU W H I:=iY n;have d4:kH (D*aT K) (dU W H I)<=16777216:=by have h1:=NM (D*aT K) u (dU W H I) (fun t n=>⟨(b t n).1.1,(b t n).1.2.2.1⟩);rw[FO]at h1;omega
 have b1:=h.e.lt.2;have l4:7<=w.heap.size:=aY h.ok.ng b1;obtain⟨ev,cv,a1,_,_⟩:=hc.at';have l5:base<=kb:=hc.kb;have l6:base<=w.heap.size:=hc.hp;have j8:=hc.zn;obtain⟨l2,b2⟩:∃o:Obj,o= .cells #[.int .i64 (W:Int),.int .i64 (H:Int),.int .i64 (D:Int),.int .u8 (K:Int),.bool I] 102:=⟨_,rfl⟩;have j9:au (∀rb vb gp pv,(Cn.mk rb vb kb gp base W H D K I ev cv pv st.E st.iW st.C (dU W H I)).Ok):=(fun rb vb gp pv=>⟨hK,hD,by show st.E.length<=1000;omega,j5,N,d3,Aa W H I,fun t n=>(b t n).1,fun t n=>(b t n).2⟩:∀rb,_);have k0:au (∀rb vb gp pv,DD (Cn.mk rb vb kb gp base W H D K I ev cv pv st.E st.iW st.C (dU W H I)) (rs0 (D*aT K) (4*W*H) t)):=(fun rb vb gp pv=>⟨aX _,fun t' k6=>by
  have e:t'=t:=by have:(dU W H I)[0]?=some t':=k6;rw[n]at this;exact(eu this).symm
  subst e;exact⟨(b t' b0).1.2.2.1,by show(List.replicate _ 0).length=_;rw[uj],.inl rfl⟩⟩:∀rb,_)
 have d5:=fun w'=>Ku W H D K kb I w' N d3 (by omega);have d6:=fun vb w' (h1:kZ w') (h2:7<=w'.heap.size)=>NL W H D K vb I t w' h1 h2 N d2 Z.2 (by omega) n (b t b0).1.2.1;have d7:=fun rb pv w' c0 c1 hp hr=>YK rb (D*aT K) base pv (dU W H I) w' c0 c1 hp (Aa W H I) u (fun t n=>⟨(b t n).1.2.1,(b t n).1.2.2.2.1⟩) hr;have b3:au _:=d5;have O:au _:=d6;have d8:au _:=d7;have k7:au _:=d4;clear d5 d6 d7 d4 b b0 n u a0;have HC:au _:=h;have c:au _:=a1;have HS:au _:=hs;have HO:au _:=hO;have k8:au _:=c8;have d9:(qp s p left l).size<=140737488354000:=aY (Q_ s p left l h.le) j7;have HJ:au _:=d9;have l3:=h.ok;clear h hc a1 hs hO c8 d9 b2;have e0:((w.alloc (.cells #[.int .i64 (W:Int),.int .i64 (H:Int),.int .i64 (D:Int),.int .u8 (K:Int),.bool I] 102)).alloc (.cells #[.int .i64 0,.int .i64 0,.slice none 0 0] 35)).heap[w.heap.size]?=some (.cells #[.int .i64 (W:Int),.int .i64 (H:Int),.int .i64 (D:Int),.int .u8 (K:Int),.bool I] 102 (0,0)):=(ai _ _ _ (by simp)).trans (aP w _);have e1:((w.alloc (.cells #[.int .i64 (W:Int),.int .i64 (H:Int),.int .i64 (D:Int),.int .u8 (K:Int),.bool I] 102)).alloc (.cells #[.int .i64 0,.int .i64 0,.slice none 0 0] 35)).heap[w.heap.size+1]?=some (.cells #[.int .i64 0,.int .i64 0,.slice none 0 0] 35 (0,0)):=by have:=aP (w.alloc (.cells #[.int .i64 (W:Int),.int .i64 (H:Int),.int .i64 (D:Int),.int .u8 (K:Int),.bool I] 102)) (.cells #[.int .i64 0,.int .i64 0,.slice none 0 0] 35);simpa using this
 have e4:aA w.heap.size w ((w.alloc (.cells #[.int .i64 (W:Int),.int .i64 (H:Int),.int .i64 (D:Int),.int .u8 (K:Int),.bool I] 102)).alloc (.cells #[.int .i64 0,.int .i64 0,.slice none 0 0] 35)):=((aV _ _).alloc (ah _) _).alloc (by simp) _;have e5:au _:=e0;have e6:au _:=e1;have e7:au _:=e4;clear e0 e1 e4;unfold qc at b3 O|-;unfold Nu at O;go_enter func45,ntmps45
 go_wp2_with fail
 refine aU (b3.out _) ?_;rintro e w1 ⟨vb,gp,rfl,k1,k2,k3,k4,k5⟩;have e8:((w.alloc (.cells #[.int .i64 (W:Int),.int .i64 (H:Int),.int .i64 (D:Int),.int .u8 (K:Int),.bool I] 102)).alloc (.cells #[.int .i64 0,.int .i64 0,.slice none 0 0] 35)).heap.size=w.heap.size+2:=by simp
 rw[e8]at k1 k2 k5;have j4:w1.heap[w.heap.size]?=some (.cells #[.int .i64 (W:Int),.int .i64 (H:Int),.int .i64 (D:Int),.int .u8 (K:Int),.bool I] 102 (0,0)):=(k5.block _ (by omega)).trans e5.out;have j6:w1.heap[w.heap.size+1]?=some (.cells #[.int .i64 0,.int .i64 0,.slice none 0 0] 35 (0,0)):=(k5.block _ (by omega)).trans e6.out;have Q:aA w.heap.size w w1:=jd e7.out (k5.mono (by omega));have f0:w1.cell? ⟨w.heap.size,0,none⟩=some (.int .i64 (W:Int)):=by simpa using(cell_of j4 0).1
 have f1:w1.cell? ⟨w.heap.size,1,none⟩=some (.int .i64 (H:Int)):=by simpa using(cell_of j4 1).1
 have f2:w1.cell? ⟨w.heap.size,2,none⟩=some (.int .i64 (D:Int)):=by simpa using(cell_of j4 2).1
 have f3:w1.cell? ⟨w.heap.size,3,none⟩=some (.int .u8 (K:Int)):=by simpa using(cell_of j4 3).1
 have f4:w1.cell? ⟨w.heap.size,4,none⟩=some (.bool I):=by simpa using(cell_of j4 4).1
 have e9:au _:=O.out vb w1 (kZ.below k8.out Q (by omega)) (by have:=Q.size;omega);have k9:=ak j6;have f5:au _:=j6;have b4:au _:=Q;have f6:au _:=k3;have f7:au _:=k4;have f8:=ak k3;have f9:=ak k4;clear j4 j6 Q k3 k4 k5 e5 e6 e7 b3 O e8;go_wp2_with fail
 refine aU e9.out ?_;rintro e w2 ⟨rb,pv,g7,g8,rfl,m1,m2,m3,m4,m5,m6,m7,m8,m9⟩;have b5:aA w.heap.size w w2:=jd b4.out (m9.mono (kD b4.out));have l7:=m9.size;have HM:au _:=(⟨m2,m5,m6,m7,m8⟩:_/\_/\_/\_/\_);have x:au _:=(m9.block _ k9).trans f5.out;have q:au _:=(m9.block _ f8).trans f6.out;have r:au (mM w2 gp _):=((m9.block _ f9).trans f7.out:_=_);have b6:au _:=b5;have a2:au _:=CR.grow HC.out (fun k d=>b5.block k d);have b7:au _:=Zl S cb s w2 p left l a2.out;clear m2 m5 m6 m7 m8 m9 b5 f0 f1 f2 f3 f4 e9 f5 f6 f7;unfold kM at b7;go_wp2_with fail
 refine aU b7.out ?_;rintro e w3 ⟨rfl,y⟩;have j:∀k,k<w2.heap.size->w3.heap[k]?=w2.heap[k]?:=fun k d=>by rw[y];exact ai _ _ k d
 have g0:w3.heap[w2.heap.size]?=some (OT cb kM):=by rw[y];exact aP w2 _
 have g1:w3.heap.size=w2.heap.size+1:=by rw[y];simp
 have z:aA w.heap.size w w3:=by rw[y];exact Below.alloc b6.out (kD b6.out) _
 obtain⟨m2,m5,m6,m7,m8⟩:=HM.out;have A:=(j rb (ak m6)).trans m6;have b8:w3.ownsRow base 188 6 pv (dU W H I).length (bV (dU W H I)):=r_ (fE m5 (fun k d=>j k (m5.lt k d).2)) (by have:=kD b4.out;omega);have g2:au _:=d8.out rb pv w3 (by simpa [dH]using(cell_of A 0).1) (by simpa [dH]using(cell_of A 1).1) b8 (ak A);have g3:jb w3 g7 _:=(j g7 (ak m7)).trans m7;have g4:jb w3 g8 _:=(j g8 (ak m8)).trans m8;have g5:=(j vb (ak q.out)).trans q.out;have g6:mM w3 gp _:=(j gp (ak r.out)).trans r.out;have g9:=(j _ (ak x.out)).trans x.out;have B:iT w3 kb base W H D K I ev st.E st.iW cv st.C:=iT.over c.out (fun k d=>z.block k (by
  rcases d with rfl|d|d
  ·exact ak (iT.oD c.out)
  ·exact(g_ (iT.lU c.out) k d).2
  ·exact(g_ (iT.zZ c.out) k d).2))
 have a3:cv.ownBlock≠some gp:=fun e=>by have:=(g_ (iT.zZ c.out) gp e).2;omega
 have h3:=(CR.grow HC.out (fun k d=>z.block k d)).e;obtain⟨a4,h4⟩:=VD h3 hb A g3 g4 m2 g5 g6 b8 B a3 (by omega) (by omega) (by omega) (by omega) (by omega) (by omega);have a5:=kD b6.out;have h5:¬cnF (Cn.mk rb vb kb gp base W H D K I ev cv pv st.E st.iW st.C (dU W H I)) g7 g8 w2.heap.size:=fun e=>by
  have q0:=ak (iT.oD c.out);rcases e with(e|e|e|e)|e|e|e|e|e
  ·have:=ak m6;dsimp only at e;omega
  ·have:=ak r.out;dsimp only at e;omega
  ·have:=ak m7;omega
  ·have:=ak m8;omega
  ·have:=ak q.out;dsimp only at e;omega
  ·dsimp only at e;omega
  ·have:=(g_ (iT.lU c.out) _ e).2;omega
  ·have:=(g_ (iT.zZ c.out) _ e).2;omega
  ·have:=(m5.lt _ e).2;omega
 have h6:au _:=g0;have b9:au _:=g9;have h7:au _:=z;have F:au _:=a4;have c2:au _:=h4;have h8:au _:=h5;have l0:au _:=g1;have a6:w.heap.size<=w3.heap.size:=z.size;have l1:au (w.heap.size<=gp):=(by omega:_<=_);have h9:au _:=a6;have a7:au _:=a5;clear h5 a4 h4 g0 g9 z j y A b8 g3 g4 g5 g6 B a3 h3 a5 a6 m2 m5 m6 m7 m8 HM q r x d8 g1 b7 a2;generalize a8:kH (D*aT K) (dU W H I)=SZ at*;go_wp2_with fail
 refine aU g2.out ?_;rintro e w4 ⟨rfl,c3⟩;have R:∀k,k<w3.heap.size->w4.heap[k]?=w3.heap[k]?:=fun k d=>c3.block k d;have G:aA w.heap.size w w4:=jd h7.out (c3.mono h9.out);have a9:=CR.grow HC.out (fun k d=>G.block k d);have i0:=ja.over HS.out (fun k d=>G.block k (by omega));have i1:=iK.over HO.out (G.block _ (by omega));have i2:=fB.over F.out (fun k d=>R k (fB.lt F.out k d));have i3:w4.heap[w2.heap.size]?=some (OT cb kM):=(R _ (by have:=l0.out;omega)).trans h6.out;have i4:=(R _ (ak b9.out)).trans b9.out;have i5:¬jc S cb w2.heap.size:=fun e=>by have:=(mP.lt (CR.e HC.out)).1 _ (.inl e);have:=a7.out;omega
 have U:au _:=KL S cb s w4 eb lb p left l a9 i0 i1 _ (j9.out rb vb gp pv) _ g7 g8 i2 (k0.out rb vb gp pv) rfl c2.out w2.heap.size i3 (by have:=a7.out;omega) i5 h8.out SZ k7.out HJ.out;have V:au _:=i4;have i6:au _:=G;have i7:au (¬jc S cb gp):=((c2.out gp (.inl (.inr (.inl rfl)))).2:¬_);clear R G a9 i0 i1 i2 i3 i4 i5 c3 g2 h6 b9 h7 F c2 h8;dsimp only[Cn.P]at U;go_wp2_with fail
 refine aU U.out ?_;rintro e J (⟨X,rfl,⟨f,u7,u8,L,M⟩,q4,q5⟩|⟨⟨T,a,rfl,X⟩,L,M⟩)
 ·have g:=(q5.other _ _ _ _ V.out (by decide)).trans V.out;have i:PE S.base w J:=(PE.jI i6.out b1).trans q5;have i9:au _:=Kv W H D K kb vb I _ J M.can _ _ _ rfl;have HQ:au _:=(⟨X,L,M,q4,i⟩:_/\_/\_/\_/\_);have j0:=ak g;have c5:au _:=g;clear X L M q4 q5 g i U;go_wp2_with fail
  refine aU i9.out ?_;rintro e w6 ⟨rfl,c6⟩;have m:=(c6.block _ j0).trans c5.out;have z0:w6.cell? ⟨w.heap.size+1,0,none⟩=some (.int .i64 0):=by simpa using(cell_of m 0).1
  have z1:w6.cell? ⟨w.heap.size+1,1,none⟩=some (.int .i64 0):=by simpa using(cell_of m 1).1
  have z2:w6.cell? ⟨w.heap.size+1,2,none⟩=some (.slice none 0 0):=by simpa using(cell_of m 2).1
  have y0:=(cell_of m 0).2;have y1:=(cell_of m 1).2;have y2:=(cell_of m 2).2;have j1:au _:=c6;clear m c6 i9;go_wp2_with fail
  refine a_ (v:= .tuple #[.agg #[.int .i64 (W:Int),.int .i64 (H:Int),.slice (some ⟨gp,0,none⟩) (4*W*H) (4*W*H)],.nilIface]) (by simp[results,results45,go_sem,z0,z1,z2]) rfl ?_;obtain⟨X,L,M,⟨P,q4,j2⟩,i⟩:=HQ.out;subst a8;have c7:=(mP.lt (CR.e HC.out)).1;have d:∀k,k≠w.heap.size+1->k<J.heap.size->(((w6.setCell ⟨w.heap.size+1,0,none⟩ (.int .i64 (W:Int))).setCell ⟨w.heap.size+1,1,none⟩ (.int .i64 (H:Int))).setCell ⟨w.heap.size+1,2,none⟩ (.slice (some ⟨gp,0,none⟩) (4*W*H) (4*W*H))).heap[k]?=J.heap[k]?:=fun k h1 h2=>((aC _ _ h1).trans ((aC _ _ h1).trans (aC _ _ h1))).trans (Below.block j1.out k h2);refine .inl ⟨gp,f,L,⟨X,f,L⟩,rfl,(d gp (by omega) (ak M.dQ)).trans M.dQ,l1.out,i7.out,⟨P,q4,j2.over (fun k Y=>d k (by have:=c7 k Y;omega) ((mP.lt (CR.e j2)).1 k Y))⟩,?_⟩;exact(((i.trans (PE.jI j1.out (by have:=i.size;omega))).dY _ _ (by omega) _).dY _ _ (by omega) _).dY _ _ (by omega) _
 ·have g:=(M.other _ _ _ _ V.out (by decide)).trans V.out;have i:PE S.base w J:=(PE.jI i6.out b1).trans M;have z0:J.cell? ⟨w.heap.size+1,0,none⟩=some (.int .i64 0):=by simpa using(cell_of g 0).1
  have z1:J.cell? ⟨w.heap.size+1,1,none⟩=some (.int .i64 0):=by simpa using(cell_of g 1).1
  have z2:J.cell? ⟨w.heap.size+1,2,none⟩=some (.slice none 0 0):=by simpa using(cell_of g 2).1
  have y0:=(cell_of g 0).2;have y1:=(cell_of g 1).2;have y2:=(cell_of g 2).2;have HQ:au _:=(⟨X,L,i⟩:_/\_/\_);have j3:au _:=g;clear X L M g i U;have c5:au _:=(show J.heap[w.heap.size+1]?=some (.cells #[.int .i64 0,.int .i64 0,.slice none 0 0] 35 (0,0))from j3.out);go_wp2_with fail
  refine a_ (v:= .tuple #[.agg #[.int .i64 0,.int .i64 0,.slice none 0 0],.iface T (.pointer (some a))]) (by simp[results,results45,go_sem,z0,z1,z2]) rfl ?_;obtain⟨X,L,i⟩:=HQ.out;subst a8;have c7:=(mP.lt (CR.e HC.out)).1;have d:∀k,k≠w.heap.size+1->(((J.setCell ⟨w.heap.size+1,0,none⟩ (.int .i64 0)).setCell ⟨w.heap.size+1,1,none⟩ (.int .i64 0)).setCell ⟨w.heap.size+1,2,none⟩ (.slice none 0 0)).heap[k]?=J.heap[k]?:=fun k h1=>(aC _ _ h1).trans ((aC _ _ h1).trans (aC _ _ h1));refine .inr ⟨⟨T,a,rfl,dJ.over X (fun k cur f e=>d k (fun e2=>by rw[e2,c5.out]at e;simp at e))⟩,L.over (fun k Y=>d k (by have:=c7 k Y;omega)),?_⟩;exact((i.dY _ _ (by omega) _).dY _ _ (by omega) _).dY _ _ (by omega) _
theorem oJ.VE{s:ByteArray}{D K p:Nat}{st:Cs}{P:Pt}{qR:Cs}(h:oJ s D K p st P qR):∀{P2:Pt} {a:Cs},oJ s D K p st P2 a->P2=P/\a=qR:=by
 induction h with
 |here h1 h2 f=>
  intro P2 a g;cases g with
  |here c b d=>exact⟨rfl,rfl⟩
  |more c b d i e=>exact absurd h2 b
 |more h1 h2 f k l j=>
  intro P2 a g;cases g with
  |here c b d=>exact absurd b h2
  |more c b d i e=>exact j e
theorem Ends.VE{s:ByteArray}{p left:Nat}{l:List UInt8}{P:Pt}(h:Ends s p left l P):∀{P2:Pt},Ends s p left l P2->P2=P:=by
 induction h with
 |stop h1 h2 b=>
  intro P2 g;cases g with
  |stop c d a=>rfl
  |more c d a e=>exact absurd a b
 |more h1 h2 b i f=>
  intro P2 g;cases g with
  |stop c d a=>exact absurd b a
  |more c d a e=>exact f e
theorem oJ.clear{s:ByteArray}{D K p:Nat}{st:Cs}{P:Pt}{qR:Cs}(h:oJ s D K p st P qR)(hK:aT K<=4):st.C.length<=4->qR.C.length<=4:=by
 induction h with
 |here h1 h2 b=>exact id
 |more h1 h2 b d e c=>
  intro a;refine c ?_;unfold YN;split
  ·exact a
  ·split
   ·unfold JZ;split
    ·exact a
    ·show(Lr _ _ _).length<=4;rw[Ec];exact hK
   ·exact a
theorem oJ.VF{s:ByteArray}{D K p:Nat}{st:Cs}{P:Pt}{qR:Cs}(h:oJ s D K p st P qR):P.name=fD:=by
 induction h with
 |here h1 h2 a=>rfl
 |more h1 h2 a c d b=>exact b
def hW(s:ByteArray):Nat:=bz (fG s 16 13) 0
def hH(s:ByteArray):Nat:=bz (fG s 16 13) (0+4)
def hD(s:ByteArray):Nat:=aF (fG s 16 13) (0+8)
def hK(s:ByteArray):Nat:=aF (fG s 16 13) (0+9)
def hI(s:ByteArray):Bool:=decide (aF (fG s 16 13) (0+12)=1)
structure Way(s:ByteArray)(P1:Pt)(st:Cs)(t:jX)(P2:Pt):Prop where
 head:H0 s
 ahead:oJ s (hD s) (hK s) 33 ⟨[],false,[]⟩ P1 st
 first:(dU (hW s) (hH s) (hI s))[0]?=some t
 rows:Rh s P1.p P1.left P1.l (hW s) (hH s) (hD s) (hK s) (hI s) st t
 ends:Ends s P1.p P1.left P1.l P2
 rest:Rest s P2
def Good(s:ByteArray):Prop:=∃P1 st t P2,Way s P1 st t P2
theorem Way.VE{s:ByteArray}{P1:Pt}{st:Cs}{t:jX}{P2:Pt}(h:Way s P1 st t P2){a:Pt}{qR:Cs}{b:jX}{c:Pt}(g:Way s a qR b c):a=P1/\qR=st/\b=t/\c=P2:=by
 obtain⟨d,e⟩:=h.ahead.VE g.ahead;subst d e;refine⟨rfl,rfl,?_,h.ends.VE g.ends⟩;have:=h.first
 rw[g.first]at this;exact eu this
noncomputable def Oe(s:ByteArray)(P1:Pt)(st:Cs)(t:jX):Option d_:=mJ (Oc (hW s) (hH s) (hD s) (hK s) (hI s) st) (FN (wU (qp s P1.p P1.left P1.l) (kH (hD s*aT (hK s)) (dU (hW s) (hH s) (hI s)))).out) (rs0 (hD s*aT (hK s)) (4*hW s*hH s) t)
theorem Ag{s:ByteArray}(h:H0 s):(hK s=0\/hK s=2\/hK s=3\/hK s=4\/hK s=6)/\eG (hD s)/\(hK s=3->hD s<=8)/\1<=hW s/\1<=hH s:=by
 obtain⟨_,_,e,_⟩:=h;obtain⟨s1,s2,f,g,i⟩:=e;have hm:rW (hK s) (hD s)=true:=f.2;have a:(hK s=0\/hK s=2\/hK s=3\/hK s=4\/hK s=6)/\eG (hD s)/\(hK s=3->hD s<=8):=by
  unfold eG;generalize hK s=k at*;generalize hD s=d at*;have b:0<aT k->k=0\/k=2\/k=3\/k=4\/k=6:=by
   intro hp;unfold aT at hp;repeat' split at hp
   all_goals omega
  unfold rW at hm;by_cases h1:d=1\/d=2\/d=4
  ·rw[aG h1]at hm;simp at hm;omega
  ·rw[ax h1]at hm;by_cases h2:d=8
   ·rw[aG h2]at hm;have:=b (lW hm);omega
   ·rw[ax h2]at hm;by_cases c:d=16
    ·rw[aG c]at hm;simp at hm;have:=b hm.1;omega
    ·rw[ax c]at hm;cases hm
 exact⟨a.1,a.2.1,a.2.2,s1.2,s2.2⟩
end Pr
end Go.Proofs.YtephkcdbnogdhabGreatDoor
