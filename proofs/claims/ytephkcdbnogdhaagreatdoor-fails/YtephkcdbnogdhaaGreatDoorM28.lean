import Derived.Deep.MidRow
import Derived.Test.YtephkcdbnogdhaaGreatDoorM25
set_option linter.unusedVariables false
set_option maxHeartbeats 40000000
set_option maxRecDepth 10000
namespace Go.Proofs.YtephkcdbnogdhaaGreatDoor
open Go.Proofs.Tryz
open Go renaming World->af,Value->ay,Calls->aF,TypeId->aY,Addr->bP
open Go.RowKit renaming Hid->ah,Below->aJ,intOf->aX
namespace Pr
open Go.RowKit Rf Cr
open h_ (iT uq)
structure Cn where
 rb:Nat
 vb:Nat
 kb:Nat
 gp:Nat
 base:Nat
 W:Nat
 H:Nat
 D:Nat
 K:Nat
 I:Bool
 ev:ay
 cv:ay
 pv:ay
 E:List (Nat×Nat×Nat×Nat)
 jG:Bool
 C:List Nat
 ps:List lC
abbrev Cn.bits(c:Cn):Nat:=c.D*bF c.K
abbrev Cn.d(c:Cn):Nat:=aQ c.bits
def Cn.P(c:Cn):wW:=⟨c.ps,c.bits,c.W,Om c.K c.D c.E c.C⟩
def Qp(vb:Nat):ay:= .func (.func 157) #[.pointer (some ⟨vb,0,none⟩)] #[]
structure Cn.Ok(c:Cn):Prop where
 k:c.K=0\/c.K=2\/c.K=3\/c.K=4\/c.K=6
 d:jH c.D
 e:c.E.length<=1000
 cl:c.C.length<=4
 w:c.W<=1048576
 np:4*c.W*c.H<=4194304
 len:c.ps.length<=100
 prt:∀t∈c.ps,1<=t.W/\t.W<=1048576/\1<=t.H/\t.H<=1048576/\t.x<=8/\t.sx<=8/\t.y<=8/\t.sy<=8
 fit:∀t∈c.ps,∀y i,y<t.H->i<t.W->qN c.W t y i+4<=4*c.W*c.H
theorem Cn.Ok.bd{c:Cn}(h:c.Ok):1<=c.D/\c.D<=16/\1<=bF c.K/\bF c.K<=4/\1<=c.bits/\c.bits<=64/\1<=c.d/\c.d<=8:=by
 have f:1<=c.D:=by rcases h.d with e|e|e|e|e<;>omega
 have b:c.D<=16:=by rcases h.d with e|e|e|e|e<;>omega
 have a:1<=bF c.K/\bF c.K<=4:=by rcases h.k with e|e|e|e|e<;>rw[e]<;>decide
 have i:1<=c.bits:=bT f a.1;have g:c.bits<=16*4:=bT b a.2;refine⟨f,b,a.1,a.2,i,g,?_,?_⟩
 ·show 1<=aQ c.bits;unfold aQ;omega
 ·show aQ c.bits<=8;unfold aQ;omega
structure fK(c:Cn)(w:af)(s:eU)(g7 g8:Nat):Prop where
 rows:w.heap[c.rb]?=some (dN c.bits c.pv (Qp c.vb) s.pt s.y s.told c.d (.slice (some ⟨g7,0,none⟩) s.now.length s.now.length) (.slice (some ⟨g8,0,none⟩) s.now.length s.now.length) s.at' s.f)
 now:jL w g7 s.now
 rq:jL w g8 s.rq
 len:s.rq.length=s.now.length
 ne:g7≠g8
 can:w.heap[c.vb]?=some (Aa c.W c.H c.D c.K c.I c.kb (.slice (some ⟨c.gp,0,none⟩) (4*c.W*c.H) (4*c.W*c.H)))
 dM:iC w c.gp s.dM
 pl:s.dM.length=4*c.W*c.H
 parts:w.ownsRow c.base 301 6 c.pv c.ps.length (dn c.ps)
 Ho:jE w c.kb c.base c.W c.H c.D c.K c.I c.ev c.E c.jG c.cv c.C
 cvg:c.cv.ownBlock≠some c.gp
 nb:∀x∈s.now,x<=255
 ab:∀x∈s.rq,x<=255
 fb:s.f<=255
structure EL(c:Cn)(s:eU):Prop where
 pt:s.pt<=c.ps.length
 row:∀t,c.ps[s.pt]?=some t->s.y<t.H/\s.now.length=c.d+bY c.bits t.W/\(s.at'=0\/(c.d<=s.at'/\s.at'<s.now.length))
def zf(c:Cn)(g7 g8 k:Nat):Prop:=k=c.rb\/k=c.gp\/k=g7\/k=g8
theorem fK.apart{c:Cn}{w:af}{s:eU}{g7 g8:Nat}(h:fK c w s g7 g8):c.rb≠g7/\c.rb≠g8/\c.rb≠c.vb/\c.rb≠c.gp/\c.rb≠c.kb/\c.gp≠g7/\c.gp≠g8/\c.gp≠c.vb/\c.gp≠c.kb/\c.vb≠g7/\c.vb≠g8/\c.kb≠g7/\c.kb≠g8:=
 ⟨fU h.rows h.now (by decide),fU h.rows h.rq (by decide),fU h.rows h.can (by decide),fU h.rows h.dM (by decide),fU h.rows h.Ho.nN (by decide),fU h.dM h.now (by decide),fU h.dM h.rq (by decide),fU h.dM h.can (by decide),fU h.dM h.Ho.nN (by decide),fU h.can h.now (by decide),fU h.can h.rq (by decide),fU h.Ho.nN h.now (by decide),fU h.Ho.nN h.rq (by decide)⟩
theorem fK.still{c:Cn}{w w':af}{s b:eU}{g7 g8 g i:Nat}(h:fK c w s g7 g8)(q:Fr (zf c g7 g8) w w')
 (r:w'.heap[c.rb]?=some (dN c.bits c.pv (Qp c.vb) b.pt b.y b.told c.d (.slice (some ⟨g,0,none⟩) b.now.length b.now.length) (.slice (some ⟨i,0,none⟩) b.now.length b.now.length) b.at' b.f))
 (t:jL w' g b.now) (h3:jL w' i b.rq) (u:b.rq.length=b.now.length) (v:g≠i) (h6:iC w' c.gp b.dM) (z:b.dM.length=s.dM.length) (h8:∀x∈b.now,x<=255) (A:∀x∈b.rq,x<=255) (l:b.f<=255):fK c w' b g i:=by
 obtain⟨F,G,B,H,C,I,J,D,E,m,n,o,p⟩:=h.apart;have j:∀k,k<w.heap.size->k≠c.rb->k≠c.gp->k≠g7->k≠g8->w'.heap[k]?=w.heap[k]?:=fun k a K L M N=>q.block k a (fun e=>by rcases e with e|e|e|e<;>contradiction);refine⟨r,t,h3,u,v,?_,h6,z.trans h.pl,?_,?_,h.cvg,h8,A,l⟩
 ·exact(j c.vb (ai h.can) B.symm D.symm m n).trans h.can
 ·refine iM h.parts (fun k a=>j k (h.parts.lt k a).2 ?_ ?_ ?_ ?_)
  ·rintro rfl;exact gB h.parts h.rows (by decide) a
  ·rintro rfl;exact gB h.parts h.dM (by decide) a
  ·rintro rfl;exact gB h.parts h.now (by decide) a
  ·rintro rfl;exact gB h.parts h.rq (by decide) a
 ·refine h.Ho.over (fun k a=> ?_);rcases a with rfl|a|a
  ·exact j _ (ai h.Ho.nN) C.symm E.symm o p
  ·refine j k (h.Ho.nP.lt k a).2 ?_ ?_ ?_ ?_
   ·rintro rfl;exact gB h.Ho.nP h.rows (by decide) a
   ·rintro rfl;exact gB h.Ho.nP h.dM (by decide) a
   ·rintro rfl;exact gB h.Ho.nP h.now (by decide) a
   ·rintro rfl;exact gB h.Ho.nP h.rq (by decide) a
  ·refine j k (h.Ho.Bq.lt k a).2 ?_ ?_ ?_ ?_
   ·rintro rfl;exact gB h.Ho.Bq h.rows (by decide) a
   ·rintro rfl;exact h.cvg a
   ·rintro rfl;exact gB h.Ho.Bq h.now (by decide) a
   ·rintro rfl;exact gB h.Ho.Bq h.rq (by decide) a
theorem fK.byte{c:Cn}{w:af}{s:eU}{g7 g8:Nat}(h:fK c w s g7 g8)(v nq:Nat)(p:v<=255):
 fK c (((w.setCell ⟨g7,s.at',none⟩ (.int .u8 (v:Int))).setCell ⟨c.rb,9,none⟩ (.int .i64 ((s.at'+1:Nat):Int))).drewN nq) {s with now:=s.now.set s.at' v,at':=s.at'+1} g7 g8/\Fr (zf c g7 g8) w (((w.setCell ⟨g7,s.at',none⟩ (.int .u8 (v:Int))).setCell ⟨c.rb,9,none⟩ (.int .i64 ((s.at'+1:Nat):Int))).drewN nq):=by
 obtain⟨a,f,q,g,r,i,t,u,y,j,l,m,n⟩:=h.apart
 have d:Fr (zf c g7 g8) w (((w.setCell ⟨g7,s.at',none⟩ (.int .u8 (v:Int))).setCell ⟨c.rb,9,none⟩ (.int .i64 ((s.at'+1:Nat):Int))).drewN nq):=
  Fr.drewN ((rC.mono (fun k e=> .inr (.inr (.inl e)))).trans (rC.mono (fun k e=> .inl e))) nq
 refine⟨h.still d ?_ ?_ ?_ ?_ h.ne ?_ rfl ?_ h.ab h.fb,d⟩
 ·show((w.setCell ⟨g7,s.at',none⟩ (.int .u8 (v:Int))).setCell ⟨c.rb,9,none⟩ (.int .i64 ((s.at'+1:Nat):Int))).heap[c.rb]?=_;have o:=(aB (b:=g7) s.at' (.int .u8 (v:Int)) a).trans h.rows;exact(rV o 9 _).trans (by simp[dN])
 ·show jL ((w.setCell ⟨g7,s.at',none⟩ (.int .u8 (v:Int))).setCell ⟨c.rb,9,none⟩ (.int .i64 ((s.at'+1:Nat):Int))) g7 (s.now.set s.at' v);exact(h.now.set s.at' v).over (aB _ _ a.symm)
 ·show jL ((w.setCell ⟨g7,s.at',none⟩ (.int .u8 (v:Int))).setCell ⟨c.rb,9,none⟩ (.int .i64 ((s.at'+1:Nat):Int))) g8 s.rq;exact h.rq.over ((aB _ _ f.symm).trans (aB _ _ h.ne.symm))
 ·show s.rq.length=(s.now.set s.at' v).length;rw[jO];exact h.len
 ·show((w.setCell ⟨g7,s.at',none⟩ (.int .u8 (v:Int))).setCell ⟨c.rb,9,none⟩ (.int .i64 ((s.at'+1:Nat):Int))).heap[c.gp]?=_;exact((aB _ _ g.symm).trans (aB _ _ i)).trans h.dM
 ·intro x hx;rcases List.mem_or_eq_of_mem_set hx with e|e
  ·exact h.nb x e
  ·omega
theorem fK.VS{c:Cn}{w w':af}{s:eU}{g7 g8:Nat}(h:fK c w s g7 g8)(a:List Nat)(f:a.length=s.dM.length)(hp:iC w' c.gp a)(d:Fr (fun k=>k=c.gp) w w'):fK c w' {s with dM:=a} g7 g8/\Fr (zf c g7 g8) w w':=by obtain⟨p,q,r,g,t,i,j,u,v,l,m,n,o⟩:=h.apart;have b:Fr (zf c g7 g8) w w':=d.mono (fun k e=> .inr (.inl e));exact⟨h.still b ((d.block _ (ai h.rows) g).trans h.rows) (h.now.over (d.block _ (ai h.now) i.symm)) (h.rq.over (d.block _ (ai h.rq) j.symm)) h.len h.ne hp f h.nb h.ab h.fb,b⟩
end Pr
namespace Pr
open Go.RowKit Rf Cr
theorem aaA(n:Nat):madeCells #[.int .u16 0] n=(dI (List.replicate n 0)).toArray:=by
 apply Array.ext
 ·rw[og];simp[dI]
 ·intro i a b;have h:i<n:=by rw[og]at a;exact a
  have e:(madeCells #[.int .u16 0] n)[i]?=some (.int .u16 ((0:Nat):Int)):=by simp[madeCells,h];simp[Nat.mod_one]
  rw[xZ a]at e;rw[dB e];simp[dI]
theorem zg(W:af)(n:Nat)(e:n<=1000000000):(Instr.makeSlice 30 (.int .i64 (n:Int)) (.int .i64 (n:Int))).run prog W= .ok (.slice (some ⟨W.heap.size,0,none⟩) n n) (W.alloc (.cells (dI (List.replicate n 0)).toArray 39)):=by obtain⟨d,hi,a,b,c⟩:=info_parts Nr;have h:=run_make (P:=prog) W 30 39 d _ underlying30 hi a .i64 .i64 (n:Int) (n:Int) (by omega) (by omega) (by rw[c];omega) (by omega);rw[h,b,<-aaA];simp[Value.cells]
theorem Nw(W H D K kb:Nat)(I:Bool)(w:af)(hW:W<=1048576)(b:4*W*H<=4194304)(hH:H<=4294967296):
 aF prog 155 #[qX W H D K I,.pointer (some ⟨kb,0,none⟩)] w fun e w'=> ∃vb gp,e= .returned (.pointer (some ⟨vb,0,none⟩))/\w.heap.size<=vb/\w.heap.size<=gp/\w'.heap[vb]?=some (Aa W H D K I kb (.slice (some ⟨gp,0,none⟩) (4*W*H) (4*W*H)))/\iC w' gp (List.replicate (4*W*H) 0)/\aJ w.heap.size w w':=by
 unfold qX;obtain⟨N,a⟩:∃N,N=4*W*H:=⟨_,rfl⟩;have c:4*(W:Int)*(H:Int)=(N:Int):=by rw[a];simp
 rw[<-a]at b|-;have d:=fun W'=>zg W' N (by omega);clear a;go_enter func155,ntmps155
 go_wp2_with fail
 go_region
 all_goals
  go_wp2_with fail
  go_ret;refine⟨w.heap.size+1+1,w.heap.size+1,rfl,by omega,by omega,?_,?_,?_⟩
  ·have:=aO ((w.alloc (.cells #[.int .i64 (W:Int),.int .i64 (H:Int),.int .i64 (D:Int),.int .u8 (K:Int),.bool I] 221)).alloc (.cells (dI (List.replicate N 0)).toArray 39)) (Aa W H D K I kb (.slice (some ⟨w.heap.size+1,0,none⟩) N N));have e:((w.alloc (.cells #[.int .i64 (W:Int),.int .i64 (H:Int),.int .i64 (D:Int),.int .u8 (K:Int),.bool I] 221)).alloc (.cells (dI (List.replicate N 0)).toArray 39)).heap.size=w.heap.size+1+1:=by simp
   rw[e]at this;exact this
  ·refine(aj _ _ _ (by simp)).trans ?_;have:=aO (w.alloc (.cells #[.int .i64 (W:Int),.int .i64 (H:Int),.int .i64 (D:Int),.int .u8 (K:Int),.bool I] 221)) (.cells (dI (List.replicate N 0)).toArray 39);have e:(w.alloc (.cells #[.int .i64 (W:Int),.int .i64 (H:Int),.int .i64 (D:Int),.int .u8 (K:Int),.bool I] 221)).heap.size=w.heap.size+1:=by simp
   rw[e]at this;exact this
  ·exact Below.PR ((((aP w.heap.size w).alloc (ag _) _).alloc (by simp) _).alloc (by simp;omega) _)
theorem XQ(W H D K kb vb:Nat)(I:Bool)(pv:ay)(w:af)(h:w.heap[vb]?=some (Aa W H D K I kb pv))(la:Option bP)(n cap:Nat)(b:pv= .slice la n cap):
 aF prog 162 #[.pointer (some ⟨vb,0,none⟩)] w fun e w'=>e= .returned (.agg #[.int .i64 (W:Int),.int .i64 (H:Int),pv])/\aJ w.heap.size w w':=by
 subst b;have a:=ai h;have c0:∀o,(w.alloc o).cell? ⟨vb,0,none⟩=some (.int .i64 (W:Int)):=fun o=>(aV (aj _ _ vb a)).trans (by simpa [Aa]using(cell_of h 0).1);have c1:∀o,(w.alloc o).cell? ⟨vb,1,none⟩=some (.int .i64 (H:Int)):=fun o=>(aV (aj _ _ vb a)).trans (by simpa [Aa]using(cell_of h 1).1);have c:∀o,(w.alloc o).cell? ⟨vb,6,none⟩=some (.slice la n cap):=fun o=>(aV (aj _ _ vb a)).trans (by simpa [Aa]using(cell_of h 6).1);clear h;go_enter func162,ntmps162
 go_wp2_with fail
 go_region
 all_goals
  go_wp2_with fail
  refine aI (v:= .agg #[.int .i64 (W:Int),.int .i64 (H:Int),.slice la n cap]) (by simp[results,results162,go_sem]) rfl ?_;exact⟨rfl,Below.PR ((aP w.heap.size w).alloc (ag _) _)⟩
open h_ (dX)
def lI(W H:Nat)(x:Nat×Nat×Nat×Nat):lC:=⟨x.1,x.2.1,x.2.2.1,x.2.2.2,cO W x.1 x.2.1,cO H x.2.2.1 x.2.2.2⟩
def nR(W H:Nat)(l:List (Nat×Nat×Nat×Nat)):List lC:=(l.map (lI W H)).filter fun t=>decide (0<t.W)&&decide (0<t.H)
def dZ(W H:Nat)(I:Bool):List lC:=if I then nR W H (dX 1)else [⟨0,1,0,1,W,H⟩]
def Ny:List Nat:=[0,8,0,8,4,8,0,8,0,4,4,8,2,4,0,4,0,2,2,4,1,2,0,2,0,1,1,2]
def mG(w:af):Prop:=∀i,i<28->w.cell? ⟨5,i,none⟩=some (.int .u8 ((Ny.getD i 0:Nat):Int))
theorem ac5:(prog.info? 301).map (fun i=>(i.zero,i.size,i.bytes))=some (some (.agg #[.int .i64 0,.int .i64 0,.int .i64 0,.int .i64 0,.int .i64 0,.int .i64 0]),6,48):=by kernel_rfl
theorem pO{wr:af}{ops:Array Oper}{rest:List Oper}{o:Oper}{a:Act}{Q:Exit->Act->af->Prop}(l:o.guard=none)(s x:Operand)
 (r:o.op= .call {callee:= .builtin .append,args:= #[s,x],argTypes:= #[294,294]}) (base:Nat) (v:ay) (n:Nat) (xs:List ay) (d e f g i k:Int)
 (c:wr.ownsRow base 301 6 v n xs) (hs:a.eval s=v) (hx:a.eval x= .slice (some ⟨wr.heap.size,0,none⟩) 1 1) (z:n<=1000) (hb:base<=wr.heap.size)
 (h:∀v' w',w'.ownsRow base 301 6 v' (n+1) (xs++[.int .i64 d,.int .i64 e,.int .i64 f,.int .i64 g,.int .i64 i,.int .i64 k])->(wr.alloc (.cells #[.int .i64 d,.int .i64 e,.int .i64 f,.int .i64 g,.int .i64 i,.int .i64 k] 301)).grownBy w' v.ownBlock->wpList prog ops Q rest (a.put o.dst v') w'):
 wpList prog ops Q (o::rest) a (wr.alloc (.cells #[.int .i64 d,.int .i64 e,.int .i64 f,.int .i64 g,.int .i64 i,.int .i64 k] 301)):=by
 obtain⟨t,hi,m,p,q⟩:=info_parts ac5;refine xY _ l s x 294 r base 301 t _ 6 48 underlying294 hi m p q rfl (by decide) v n xs hs (c.alloc _) ⟨wr.heap.size,0,none⟩ 1 1 [.int .i64 d,.int .i64 e,.int .i64 f,.int .i64 g,.int .i64 i,.int .i64 k] hx rfl ?_ ?_ ?_ ?_ ?_ ?_
 ·intro j u b;match j,b with
  |0,b=>simp at b;subst b;simp[Addr.add]
  |1,b=>simp at b;subst b;simp[Addr.add]
  |2,b=>simp at b;subst b;simp[Addr.add]
  |3,b=>simp at b;subst b;simp[Addr.add]
  |4,b=>simp at b;subst b;simp[Addr.add]
  |5,b=>simp at b;subst b;simp[Addr.add]
 ·intro u hu;simp at hu;rcases hu with rfl|rfl|rfl|rfl|rfl|rfl<;>rfl
 ·unfold maxLen;omega
 ·omega
 ·simp;omega
 ·intro v' w' w y _;exact h v' w' w y
theorem Qq(W H D K:Nat)(w:af)(hW:W<=1048576)(hH:H<=1048576):
 aF prog 187 #[qX W H D K false] w fun e w'=> ∃v,e= .returned v/\w'.ownsRow w.heap.size 301 6 v (dZ W H false).length (dn (dZ W H false))/\aJ w.heap.size w w':=by
 unfold qX;go_enter func187,ntmps187
 go_wp2_with fail
 go_ret;refine⟨_,rfl,⟨rfl,.inr ⟨_,1,#[.int .i64 0,.int .i64 1,.int .i64 0,.int .i64 1,.int .i64 (W:Int),.int .i64 (H:Int)],rfl,by simp,?_,ag _,by unfold maxLen;omega,rfl,rfl⟩⟩,?_⟩
 ·have:=aO (w.alloc (.cells #[.int .i64 (W:Int),.int .i64 (H:Int),.int .i64 (D:Int),.int .u8 (K:Int),.bool false] 221)) (.cells #[.int .i64 0,.int .i64 1,.int .i64 0,.int .i64 1,.int .i64 (W:Int),.int .i64 (H:Int)] 301);simpa using this
 ·exact((aP w.heap.size w).alloc (ag _) _).alloc (by simp) _
theorem aaB(w:af):(Instr.index 333 (.agg #[.int .u8 0,.int .u8 8,.int .u8 0,.int .u8 8,.int .u8 4,.int .u8 8,.int .u8 0,.int .u8 8,.int .u8 0,.int .u8 4,.int .u8 4,.int .u8 8,.int .u8 2,.int .u8 4,.int .u8 0,.int .u8 4,.int .u8 0,.int .u8 2,.int .u8 2,.int .u8 4,.int .u8 1,.int .u8 2,.int .u8 0,.int .u8 2,.int .u8 0,.int .u8 1,.int .u8 1,.int .u8 2]) (.int .i64 0)).run prog w= .ok (.agg #[.int .u8 0,.int .u8 8,.int .u8 0,.int .u8 8]) w:=by kernel_rfl
theorem aaC(w:af):(Instr.index 333 (.agg #[.int .u8 0,.int .u8 8,.int .u8 0,.int .u8 8,.int .u8 4,.int .u8 8,.int .u8 0,.int .u8 8,.int .u8 0,.int .u8 4,.int .u8 4,.int .u8 8,.int .u8 2,.int .u8 4,.int .u8 0,.int .u8 4,.int .u8 0,.int .u8 2,.int .u8 2,.int .u8 4,.int .u8 1,.int .u8 2,.int .u8 0,.int .u8 2,.int .u8 0,.int .u8 1,.int .u8 1,.int .u8 2]) (.int .i64 1)).run prog w= .ok (.agg #[.int .u8 4,.int .u8 8,.int .u8 0,.int .u8 8]) w:=by kernel_rfl
theorem aaD(w:af):(Instr.index 333 (.agg #[.int .u8 0,.int .u8 8,.int .u8 0,.int .u8 8,.int .u8 4,.int .u8 8,.int .u8 0,.int .u8 8,.int .u8 0,.int .u8 4,.int .u8 4,.int .u8 8,.int .u8 2,.int .u8 4,.int .u8 0,.int .u8 4,.int .u8 0,.int .u8 2,.int .u8 2,.int .u8 4,.int .u8 1,.int .u8 2,.int .u8 0,.int .u8 2,.int .u8 0,.int .u8 1,.int .u8 1,.int .u8 2]) (.int .i64 2)).run prog w= .ok (.agg #[.int .u8 0,.int .u8 4,.int .u8 4,.int .u8 8]) w:=by kernel_rfl
theorem aaE(w:af):(Instr.index 333 (.agg #[.int .u8 0,.int .u8 8,.int .u8 0,.int .u8 8,.int .u8 4,.int .u8 8,.int .u8 0,.int .u8 8,.int .u8 0,.int .u8 4,.int .u8 4,.int .u8 8,.int .u8 2,.int .u8 4,.int .u8 0,.int .u8 4,.int .u8 0,.int .u8 2,.int .u8 2,.int .u8 4,.int .u8 1,.int .u8 2,.int .u8 0,.int .u8 2,.int .u8 0,.int .u8 1,.int .u8 1,.int .u8 2]) (.int .i64 3)).run prog w= .ok (.agg #[.int .u8 2,.int .u8 4,.int .u8 0,.int .u8 4]) w:=by kernel_rfl
theorem aaF(w:af):(Instr.index 333 (.agg #[.int .u8 0,.int .u8 8,.int .u8 0,.int .u8 8,.int .u8 4,.int .u8 8,.int .u8 0,.int .u8 8,.int .u8 0,.int .u8 4,.int .u8 4,.int .u8 8,.int .u8 2,.int .u8 4,.int .u8 0,.int .u8 4,.int .u8 0,.int .u8 2,.int .u8 2,.int .u8 4,.int .u8 1,.int .u8 2,.int .u8 0,.int .u8 2,.int .u8 0,.int .u8 1,.int .u8 1,.int .u8 2]) (.int .i64 4)).run prog w= .ok (.agg #[.int .u8 0,.int .u8 2,.int .u8 2,.int .u8 4]) w:=by kernel_rfl
theorem aaG(w:af):(Instr.index 333 (.agg #[.int .u8 0,.int .u8 8,.int .u8 0,.int .u8 8,.int .u8 4,.int .u8 8,.int .u8 0,.int .u8 8,.int .u8 0,.int .u8 4,.int .u8 4,.int .u8 8,.int .u8 2,.int .u8 4,.int .u8 0,.int .u8 4,.int .u8 0,.int .u8 2,.int .u8 2,.int .u8 4,.int .u8 1,.int .u8 2,.int .u8 0,.int .u8 2,.int .u8 0,.int .u8 1,.int .u8 1,.int .u8 2]) (.int .i64 5)).run prog w= .ok (.agg #[.int .u8 1,.int .u8 2,.int .u8 0,.int .u8 2]) w:=by kernel_rfl
theorem aaH(w:af):(Instr.index 333 (.agg #[.int .u8 0,.int .u8 8,.int .u8 0,.int .u8 8,.int .u8 4,.int .u8 8,.int .u8 0,.int .u8 8,.int .u8 0,.int .u8 4,.int .u8 4,.int .u8 8,.int .u8 2,.int .u8 4,.int .u8 0,.int .u8 4,.int .u8 0,.int .u8 2,.int .u8 2,.int .u8 4,.int .u8 1,.int .u8 2,.int .u8 0,.int .u8 2,.int .u8 0,.int .u8 1,.int .u8 1,.int .u8 2]) (.int .i64 6)).run prog w= .ok (.agg #[.int .u8 0,.int .u8 1,.int .u8 1,.int .u8 2]) w:=by kernel_rfl
def fJ(W H i:Nat):List lC:=nR W H ((dX 1).take i)
theorem rW(W H i:Nat)(x:Nat×Nat×Nat×Nat)(h:(dX 1)[i]?=some x):fJ W H (i+1)=if 0<cO W x.1 x.2.1/\0<cO H x.2.2.1 x.2.2.2 then fJ W H i++[lI W H x]else fJ W H i:=by
 unfold fJ nR;rw[BC,h,List.map_append,List.filter_append];show _++(List.filter _ [lI W H x])=_;by_cases a:0<cO W x.1 x.2.1/\0<cO H x.2.2.1 x.2.2.2
 ·rw[aC a,List.filter_cons_of_pos (by show(decide (0<cO W x.1 x.2.1)&&decide (0<cO H x.2.2.1 x.2.2.2))=true;simp[a.1,a.2])];rfl
 ·rw[au a,List.filter_cons_of_neg (by show¬(decide (0<cO W x.1 x.2.1)&&decide (0<cO H x.2.2.1 x.2.2.2))=true;simp;omega)];simp
theorem Qr(W H i:Nat):(fJ W H i).length<=i:=by unfold fJ nR;refine aK (List.length_filter_le _ _) ?_;rw[List.length_map,jl];omega
theorem Qs(e f t:Nat)(a:1<=t):cO e f t<=e:=by
 unfold cO;split
 ·omega
 ·have:=qy (e-f-1) t;omega
theorem afj:(prog.info? 333).map (fun i=>i.size)=some 28:=by kernel_rfl
theorem mG.range{w:af}(h:mG w):w.rangeAt 5 0 [.int .u8 0,.int .u8 8,.int .u8 0,.int .u8 8,.int .u8 4,.int .u8 8,.int .u8 0,.int .u8 8,.int .u8 0,.int .u8 4,.int .u8 4,.int .u8 8,.int .u8 2,.int .u8 4,.int .u8 0,.int .u8 4,.int .u8 0,.int .u8 2,.int .u8 2,.int .u8 4,.int .u8 1,.int .u8 2,.int .u8 0,.int .u8 2,.int .u8 0,.int .u8 1,.int .u8 1,.int .u8 2]:=by
 intro j v a;rw[fF];have c:j<28:=by
  rcases bU j 28 with h|h
  ·exact h
  ·rw[fE (by simpa using h)]at a;cases a
 refine(h j c).trans ?_;rw[<-a];have e:([.int .u8 0,.int .u8 8,.int .u8 0,.int .u8 8,.int .u8 4,.int .u8 8,.int .u8 0,.int .u8 8,.int .u8 0,.int .u8 4,.int .u8 4,.int .u8 8,.int .u8 2,.int .u8 4,.int .u8 0,.int .u8 4,.int .u8 0,.int .u8 2,.int .u8 2,.int .u8 4,.int .u8 1,.int .u8 2,.int .u8 0,.int .u8 2,.int .u8 0,.int .u8 1,.int .u8 1,.int .u8 2]:List ay)=Ny.map fun(x:Nat)=> .int .u8 ((x:Nat):Int):=rfl;have b:j<Ny.length:=c;rw[e,jr,ak,aG b];rfl
theorem xO{w wr a:af}{b hd:Obj}{cs:Array ay}{pv:ay}{n:Nat}{xs:List ay}(h:a=(wr.alloc b).alloc (.cells cs 301))(c:wr.heap[w.heap.size]?=some hd)(d:wr.ownsRow w.heap.size 301 6 pv n xs)(hb:aJ w.heap.size w wr):
 a.heap[wr.heap.size+1]?=some (.cells cs 301 (0,0))/\a.heap[w.heap.size]?=some hd/\a.ownsRow w.heap.size 301 6 pv n xs/\aJ w.heap.size w a:=by
 have e:=ai c;subst h;refine⟨?_,?_,(d.alloc _).alloc _,(hb.alloc hb.size _).alloc (by simp;have:=hb.size;omega) _⟩
 ·have:=aO (wr.alloc b) (.cells cs 301);simpa using this
 ·exact((aj _ _ _ (by simp;omega)).trans (aj _ _ _ e)).trans c
theorem xP{w d:af}{hd:Obj}{c:Nat}{f g h i m o a b:ay}{pv:ay}{n:Nat}{xs:List ay}(h6:d.heap[c]?=some (.cells #[f,g,h,i,m,o] 301 (0,0)))(p:d.heap[w.heap.size]?=some hd)(q:d.ownsRow w.heap.size 301 6 pv n xs)(hb:aJ w.heap.size w d)(r:w.heap.size<c)(j:pv.ownBlock≠some c):
 ((d.setCell ⟨c,4,none⟩ a).setCell ⟨c,5,none⟩ b).heap[c]?=some (.cells #[f,g,h,i,a,b] 301 (0,0))/\((d.setCell ⟨c,4,none⟩ a).setCell ⟨c,5,none⟩ b).heap[w.heap.size]?=some hd/\((d.setCell ⟨c,4,none⟩ a).setCell ⟨c,5,none⟩ b).ownsRow w.heap.size 301 6 pv n xs/\aJ w.heap.size w ((d.setCell ⟨c,4,none⟩ a).setCell ⟨c,5,none⟩ b):=by
 refine⟨(bG (bG h6 4 _) 5 _).trans (by simp),((aB _ _ (by omega)).trans (aB _ _ (by omega))).trans p,iM q (fun k l=>(aB _ _ (fun e=>j (by rw[<-e];exact l))).trans (aB _ _ (fun e=>j (by rw[<-e];exact l)))),dW (dW hb _ _ (by omega) _) _ _ (by omega) _⟩
theorem rX{w b c:af}{hd o:Obj}{pv:ay}{n:Nat}{xs:List ay}(d:b.heap[w.heap.size]?=some hd)(f:b.ownsRow w.heap.size 301 6 pv n xs)(hb:aJ w.heap.size w b)(g:pv.ownBlock≠some w.heap.size)(a:(b.alloc o).grownBy c pv.ownBlock):c.heap[w.heap.size]?=some hd/\aJ w.heap.size w c:=by
 have h:=ai d;refine⟨(a.block _ (by simp;omega) (fun e=>g e.symm)).trans ((aj _ _ _ h).trans d),⟨a.os.trans hb.os,a.tape.trans hb.tape,a.output.trans hb.output,?_,fun k i=> ?_⟩⟩
 ·have:=a.size;simp at this;have:=hb.size;omega
 ·have hs:=hb.size;refine(a.block k (by simp;omega) (fun e=> ?_)).trans ((aj _ _ _ (by omega)).trans (hb.block k i));have:=(f.lt k e.symm).1;omega
theorem Qu(W H D K:Nat)(w:af)(hS:mG w)(hg:7<=w.heap.size)(hW:W<=1048576)(hH:H<=1048576):
 aF prog 187 #[qX W H D K true] w fun e w'=> ∃v,e= .returned v/\w'.ownsRow w.heap.size 301 6 v (dZ W H true).length (dn (dZ W H true))/\aJ w.heap.size w w':=by
 have a8:dZ W H true=fJ W H 7:=rfl;rw[a8];unfold qX;have a9:ah (∀o,(w.alloc o).rangeAt 5 0 [.int .u8 0,.int .u8 8,.int .u8 0,.int .u8 8,.int .u8 4,.int .u8 8,.int .u8 0,.int .u8 8,.int .u8 0,.int .u8 4,.int .u8 4,.int .u8 8,.int .u8 2,.int .u8 4,.int .u8 0,.int .u8 4,.int .u8 0,.int .u8 2,.int .u8 2,.int .u8 4,.int .u8 1,.int .u8 2,.int .u8 0,.int .u8 2,.int .u8 0,.int .u8 1,.int .u8 1,.int .u8 2]):=(fun o=>mG.range (fun i hi=>(aV (aj _ _ _ (by omega))).trans (hS i hi)):∀o,_);clear hS a8;go_enter func187,ntmps187
 go_wp2_with (first
  |(refine wpList_load_mid (by rfl) 333 (.global 5) (by rfl) 5 0 (by rfl) [.int .u8 0,.int .u8 8,.int .u8 0,.int .u8 8,.int .u8 4,.int .u8 8,.int .u8 0,.int .u8 8,.int .u8 0,.int .u8 4,.int .u8 4,.int .u8 8,.int .u8 2,.int .u8 4,.int .u8 0,.int .u8 4,.int .u8 0,.int .u8 2,.int .u8 2,.int .u8 4,.int .u8 1,.int .u8 2,.int .u8 0,.int .u8 2,.int .u8 0,.int .u8 1,.int .u8 1,.int .u8 2] _ (a9.out _) underlying333 rfl afj ?_)
  |fail)
 go_loopw [3,17] (fun pv iv wr=> ∃(i:Nat),i<=7/\iv= .int .i64 (i:Int)/\wr.ownsRow w.heap.size 301 6 pv (fJ W H i).length (dn (fJ W H i))/\aJ w.heap.size w wr/\wr.heap[w.heap.size]?=some (.cells #[.int .i64 (W:Int),.int .i64 (H:Int),.int .i64 (D:Int),.int .u8 (K:Int),.bool true] 221 (0,0))/\pv.ownBlock≠some w.heap.size) (fun _ iv _=>7-(aX iv).toNat)
 case atStart=>exact⟨0,aU _,rfl,⟨rfl,.inl ⟨rfl,rfl⟩⟩,(aP _ _).alloc (ag _) _,aO w _,by simp[Value.ownBlock]⟩
 case round=>
  obtain⟨i,hi,rfl,a3,a6,a5,a7⟩:=hrel;have a1:wr.cell? ⟨w.heap.size,0,none⟩=some (.int .i64 (W:Int)):=by simpa using(cell_of a5 0).1
  by_cases b0:i<7
  ·have b1:=Qr W H i;have b2:=ai a5;have u:ah _:=a3;have a0:ah _:=a6;have a2:ah _:=a5;have z:ah _:=a7;clear a3 a6 a5 a7;rcases(by omega:i=0\/i=1\/i=2\/i=3\/i=4\/i=5\/i=6)with rfl|rfl|rfl|rfl|rfl|rfl|rfl
   ·have a4:=aaB;have A:=fun w'=>jX W 0 8 w' (by omega) (by omega) (by omega);have B:=fun w'=>jX H 0 8 w' (by omega) (by omega) (by omega);have g:ah _:=rW W H 0 (0,8,0,8) rfl;generalize q:cO W 0 8=l at*;generalize r:cO H 0 8=m at*;have R:ah (lI W H (0,8,0,8)=⟨0,8,0,8,l,m⟩):=(by unfold lI;rw[q,r]:_=_);clear q r;go_wp2_with fail
    refine(A _).mono ?_;rintro e x ⟨rfl,C⟩;obtain⟨d,s,E,F⟩:=xO C a2.out u.out a0.out;obtain⟨f,G⟩:∃b,b=wr.heap.size+1:=⟨_,rfl⟩;rw[<-G]at d|-;have I:w.heap.size<f:=by omega
    have S:u3.ownBlock≠some f:=fun e=>by have:=(iE u.out f e).2;omega
    obtain⟨J,L,M,N⟩:=xP (a:= .int .i64 (l:Int)) (b:= .int .i64 (m:Int)) d s E F I S;have j:ah _:=J;have n:ah _:=M;have p:ah _:=N;have t:ah _:=L;have e2:x.cell? ⟨f,2,none⟩=some (.int .i64 0):=by simpa using(cell_of d 2).1
    have e3:x.cell? ⟨f,3,none⟩=some (.int .i64 8):=by simpa using(cell_of d 3).1
    have e4:x.cell? ⟨f,4,none⟩=some (.int .i64 0):=by simpa using(cell_of d 4).1
    have e5:x.cell? ⟨f,5,none⟩=some (.int .i64 0):=by simpa using(cell_of d 5).1
    have T:=(cell_of d 4).2;have U:=(cell_of d 5).2;have eh:x.cell? ⟨w.heap.size,1,none⟩=some (.int .i64 (H:Int)):=by simpa using(cell_of s 1).1
    clear J L M N d s E F C G a1 A;go_wp2_with fail
    refine(B _).mono ?_;rintro e w6 ⟨rfl,V⟩;subst V;clear B;go_upto_region 10 with fail
    generalize (x.setCell ⟨f,4,none⟩ (.int .i64 (l:Int))).setCell ⟨f,5,none⟩ (.int .i64 (m:Int))=y at*;have f0:y.cell? ⟨f,0,none⟩=some (.int .i64 0):=by simpa using(cell_of j.out 0).1
    have f1:y.cell? ⟨f,1,none⟩=some (.int .i64 8):=by simpa using(cell_of j.out 1).1
    have f2:y.cell? ⟨f,2,none⟩=some (.int .i64 0):=by simpa using(cell_of j.out 2).1
    have f3:y.cell? ⟨f,3,none⟩=some (.int .i64 8):=by simpa using(cell_of j.out 3).1
    have f4:y.cell? ⟨f,4,none⟩=some (.int .i64 (l:Int)):=by simpa using(cell_of j.out 4).1
    have f5:y.cell? ⟨f,5,none⟩=some (.int .i64 (m:Int)):=by simpa using(cell_of j.out 5).1
    clear e2 e3 e4 e5 T U eh;by_cases O:0<l
    ·by_cases Q:0<m
     ·have Y:(0:Int)<(l:Int):=by omega
      have i2:(0:Int)<(m:Int):=by omega
      have c:ah (fJ W H 1=fJ W H 0++[lI W H (0,8,0,8)]):=(by rw[g.out,aC ⟨O,Q⟩]:_=_);clear O Q g
      go_wp2_with (first
       |(at_builtin;refine pO rfl _ _ rfl w.heap.size u3 (fJ W H 0).length (dn (fJ W H 0)) 0 8 0 8 (l:Int) (m:Int) n.out rfl rfl (by omega) (jh p.out) ?_;go_must (intro v' w9 k X))
       |fail)
      go_roundw
      case rel=>
       obtain⟨Z,r2⟩:=rX t.out n.out p.out z.out X;have hlen:(fJ W H 1).length=(fJ W H 0).length+1:=by rw[c.out,bQ];rfl
       have P:dn (fJ W H 1)=dn (fJ W H 0)++[.int .i64 0,.int .i64 8,.int .i64 0,.int .i64 8,.int .i64 (l:Int),.int .i64 (m:Int)]:=by rw[c.out,R.out];simp[dn,fD]
       refine⟨1,by omega,by go_num,?_,r2,Z,gB k Z (by decide)⟩;rw[hlen,P];exact k
      case measure=>simp[aX]
     ·have Y:(0:Int)<(l:Int):=by omega
      have i2:¬((0:Int)<(m:Int)):=by omega
      have c:ah (fJ W H 1=fJ W H 0):=(by rw[g.out,au (fun h=>Q h.2)]:_=_);clear O Q g;go_wp2_with fail
      go_roundw
      case rel=>refine⟨1,by omega,by go_num,?_,p.out,t.out,z.out⟩;rw[c.out];exact n.out
      case measure=>simp[aX]
    ·have Y:¬((0:Int)<(l:Int)):=by omega
     have c:ah (fJ W H 1=fJ W H 0):=(by rw[g.out,au (fun h=>O h.1)]:_=_);clear O g;go_wp2_with fail
     go_roundw
     case rel=>refine⟨1,by omega,by go_num,?_,p.out,t.out,z.out⟩;rw[c.out];exact n.out
     case measure=>simp[aX]
   ·have a4:=aaC;have A:=fun w'=>jX W 4 8 w' (by omega) (by omega) (by omega);have B:=fun w'=>jX H 0 8 w' (by omega) (by omega) (by omega);have g:ah _:=rW W H 1 (4,8,0,8) rfl;generalize q:cO W 4 8=l at*;generalize r:cO H 0 8=m at*;have R:ah (lI W H (4,8,0,8)=⟨4,8,0,8,l,m⟩):=(by unfold lI;rw[q,r]:_=_);clear q r;go_wp2_with fail
    refine(A _).mono ?_;rintro e x ⟨rfl,C⟩;obtain⟨d,s,E,F⟩:=xO C a2.out u.out a0.out;obtain⟨f,G⟩:∃b,b=wr.heap.size+1:=⟨_,rfl⟩;rw[<-G]at d|-;have I:w.heap.size<f:=by omega
    have S:u3.ownBlock≠some f:=fun e=>by have:=(iE u.out f e).2;omega
    obtain⟨J,L,M,N⟩:=xP (a:= .int .i64 (l:Int)) (b:= .int .i64 (m:Int)) d s E F I S;have j:ah _:=J;have n:ah _:=M;have p:ah _:=N;have t:ah _:=L;have e2:x.cell? ⟨f,2,none⟩=some (.int .i64 0):=by simpa using(cell_of d 2).1
    have e3:x.cell? ⟨f,3,none⟩=some (.int .i64 8):=by simpa using(cell_of d 3).1
    have e4:x.cell? ⟨f,4,none⟩=some (.int .i64 0):=by simpa using(cell_of d 4).1
    have e5:x.cell? ⟨f,5,none⟩=some (.int .i64 0):=by simpa using(cell_of d 5).1
    have T:=(cell_of d 4).2;have U:=(cell_of d 5).2;have eh:x.cell? ⟨w.heap.size,1,none⟩=some (.int .i64 (H:Int)):=by simpa using(cell_of s 1).1
    clear J L M N d s E F C G a1 A;go_wp2_with fail
    refine(B _).mono ?_;rintro e w6 ⟨rfl,V⟩;subst V;clear B;go_upto_region 10 with fail
    generalize (x.setCell ⟨f,4,none⟩ (.int .i64 (l:Int))).setCell ⟨f,5,none⟩ (.int .i64 (m:Int))=y at*;have f0:y.cell? ⟨f,0,none⟩=some (.int .i64 4):=by simpa using(cell_of j.out 0).1
    have f1:y.cell? ⟨f,1,none⟩=some (.int .i64 8):=by simpa using(cell_of j.out 1).1
    have f2:y.cell? ⟨f,2,none⟩=some (.int .i64 0):=by simpa using(cell_of j.out 2).1
    have f3:y.cell? ⟨f,3,none⟩=some (.int .i64 8):=by simpa using(cell_of j.out 3).1
    have f4:y.cell? ⟨f,4,none⟩=some (.int .i64 (l:Int)):=by simpa using(cell_of j.out 4).1
    have f5:y.cell? ⟨f,5,none⟩=some (.int .i64 (m:Int)):=by simpa using(cell_of j.out 5).1
    clear e2 e3 e4 e5 T U eh;by_cases O:0<l
    ·by_cases Q:0<m
     ·have Y:(0:Int)<(l:Int):=by omega
      have i2:(0:Int)<(m:Int):=by omega
      have c:ah (fJ W H 2=fJ W H 1++[lI W H (4,8,0,8)]):=(by rw[g.out,aC ⟨O,Q⟩]:_=_);clear O Q g
      go_wp2_with (first
       |(at_builtin;refine pO rfl _ _ rfl w.heap.size u3 (fJ W H 1).length (dn (fJ W H 1)) 4 8 0 8 (l:Int) (m:Int) n.out rfl rfl (by omega) (jh p.out) ?_;go_must (intro v' w9 k X))
       |fail)
      go_roundw
      case rel=>
       obtain⟨Z,r2⟩:=rX t.out n.out p.out z.out X;have hlen:(fJ W H 2).length=(fJ W H 1).length+1:=by rw[c.out,bQ];rfl
       have P:dn (fJ W H 2)=dn (fJ W H 1)++[.int .i64 4,.int .i64 8,.int .i64 0,.int .i64 8,.int .i64 (l:Int),.int .i64 (m:Int)]:=by rw[c.out,R.out];simp[dn,fD]
       refine⟨2,by omega,by go_num,?_,r2,Z,gB k Z (by decide)⟩;rw[hlen,P];exact k
      case measure=>simp[aX]
     ·have Y:(0:Int)<(l:Int):=by omega
      have i2:¬((0:Int)<(m:Int)):=by omega
      have c:ah (fJ W H 2=fJ W H 1):=(by rw[g.out,au (fun h=>Q h.2)]:_=_);clear O Q g;go_wp2_with fail
      go_roundw
      case rel=>refine⟨2,by omega,by go_num,?_,p.out,t.out,z.out⟩;rw[c.out];exact n.out
      case measure=>simp[aX]
    ·have Y:¬((0:Int)<(l:Int)):=by omega
     have c:ah (fJ W H 2=fJ W H 1):=(by rw[g.out,au (fun h=>O h.1)]:_=_);clear O g;go_wp2_with fail
     go_roundw
     case rel=>refine⟨2,by omega,by go_num,?_,p.out,t.out,z.out⟩;rw[c.out];exact n.out
     case measure=>simp[aX]
   ·have a4:=aaD;have A:=fun w'=>jX W 0 4 w' (by omega) (by omega) (by omega);have B:=fun w'=>jX H 4 8 w' (by omega) (by omega) (by omega);have g:ah _:=rW W H 2 (0,4,4,8) rfl;generalize q:cO W 0 4=l at*;generalize r:cO H 4 8=m at*;have R:ah (lI W H (0,4,4,8)=⟨0,4,4,8,l,m⟩):=(by unfold lI;rw[q,r]:_=_);clear q r;go_wp2_with fail
    refine(A _).mono ?_;rintro e x ⟨rfl,C⟩;obtain⟨d,s,E,F⟩:=xO C a2.out u.out a0.out;obtain⟨f,G⟩:∃b,b=wr.heap.size+1:=⟨_,rfl⟩;rw[<-G]at d|-;have I:w.heap.size<f:=by omega
    have S:u3.ownBlock≠some f:=fun e=>by have:=(iE u.out f e).2;omega
    obtain⟨J,L,M,N⟩:=xP (a:= .int .i64 (l:Int)) (b:= .int .i64 (m:Int)) d s E F I S;have j:ah _:=J;have n:ah _:=M;have p:ah _:=N;have t:ah _:=L;have e2:x.cell? ⟨f,2,none⟩=some (.int .i64 4):=by simpa using(cell_of d 2).1
    have e3:x.cell? ⟨f,3,none⟩=some (.int .i64 8):=by simpa using(cell_of d 3).1
    have e4:x.cell? ⟨f,4,none⟩=some (.int .i64 0):=by simpa using(cell_of d 4).1
    have e5:x.cell? ⟨f,5,none⟩=some (.int .i64 0):=by simpa using(cell_of d 5).1
    have T:=(cell_of d 4).2;have U:=(cell_of d 5).2;have eh:x.cell? ⟨w.heap.size,1,none⟩=some (.int .i64 (H:Int)):=by simpa using(cell_of s 1).1
    clear J L M N d s E F C G a1 A;go_wp2_with fail
    refine(B _).mono ?_;rintro e w6 ⟨rfl,V⟩;subst V;clear B;go_upto_region 10 with fail
    generalize (x.setCell ⟨f,4,none⟩ (.int .i64 (l:Int))).setCell ⟨f,5,none⟩ (.int .i64 (m:Int))=y at*;have f0:y.cell? ⟨f,0,none⟩=some (.int .i64 0):=by simpa using(cell_of j.out 0).1
    have f1:y.cell? ⟨f,1,none⟩=some (.int .i64 4):=by simpa using(cell_of j.out 1).1
    have f2:y.cell? ⟨f,2,none⟩=some (.int .i64 4):=by simpa using(cell_of j.out 2).1
    have f3:y.cell? ⟨f,3,none⟩=some (.int .i64 8):=by simpa using(cell_of j.out 3).1
    have f4:y.cell? ⟨f,4,none⟩=some (.int .i64 (l:Int)):=by simpa using(cell_of j.out 4).1
    have f5:y.cell? ⟨f,5,none⟩=some (.int .i64 (m:Int)):=by simpa using(cell_of j.out 5).1
    clear e2 e3 e4 e5 T U eh;by_cases O:0<l
    ·by_cases Q:0<m
     ·have Y:(0:Int)<(l:Int):=by omega
      have i2:(0:Int)<(m:Int):=by omega
      have c:ah (fJ W H 3=fJ W H 2++[lI W H (0,4,4,8)]):=(by rw[g.out,aC ⟨O,Q⟩]:_=_);clear O Q g
      go_wp2_with (first
       |(at_builtin;refine pO rfl _ _ rfl w.heap.size u3 (fJ W H 2).length (dn (fJ W H 2)) 0 4 4 8 (l:Int) (m:Int) n.out rfl rfl (by omega) (jh p.out) ?_;go_must (intro v' w9 k X))
       |fail)
      go_roundw
      case rel=>
       obtain⟨Z,r2⟩:=rX t.out n.out p.out z.out X;have hlen:(fJ W H 3).length=(fJ W H 2).length+1:=by rw[c.out,bQ];rfl
       have P:dn (fJ W H 3)=dn (fJ W H 2)++[.int .i64 0,.int .i64 4,.int .i64 4,.int .i64 8,.int .i64 (l:Int),.int .i64 (m:Int)]:=by rw[c.out,R.out];simp[dn,fD]
       refine⟨3,by omega,by go_num,?_,r2,Z,gB k Z (by decide)⟩;rw[hlen,P];exact k
      case measure=>simp[aX]
     ·have Y:(0:Int)<(l:Int):=by omega
      have i2:¬((0:Int)<(m:Int)):=by omega
      have c:ah (fJ W H 3=fJ W H 2):=(by rw[g.out,au (fun h=>Q h.2)]:_=_);clear O Q g;go_wp2_with fail
      go_roundw
      case rel=>refine⟨3,by omega,by go_num,?_,p.out,t.out,z.out⟩;rw[c.out];exact n.out
      case measure=>simp[aX]
    ·have Y:¬((0:Int)<(l:Int)):=by omega
     have c:ah (fJ W H 3=fJ W H 2):=(by rw[g.out,au (fun h=>O h.1)]:_=_);clear O g;go_wp2_with fail
     go_roundw
     case rel=>refine⟨3,by omega,by go_num,?_,p.out,t.out,z.out⟩;rw[c.out];exact n.out
     case measure=>simp[aX]
   ·have a4:=aaE;have A:=fun w'=>jX W 2 4 w' (by omega) (by omega) (by omega);have B:=fun w'=>jX H 0 4 w' (by omega) (by omega) (by omega);have g:ah _:=rW W H 3 (2,4,0,4) rfl;generalize q:cO W 2 4=l at*;generalize r:cO H 0 4=m at*;have R:ah (lI W H (2,4,0,4)=⟨2,4,0,4,l,m⟩):=(by unfold lI;rw[q,r]:_=_);clear q r;go_wp2_with fail
    refine(A _).mono ?_;rintro e x ⟨rfl,C⟩;obtain⟨d,s,E,F⟩:=xO C a2.out u.out a0.out;obtain⟨f,G⟩:∃b,b=wr.heap.size+1:=⟨_,rfl⟩;rw[<-G]at d|-;have I:w.heap.size<f:=by omega
    have S:u3.ownBlock≠some f:=fun e=>by have:=(iE u.out f e).2;omega
    obtain⟨J,L,M,N⟩:=xP (a:= .int .i64 (l:Int)) (b:= .int .i64 (m:Int)) d s E F I S;have j:ah _:=J;have n:ah _:=M;have p:ah _:=N;have t:ah _:=L;have e2:x.cell? ⟨f,2,none⟩=some (.int .i64 0):=by simpa using(cell_of d 2).1
    have e3:x.cell? ⟨f,3,none⟩=some (.int .i64 4):=by simpa using(cell_of d 3).1
    have e4:x.cell? ⟨f,4,none⟩=some (.int .i64 0):=by simpa using(cell_of d 4).1
    have e5:x.cell? ⟨f,5,none⟩=some (.int .i64 0):=by simpa using(cell_of d 5).1
    have T:=(cell_of d 4).2;have U:=(cell_of d 5).2;have eh:x.cell? ⟨w.heap.size,1,none⟩=some (.int .i64 (H:Int)):=by simpa using(cell_of s 1).1
    clear J L M N d s E F C G a1 A;go_wp2_with fail
    refine(B _).mono ?_;rintro e w6 ⟨rfl,V⟩;subst V;clear B;go_upto_region 10 with fail
    generalize (x.setCell ⟨f,4,none⟩ (.int .i64 (l:Int))).setCell ⟨f,5,none⟩ (.int .i64 (m:Int))=y at*;have f0:y.cell? ⟨f,0,none⟩=some (.int .i64 2):=by simpa using(cell_of j.out 0).1
    have f1:y.cell? ⟨f,1,none⟩=some (.int .i64 4):=by simpa using(cell_of j.out 1).1
    have f2:y.cell? ⟨f,2,none⟩=some (.int .i64 0):=by simpa using(cell_of j.out 2).1
    have f3:y.cell? ⟨f,3,none⟩=some (.int .i64 4):=by simpa using(cell_of j.out 3).1
    have f4:y.cell? ⟨f,4,none⟩=some (.int .i64 (l:Int)):=by simpa using(cell_of j.out 4).1
    have f5:y.cell? ⟨f,5,none⟩=some (.int .i64 (m:Int)):=by simpa using(cell_of j.out 5).1
    clear e2 e3 e4 e5 T U eh;by_cases O:0<l
    ·by_cases Q:0<m
     ·have Y:(0:Int)<(l:Int):=by omega
      have i2:(0:Int)<(m:Int):=by omega
      have c:ah (fJ W H 4=fJ W H 3++[lI W H (2,4,0,4)]):=(by rw[g.out,aC ⟨O,Q⟩]:_=_);clear O Q g
      go_wp2_with (first
       |(at_builtin;refine pO rfl _ _ rfl w.heap.size u3 (fJ W H 3).length (dn (fJ W H 3)) 2 4 0 4 (l:Int) (m:Int) n.out rfl rfl (by omega) (jh p.out) ?_;go_must (intro v' w9 k X))
       |fail)
      go_roundw
      case rel=>
       obtain⟨Z,r2⟩:=rX t.out n.out p.out z.out X;have hlen:(fJ W H 4).length=(fJ W H 3).length+1:=by rw[c.out,bQ];rfl
       have P:dn (fJ W H 4)=dn (fJ W H 3)++[.int .i64 2,.int .i64 4,.int .i64 0,.int .i64 4,.int .i64 (l:Int),.int .i64 (m:Int)]:=by rw[c.out,R.out];simp[dn,fD]
       refine⟨4,by omega,by go_num,?_,r2,Z,gB k Z (by decide)⟩;rw[hlen,P];exact k
      case measure=>simp[aX]
     ·have Y:(0:Int)<(l:Int):=by omega
      have i2:¬((0:Int)<(m:Int)):=by omega
      have c:ah (fJ W H 4=fJ W H 3):=(by rw[g.out,au (fun h=>Q h.2)]:_=_);clear O Q g;go_wp2_with fail
      go_roundw
      case rel=>refine⟨4,by omega,by go_num,?_,p.out,t.out,z.out⟩;rw[c.out];exact n.out
      case measure=>simp[aX]
    ·have Y:¬((0:Int)<(l:Int)):=by omega
     have c:ah (fJ W H 4=fJ W H 3):=(by rw[g.out,au (fun h=>O h.1)]:_=_);clear O g;go_wp2_with fail
     go_roundw
     case rel=>refine⟨4,by omega,by go_num,?_,p.out,t.out,z.out⟩;rw[c.out];exact n.out
     case measure=>simp[aX]
   ·have a4:=aaF;have A:=fun w'=>jX W 0 2 w' (by omega) (by omega) (by omega);have B:=fun w'=>jX H 2 4 w' (by omega) (by omega) (by omega);have g:ah _:=rW W H 4 (0,2,2,4) rfl;generalize q:cO W 0 2=l at*;generalize r:cO H 2 4=m at*;have R:ah (lI W H (0,2,2,4)=⟨0,2,2,4,l,m⟩):=(by unfold lI;rw[q,r]:_=_);clear q r;go_wp2_with fail
    refine(A _).mono ?_;rintro e x ⟨rfl,C⟩;obtain⟨d,s,E,F⟩:=xO C a2.out u.out a0.out;obtain⟨f,G⟩:∃b,b=wr.heap.size+1:=⟨_,rfl⟩;rw[<-G]at d|-;have I:w.heap.size<f:=by omega
    have S:u3.ownBlock≠some f:=fun e=>by have:=(iE u.out f e).2;omega
    obtain⟨J,L,M,N⟩:=xP (a:= .int .i64 (l:Int)) (b:= .int .i64 (m:Int)) d s E F I S;have j:ah _:=J;have n:ah _:=M;have p:ah _:=N;have t:ah _:=L;have e2:x.cell? ⟨f,2,none⟩=some (.int .i64 2):=by simpa using(cell_of d 2).1
    have e3:x.cell? ⟨f,3,none⟩=some (.int .i64 4):=by simpa using(cell_of d 3).1
    have e4:x.cell? ⟨f,4,none⟩=some (.int .i64 0):=by simpa using(cell_of d 4).1
    have e5:x.cell? ⟨f,5,none⟩=some (.int .i64 0):=by simpa using(cell_of d 5).1
    have T:=(cell_of d 4).2;have U:=(cell_of d 5).2;have eh:x.cell? ⟨w.heap.size,1,none⟩=some (.int .i64 (H:Int)):=by simpa using(cell_of s 1).1
    clear J L M N d s E F C G a1 A;go_wp2_with fail
    refine(B _).mono ?_;rintro e w6 ⟨rfl,V⟩;subst V;clear B;go_upto_region 10 with fail
    generalize (x.setCell ⟨f,4,none⟩ (.int .i64 (l:Int))).setCell ⟨f,5,none⟩ (.int .i64 (m:Int))=y at*;have f0:y.cell? ⟨f,0,none⟩=some (.int .i64 0):=by simpa using(cell_of j.out 0).1
    have f1:y.cell? ⟨f,1,none⟩=some (.int .i64 2):=by simpa using(cell_of j.out 1).1
    have f2:y.cell? ⟨f,2,none⟩=some (.int .i64 2):=by simpa using(cell_of j.out 2).1
    have f3:y.cell? ⟨f,3,none⟩=some (.int .i64 4):=by simpa using(cell_of j.out 3).1
    have f4:y.cell? ⟨f,4,none⟩=some (.int .i64 (l:Int)):=by simpa using(cell_of j.out 4).1
    have f5:y.cell? ⟨f,5,none⟩=some (.int .i64 (m:Int)):=by simpa using(cell_of j.out 5).1
    clear e2 e3 e4 e5 T U eh;by_cases O:0<l
    ·by_cases Q:0<m
     ·have Y:(0:Int)<(l:Int):=by omega
      have i2:(0:Int)<(m:Int):=by omega
      have c:ah (fJ W H 5=fJ W H 4++[lI W H (0,2,2,4)]):=(by rw[g.out,aC ⟨O,Q⟩]:_=_);clear O Q g
      go_wp2_with (first
       |(at_builtin;refine pO rfl _ _ rfl w.heap.size u3 (fJ W H 4).length (dn (fJ W H 4)) 0 2 2 4 (l:Int) (m:Int) n.out rfl rfl (by omega) (jh p.out) ?_;go_must (intro v' w9 k X))
       |fail)
      go_roundw
      case rel=>
       obtain⟨Z,r2⟩:=rX t.out n.out p.out z.out X;have hlen:(fJ W H 5).length=(fJ W H 4).length+1:=by rw[c.out,bQ];rfl
       have P:dn (fJ W H 5)=dn (fJ W H 4)++[.int .i64 0,.int .i64 2,.int .i64 2,.int .i64 4,.int .i64 (l:Int),.int .i64 (m:Int)]:=by rw[c.out,R.out];simp[dn,fD]
       refine⟨5,by omega,by go_num,?_,r2,Z,gB k Z (by decide)⟩;rw[hlen,P];exact k
      case measure=>simp[aX]
     ·have Y:(0:Int)<(l:Int):=by omega
      have i2:¬((0:Int)<(m:Int)):=by omega
      have c:ah (fJ W H 5=fJ W H 4):=(by rw[g.out,au (fun h=>Q h.2)]:_=_);clear O Q g;go_wp2_with fail
      go_roundw
      case rel=>refine⟨5,by omega,by go_num,?_,p.out,t.out,z.out⟩;rw[c.out];exact n.out
      case measure=>simp[aX]
    ·have Y:¬((0:Int)<(l:Int)):=by omega
     have c:ah (fJ W H 5=fJ W H 4):=(by rw[g.out,au (fun h=>O h.1)]:_=_);clear O g;go_wp2_with fail
     go_roundw
     case rel=>refine⟨5,by omega,by go_num,?_,p.out,t.out,z.out⟩;rw[c.out];exact n.out
     case measure=>simp[aX]
   ·have a4:=aaG;have A:=fun w'=>jX W 1 2 w' (by omega) (by omega) (by omega);have B:=fun w'=>jX H 0 2 w' (by omega) (by omega) (by omega);have g:ah _:=rW W H 5 (1,2,0,2) rfl;generalize q:cO W 1 2=l at*;generalize r:cO H 0 2=m at*;have R:ah (lI W H (1,2,0,2)=⟨1,2,0,2,l,m⟩):=(by unfold lI;rw[q,r]:_=_);clear q r;go_wp2_with fail
    refine(A _).mono ?_;rintro e x ⟨rfl,C⟩;obtain⟨d,s,E,F⟩:=xO C a2.out u.out a0.out;obtain⟨f,G⟩:∃b,b=wr.heap.size+1:=⟨_,rfl⟩;rw[<-G]at d|-;have I:w.heap.size<f:=by omega
    have S:u3.ownBlock≠some f:=fun e=>by have:=(iE u.out f e).2;omega
    obtain⟨J,L,M,N⟩:=xP (a:= .int .i64 (l:Int)) (b:= .int .i64 (m:Int)) d s E F I S;have j:ah _:=J;have n:ah _:=M;have p:ah _:=N;have t:ah _:=L;have e2:x.cell? ⟨f,2,none⟩=some (.int .i64 0):=by simpa using(cell_of d 2).1
    have e3:x.cell? ⟨f,3,none⟩=some (.int .i64 2):=by simpa using(cell_of d 3).1
    have e4:x.cell? ⟨f,4,none⟩=some (.int .i64 0):=by simpa using(cell_of d 4).1
    have e5:x.cell? ⟨f,5,none⟩=some (.int .i64 0):=by simpa using(cell_of d 5).1
    have T:=(cell_of d 4).2;have U:=(cell_of d 5).2;have eh:x.cell? ⟨w.heap.size,1,none⟩=some (.int .i64 (H:Int)):=by simpa using(cell_of s 1).1
    clear J L M N d s E F C G a1 A;go_wp2_with fail
    refine(B _).mono ?_;rintro e w6 ⟨rfl,V⟩;subst V;clear B;go_upto_region 10 with fail
    generalize (x.setCell ⟨f,4,none⟩ (.int .i64 (l:Int))).setCell ⟨f,5,none⟩ (.int .i64 (m:Int))=y at*;have f0:y.cell? ⟨f,0,none⟩=some (.int .i64 1):=by simpa using(cell_of j.out 0).1
    have f1:y.cell? ⟨f,1,none⟩=some (.int .i64 2):=by simpa using(cell_of j.out 1).1
    have f2:y.cell? ⟨f,2,none⟩=some (.int .i64 0):=by simpa using(cell_of j.out 2).1
    have f3:y.cell? ⟨f,3,none⟩=some (.int .i64 2):=by simpa using(cell_of j.out 3).1
    have f4:y.cell? ⟨f,4,none⟩=some (.int .i64 (l:Int)):=by simpa using(cell_of j.out 4).1
    have f5:y.cell? ⟨f,5,none⟩=some (.int .i64 (m:Int)):=by simpa using(cell_of j.out 5).1
    clear e2 e3 e4 e5 T U eh;by_cases O:0<l
    ·by_cases Q:0<m
     ·have Y:(0:Int)<(l:Int):=by omega
      have i2:(0:Int)<(m:Int):=by omega
      have c:ah (fJ W H 6=fJ W H 5++[lI W H (1,2,0,2)]):=(by rw[g.out,aC ⟨O,Q⟩]:_=_);clear O Q g
      go_wp2_with (first
       |(at_builtin;refine pO rfl _ _ rfl w.heap.size u3 (fJ W H 5).length (dn (fJ W H 5)) 1 2 0 2 (l:Int) (m:Int) n.out rfl rfl (by omega) (jh p.out) ?_;go_must (intro v' w9 k X))
       |fail)
      go_roundw
      case rel=>
       obtain⟨Z,r2⟩:=rX t.out n.out p.out z.out X;have hlen:(fJ W H 6).length=(fJ W H 5).length+1:=by rw[c.out,bQ];rfl
       have P:dn (fJ W H 6)=dn (fJ W H 5)++[.int .i64 1,.int .i64 2,.int .i64 0,.int .i64 2,.int .i64 (l:Int),.int .i64 (m:Int)]:=by rw[c.out,R.out];simp[dn,fD]
       refine⟨6,by omega,by go_num,?_,r2,Z,gB k Z (by decide)⟩;rw[hlen,P];exact k
      case measure=>simp[aX]
     ·have Y:(0:Int)<(l:Int):=by omega
      have i2:¬((0:Int)<(m:Int)):=by omega
      have c:ah (fJ W H 6=fJ W H 5):=(by rw[g.out,au (fun h=>Q h.2)]:_=_);clear O Q g;go_wp2_with fail
      go_roundw
      case rel=>refine⟨6,by omega,by go_num,?_,p.out,t.out,z.out⟩;rw[c.out];exact n.out
      case measure=>simp[aX]
    ·have Y:¬((0:Int)<(l:Int)):=by omega
     have c:ah (fJ W H 6=fJ W H 5):=(by rw[g.out,au (fun h=>O h.1)]:_=_);clear O g;go_wp2_with fail
     go_roundw
     case rel=>refine⟨6,by omega,by go_num,?_,p.out,t.out,z.out⟩;rw[c.out];exact n.out
     case measure=>simp[aX]
   ·have a4:=aaH;have A:=fun w'=>jX W 0 1 w' (by omega) (by omega) (by omega);have B:=fun w'=>jX H 1 2 w' (by omega) (by omega) (by omega);have g:ah _:=rW W H 6 (0,1,1,2) rfl;generalize q:cO W 0 1=l at*;generalize r:cO H 1 2=m at*;have R:ah (lI W H (0,1,1,2)=⟨0,1,1,2,l,m⟩):=(by unfold lI;rw[q,r]:_=_);clear q r;go_wp2_with fail
    refine(A _).mono ?_;rintro e x ⟨rfl,C⟩;obtain⟨d,s,E,F⟩:=xO C a2.out u.out a0.out;obtain⟨f,G⟩:∃b,b=wr.heap.size+1:=⟨_,rfl⟩;rw[<-G]at d|-;have I:w.heap.size<f:=by omega
    have S:u3.ownBlock≠some f:=fun e=>by have:=(iE u.out f e).2;omega
    obtain⟨J,L,M,N⟩:=xP (a:= .int .i64 (l:Int)) (b:= .int .i64 (m:Int)) d s E F I S;have j:ah _:=J;have n:ah _:=M;have p:ah _:=N;have t:ah _:=L;have e2:x.cell? ⟨f,2,none⟩=some (.int .i64 1):=by simpa using(cell_of d 2).1
    have e3:x.cell? ⟨f,3,none⟩=some (.int .i64 2):=by simpa using(cell_of d 3).1
    have e4:x.cell? ⟨f,4,none⟩=some (.int .i64 0):=by simpa using(cell_of d 4).1
    have e5:x.cell? ⟨f,5,none⟩=some (.int .i64 0):=by simpa using(cell_of d 5).1
    have T:=(cell_of d 4).2;have U:=(cell_of d 5).2;have eh:x.cell? ⟨w.heap.size,1,none⟩=some (.int .i64 (H:Int)):=by simpa using(cell_of s 1).1
    clear J L M N d s E F C G a1 A;go_wp2_with fail
    refine(B _).mono ?_;rintro e w6 ⟨rfl,V⟩;subst V;clear B;go_upto_region 10 with fail
    generalize (x.setCell ⟨f,4,none⟩ (.int .i64 (l:Int))).setCell ⟨f,5,none⟩ (.int .i64 (m:Int))=y at*;have f0:y.cell? ⟨f,0,none⟩=some (.int .i64 0):=by simpa using(cell_of j.out 0).1
    have f1:y.cell? ⟨f,1,none⟩=some (.int .i64 1):=by simpa using(cell_of j.out 1).1
    have f2:y.cell? ⟨f,2,none⟩=some (.int .i64 1):=by simpa using(cell_of j.out 2).1
    have f3:y.cell? ⟨f,3,none⟩=some (.int .i64 2):=by simpa using(cell_of j.out 3).1
    have f4:y.cell? ⟨f,4,none⟩=some (.int .i64 (l:Int)):=by simpa using(cell_of j.out 4).1
    have f5:y.cell? ⟨f,5,none⟩=some (.int .i64 (m:Int)):=by simpa using(cell_of j.out 5).1
    clear e2 e3 e4 e5 T U eh;by_cases O:0<l
    ·by_cases Q:0<m
     ·have Y:(0:Int)<(l:Int):=by omega
      have i2:(0:Int)<(m:Int):=by omega
      have c:ah (fJ W H 7=fJ W H 6++[lI W H (0,1,1,2)]):=(by rw[g.out,aC ⟨O,Q⟩]:_=_);clear O Q g
      go_wp2_with (first
       |(at_builtin;refine pO rfl _ _ rfl w.heap.size u3 (fJ W H 6).length (dn (fJ W H 6)) 0 1 1 2 (l:Int) (m:Int) n.out rfl rfl (by omega) (jh p.out) ?_;go_must (intro v' w9 k X))
       |fail)
      go_roundw
      case rel=>
       obtain⟨Z,r2⟩:=rX t.out n.out p.out z.out X;have hlen:(fJ W H 7).length=(fJ W H 6).length+1:=by rw[c.out,bQ];rfl
       have P:dn (fJ W H 7)=dn (fJ W H 6)++[.int .i64 0,.int .i64 1,.int .i64 1,.int .i64 2,.int .i64 (l:Int),.int .i64 (m:Int)]:=by rw[c.out,R.out];simp[dn,fD]
       refine⟨7,by omega,by go_num,?_,r2,Z,gB k Z (by decide)⟩;rw[hlen,P];exact k
      case measure=>simp[aX]
     ·have Y:(0:Int)<(l:Int):=by omega
      have i2:¬((0:Int)<(m:Int)):=by omega
      have c:ah (fJ W H 7=fJ W H 6):=(by rw[g.out,au (fun h=>Q h.2)]:_=_);clear O Q g;go_wp2_with fail
      go_roundw
      case rel=>refine⟨7,by omega,by go_num,?_,p.out,t.out,z.out⟩;rw[c.out];exact n.out
      case measure=>simp[aX]
    ·have Y:¬((0:Int)<(l:Int)):=by omega
     have c:ah (fJ W H 7=fJ W H 6):=(by rw[g.out,au (fun h=>O h.1)]:_=_);clear O g;go_wp2_with fail
     go_roundw
     case rel=>refine⟨7,by omega,by go_num,?_,p.out,t.out,z.out⟩;rw[c.out];exact n.out
     case measure=>simp[aX]
  ·have e:i=7:=by omega
   subst e;have u:ah _:=a3;have a0:ah _:=a6;clear a3 a6 a5 a1 a7;go_wp2_with fail
   go_ret;exact⟨_,rfl,u.out,a0.out⟩
end Pr
namespace Pr
open Go.RowKit Rf Cr
theorem Ue(c:Cn)(s:eU)(g7 g8 b:Nat)(w:af)(g:c.Ok)(h:fK c w s g7 g8)(hp:s.pt=c.ps.length):
 aF prog 191 #[.pointer (some ⟨c.rb,0,none⟩),.int .u8 (b:Int)] w fun e w'=>(∃a,e= .returned (.iface 142 (.pointer (some a))))/\Fr (fun _=>False) w w':=by
 have c1:w.cell? ⟨c.rb,1,none⟩=some c.pv:=by simpa [dN]using(cell_of h.rows 1).1
 have f:w.cell? ⟨c.rb,3,none⟩=some (.int .i64 (s.pt:Int)):=by simpa [dN]using(cell_of h.rows 3).1
 obtain⟨la,cap,d⟩:=nX h.parts;rw[d]at c1;rw[hp]at f;clear h d hp;generalize c.ps.length=n at*;generalize c.rb=rb at*;go_enter func191,ntmps191
 go_wp2_with fail
 go_quiet (fail)
 go_wp2_with fail
 refine(dJ _ _).mono ?_;rintro e w1 ⟨rfl,rfl⟩;go_wp2_with fail
 go_ret;exact⟨⟨_,rfl⟩,((Fr.refl _ w).drewN _).alloc _⟩
theorem fK.cells{c:Cn}{w:af}{s:eU}{g7 g8:Nat}(h:fK c w s g7 g8):w.cell? ⟨c.rb,1,none⟩=some c.pv/\w.cell? ⟨c.rb,3,none⟩=some (.int .i64 (s.pt:Int))/\w.cell? ⟨c.rb,6,none⟩=some (.int .i64 (c.d:Int))/\w.cell? ⟨c.rb,7,none⟩=some (.slice (some ⟨g7,0,none⟩) s.now.length s.now.length)/\w.cell? ⟨c.rb,8,none⟩=some (.slice (some ⟨g8,0,none⟩) s.now.length s.now.length)/\w.cell? ⟨c.rb,9,none⟩=some (.int .i64 (s.at':Int))/\w.cell? ⟨c.rb,10,none⟩=some (.int .u8 (s.f:Int))/\∀i,w.frozen? ⟨c.rb,i,none⟩=false:=
 ⟨by simpa [dN]using(cell_of h.rows 1).1,by simpa [dN]using(cell_of h.rows 3).1,by simpa [dN]using(cell_of h.rows 6).1,by simpa [dN]using(cell_of h.rows 7).1,by simpa [dN]using(cell_of h.rows 8).1,by simpa [dN]using(cell_of h.rows 9).1,by simpa [dN]using(cell_of h.rows 10).1,fun i=>(cell_of h.rows i).2⟩
theorem fK.drewN{c:Cn}{w:af}{s:eU}{g7 g8:Nat}(h:fK c w s g7 g8)(n:Nat):fK c (w.drewN n) s g7 g8:=h.still (Fr.drewN (Fr.refl _ w) n) h.rows h.now h.rq h.len h.ne h.dM rfl h.nb h.ab h.fb
theorem ND(c:Cn)(s:eU)(g7 g8 b:Nat)(w:af)(v:c.Ok)(h:fK c w s g7 g8)(hp:s.pt<c.ps.length)(d:s.at'=0)(m:4<b)(hb:b<=255):
 aF prog 191 #[.pointer (some ⟨c.rb,0,none⟩),.int .u8 (b:Int)] w fun e w'=>(∃a,e= .returned (.iface 142 (.pointer (some a))))/\Fr (fun _=>False) w w':=by
 obtain⟨c1,x,o,p,q,i,j,r⟩:=h.cells;obtain⟨la,cap,f⟩:=nX h.parts;rw[f]at c1;rw[d]at i;have k:=fun nq=>TG c.rb b (w.drewN nq) i hb m;have l:ah _:=k;generalize s.pt=pt at*;clear h f k o p q i j r d;have t:((pt:Int)==(c.ps.length:Int))=false:=by rw[ax];omega
 generalize c.ps.length=n at*;go_enter func191,ntmps191
 go_wp2_with fail
 go_quiet (fail)
 go_wp2_with fail
 refine(l.out _).mono ?_;rintro e w1 ⟨a,rfl,g⟩;have u:ah (Fr (fun _=>False) w w1):=(((Fr.refl (fun _=>False) w).drewN _).trans (Fr.kJ g):Fr _ _ _);clear g l;go_wp2_with fail
 go_ret;exact⟨⟨a,rfl⟩,u.out⟩
theorem Uf(c:Cn)(s:eU)(g7 g8 b:Nat)(w:af)(hc:c.Ok)(h:fK c w s g7 g8)(hp:s.pt<c.ps.length)(i:s.at'=0)(U:b<=4)(hd:c.d<s.now.length)(V:s.now.length<=1000000000):
 aF prog 191 #[.pointer (some ⟨c.rb,0,none⟩),.int .u8 (b:Int)] w fun e w'=>e= .returned .nilIface/\fK c w' {s with f:=b,at':=c.d} g7 g8/\Fr (zf c g7 g8) w w':=by
 obtain⟨c1,M,N,W,X,t,j,O⟩:=h.cells;obtain⟨la,cap,l⟩:=nX h.parts;rw[l]at c1;rw[i]at t;obtain⟨u,v,Y,x,Z,a6,a7,a8,a9,y,z,A,B⟩:=h.apart;have P:=fun nq=>GH c.rb c.d b _ (w.drewN nq) N t j O U;have Q:ah _:=P;have R:ah (∀nq,fK c (((w.drewN nq).setCell ⟨c.rb,10,none⟩ (.int .u8 (b:Int))).setCell ⟨c.rb,9,none⟩ (.int .i64 (c.d:Int))) {s with f:=b,at':=c.d} g7 g8/\Fr (zf c g7 g8) w (((w.drewN nq).setCell ⟨c.rb,10,none⟩ (.int .u8 (b:Int))).setCell ⟨c.rb,9,none⟩ (.int .i64 (c.d:Int)))):=(fun nq=>by
  have S:Fr (zf c g7 g8) w (((w.drewN nq).setCell ⟨c.rb,10,none⟩ (.int .u8 (b:Int))).setCell ⟨c.rb,9,none⟩ (.int .i64 (c.d:Int))):=(Fr.drewN (Fr.refl _ w) nq).trans ((rC.trans rC).mono (fun k e=> .inl e));refine⟨h.still S ?_ ?_ ?_ h.len h.ne ?_ rfl h.nb h.ab (by show b<=255;omega),S⟩
  ·exact(bG (rV (show(w.drewN nq).heap[c.rb]?=_ from h.rows) 10 _) 9 _).trans (by simp[dN])
  ·exact h.now.over ((aB _ _ u.symm).trans (aB _ _ u.symm))
  ·exact h.rq.over ((aB _ _ v.symm).trans (aB _ _ v.symm))
  ·exact((aB _ _ x.symm).trans (aB _ _ x.symm)).trans h.dM:∀nq,_)
 obtain⟨pt,m⟩:∃p,p=s.pt:=⟨_,rfl⟩;rw[<-m]at M hp;clear m;have C:((pt:Int)==(c.ps.length:Int))=false:=by rw[ax];omega
 clear h l P N W X t j O i u v Y x Z a6 a7 a8 a9 y z A B;generalize c.ps.length=n at*;go_enter func191,ntmps191
 go_wp2_with fail
 go_quiet (fail)
 go_wp2_with fail
 refine(Q.out _).mono ?_;rintro e w1 ⟨rfl,o⟩;have hm:=R.out nq;rw[<-o]at hm;obtain⟨a,q⟩:=hm;have D:ah _:=a;have E:ah _:=q;obtain⟨k1,k3,T,F,k8,G,H,kf⟩:=a.cells;have hS:=zK c.rb c.d s.now.length s.now.length c.d g7 w1 T F G (ag _) (by omega) (ag _) hd V;have g:∀nq,aF prog 220 #[.pointer (some ⟨c.rb,6,none⟩)] (w1.drewN nq) fun e w'=>e= .returned (.bool (decide (c.d=s.now.length)))/\∃I,w'=(w1.drewN nq).drewN I:=fun nq=>wo c.rb c.d s.now.length s.now.length (some ⟨g7,0,none⟩) (w1.drewN nq) G F;rw[iW]at hS;have r:decide (c.d=s.now.length)=false:=aS (by omega);rw[r]at g;have J:ah _:=g;clear a q o Q R k1 k3 T F k8 G H kf c1 M g r C;go_wp2_with fail
 refine hS.mono ?_;rintro e w2 ⟨rfl,a0,K⟩;subst K;clear hS;go_wp2_with fail
 refine(J.out _).mono ?_;rintro e w3 ⟨rfl,b0,L⟩;subst L;go_wp2_with fail
 go_ret;exact⟨rfl,fK.drewN D.out _,Fr.drewN E.out _⟩
open h_ (iT uq)
theorem Hr{L:List Nat}(h:∀x∈L,x<=255)(j:Nat):L.getD j 0<=255:=h_.j_ h j
theorem XV{w:af}{g d t:Nat}{L:List Nat}{cap:Nat}(h:jL w g L)(hd:d<=t)(c:t<=L.length):wV w (.slice (some ⟨g,d,none⟩) (t-d) cap) ((L.drop d).take (t-d)):=by
 have a:((L.drop d).take (t-d)).length=t-d:=by rw[jl,iI];omega
 refine⟨g,d,cap,by rw[a],fun j b=> ?_⟩;rw[a]at b;rw[(h.cell (d+j) (by omega)).1];congr 3
 rw[ak,ak,dU b,iZ]
def unV(c:Cn)(s:eU)(b:Nat):Nat:=unB s c.d b
def kZ(c:Cn)(s:eU)(b:Nat):eU:={s with now:=s.now.set s.at' (unV c s b),at':=s.at'+1}
def YV(c:Cn)(s:eU)(b:Nat):List Nat:=((s.now.set s.at' (unV c s b)).drop c.d).take (s.at'+1-c.d)
theorem DX(c:Cn)(s:eU)(t:lC)(g7 g8 b:Nat)(w:af)(f:c.Ok)(h:fK c w (kZ c s b) g7 g8)(j:c.ps[s.pt]?=some t)(l:s.y<t.H)(hd:c.d<=s.at')(v:s.at'<s.now.length)(m:s.now.length<=1000000000):
 aF prog 157 #[.pointer (some ⟨c.vb,0,none⟩),yX t.x t.sx t.y t.sy t.W t.H,.int .i64 (s.y:Int),.slice (some ⟨g7,c.d,none⟩) (s.at'+1-c.d) (s.now.length-c.d)] w fun e w'=>
  (∃g,wX c.P t s.y (YV c s b) s.dM=some g/\e= .returned .nilIface/\iC w' c.gp g/\Fr (fun k=>k=c.gp) w w')\/
  (wX c.P t s.y (YV c s b) s.dM=none/\(∃T a,e= .returned (.iface T (.pointer (some a)))/\jC w' T a)/\Fr (fun k=>k=c.gp) w w'):=by
 have hm:t∈c.ps:=iP j;obtain⟨z,n,A,B,o,p,q,r⟩:=f.prt t hm;have hlen:(YV c s b).length=s.at'+1-c.d:=by unfold YV;rw[jl,iI,jO];omega
 have u:wV w (.slice (some ⟨g7,c.d,none⟩) (s.at'+1-c.d) (s.now.length-c.d)) (YV c s b):=XV h.now (by omega) (by show s.at'+1<=(s.now.set s.at' _).length;rw[jO];omega);have hb:∀x∈YV c s b,x<=255:=fun x hx=>h.nb x (List.mem_of_mem_drop (List.mem_of_mem_take hx));exact aaz w c.ps c.vb c.kb c.base c.W c.H c.D c.K _ c.gp s.y c.I c.ev c.E c.jG c.cv c.C (YV c s b) s.dM t _ h.can h.dM h.pl f.np h.Ho h.cvg f.k f.d f.e f.cl hb u (by rw[hlen];omega) (by rw[hlen];omega) f.w n o p q r (by omega) (fun i hi=>f.fit t hm s.y i l hi)
theorem DY(c:Cn)(s:eU)(g7 g8 b:Nat)(w:af)(k:c.Ok)(h:fK c w s g7 g8)(hb:b<=255)(hd:c.d<=s.at')(l:s.at'<s.now.length)(a:s.now.length<=1000000000):
 aF prog 218 #[.pointer (some ⟨c.rb,6,none⟩),.int .u8 (b:Int)] w fun e w'=>e= .returned .nilIface/\fK c w' (kZ c s b) g7 g8/\Fr (zf c g7 g8) w w':=by
 obtain⟨c1,C,m,n,o,p,g,q⟩:=h.cells;obtain⟨r,D,E,F,G,H,I,J,K,t,u,v,x⟩:=h.apart;have i:=k.bd;have L:=h.len;have y:=h.now.cell (s.at'-c.d) (by omega);have z:=h.rq.cell s.at' (by omega);have A:=h.rq.cell (s.at'-c.d) (by omega);have j:=h.now.cell s.at' (by omega);refine(MZ c.rb c.d s.now.length s.now.length s.now.length s.at' (s.at'-c.d) s.f b g7 g8 _ _ _ _ w m n o p g q i.2.2.2.2.2.2.1 (by omega) l a y.1 z.1 A.1 h.fb hb (Hr h.nb _) (Hr h.ab _) (Hr h.ab _) j.1 j.2 r h.ne.symm).mono ?_;rintro e w' ⟨rfl,nq,rfl⟩;have B:unV c s b<=255:=by have:=oP (b+iT s.f (s.now.getD (s.at'-c.d) 0) (s.rq.getD s.at' 0) (s.rq.getD (s.at'-c.d) 0)) (show 0<256 by omega);show _%256<=255;omega
 have:=h.byte (unV c s b) nq B;exact⟨rfl,this.1,this.2⟩
theorem aaJ(c:Cn)(s:eU)(t:lC)(g7 g8 b:Nat)(w:af)(hc:c.Ok)(h:fK c w s g7 g8)(K:c.ps[s.pt]?=some t)(hy:s.y<t.H)(hb:b<=255)(hd:c.d<=s.at')(hn:s.at'<s.now.length)(B:s.now.length<=1000000000)(d1:s.told<=100000000)(uJ:wX c.P t s.y (YV c s b) s.dM=none):
 aF prog 191 #[.pointer (some ⟨c.rb,0,none⟩),.int .u8 (b:Int)] w fun e w'=>(∃T a,e= .returned (.iface T (.pointer (some a)))/\jC w' T a)/\w'.cell? ⟨c.rb,5,none⟩=some (.int .i64 (s.told:Int))/\Fr (zf c g7 g8) w w':=by
 have hl:=hc.len;have z:s.pt<c.ps.length:=(List.getElem?_eq_some_iff.1 K).1;obtain⟨c1,c3,c6,c7,c8,c9,b0,cf⟩:=h.cells;obtain⟨a1,a2,a3,L,a5,a6,a7,a8,a9,d2,d4,d5,d6⟩:=h.apart;have M:=fun nq=>DY c s g7 g8 b (w.drewN nq) hc (h.drewN nq) hb hd hn B;obtain⟨g,cap,C,b1,b2⟩:=jR h.parts s.pt t K;rw[C]at c1;have N:ah _:=M;have D:ah _:=C;obtain⟨pt,E⟩:∃p,p=s.pt:=⟨_,rfl⟩;rw[<-E]at c3 z;have b3:ah _:=E;clear E M b2 b1 C c6 c7 c8 c9 b0 cf h;have r:((pt:Int)==(c.ps.length:Int))=false:=by rw[ax];omega
 have O:¬pt=c.ps.length:=by omega
 obtain⟨m,F⟩:∃m,m=c.ps.length:=⟨_,rfl⟩;rw[<-F]at r O c1 z hl;have b4:ah _:=F;clear F;go_enter func191,ntmps191
 go_wp2_with fail
 go_quiet (fail)
 go_wp2_with fail
 refine(N.out _).mono ?_;rintro e w1 ⟨rfl,G,Q⟩;have R:ah _:=G;have S:ah (Fr (zf c g7 g8) w w1):=((Fr.drewN (Fr.refl _ w) nq).trans Q:Fr _ _ _);obtain⟨k1,k3,k6,k7,k8,k9,b5,kf⟩:=G.cells;have U:(kZ c s b).now.length=s.now.length:=by show(s.now.set _ _).length=_;rw[jO]
 rw[U]at k7;have hS:=zK c.rb c.d s.now.length s.now.length (s.at'+1) g7 w1 k6 k7 k9 (by omega) (by omega) (ag _) (by omega) B;have tu:0<s.at'+1-c.d:=by omega
 obtain⟨sl,I⟩:∃x,x=s.at'+1-c.d:=⟨_,rfl⟩;have b6:ah _:=I;rw[<-I]at hS tu;clear G Q N k1 k3 k6 k7 k8 k9 b5 kf c1 c3 U r I;go_wp2_with fail
 refine hS.mono ?_;rintro e w2 ⟨rfl,V,J⟩;have o:ah (fK c w2 (kZ c s b) g7 g8):=(by rw[J];exact fK.drewN R.out V:fK _ _ _ _ _);have b7:ah (Fr (zf c g7 g8) w w2):=(by rw[J];exact Fr.drewN S.out V:Fr _ _ _);clear hS J R S;go_wp2_with fail
 have X:=DX c s t g7 g8 b (World.drew w2) hc (fK.drewN o.out 1) K hy hd hn B;have u:=X.mono (fun e w' h=>h.resolve_left (fun⟨p,h1,_⟩=>by rw[uJ]at h1;cases h1));rw[<-b6.out]at u;unfold yX at u;have Y:∀w',fK c w' (kZ c s b) g7 g8->w'.cell? ⟨c.rb,1,none⟩=some (.slice (some ⟨g,0,none⟩) m cap)/\w'.cell? ⟨c.rb,2,none⟩=some (.func (.func 157) #[.pointer (some ⟨c.vb,0,none⟩)] #[])/\w'.cell? ⟨c.rb,3,none⟩=some (.int .i64 (pt:Int))/\w'.cell? ⟨c.rb,4,none⟩=some (.int .i64 (s.y:Int))/\w'.cell? ⟨g,pt*6,none⟩=some (.int .i64 (t.x:Int))/\w'.cell? ⟨g,pt*6+1,none⟩=some (.int .i64 (t.sx:Int))/\w'.cell? ⟨g,pt*6+2,none⟩=some (.int .i64 (t.y:Int))/\w'.cell? ⟨g,pt*6+3,none⟩=some (.int .i64 (t.sy:Int))/\w'.cell? ⟨g,pt*6+4,none⟩=some (.int .i64 (t.W:Int))/\w'.cell? ⟨g,pt*6+5,none⟩=some (.int .i64 (t.H:Int)):=fun w' h=>by
  obtain⟨g',A,n,q,f⟩:=jR h.parts s.pt t K;have e1:g'=g/\A=cap:=by have:=D.out.symm.trans n;simp at this;exact⟨this.1.symm,this.2.symm⟩
  obtain⟨rfl,rfl⟩:=e1;rw[b3.out];have q1:=(cell_of h.rows 1).1;have q2:=(cell_of h.rows 2).1;have q3:=(cell_of h.rows 3).1;have q4:=(cell_of h.rows 4).1;rw[n,<-b4.out]at q1;refine⟨by simpa using q1,by simpa [Qp]using q2,by simpa [kZ]using q3,by simpa [kZ]using q4,?_,?_,?_,?_,?_,?_⟩
  ·simpa [fD]using f 0 (by omega)
  ·simpa [fD]using f 1 (by omega)
  ·simpa [fD]using f 2 (by omega)
  ·simpa [fD]using f 3 (by omega)
  ·simpa [fD]using f 4 (by omega)
  ·simpa [fD]using f 5 (by omega)
 obtain⟨j1,j2,j3,j4,r0,r1,r2,r3,r4,r5⟩:=Y w2 o.out;have l:=ai (fK.rows o.out);obtain⟨i,j⟩:g<w2.heap.size/\g≠c.gp:=by
  have Z:=fK.parts o.out;obtain⟨g',A,n,q,_⟩:=jR Z s.pt t K;have e1:g'=g:=by have:=D.out.symm.trans n;simp at this;exact this.1.symm
  rw[e1]at q;refine⟨q,fun e=>gB Z (fK.dM o.out) (by decide) ?_⟩;rw[D.out,e];rfl
 have b8:ah (∀w':af,(∀k,k<w2.heap.size->k≠c.gp->w'.heap[k]?=w2.heap[k]?)->w'.cell? ⟨c.rb,1,none⟩=some (.slice (some ⟨g,0,none⟩) m cap)/\w'.cell? ⟨c.rb,2,none⟩=some (.func (.func 157) #[.pointer (some ⟨c.vb,0,none⟩)] #[])/\w'.cell? ⟨c.rb,3,none⟩=some (.int .i64 (pt:Int))/\w'.cell? ⟨c.rb,4,none⟩=some (.int .i64 (s.y:Int))/\w'.cell? ⟨g,pt*6,none⟩=some (.int .i64 (t.x:Int))/\w'.cell? ⟨g,pt*6+1,none⟩=some (.int .i64 (t.sx:Int))/\w'.cell? ⟨g,pt*6+2,none⟩=some (.int .i64 (t.y:Int))/\w'.cell? ⟨g,pt*6+3,none⟩=some (.int .i64 (t.sy:Int))/\w'.cell? ⟨g,pt*6+4,none⟩=some (.int .i64 (t.W:Int))/\w'.cell? ⟨g,pt*6+5,none⟩=some (.int .i64 (t.H:Int))):=(fun w' e=>⟨(aV (e _ l L)).trans j1,(aV (e _ l L)).trans j2,(aV (e _ l L)).trans j3,(aV (e _ l L)).trans j4,(aV (e _ i j)).trans r0,(aV (e _ i j)).trans r1,(aV (e _ i j)).trans r2,(aV (e _ i j)).trans r3,(aV (e _ i j)).trans r4,(aV (e _ i j)).trans r5⟩:∀w',_);have b9:ah _:=u;clear X u Y;have d7:(pt:Int)<(m:Int):=by omega
 go_region_held3 (fun w'=>w'.cell? ⟨c.rb,1,none⟩=some (.slice (some ⟨g,0,none⟩) m cap)/\w'.cell? ⟨c.rb,2,none⟩=some (.func (.func 157) #[.pointer (some ⟨c.vb,0,none⟩)] #[])/\w'.cell? ⟨c.rb,3,none⟩=some (.int .i64 (pt:Int))/\w'.cell? ⟨c.rb,4,none⟩=some (.int .i64 (s.y:Int))/\w'.cell? ⟨g,pt*6,none⟩=some (.int .i64 (t.x:Int))/\w'.cell? ⟨g,pt*6+1,none⟩=some (.int .i64 (t.sx:Int))/\w'.cell? ⟨g,pt*6+2,none⟩=some (.int .i64 (t.y:Int))/\w'.cell? ⟨g,pt*6+3,none⟩=some (.int .i64 (t.sy:Int))/\w'.cell? ⟨g,pt*6+4,none⟩=some (.int .i64 (t.W:Int))/\w'.cell? ⟨g,pt*6+5,none⟩=some (.int .i64 (t.H:Int)))
  (first|go_keep|exact b8.out _ (fun k hk r=>v.block k hk r))
  (first
    |(go_at_call 157;refine bz b9.out ?_;rintro e w3 ⟨_,⟨T,a,rfl,a0⟩,v⟩))
 have c4:ah _:=a0;have c5:ah (Fr (zf c g7 g8) w w3):=(Fr.trans (Fr.drewN b7.out 1) (Fr.mono v (fun k e=> .inr (.inl e))):Fr _ _ _);have d0:ah (w3.cell? ⟨c.rb,5,none⟩=some (.int .i64 (s.told:Int))):=((aV (v.block _ l L)).trans (by simpa [kZ]using(cell_of (fK.rows o.out) 5).1):_=_);clear a0 v;go_wp2_with fail
 go_ret;exact⟨⟨T,a,rfl,c4.out⟩,d0.out,c5.out⟩
end Pr
namespace Pr
open Go.RowKit Rf Cr
theorem aaK(c:Cn)(s:eU)(t:lC)(g7 g8 b:Nat)(a:List Nat)(w:af)(hc:c.Ok)(h:fK c w s g7 g8)(Q:c.ps[s.pt]?=some t)(hy:s.y<t.H)(hb:b<=255)(hd:c.d<=s.at')(hn:s.at'<s.now.length)(C:s.now.length<=1000000000)(uJ:wX c.P t s.y (YV c s b) s.dM=some a)(b5:¬s.at'+1=s.now.length):
 aF prog 191 #[.pointer (some ⟨c.rb,0,none⟩),.int .u8 (b:Int)] w fun e w'=>e= .returned .nilIface/\fK c w' {kZ c s b with dM:=a} g7 g8/\Fr (zf c g7 g8) w w':=by
 have hl:=hc.len;have A:s.pt<c.ps.length:=(List.getElem?_eq_some_iff.1 Q).1;obtain⟨c1,c3,c6,c7,c8,c9,b6,cf⟩:=h.cells;obtain⟨a1,a2,a3,a4,a5,a6,a7,a8,a9,e5,e6,e7,e8⟩:=h.apart;have R:=fun nq=>DY c s g7 g8 b (w.drewN nq) hc (h.drewN nq) hb hd hn C;obtain⟨g,cap,D,b7,b8⟩:=jR h.parts s.pt t Q;rw[D]at c1;have S:ah _:=R;have E:ah _:=D;obtain⟨pt,F⟩:∃p,p=s.pt:=⟨_,rfl⟩;rw[<-F]at c3 A;have b9:ah _:=F;clear F R b8 b7 D c6 c7 c8 c9 b6 cf h;have u:((pt:Int)==(c.ps.length:Int))=false:=by rw[ax];omega
 have T:¬pt=c.ps.length:=by omega
 obtain⟨m,G⟩:∃m,m=c.ps.length:=⟨_,rfl⟩;rw[<-G]at u T c1 A hl;have c4:ah _:=G;clear G;go_enter func191,ntmps191
 go_wp2_with fail
 go_quiet (fail)
 go_wp2_with fail
 refine(S.out _).mono ?_;rintro e w1 ⟨rfl,I,U⟩;have V:ah _:=I;have X:ah (Fr (zf c g7 g8) w w1):=((Fr.drewN (Fr.refl _ w) nq).trans U:Fr _ _ _);obtain⟨k1,k3,k6,k7,k8,k9,c5,kf⟩:=I.cells;have Y:(kZ c s b).now.length=s.now.length:=by show(s.now.set _ _).length=_;rw[jO]
 rw[Y]at k7;have hS:=zK c.rb c.d s.now.length s.now.length (s.at'+1) g7 w1 k6 k7 k9 (by omega) (by omega) (ag _) (by omega) C;have tu:0<s.at'+1-c.d:=by omega
 obtain⟨sl,J⟩:∃x,x=s.at'+1-c.d:=⟨_,rfl⟩;have d0:ah _:=J;rw[<-J]at hS tu;clear I U S k1 k3 k6 k7 k8 k9 c5 kf c1 c3 Y u J;go_wp2_with fail
 refine hS.mono ?_;rintro e w2 ⟨rfl,Z,K⟩;have o:ah (fK c w2 (kZ c s b) g7 g8):=(by rw[K];exact fK.drewN V.out Z:fK _ _ _ _ _);have d1:ah (Fr (zf c g7 g8) w w2):=(by rw[K];exact Fr.drewN X.out Z:Fr _ _ _);clear hS K V X;go_wp2_with fail
 have a0:=DX c s t g7 g8 b (World.drew w2) hc (fK.drewN o.out 1) Q hy hd hn C;have v:=a0.mono (fun e w' h=>(h.resolve_right (fun⟨h1,_⟩=>by rw[uJ]at h1;cases h1)));rw[<-d0.out]at v;unfold yX at v;have b0:∀w',fK c w' (kZ c s b) g7 g8->w'.cell? ⟨c.rb,1,none⟩=some (.slice (some ⟨g,0,none⟩) m cap)/\w'.cell? ⟨c.rb,2,none⟩=some (.func (.func 157) #[.pointer (some ⟨c.vb,0,none⟩)] #[])/\w'.cell? ⟨c.rb,3,none⟩=some (.int .i64 (pt:Int))/\w'.cell? ⟨c.rb,4,none⟩=some (.int .i64 (s.y:Int))/\w'.cell? ⟨g,pt*6,none⟩=some (.int .i64 (t.x:Int))/\w'.cell? ⟨g,pt*6+1,none⟩=some (.int .i64 (t.sx:Int))/\w'.cell? ⟨g,pt*6+2,none⟩=some (.int .i64 (t.y:Int))/\w'.cell? ⟨g,pt*6+3,none⟩=some (.int .i64 (t.sy:Int))/\w'.cell? ⟨g,pt*6+4,none⟩=some (.int .i64 (t.W:Int))/\w'.cell? ⟨g,pt*6+5,none⟩=some (.int .i64 (t.H:Int)):=fun w' h=>by
  obtain⟨g',B,l,q,f⟩:=jR h.parts s.pt t Q;have e1:g'=g/\B=cap:=by have:=E.out.symm.trans l;simp at this;exact⟨this.1.symm,this.2.symm⟩
  obtain⟨rfl,rfl⟩:=e1;rw[b9.out];have q1:=(cell_of h.rows 1).1;have q2:=(cell_of h.rows 2).1;have q3:=(cell_of h.rows 3).1;have q4:=(cell_of h.rows 4).1;rw[l,<-c4.out]at q1;refine⟨by simpa using q1,by simpa [Qp]using q2,by simpa [kZ]using q3,by simpa [kZ]using q4,?_,?_,?_,?_,?_,?_⟩
  ·simpa [fD]using f 0 (by omega)
  ·simpa [fD]using f 1 (by omega)
  ·simpa [fD]using f 2 (by omega)
  ·simpa [fD]using f 3 (by omega)
  ·simpa [fD]using f 4 (by omega)
  ·simpa [fD]using f 5 (by omega)
 obtain⟨j1,j2,j3,j4,r0,r1,r2,r3,r4,r5⟩:=b0 w2 o.out;have n:=ai (fK.rows o.out);obtain⟨i,j⟩:g<w2.heap.size/\g≠c.gp:=by
  have b1:=fK.parts o.out;obtain⟨g',B,l,q,_⟩:=jR b1 s.pt t Q;have e1:g'=g:=by have:=E.out.symm.trans l;simp at this;exact this.1.symm
  rw[e1]at q;refine⟨q,fun e=>gB b1 (fK.dM o.out) (by decide) ?_⟩;rw[E.out,e];rfl
 have d2:ah (∀w':af,(∀k,k<w2.heap.size->k≠c.gp->w'.heap[k]?=w2.heap[k]?)->w'.cell? ⟨c.rb,1,none⟩=some (.slice (some ⟨g,0,none⟩) m cap)/\w'.cell? ⟨c.rb,2,none⟩=some (.func (.func 157) #[.pointer (some ⟨c.vb,0,none⟩)] #[])/\w'.cell? ⟨c.rb,3,none⟩=some (.int .i64 (pt:Int))/\w'.cell? ⟨c.rb,4,none⟩=some (.int .i64 (s.y:Int))/\w'.cell? ⟨g,pt*6,none⟩=some (.int .i64 (t.x:Int))/\w'.cell? ⟨g,pt*6+1,none⟩=some (.int .i64 (t.sx:Int))/\w'.cell? ⟨g,pt*6+2,none⟩=some (.int .i64 (t.y:Int))/\w'.cell? ⟨g,pt*6+3,none⟩=some (.int .i64 (t.sy:Int))/\w'.cell? ⟨g,pt*6+4,none⟩=some (.int .i64 (t.W:Int))/\w'.cell? ⟨g,pt*6+5,none⟩=some (.int .i64 (t.H:Int))):=(fun w' e=>⟨(aV (e _ n a4)).trans j1,(aV (e _ n a4)).trans j2,(aV (e _ n a4)).trans j3,(aV (e _ n a4)).trans j4,(aV (e _ i j)).trans r0,(aV (e _ i j)).trans r1,(aV (e _ i j)).trans r2,(aV (e _ i j)).trans r3,(aV (e _ i j)).trans r4,(aV (e _ i j)).trans r5⟩:∀w',_);have d4:ah _:=v;clear a0 v b0;have e9:(pt:Int)<(m:Int):=by omega
 go_region_held3 (fun w'=>w'.cell? ⟨c.rb,1,none⟩=some (.slice (some ⟨g,0,none⟩) m cap)/\w'.cell? ⟨c.rb,2,none⟩=some (.func (.func 157) #[.pointer (some ⟨c.vb,0,none⟩)] #[])/\w'.cell? ⟨c.rb,3,none⟩=some (.int .i64 (pt:Int))/\w'.cell? ⟨c.rb,4,none⟩=some (.int .i64 (s.y:Int))/\w'.cell? ⟨g,pt*6,none⟩=some (.int .i64 (t.x:Int))/\w'.cell? ⟨g,pt*6+1,none⟩=some (.int .i64 (t.sx:Int))/\w'.cell? ⟨g,pt*6+2,none⟩=some (.int .i64 (t.y:Int))/\w'.cell? ⟨g,pt*6+3,none⟩=some (.int .i64 (t.sy:Int))/\w'.cell? ⟨g,pt*6+4,none⟩=some (.int .i64 (t.W:Int))/\w'.cell? ⟨g,pt*6+5,none⟩=some (.int .i64 (t.H:Int)))
  (first|go_keep|exact d2.out _ (fun k hk u=>L.block k hk u))
  (first
    |(go_at_call 157;refine bz d4.out ?_;rintro e w3 ⟨d5,r,rfl,M,L⟩))
 have e2:d5=a:=by rw[uJ]at r;exact(dB r).symm
 have d6:a.length=s.dM.length:=xK _ _ _ _ _ _ uJ;rw[e2]at M;have z:=fK.VS (fK.drewN o.out 1) a d6 M L;have d7:ah (fK c w3 {kZ c s b with dM:=a} g7 g8):=(z.1:fK _ _ _ _ _);have d8:ah (Fr (zf c g7 g8) w w3):=(Fr.trans (Fr.drewN d1.out 1) z.2:Fr _ _ _);obtain⟨u1,u3,u6,u7,u8,u9,d9,uf⟩:=z.1.cells;have b2:({kZ c s b with dM:=a}:eU).now.length=s.now.length:=by show(s.now.set _ _).length=_;rw[jO]
 rw[b2]at u7;have N:=wo c.rb (s.at'+1) s.now.length s.now.length (some ⟨g7,0,none⟩) w3 u9 u7;have b3:decide (s.at'+1=s.now.length)=false:=aS b5;rw[b3]at N;have e0:ah _:=N;clear N b3 z M L r e2 b2 u1 u3 u6 u7 u8 u9 d9 uf j1 j2 j3 j4 r0 r1 r2 r3 r4 r5;go_wp2_with fail
 refine bz e0.out ?_;rintro e w5 ⟨rfl,b4,O⟩;have e3:ah (fK c w5 {kZ c s b with dM:=a} g7 g8):=(by rw[O];exact fK.drewN d7.out b4:fK _ _ _ _ _);have e4:ah (Fr (zf c g7 g8) w w5):=(by rw[O];exact Fr.drewN d8.out b4:Fr _ _ _);clear O;go_wp2_with fail
 go_ret;exact⟨rfl,e3.out,e4.out⟩
theorem ac7(c:Cn)(s:eU)(t:lC)(g7 g8 b:Nat)(a:List Nat)(w:af)(hc:c.Ok)(h:fK c w s g7 g8)(Q:c.ps[s.pt]?=some t)(hy:s.y<t.H)(hb:b<=255)(hd:c.d<=s.at')(hn:s.at'<s.now.length)(C:s.now.length<=1000000000)(uJ:wX c.P t s.y (YV c s b) s.dM=some a)(b8:s.at'+1=s.now.length)(R:af->af->Prop)(hG:∀w2,fK c w2 {kZ c s b with dM:=a} g7 g8->aF prog 221 #[.pointer (some ⟨c.rb,0,none⟩)] w2 fun e w'=>e= .returned (.tuple #[])/\R w2 w'):
 aF prog 191 #[.pointer (some ⟨c.rb,0,none⟩),.int .u8 (b:Int)] w fun e w'=>e= .returned .nilIface/\∃w2,fK c w2 {kZ c s b with dM:=a} g7 g8/\Fr (zf c g7 g8) w w2/\R w2 w':=by
 have HG:ah _:=hG;clear hG;have hl:=hc.len;have A:s.pt<c.ps.length:=(List.getElem?_eq_some_iff.1 Q).1;obtain⟨c1,c3,c6,c7,c8,c9,b9,cf⟩:=h.cells;obtain⟨a1,a2,a3,a4,a5,a6,a7,a8,a9,e7,e8,e9,f0⟩:=h.apart;have S:=fun nq=>DY c s g7 g8 b (w.drewN nq) hc (h.drewN nq) hb hd hn C;obtain⟨g,cap,D,c4,c5⟩:=jR h.parts s.pt t Q;rw[D]at c1;have T:ah _:=S;have E:ah _:=D;obtain⟨pt,F⟩:∃p,p=s.pt:=⟨_,rfl⟩;rw[<-F]at c3 A;have d0:ah _:=F;clear F S c5 c4 D c6 c7 c8 c9 b9 cf h;have u:((pt:Int)==(c.ps.length:Int))=false:=by rw[ax];omega
 have U:¬pt=c.ps.length:=by omega
 obtain⟨m,G⟩:∃m,m=c.ps.length:=⟨_,rfl⟩;rw[<-G]at u U c1 A hl;have d1:ah _:=G;clear G;go_enter func191,ntmps191
 go_wp2_with fail
 go_quiet (fail)
 go_wp2_with fail
 refine(T.out _).mono ?_;rintro e w1 ⟨rfl,I,V⟩;have X:ah _:=I;have Y:ah (Fr (zf c g7 g8) w w1):=((Fr.drewN (Fr.refl _ w) nq).trans V:Fr _ _ _);obtain⟨k1,k3,k6,k7,k8,k9,d2,kf⟩:=I.cells;have Z:(kZ c s b).now.length=s.now.length:=by show(s.now.set _ _).length=_;rw[jO]
 rw[Z]at k7;have hS:=zK c.rb c.d s.now.length s.now.length (s.at'+1) g7 w1 k6 k7 k9 (by omega) (by omega) (ag _) (by omega) C;have tu:0<s.at'+1-c.d:=by omega
 obtain⟨sl,J⟩:∃x,x=s.at'+1-c.d:=⟨_,rfl⟩;have d4:ah _:=J;rw[<-J]at hS tu;clear I V T k1 k3 k6 k7 k8 k9 d2 kf c1 c3 Z u J;go_wp2_with fail
 refine hS.mono ?_;rintro e w2 ⟨rfl,a0,K⟩;have o:ah (fK c w2 (kZ c s b) g7 g8):=(by rw[K];exact fK.drewN X.out a0:fK _ _ _ _ _);have d5:ah (Fr (zf c g7 g8) w w2):=(by rw[K];exact Fr.drewN Y.out a0:Fr _ _ _);clear hS K X Y;go_wp2_with fail
 have b0:=DX c s t g7 g8 b (World.drew w2) hc (fK.drewN o.out 1) Q hy hd hn C;have v:=b0.mono (fun e w' h=>(h.resolve_right (fun⟨h1,_⟩=>by rw[uJ]at h1;cases h1)));rw[<-d4.out]at v;unfold yX at v;have b1:∀w',fK c w' (kZ c s b) g7 g8->w'.cell? ⟨c.rb,1,none⟩=some (.slice (some ⟨g,0,none⟩) m cap)/\w'.cell? ⟨c.rb,2,none⟩=some (.func (.func 157) #[.pointer (some ⟨c.vb,0,none⟩)] #[])/\w'.cell? ⟨c.rb,3,none⟩=some (.int .i64 (pt:Int))/\w'.cell? ⟨c.rb,4,none⟩=some (.int .i64 (s.y:Int))/\w'.cell? ⟨g,pt*6,none⟩=some (.int .i64 (t.x:Int))/\w'.cell? ⟨g,pt*6+1,none⟩=some (.int .i64 (t.sx:Int))/\w'.cell? ⟨g,pt*6+2,none⟩=some (.int .i64 (t.y:Int))/\w'.cell? ⟨g,pt*6+3,none⟩=some (.int .i64 (t.sy:Int))/\w'.cell? ⟨g,pt*6+4,none⟩=some (.int .i64 (t.W:Int))/\w'.cell? ⟨g,pt*6+5,none⟩=some (.int .i64 (t.H:Int)):=fun w' h=>by
  obtain⟨g',B,l,q,f⟩:=jR h.parts s.pt t Q;have e1:g'=g/\B=cap:=by have:=E.out.symm.trans l;simp at this;exact⟨this.1.symm,this.2.symm⟩
  obtain⟨rfl,rfl⟩:=e1;rw[d0.out];have q1:=(cell_of h.rows 1).1;have q2:=(cell_of h.rows 2).1;have q3:=(cell_of h.rows 3).1;have q4:=(cell_of h.rows 4).1;rw[l,<-d1.out]at q1;refine⟨by simpa using q1,by simpa [Qp]using q2,by simpa [kZ]using q3,by simpa [kZ]using q4,?_,?_,?_,?_,?_,?_⟩
  ·simpa [fD]using f 0 (by omega)
  ·simpa [fD]using f 1 (by omega)
  ·simpa [fD]using f 2 (by omega)
  ·simpa [fD]using f 3 (by omega)
  ·simpa [fD]using f 4 (by omega)
  ·simpa [fD]using f 5 (by omega)
 obtain⟨j1,j2,j3,j4,r0,r1,r2,r3,r4,r5⟩:=b1 w2 o.out;have n:=ai (fK.rows o.out);obtain⟨i,j⟩:g<w2.heap.size/\g≠c.gp:=by
  have b2:=fK.parts o.out;obtain⟨g',B,l,q,_⟩:=jR b2 s.pt t Q;have e1:g'=g:=by have:=E.out.symm.trans l;simp at this;exact this.1.symm
  rw[e1]at q;refine⟨q,fun e=>gB b2 (fK.dM o.out) (by decide) ?_⟩;rw[E.out,e];rfl
 have d6:ah (∀w':af,(∀k,k<w2.heap.size->k≠c.gp->w'.heap[k]?=w2.heap[k]?)->w'.cell? ⟨c.rb,1,none⟩=some (.slice (some ⟨g,0,none⟩) m cap)/\w'.cell? ⟨c.rb,2,none⟩=some (.func (.func 157) #[.pointer (some ⟨c.vb,0,none⟩)] #[])/\w'.cell? ⟨c.rb,3,none⟩=some (.int .i64 (pt:Int))/\w'.cell? ⟨c.rb,4,none⟩=some (.int .i64 (s.y:Int))/\w'.cell? ⟨g,pt*6,none⟩=some (.int .i64 (t.x:Int))/\w'.cell? ⟨g,pt*6+1,none⟩=some (.int .i64 (t.sx:Int))/\w'.cell? ⟨g,pt*6+2,none⟩=some (.int .i64 (t.y:Int))/\w'.cell? ⟨g,pt*6+3,none⟩=some (.int .i64 (t.sy:Int))/\w'.cell? ⟨g,pt*6+4,none⟩=some (.int .i64 (t.W:Int))/\w'.cell? ⟨g,pt*6+5,none⟩=some (.int .i64 (t.H:Int))):=(fun w' e=>⟨(aV (e _ n a4)).trans j1,(aV (e _ n a4)).trans j2,(aV (e _ n a4)).trans j3,(aV (e _ n a4)).trans j4,(aV (e _ i j)).trans r0,(aV (e _ i j)).trans r1,(aV (e _ i j)).trans r2,(aV (e _ i j)).trans r3,(aV (e _ i j)).trans r4,(aV (e _ i j)).trans r5⟩:∀w',_);have d7:ah _:=v;clear b0 v b1;have f1:(pt:Int)<(m:Int):=by omega
 go_region_held3 (fun w'=>w'.cell? ⟨c.rb,1,none⟩=some (.slice (some ⟨g,0,none⟩) m cap)/\w'.cell? ⟨c.rb,2,none⟩=some (.func (.func 157) #[.pointer (some ⟨c.vb,0,none⟩)] #[])/\w'.cell? ⟨c.rb,3,none⟩=some (.int .i64 (pt:Int))/\w'.cell? ⟨c.rb,4,none⟩=some (.int .i64 (s.y:Int))/\w'.cell? ⟨g,pt*6,none⟩=some (.int .i64 (t.x:Int))/\w'.cell? ⟨g,pt*6+1,none⟩=some (.int .i64 (t.sx:Int))/\w'.cell? ⟨g,pt*6+2,none⟩=some (.int .i64 (t.y:Int))/\w'.cell? ⟨g,pt*6+3,none⟩=some (.int .i64 (t.sy:Int))/\w'.cell? ⟨g,pt*6+4,none⟩=some (.int .i64 (t.W:Int))/\w'.cell? ⟨g,pt*6+5,none⟩=some (.int .i64 (t.H:Int)))
  (first|go_keep|exact d6.out _ (fun k hk u=>L.block k hk u))
  (first
    |(go_at_call 157;refine bz d7.out ?_;rintro e w3 ⟨d8,r,rfl,M,L⟩))
 have e2:d8=a:=by rw[uJ]at r;exact(dB r).symm
 have d9:a.length=s.dM.length:=xK _ _ _ _ _ _ uJ;rw[e2]at M;have z:=fK.VS (fK.drewN o.out 1) a d9 M L;have e0:ah (fK c w3 {kZ c s b with dM:=a} g7 g8):=(z.1:fK _ _ _ _ _);have e3:ah (Fr (zf c g7 g8) w w3):=(Fr.trans (Fr.drewN d5.out 1) z.2:Fr _ _ _);obtain⟨u1,u3,u6,u7,u8,u9,e4,uf⟩:=z.1.cells;have b3:({kZ c s b with dM:=a}:eU).now.length=s.now.length:=by show(s.now.set _ _).length=_;rw[jO]
 rw[b3]at u7;have N:=wo c.rb (s.at'+1) s.now.length s.now.length (some ⟨g7,0,none⟩) w3 u9 u7;have b4:decide (s.at'+1=s.now.length)=true:=aZ b8;rw[b4]at N;have e5:ah _:=N;clear N b4 z M L r e2 b3 u1 u3 u6 u7 u8 u9 e4 uf j1 j2 j3 j4 r0 r1 r2 r3 r4 r5;go_wp2_with fail
 refine bz e5.out ?_;rintro e w5 ⟨rfl,b5,O⟩;have b6:ah (fK c w5 {kZ c s b with dM:=a} g7 g8):=(by rw[O];exact fK.drewN e0.out b5:fK _ _ _ _ _);have e6:ah (Fr (zf c g7 g8) w w5):=(by rw[O];exact Fr.drewN e3.out b5:Fr _ _ _);clear O;have b7:ah _:=HG.out w5 b6.out;clear HG;go_wp2_with fail
 refine bz b7.out ?_;rintro e w6 ⟨rfl,hR⟩;have HR:ah _:=hR;clear hR b7;go_wp2_with fail
 go_ret;exact⟨rfl,w5,b6.out,e6.out,HR.out⟩
theorem aaL(c:Cn)(s:eU)(t:lC)(g7 g8:Nat)(w:af)(l:c.Ok)(h:fK c w s g7 g8)(m:c.ps[s.pt]?=some t)(n:s.y+1<t.H)(j:s.told<=100000000):
 aF prog 221 #[.pointer (some ⟨c.rb,0,none⟩)] w fun e w'=>e= .returned (.tuple #[])/\∃a b,fK c w' (lH c.P t s) a b/\Fr (zf c g7 g8) w w'/\(∀k,k=a\/k=b->k=g7\/k=g8\/w.heap.size<=k):=by
 obtain⟨C,D,E,p,F,G,I,J⟩:=l.prt t (iP m);obtain⟨q,r,K,u,L,M,N,O,Q,v,x,z,A⟩:=h.apart;refine(XP c.rb c.bits s.pt s.y s.told c.d s.at' s.f c.base s.now.length g7 g8 c.pv (Qp c.vb) c.ps t w h.rows h.parts m l.len n p j).mono ?_;rintro e w' ⟨rfl,B,g⟩;have o:Fr (zf c g7 g8) w w':=g.mono (fun k e=> .inl e);have e:lH c.P t s={s with told:=s.told+1,y:=s.y+1,now:=s.rq,rq:=s.now,at':=0}:=by unfold lH;rw[aC n]
 rw[e];refine⟨rfl,g8,g7,h.still o ?_ (h.rq.over (g.block _ (ai h.rq) r.symm)) (h.now.over (g.block _ (ai h.now) q.symm)) h.len.symm h.ne.symm ((g.block _ (ai h.dM) u.symm).trans h.dM) rfl h.ab h.nb h.fb,o,fun k i=>by rcases i with i|i<;>simp[i]⟩;rw[B];show some (dN _ _ _ _ _ _ _ _ _ _ _)=some (dN _ _ _ _ _ _ _ (.slice _ s.rq.length s.rq.length) (.slice _ s.rq.length s.rq.length) _ _);rw[h.len]
theorem XW(n:y_)(c:Cn)(s:eU)(t:lC)(g7 g8:Nat)(w:af)(j:c.Ok)(h:fK c w s g7 g8)(v:c.ps[s.pt]?=some t)(I:s.y<t.H)(z:¬s.y+1<t.H)(o:s.told<=100000000):
 aF prog 221 #[.pointer (some ⟨c.rb,0,none⟩)] w fun e w'=>e= .returned (.tuple #[])/\∃p q,fK c w' (lH c.P t s) p q/\Fr (zf c g7 g8) w w'/\(∀k,k=p\/k=q->k=g7\/k=g8\/w.heap.size<=k):=by
 obtain⟨Z,p2,p3,D,p5,p6,p7,p8⟩:=j.prt t (iP v);obtain⟨J,K,a3,E,a5,a6,a7,a8,a9,L,M,N,O⟩:=h.apart;have F:s.pt<c.ps.length:=(List.getElem?_eq_some_iff.1 v).1;have A:=j.bd;have G:lH c.P t s=tq c.P {s with told:=s.told+1,pt:=s.pt+1,y:=0}:=by unfold lH;rw[au z]
 have a:∀w2,Fr (fun k=>k=c.rb) w w2->w2.ownsRow c.base 301 6 c.pv c.ps.length (dn c.ps):=fun w2 l=>iM h.parts (fun k b=>l.block k (h.parts.lt k b).2 (fun e=>gB h.parts h.rows (by decide) (e▸b)));cases r:c.ps[s.pt+1]? with
 |none=>
  have Q:s.pt+1=c.ps.length:=by have:=List.getElem?_eq_none_iff.1 r;omega
  have B:lH c.P t s={s with told:=s.told+1,pt:=s.pt+1,y:=0}:=by rw[G];unfold tq;have:c.P.parts[s.pt+1]?=none:=r;dsimp only;rw[this]
  refine(Qo c.rb c.bits s.pt s.y s.told c.d s.at' s.f c.base c.pv (Qp c.vb) _ _ c.ps t w h.rows h.parts v j.len z D (by omega) o (fun w2 w'=> ∃nq,w'=w2.drewN nq) (fun w2 m g=>Jq c.rb c.bits (s.pt+1) 0 (s.told+1) c.d s.at' s.f c.base c.pv (Qp c.vb) _ _ c.ps w2 m (a w2 g) Q j.len)).mono ?_;rintro e w' ⟨rfl,w2,m,g,nq,rfl⟩;have l:Fr (zf c g7 g8) w (w2.drewN nq):=(g.mono (fun k e=> .inl e)).drewN nq;rw[B];exact⟨rfl,g7,g8,h.still l m (h.now.over (g.block _ (ai h.now) J.symm)) (h.rq.over (g.block _ (ai h.rq) K.symm)) h.len h.ne ((g.block _ (ai h.dM) E.symm).trans h.dM) rfl h.nb h.ab h.fb,l,fun k b=>by rcases b with b|b<;>simp[b]⟩
 |some i=>
  have C:i∈c.ps:=iP r;have B:lH c.P t s={s with told:=s.told+1,pt:=s.pt+1,y:=0,now:=List.replicate (c.d+bY c.bits i.W) 0,rq:=List.replicate (c.d+bY c.bits i.W) 0,at':=0,f:=0}:=by rw[G];unfold tq;have:c.P.parts[s.pt+1]?=some i:=r;dsimp only;rw[this];rfl
  refine(Qo c.rb c.bits s.pt s.y s.told c.d s.at' s.f c.base c.pv (Qp c.vb) _ _ c.ps t w h.rows h.parts v j.len z D (by omega) o _ (fun w2 m g=>n c.rb c.bits (s.pt+1) 0 (s.told+1) c.d s.at' s.f c.base c.pv (Qp c.vb) _ _ c.ps i w2 m (a w2 g) r j.len A.2.2.2.2.2.1 (j.prt i C).2.1)).mono ?_;rintro e w' ⟨rfl,w2,m,g,R,u8,S,x2,x3,T,U,V,X⟩;have u:Fr (fun k=>k=c.rb) w w':=g.trans X;have l:Fr (zf c g7 g8) w w':=u.mono (fun k e=> .inl e);have Y:=g.size;rw[B];refine⟨rfl,R,u8,h.still l ?_ U V rfl S ((u.block _ (ai h.dM) E.symm).trans h.dM) rfl (fun x hx=>by have:=(List.mem_replicate.1 hx).2;omega) (fun x hx=>by have:=(List.mem_replicate.1 hx).2;omega) (by show 0<=255;omega),l,fun k b=>by rcases b with b|b<;>omega⟩;rw[T];show some (dN _ _ _ _ _ _ _ _ _ _ _)=some (dN _ _ _ _ _ _ _ (.slice _ (List.replicate (c.d+bY c.bits i.W) 0).length (List.replicate (c.d+bY c.bits i.W) 0).length) (.slice _ (List.replicate (c.d+bY c.bits i.W) 0).length (List.replicate (c.d+bY c.bits i.W) 0).length) _ _);rw[mJ]
def afG(c:Cn)(s:eU)(g7 g8 b:Nat)(w:af)(e:Ending)(w':af):Prop:=
 (∃g d f,uk c.P s b=some g/\e= .returned .nilIface/\fK c w' g d f/\EL c g/\g.told<=s.told+1/\Fr (zf c g7 g8) w w'/\(∀k,k=d\/k=f->k=g7\/k=g8\/w.heap.size<=k))\/
 (uk c.P s b=none/\(∃T a,e= .returned (.iface T (.pointer (some a)))/\jC w' T a)/\w'.cell? ⟨c.rb,5,none⟩=some (.int .i64 (s.told:Int))/\Fr (zf c g7 g8) w w')
theorem Ug(P:wW)(t:lC)(s:eU):(lH P t s).told=s.told+1:=by
 unfold lH;split
 ·rfl
 ·unfold tq;split<;>rfl
theorem Uh(c:Cn)(l:c.Ok)(t:lC)(s:eU)(h:c.ps[s.pt]?=some t)(m:s.now.length=c.d+bY c.bits t.W)(n:s.rq.length=s.now.length):EL c (lH c.P t s):=by
 have i:s.pt<c.ps.length:=(List.getElem?_eq_some_iff.1 h).1;unfold lH;split
 ·next j=>
  refine⟨by show s.pt<=_;omega,fun b a=> ?_⟩;have e:b=t:=by have:c.ps[s.pt]?=some b:=a;rw[h]at this;exact(dB this).symm
  subst e;exact⟨j,n.trans m,.inl rfl⟩
 ·next j=>
  unfold tq;dsimp only;cases hx:c.P.parts[s.pt+1]? with
  |none=>dsimp only;refine⟨by show s.pt+1<=_;omega,fun b a=> ?_⟩;have g:c.ps[s.pt+1]?=some b:=a;have f:c.ps[s.pt+1]?=none:=hx;rw[g]at f;cases f
  |some k=>
   dsimp only;refine⟨by show s.pt+1<=_;omega,fun b a=> ?_⟩;have g:c.ps[s.pt+1]?=some b:=a;have f:c.ps[s.pt+1]?=some k:=hx;have o:b=k:=by rw[g]at f;exact dB f
   subst o;have:=l.prt b (iP g);exact⟨by show 0<b.H;omega,by show(List.replicate _ 0).length=_;rw[mJ];rfl,.inl rfl⟩
theorem Ui(F:y_)(c:Cn)(s:eU)(g7 g8 b:Nat)(w:af)(m:c.Ok)(h:fK c w s g7 g8)(hp:EL c s)(hb:b<=255)(A:s.told<=100000000):
 aF prog 191 #[.pointer (some ⟨c.rb,0,none⟩),.int .u8 (b:Int)] w (afG c s g7 g8 b w):=by
 have G:=m.bd;have Q:=ai h.rows;have ct:w.cell? ⟨c.rb,5,none⟩=some (.int .i64 (s.told:Int)):=by simpa [dN]using(cell_of h.rows 5).1
 have v:∀w',Fr (fun _=>False) w w'->w'.cell? ⟨c.rb,5,none⟩=some (.int .i64 (s.told:Int))/\Fr (zf c g7 g8) w w':=fun w' l=>⟨(aV (l.block _ Q (fun x=>x))).trans ct,l.mono (fun k e=>e.elim)⟩;cases i:c.ps[s.pt]? with
 |none=>
  have hl:s.pt=c.ps.length:=by have:=List.getElem?_eq_none_iff.1 i;have:=hp.pt;omega
  have e:uk c.P s b=none:=by unfold uk;rw[show c.P.parts[s.pt]?=none from i]
  refine(Ue c s g7 g8 b w m h hl).mono ?_;rintro I w' ⟨⟨a,rfl⟩,l⟩;exact .inr ⟨e,⟨_,a,rfl,jC.mk _ _⟩,v w' l⟩
 |some t=>
  have z:s.pt<c.ps.length:=(List.getElem?_eq_some_iff.1 i).1;obtain⟨E,B,j⟩:=hp.row t i;have J:=m.prt t (iP i);have a0:1<=bY c.bits t.W:=by have:1<=t.W*c.bits:=bT J.1 G.2.2.2.2.1;unfold bY;omega
  have a1:bY c.bits t.W<=100000000:=by have:t.W*c.bits<=1048576*64:=bT J.2.1 G.2.2.2.2.2.1;unfold bY;omega
  have R:c.P.parts[s.pt]?=some t:=i;rcases j with j|⟨hd,C⟩
  ·by_cases S:4<b
   ·have e:uk c.P s b=none:=by unfold uk;rw[R];dsimp only;rw[aC j,aC S]
    refine(ND c s g7 g8 b w m h z j S hb).mono ?_;rintro I w' ⟨⟨a,rfl⟩,l⟩;exact .inr ⟨e,⟨_,a,rfl,jC.mk _ _⟩,v w' l⟩
   ·have e:uk c.P s b=some {s with f:=b,at':=c.d}:=by unfold uk;rw[R];dsimp only;rw[aC j,au S];rfl
    refine(Uf c s g7 g8 b w m h z j (by omega) (by omega) (by omega)).mono ?_;rintro I w' ⟨rfl,hm,l⟩;refine .inl ⟨_,g7,g8,e,rfl,hm,⟨hp.pt,fun K D=> ?_⟩,by show s.told<=_;omega,l,fun k n=>by rcases n with n|n<;>simp[n]⟩;have U:K=t:=by have:c.ps[s.pt]?=some K:=D;rw[i]at this;exact(dB this).symm
    subst U;exact⟨E,B,.inr ⟨ag _,by show c.d<s.now.length;omega⟩⟩
  ·have L:¬s.at'=0:=by omega
   have e:uk c.P s b=(wX c.P t s.y (YV c s b) s.dM).map fun g=>if s.at'+1=s.now.length then lH c.P t {kZ c s b with dM:=g}else {kZ c s b with dM:=g}:=by unfold uk;rw[R];dsimp only;rw[au L];rfl
   cases o:wX c.P t s.y (YV c s b) s.dM with
   |none=>rw[o]at e;refine(aaJ c s t g7 g8 b w m h i E hb hd C (by omega) A o).mono ?_;rintro I w' ⟨⟨T,a,rfl,V⟩,X,l⟩;exact .inr ⟨e,⟨T,a,rfl,V⟩,X,l⟩
   |some g=>
    rw[o]at e;have e:=e;rw[nY]at e;by_cases p:s.at'+1=s.now.length
    ·rw[aC p]at e;have hG:∀w2,fK c w2 {kZ c s b with dM:=g} g7 g8->aF prog 221 #[.pointer (some ⟨c.rb,0,none⟩)] w2 fun e w'=>e= .returned (.tuple #[])/\∃q r,fK c w' (lH c.P t {kZ c s b with dM:=g}) q r/\Fr (zf c g7 g8) w2 w'/\(∀k,k=q\/k=r->k=g7\/k=g8\/w2.heap.size<=k):=fun w2 u=>by
      by_cases M:s.y+1<t.H
      ·exact aaL c _ t g7 g8 w2 m u i M A
      ·exact XW F c _ t g7 g8 w2 m u i E M A
     refine(ac7 c s t g7 g8 b g w m h i E hb hd C (by omega) o p _ hG).mono ?_;rintro I w' ⟨rfl,w2,u,N,q,r,Y,Z,O⟩;refine .inl ⟨_,q,r,e,rfl,Y,Uh c m t _ i ?_ u.len,by rw[Ug];exact ag _,N.trans Z,fun k n=> ?_⟩
     ·show(s.now.set _ _).length=_;rw[jO];exact B
     ·have:=O k n;have:=N.size;omega
    ·rw[au p]at e;refine(aaK c s t g7 g8 b g w m h i E hb hd C (by omega) o p).mono ?_;rintro I w' ⟨rfl,hm,l⟩;refine .inl ⟨_,g7,g8,e,rfl,hm,⟨hp.pt,fun K D=> ?_⟩,by show s.told<=_;omega,l,fun k n=>by rcases n with n|n<;>simp[n]⟩;have U:K=t:=by
      have:c.ps[s.pt]?=some K:=D;rw[i]at this;exact(dB this).symm
     subst U;refine⟨E,?_,.inr ⟨by show c.d<=s.at'+1;omega,?_⟩⟩
     ·show(s.now.set _ _).length=_;rw[jO];exact B
     ·show s.at'+1<(s.now.set _ _).length;rw[jO];omega
theorem ac8(f:y_)(c:Cn)(s:eU)(g7 g8 b:Nat)(w:af)(z:c.Ok)(h:fK c w s g7 g8)(hp:EL c s)(hb:b<=255)(m:s.told<=100000000):
 aF prog 161 #[.pointer (some ⟨c.rb,0,none⟩),.int .u8 (b:Int)] w fun e w'=>
  (∃d g i,uk c.P s b=some d/\e= .returned .nilIface/\fK c w' d g i/\EL c d/\d.told<=s.told+1/\Fr (zf c g7 g8) w w'/\(∀k,k=g\/k=i->k=g7\/k=g8\/w.heap.size<=k))\/
  (uk c.P s b=none/\(∃T a,e= .returned (.iface T (.pointer (some a)))/\jC w' T a)/\Fr (zf c g7 g8) w w'):=by
 have u:=Ui f c s g7 g8 b w z h hp hb m;have n:ah _:=u;obtain⟨o,p⟩:∃o,o=uk c.P s b:=⟨_,rfl⟩;rw[<-p];have v:ah _:=p;clear u p h hp;go_enter func161,ntmps161
 go_wp2_with fail
 refine bz n.out ?_;rintro e w1 (⟨d,A,u8,hs,rfl,hm,hp,x,j,y⟩|⟨hs,⟨T,a,rfl,l⟩,B,j⟩)
 ·have q:ah (o=some d):=(by rw[v.out];exact hs:_=_);have C:ah _:=hm;have D:ah _:=hp;have r:ah _:=j;have E:ah _:=y;have F:ah _:=x;clear hm hp j y x n hs;go_wp2_with fail
  go_ret;exact .inl ⟨d,A,u8,q.out,rfl,C.out,D.out,F.out,r.out,E.out⟩
 ·have q:ah (o=none):=(by rw[v.out];exact hs:_=_);have t:ah _:=l;have r:ah _:=j;clear l j n hs;go_wp2_with fail
  refine(at_one _ _ _ _ _).mono ?_;rintro e w2 ⟨rfl,rfl⟩;go_wp2_with fail
  go_ret;exact .inr ⟨q.out,⟨_,_,rfl,jC.xN t.out _ _ _ rfl⟩,Fr.alloc r.out _⟩
def cnF(c:Cn)(g7 g8 k:Nat):Prop:=zf c g7 g8 k\/k=c.vb\/k=c.kb\/c.ev.ownBlock=some k\/c.cv.ownBlock=some k\/c.pv.ownBlock=some k
def qP(out:List UInt8):List Nat:=out.map UInt8.toNat
def rwK(c:Cn)(a:eU)(w:af)(out:List UInt8)(F:Nat->Prop):Prop:=∃s g7 g8,n_ c.P (qP out) a=some s/\fK c w s g7 g8/\EL c s/\s.told<=out.length/\F=cnF c g7 g8
def aaQ(c:Cn)(a:eU)(p:List UInt8):Prop:=n_ c.P (qP p) a=none
theorem fK.lt{c:Cn}{w:af}{s:eU}{g7 g8:Nat}(h:fK c w s g7 g8)(k:Nat)(a:cnF c g7 g8 k):k<w.heap.size:=by
 rcases a with(rfl|rfl|rfl|rfl)|rfl|rfl|a|a|a
 ·exact ai h.rows
 ·exact ai h.dM
 ·exact ai h.now
 ·exact ai h.rq
 ·exact ai h.can
 ·exact ai h.Ho.nN
 ·exact(h.Ho.nP.lt k a).2
 ·exact(h.Ho.Bq.lt k a).2
 ·exact(h.parts.lt k a).2
theorem fK.over{c:Cn}{w w':af}{s:eU}{g7 g8:Nat}(h:fK c w s g7 g8)(e:∀k,cnF c g7 g8 k->w'.heap[k]?=w.heap[k]?):fK c w' s g7 g8:=by
 refine⟨(e _ (.inl (.inl rfl))).trans h.rows,h.now.over (e _ (.inl (.inr (.inr (.inl rfl))))),h.rq.over (e _ (.inl (.inr (.inr (.inr rfl))))),h.len,h.ne,(e _ (.inr (.inl rfl))).trans h.can,(e _ (.inl (.inr (.inl rfl)))).trans h.dM,h.pl,?_,?_,h.cvg,h.nb,h.ab,h.fb⟩
 ·exact iM h.parts (fun k a=>e k (.inr (.inr (.inr (.inr (.inr a))))))
 ·refine h.Ho.over (fun k a=> ?_);rcases a with rfl|a|a
  ·exact e _ (.inr (.inr (.inl rfl)))
  ·exact e k (.inr (.inr (.inr (.inl a))))
  ·exact e k (.inr (.inr (.inr (.inr (.inl a)))))
theorem D_{w:af}{base:Nat}{S:aY}{z:Nat}{v:ay}{n:Nat}{xs:List ay}(h:w.ownsRow base S z v n xs)(hS:yg S=true){k:Nat}{cur:Array ay}{T:aY}{f:Nat×Nat}(b:v.ownBlock=some k)(e:w.heap[k]?=some (Obj.cells cur T f)):yg T=true:=by
 by_cases a:T=S
 ·subst a;exact hS
 ·exact absurd b (gB h e a)
theorem uy{w:af}{k:Nat}{cur a:Array ay}{T S:aY}{f b:Nat×Nat}(h:w.heap[k]?=some (Obj.cells a S b))(hS:yg S=true)(e:w.heap[k]?=some (Obj.cells cur T f)):yg T=true:=by rw[h]at e;simp at e;rw[<-e.2.1];exact hS
theorem fK.busy{c:Cn}{w:af}{s:eU}{g7 g8:Nat}(h:fK c w s g7 g8)(k:Nat)(cur:Array ay)(T:aY)(f:Nat×Nat)(a:cnF c g7 g8 k)(e:w.heap[k]?=some (Obj.cells cur T f)):yg T=true:=by
 rcases a with(rfl|rfl|rfl|rfl)|rfl|rfl|a|a|a
 ·exact uy h.rows (by decide) e
 ·exact uy h.dM (by decide) e
 ·exact uy h.now (by decide) e
 ·exact uy h.rq (by decide) e
 ·exact uy h.can (by decide) e
 ·exact uy h.Ho.nN (by decide) e
 ·exact D_ h.Ho.nP (by decide) a e
 ·exact D_ h.Ho.Bq (by decide) a e
 ·exact D_ h.parts (by decide) a e
theorem Le(P:wW)(out:List UInt8)(x:UInt8)(a:eU):n_ P (qP (out++[x])) a=(n_ P (qP out) a).bind fun s=>uk P s x.toNat:=by
 unfold qP;rw[List.map_append,qg];congr 1
 funext s
 show(uk P s x.toNat).bind (n_ P [])=_;cases uk P s x.toNat<;>rfl
theorem ada(d:y_)(c:Cn)(j:eU)(base:Nat)(r:c.Ok):(mI c.rb 161 (rwK c j) (aaQ c j)).Ok base where
 lt:=by rintro w out F ⟨s,g7,g8,_,h,_,_,rfl⟩ k b;exact h.lt k b
 iJ:=by rintro w w' out F ⟨s,g7,g8,g,h,i,h3,rfl⟩ e hs;exact⟨s,g7,g8,g,h.over (fun k b=>e k (.inl b)),i,h3,rfl⟩
 busy:=by rintro w out F ⟨s,g7,g8,g,h,i,h3,rfl⟩ k cur T f b e;exact h.busy k cur T f b e
 body:=fun args w=>qI func161 (by kernel_rfl) (by kernel_rfl) args w
 call:=by
  rintro w out F x ⟨s,g7,g8,g,h,i,h3,rfl⟩ v _ _;have hx:x.toNat<=255:=by have:=x.toNat_lt;omega
  refine(ac8 d c s g7 g8 x.toNat w r h i hx (by omega)).mono ?_;rintro e w' (⟨t,l,m,n,rfl,o,p,y,u,q⟩|⟨n,⟨T,a,rfl,o⟩,p⟩)
  ·refine .inl ⟨rfl,_,⟨t,l,m,?_,o,p,by rw[bQ,kD];omega,rfl⟩,u.mono (fun k e=> .inl e),fun k b=> ?_⟩
   ·rw[Le,g];exact n
   ·rcases b with(b|b|b|b)|b
    ·exact .inl (.inl (.inl b))
    ·exact .inl (.inl (.inr (.inl b)))
    ·rcases q k (.inl b)with e|e|e
     ·exact .inl (.inl (.inr (.inr (.inl e))))
     ·exact .inl (.inl (.inr (.inr (.inr e))))
     ·exact .inr e
    ·rcases q k (.inr b)with e|e|e
     ·exact .inl (.inl (.inr (.inr (.inl e))))
     ·exact .inl (.inl (.inr (.inr (.inr e))))
     ·exact .inr e
    ·exact .inl (.inr b)
  ·refine .inr ⟨T,a,rfl,o,?_,p.mono (fun k e=> .inl e)⟩;show n_ c.P (qP (out++[x])) j=none;rw[Le,g];exact n
end Pr
end Go.Proofs.YtephkcdbnogdhaaGreatDoor
