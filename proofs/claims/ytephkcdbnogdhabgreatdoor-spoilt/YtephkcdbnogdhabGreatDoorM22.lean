import Derived.Test.YtephkcdbnogdhabGreatDoorM11
import Derived.Test.YtephkcdbnogdhabGreatDoorM18
set_option linter.unusedVariables false
set_option maxHeartbeats 40000000
set_option maxRecDepth 10000
namespace Go.Proofs.YtephkcdbnogdhabGreatDoor
open Go.Proofs.Tryz
open Go renaming World->af,Value->ay,Calls->aH,TypeId->aW,Addr->bG
open Go.RowKit renaming Hid->au,Below->aA,intOf->bH
namespace Pr
open Go.RowKit Rf Cr
open gI (iD qx)
structure Cn where
 rb:Nat
 vb:Nat
 kb:Nat
 gp:Nat
 base:Nat
 W:Nat
 H:Nat
 D:Nat
 K:Nat
 I:Bool
 ev:ay
 cv:ay
 pv:ay
 E:List (Nat×Nat×Nat×Nat)
 iW:Bool
 C:List Nat
 ps:List jX
abbrev Cn.bits(c:Cn):Nat:=c.D*aT c.K
abbrev Cn.d(c:Cn):Nat:=aJ c.bits
def Cn.P(c:Cn):xU:=⟨c.ps,c.bits,c.W,J_ c.K c.D c.E c.C⟩
def Nu(vb:Nat):ay:= .func (.func 65) #[.pointer (some ⟨vb,0,none⟩)] #[]
structure Cn.Ok(c:Cn):Prop where
 k:c.K=0\/c.K=2\/c.K=3\/c.K=4\/c.K=6
 d:eG c.D
 e:c.E.length<=1000
 cl:c.C.length<=4
 w:c.W<=1048576
 np:4*c.W*c.H<=4194304
 len:c.ps.length<=100
 prt:∀t∈c.ps,1<=t.W/\t.W<=1048576/\1<=t.H/\t.H<=1048576/\t.x<=8/\t.sx<=8/\t.y<=8/\t.sy<=8
 fit:∀t∈c.ps,∀y i,y<t.H->i<t.W->rq c.W t y i+4<=4*c.W*c.H
theorem Cn.Ok.bd{c:Cn}(h:c.Ok):1<=c.D/\c.D<=16/\1<=aT c.K/\aT c.K<=4/\1<=c.bits/\c.bits<=64/\1<=c.d/\c.d<=8:=by
 have f:1<=c.D:=by rcases h.d with e|e|e|e|e<;>omega
 have b:c.D<=16:=by rcases h.d with e|e|e|e|e<;>omega
 have a:1<=aT c.K/\aT c.K<=4:=by rcases h.k with e|e|e|e|e<;>rw[e]<;>decide
 have i:1<=c.bits:=bD f a.1;have g:c.bits<=16*4:=bD b a.2;refine⟨f,b,a.1,a.2,i,g,?_,?_⟩
 ·show 1<=aJ c.bits;unfold aJ;omega
 ·show aJ c.bits<=8;unfold aJ;omega
structure fB(c:Cn)(w:af)(s:d_)(g7 g8:Nat):Prop where
 rows:w.heap[c.rb]?=some (dH c.bits c.pv (Nu c.vb) s.pt s.y s.told c.d (.slice (some ⟨g7,0,none⟩) s.now.length s.now.length) (.slice (some ⟨g8,0,none⟩) s.now.length s.now.length) s.at' s.f)
 now:jb w g7 s.now
 qf:jb w g8 s.qf
 len:s.qf.length=s.now.length
 ne:g7≠g8
 can:w.heap[c.vb]?=some (zu c.W c.H c.D c.K c.I c.kb (.slice (some ⟨c.gp,0,none⟩) (4*c.W*c.H) (4*c.W*c.H)))
 dQ:mM w c.gp s.dQ
 pl:s.dQ.length=4*c.W*c.H
 parts:w.ownsRow c.base 188 6 c.pv c.ps.length (bV c.ps)
 DZ:iT w c.kb c.base c.W c.H c.D c.K c.I c.ev c.E c.iW c.cv c.C
 cvg:c.cv.ownBlock≠some c.gp
 nb:∀x∈s.now,x<=255
 ab:∀x∈s.qf,x<=255
 fb:s.f<=255
structure DD(c:Cn)(s:d_):Prop where
 pt:s.pt<=c.ps.length
 row:∀t,c.ps[s.pt]?=some t->s.y<t.H/\s.now.length=c.d+bJ c.bits t.W/\(s.at'=0\/(c.d<=s.at'/\s.at'<s.now.length))
def xY(c:Cn)(g7 g8 k:Nat):Prop:=k=c.rb\/k=c.gp\/k=g7\/k=g8
theorem fB.apart{c:Cn}{w:af}{s:d_}{g7 g8:Nat}(h:fB c w s g7 g8):c.rb≠g7/\c.rb≠g8/\c.rb≠c.vb/\c.rb≠c.gp/\c.rb≠c.kb/\c.gp≠g7/\c.gp≠g8/\c.gp≠c.vb/\c.gp≠c.kb/\c.vb≠g7/\c.vb≠g8/\c.kb≠g7/\c.kb≠g8:=
 ⟨fM h.rows h.now (by decide),fM h.rows h.qf (by decide),fM h.rows h.can (by decide),fM h.rows h.dQ (by decide),fM h.rows h.DZ.oD (by decide),fM h.dQ h.now (by decide),fM h.dQ h.qf (by decide),fM h.dQ h.can (by decide),fM h.dQ h.DZ.oD (by decide),fM h.can h.now (by decide),fM h.can h.qf (by decide),fM h.DZ.oD h.now (by decide),fM h.DZ.oD h.qf (by decide)⟩
theorem fB.still{c:Cn}{w w':af}{s b:d_}{g7 g8 g i:Nat}(h:fB c w s g7 g8)(q:Fr (xY c g7 g8) w w')
 (h1:w'.heap[c.rb]?=some (dH c.bits c.pv (Nu c.vb) b.pt b.y b.told c.d (.slice (some ⟨g,0,none⟩) b.now.length b.now.length) (.slice (some ⟨i,0,none⟩) b.now.length b.now.length) b.at' b.f))
 (h2:jb w' g b.now) (r:jb w' i b.qf) (t:b.qf.length=b.now.length) (u:g≠i) (v:mM w' c.gp b.dQ) (z:b.dQ.length=s.dQ.length) (A:∀x∈b.now,x<=255) (B:∀x∈b.qf,x<=255) (l:b.f<=255):fB c w' b g i:=by
 obtain⟨G,H,C,I,D,J,K,E,F,m,n,o,p⟩:=h.apart;have j:∀k,k<w.heap.size->k≠c.rb->k≠c.gp->k≠g7->k≠g8->w'.heap[k]?=w.heap[k]?:=fun k a L M N O=>q.block k a (fun e=>by rcases e with e|e|e|e<;>contradiction);refine⟨h1,h2,r,t,u,?_,v,z.trans h.pl,?_,?_,h.cvg,A,B,l⟩
 ·exact(j c.vb (ak h.can) C.symm E.symm m n).trans h.can
 ·refine fE h.parts (fun k a=>j k (h.parts.lt k a).2 ?_ ?_ ?_ ?_)
  ·rintro rfl;exact f_ h.parts h.rows (by decide) a
  ·rintro rfl;exact f_ h.parts h.dQ (by decide) a
  ·rintro rfl;exact f_ h.parts h.now (by decide) a
  ·rintro rfl;exact f_ h.parts h.qf (by decide) a
 ·refine h.DZ.over (fun k a=> ?_);rcases a with rfl|a|a
  ·exact j _ (ak h.DZ.oD) D.symm F.symm o p
  ·refine j k (h.DZ.lU.lt k a).2 ?_ ?_ ?_ ?_
   ·rintro rfl;exact f_ h.DZ.lU h.rows (by decide) a
   ·rintro rfl;exact f_ h.DZ.lU h.dQ (by decide) a
   ·rintro rfl;exact f_ h.DZ.lU h.now (by decide) a
   ·rintro rfl;exact f_ h.DZ.lU h.qf (by decide) a
  ·refine j k (h.DZ.zZ.lt k a).2 ?_ ?_ ?_ ?_
   ·rintro rfl;exact f_ h.DZ.zZ h.rows (by decide) a
   ·rintro rfl;exact h.cvg a
   ·rintro rfl;exact f_ h.DZ.zZ h.now (by decide) a
   ·rintro rfl;exact f_ h.DZ.zZ h.qf (by decide) a
theorem fB.byte{c:Cn}{w:af}{s:d_}{g7 g8:Nat}(h:fB c w s g7 g8)(v nq:Nat)(p:v<=255):
 fB c (((w.setCell ⟨g7,s.at',none⟩ (.int .u8 (v:Int))).setCell ⟨c.rb,9,none⟩ (.int .i64 ((s.at'+1:Nat):Int))).drewN nq) {s with now:=s.now.set s.at' v,at':=s.at'+1} g7 g8/\Fr (xY c g7 g8) w (((w.setCell ⟨g7,s.at',none⟩ (.int .u8 (v:Int))).setCell ⟨c.rb,9,none⟩ (.int .i64 ((s.at'+1:Nat):Int))).drewN nq):=by
 obtain⟨a,f,q,g,r,i,t,u,y,j,l,m,n⟩:=h.apart
 have d:Fr (xY c g7 g8) w (((w.setCell ⟨g7,s.at',none⟩ (.int .u8 (v:Int))).setCell ⟨c.rb,9,none⟩ (.int .i64 ((s.at'+1:Nat):Int))).drewN nq):=
  Fr.drewN ((ql.mono (fun k e=> .inr (.inr (.inl e)))).trans (ql.mono (fun k e=> .inl e))) nq
 refine⟨h.still d ?_ ?_ ?_ ?_ h.ne ?_ rfl ?_ h.ab h.fb,d⟩
 ·show((w.setCell ⟨g7,s.at',none⟩ (.int .u8 (v:Int))).setCell ⟨c.rb,9,none⟩ (.int .i64 ((s.at'+1:Nat):Int))).heap[c.rb]?=_;have h1:=(aC (b:=g7) s.at' (.int .u8 (v:Int)) a).trans h.rows;exact(qG h1 9 _).trans (by simp[dH])
 ·show jb ((w.setCell ⟨g7,s.at',none⟩ (.int .u8 (v:Int))).setCell ⟨c.rb,9,none⟩ (.int .i64 ((s.at'+1:Nat):Int))) g7 (s.now.set s.at' v);exact(h.now.set s.at' v).over (aC _ _ a.symm)
 ·show jb ((w.setCell ⟨g7,s.at',none⟩ (.int .u8 (v:Int))).setCell ⟨c.rb,9,none⟩ (.int .i64 ((s.at'+1:Nat):Int))) g8 s.qf;exact h.qf.over ((aC _ _ f.symm).trans (aC _ _ h.ne.symm))
 ·show s.qf.length=(s.now.set s.at' v).length;rw[iH];exact h.len
 ·show((w.setCell ⟨g7,s.at',none⟩ (.int .u8 (v:Int))).setCell ⟨c.rb,9,none⟩ (.int .i64 ((s.at'+1:Nat):Int))).heap[c.gp]?=_;exact((aC _ _ g.symm).trans (aC _ _ i)).trans h.dQ
 ·intro x o;rcases List.mem_or_eq_of_mem_set o with e|e
  ·exact h.nb x e
  ·omega
theorem fB.S_{c:Cn}{w w':af}{s:d_}{g7 g8:Nat}(h:fB c w s g7 g8)(a:List Nat)(f:a.length=s.dQ.length)(hp:mM w' c.gp a)(d:Fr (fun k=>k=c.gp) w w'):fB c w' {s with dQ:=a} g7 g8/\Fr (xY c g7 g8) w w':=by obtain⟨p,q,r,g,t,i,j,u,v,l,m,n,o⟩:=h.apart;have b:Fr (xY c g7 g8) w w':=d.mono (fun k e=> .inr (.inl e));exact⟨h.still b ((d.block _ (ak h.rows) g).trans h.rows) (h.now.over (d.block _ (ak h.now) i.symm)) (h.qf.over (d.block _ (ak h.qf) j.symm)) h.len h.ne hp f h.nb h.ab h.fb,b⟩
end Pr
namespace Pr
open Go.RowKit Rf Cr
theorem Qw(c:Cn)(s:d_)(g7 g8 b:Nat)(w:af)(f:c.Ok)(h:fB c w s g7 g8)(hp:s.pt=c.ps.length):
 aH prog 99 #[.pointer (some ⟨c.rb,0,none⟩),.int .u8 (b:Int)] w fun e w'=>(∃a,e= .returned (.iface 93 (.pointer (some a))))/\Fr (fun _=>False) w w':=by
 have c1:w.cell? ⟨c.rb,1,none⟩=some c.pv:=by simpa [dH]using(cell_of h.rows 1).1
 have c3:w.cell? ⟨c.rb,3,none⟩=some (.int .i64 (s.pt:Int)):=by simpa [dH]using(cell_of h.rows 3).1
 obtain⟨la,cap,d⟩:=lZ h.parts;rw[d]at c1;rw[hp]at c3;clear h d hp;generalize c.ps.length=n at*;generalize c.rb=rb at*;go_enter func99,ntmps99
 go_wp2_with fail
 go_quiet (fail)
 go_wp2_with fail
 refine(cZ _ _).mono ?_;rintro e w1 ⟨rfl,rfl⟩;go_wp2_with fail
 go_ret;exact⟨⟨_,rfl⟩,((Fr.refl _ w).drewN _).alloc _⟩
theorem fB.cells{c:Cn}{w:af}{s:d_}{g7 g8:Nat}(h:fB c w s g7 g8):w.cell? ⟨c.rb,1,none⟩=some c.pv/\w.cell? ⟨c.rb,3,none⟩=some (.int .i64 (s.pt:Int))/\w.cell? ⟨c.rb,6,none⟩=some (.int .i64 (c.d:Int))/\w.cell? ⟨c.rb,7,none⟩=some (.slice (some ⟨g7,0,none⟩) s.now.length s.now.length)/\w.cell? ⟨c.rb,8,none⟩=some (.slice (some ⟨g8,0,none⟩) s.now.length s.now.length)/\w.cell? ⟨c.rb,9,none⟩=some (.int .i64 (s.at':Int))/\w.cell? ⟨c.rb,10,none⟩=some (.int .u8 (s.f:Int))/\∀i,w.frozen? ⟨c.rb,i,none⟩=false:=
 ⟨by simpa [dH]using(cell_of h.rows 1).1,by simpa [dH]using(cell_of h.rows 3).1,by simpa [dH]using(cell_of h.rows 6).1,by simpa [dH]using(cell_of h.rows 7).1,by simpa [dH]using(cell_of h.rows 8).1,by simpa [dH]using(cell_of h.rows 9).1,by simpa [dH]using(cell_of h.rows 10).1,fun i=>(cell_of h.rows i).2⟩
theorem fB.drewN{c:Cn}{w:af}{s:d_}{g7 g8:Nat}(h:fB c w s g7 g8)(n:Nat):fB c (w.drewN n) s g7 g8:=h.still (Fr.drewN (Fr.refl _ w) n) h.rows h.now h.qf h.len h.ne h.dQ rfl h.nb h.ab h.fb
theorem Kq(c:Cn)(s:d_)(g7 g8 b:Nat)(w:af)(p:c.Ok)(h:fB c w s g7 g8)(hp:s.pt<c.ps.length)(d:s.at'=0)(k:4<b)(hb:b<=255):
 aH prog 99 #[.pointer (some ⟨c.rb,0,none⟩),.int .u8 (b:Int)] w fun e w'=>(∃a,e= .returned (.iface 93 (.pointer (some a))))/\Fr (fun _=>False) w w':=by
 obtain⟨c1,c3,c6,c7,c8,c9,c10,l⟩:=h.cells;obtain⟨la,cap,f⟩:=lZ h.parts;rw[f]at c1;rw[d]at c9;have i:=fun nq=>P_ c.rb b (w.drewN nq) c9 hb k;have j:au _:=i;generalize s.pt=pt at*;clear h f i c6 c7 c8 c9 c10 l d;have m:((pt:Int)==(c.ps.length:Int))=false:=by rw[aI];omega
 generalize c.ps.length=n at*;go_enter func99,ntmps99
 go_wp2_with fail
 go_quiet (fail)
 go_wp2_with fail
 refine(j.out _).mono ?_;rintro e w1 ⟨a,rfl,g⟩;have o:au (Fr (fun _=>False) w w1):=(((Fr.refl (fun _=>False) w).drewN _).trans (Fr.jI g):Fr _ _ _);clear g j;go_wp2_with fail
 go_ret;exact⟨⟨a,rfl⟩,o.out⟩
theorem Qx(c:Cn)(s:d_)(g7 g8 b:Nat)(w:af)(hc:c.Ok)(h:fB c w s g7 g8)(hp:s.pt<c.ps.length)(i:s.at'=0)(Q:b<=4)(hd:c.d<s.now.length)(R:s.now.length<=1000000000):
 aH prog 99 #[.pointer (some ⟨c.rb,0,none⟩),.int .u8 (b:Int)] w fun e w'=>e= .returned .nilIface/\fB c w' {s with f:=b,at':=c.d} g7 g8/\Fr (xY c g7 g8) w w':=by
 obtain⟨c1,c3,c6,c7,c8,c9,c10,K⟩:=h.cells;obtain⟨la,cap,j⟩:=lZ h.parts;rw[j]at c1;rw[i]at c9;obtain⟨r,t,S,u,T,U,V,W,X,v,x,y,z⟩:=h.apart;have L:=fun nq=>EY c.rb c.d b _ (w.drewN nq) c6 c9 c10 K Q;have M:au _:=L;have N:au (∀nq,fB c (((w.drewN nq).setCell ⟨c.rb,10,none⟩ (.int .u8 (b:Int))).setCell ⟨c.rb,9,none⟩ (.int .i64 (c.d:Int))) {s with f:=b,at':=c.d} g7 g8/\Fr (xY c g7 g8) w (((w.drewN nq).setCell ⟨c.rb,10,none⟩ (.int .u8 (b:Int))).setCell ⟨c.rb,9,none⟩ (.int .i64 (c.d:Int)))):=(fun nq=>by
  have O:Fr (xY c g7 g8) w (((w.drewN nq).setCell ⟨c.rb,10,none⟩ (.int .u8 (b:Int))).setCell ⟨c.rb,9,none⟩ (.int .i64 (c.d:Int))):=(Fr.drewN (Fr.refl _ w) nq).trans ((ql.trans ql).mono (fun k e=> .inl e));refine⟨h.still O ?_ ?_ ?_ h.len h.ne ?_ rfl h.nb h.ab (by show b<=255;omega),O⟩
  ·exact(bF (qG (show(w.drewN nq).heap[c.rb]?=_ from h.rows) 10 _) 9 _).trans (by simp[dH])
  ·exact h.now.over ((aC _ _ r.symm).trans (aC _ _ r.symm))
  ·exact h.qf.over ((aC _ _ t.symm).trans (aC _ _ t.symm))
  ·exact((aC _ _ u.symm).trans (aC _ _ u.symm)).trans h.dQ:∀nq,_)
 obtain⟨pt,l⟩:∃p,p=s.pt:=⟨_,rfl⟩;rw[<-l]at c3 hp;clear l;have A:((pt:Int)==(c.ps.length:Int))=false:=by rw[aI];omega
 clear h j L c6 c7 c8 c9 c10 K i r t S u T U V W X v x y z;generalize c.ps.length=n at*;go_enter func99,ntmps99
 go_wp2_with fail
 go_quiet (fail)
 go_wp2_with fail
 refine(M.out _).mono ?_;rintro e w1 ⟨rfl,m⟩;have hm:=N.out nq;rw[<-m]at hm;obtain⟨a,o⟩:=hm;have B:au _:=a;have C:au _:=o;obtain⟨Y,Z,P,D,k8,E,F,kf⟩:=a.cells;have hS:=yM c.rb c.d s.now.length s.now.length c.d g7 w1 P D E (ah _) (by omega) (ah _) hd R;have g:∀nq,aH prog 122 #[.pointer (some ⟨c.rb,6,none⟩)] (w1.drewN nq) fun e w'=>e= .returned (.bool (decide (c.d=s.now.length)))/\∃G,w'=(w1.drewN nq).drewN G:=fun nq=>uS c.rb c.d s.now.length s.now.length (some ⟨g7,0,none⟩) (w1.drewN nq) E D;rw[iL]at hS;have q:decide (c.d=s.now.length)=false:=aS (by omega);rw[q]at g;have H:au _:=g;clear a o m M N Y Z P D k8 E F kf c1 c3 g q A;go_wp2_with fail
 refine hS.mono ?_;rintro e w2 ⟨rfl,a0,I⟩;subst I;clear hS;go_wp2_with fail
 refine(H.out _).mono ?_;rintro e w3 ⟨rfl,b0,J⟩;subst J;go_wp2_with fail
 go_ret;exact⟨rfl,fB.drewN B.out _,Fr.drewN C.out _⟩
open gI (iD qx)
theorem FD{L:List Nat}(h:∀x∈L,x<=255)(j:Nat):L.getD j 0<=255:=gI.qy h j
theorem Ve{w:af}{g d t:Nat}{L:List Nat}{cap:Nat}(h:jb w g L)(hd:d<=t)(c:t<=L.length):vK w (.slice (some ⟨g,d,none⟩) (t-d) cap) ((L.drop d).take (t-d)):=by
 have a:((L.drop d).take (t-d)).length=t-d:=by rw[eH,jm];omega
 refine⟨g,d,cap,by rw[a],fun j b=> ?_⟩;rw[a]at b;rw[(h.cell (d+j) (by omega)).1];congr 3
 rw[ag,ag,dh b,gJ]
def unV(c:Cn)(s:d_)(b:Nat):Nat:=unB s c.d b
def jY(c:Cn)(s:d_)(b:Nat):d_:={s with now:=s.now.set s.at' (unV c s b),at':=s.at'+1}
def WH(c:Cn)(s:d_)(b:Nat):List Nat:=((s.now.set s.at' (unV c s b)).drop c.d).take (s.at'+1-c.d)
theorem CU(c:Cn)(s:d_)(t:jX)(g7 g8 b:Nat)(w:af)(f:c.Ok)(h:fB c w (jY c s b) g7 g8)(j:c.ps[s.pt]?=some t)(l:s.y<t.H)(hd:c.d<=s.at')(z:s.at'<s.now.length)(m:s.now.length<=1000000000):
 aH prog 65 #[.pointer (some ⟨c.vb,0,none⟩),xQ t.x t.sx t.y t.sy t.W t.H,.int .i64 (s.y:Int),.slice (some ⟨g7,c.d,none⟩) (s.at'+1-c.d) (s.now.length-c.d)] w fun e w'=>
  (∃g,vM c.P t s.y (WH c s b) s.dQ=some g/\e= .returned .nilIface/\mM w' c.gp g/\Fr (fun k=>k=c.gp) w w')\/
  (vM c.P t s.y (WH c s b) s.dQ=none/\(∃T a,e= .returned (.iface T (.pointer (some a)))/\iQ w' T a)/\Fr (fun k=>k=c.gp) w w'):=by
 have hm:t∈c.ps:=iY j;obtain⟨A,n,B,F,o,p,q,r⟩:=f.prt t hm;have hlen:(WH c s b).length=s.at'+1-c.d:=by unfold WH;rw[eH,jm,iH];omega
 have u:vK w (.slice (some ⟨g7,c.d,none⟩) (s.at'+1-c.d) (s.now.length-c.d)) (WH c s b):=Ve h.now (by omega) (by show s.at'+1<=(s.now.set s.at' _).length;rw[iH];omega);have hb:∀x∈WH c s b,x<=255:=fun x v=>h.nb x (List.mem_of_mem_drop (oV v));exact Yt w c.ps c.vb c.kb c.base c.W c.H c.D c.K _ c.gp s.y c.I c.ev c.E c.iW c.cv c.C (WH c s b) s.dQ t _ h.can h.dQ h.pl f.np h.DZ h.cvg f.k f.d f.e f.cl hb u (by rw[hlen];omega) (by rw[hlen];omega) f.w n o p q r (by omega) (fun i hi=>f.fit t hm s.y i l hi)
theorem CV(c:Cn)(s:d_)(g7 g8 b:Nat)(w:af)(j:c.Ok)(h:fB c w s g7 g8)(hb:b<=255)(hd:c.d<=s.at')(k:s.at'<s.now.length)(a:s.now.length<=1000000000):
 aH prog 120 #[.pointer (some ⟨c.rb,6,none⟩),.int .u8 (b:Int)] w fun e w'=>e= .returned .nilIface/\fB c w' (jY c s b) g7 g8/\Fr (xY c g7 g8) w w':=by
 obtain⟨c1,c3,c6,c7,c8,c9,c10,l⟩:=h.cells;obtain⟨m,x,y,z,A,B,C,D,E,n,o,p,q⟩:=h.apart;have g:=j.bd;have F:=h.len;have r:=h.now.cell (s.at'-c.d) (by omega);have t:=h.qf.cell s.at' (by omega);have u:=h.qf.cell (s.at'-c.d) (by omega);have i:=h.now.cell s.at' (by omega);refine(JG c.rb c.d s.now.length s.now.length s.now.length s.at' (s.at'-c.d) s.f b g7 g8 _ _ _ _ w c6 c7 c8 c9 c10 l g.2.2.2.2.2.2.1 (by omega) k a r.1 t.1 u.1 h.fb hb (FD h.nb _) (FD h.ab _) (FD h.ab _) i.1 i.2 m h.ne.symm).mono ?_;rintro e w' ⟨rfl,nq,rfl⟩;have v:unV c s b<=255:=by have:=jR (b+iD s.f (s.now.getD (s.at'-c.d) 0) (s.qf.getD s.at' 0) (s.qf.getD (s.at'-c.d) 0)) (show 0<256 by omega);show _%256<=255;omega
 have:=h.byte (unV c s b) nq v;exact⟨rfl,this.1,this.2⟩
theorem Yu(c:Cn)(s:d_)(t:jX)(g7 g8 b:Nat)(w:af)(hc:c.Ok)(h:fB c w s g7 g8)(K:c.ps[s.pt]?=some t)(hy:s.y<t.H)(hb:b<=255)(hd:c.d<=s.at')(hn:s.at'<s.now.length)(B:s.now.length<=1000000000)(d2:s.told<=100000000)(b1:vM c.P t s.y (WH c s b) s.dQ=none):
 aH prog 99 #[.pointer (some ⟨c.rb,0,none⟩),.int .u8 (b:Int)] w fun e w'=>(∃T a,e= .returned (.iface T (.pointer (some a)))/\iQ w' T a)/\w'.cell? ⟨c.rb,5,none⟩=some (.int .i64 (s.told:Int))/\Fr (xY c g7 g8) w w':=by
 have hl:=hc.len;have z:s.pt<c.ps.length:=(List.getElem?_eq_some_iff.1 K).1;obtain⟨c1,c3,c6,c7,c8,c9,c10,cf⟩:=h.cells;obtain⟨a1,a2,a3,L,a5,a6,a7,a8,a9,d3,d4,d5,d6⟩:=h.apart;have M:=fun nq=>CV c s g7 g8 b (w.drewN nq) hc (h.drewN nq) hb hd hn B;obtain⟨g,cap,C,b2,b3⟩:=jf h.parts s.pt t K;rw[C]at c1;have N:au _:=M;have D:au _:=C;obtain⟨pt,E⟩:∃p,p=s.pt:=⟨_,rfl⟩;rw[<-E]at c3 z;have b4:au _:=E;clear E M b3 b2 C c6 c7 c8 c9 c10 cf h;have r:((pt:Int)==(c.ps.length:Int))=false:=by rw[aI];omega
 have O:¬pt=c.ps.length:=by omega
 obtain⟨m,F⟩:∃m,m=c.ps.length:=⟨_,rfl⟩;rw[<-F]at r O c1 z hl;have b5:au _:=F;clear F;go_enter func99,ntmps99
 go_wp2_with fail
 go_quiet (fail)
 go_wp2_with fail
 refine(N.out _).mono ?_;rintro e w1 ⟨rfl,G,Q⟩;have R:au _:=G;have S:au (Fr (xY c g7 g8) w w1):=((Fr.drewN (Fr.refl _ w) nq).trans Q:Fr _ _ _);obtain⟨k1,k3,k6,k7,k8,k9,b6,kf⟩:=G.cells;have U:(jY c s b).now.length=s.now.length:=by show(s.now.set _ _).length=_;rw[iH]
 rw[U]at k7;have hS:=yM c.rb c.d s.now.length s.now.length (s.at'+1) g7 w1 k6 k7 k9 (by omega) (by omega) (ah _) (by omega) B;have V:0<s.at'+1-c.d:=by omega
 obtain⟨sl,I⟩:∃x,x=s.at'+1-c.d:=⟨_,rfl⟩;have b7:au _:=I;rw[<-I]at hS V;clear G Q N k1 k3 k6 k7 k8 k9 b6 kf c1 c3 U r I;go_wp2_with fail
 refine hS.mono ?_;rintro e w2 ⟨rfl,X,J⟩;have o:au (fB c w2 (jY c s b) g7 g8):=(by rw[J];exact fB.drewN R.out X:fB _ _ _ _ _);have b8:au (Fr (xY c g7 g8) w w2):=(by rw[J];exact Fr.drewN S.out X:Fr _ _ _);clear hS J R S;go_wp2_with fail
 have Y:=CU c s t g7 g8 b (World.drew w2) hc (fB.drewN o.out 1) K hy hd hn B;have u:=Y.mono (fun e w' h=>h.resolve_left (fun⟨p,h1,_⟩=>by rw[b1]at h1;cases h1));rw[<-b7.out]at u;unfold xQ at u;have Z:∀w',fB c w' (jY c s b) g7 g8->w'.cell? ⟨c.rb,1,none⟩=some (.slice (some ⟨g,0,none⟩) m cap)/\w'.cell? ⟨c.rb,2,none⟩=some (.func (.func 65) #[.pointer (some ⟨c.vb,0,none⟩)] #[])/\w'.cell? ⟨c.rb,3,none⟩=some (.int .i64 (pt:Int))/\w'.cell? ⟨c.rb,4,none⟩=some (.int .i64 (s.y:Int))/\w'.cell? ⟨g,pt*6,none⟩=some (.int .i64 (t.x:Int))/\w'.cell? ⟨g,pt*6+1,none⟩=some (.int .i64 (t.sx:Int))/\w'.cell? ⟨g,pt*6+2,none⟩=some (.int .i64 (t.y:Int))/\w'.cell? ⟨g,pt*6+3,none⟩=some (.int .i64 (t.sy:Int))/\w'.cell? ⟨g,pt*6+4,none⟩=some (.int .i64 (t.W:Int))/\w'.cell? ⟨g,pt*6+5,none⟩=some (.int .i64 (t.H:Int)):=fun w' h=>by
  obtain⟨g',A,n,q,f⟩:=jf h.parts s.pt t K;have e1:g'=g/\A=cap:=by have:=D.out.symm.trans n;simp at this;exact⟨this.1.symm,this.2.symm⟩
  obtain⟨rfl,rfl⟩:=e1;rw[b4.out];have q1:=(cell_of h.rows 1).1;have q2:=(cell_of h.rows 2).1;have q3:=(cell_of h.rows 3).1;have q4:=(cell_of h.rows 4).1;rw[n,<-b5.out]at q1;refine⟨by simpa using q1,by simpa [Nu]using q2,by simpa [jY]using q3,by simpa [jY]using q4,?_,?_,?_,?_,?_,?_⟩
  ·simpa [lQ]using f 0 (by omega)
  ·simpa [lQ]using f 1 (by omega)
  ·simpa [lQ]using f 2 (by omega)
  ·simpa [lQ]using f 3 (by omega)
  ·simpa [lQ]using f 4 (by omega)
  ·simpa [lQ]using f 5 (by omega)
 obtain⟨j1,j2,j3,j4,r0,r1,r2,r3,r4,r5⟩:=Z w2 o.out;have l:=ak (fB.rows o.out);obtain⟨i,j⟩:g<w2.heap.size/\g≠c.gp:=by
  have a0:=fB.parts o.out;obtain⟨g',A,n,q,_⟩:=jf a0 s.pt t K;have e1:g'=g:=by have:=D.out.symm.trans n;simp at this;exact this.1.symm
  rw[e1]at q;refine⟨q,fun e=>f_ a0 (fB.dQ o.out) (by decide) ?_⟩;rw[D.out,e];rfl
 have b9:au (∀w':af,(∀k,k<w2.heap.size->k≠c.gp->w'.heap[k]?=w2.heap[k]?)->w'.cell? ⟨c.rb,1,none⟩=some (.slice (some ⟨g,0,none⟩) m cap)/\w'.cell? ⟨c.rb,2,none⟩=some (.func (.func 65) #[.pointer (some ⟨c.vb,0,none⟩)] #[])/\w'.cell? ⟨c.rb,3,none⟩=some (.int .i64 (pt:Int))/\w'.cell? ⟨c.rb,4,none⟩=some (.int .i64 (s.y:Int))/\w'.cell? ⟨g,pt*6,none⟩=some (.int .i64 (t.x:Int))/\w'.cell? ⟨g,pt*6+1,none⟩=some (.int .i64 (t.sx:Int))/\w'.cell? ⟨g,pt*6+2,none⟩=some (.int .i64 (t.y:Int))/\w'.cell? ⟨g,pt*6+3,none⟩=some (.int .i64 (t.sy:Int))/\w'.cell? ⟨g,pt*6+4,none⟩=some (.int .i64 (t.W:Int))/\w'.cell? ⟨g,pt*6+5,none⟩=some (.int .i64 (t.H:Int))):=(fun w' e=>⟨(aQ (e _ l L)).trans j1,(aQ (e _ l L)).trans j2,(aQ (e _ l L)).trans j3,(aQ (e _ l L)).trans j4,(aQ (e _ i j)).trans r0,(aQ (e _ i j)).trans r1,(aQ (e _ i j)).trans r2,(aQ (e _ i j)).trans r3,(aQ (e _ i j)).trans r4,(aQ (e _ i j)).trans r5⟩:∀w',_);have c2:au _:=u;clear Y u Z;have d7:(pt:Int)<(m:Int):=by omega
 go_region_held3 (fun w'=>w'.cell? ⟨c.rb,1,none⟩=some (.slice (some ⟨g,0,none⟩) m cap)/\w'.cell? ⟨c.rb,2,none⟩=some (.func (.func 65) #[.pointer (some ⟨c.vb,0,none⟩)] #[])/\w'.cell? ⟨c.rb,3,none⟩=some (.int .i64 (pt:Int))/\w'.cell? ⟨c.rb,4,none⟩=some (.int .i64 (s.y:Int))/\w'.cell? ⟨g,pt*6,none⟩=some (.int .i64 (t.x:Int))/\w'.cell? ⟨g,pt*6+1,none⟩=some (.int .i64 (t.sx:Int))/\w'.cell? ⟨g,pt*6+2,none⟩=some (.int .i64 (t.y:Int))/\w'.cell? ⟨g,pt*6+3,none⟩=some (.int .i64 (t.sy:Int))/\w'.cell? ⟨g,pt*6+4,none⟩=some (.int .i64 (t.W:Int))/\w'.cell? ⟨g,pt*6+5,none⟩=some (.int .i64 (t.H:Int)))
  (first|go_keep|exact b9.out _ (fun k hk r=>v.block k hk r))
  (first
    |(go_at_call 65;refine aU c2.out ?_;rintro e w3 ⟨_,⟨T,a,rfl,b0⟩,v⟩))
 have c5:au _:=b0;have d0:au (Fr (xY c g7 g8) w w3):=(Fr.trans (Fr.drewN b8.out 1) (Fr.mono v (fun k e=> .inr (.inl e))):Fr _ _ _);have d1:au (w3.cell? ⟨c.rb,5,none⟩=some (.int .i64 (s.told:Int))):=((aQ (v.block _ l L)).trans (by simpa [jY]using(cell_of (fB.rows o.out) 5).1):_=_);clear b0 v;go_wp2_with fail
 go_ret;exact⟨⟨T,a,rfl,c5.out⟩,d1.out,d0.out⟩
end Pr
namespace Pr
open Go.RowKit Rf Cr
theorem Yv(c:Cn)(s:d_)(t:jX)(g7 g8 b:Nat)(a:List Nat)(w:af)(hc:c.Ok)(h:fB c w s g7 g8)(R:c.ps[s.pt]?=some t)(hy:s.y<t.H)(hb:b<=255)(hd:c.d<=s.at')(hn:s.at'<s.now.length)(C:s.now.length<=1000000000)(D:vM c.P t s.y (WH c s b) s.dQ=some a)(b7:¬s.at'+1=s.now.length):
 aH prog 99 #[.pointer (some ⟨c.rb,0,none⟩),.int .u8 (b:Int)] w fun e w'=>e= .returned .nilIface/\fB c w' {jY c s b with dQ:=a} g7 g8/\Fr (xY c g7 g8) w w':=by
 have hl:=hc.len;have A:s.pt<c.ps.length:=(List.getElem?_eq_some_iff.1 R).1;obtain⟨c1,c3,c6,c7,c8,c9,c10,cf⟩:=h.cells;obtain⟨a1,a2,a3,a4,a5,a6,a7,a8,a9,e5,e6,e7,e8⟩:=h.apart;have S:=fun nq=>CV c s g7 g8 b (w.drewN nq) hc (h.drewN nq) hb hd hn C;obtain⟨g,cap,E,b8,b9⟩:=jf h.parts s.pt t R;rw[E]at c1;have T:au _:=S;have F:au _:=E;obtain⟨pt,G⟩:∃p,p=s.pt:=⟨_,rfl⟩;rw[<-G]at c3 A;have c2:au _:=G;clear G S b9 b8 E c6 c7 c8 c9 c10 cf h;have u:((pt:Int)==(c.ps.length:Int))=false:=by rw[aI];omega
 have U:¬pt=c.ps.length:=by omega
 obtain⟨m,I⟩:∃m,m=c.ps.length:=⟨_,rfl⟩;rw[<-I]at u U c1 A hl;have c5:au _:=I;clear I;go_enter func99,ntmps99
 go_wp2_with fail
 go_quiet (fail)
 go_wp2_with fail
 refine(T.out _).mono ?_;rintro e w1 ⟨rfl,J,V⟩;have X:au _:=J;have Y:au (Fr (xY c g7 g8) w w1):=((Fr.drewN (Fr.refl _ w) nq).trans V:Fr _ _ _);obtain⟨k1,k3,k6,k7,k8,k9,d0,kf⟩:=J.cells;have Z:(jY c s b).now.length=s.now.length:=by show(s.now.set _ _).length=_;rw[iH]
 rw[Z]at k7;have hS:=yM c.rb c.d s.now.length s.now.length (s.at'+1) g7 w1 k6 k7 k9 (by omega) (by omega) (ah _) (by omega) C;have a0:0<s.at'+1-c.d:=by omega
 obtain⟨sl,K⟩:∃x,x=s.at'+1-c.d:=⟨_,rfl⟩;have d1:au _:=K;rw[<-K]at hS a0;clear J V T k1 k3 k6 k7 k8 k9 d0 kf c1 c3 Z u K;go_wp2_with fail
 refine hS.mono ?_;rintro e w2 ⟨rfl,b0,L⟩;have o:au (fB c w2 (jY c s b) g7 g8):=(by rw[L];exact fB.drewN X.out b0:fB _ _ _ _ _);have d2:au (Fr (xY c g7 g8) w w2):=(by rw[L];exact Fr.drewN Y.out b0:Fr _ _ _);clear hS L X Y;go_wp2_with fail
 have b1:=CU c s t g7 g8 b (World.drew w2) hc (fB.drewN o.out 1) R hy hd hn C;have v:=b1.mono (fun e w' h=>(h.resolve_right (fun⟨h1,_⟩=>by rw[D]at h1;cases h1)));rw[<-d1.out]at v;unfold xQ at v;have b2:∀w',fB c w' (jY c s b) g7 g8->w'.cell? ⟨c.rb,1,none⟩=some (.slice (some ⟨g,0,none⟩) m cap)/\w'.cell? ⟨c.rb,2,none⟩=some (.func (.func 65) #[.pointer (some ⟨c.vb,0,none⟩)] #[])/\w'.cell? ⟨c.rb,3,none⟩=some (.int .i64 (pt:Int))/\w'.cell? ⟨c.rb,4,none⟩=some (.int .i64 (s.y:Int))/\w'.cell? ⟨g,pt*6,none⟩=some (.int .i64 (t.x:Int))/\w'.cell? ⟨g,pt*6+1,none⟩=some (.int .i64 (t.sx:Int))/\w'.cell? ⟨g,pt*6+2,none⟩=some (.int .i64 (t.y:Int))/\w'.cell? ⟨g,pt*6+3,none⟩=some (.int .i64 (t.sy:Int))/\w'.cell? ⟨g,pt*6+4,none⟩=some (.int .i64 (t.W:Int))/\w'.cell? ⟨g,pt*6+5,none⟩=some (.int .i64 (t.H:Int)):=fun w' h=>by
  obtain⟨g',B,l,q,f⟩:=jf h.parts s.pt t R;have e1:g'=g/\B=cap:=by have:=F.out.symm.trans l;simp at this;exact⟨this.1.symm,this.2.symm⟩
  obtain⟨rfl,rfl⟩:=e1;rw[c2.out];have q1:=(cell_of h.rows 1).1;have q2:=(cell_of h.rows 2).1;have q3:=(cell_of h.rows 3).1;have q4:=(cell_of h.rows 4).1;rw[l,<-c5.out]at q1;refine⟨by simpa using q1,by simpa [Nu]using q2,by simpa [jY]using q3,by simpa [jY]using q4,?_,?_,?_,?_,?_,?_⟩
  ·simpa [lQ]using f 0 (by omega)
  ·simpa [lQ]using f 1 (by omega)
  ·simpa [lQ]using f 2 (by omega)
  ·simpa [lQ]using f 3 (by omega)
  ·simpa [lQ]using f 4 (by omega)
  ·simpa [lQ]using f 5 (by omega)
 obtain⟨j1,j2,j3,j4,r0,r1,r2,r3,r4,r5⟩:=b2 w2 o.out;have n:=ak (fB.rows o.out);obtain⟨i,j⟩:g<w2.heap.size/\g≠c.gp:=by
  have b3:=fB.parts o.out;obtain⟨g',B,l,q,_⟩:=jf b3 s.pt t R;have e1:g'=g:=by have:=F.out.symm.trans l;simp at this;exact this.1.symm
  rw[e1]at q;refine⟨q,fun e=>f_ b3 (fB.dQ o.out) (by decide) ?_⟩;rw[F.out,e];rfl
 have d3:au (∀w':af,(∀k,k<w2.heap.size->k≠c.gp->w'.heap[k]?=w2.heap[k]?)->w'.cell? ⟨c.rb,1,none⟩=some (.slice (some ⟨g,0,none⟩) m cap)/\w'.cell? ⟨c.rb,2,none⟩=some (.func (.func 65) #[.pointer (some ⟨c.vb,0,none⟩)] #[])/\w'.cell? ⟨c.rb,3,none⟩=some (.int .i64 (pt:Int))/\w'.cell? ⟨c.rb,4,none⟩=some (.int .i64 (s.y:Int))/\w'.cell? ⟨g,pt*6,none⟩=some (.int .i64 (t.x:Int))/\w'.cell? ⟨g,pt*6+1,none⟩=some (.int .i64 (t.sx:Int))/\w'.cell? ⟨g,pt*6+2,none⟩=some (.int .i64 (t.y:Int))/\w'.cell? ⟨g,pt*6+3,none⟩=some (.int .i64 (t.sy:Int))/\w'.cell? ⟨g,pt*6+4,none⟩=some (.int .i64 (t.W:Int))/\w'.cell? ⟨g,pt*6+5,none⟩=some (.int .i64 (t.H:Int))):=(fun w' e=>⟨(aQ (e _ n a4)).trans j1,(aQ (e _ n a4)).trans j2,(aQ (e _ n a4)).trans j3,(aQ (e _ n a4)).trans j4,(aQ (e _ i j)).trans r0,(aQ (e _ i j)).trans r1,(aQ (e _ i j)).trans r2,(aQ (e _ i j)).trans r3,(aQ (e _ i j)).trans r4,(aQ (e _ i j)).trans r5⟩:∀w',_);have d4:au _:=v;clear b1 v b2;have e9:(pt:Int)<(m:Int):=by omega
 go_region_held3 (fun w'=>w'.cell? ⟨c.rb,1,none⟩=some (.slice (some ⟨g,0,none⟩) m cap)/\w'.cell? ⟨c.rb,2,none⟩=some (.func (.func 65) #[.pointer (some ⟨c.vb,0,none⟩)] #[])/\w'.cell? ⟨c.rb,3,none⟩=some (.int .i64 (pt:Int))/\w'.cell? ⟨c.rb,4,none⟩=some (.int .i64 (s.y:Int))/\w'.cell? ⟨g,pt*6,none⟩=some (.int .i64 (t.x:Int))/\w'.cell? ⟨g,pt*6+1,none⟩=some (.int .i64 (t.sx:Int))/\w'.cell? ⟨g,pt*6+2,none⟩=some (.int .i64 (t.y:Int))/\w'.cell? ⟨g,pt*6+3,none⟩=some (.int .i64 (t.sy:Int))/\w'.cell? ⟨g,pt*6+4,none⟩=some (.int .i64 (t.W:Int))/\w'.cell? ⟨g,pt*6+5,none⟩=some (.int .i64 (t.H:Int)))
  (first|go_keep|exact d3.out _ (fun k hk u=>M.block k hk u))
  (first
    |(go_at_call 65;refine aU d4.out ?_;rintro e w3 ⟨d5,r,rfl,N,M⟩))
 have e2:d5=a:=by rw[D]at r;exact(eu r).symm
 have d6:a.length=s.dQ.length:=wR _ _ _ _ _ _ D;rw[e2]at N;have z:=fB.S_ (fB.drewN o.out 1) a d6 N M;have d7:au (fB c w3 {jY c s b with dQ:=a} g7 g8):=(z.1:fB _ _ _ _ _);have d8:au (Fr (xY c g7 g8) w w3):=(Fr.trans (Fr.drewN d2.out 1) z.2:Fr _ _ _);obtain⟨u1,u3,u6,u7,u8,u9,u10,uf⟩:=z.1.cells;have b4:({jY c s b with dQ:=a}:d_).now.length=s.now.length:=by show(s.now.set _ _).length=_;rw[iH]
 rw[b4]at u7;have O:=uS c.rb (s.at'+1) s.now.length s.now.length (some ⟨g7,0,none⟩) w3 u9 u7;have b5:decide (s.at'+1=s.now.length)=false:=aS b7;rw[b5]at O;have d9:au _:=O;clear O b5 z N M r e2 b4 u1 u3 u6 u7 u8 u9 u10 uf j1 j2 j3 j4 r0 r1 r2 r3 r4 r5;go_wp2_with fail
 refine aU d9.out ?_;rintro e w5 ⟨rfl,b6,Q⟩;have e0:au (fB c w5 {jY c s b with dQ:=a} g7 g8):=(by rw[Q];exact fB.drewN d7.out b6:fB _ _ _ _ _);have e4:au (Fr (xY c g7 g8) w w5):=(by rw[Q];exact Fr.drewN d8.out b6:Fr _ _ _);clear Q;go_wp2_with fail
 go_ret;exact⟨rfl,e0.out,e4.out⟩
theorem abo(c:Cn)(s:d_)(t:jX)(g7 g8 b:Nat)(a:List Nat)(w:af)(hc:c.Ok)(h:fB c w s g7 g8)(S:c.ps[s.pt]?=some t)(hy:s.y<t.H)(hb:b<=255)(hd:c.d<=s.at')(hn:s.at'<s.now.length)(C:s.now.length<=1000000000)(D:vM c.P t s.y (WH c s b) s.dQ=some a)(c2:s.at'+1=s.now.length)(R:af->af->Prop)(hG:∀w2,fB c w2 {jY c s b with dQ:=a} g7 g8->aH prog 123 #[.pointer (some ⟨c.rb,0,none⟩)] w2 fun e w'=>e= .returned (.tuple #[])/\R w2 w'):
 aH prog 99 #[.pointer (some ⟨c.rb,0,none⟩),.int .u8 (b:Int)] w fun e w'=>e= .returned .nilIface/\∃w2,fB c w2 {jY c s b with dQ:=a} g7 g8/\Fr (xY c g7 g8) w w2/\R w2 w':=by
 have HG:au _:=hG;clear hG;have hl:=hc.len;have A:s.pt<c.ps.length:=(List.getElem?_eq_some_iff.1 S).1;obtain⟨c1,c3,c6,c7,c8,c9,c10,cf⟩:=h.cells;obtain⟨a1,a2,a3,a4,a5,a6,a7,a8,a9,e7,e8,e9,f0⟩:=h.apart;have T:=fun nq=>CV c s g7 g8 b (w.drewN nq) hc (h.drewN nq) hb hd hn C;obtain⟨g,cap,E,c5,d0⟩:=jf h.parts s.pt t S;rw[E]at c1;have U:au _:=T;have F:au _:=E;obtain⟨pt,G⟩:∃p,p=s.pt:=⟨_,rfl⟩;rw[<-G]at c3 A;have d1:au _:=G;clear G T d0 c5 E c6 c7 c8 c9 c10 cf h;have u:((pt:Int)==(c.ps.length:Int))=false:=by rw[aI];omega
 have V:¬pt=c.ps.length:=by omega
 obtain⟨m,I⟩:∃m,m=c.ps.length:=⟨_,rfl⟩;rw[<-I]at u V c1 A hl;have d2:au _:=I;clear I;go_enter func99,ntmps99
 go_wp2_with fail
 go_quiet (fail)
 go_wp2_with fail
 refine(U.out _).mono ?_;rintro e w1 ⟨rfl,J,X⟩;have Y:au _:=J;have Z:au (Fr (xY c g7 g8) w w1):=((Fr.drewN (Fr.refl _ w) nq).trans X:Fr _ _ _);obtain⟨k1,k3,k6,k7,k8,k9,d3,kf⟩:=J.cells;have a0:(jY c s b).now.length=s.now.length:=by show(s.now.set _ _).length=_;rw[iH]
 rw[a0]at k7;have hS:=yM c.rb c.d s.now.length s.now.length (s.at'+1) g7 w1 k6 k7 k9 (by omega) (by omega) (ah _) (by omega) C;have b0:0<s.at'+1-c.d:=by omega
 obtain⟨sl,K⟩:∃x,x=s.at'+1-c.d:=⟨_,rfl⟩;have d4:au _:=K;rw[<-K]at hS b0;clear J X U k1 k3 k6 k7 k8 k9 d3 kf c1 c3 a0 u K;go_wp2_with fail
 refine hS.mono ?_;rintro e w2 ⟨rfl,b1,L⟩;have o:au (fB c w2 (jY c s b) g7 g8):=(by rw[L];exact fB.drewN Y.out b1:fB _ _ _ _ _);have d5:au (Fr (xY c g7 g8) w w2):=(by rw[L];exact Fr.drewN Z.out b1:Fr _ _ _);clear hS L Y Z;go_wp2_with fail
 have b2:=CU c s t g7 g8 b (World.drew w2) hc (fB.drewN o.out 1) S hy hd hn C;have v:=b2.mono (fun e w' h=>(h.resolve_right (fun⟨h1,_⟩=>by rw[D]at h1;cases h1)));rw[<-d4.out]at v;unfold xQ at v;have b3:∀w',fB c w' (jY c s b) g7 g8->w'.cell? ⟨c.rb,1,none⟩=some (.slice (some ⟨g,0,none⟩) m cap)/\w'.cell? ⟨c.rb,2,none⟩=some (.func (.func 65) #[.pointer (some ⟨c.vb,0,none⟩)] #[])/\w'.cell? ⟨c.rb,3,none⟩=some (.int .i64 (pt:Int))/\w'.cell? ⟨c.rb,4,none⟩=some (.int .i64 (s.y:Int))/\w'.cell? ⟨g,pt*6,none⟩=some (.int .i64 (t.x:Int))/\w'.cell? ⟨g,pt*6+1,none⟩=some (.int .i64 (t.sx:Int))/\w'.cell? ⟨g,pt*6+2,none⟩=some (.int .i64 (t.y:Int))/\w'.cell? ⟨g,pt*6+3,none⟩=some (.int .i64 (t.sy:Int))/\w'.cell? ⟨g,pt*6+4,none⟩=some (.int .i64 (t.W:Int))/\w'.cell? ⟨g,pt*6+5,none⟩=some (.int .i64 (t.H:Int)):=fun w' h=>by
  obtain⟨g',B,l,q,f⟩:=jf h.parts s.pt t S;have e1:g'=g/\B=cap:=by have:=F.out.symm.trans l;simp at this;exact⟨this.1.symm,this.2.symm⟩
  obtain⟨rfl,rfl⟩:=e1;rw[d1.out];have q1:=(cell_of h.rows 1).1;have q2:=(cell_of h.rows 2).1;have q3:=(cell_of h.rows 3).1;have q4:=(cell_of h.rows 4).1;rw[l,<-d2.out]at q1;refine⟨by simpa using q1,by simpa [Nu]using q2,by simpa [jY]using q3,by simpa [jY]using q4,?_,?_,?_,?_,?_,?_⟩
  ·simpa [lQ]using f 0 (by omega)
  ·simpa [lQ]using f 1 (by omega)
  ·simpa [lQ]using f 2 (by omega)
  ·simpa [lQ]using f 3 (by omega)
  ·simpa [lQ]using f 4 (by omega)
  ·simpa [lQ]using f 5 (by omega)
 obtain⟨j1,j2,j3,j4,r0,r1,r2,r3,r4,r5⟩:=b3 w2 o.out;have n:=ak (fB.rows o.out);obtain⟨i,j⟩:g<w2.heap.size/\g≠c.gp:=by
  have b4:=fB.parts o.out;obtain⟨g',B,l,q,_⟩:=jf b4 s.pt t S;have e1:g'=g:=by have:=F.out.symm.trans l;simp at this;exact this.1.symm
  rw[e1]at q;refine⟨q,fun e=>f_ b4 (fB.dQ o.out) (by decide) ?_⟩;rw[F.out,e];rfl
 have d6:au (∀w':af,(∀k,k<w2.heap.size->k≠c.gp->w'.heap[k]?=w2.heap[k]?)->w'.cell? ⟨c.rb,1,none⟩=some (.slice (some ⟨g,0,none⟩) m cap)/\w'.cell? ⟨c.rb,2,none⟩=some (.func (.func 65) #[.pointer (some ⟨c.vb,0,none⟩)] #[])/\w'.cell? ⟨c.rb,3,none⟩=some (.int .i64 (pt:Int))/\w'.cell? ⟨c.rb,4,none⟩=some (.int .i64 (s.y:Int))/\w'.cell? ⟨g,pt*6,none⟩=some (.int .i64 (t.x:Int))/\w'.cell? ⟨g,pt*6+1,none⟩=some (.int .i64 (t.sx:Int))/\w'.cell? ⟨g,pt*6+2,none⟩=some (.int .i64 (t.y:Int))/\w'.cell? ⟨g,pt*6+3,none⟩=some (.int .i64 (t.sy:Int))/\w'.cell? ⟨g,pt*6+4,none⟩=some (.int .i64 (t.W:Int))/\w'.cell? ⟨g,pt*6+5,none⟩=some (.int .i64 (t.H:Int))):=(fun w' e=>⟨(aQ (e _ n a4)).trans j1,(aQ (e _ n a4)).trans j2,(aQ (e _ n a4)).trans j3,(aQ (e _ n a4)).trans j4,(aQ (e _ i j)).trans r0,(aQ (e _ i j)).trans r1,(aQ (e _ i j)).trans r2,(aQ (e _ i j)).trans r3,(aQ (e _ i j)).trans r4,(aQ (e _ i j)).trans r5⟩:∀w',_);have d7:au _:=v;clear b2 v b3;have f1:(pt:Int)<(m:Int):=by omega
 go_region_held3 (fun w'=>w'.cell? ⟨c.rb,1,none⟩=some (.slice (some ⟨g,0,none⟩) m cap)/\w'.cell? ⟨c.rb,2,none⟩=some (.func (.func 65) #[.pointer (some ⟨c.vb,0,none⟩)] #[])/\w'.cell? ⟨c.rb,3,none⟩=some (.int .i64 (pt:Int))/\w'.cell? ⟨c.rb,4,none⟩=some (.int .i64 (s.y:Int))/\w'.cell? ⟨g,pt*6,none⟩=some (.int .i64 (t.x:Int))/\w'.cell? ⟨g,pt*6+1,none⟩=some (.int .i64 (t.sx:Int))/\w'.cell? ⟨g,pt*6+2,none⟩=some (.int .i64 (t.y:Int))/\w'.cell? ⟨g,pt*6+3,none⟩=some (.int .i64 (t.sy:Int))/\w'.cell? ⟨g,pt*6+4,none⟩=some (.int .i64 (t.W:Int))/\w'.cell? ⟨g,pt*6+5,none⟩=some (.int .i64 (t.H:Int)))
  (first|go_keep|exact d6.out _ (fun k hk u=>M.block k hk u))
  (first
    |(go_at_call 65;refine aU d7.out ?_;rintro e w3 ⟨d8,r,rfl,N,M⟩))
 have e2:d8=a:=by rw[D]at r;exact(eu r).symm
 have d9:a.length=s.dQ.length:=wR _ _ _ _ _ _ D;rw[e2]at N;have z:=fB.S_ (fB.drewN o.out 1) a d9 N M;have e0:au (fB c w3 {jY c s b with dQ:=a} g7 g8):=(z.1:fB _ _ _ _ _);have e4:au (Fr (xY c g7 g8) w w3):=(Fr.trans (Fr.drewN d5.out 1) z.2:Fr _ _ _);obtain⟨u1,u3,u6,u7,u8,u9,u10,uf⟩:=z.1.cells;have b5:({jY c s b with dQ:=a}:d_).now.length=s.now.length:=by show(s.now.set _ _).length=_;rw[iH]
 rw[b5]at u7;have O:=uS c.rb (s.at'+1) s.now.length s.now.length (some ⟨g7,0,none⟩) w3 u9 u7;have b6:decide (s.at'+1=s.now.length)=true:=aZ c2;rw[b6]at O;have e5:au _:=O;clear O b6 z N M r e2 b5 u1 u3 u6 u7 u8 u9 u10 uf j1 j2 j3 j4 r0 r1 r2 r3 r4 r5;go_wp2_with fail
 refine aU e5.out ?_;rintro e w5 ⟨rfl,b7,Q⟩;have b8:au (fB c w5 {jY c s b with dQ:=a} g7 g8):=(by rw[Q];exact fB.drewN e0.out b7:fB _ _ _ _ _);have e6:au (Fr (xY c g7 g8) w w5):=(by rw[Q];exact Fr.drewN e4.out b7:Fr _ _ _);clear Q;have b9:au _:=HG.out w5 b8.out;clear HG;go_wp2_with fail
 refine aU b9.out ?_;rintro e w6 ⟨rfl,hR⟩;have HR:au _:=hR;clear hR b9;go_wp2_with fail
 go_ret;exact⟨rfl,w5,b8.out,e6.out,HR.out⟩
theorem Yw(c:Cn)(s:d_)(t:jX)(g7 g8:Nat)(w:af)(j:c.Ok)(h:fB c w s g7 g8)(l:c.ps[s.pt]?=some t)(m:s.y+1<t.H)(i:s.told<=100000000):
 aH prog 123 #[.pointer (some ⟨c.rb,0,none⟩)] w fun e w'=>e= .returned (.tuple #[])/\∃a b,fB c w' (kG c.P t s) a b/\Fr (xY c g7 g8) w w'/\(∀k,k=a\/k=b->k=g7\/k=g8\/w.heap.size<=k):=by
 obtain⟨A,B,C,o,D,E,F,G⟩:=j.prt t (iY l);obtain⟨p,q,I,r,J,K,L,M,N,u,v,x,z⟩:=h.apart;refine(Vd c.rb c.bits s.pt s.y s.told c.d s.at' s.f c.base s.now.length g7 g8 c.pv (Nu c.vb) c.ps t w h.rows h.parts l j.len m o i).mono ?_;rintro e w' ⟨rfl,h1,h2⟩;have n:Fr (xY c g7 g8) w w':=h2.mono (fun k e=> .inl e);have e:kG c.P t s={s with told:=s.told+1,y:=s.y+1,now:=s.qf,qf:=s.now,at':=0}:=by unfold kG;rw[aG m]
 rw[e];refine⟨rfl,g8,g7,h.still n ?_ (h.qf.over (h2.block _ (ak h.qf) q.symm)) (h.now.over (h2.block _ (ak h.now) p.symm)) h.len.symm h.ne.symm ((h2.block _ (ak h.dQ) r.symm).trans h.dQ) rfl h.ab h.nb h.fb,n,fun k g=>by rcases g with g|g<;>simp[g]⟩;rw[h1];show some (dH _ _ _ _ _ _ _ _ _ _ _)=some (dH _ _ _ _ _ _ _ (.slice _ s.qf.length s.qf.length) (.slice _ s.qf.length s.qf.length) _ _);rw[h.len]
theorem Vf(l:xX)(c:Cn)(s:d_)(t:jX)(g7 g8:Nat)(w:af)(i:c.Ok)(h:fB c w s g7 g8)(r:c.ps[s.pt]?=some t)(G:s.y<t.H)(u:¬s.y+1<t.H)(m:s.told<=100000000):
 aH prog 123 #[.pointer (some ⟨c.rb,0,none⟩)] w fun e w'=>e= .returned (.tuple #[])/\∃n o,fB c w' (kG c.P t s) n o/\Fr (xY c g7 g8) w w'/\(∀k,k=n\/k=o->k=g7\/k=g8\/w.heap.size<=k):=by
 obtain⟨X,Y,Z,C,p5,p6,p7,p8⟩:=i.prt t (iY r);obtain⟨I,J,a3,D,a5,a6,a7,a8,a9,K,L,M,N⟩:=h.apart;have E:s.pt<c.ps.length:=(List.getElem?_eq_some_iff.1 r).1;have v:=i.bd;have F:kG c.P t s=ru c.P {s with told:=s.told+1,pt:=s.pt+1,y:=0}:=by unfold kG;rw[ax u]
 have a:∀w2,Fr (fun k=>k=c.rb) w w2->w2.ownsRow c.base 188 6 c.pv c.ps.length (bV c.ps):=fun w2 j=>fE h.parts (fun k b=>j.block k (h.parts.lt k b).2 (fun e=>f_ h.parts h.rows (by decide) (e▸b)));cases p:c.ps[s.pt+1]? with
 |none=>
  have O:s.pt+1=c.ps.length:=by have:=List.getElem?_eq_none_iff.1 p;omega
  have z:kG c.P t s={s with told:=s.told+1,pt:=s.pt+1,y:=0}:=by rw[F];unfold ru;have:c.P.parts[s.pt+1]?=none:=p;dsimp only;rw[this]
  refine(Ns c.rb c.bits s.pt s.y s.told c.d s.at' s.f c.base c.pv (Nu c.vb) _ _ c.ps t w h.rows h.parts r i.len u C (by omega) m (fun w2 w'=> ∃nq,w'=w2.drewN nq) (fun w2 h1 h2=>Hl c.rb c.bits (s.pt+1) 0 (s.told+1) c.d s.at' s.f c.base c.pv (Nu c.vb) _ _ c.ps w2 h1 (a w2 h2) O i.len)).mono ?_;rintro e w' ⟨rfl,w2,h1,h2,nq,rfl⟩;have j:Fr (xY c g7 g8) w (w2.drewN nq):=(h2.mono (fun k e=> .inl e)).drewN nq;rw[z];exact⟨rfl,g7,g8,h.still j h1 (h.now.over (h2.block _ (ak h.now) I.symm)) (h.qf.over (h2.block _ (ak h.qf) J.symm)) h.len h.ne ((h2.block _ (ak h.dQ) D.symm).trans h.dQ) rfl h.nb h.ab h.fb,j,fun k b=>by rcases b with b|b<;>simp[b]⟩
 |some g=>
  have A:g∈c.ps:=iY p;have z:kG c.P t s={s with told:=s.told+1,pt:=s.pt+1,y:=0,now:=List.replicate (c.d+bJ c.bits g.W) 0,qf:=List.replicate (c.d+bJ c.bits g.W) 0,at':=0,f:=0}:=by rw[F];unfold ru;have:c.P.parts[s.pt+1]?=some g:=p;dsimp only;rw[this];rfl
  refine(Ns c.rb c.bits s.pt s.y s.told c.d s.at' s.f c.base c.pv (Nu c.vb) _ _ c.ps t w h.rows h.parts r i.len u C (by omega) m _ (fun w2 h1 h2=>l c.rb c.bits (s.pt+1) 0 (s.told+1) c.d s.at' s.f c.base c.pv (Nu c.vb) _ _ c.ps g w2 h1 (a w2 h2) p i.len v.2.2.2.2.2.1 (i.prt g A).2.1)).mono ?_;rintro e w' ⟨rfl,w2,h1,h2,u7,u8,Q,x2,x3,R,S,T,U⟩;have q:Fr (fun k=>k=c.rb) w w':=h2.trans U;have j:Fr (xY c g7 g8) w w':=q.mono (fun k e=> .inl e);have V:=h2.size;rw[z];refine⟨rfl,u7,u8,h.still j ?_ S T rfl Q ((q.block _ (ak h.dQ) D.symm).trans h.dQ) rfl (fun x B=>by have:=(List.mem_replicate.1 B).2;omega) (fun x B=>by have:=(List.mem_replicate.1 B).2;omega) (by show 0<=255;omega),j,fun k b=>by rcases b with b|b<;>omega⟩;rw[R];show some (dH _ _ _ _ _ _ _ _ _ _ _)=some (dH _ _ _ _ _ _ _ (.slice _ (List.replicate (c.d+bJ c.bits g.W) 0).length (List.replicate (c.d+bJ c.bits g.W) 0).length) (.slice _ (List.replicate (c.d+bJ c.bits g.W) 0).length (List.replicate (c.d+bJ c.bits g.W) 0).length) _ _);rw[uj]
def ad6(c:Cn)(s:d_)(g7 g8 b:Nat)(w:af)(e:Ending)(w':af):Prop:=
 (∃g d f,rX c.P s b=some g/\e= .returned .nilIface/\fB c w' g d f/\DD c g/\g.told<=s.told+1/\Fr (xY c g7 g8) w w'/\(∀k,k=d\/k=f->k=g7\/k=g8\/w.heap.size<=k))\/
 (rX c.P s b=none/\(∃T a,e= .returned (.iface T (.pointer (some a)))/\iQ w' T a)/\w'.cell? ⟨c.rb,5,none⟩=some (.int .i64 (s.told:Int))/\Fr (xY c g7 g8) w w')
theorem Qy(P:xU)(t:jX)(s:d_):(kG P t s).told=s.told+1:=by
 unfold kG;split
 ·rfl
 ·unfold ru;split<;>rfl
theorem Qz(c:Cn)(m:c.Ok)(t:jX)(s:d_)(h:c.ps[s.pt]?=some t)(n:s.now.length=c.d+bJ c.bits t.W)(o:s.qf.length=s.now.length):DD c (kG c.P t s):=by
 have i:s.pt<c.ps.length:=(List.getElem?_eq_some_iff.1 h).1;unfold kG;split
 ·next j=>
  refine⟨by show s.pt<=_;omega,fun b a=> ?_⟩;have e:b=t:=by have:c.ps[s.pt]?=some b:=a;rw[h]at this;exact(eu this).symm
  subst e;exact⟨j,o.trans n,.inl rfl⟩
 ·next j=>
  unfold ru;dsimp only;cases k:c.P.parts[s.pt+1]? with
  |none=>dsimp only;refine⟨by show s.pt+1<=_;omega,fun b a=> ?_⟩;have g:c.ps[s.pt+1]?=some b:=a;have f:c.ps[s.pt+1]?=none:=k;rw[g]at f;cases f
  |some l=>
   dsimp only;refine⟨by show s.pt+1<=_;omega,fun b a=> ?_⟩;have g:c.ps[s.pt+1]?=some b:=a;have f:c.ps[s.pt+1]?=some l:=k;have e3:b=l:=by rw[g]at f;exact eu f
   subst e3;have:=m.prt b (iY g);exact⟨by show 0<b.H;omega,by show(List.replicate _ 0).length=_;rw[uj];rfl,.inl rfl⟩
theorem QA(F:xX)(c:Cn)(s:d_)(g7 g8 b:Nat)(w:af)(m:c.Ok)(h:fB c w s g7 g8)(hp:DD c s)(hb:b<=255)(A:s.told<=100000000):
 aH prog 99 #[.pointer (some ⟨c.rb,0,none⟩),.int .u8 (b:Int)] w (ad6 c s g7 g8 b w):=by
 have G:=m.bd;have Q:=ak h.rows;have ct:w.cell? ⟨c.rb,5,none⟩=some (.int .i64 (s.told:Int)):=by simpa [dH]using(cell_of h.rows 5).1
 have v:∀w',Fr (fun _=>False) w w'->w'.cell? ⟨c.rb,5,none⟩=some (.int .i64 (s.told:Int))/\Fr (xY c g7 g8) w w':=fun w' l=>⟨(aQ (l.block _ Q (fun x=>x))).trans ct,l.mono (fun k e=>e.elim)⟩;cases i:c.ps[s.pt]? with
 |none=>
  have hl:s.pt=c.ps.length:=by have:=List.getElem?_eq_none_iff.1 i;have:=hp.pt;omega
  have e:rX c.P s b=none:=by unfold rX;rw[show c.P.parts[s.pt]?=none from i]
  refine(Qw c s g7 g8 b w m h hl).mono ?_;rintro I w' ⟨⟨a,rfl⟩,l⟩;exact .inr ⟨e,⟨_,a,rfl,iQ.mk _ _⟩,v w' l⟩
 |some t=>
  have z:s.pt<c.ps.length:=(List.getElem?_eq_some_iff.1 i).1;obtain⟨E,B,j⟩:=hp.row t i;have J:=m.prt t (iY i);have a0:1<=bJ c.bits t.W:=by have:1<=t.W*c.bits:=bD J.1 G.2.2.2.2.1;unfold bJ;omega
  have a1:bJ c.bits t.W<=100000000:=by have:t.W*c.bits<=1048576*64:=bD J.2.1 G.2.2.2.2.2.1;unfold bJ;omega
  have R:c.P.parts[s.pt]?=some t:=i;rcases j with j|⟨hd,C⟩
  ·by_cases S:4<b
   ·have e:rX c.P s b=none:=by unfold rX;rw[R];dsimp only;rw[aG j,aG S]
    refine(Kq c s g7 g8 b w m h z j S hb).mono ?_;rintro I w' ⟨⟨a,rfl⟩,l⟩;exact .inr ⟨e,⟨_,a,rfl,iQ.mk _ _⟩,v w' l⟩
   ·have e:rX c.P s b=some {s with f:=b,at':=c.d}:=by unfold rX;rw[R];dsimp only;rw[aG j,ax S];rfl
    refine(Qx c s g7 g8 b w m h z j (by omega) (by omega) (by omega)).mono ?_;rintro I w' ⟨rfl,hm,l⟩;refine .inl ⟨_,g7,g8,e,rfl,hm,⟨hp.pt,fun K D=> ?_⟩,by show s.told<=_;omega,l,fun k n=>by rcases n with n|n<;>simp[n]⟩;have U:K=t:=by have:c.ps[s.pt]?=some K:=D;rw[i]at this;exact(eu this).symm
    subst U;exact⟨E,B,.inr ⟨ah _,by show c.d<s.now.length;omega⟩⟩
  ·have L:¬s.at'=0:=by omega
   have e:rX c.P s b=(vM c.P t s.y (WH c s b) s.dQ).map fun g=>if s.at'+1=s.now.length then kG c.P t {jY c s b with dQ:=g}else {jY c s b with dQ:=g}:=by unfold rX;rw[R];dsimp only;rw[ax L];rfl
   cases o:vM c.P t s.y (WH c s b) s.dQ with
   |none=>rw[o]at e;refine(Yu c s t g7 g8 b w m h i E hb hd C (by omega) A o).mono ?_;rintro I w' ⟨⟨T,a,rfl,V⟩,X,l⟩;exact .inr ⟨e,⟨T,a,rfl,V⟩,X,l⟩
   |some g=>
    rw[o]at e;have e:=e;rw[mF]at e;by_cases p:s.at'+1=s.now.length
    ·rw[aG p]at e;have hG:∀w2,fB c w2 {jY c s b with dQ:=g} g7 g8->aH prog 123 #[.pointer (some ⟨c.rb,0,none⟩)] w2 fun e w'=>e= .returned (.tuple #[])/\∃q r,fB c w' (kG c.P t {jY c s b with dQ:=g}) q r/\Fr (xY c g7 g8) w2 w'/\(∀k,k=q\/k=r->k=g7\/k=g8\/w2.heap.size<=k):=fun w2 u=>by
      by_cases M:s.y+1<t.H
      ·exact Yw c _ t g7 g8 w2 m u i M A
      ·exact Vf F c _ t g7 g8 w2 m u i E M A
     refine(abo c s t g7 g8 b g w m h i E hb hd C (by omega) o p _ hG).mono ?_;rintro I w' ⟨rfl,w2,u,N,q,r,Y,Z,O⟩;refine .inl ⟨_,q,r,e,rfl,Y,Qz c m t _ i ?_ u.len,by rw[Qy];exact ah _,N.trans Z,fun k n=> ?_⟩
     ·show(s.now.set _ _).length=_;rw[iH];exact B
     ·have:=O k n;have:=N.size;omega
    ·rw[ax p]at e;refine(Yv c s t g7 g8 b g w m h i E hb hd C (by omega) o p).mono ?_;rintro I w' ⟨rfl,hm,l⟩;refine .inl ⟨_,g7,g8,e,rfl,hm,⟨hp.pt,fun K D=> ?_⟩,by show s.told<=_;omega,l,fun k n=>by rcases n with n|n<;>simp[n]⟩;have U:K=t:=by
      have:c.ps[s.pt]?=some K:=D;rw[i]at this;exact(eu this).symm
     subst U;refine⟨E,?_,.inr ⟨by show c.d<=s.at'+1;omega,?_⟩⟩
     ·show(s.now.set _ _).length=_;rw[iH];exact B
     ·show s.at'+1<(s.now.set _ _).length;rw[iH];omega
theorem abp(f:xX)(c:Cn)(s:d_)(g7 g8 b:Nat)(w:af)(A:c.Ok)(h:fB c w s g7 g8)(hp:DD c s)(hb:b<=255)(n:s.told<=100000000):
 aH prog 70 #[.pointer (some ⟨c.rb,0,none⟩),.int .u8 (b:Int)] w fun e w'=>
  (∃d g i,rX c.P s b=some d/\e= .returned .nilIface/\fB c w' d g i/\DD c d/\d.told<=s.told+1/\Fr (xY c g7 g8) w w'/\(∀k,k=g\/k=i->k=g7\/k=g8\/w.heap.size<=k))\/
  (rX c.P s b=none/\(∃T a,e= .returned (.iface T (.pointer (some a)))/\iQ w' T a)/\Fr (xY c g7 g8) w w'):=by
 have v:=QA f c s g7 g8 b w A h hp hb n;have p:au _:=v;obtain⟨o,q⟩:∃o,o=rX c.P s b:=⟨_,rfl⟩;rw[<-q];have x:au _:=q;clear v q h hp;go_enter func70,ntmps70
 go_wp2_with fail
 refine aU p.out ?_;rintro e w1 (⟨d,u7,u8,j,rfl,hm,hp,y,l,z⟩|⟨j,⟨T,a,rfl,m⟩,B,l⟩)
 ·have r:au (o=some d):=(by rw[x.out];exact j:_=_);have C:au _:=hm;have D:au _:=hp;have t:au _:=l;have E:au _:=z;have F:au _:=y;clear hm hp l z y p j;go_wp2_with fail
  go_ret;exact .inl ⟨d,u7,u8,r.out,rfl,C.out,D.out,F.out,t.out,E.out⟩
 ·have r:au (o=none):=(by rw[x.out];exact j:_=_);have u:au _:=m;have t:au _:=l;clear m l p j;go_wp2_with fail
  refine(at_one _ _ _ _ _).mono ?_;rintro e w2 ⟨rfl,rfl⟩;go_wp2_with fail
  go_ret;exact .inr ⟨r.out,⟨_,_,rfl,iQ.wW u.out _ _ _ rfl⟩,Fr.alloc t.out _⟩
def cnF(c:Cn)(g7 g8 k:Nat):Prop:=xY c g7 g8 k\/k=c.vb\/k=c.kb\/c.ev.ownBlock=some k\/c.cv.ownBlock=some k\/c.pv.ownBlock=some k
def FN(out:List UInt8):List Nat:=out.map UInt8.toNat
def rwK(c:Cn)(a:d_)(w:af)(out:List UInt8)(F:Nat->Prop):Prop:=∃s g7 g8,mJ c.P (FN out) a=some s/\fB c w s g7 g8/\DD c s/\s.told<=out.length/\F=cnF c g7 g8
def YB(c:Cn)(a:d_)(p:List UInt8):Prop:=mJ c.P (FN p) a=none
theorem fB.lt{c:Cn}{w:af}{s:d_}{g7 g8:Nat}(h:fB c w s g7 g8)(k:Nat)(a:cnF c g7 g8 k):k<w.heap.size:=by
 rcases a with(rfl|rfl|rfl|rfl)|rfl|rfl|a|a|a
 ·exact ak h.rows
 ·exact ak h.dQ
 ·exact ak h.now
 ·exact ak h.qf
 ·exact ak h.can
 ·exact ak h.DZ.oD
 ·exact(h.DZ.lU.lt k a).2
 ·exact(h.DZ.zZ.lt k a).2
 ·exact(h.parts.lt k a).2
theorem fB.over{c:Cn}{w w':af}{s:d_}{g7 g8:Nat}(h:fB c w s g7 g8)(e:∀k,cnF c g7 g8 k->w'.heap[k]?=w.heap[k]?):fB c w' s g7 g8:=by
 refine⟨(e _ (.inl (.inl rfl))).trans h.rows,h.now.over (e _ (.inl (.inr (.inr (.inl rfl))))),h.qf.over (e _ (.inl (.inr (.inr (.inr rfl))))),h.len,h.ne,(e _ (.inr (.inl rfl))).trans h.can,(e _ (.inl (.inr (.inl rfl)))).trans h.dQ,h.pl,?_,?_,h.cvg,h.nb,h.ab,h.fb⟩
 ·exact fE h.parts (fun k a=>e k (.inr (.inr (.inr (.inr (.inr a))))))
 ·refine h.DZ.over (fun k a=> ?_);rcases a with rfl|a|a
  ·exact e _ (.inr (.inr (.inl rfl)))
  ·exact e k (.inr (.inr (.inr (.inl a))))
  ·exact e k (.inr (.inr (.inr (.inr (.inl a)))))
theorem CW{w:af}{base:Nat}{S:aW}{z:Nat}{v:ay}{n:Nat}{xs:List ay}(h:w.ownsRow base S z v n xs)(hS:xh S=true){k:Nat}{cur:Array ay}{T:aW}{f:Nat×Nat}(b:v.ownBlock=some k)(e:w.heap[k]?=some (Obj.cells cur T f)):xh T=true:=by
 by_cases a:T=S
 ·subst a;exact hS
 ·exact absurd b (f_ h e a)
theorem su{w:af}{k:Nat}{cur a:Array ay}{T S:aW}{f b:Nat×Nat}(h:w.heap[k]?=some (Obj.cells a S b))(hS:xh S=true)(e:w.heap[k]?=some (Obj.cells cur T f)):xh T=true:=by rw[h]at e;simp at e;rw[<-e.2.1];exact hS
theorem fB.busy{c:Cn}{w:af}{s:d_}{g7 g8:Nat}(h:fB c w s g7 g8)(k:Nat)(cur:Array ay)(T:aW)(f:Nat×Nat)(a:cnF c g7 g8 k)(e:w.heap[k]?=some (Obj.cells cur T f)):xh T=true:=by
 rcases a with(rfl|rfl|rfl|rfl)|rfl|rfl|a|a|a
 ·exact su h.rows (by decide) e
 ·exact su h.dQ (by decide) e
 ·exact su h.now (by decide) e
 ·exact su h.qf (by decide) e
 ·exact su h.can (by decide) e
 ·exact su h.DZ.oD (by decide) e
 ·exact CW h.DZ.lU (by decide) a e
 ·exact CW h.DZ.zZ (by decide) a e
 ·exact CW h.parts (by decide) a e
theorem Jb(P:xU)(out:List UInt8)(x:UInt8)(a:d_):mJ P (FN (out++[x])) a=(mJ P (FN out) a).bind fun s=>rX P s x.toNat:=by
 unfold FN;rw[List.map_append,oI];congr 1
 funext s
 show(rX P s x.toNat).bind (mJ P [])=_;cases rX P s x.toNat<;>rfl
theorem abr(d:xX)(c:Cn)(g:d_)(base:Nat)(q:c.Ok):(mI c.rb 70 (rwK c g) (YB c g)).Ok base where
 lt:=by rintro w out F ⟨s,g7,g8,_,h,_,_,rfl⟩ k b;exact h.lt k b
 iq:=by rintro w w' out F ⟨s,g7,g8,h1,h,h2,i,rfl⟩ e v;exact⟨s,g7,g8,h1,h.over (fun k b=>e k (.inl b)),h2,i,rfl⟩
 busy:=by rintro w out F ⟨s,g7,g8,h1,h,h2,i,rfl⟩ k cur T f b e;exact h.busy k cur T f b e
 body:=fun args w=>pq func70 (by kernel_rfl) (by kernel_rfl) args w
 call:=by
  rintro w out F x ⟨s,g7,g8,h1,h,h2,i,rfl⟩ y _ _;have r:x.toNat<=255:=by have:=x.toNat_lt;omega
  refine(abp d c s g7 g8 x.toNat w q h h2 r (by omega)).mono ?_;rintro e w' (⟨t,j,l,m,rfl,n,o,z,u,p⟩|⟨m,⟨T,a,rfl,n⟩,o⟩)
  ·refine .inl ⟨rfl,_,⟨t,j,l,?_,n,o,by rw[aK,lq];omega,rfl⟩,u.mono (fun k e=> .inl e),fun k b=> ?_⟩
   ·rw[Jb,h1];exact m
   ·rcases b with(b|b|b|b)|b
    ·exact .inl (.inl (.inl b))
    ·exact .inl (.inl (.inr (.inl b)))
    ·rcases p k (.inl b)with e|e|e
     ·exact .inl (.inl (.inr (.inr (.inl e))))
     ·exact .inl (.inl (.inr (.inr (.inr e))))
     ·exact .inr e
    ·rcases p k (.inr b)with e|e|e
     ·exact .inl (.inl (.inr (.inr (.inl e))))
     ·exact .inl (.inl (.inr (.inr (.inr e))))
     ·exact .inr e
    ·exact .inl (.inr b)
  ·refine .inr ⟨T,a,rfl,n,?_,o.mono (fun k e=> .inl e)⟩;show mJ c.P (FN (out++[x])) g=none;rw[Jb,h1];exact m
open gI (b_)
def lD(W H:Nat)(x:Nat×Nat×Nat×Nat):jX:=⟨x.1,x.2.1,x.2.2.1,x.2.2.2,cu W x.1 x.2.1,cu H x.2.2.1 x.2.2.2⟩
def uV(W H:Nat)(l:List (Nat×Nat×Nat×Nat)):List jX:=(l.map (lD W H)).filter fun t=>decide (0<t.W)&&decide (0<t.H)
def dU(W H:Nat)(I:Bool):List jX:=if I then uV W H (b_ 1)else [⟨0,1,0,1,W,H⟩]
def Kt:List Nat:=[0,8,0,8,4,8,0,8,0,4,4,8,2,4,0,4,0,2,2,4,1,2,0,2,0,1,1,2]
def kZ(w:af):Prop:=∀i,i<28->w.cell? ⟨5,i,none⟩=some (.int .u8 ((Kt.getD i 0:Nat):Int))
theorem abt:(prog.info? 188).map (fun i=>(i.zero,i.size,i.bytes))=some (some (.agg #[.int .i64 0,.int .i64 0,.int .i64 0,.int .i64 0,.int .i64 0,.int .i64 0]),6,48):=by kernel_rfl
theorem n_{wr:af}{ops:Array Oper}{rest:List Oper}{o:Oper}{a:Act}{Q:Exit->Act->af->Prop}(l:o.guard=none)(s x:Operand)
 (r:o.op= .call {callee:= .builtin .append,args:= #[s,x],argTypes:= #[181,181]}) (base:Nat) (v:ay) (n:Nat) (xs:List ay) (d e f g i k:Int)
 (c:wr.ownsRow base 188 6 v n xs) (t:a.eval s=v) (w:a.eval x= .slice (some ⟨wr.heap.size,0,none⟩) 1 1) (z:n<=1000) (hb:base<=wr.heap.size)
 (h:∀v' w',w'.ownsRow base 188 6 v' (n+1) (xs++[.int .i64 d,.int .i64 e,.int .i64 f,.int .i64 g,.int .i64 i,.int .i64 k])->(wr.alloc (.cells #[.int .i64 d,.int .i64 e,.int .i64 f,.int .i64 g,.int .i64 i,.int .i64 k] 188)).grownBy w' v.ownBlock->wpList prog ops Q rest (a.put o.dst v') w'):
 wpList prog ops Q (o::rest) a (wr.alloc (.cells #[.int .i64 d,.int .i64 e,.int .i64 f,.int .i64 g,.int .i64 i,.int .i64 k] 188)):=by
 obtain⟨y,hi,m,p,q⟩:=info_parts abt;refine wpList_append_own _ l s x 181 r base 188 y _ 6 48 underlying181 hi m p q rfl (by decide) v n xs t (c.alloc _) ⟨wr.heap.size,0,none⟩ 1 1 [.int .i64 d,.int .i64 e,.int .i64 f,.int .i64 g,.int .i64 i,.int .i64 k] w rfl ?_ ?_ ?_ ?_ ?_ ?_
 ·intro j u b;match j,b with
  |0,b=>simp at b;subst b;simp[Addr.add]
  |1,b=>simp at b;subst b;simp[Addr.add]
  |2,b=>simp at b;subst b;simp[Addr.add]
  |3,b=>simp at b;subst b;simp[Addr.add]
  |4,b=>simp at b;subst b;simp[Addr.add]
  |5,b=>simp at b;subst b;simp[Addr.add]
 ·intro u hu;simp at hu;rcases hu with rfl|rfl|rfl|rfl|rfl|rfl<;>rfl
 ·unfold maxLen;omega
 ·omega
 ·simp;omega
 ·intro v' w' h1 h2 _;exact h v' w' h1 h2
theorem ND(W H D K:Nat)(w:af)(hW:W<=1048576)(hH:H<=1048576):
 aH prog 92 #[qc W H D K false] w fun e w'=> ∃v,e= .returned v/\w'.ownsRow w.heap.size 188 6 v (dU W H false).length (bV (dU W H false))/\aA w.heap.size w w':=by
 unfold qc;go_enter func92,ntmps92
 go_wp2_with fail
 go_ret;refine⟨_,rfl,⟨rfl,.inr ⟨_,1,#[.int .i64 0,.int .i64 1,.int .i64 0,.int .i64 1,.int .i64 (W:Int),.int .i64 (H:Int)],rfl,by simp,?_,ah _,by unfold maxLen;omega,rfl,rfl⟩⟩,?_⟩
 ·have:=aP (w.alloc (.cells #[.int .i64 (W:Int),.int .i64 (H:Int),.int .i64 (D:Int),.int .u8 (K:Int),.bool false] 102)) (.cells #[.int .i64 0,.int .i64 1,.int .i64 0,.int .i64 1,.int .i64 (W:Int),.int .i64 (H:Int)] 188);simpa using this
 ·exact((aV w.heap.size w).alloc (ah _) _).alloc (by simp) _
theorem YC(w:af):(Instr.index 212 (.agg #[.int .u8 0,.int .u8 8,.int .u8 0,.int .u8 8,.int .u8 4,.int .u8 8,.int .u8 0,.int .u8 8,.int .u8 0,.int .u8 4,.int .u8 4,.int .u8 8,.int .u8 2,.int .u8 4,.int .u8 0,.int .u8 4,.int .u8 0,.int .u8 2,.int .u8 2,.int .u8 4,.int .u8 1,.int .u8 2,.int .u8 0,.int .u8 2,.int .u8 0,.int .u8 1,.int .u8 1,.int .u8 2]) (.int .i64 0)).run prog w= .ok (.agg #[.int .u8 0,.int .u8 8,.int .u8 0,.int .u8 8]) w:=by kernel_rfl
theorem YD(w:af):(Instr.index 212 (.agg #[.int .u8 0,.int .u8 8,.int .u8 0,.int .u8 8,.int .u8 4,.int .u8 8,.int .u8 0,.int .u8 8,.int .u8 0,.int .u8 4,.int .u8 4,.int .u8 8,.int .u8 2,.int .u8 4,.int .u8 0,.int .u8 4,.int .u8 0,.int .u8 2,.int .u8 2,.int .u8 4,.int .u8 1,.int .u8 2,.int .u8 0,.int .u8 2,.int .u8 0,.int .u8 1,.int .u8 1,.int .u8 2]) (.int .i64 1)).run prog w= .ok (.agg #[.int .u8 4,.int .u8 8,.int .u8 0,.int .u8 8]) w:=by kernel_rfl
theorem YE(w:af):(Instr.index 212 (.agg #[.int .u8 0,.int .u8 8,.int .u8 0,.int .u8 8,.int .u8 4,.int .u8 8,.int .u8 0,.int .u8 8,.int .u8 0,.int .u8 4,.int .u8 4,.int .u8 8,.int .u8 2,.int .u8 4,.int .u8 0,.int .u8 4,.int .u8 0,.int .u8 2,.int .u8 2,.int .u8 4,.int .u8 1,.int .u8 2,.int .u8 0,.int .u8 2,.int .u8 0,.int .u8 1,.int .u8 1,.int .u8 2]) (.int .i64 2)).run prog w= .ok (.agg #[.int .u8 0,.int .u8 4,.int .u8 4,.int .u8 8]) w:=by kernel_rfl
theorem YF(w:af):(Instr.index 212 (.agg #[.int .u8 0,.int .u8 8,.int .u8 0,.int .u8 8,.int .u8 4,.int .u8 8,.int .u8 0,.int .u8 8,.int .u8 0,.int .u8 4,.int .u8 4,.int .u8 8,.int .u8 2,.int .u8 4,.int .u8 0,.int .u8 4,.int .u8 0,.int .u8 2,.int .u8 2,.int .u8 4,.int .u8 1,.int .u8 2,.int .u8 0,.int .u8 2,.int .u8 0,.int .u8 1,.int .u8 1,.int .u8 2]) (.int .i64 3)).run prog w= .ok (.agg #[.int .u8 2,.int .u8 4,.int .u8 0,.int .u8 4]) w:=by kernel_rfl
theorem YG(w:af):(Instr.index 212 (.agg #[.int .u8 0,.int .u8 8,.int .u8 0,.int .u8 8,.int .u8 4,.int .u8 8,.int .u8 0,.int .u8 8,.int .u8 0,.int .u8 4,.int .u8 4,.int .u8 8,.int .u8 2,.int .u8 4,.int .u8 0,.int .u8 4,.int .u8 0,.int .u8 2,.int .u8 2,.int .u8 4,.int .u8 1,.int .u8 2,.int .u8 0,.int .u8 2,.int .u8 0,.int .u8 1,.int .u8 1,.int .u8 2]) (.int .i64 4)).run prog w= .ok (.agg #[.int .u8 0,.int .u8 2,.int .u8 2,.int .u8 4]) w:=by kernel_rfl
theorem YH(w:af):(Instr.index 212 (.agg #[.int .u8 0,.int .u8 8,.int .u8 0,.int .u8 8,.int .u8 4,.int .u8 8,.int .u8 0,.int .u8 8,.int .u8 0,.int .u8 4,.int .u8 4,.int .u8 8,.int .u8 2,.int .u8 4,.int .u8 0,.int .u8 4,.int .u8 0,.int .u8 2,.int .u8 2,.int .u8 4,.int .u8 1,.int .u8 2,.int .u8 0,.int .u8 2,.int .u8 0,.int .u8 1,.int .u8 1,.int .u8 2]) (.int .i64 5)).run prog w= .ok (.agg #[.int .u8 1,.int .u8 2,.int .u8 0,.int .u8 2]) w:=by kernel_rfl
theorem YI(w:af):(Instr.index 212 (.agg #[.int .u8 0,.int .u8 8,.int .u8 0,.int .u8 8,.int .u8 4,.int .u8 8,.int .u8 0,.int .u8 8,.int .u8 0,.int .u8 4,.int .u8 4,.int .u8 8,.int .u8 2,.int .u8 4,.int .u8 0,.int .u8 4,.int .u8 0,.int .u8 2,.int .u8 2,.int .u8 4,.int .u8 1,.int .u8 2,.int .u8 0,.int .u8 2,.int .u8 0,.int .u8 1,.int .u8 1,.int .u8 2]) (.int .i64 6)).run prog w= .ok (.agg #[.int .u8 0,.int .u8 1,.int .u8 1,.int .u8 2]) w:=by kernel_rfl
def eU(W H i:Nat):List jX:=uV W H ((b_ 1).take i)
theorem qH(W H i:Nat)(x:Nat×Nat×Nat×Nat)(h:(b_ 1)[i]?=some x):eU W H (i+1)=if 0<cu W x.1 x.2.1/\0<cu H x.2.2.1 x.2.2.2 then eU W H i++[lD W H x]else eU W H i:=by
 unfold eU uV;rw[List.take_add_one,h,List.map_append,List.filter_append];show _++(List.filter _ [lD W H x])=_;by_cases h1:0<cu W x.1 x.2.1/\0<cu H x.2.2.1 x.2.2.2
 ·rw[aG h1,List.filter_cons_of_pos (by show(decide (0<cu W x.1 x.2.1)&&decide (0<cu H x.2.2.1 x.2.2.2))=true;simp[h1.1,h1.2])];rfl
 ·rw[ax h1,List.filter_cons_of_neg (by show¬(decide (0<cu W x.1 x.2.1)&&decide (0<cu H x.2.2.1 x.2.2.2))=true;simp;omega)];simp
theorem NF(W H i:Nat):(eU W H i).length<=i:=by unfold eU uV;refine aY (List.length_filter_le _ _) ?_;rw[kT,eH];omega
theorem NG(e f t:Nat)(a:1<=t):cu e f t<=e:=by
 unfold cu;split
 ·omega
 ·have:=Nat.div_le_self (e-f-1) t;omega
theorem adF:(prog.info? 212).map (fun i=>i.size)=some 28:=by kernel_rfl
theorem kZ.range{w:af}(h:kZ w):w.rangeAt 5 0 [.int .u8 0,.int .u8 8,.int .u8 0,.int .u8 8,.int .u8 4,.int .u8 8,.int .u8 0,.int .u8 8,.int .u8 0,.int .u8 4,.int .u8 4,.int .u8 8,.int .u8 2,.int .u8 4,.int .u8 0,.int .u8 4,.int .u8 0,.int .u8 2,.int .u8 2,.int .u8 4,.int .u8 1,.int .u8 2,.int .u8 0,.int .u8 2,.int .u8 0,.int .u8 1,.int .u8 1,.int .u8 2]:=by
 intro j v a;rw[fQ];have c:j<28:=by
  rcases bW j 28 with h|h
  ·exact h
  ·rw[dD (by simpa using h)]at a;cases a
 refine(h j c).trans ?_;rw[<-a];have e:([.int .u8 0,.int .u8 8,.int .u8 0,.int .u8 8,.int .u8 4,.int .u8 8,.int .u8 0,.int .u8 8,.int .u8 0,.int .u8 4,.int .u8 4,.int .u8 8,.int .u8 2,.int .u8 4,.int .u8 0,.int .u8 4,.int .u8 0,.int .u8 2,.int .u8 2,.int .u8 4,.int .u8 1,.int .u8 2,.int .u8 0,.int .u8 2,.int .u8 0,.int .u8 1,.int .u8 1,.int .u8 2]:List ay)=Kt.map fun(x:Nat)=> .int .u8 ((x:Nat):Int):=rfl;have b:j<Kt.length:=c;rw[e,fH,ag,aB b];rfl
theorem wX{w wr a:af}{b hd:Obj}{cs:Array ay}{pv:ay}{n:Nat}{xs:List ay}(h:a=(wr.alloc b).alloc (.cells cs 188))(c:wr.heap[w.heap.size]?=some hd)(d:wr.ownsRow w.heap.size 188 6 pv n xs)(hb:aA w.heap.size w wr):
 a.heap[wr.heap.size+1]?=some (.cells cs 188 (0,0))/\a.heap[w.heap.size]?=some hd/\a.ownsRow w.heap.size 188 6 pv n xs/\aA w.heap.size w a:=by
 have e:=ak c;subst h;refine⟨?_,?_,(d.alloc _).alloc _,(hb.alloc hb.size _).alloc (by simp;have:=hb.size;omega) _⟩
 ·have:=aP (wr.alloc b) (.cells cs 188);simpa using this
 ·exact((ai _ _ _ (by simp;omega)).trans (ai _ _ _ e)).trans c
theorem wY{w d:af}{hd:Obj}{c:Nat}{f g h i m o a b:ay}{pv:ay}{n:Nat}{xs:List ay}(p:d.heap[c]?=some (.cells #[f,g,h,i,m,o] 188 (0,0)))(q:d.heap[w.heap.size]?=some hd)(r:d.ownsRow w.heap.size 188 6 pv n xs)(hb:aA w.heap.size w d)(s:w.heap.size<c)(j:pv.ownBlock≠some c):
 ((d.setCell ⟨c,4,none⟩ a).setCell ⟨c,5,none⟩ b).heap[c]?=some (.cells #[f,g,h,i,a,b] 188 (0,0))/\((d.setCell ⟨c,4,none⟩ a).setCell ⟨c,5,none⟩ b).heap[w.heap.size]?=some hd/\((d.setCell ⟨c,4,none⟩ a).setCell ⟨c,5,none⟩ b).ownsRow w.heap.size 188 6 pv n xs/\aA w.heap.size w ((d.setCell ⟨c,4,none⟩ a).setCell ⟨c,5,none⟩ b):=by
 refine⟨(bF (bF p 4 _) 5 _).trans (by simp),((aC _ _ (by omega)).trans (aC _ _ (by omega))).trans q,fE r (fun k l=>(aC _ _ (fun e=>j (by rw[<-e];exact l))).trans (aC _ _ (fun e=>j (by rw[<-e];exact l)))),dW (dW hb _ _ (by omega) _) _ _ (by omega) _⟩
theorem qI{w b c:af}{hd o:Obj}{pv:ay}{n:Nat}{xs:List ay}(d:b.heap[w.heap.size]?=some hd)(f:b.ownsRow w.heap.size 188 6 pv n xs)(hb:aA w.heap.size w b)(g:pv.ownBlock≠some w.heap.size)(a:(b.alloc o).grownBy c pv.ownBlock):c.heap[w.heap.size]?=some hd/\aA w.heap.size w c:=by
 have h:=ak d;refine⟨(a.block _ (by simp;omega) (fun e=>g e.symm)).trans ((ai _ _ _ h).trans d),⟨a.os.trans hb.os,a.tape.trans hb.tape,a.output.trans hb.output,?_,fun k i=> ?_⟩⟩
 ·have:=a.size;simp at this;have:=hb.size;omega
 ·have j:=hb.size;refine(a.block k (by simp;omega) (fun e=> ?_)).trans ((ai _ _ _ (by omega)).trans (hb.block k i));have:=(f.lt k e.symm).1;omega
theorem NH(W H D K:Nat)(w:af)(hS:kZ w)(hg:7<=w.heap.size)(hW:W<=1048576)(hH:H<=1048576):
 aH prog 92 #[qc W H D K true] w fun e w'=> ∃v,e= .returned v/\w'.ownsRow w.heap.size 188 6 v (dU W H true).length (bV (dU W H true))/\aA w.heap.size w w':=by
 have a6:dU W H true=eU W H 7:=rfl;rw[a6];unfold qc;have a7:au (∀o,(w.alloc o).rangeAt 5 0 [.int .u8 0,.int .u8 8,.int .u8 0,.int .u8 8,.int .u8 4,.int .u8 8,.int .u8 0,.int .u8 8,.int .u8 0,.int .u8 4,.int .u8 4,.int .u8 8,.int .u8 2,.int .u8 4,.int .u8 0,.int .u8 4,.int .u8 0,.int .u8 2,.int .u8 2,.int .u8 4,.int .u8 1,.int .u8 2,.int .u8 0,.int .u8 2,.int .u8 0,.int .u8 1,.int .u8 1,.int .u8 2]):=(fun o=>kZ.range (fun i hi=>(aQ (ai _ _ _ (by omega))).trans (hS i hi)):∀o,_);clear hS a6;go_enter func92,ntmps92
 go_wp2_with (first
  |(refine wpList_load_mid (by rfl) 212 (.global 5) (by rfl) 5 0 (by rfl) [.int .u8 0,.int .u8 8,.int .u8 0,.int .u8 8,.int .u8 4,.int .u8 8,.int .u8 0,.int .u8 8,.int .u8 0,.int .u8 4,.int .u8 4,.int .u8 8,.int .u8 2,.int .u8 4,.int .u8 0,.int .u8 4,.int .u8 0,.int .u8 2,.int .u8 2,.int .u8 4,.int .u8 1,.int .u8 2,.int .u8 0,.int .u8 2,.int .u8 0,.int .u8 1,.int .u8 1,.int .u8 2] _ (a7.out _) underlying212 rfl adF ?_)
  |fail)
 go_loopw [3,17] (fun pv iv wr=> ∃(i:Nat),i<=7/\iv= .int .i64 (i:Int)/\wr.ownsRow w.heap.size 188 6 pv (eU W H i).length (bV (eU W H i))/\aA w.heap.size w wr/\wr.heap[w.heap.size]?=some (.cells #[.int .i64 (W:Int),.int .i64 (H:Int),.int .i64 (D:Int),.int .u8 (K:Int),.bool true] 102 (0,0))/\pv.ownBlock≠some w.heap.size) (fun _ iv _=>7-(bH iv).toNat)
 case atStart=>exact⟨0,aX _,rfl,⟨rfl,.inl ⟨rfl,rfl⟩⟩,(aV _ _).alloc (ah _) _,aP w _,by simp[Value.ownBlock]⟩
 case round=>
  obtain⟨i,hi,rfl,a1,a4,a3,a5⟩:=hrel;have Z:wr.cell? ⟨w.heap.size,0,none⟩=some (.int .i64 (W:Int)):=by simpa using(cell_of a3 0).1
  by_cases a8:i<7
  ·have a9:=NF W H i;have b0:=ak a3;have u:au _:=a1;have Y:au _:=a4;have a0:au _:=a3;have z:au _:=a5;clear a1 a4 a3 a5;rcases(by omega:i=0\/i=1\/i=2\/i=3\/i=4\/i=5\/i=6)with rfl|rfl|rfl|rfl|rfl|rfl|rfl
   ·have a2:=YC;have A:=fun w'=>jD W 0 8 w' (by omega) (by omega) (by omega);have B:=fun w'=>jD H 0 8 w' (by omega) (by omega) (by omega);have g:au _:=qH W H 0 (0,8,0,8) rfl;generalize q:cu W 0 8=l at*;generalize r:cu H 0 8=m at*;have P:au (lD W H (0,8,0,8)=⟨0,8,0,8,l,m⟩):=(by unfold lD;rw[q,r]:_=_);clear q r;go_wp2_with fail
    refine(A _).mono ?_;rintro e x ⟨rfl,C⟩;obtain⟨d,s,E,F⟩:=wX C a0.out u.out Y.out;obtain⟨f,G⟩:∃b,b=wr.heap.size+1:=⟨_,rfl⟩;rw[<-G]at d|-;have I:w.heap.size<f:=by omega
    have Q:u3.ownBlock≠some f:=fun e=>by have:=(g_ u.out f e).2;omega
    obtain⟨J,L,M,N⟩:=wY (a:= .int .i64 (l:Int)) (b:= .int .i64 (m:Int)) d s E F I Q;have j:au _:=J;have n:au _:=M;have p:au _:=N;have t:au _:=L;have e2:x.cell? ⟨f,2,none⟩=some (.int .i64 0):=by simpa using(cell_of d 2).1
    have e3:x.cell? ⟨f,3,none⟩=some (.int .i64 8):=by simpa using(cell_of d 3).1
    have e4:x.cell? ⟨f,4,none⟩=some (.int .i64 0):=by simpa using(cell_of d 4).1
    have e5:x.cell? ⟨f,5,none⟩=some (.int .i64 0):=by simpa using(cell_of d 5).1
    have R:=(cell_of d 4).2;have S:=(cell_of d 5).2;have eh:x.cell? ⟨w.heap.size,1,none⟩=some (.int .i64 (H:Int)):=by simpa using(cell_of s 1).1
    clear J L M N d s E F C G Z A;go_wp2_with fail
    refine(B _).mono ?_;rintro e w6 ⟨rfl,T⟩;subst T;clear B;go_upto_region 10 with fail
    generalize (x.setCell ⟨f,4,none⟩ (.int .i64 (l:Int))).setCell ⟨f,5,none⟩ (.int .i64 (m:Int))=y at*;have f0:y.cell? ⟨f,0,none⟩=some (.int .i64 0):=by simpa using(cell_of j.out 0).1
    have f1:y.cell? ⟨f,1,none⟩=some (.int .i64 8):=by simpa using(cell_of j.out 1).1
    have f2:y.cell? ⟨f,2,none⟩=some (.int .i64 0):=by simpa using(cell_of j.out 2).1
    have f3:y.cell? ⟨f,3,none⟩=some (.int .i64 8):=by simpa using(cell_of j.out 3).1
    have f4:y.cell? ⟨f,4,none⟩=some (.int .i64 (l:Int)):=by simpa using(cell_of j.out 4).1
    have f5:y.cell? ⟨f,5,none⟩=some (.int .i64 (m:Int)):=by simpa using(cell_of j.out 5).1
    clear e2 e3 e4 e5 R S eh;by_cases h1:0<l
    ·by_cases h2:0<m
     ·have V:(0:Int)<(l:Int):=by omega
      have i2:(0:Int)<(m:Int):=by omega
      have c:au (eU W H 1=eU W H 0++[lD W H (0,8,0,8)]):=(by rw[g.out,aG ⟨h1,h2⟩]:_=_);clear h1 h2 g
      go_wp2_with (first
       |(at_builtin;refine n_ rfl _ _ rfl w.heap.size u3 (eU W H 0).length (bV (eU W H 0)) 0 8 0 8 (l:Int) (m:Int) n.out rfl rfl (by omega) (kD p.out) ?_;go_must (intro v' w9 k U))
       |fail)
      go_roundw
      case rel=>
       obtain⟨X,r2⟩:=qI t.out n.out p.out z.out U;have hlen:(eU W H 1).length=(eU W H 0).length+1:=by rw[c.out,aK];rfl
       have O:bV (eU W H 1)=bV (eU W H 0)++[.int .i64 0,.int .i64 8,.int .i64 0,.int .i64 8,.int .i64 (l:Int),.int .i64 (m:Int)]:=by rw[c.out,P.out];simp[bV,lQ]
       refine⟨1,by omega,by go_num,?_,r2,X,f_ k X (by decide)⟩;rw[hlen,O];exact k
      case measure=>simp[bH]
     ·have V:(0:Int)<(l:Int):=by omega
      have i2:¬((0:Int)<(m:Int)):=by omega
      have c:au (eU W H 1=eU W H 0):=(by rw[g.out,ax (fun h=>h2 h.2)]:_=_);clear h1 h2 g;go_wp2_with fail
      go_roundw
      case rel=>refine⟨1,by omega,by go_num,?_,p.out,t.out,z.out⟩;rw[c.out];exact n.out
      case measure=>simp[bH]
    ·have V:¬((0:Int)<(l:Int)):=by omega
     have c:au (eU W H 1=eU W H 0):=(by rw[g.out,ax (fun h=>h1 h.1)]:_=_);clear h1 g;go_wp2_with fail
     go_roundw
     case rel=>refine⟨1,by omega,by go_num,?_,p.out,t.out,z.out⟩;rw[c.out];exact n.out
     case measure=>simp[bH]
   ·have a2:=YD;have A:=fun w'=>jD W 4 8 w' (by omega) (by omega) (by omega);have B:=fun w'=>jD H 0 8 w' (by omega) (by omega) (by omega);have g:au _:=qH W H 1 (4,8,0,8) rfl;generalize q:cu W 4 8=l at*;generalize r:cu H 0 8=m at*;have P:au (lD W H (4,8,0,8)=⟨4,8,0,8,l,m⟩):=(by unfold lD;rw[q,r]:_=_);clear q r;go_wp2_with fail
    refine(A _).mono ?_;rintro e x ⟨rfl,C⟩;obtain⟨d,s,E,F⟩:=wX C a0.out u.out Y.out;obtain⟨f,G⟩:∃b,b=wr.heap.size+1:=⟨_,rfl⟩;rw[<-G]at d|-;have I:w.heap.size<f:=by omega
    have Q:u3.ownBlock≠some f:=fun e=>by have:=(g_ u.out f e).2;omega
    obtain⟨J,L,M,N⟩:=wY (a:= .int .i64 (l:Int)) (b:= .int .i64 (m:Int)) d s E F I Q;have j:au _:=J;have n:au _:=M;have p:au _:=N;have t:au _:=L;have e2:x.cell? ⟨f,2,none⟩=some (.int .i64 0):=by simpa using(cell_of d 2).1
    have e3:x.cell? ⟨f,3,none⟩=some (.int .i64 8):=by simpa using(cell_of d 3).1
    have e4:x.cell? ⟨f,4,none⟩=some (.int .i64 0):=by simpa using(cell_of d 4).1
    have e5:x.cell? ⟨f,5,none⟩=some (.int .i64 0):=by simpa using(cell_of d 5).1
    have R:=(cell_of d 4).2;have S:=(cell_of d 5).2;have eh:x.cell? ⟨w.heap.size,1,none⟩=some (.int .i64 (H:Int)):=by simpa using(cell_of s 1).1
    clear J L M N d s E F C G Z A;go_wp2_with fail
    refine(B _).mono ?_;rintro e w6 ⟨rfl,T⟩;subst T;clear B;go_upto_region 10 with fail
    generalize (x.setCell ⟨f,4,none⟩ (.int .i64 (l:Int))).setCell ⟨f,5,none⟩ (.int .i64 (m:Int))=y at*;have f0:y.cell? ⟨f,0,none⟩=some (.int .i64 4):=by simpa using(cell_of j.out 0).1
    have f1:y.cell? ⟨f,1,none⟩=some (.int .i64 8):=by simpa using(cell_of j.out 1).1
    have f2:y.cell? ⟨f,2,none⟩=some (.int .i64 0):=by simpa using(cell_of j.out 2).1
    have f3:y.cell? ⟨f,3,none⟩=some (.int .i64 8):=by simpa using(cell_of j.out 3).1
    have f4:y.cell? ⟨f,4,none⟩=some (.int .i64 (l:Int)):=by simpa using(cell_of j.out 4).1
    have f5:y.cell? ⟨f,5,none⟩=some (.int .i64 (m:Int)):=by simpa using(cell_of j.out 5).1
    clear e2 e3 e4 e5 R S eh;by_cases h1:0<l
    ·by_cases h2:0<m
     ·have V:(0:Int)<(l:Int):=by omega
      have i2:(0:Int)<(m:Int):=by omega
      have c:au (eU W H 2=eU W H 1++[lD W H (4,8,0,8)]):=(by rw[g.out,aG ⟨h1,h2⟩]:_=_);clear h1 h2 g
      go_wp2_with (first
       |(at_builtin;refine n_ rfl _ _ rfl w.heap.size u3 (eU W H 1).length (bV (eU W H 1)) 4 8 0 8 (l:Int) (m:Int) n.out rfl rfl (by omega) (kD p.out) ?_;go_must (intro v' w9 k U))
       |fail)
      go_roundw
      case rel=>
       obtain⟨X,r2⟩:=qI t.out n.out p.out z.out U;have hlen:(eU W H 2).length=(eU W H 1).length+1:=by rw[c.out,aK];rfl
       have O:bV (eU W H 2)=bV (eU W H 1)++[.int .i64 4,.int .i64 8,.int .i64 0,.int .i64 8,.int .i64 (l:Int),.int .i64 (m:Int)]:=by rw[c.out,P.out];simp[bV,lQ]
       refine⟨2,by omega,by go_num,?_,r2,X,f_ k X (by decide)⟩;rw[hlen,O];exact k
      case measure=>simp[bH]
     ·have V:(0:Int)<(l:Int):=by omega
      have i2:¬((0:Int)<(m:Int)):=by omega
      have c:au (eU W H 2=eU W H 1):=(by rw[g.out,ax (fun h=>h2 h.2)]:_=_);clear h1 h2 g;go_wp2_with fail
      go_roundw
      case rel=>refine⟨2,by omega,by go_num,?_,p.out,t.out,z.out⟩;rw[c.out];exact n.out
      case measure=>simp[bH]
    ·have V:¬((0:Int)<(l:Int)):=by omega
     have c:au (eU W H 2=eU W H 1):=(by rw[g.out,ax (fun h=>h1 h.1)]:_=_);clear h1 g;go_wp2_with fail
     go_roundw
     case rel=>refine⟨2,by omega,by go_num,?_,p.out,t.out,z.out⟩;rw[c.out];exact n.out
     case measure=>simp[bH]
   ·have a2:=YE;have A:=fun w'=>jD W 0 4 w' (by omega) (by omega) (by omega);have B:=fun w'=>jD H 4 8 w' (by omega) (by omega) (by omega);have g:au _:=qH W H 2 (0,4,4,8) rfl;generalize q:cu W 0 4=l at*;generalize r:cu H 4 8=m at*;have P:au (lD W H (0,4,4,8)=⟨0,4,4,8,l,m⟩):=(by unfold lD;rw[q,r]:_=_);clear q r;go_wp2_with fail
    refine(A _).mono ?_;rintro e x ⟨rfl,C⟩;obtain⟨d,s,E,F⟩:=wX C a0.out u.out Y.out;obtain⟨f,G⟩:∃b,b=wr.heap.size+1:=⟨_,rfl⟩;rw[<-G]at d|-;have I:w.heap.size<f:=by omega
    have Q:u3.ownBlock≠some f:=fun e=>by have:=(g_ u.out f e).2;omega
    obtain⟨J,L,M,N⟩:=wY (a:= .int .i64 (l:Int)) (b:= .int .i64 (m:Int)) d s E F I Q;have j:au _:=J;have n:au _:=M;have p:au _:=N;have t:au _:=L;have e2:x.cell? ⟨f,2,none⟩=some (.int .i64 4):=by simpa using(cell_of d 2).1
    have e3:x.cell? ⟨f,3,none⟩=some (.int .i64 8):=by simpa using(cell_of d 3).1
    have e4:x.cell? ⟨f,4,none⟩=some (.int .i64 0):=by simpa using(cell_of d 4).1
    have e5:x.cell? ⟨f,5,none⟩=some (.int .i64 0):=by simpa using(cell_of d 5).1
    have R:=(cell_of d 4).2;have S:=(cell_of d 5).2;have eh:x.cell? ⟨w.heap.size,1,none⟩=some (.int .i64 (H:Int)):=by simpa using(cell_of s 1).1
    clear J L M N d s E F C G Z A;go_wp2_with fail
    refine(B _).mono ?_;rintro e w6 ⟨rfl,T⟩;subst T;clear B;go_upto_region 10 with fail
    generalize (x.setCell ⟨f,4,none⟩ (.int .i64 (l:Int))).setCell ⟨f,5,none⟩ (.int .i64 (m:Int))=y at*;have f0:y.cell? ⟨f,0,none⟩=some (.int .i64 0):=by simpa using(cell_of j.out 0).1
    have f1:y.cell? ⟨f,1,none⟩=some (.int .i64 4):=by simpa using(cell_of j.out 1).1
    have f2:y.cell? ⟨f,2,none⟩=some (.int .i64 4):=by simpa using(cell_of j.out 2).1
    have f3:y.cell? ⟨f,3,none⟩=some (.int .i64 8):=by simpa using(cell_of j.out 3).1
    have f4:y.cell? ⟨f,4,none⟩=some (.int .i64 (l:Int)):=by simpa using(cell_of j.out 4).1
    have f5:y.cell? ⟨f,5,none⟩=some (.int .i64 (m:Int)):=by simpa using(cell_of j.out 5).1
    clear e2 e3 e4 e5 R S eh;by_cases h1:0<l
    ·by_cases h2:0<m
     ·have V:(0:Int)<(l:Int):=by omega
      have i2:(0:Int)<(m:Int):=by omega
      have c:au (eU W H 3=eU W H 2++[lD W H (0,4,4,8)]):=(by rw[g.out,aG ⟨h1,h2⟩]:_=_);clear h1 h2 g
      go_wp2_with (first
       |(at_builtin;refine n_ rfl _ _ rfl w.heap.size u3 (eU W H 2).length (bV (eU W H 2)) 0 4 4 8 (l:Int) (m:Int) n.out rfl rfl (by omega) (kD p.out) ?_;go_must (intro v' w9 k U))
       |fail)
      go_roundw
      case rel=>
       obtain⟨X,r2⟩:=qI t.out n.out p.out z.out U;have hlen:(eU W H 3).length=(eU W H 2).length+1:=by rw[c.out,aK];rfl
       have O:bV (eU W H 3)=bV (eU W H 2)++[.int .i64 0,.int .i64 4,.int .i64 4,.int .i64 8,.int .i64 (l:Int),.int .i64 (m:Int)]:=by rw[c.out,P.out];simp[bV,lQ]
       refine⟨3,by omega,by go_num,?_,r2,X,f_ k X (by decide)⟩;rw[hlen,O];exact k
      case measure=>simp[bH]
     ·have V:(0:Int)<(l:Int):=by omega
      have i2:¬((0:Int)<(m:Int)):=by omega
      have c:au (eU W H 3=eU W H 2):=(by rw[g.out,ax (fun h=>h2 h.2)]:_=_);clear h1 h2 g;go_wp2_with fail
      go_roundw
      case rel=>refine⟨3,by omega,by go_num,?_,p.out,t.out,z.out⟩;rw[c.out];exact n.out
      case measure=>simp[bH]
    ·have V:¬((0:Int)<(l:Int)):=by omega
     have c:au (eU W H 3=eU W H 2):=(by rw[g.out,ax (fun h=>h1 h.1)]:_=_);clear h1 g;go_wp2_with fail
     go_roundw
     case rel=>refine⟨3,by omega,by go_num,?_,p.out,t.out,z.out⟩;rw[c.out];exact n.out
     case measure=>simp[bH]
   ·have a2:=YF;have A:=fun w'=>jD W 2 4 w' (by omega) (by omega) (by omega);have B:=fun w'=>jD H 0 4 w' (by omega) (by omega) (by omega);have g:au _:=qH W H 3 (2,4,0,4) rfl;generalize q:cu W 2 4=l at*;generalize r:cu H 0 4=m at*;have P:au (lD W H (2,4,0,4)=⟨2,4,0,4,l,m⟩):=(by unfold lD;rw[q,r]:_=_);clear q r;go_wp2_with fail
    refine(A _).mono ?_;rintro e x ⟨rfl,C⟩;obtain⟨d,s,E,F⟩:=wX C a0.out u.out Y.out;obtain⟨f,G⟩:∃b,b=wr.heap.size+1:=⟨_,rfl⟩;rw[<-G]at d|-;have I:w.heap.size<f:=by omega
    have Q:u3.ownBlock≠some f:=fun e=>by have:=(g_ u.out f e).2;omega
    obtain⟨J,L,M,N⟩:=wY (a:= .int .i64 (l:Int)) (b:= .int .i64 (m:Int)) d s E F I Q;have j:au _:=J;have n:au _:=M;have p:au _:=N;have t:au _:=L;have e2:x.cell? ⟨f,2,none⟩=some (.int .i64 0):=by simpa using(cell_of d 2).1
    have e3:x.cell? ⟨f,3,none⟩=some (.int .i64 4):=by simpa using(cell_of d 3).1
    have e4:x.cell? ⟨f,4,none⟩=some (.int .i64 0):=by simpa using(cell_of d 4).1
    have e5:x.cell? ⟨f,5,none⟩=some (.int .i64 0):=by simpa using(cell_of d 5).1
    have R:=(cell_of d 4).2;have S:=(cell_of d 5).2;have eh:x.cell? ⟨w.heap.size,1,none⟩=some (.int .i64 (H:Int)):=by simpa using(cell_of s 1).1
    clear J L M N d s E F C G Z A;go_wp2_with fail
    refine(B _).mono ?_;rintro e w6 ⟨rfl,T⟩;subst T;clear B;go_upto_region 10 with fail
    generalize (x.setCell ⟨f,4,none⟩ (.int .i64 (l:Int))).setCell ⟨f,5,none⟩ (.int .i64 (m:Int))=y at*;have f0:y.cell? ⟨f,0,none⟩=some (.int .i64 2):=by simpa using(cell_of j.out 0).1
    have f1:y.cell? ⟨f,1,none⟩=some (.int .i64 4):=by simpa using(cell_of j.out 1).1
    have f2:y.cell? ⟨f,2,none⟩=some (.int .i64 0):=by simpa using(cell_of j.out 2).1
    have f3:y.cell? ⟨f,3,none⟩=some (.int .i64 4):=by simpa using(cell_of j.out 3).1
    have f4:y.cell? ⟨f,4,none⟩=some (.int .i64 (l:Int)):=by simpa using(cell_of j.out 4).1
    have f5:y.cell? ⟨f,5,none⟩=some (.int .i64 (m:Int)):=by simpa using(cell_of j.out 5).1
    clear e2 e3 e4 e5 R S eh;by_cases h1:0<l
    ·by_cases h2:0<m
     ·have V:(0:Int)<(l:Int):=by omega
      have i2:(0:Int)<(m:Int):=by omega
      have c:au (eU W H 4=eU W H 3++[lD W H (2,4,0,4)]):=(by rw[g.out,aG ⟨h1,h2⟩]:_=_);clear h1 h2 g
      go_wp2_with (first
       |(at_builtin;refine n_ rfl _ _ rfl w.heap.size u3 (eU W H 3).length (bV (eU W H 3)) 2 4 0 4 (l:Int) (m:Int) n.out rfl rfl (by omega) (kD p.out) ?_;go_must (intro v' w9 k U))
       |fail)
      go_roundw
      case rel=>
       obtain⟨X,r2⟩:=qI t.out n.out p.out z.out U;have hlen:(eU W H 4).length=(eU W H 3).length+1:=by rw[c.out,aK];rfl
       have O:bV (eU W H 4)=bV (eU W H 3)++[.int .i64 2,.int .i64 4,.int .i64 0,.int .i64 4,.int .i64 (l:Int),.int .i64 (m:Int)]:=by rw[c.out,P.out];simp[bV,lQ]
       refine⟨4,by omega,by go_num,?_,r2,X,f_ k X (by decide)⟩;rw[hlen,O];exact k
      case measure=>simp[bH]
     ·have V:(0:Int)<(l:Int):=by omega
      have i2:¬((0:Int)<(m:Int)):=by omega
      have c:au (eU W H 4=eU W H 3):=(by rw[g.out,ax (fun h=>h2 h.2)]:_=_);clear h1 h2 g;go_wp2_with fail
      go_roundw
      case rel=>refine⟨4,by omega,by go_num,?_,p.out,t.out,z.out⟩;rw[c.out];exact n.out
      case measure=>simp[bH]
    ·have V:¬((0:Int)<(l:Int)):=by omega
     have c:au (eU W H 4=eU W H 3):=(by rw[g.out,ax (fun h=>h1 h.1)]:_=_);clear h1 g;go_wp2_with fail
     go_roundw
     case rel=>refine⟨4,by omega,by go_num,?_,p.out,t.out,z.out⟩;rw[c.out];exact n.out
     case measure=>simp[bH]
   ·have a2:=YG;have A:=fun w'=>jD W 0 2 w' (by omega) (by omega) (by omega);have B:=fun w'=>jD H 2 4 w' (by omega) (by omega) (by omega);have g:au _:=qH W H 4 (0,2,2,4) rfl;generalize q:cu W 0 2=l at*;generalize r:cu H 2 4=m at*;have P:au (lD W H (0,2,2,4)=⟨0,2,2,4,l,m⟩):=(by unfold lD;rw[q,r]:_=_);clear q r;go_wp2_with fail
    refine(A _).mono ?_;rintro e x ⟨rfl,C⟩;obtain⟨d,s,E,F⟩:=wX C a0.out u.out Y.out;obtain⟨f,G⟩:∃b,b=wr.heap.size+1:=⟨_,rfl⟩;rw[<-G]at d|-;have I:w.heap.size<f:=by omega
    have Q:u3.ownBlock≠some f:=fun e=>by have:=(g_ u.out f e).2;omega
    obtain⟨J,L,M,N⟩:=wY (a:= .int .i64 (l:Int)) (b:= .int .i64 (m:Int)) d s E F I Q;have j:au _:=J;have n:au _:=M;have p:au _:=N;have t:au _:=L;have e2:x.cell? ⟨f,2,none⟩=some (.int .i64 2):=by simpa using(cell_of d 2).1
    have e3:x.cell? ⟨f,3,none⟩=some (.int .i64 4):=by simpa using(cell_of d 3).1
    have e4:x.cell? ⟨f,4,none⟩=some (.int .i64 0):=by simpa using(cell_of d 4).1
    have e5:x.cell? ⟨f,5,none⟩=some (.int .i64 0):=by simpa using(cell_of d 5).1
    have R:=(cell_of d 4).2;have S:=(cell_of d 5).2;have eh:x.cell? ⟨w.heap.size,1,none⟩=some (.int .i64 (H:Int)):=by simpa using(cell_of s 1).1
    clear J L M N d s E F C G Z A;go_wp2_with fail
    refine(B _).mono ?_;rintro e w6 ⟨rfl,T⟩;subst T;clear B;go_upto_region 10 with fail
    generalize (x.setCell ⟨f,4,none⟩ (.int .i64 (l:Int))).setCell ⟨f,5,none⟩ (.int .i64 (m:Int))=y at*;have f0:y.cell? ⟨f,0,none⟩=some (.int .i64 0):=by simpa using(cell_of j.out 0).1
    have f1:y.cell? ⟨f,1,none⟩=some (.int .i64 2):=by simpa using(cell_of j.out 1).1
    have f2:y.cell? ⟨f,2,none⟩=some (.int .i64 2):=by simpa using(cell_of j.out 2).1
    have f3:y.cell? ⟨f,3,none⟩=some (.int .i64 4):=by simpa using(cell_of j.out 3).1
    have f4:y.cell? ⟨f,4,none⟩=some (.int .i64 (l:Int)):=by simpa using(cell_of j.out 4).1
    have f5:y.cell? ⟨f,5,none⟩=some (.int .i64 (m:Int)):=by simpa using(cell_of j.out 5).1
    clear e2 e3 e4 e5 R S eh;by_cases h1:0<l
    ·by_cases h2:0<m
     ·have V:(0:Int)<(l:Int):=by omega
      have i2:(0:Int)<(m:Int):=by omega
      have c:au (eU W H 5=eU W H 4++[lD W H (0,2,2,4)]):=(by rw[g.out,aG ⟨h1,h2⟩]:_=_);clear h1 h2 g
      go_wp2_with (first
       |(at_builtin;refine n_ rfl _ _ rfl w.heap.size u3 (eU W H 4).length (bV (eU W H 4)) 0 2 2 4 (l:Int) (m:Int) n.out rfl rfl (by omega) (kD p.out) ?_;go_must (intro v' w9 k U))
       |fail)
      go_roundw
      case rel=>
       obtain⟨X,r2⟩:=qI t.out n.out p.out z.out U;have hlen:(eU W H 5).length=(eU W H 4).length+1:=by rw[c.out,aK];rfl
       have O:bV (eU W H 5)=bV (eU W H 4)++[.int .i64 0,.int .i64 2,.int .i64 2,.int .i64 4,.int .i64 (l:Int),.int .i64 (m:Int)]:=by rw[c.out,P.out];simp[bV,lQ]
       refine⟨5,by omega,by go_num,?_,r2,X,f_ k X (by decide)⟩;rw[hlen,O];exact k
      case measure=>simp[bH]
     ·have V:(0:Int)<(l:Int):=by omega
      have i2:¬((0:Int)<(m:Int)):=by omega
      have c:au (eU W H 5=eU W H 4):=(by rw[g.out,ax (fun h=>h2 h.2)]:_=_);clear h1 h2 g;go_wp2_with fail
      go_roundw
      case rel=>refine⟨5,by omega,by go_num,?_,p.out,t.out,z.out⟩;rw[c.out];exact n.out
      case measure=>simp[bH]
    ·have V:¬((0:Int)<(l:Int)):=by omega
     have c:au (eU W H 5=eU W H 4):=(by rw[g.out,ax (fun h=>h1 h.1)]:_=_);clear h1 g;go_wp2_with fail
     go_roundw
     case rel=>refine⟨5,by omega,by go_num,?_,p.out,t.out,z.out⟩;rw[c.out];exact n.out
     case measure=>simp[bH]
   ·have a2:=YH;have A:=fun w'=>jD W 1 2 w' (by omega) (by omega) (by omega);have B:=fun w'=>jD H 0 2 w' (by omega) (by omega) (by omega);have g:au _:=qH W H 5 (1,2,0,2) rfl;generalize q:cu W 1 2=l at*;generalize r:cu H 0 2=m at*;have P:au (lD W H (1,2,0,2)=⟨1,2,0,2,l,m⟩):=(by unfold lD;rw[q,r]:_=_);clear q r;go_wp2_with fail
    refine(A _).mono ?_;rintro e x ⟨rfl,C⟩;obtain⟨d,s,E,F⟩:=wX C a0.out u.out Y.out;obtain⟨f,G⟩:∃b,b=wr.heap.size+1:=⟨_,rfl⟩;rw[<-G]at d|-;have I:w.heap.size<f:=by omega
    have Q:u3.ownBlock≠some f:=fun e=>by have:=(g_ u.out f e).2;omega
    obtain⟨J,L,M,N⟩:=wY (a:= .int .i64 (l:Int)) (b:= .int .i64 (m:Int)) d s E F I Q;have j:au _:=J;have n:au _:=M;have p:au _:=N;have t:au _:=L;have e2:x.cell? ⟨f,2,none⟩=some (.int .i64 0):=by simpa using(cell_of d 2).1
    have e3:x.cell? ⟨f,3,none⟩=some (.int .i64 2):=by simpa using(cell_of d 3).1
    have e4:x.cell? ⟨f,4,none⟩=some (.int .i64 0):=by simpa using(cell_of d 4).1
    have e5:x.cell? ⟨f,5,none⟩=some (.int .i64 0):=by simpa using(cell_of d 5).1
    have R:=(cell_of d 4).2;have S:=(cell_of d 5).2;have eh:x.cell? ⟨w.heap.size,1,none⟩=some (.int .i64 (H:Int)):=by simpa using(cell_of s 1).1
    clear J L M N d s E F C G Z A;go_wp2_with fail
    refine(B _).mono ?_;rintro e w6 ⟨rfl,T⟩;subst T;clear B;go_upto_region 10 with fail
    generalize (x.setCell ⟨f,4,none⟩ (.int .i64 (l:Int))).setCell ⟨f,5,none⟩ (.int .i64 (m:Int))=y at*;have f0:y.cell? ⟨f,0,none⟩=some (.int .i64 1):=by simpa using(cell_of j.out 0).1
    have f1:y.cell? ⟨f,1,none⟩=some (.int .i64 2):=by simpa using(cell_of j.out 1).1
    have f2:y.cell? ⟨f,2,none⟩=some (.int .i64 0):=by simpa using(cell_of j.out 2).1
    have f3:y.cell? ⟨f,3,none⟩=some (.int .i64 2):=by simpa using(cell_of j.out 3).1
    have f4:y.cell? ⟨f,4,none⟩=some (.int .i64 (l:Int)):=by simpa using(cell_of j.out 4).1
    have f5:y.cell? ⟨f,5,none⟩=some (.int .i64 (m:Int)):=by simpa using(cell_of j.out 5).1
    clear e2 e3 e4 e5 R S eh;by_cases h1:0<l
    ·by_cases h2:0<m
     ·have V:(0:Int)<(l:Int):=by omega
      have i2:(0:Int)<(m:Int):=by omega
      have c:au (eU W H 6=eU W H 5++[lD W H (1,2,0,2)]):=(by rw[g.out,aG ⟨h1,h2⟩]:_=_);clear h1 h2 g
      go_wp2_with (first
       |(at_builtin;refine n_ rfl _ _ rfl w.heap.size u3 (eU W H 5).length (bV (eU W H 5)) 1 2 0 2 (l:Int) (m:Int) n.out rfl rfl (by omega) (kD p.out) ?_;go_must (intro v' w9 k U))
       |fail)
      go_roundw
      case rel=>
       obtain⟨X,r2⟩:=qI t.out n.out p.out z.out U;have hlen:(eU W H 6).length=(eU W H 5).length+1:=by rw[c.out,aK];rfl
       have O:bV (eU W H 6)=bV (eU W H 5)++[.int .i64 1,.int .i64 2,.int .i64 0,.int .i64 2,.int .i64 (l:Int),.int .i64 (m:Int)]:=by rw[c.out,P.out];simp[bV,lQ]
       refine⟨6,by omega,by go_num,?_,r2,X,f_ k X (by decide)⟩;rw[hlen,O];exact k
      case measure=>simp[bH]
     ·have V:(0:Int)<(l:Int):=by omega
      have i2:¬((0:Int)<(m:Int)):=by omega
      have c:au (eU W H 6=eU W H 5):=(by rw[g.out,ax (fun h=>h2 h.2)]:_=_);clear h1 h2 g;go_wp2_with fail
      go_roundw
      case rel=>refine⟨6,by omega,by go_num,?_,p.out,t.out,z.out⟩;rw[c.out];exact n.out
      case measure=>simp[bH]
    ·have V:¬((0:Int)<(l:Int)):=by omega
     have c:au (eU W H 6=eU W H 5):=(by rw[g.out,ax (fun h=>h1 h.1)]:_=_);clear h1 g;go_wp2_with fail
     go_roundw
     case rel=>refine⟨6,by omega,by go_num,?_,p.out,t.out,z.out⟩;rw[c.out];exact n.out
     case measure=>simp[bH]
   ·have a2:=YI;have A:=fun w'=>jD W 0 1 w' (by omega) (by omega) (by omega);have B:=fun w'=>jD H 1 2 w' (by omega) (by omega) (by omega);have g:au _:=qH W H 6 (0,1,1,2) rfl;generalize q:cu W 0 1=l at*;generalize r:cu H 1 2=m at*;have P:au (lD W H (0,1,1,2)=⟨0,1,1,2,l,m⟩):=(by unfold lD;rw[q,r]:_=_);clear q r;go_wp2_with fail
    refine(A _).mono ?_;rintro e x ⟨rfl,C⟩;obtain⟨d,s,E,F⟩:=wX C a0.out u.out Y.out;obtain⟨f,G⟩:∃b,b=wr.heap.size+1:=⟨_,rfl⟩;rw[<-G]at d|-;have I:w.heap.size<f:=by omega
    have Q:u3.ownBlock≠some f:=fun e=>by have:=(g_ u.out f e).2;omega
    obtain⟨J,L,M,N⟩:=wY (a:= .int .i64 (l:Int)) (b:= .int .i64 (m:Int)) d s E F I Q;have j:au _:=J;have n:au _:=M;have p:au _:=N;have t:au _:=L;have e2:x.cell? ⟨f,2,none⟩=some (.int .i64 1):=by simpa using(cell_of d 2).1
    have e3:x.cell? ⟨f,3,none⟩=some (.int .i64 2):=by simpa using(cell_of d 3).1
    have e4:x.cell? ⟨f,4,none⟩=some (.int .i64 0):=by simpa using(cell_of d 4).1
    have e5:x.cell? ⟨f,5,none⟩=some (.int .i64 0):=by simpa using(cell_of d 5).1
    have R:=(cell_of d 4).2;have S:=(cell_of d 5).2;have eh:x.cell? ⟨w.heap.size,1,none⟩=some (.int .i64 (H:Int)):=by simpa using(cell_of s 1).1
    clear J L M N d s E F C G Z A;go_wp2_with fail
    refine(B _).mono ?_;rintro e w6 ⟨rfl,T⟩;subst T;clear B;go_upto_region 10 with fail
    generalize (x.setCell ⟨f,4,none⟩ (.int .i64 (l:Int))).setCell ⟨f,5,none⟩ (.int .i64 (m:Int))=y at*;have f0:y.cell? ⟨f,0,none⟩=some (.int .i64 0):=by simpa using(cell_of j.out 0).1
    have f1:y.cell? ⟨f,1,none⟩=some (.int .i64 1):=by simpa using(cell_of j.out 1).1
    have f2:y.cell? ⟨f,2,none⟩=some (.int .i64 1):=by simpa using(cell_of j.out 2).1
    have f3:y.cell? ⟨f,3,none⟩=some (.int .i64 2):=by simpa using(cell_of j.out 3).1
    have f4:y.cell? ⟨f,4,none⟩=some (.int .i64 (l:Int)):=by simpa using(cell_of j.out 4).1
    have f5:y.cell? ⟨f,5,none⟩=some (.int .i64 (m:Int)):=by simpa using(cell_of j.out 5).1
    clear e2 e3 e4 e5 R S eh;by_cases h1:0<l
    ·by_cases h2:0<m
     ·have V:(0:Int)<(l:Int):=by omega
      have i2:(0:Int)<(m:Int):=by omega
      have c:au (eU W H 7=eU W H 6++[lD W H (0,1,1,2)]):=(by rw[g.out,aG ⟨h1,h2⟩]:_=_);clear h1 h2 g
      go_wp2_with (first
       |(at_builtin;refine n_ rfl _ _ rfl w.heap.size u3 (eU W H 6).length (bV (eU W H 6)) 0 1 1 2 (l:Int) (m:Int) n.out rfl rfl (by omega) (kD p.out) ?_;go_must (intro v' w9 k U))
       |fail)
      go_roundw
      case rel=>
       obtain⟨X,r2⟩:=qI t.out n.out p.out z.out U;have hlen:(eU W H 7).length=(eU W H 6).length+1:=by rw[c.out,aK];rfl
       have O:bV (eU W H 7)=bV (eU W H 6)++[.int .i64 0,.int .i64 1,.int .i64 1,.int .i64 2,.int .i64 (l:Int),.int .i64 (m:Int)]:=by rw[c.out,P.out];simp[bV,lQ]
       refine⟨7,by omega,by go_num,?_,r2,X,f_ k X (by decide)⟩;rw[hlen,O];exact k
      case measure=>simp[bH]
     ·have V:(0:Int)<(l:Int):=by omega
      have i2:¬((0:Int)<(m:Int)):=by omega
      have c:au (eU W H 7=eU W H 6):=(by rw[g.out,ax (fun h=>h2 h.2)]:_=_);clear h1 h2 g;go_wp2_with fail
      go_roundw
      case rel=>refine⟨7,by omega,by go_num,?_,p.out,t.out,z.out⟩;rw[c.out];exact n.out
      case measure=>simp[bH]
    ·have V:¬((0:Int)<(l:Int)):=by omega
     have c:au (eU W H 7=eU W H 6):=(by rw[g.out,ax (fun h=>h1 h.1)]:_=_);clear h1 g;go_wp2_with fail
     go_roundw
     case rel=>refine⟨7,by omega,by go_num,?_,p.out,t.out,z.out⟩;rw[c.out];exact n.out
     case measure=>simp[bH]
  ·have e:i=7:=by omega
   subst e;have u:au _:=a1;have Y:au _:=a4;clear a1 a4 a3 Z a5;go_wp2_with fail
   go_ret;exact⟨_,rfl,u.out,Y.out⟩
end Pr
namespace Pr
open Go.RowKit Rf Cr
theorem YJ(n:Nat):madeCells #[.int .u16 0] n=(dm (List.replicate n 0)).toArray:=by
 apply Array.ext
 ·rw[oU];simp[dm]
 ·intro i h1 h2;have h:i<n:=by rw[oU]at h1;exact h1
  have e:(madeCells #[.int .u16 0] n)[i]?=some (.int .u16 ((0:Nat):Int)):=by simp[madeCells,h];simp[Nat.mod_one]
  rw[xg h1]at e;rw[eu e];simp[dm]
theorem NI(W:af)(n:Nat)(e:n<=1000000000):(Instr.makeSlice 33 (.int .i64 (n:Int)) (.int .i64 (n:Int))).run prog W= .ok (.slice (some ⟨W.heap.size,0,none⟩) n n) (W.alloc (.cells (dm (List.replicate n 0)).toArray 55)):=by obtain⟨d,hi,a,b,c⟩:=info_parts JX;have h:=run_make (P:=prog) W 33 55 d _ underlying33 hi a .i64 .i64 (n:Int) (n:Int) (by omega) (by omega) (by rw[c];omega) (by omega);rw[h,b,<-YJ];simp[Value.cells]
theorem Ku(W H D K kb:Nat)(I:Bool)(w:af)(hW:W<=1048576)(b:4*W*H<=4194304)(hH:H<=4294967296):
 aH prog 63 #[qc W H D K I,.pointer (some ⟨kb,0,none⟩)] w fun e w'=> ∃vb gp,e= .returned (.pointer (some ⟨vb,0,none⟩))/\w.heap.size<=vb/\w.heap.size<=gp/\w'.heap[vb]?=some (zu W H D K I kb (.slice (some ⟨gp,0,none⟩) (4*W*H) (4*W*H)))/\mM w' gp (List.replicate (4*W*H) 0)/\aA w.heap.size w w':=by
 unfold qc;obtain⟨N,a⟩:∃N,N=4*W*H:=⟨_,rfl⟩;have c:4*(W:Int)*(H:Int)=(N:Int):=by rw[a];simp
 rw[<-a]at b|-;have d:=fun W'=>NI W' N (by omega);clear a;go_enter func63,ntmps63
 go_wp2_with fail
 go_region
 all_goals
  go_wp2_with fail
  go_ret;refine⟨w.heap.size+1+1,w.heap.size+1,rfl,by omega,by omega,?_,?_,?_⟩
  ·have:=aP ((w.alloc (.cells #[.int .i64 (W:Int),.int .i64 (H:Int),.int .i64 (D:Int),.int .u8 (K:Int),.bool I] 102)).alloc (.cells (dm (List.replicate N 0)).toArray 55)) (zu W H D K I kb (.slice (some ⟨w.heap.size+1,0,none⟩) N N));have e:((w.alloc (.cells #[.int .i64 (W:Int),.int .i64 (H:Int),.int .i64 (D:Int),.int .u8 (K:Int),.bool I] 102)).alloc (.cells (dm (List.replicate N 0)).toArray 55)).heap.size=w.heap.size+1+1:=by simp
   rw[e]at this;exact this
  ·refine(ai _ _ _ (by simp)).trans ?_;have:=aP (w.alloc (.cells #[.int .i64 (W:Int),.int .i64 (H:Int),.int .i64 (D:Int),.int .u8 (K:Int),.bool I] 102)) (.cells (dm (List.replicate N 0)).toArray 55);have e:(w.alloc (.cells #[.int .i64 (W:Int),.int .i64 (H:Int),.int .i64 (D:Int),.int .u8 (K:Int),.bool I] 102)).heap.size=w.heap.size+1:=by simp
   rw[e]at this;exact this
  ·exact Below.Bf ((((aV w.heap.size w).alloc (ah _) _).alloc (by simp) _).alloc (by simp;omega) _)
theorem Kv(W H D K kb vb:Nat)(I:Bool)(pv:ay)(w:af)(h:w.heap[vb]?=some (zu W H D K I kb pv))(la:Option bG)(n cap:Nat)(b:pv= .slice la n cap):
 aH prog 71 #[.pointer (some ⟨vb,0,none⟩)] w fun e w'=>e= .returned (.agg #[.int .i64 (W:Int),.int .i64 (H:Int),pv])/\aA w.heap.size w w':=by
 subst b;have a:=ak h;have c0:∀o,(w.alloc o).cell? ⟨vb,0,none⟩=some (.int .i64 (W:Int)):=fun o=>(aQ (ai _ _ vb a)).trans (by simpa [zu]using(cell_of h 0).1);have c1:∀o,(w.alloc o).cell? ⟨vb,1,none⟩=some (.int .i64 (H:Int)):=fun o=>(aQ (ai _ _ vb a)).trans (by simpa [zu]using(cell_of h 1).1);have c6:∀o,(w.alloc o).cell? ⟨vb,6,none⟩=some (.slice la n cap):=fun o=>(aQ (ai _ _ vb a)).trans (by simpa [zu]using(cell_of h 6).1);clear h;go_enter func71,ntmps71
 go_wp2_with fail
 go_region
 all_goals
  go_wp2_with fail
  refine a_ (v:= .agg #[.int .i64 (W:Int),.int .i64 (H:Int),.slice la n cap]) (by simp[results,results71,go_sem]) rfl ?_;exact⟨rfl,Below.Bf ((aV w.heap.size w).alloc (ah _) _)⟩
open gI (b_)
theorem Vj(W H D K:Nat)(I:Bool)(w:af)(hS:kZ w)(a:7<=w.heap.size)(hW:W<=1048576)(hH:H<=1048576):
 aH prog 92 #[qc W H D K I] w fun e w'=> ∃v,e= .returned v/\w'.ownsRow w.heap.size 188 6 v (dU W H I).length (bV (dU W H I))/\aA w.heap.size w w':=by
 cases I
 ·exact ND W H D K w hW hH
 ·exact NH W H D K w hS a hW hH
theorem NJ(e f t i:Nat)(h:i<cu e f t):f+i*t<e:=by
 unfold cu at h;split at h
 ·omega
 ·have h1:i<=(e-f-1)/t:=by omega
  have h2:=dM t h1;have a:=Nat.div_mul_le_self (e-f-1) t;omega
def adG(W H:Nat)(t:jX):Prop:=(1<=t.W/\t.W<=1048576/\1<=t.H/\t.H<=1048576/\t.x<=8/\t.sx<=8/\t.y<=8/\t.sy<=8)/\∀y i,y<t.H->i<t.W->rq W t y i+4<=4*W*H
theorem Tf(W H Y X:Nat)(a:Y<H)(b:X<W):4*(Y*W+X)+4<=4*W*H:=by
 have h1:Y*W+W<=H*W:=by have:=dM W (show Y+1<=H from a);rw[eF]at this;omega
 have h2:4*W*H=4*(H*W):=by rw[ni,eP W H]
 omega
theorem Vk(W H:Nat)(I:Bool)(c:1<=W)(d:1<=H)(hW:W<=1048576)(hH:H<=1048576):∀t∈dU W H I,adG W H t:=by
 intro t b;unfold dU at b;cases I
 ·simp only[Bool.false_eq_true,if_false,List.mem_singleton]at b;subst b;refine⟨⟨c,hW,d,hH,by simp,by simp,by simp,by simp⟩,fun y i e hi=> ?_⟩;unfold rq;have:=Tf W H y i e hi;simp only[Nat.zero_add,Nat.mul_one,Nat.add_zero];exact this
 ·simp only[if_true]at b;unfold uV at b;obtain⟨h1,h2⟩:=List.mem_filter.1 b;obtain⟨x,f,rfl⟩:=List.mem_map.1 h1;simp only[Bool.and_eq_true,decide_eq_true_eq]at h2;have a:x.1<=8/\x.2.1<=8/\x.2.2.1<=8/\x.2.2.2<=8/\1<=x.2.1/\1<=x.2.2.2:=by
   simp only[b_]at f;simp at f;rcases f with rfl|rfl|rfl|rfl|rfl|rfl|rfl<;>decide
  have hw:=NG W x.1 x.2.1 a.2.2.2.2.1;have j:=NG H x.2.2.1 x.2.2.2 a.2.2.2.2.2;refine⟨⟨h2.1,by show cu W x.1 x.2.1<=_;omega,h2.2,by show cu H x.2.2.1 x.2.2.2<=_;omega,a.1,a.2.1,a.2.2.1,a.2.2.2.1⟩,fun y i e hi=> ?_⟩;have g:=NJ H x.2.2.1 x.2.2.2 y e;have h:=NJ W x.1 x.2.1 i hi;show 4*((x.2.2.1+y*x.2.2.2)*W+x.1+i*x.2.1)+4<=4*W*H;rw[dK];exact Tf W H _ _ g h
theorem Aa(W H:Nat)(I:Bool):(dU W H I).length<=100:=by
 unfold dU;cases I
 ·simp
 ·have:=NF W H 7;have e:eU W H 7=uV W H (b_ 1):=rfl;rw[e]at this;simp only[if_true];omega
theorem Bi(W H:Nat)(I:Bool)(a:1<=W)(b:1<=H):∃t,(dU W H I)[0]?=some t:=by
 unfold dU;cases I
 ·exact⟨_,rfl⟩
 ·simp only[if_true];have hp:0<cu W 0 8/\0<cu H 0 8:=by unfold cu;constructor<;>(split<;>omega)
  have e:uV W H (b_ 1)=lD W H (0,8,0,8)::uV W H ((b_ 1).drop 1):=by unfold uV;show List.filter _ (lD W H (0,8,0,8)::List.map (lD W H) ((b_ 1).drop 1))=_;rw[List.filter_cons_of_pos (by show(decide (0<cu W 0 8)&&decide (0<cu H 0 8))=true;simp[hp.1,hp.2])]
  rw[e];exact⟨_,rfl⟩
end Pr
end Go.Proofs.YtephkcdbnogdhabGreatDoor
