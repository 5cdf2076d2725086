import Derived.Test.YtephkcdbnogdhaaGreatDoorM14
set_option linter.unusedVariables false
set_option maxHeartbeats 40000000
set_option maxRecDepth 10000
namespace Go.Proofs.YtephkcdbnogdhaaGreatDoor
open Go.Proofs.Tryz
open Go renaming World->af,Value->ay,Calls->aF,Addr->bP
open Go.RowKit renaming Hid->ah
namespace Pr
open Go.RowKit Rf Cr
open h_ (cut gz eP gJ iq iG iw jo jd dF aT fV)
def acX:ByteArray:=(⟨(iw 13).toArray⟩:ByteArray)++mP
def H0(s:ByteArray):Prop:=Match s 0 lu/\Match s 8 acX/\DL (dQ s 16 13) 0/\jK s 29 0 (mP.data.toList++cut s 16 13)
def aeA(s:ByteArray):ay:=qX (aT (dQ s 16 13) 0) (aT (dQ s 16 13) (0+4)) (aA (dQ s 16 13) (0+8)) (aA (dQ s 16 13) (0+9)) (decide (aA (dQ s 16 13) (0+12)=1))
structure Jk(S:Src)(cb:Nat)(w0 w:af)(rb:Nat):Prop where
 r:w.heap[rb]?=some (.cells (vO 0 0 0 0 false) 221 (0,0))
 nr:¬jP S cb rb
 br:S.base<=rb
 VF:w0.heap.size<=rb
 fr:Fr (jP S cb) w0 w
theorem Jk.step{S:Src}{cb:Nat}{w0 w w':af}{rb:Nat}(h:Jk S cb w0 w rb)(a:Fr (jP S cb) w w'):Jk S cb w0 w' rb:=
 ⟨(a.block rb (ai h.r) h.nr).trans h.r,h.nr,h.br,h.VF,h.fr.trans a⟩
theorem Jk.cells{S:Src}{cb:Nat}{w0 w:af}{rb:Nat}(h:Jk S cb w0 w rb):
 (w.cell? ⟨rb,0,none⟩=some (.int .i64 0)/\w.cell? ⟨rb,1,none⟩=some (.int .i64 0)/\w.cell? ⟨rb,2,none⟩=some (.int .i64 0)/\w.cell? ⟨rb,3,none⟩=some (.int .u8 0)/\w.cell? ⟨rb,4,none⟩=some (.bool false))/\(∀i,w.frozen? ⟨rb,i,none⟩=false):=
 ⟨⟨by simpa [vO]using(cell_of h.r 0).1,by simpa [vO]using(cell_of h.r 1).1,by simpa [vO]using(cell_of h.r 2).1,by simpa [vO]using(cell_of h.r 3).1,by simpa [vO]using(cell_of h.r 4).1⟩,fun i=>(cell_of h.r i).2⟩
theorem Jk.out{S:Src}{cb:Nat}{w0 w:af}{rb:Nat}(h:Jk S cb w0 w rb)(v0 v1 v2 d v4:ay):
 Fr (jP S cb) w0 (((((w.setCell ⟨rb,0,none⟩ v0).setCell ⟨rb,1,none⟩ v1).setCell ⟨rb,2,none⟩ v2).setCell ⟨rb,3,none⟩ d).setCell ⟨rb,4,none⟩ v4)/\
 (∀T a P,dO S w T a P->dO S (((((w.setCell ⟨rb,0,none⟩ v0).setCell ⟨rb,1,none⟩ v1).setCell ⟨rb,2,none⟩ v2).setCell ⟨rb,3,none⟩ d).setCell ⟨rb,4,none⟩ v4) T a P)/\
 (oC S cb w->oC S cb (((((w.setCell ⟨rb,0,none⟩ v0).setCell ⟨rb,1,none⟩ v1).setCell ⟨rb,2,none⟩ v2).setCell ⟨rb,3,none⟩ d).setCell ⟨rb,4,none⟩ v4))/\
 ∀s p name left l,CR S cb s w p name left l->CR S cb s (((((w.setCell ⟨rb,0,none⟩ v0).setCell ⟨rb,1,none⟩ v1).setCell ⟨rb,2,none⟩ v2).setCell ⟨rb,3,none⟩ d).setCell ⟨rb,4,none⟩ v4) p name left l:=by
 have e:∀k,k≠rb->(((((w.setCell ⟨rb,0,none⟩ v0).setCell ⟨rb,1,none⟩ v1).setCell ⟨rb,2,none⟩ v2).setCell ⟨rb,3,none⟩ d).setCell ⟨rb,4,none⟩ v4).heap[k]?=w.heap[k]?:=fun k b=>(aB 4 _ b).trans ((aB 3 _ b).trans ((aB 2 _ b).trans ((aB 1 _ b).trans (aB 0 _ b))));have b:∀k,jP S cb k\/k<S.base->k≠rb:=fun k b e=>b.elim (fun b=>h.nr (e▸b)) (fun b=>by have:=h.br;omega);refine⟨((((h.fr.eF rb 0 h.VF v0).eF rb 1 h.VF v1).eF rb 2 h.VF v2).eF rb 3 h.VF d).eF rb 4 h.VF v4,fun T a P hw=>hw.over (fun k cur f b=>e k (fun e=> ?_)),fun g=>g.over (fun k c=>e k (b k c)),fun s p name left l g=>g.over (fun k c=>e k (b k c))⟩;rw[e,h.r]at b;simp at b
theorem Jk.start{S:Src}{cb:Nat}{s:ByteArray}{w:af}{p left:Nat}{name:ByteArray}{l:List UInt8}(h:CR S cb s w p name left l):Jk S cb w (w.alloc (.cells (vO 0 0 0 0 false) 221)) w.heap.size:=by have a:=h.e.lt;exact⟨(dR w _).1,fun e=>by have:=a.1 _ (.inl e);omega,a.2,ag _,(Fr.refl _ w).alloc _⟩
theorem XE(S:Src)(cb:Nat)(s:ByteArray)(w:af)(eb lb:bP)(name:ByteArray)(p:Nat)(l:List UInt8)(h:CR S cb s w p name 13 l)(hs:jI w eb S.fb lb S.base):
 aF prog 147 #[.iface 159 (.pointer (some ⟨cb,0,none⟩))] w fun e w'=>
  (DL (dQ s p 13) 0/\e= .returned (.tuple #[qX (aT (dQ s p 13) 0) (aT (dQ s p 13) (0+4)) (aA (dQ s p 13) (0+8)) (aA (dQ s p 13) (0+9)) (decide (aA (dQ s p 13) (0+12)=1)),.nilIface])/\CR S cb s w' (p+13) name 0 (l++cut s p 13)/\Fr (jP S cb) w w')\/
  ((∃T a,e= .returned (.tuple #[qX 0 0 0 0 false,.iface T (.pointer (some a))])/\dO S w' T a (¬DL (dQ s p 13) 0))/\oC S cb w'/\Fr (jP S cb) w w'):=by
 refine(Xx (aai S cb s eb lb name p 13 l) (PZ S cb s eb lb name p 13 l h.ok h.base h.le) (dQ s p 13) 0 w ⟨rfl,aU _,hs,by rw[eP,zA];exact h⟩ (aU _)).mono ?_;rintro e w' (⟨c,d,b,f⟩|⟨⟨T,a,c,d⟩,b,f⟩)
 ·obtain⟨_,_,_,b⟩:=b;exact .inl ⟨c,d,b,f⟩
 ·exact .inr ⟨⟨T,a,c,d⟩,b.2,f⟩
theorem afi(a b:Nat)(c:a<=2147483647)(hb:b<=2147483647):a*b<18446744073709551616:=by have:=bT c hb;omega
theorem Np(S:Src)(cb:Nat)(s:ByteArray)(w:af)(bM:Nat)(eb lb:bP)(name:ByteArray)(l:List UInt8)(h:CR S cb s w 0 name 0 l)(hs:jI w eb S.fb lb S.base)(b5:bM<=1048576):
 aF prog 124 #[.pointer (some ⟨cb,0,none⟩),.int .i64 (bM:Int)] w fun e w'=>
  (H0 s/\aT (dQ s 16 13) 0*aT (dQ s 16 13) (0+4)<=bM/\e= .returned (.tuple #[aeA s,.nilIface])/\CR S cb s w' 33 mP 0 ((mP.data.toList++cut s 16 13)++[])/\Fr (jP S cb) w w')\/
  (((H0 s/\bM<aT (dQ s 16 13) 0*aT (dQ s 16 13) (0+4))/\∃w0,S.K w0 s 33)/\e= .returned (.tuple #[qX 0 0 0 0 false,.iface 362 (.pointer (some lb))])/\oC S cb w'/\Fr (jP S cb) w w')\/
  ((∃T a,e= .returned (.tuple #[qX 0 0 0 0 false,.iface T (.pointer (some a))])/\dO S w' T a (¬H0 s))/\oC S cb w'/\Fr (jP S cb) w w'):=by
 have g:ah (H0 s↔Match s 0 lu/\Match s 8 acX/\DL (dQ s 16 13) 0/\jK s 29 0 (mP.data.toList++cut s 16 13)):=Iff.rfl;obtain⟨Q,hQ⟩:∃Q:Prop,Q=H0 s:=⟨_,rfl⟩;rw[<-hQ]at g|-;clear hQ;have A:=Jk.start h;have N:CR S cb s (w.alloc (.cells (vO 0 0 0 0 false) 221)) 0 name 0 l:=h.grow (fun k hk=>aj w _ k hk);have a0:w.alloc (.cells (vO 0 0 0 0 false) 221)=w.alloc (.cells #[.int .i64 0,.int .i64 0,.int .i64 0,.int .u8 0,.bool false] 221):=rfl;rw[a0]at A N;clear a0;have j:=fun w' (hf:Fr (jP S cb) w w')=>h.qL hs hf;go_enter func124,ntmps124
 go_wp2_with fail
 generalize (w.alloc (.cells #[.int .i64 0,.int .i64 0,.int .i64 0,.int .u8 0,.bool false] 221))=w0 at*;generalize b6:w.heap.size=rb at*;refine(aaf S cb s _ 0 0 name l N).mono ?_;rintro e w1 (⟨c,rfl,f,d⟩|⟨⟨T,a,rfl,c⟩,f,d⟩);rotate_left
 ·have b:=A.step d;have O:dO S w1 T a (¬Q):=c.imp (fun q R=>q (g.out.1 R).1);obtain⟨⟨o,p,t,u,x⟩,bf⟩:=b.cells;have x0:=bf 0;have x1:=bf 1;have x2:=bf 2;have x3:=bf 3;have x4:=bf 4;clear c bf;go_wp2_with fail
  refine aI (v:= .tuple #[qX 0 0 0 0 false,.iface T (.pointer (some a))]) (by simp[results,results124,go_sem,qX,o,p,t,u,x]) rfl ?_;obtain⟨m,B,y,z4⟩:=b.out (.int .i64 0) (.int .i64 0) (.int .i64 0) (.int .u8 0) (.bool false);exact .inr (.inr ⟨⟨T,a,rfl,B _ _ _ O⟩,y f,m⟩)
 have b:=A.step d;have A1:ah (Match s 0 lu):=c;clear c d A N;rw[fF]at f;have a1:=P_ S cb s w1 8 0 13 name mP l f (by omega) rfl;go_wp2_with fail
 refine a1.mono ?_;clear a1;rintro e w2 (⟨c,rfl,k1,d⟩|⟨⟨T,a,rfl,c⟩,f,d⟩);rotate_left
 ·have b:=b.step d;have O:dO S w2 T a (¬Q):=c.imp (fun q R=>q (g.out.1 R).2.1);obtain⟨⟨o,p,t,u,x⟩,bf⟩:=b.cells;have x0:=bf 0;have x1:=bf 1;have x2:=bf 2;have x3:=bf 3;have x4:=bf 4;clear c bf;go_wp2_with fail
  refine aI (v:= .tuple #[qX 0 0 0 0 false,.iface T (.pointer (some a))]) (by simp[results,results124,go_sem,qX,o,p,t,u,x]) rfl ?_;obtain⟨m,B,y,z4⟩:=b.out (.int .i64 0) (.int .i64 0) (.int .i64 0) (.int .u8 0) (.bool false);exact .inr (.inr ⟨⟨T,a,rfl,B _ _ _ O⟩,y f,m⟩)
 have C:=b.step d;have A2:ah (Match s 8 acX):=c;clear c d b f;have hH:=XE S cb s w2 eb lb mP 16 mP.data.toList k1 (j w2 C.fr);go_wp2_with fail
 refine hH.mono ?_;clear hH;rintro e w3 (⟨c,rfl,M,d⟩|⟨⟨T,a,rfl,c⟩,f,d⟩);rotate_left
 ·have b:=(C.step d).step ((Fr.refl (jP S cb) w3).alloc (.cells (vO 0 0 0 0 false) 221));have f:oC S cb (w3.alloc (.cells (vO 0 0 0 0 false) 221)):=f.grow (fun k hk=>aj _ _ k hk);have c:dO S (w3.alloc (.cells (vO 0 0 0 0 false) 221)) T a (¬DL (dQ s 16 13) 0):=c.alloc _;have E:w3.alloc (.cells (vO 0 0 0 0 false) 221)=w3.alloc (.cells #[.int .i64 0,.int .i64 0,.int .i64 0,.int .u8 0,.bool false] 221):=rfl;rw[E]at b f c;unfold qX;have O:dO S (w3.alloc (.cells #[.int .i64 0,.int .i64 0,.int .i64 0,.int .u8 0,.bool false] 221)) T a (¬Q):=c.imp (fun q R=>q (g.out.1 R).2.2.1);obtain⟨⟨o,p,t,u,x⟩,bf⟩:=b.cells;have x0:=bf 0;have x1:=bf 1;have x2:=bf 2;have x3:=bf 3;have x4:=bf 4;clear c bf;go_wp2_with fail
  refine aI (v:= .tuple #[qX 0 0 0 0 false,.iface T (.pointer (some a))]) (by simp[results,results124,go_sem,qX,o,p,t,u,x]) rfl ?_;obtain⟨m,B,y,z4⟩:=b.out (.int .i64 0) (.int .i64 0) (.int .i64 0) (.int .u8 0) (.bool false);unfold qX;exact .inr (.inr ⟨⟨T,a,rfl,B _ _ _ O⟩,y f,m⟩)
 have A3:ah (DL (dQ s 16 13) 0):=c;have hW:aT (dQ s 16 13) 0<=2147483647:=c.1.1.2;have hH:aT (dQ s 16 13) (0+4)<=2147483647:=c.2.1.1.2;have hD:=dH (dQ s 16 13) (0+8);have a3:=dH (dQ s 16 13) (0+9);have HV:ah (aeA s=qX (aT (dQ s 16 13) 0) (aT (dQ s 16 13) (0+4)) (aA (dQ s 16 13) (0+8)) (aA (dQ s 16 13) (0+9)) (decide (aA (dQ s 16 13) (0+12)=1))):=rfl;obtain⟨W,F⟩:∃W,W=aT (dQ s 16 13) 0:=⟨_,rfl⟩;obtain⟨H,G⟩:∃H,H=aT (dQ s 16 13) (0+4):=⟨_,rfl⟩;obtain⟨D,U⟩:∃D,D=aA (dQ s 16 13) (0+8):=⟨_,rfl⟩;obtain⟨K,V⟩:∃K,K=aA (dQ s 16 13) (0+9):=⟨_,rfl⟩;obtain⟨I,X⟩:∃I,I=decide (aA (dQ s 16 13) (0+12)=1):=⟨_,rfl⟩;rw[<-F]at hW HV;rw[<-G]at hH HV;rw[<-U]at hD HV;rw[<-V]at a3 HV;rw[<-X]at HV;rw[<-F,<-G,<-U,<-V,<-X];have EW:ah _:=F;have EH:ah _:=G;clear F G U V X c;have Y:=C.step d;have a4:¬jP S cb w3.heap.size:=fun e=>by have:=M.e.lt.1 _ (.inl e);omega
 have a7:=ai Y.r;have J:=Y.step ((Fr.refl (jP S cb) w3).alloc (.cells (vO W H D K I) 221));have Z:CR S cb s (w3.alloc (.cells (vO W H D K I) 221)) 29 mP 0 (mP.data.toList++cut s 16 13):=M.grow (fun k hk=>aj _ _ k hk);have L:=(dR w3 (.cells (vO W H D K I) 221)).1;have E:w3.alloc (.cells (vO W H D K I) 221)=w3.alloc (.cells #[.int .i64 (W:Int),.int .i64 (H:Int),.int .i64 (D:Int),.int .u8 (K:Int),.bool I] 221):=rfl;rw[E]at J Z L;clear E M d C Y;unfold qX;go_wp2_with fail
 generalize a8:w3.heap.size=ob at*;generalize w3.alloc (.cells #[.int .i64 (W:Int),.int .i64 (H:Int),.int .i64 (D:Int),.int .u8 (K:Int),.bool I] 221)=w4 at*;refine(xC S cb s _ 29 0 mP _ Z).mono ?_;rintro e z (⟨c,rfl,M,d⟩|⟨⟨T,a,rfl,c⟩,f,d⟩);rotate_left
 ·have b:=J.step d;have O:dO S z T a (¬Q):=c.imp (fun q R=>q (g.out.1 R).2.2.2);obtain⟨⟨o,p,t,u,x⟩,bf⟩:=b.cells;have x0:=bf 0;have x1:=bf 1;have x2:=bf 2;have x3:=bf 3;have x4:=bf 4;clear c bf;go_wp2_with fail
  refine aI (v:= .tuple #[qX 0 0 0 0 false,.iface T (.pointer (some a))]) (by simp[results,results124,go_sem,qX,o,p,t,u,x]) rfl ?_;obtain⟨m,B,y,z4⟩:=b.out (.int .i64 0) (.int .i64 0) (.int .i64 0) (.int .u8 0) (.bool false);exact .inr (.inr ⟨⟨T,a,rfl,B _ _ _ O⟩,y f,m⟩)
 have a2:ah Q:=(g.out.2 ⟨A1.out,A2.out,A3.out,c⟩:Q);have n:=J.step d;have i:z.heap[ob]?=_:=(d.block ob (ai L) a4).trans L;rw[eP]at M;have o0:z.cell? ⟨ob,0,none⟩=some (.int .i64 (W:Int)):=by simpa [vO]using(cell_of i 0).1
 have o1:z.cell? ⟨ob,1,none⟩=some (.int .i64 (H:Int)):=by simpa [vO]using(cell_of i 1).1
 have o2:z.cell? ⟨ob,2,none⟩=some (.int .i64 (D:Int)):=by simpa [vO]using(cell_of i 2).1
 have o3:z.cell? ⟨ob,3,none⟩=some (.int .u8 (K:Int)):=by simpa [vO]using(cell_of i 3).1
 have o4:z.cell? ⟨ob,4,none⟩=some (.bool I):=by simpa [vO]using(cell_of i 4).1
 obtain⟨⟨o,p,t,u,x⟩,bf⟩:=n.cells;have x0:=bf 0;have x1:=bf 1;have x2:=bf 2;have x3:=bf 3;have x4:=bf 4;have hmul:=afi W H hW hH;obtain⟨P,hP⟩:∃P,P=W*H:=⟨_,rfl⟩;have b7:IntKind.u64.wrap ((W:Int)*(H:Int))=(P:Int):=by
  rw[IntKind.wrap_u64];have e:(W:Int)*(H:Int)=((W*H:Nat):Int):=by simp
  rw[e,<-hP];have:P<18446744073709551616:=by rw[hP];exact hmul
  omega
 have EP:ah (P=aT (dQ s 16 13) 0*aT (dQ s 16 13) (0+4)):=(by rw[hP,EW.out,EH.out]:_=_);clear c d i L J Z bf hmul hP;by_cases a9:bM<P
 ·have d1:decide ((bM:Int)<(P:Int))=true:=aZ (by omega);have a5:=(j z n.fr).la;unfold vK at a5;have a6:rb≠1:=by have:=n.br;have:=h.ok.ng;omega
  have b8:=r_ a6;go_wp2_with fail
  go_region
  go_wp2_with fail
  refine aI (v:= .tuple #[qX 0 0 0 0 false,.iface 362 (.pointer (some lb))]) (by simp[results,results124,go_sem,qX,o,p,t,u,x]) rfl ?_;obtain⟨m,B,y,z4⟩:=(n.step ((Fr.refl (jP S cb) z).drew)).out (.int .i64 0) (.int .i64 0) (.int .i64 0) (.int .u8 0) (.bool false);exact .inr (.inl ⟨⟨⟨a2.out,by rw[<-EP.out];omega⟩,z,M.k⟩,rfl,y (M.e.grow (fun _ _=>rfl)),m⟩)
 ·have d1:decide ((bM:Int)<(P:Int))=false:=aS (by omega);go_wp2_with fail
  refine aI (v:= .tuple #[qX W H D K I,.nilIface]) (by simp[results,results124,go_sem,qX,o,p,t,u,x]) rfl ?_;obtain⟨m,B,y,z4⟩:=n.out (.int .i64 (W:Int)) (.int .i64 (H:Int)) (.int .i64 (D:Int)) (.int .u8 (K:Int)) (.bool I);exact .inl ⟨a2.out,by rw[<-EP.out];omega,by rw[HV.out],z4 _ _ _ _ _ M,m⟩
end Pr
end Go.Proofs.YtephkcdbnogdhaaGreatDoor
