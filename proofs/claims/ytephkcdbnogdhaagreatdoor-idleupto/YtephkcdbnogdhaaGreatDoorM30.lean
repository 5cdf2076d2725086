import Derived.Test.YtephkcdbnogdhaaGreatDoorM27
set_option linter.unusedVariables false
set_option maxHeartbeats 40000000
set_option maxRecDepth 10000
namespace Go.Proofs.YtephkcdbnogdhaaGreatDoor
open Go.Proofs.Tryz
open Go renaming World->af,Value->ay,Calls->aH,TypeId->aW,Addr->bG
open Go.RowKit renaming Hid->au,Below->aA,intOf->bH
namespace Kp
open Go.RowKit Rf Cr
open Pr
open gI (mY iU)
set_option maxRecDepth 100000 in
theorem Wj(W H K D n N ms:Nat)(I:Bool)(b1 pb:Nat)(S:List Int)(a2:Option bG)(q2:Nat)(h:Option bG)(en l:Nat)(w0:af){c0 c2 c3 c4 c7 c8 g6 g9 h3 h4 h5 h7 h8 c17 h9 i1 i2 i3 i4 i5 i6 i7 i9 j0 j1 j2 j3 j4 j5 j6 j7 j8 j9 k0 k4 k5 k6 k7 k8 k9 l0 l1 l2 l3 l4 l5 l6 l7 l8 l9 m0 m1 m2 m3 m4 m5 m6 m7 m8 m9 n0 n1 n2 n3 n4 n5 n6 n7 n8 n9 o0 o1 o2 o3 o4 o5 o6 y A B C E F G J L O P Q R T U V X Y Z a0 a1 a3 a4 a5 a6 a7 a8 a9 b0 b2 b3 b4 b5 b6 b7 b8 b9 c1 c5 c6 c9 d0 d1 d2 d3 d4 d5 d6 d7 d8 d9 e0 e1 e2 e4 u9 e6 e7 e8 e9 f0 f1 f2 f3 f4 f5 f6 f7 f8 f9 g0 g1 g2 g3 g4 m o p q:ay}{Q0:Exit->Act->af->Prop}
 (hS:gq w0 pb (.slice a2 S.length q2) S) (h6:w0.cell? ⟨b1,6,none⟩=some (.slice a2 S.length q2)) (p0:b1<pb) (w:w0.heap[pb]?=some (w_ W H K D I (.slice h en l) (.slice none 0 0) (.slice none 0 0))) (q9:S.length<=140737488351232)
 (hK:K=0\/K=2\/K=3\/K=4\/K=6) (hn:n=aT K) (p1:n<=4) (hW:W<=20) (hH:H<=20) (hN:N=W*H*n) (r0:1<=ms/\ms<=65536) (p2:u9= .int .i64 0)
 (r:∀(a:Nat) (b:Option bG) (u9 e6 e7 e8 e9 f0 f1 f2 f3 f4 f5 f6 f7 f8 f9 g0 g1 g2 g3 g4 m o p q:ay) (wx:af),wx.heap[pb]?=some (w_ W H K D I (.slice h en l) (.slice none 0 0) (.slice b N a))->wx.ownsRow (pb+1) 3 1 (.slice b N a) N (kR (jk (oP S) ms N))->N<=a->Fr (fun k=>k=pb) w0 wx->Q0 (.exit 2) ⟨#[c0,.pointer (some ⟨b1,0,none⟩),c2,c3,c4,.pointer (some ⟨pb,0,none⟩),.int .i64 (ms:Int),c7,c8,u9,g6,g9,h3,h4,h5,h7,h8,c17,h9,i1,i2,i3,i4,i5,i6,i7,i9,j0,j1,j2,j3,j4,j5,j6,j7,j8,j9,k0,k4,k5,k6,k7,k8,k9,l0,l1,l2,l3,l4,l5,l6,l7,l8,l9,m0,m1,m2,m3,m4,m5,m6,m7,m8,m9,n0,n1,n2,n3,n4,n5,n6,n7,n8,n9,o0,o1,o2,o3,o4,o5,o6,e6,e7,e8,e9,f0,f1,f2,f3,f4,f5,f6,f7,f8,f9,g0,g1,g2,g3,g4,m,o,p,q,y,A,B,C,E,F,G,J,L,O,P,Q,R,T,U,V,X,Y,Z,a0,a1,a3,a4,a5,a6,a7,a8,a9,b0,b2,b3,b4,b5,b6,b7,b8,b9,c1,c5,c6,c9,d0,d1,d2,d3,d4,d5,d6,d7,d8,d9,e0,e1,e2,e4],[]⟩ wx):
 Code.wp prog (wkL 1) (mY Q0) ⟨#[c0,.pointer (some ⟨b1,0,none⟩),c2,c3,c4,.pointer (some ⟨pb,0,none⟩),.int .i64 (ms:Int),c7,c8,u9,g6,g9,h3,h4,h5,h7,h8,c17,h9,i1,i2,i3,i4,i5,i6,i7,i9,j0,j1,j2,j3,j4,j5,j6,j7,j8,j9,k0,k4,k5,k6,k7,k8,k9,l0,l1,l2,l3,l4,l5,l6,l7,l8,l9,m0,m1,m2,m3,m4,m5,m6,m7,m8,m9,n0,n1,n2,n3,n4,n5,n6,n7,n8,n9,o0,o1,o2,o3,o4,o5,o6,e6,e7,e8,e9,f0,f1,f2,f3,f4,f5,f6,f7,f8,f9,g0,g1,g2,g3,g4,m,o,p,q,y,A,B,C,E,F,G,J,L,O,P,Q,R,T,U,V,X,Y,Z,a0,a1,a3,a4,a5,a6,a7,a8,a9,b0,b2,b3,b4,b5,b6,b7,b8,b9,c1,c5,c6,c9,d0,d1,d2,d3,d4,d5,d6,d7,d8,d9,e0,e1,e2,e4],[]⟩ w0:=by
 obtain⟨M,hM⟩:∃M,M=W*H:=⟨_,rfl⟩;have p3:M<=20*20:=by rw[hM];exact bD hW hH
 have r1:N<=20*20*4:=by rw[hN,<-hM];exact bD p3 p1
 have v1:IntKind.i64.wrap ((W:Int)*(H:Int))=(M:Int):=by rw[<-jK,<-hM,eY];omega
 have v2:IntKind.i64.wrap ((M:Int)*(n:Int))=(N:Int):=by rw[<-jK,hM,<-hN,eY];omega
 have p4:au (∀(b:Option bG) (sn a:Nat) (wx:af),aH prog 61 #[.agg #[.int .i64 (W:Int),.int .i64 (H:Int),.int .i64 (K:Int),.int .i64 (D:Int),.bool I,.slice h en l,.slice none 0 0,.slice b sn a]] wx fun e w'=>e= .returned (.int .i64 (n:Int))/\w'=wx.alloc (oC W H K D I (.slice h en l) (.slice none 0 0) (.slice b sn a))):=(fun b sn a wx=>by rw[hn];exact pX W H K D I _ _ _ wx ⟨_,_,_,rfl⟩ ⟨_,_,_,rfl⟩ ⟨_,_,_,rfl⟩ hK:∀_,_)
 have HS:au _:=hS;have p5:au _:=r;have p7:au _:=w;have s:au (pb<w0.heap.size/\b1<w0.heap.size):=(⟨ak w,rH p0 (ak w)⟩:_/\_);have H6:au _:=h6;clear hS r w h6 hM hN hn hK;subst p2;conv=>arg 2;whnf
 dsimp only;go_loopw [9] (fun iv wr=> ∃(i a:Nat) (b:Option bG),iv= .int .i64 (i:Int)/\i<=N/\au (wr.heap[pb]?=some (w_ W H K D I (.slice h en l) (.slice none 0 0) (.slice b i a)))/\au (wr.ownsRow w0.heap.size 3 1 (.slice b i a) i (kR (jk (oP S) ms i)))/\au (Fr (fun k=>k=pb) w0 wr)) (fun iv _=>N-(bH iv).toNat)
 case atStart=>exact⟨0,0,none,rfl,aX _,p7,(eX _ _ _ _:World.ownsRow _ _ _ _ _ _ _),(Fr.refl _ _:Fr _ _ _)⟩
 case round=>
  obtain⟨i,a,b,rfl,hi,c,HOr,o7⟩:=hrel;have z0:wr.cell? ⟨pb,0,none⟩=some (.int .i64 (W:Int)):=by simpa using(cell_of c.out 0).1
  have z1:wr.cell? ⟨pb,1,none⟩=some (.int .i64 (H:Int)):=by simpa using(cell_of c.out 1).1
  have z2:wr.cell? ⟨pb,2,none⟩=some (.int .i64 (K:Int)):=by simpa using(cell_of c.out 2).1
  have z3:wr.cell? ⟨pb,3,none⟩=some (.int .i64 (D:Int)):=by simpa using(cell_of c.out 3).1
  have z4:wr.cell? ⟨pb,4,none⟩=some (.bool I):=by simpa using(cell_of c.out 4).1
  have z5:wr.cell? ⟨pb,5,none⟩=some (.slice h en l):=by simpa using(cell_of c.out 5).1
  have z6:wr.cell? ⟨pb,6,none⟩=some (.slice none 0 0):=by simpa using(cell_of c.out 6).1
  have z7:wr.cell? ⟨pb,7,none⟩=some (.slice b i a):=by simpa using(cell_of c.out 7).1
  have o8:au _:=p4.out b i a;go_upto_region 19 with fail
  go_region_held (fun w'=>w'.cell? ⟨pb,0,none⟩=some (.int .i64 (W:Int))/\w'.cell? ⟨pb,1,none⟩=some (.int .i64 (H:Int))/\w'.cell? ⟨pb,2,none⟩=some (.int .i64 (K:Int))/\w'.cell? ⟨pb,3,none⟩=some (.int .i64 (D:Int))/\w'.cell? ⟨pb,4,none⟩=some (.bool I)/\w'.cell? ⟨pb,5,none⟩=some (.slice h en l)/\w'.cell? ⟨pb,6,none⟩=some (.slice none 0 0)/\w'.cell? ⟨pb,7,none⟩=some (.slice b i a))
   (first|go_keep) (first
   |(go_at_call 61;go_must (refine aU (o8.out _) ?_;rintro e w4 ⟨rfl,rfl⟩)))
  have f:au ((wr.alloc (oC W H K D I (.slice h en l) (.slice none 0 0) (.slice b i a))).drew.heap[pb]?=some (w_ W H K D I (.slice h en l) (.slice none 0 0) (.slice b i a))):=((ai wr _ pb (ak c.out)).trans c.out:_=_);have g:au ((wr.alloc (oC W H K D I (.slice h en l) (.slice none 0 0) (.slice b i a))).drew.ownsRow w0.heap.size 3 1 (.slice b i a) i (kR (jk (oP S) ms i))):=(HOr.out.alloc _:World.ownsRow _ _ _ _ _ _ _);have d:au (Fr (fun k=>k=pb) w0 (wr.alloc (oC W H K D I (.slice h en l) (.slice none 0 0) (.slice b i a))).drew):=((o7.out.alloc _).drew:Fr _ _ _);revert f g d;generalize (wr.alloc (oC W H K D I (.slice h en l) (.slice none 0 0) (.slice b i a))).drew=w1;intro f g d;clear z0 z1 z2 z3 z4 z5 z6 z7 o8 c HOr o7 v1 v2;by_cases r2:i<N;rotate_left
  ·have p8:¬((i:Int)<(N:Int)):=by omega
   have p9:au (i=N):=(by omega:_=_);have q0:au (i<=a):=(ab5 g.out:_<=_);go_wp2_with fail
   have e:=p9.out;subst e;exact p5.out a b _ _ _ _ _ _ _ _ _ _ _ _ _ _ _ _ _ _ _ _ _ _ _ _ _ f.out (yA g.out s.out.1) q0.out d.out
  ·have p8:(i:Int)<(N:Int):=by omega
   have z7:w1.cell? ⟨pb,7,none⟩=some (.slice b i a):=by simpa using(cell_of f.out 7).1
   have p6:w1.cell? ⟨b1,6,none⟩=some (.slice a2 S.length q2):=(aQ (d.out.block b1 s.out.2 (by omega))).trans H6.out;have g5:gq w1 pb (.slice a2 S.length q2) S:=gq.over HS.out (fun k hk=>d.out.block k (rH hk s.out.1) (by omega));obtain⟨x,hx⟩:∃x,x=oP S i:=⟨_,rfl⟩;obtain⟨z,hz⟩:∃z,z=(pk (oP S i) ms).toNat:=⟨_,rfl⟩;have q1:au (aH prog 37 #[.slice a2 S.length q2,.int .i64 (i:Int)] w1.drew fun e w'=>e= .returned (.int .i64 x)/\w'=w1.drew):=(by rw[hx];exact yZ _ S i pb w1.drew g5 (by omega):aH _ _ _ _ _);have q3:au (aH prog 22 #[.int .i64 x,.int .i64 (ms:Int)] w1.drew fun e w'=>e= .returned (.int .i64 (z:Int))/\w'=w1.drew):=(by rw[hz,hx];exact qL (oP S i) ms (Gv g5 i) (by omega) (by omega) w1.drew:aH _ _ _ _ _);have HZ:au (kR (jk (oP S) ms (i+1))=kR (jk (oP S) ms i)++[.int .i64 (z:Int)]):=(by rw[Ar,zg,hz]:_=_);have r3:w0.heap.size<=w1.heap.size:=d.out.size;have r4:(w1.alloc (.cells #[.int .i64 (z:Int)] 3)).cell? ⟨pb,7,none⟩=some (.slice b i a):=(aQ (ai w1 _ pb (ak f.out))).trans z7;obtain⟨i0,q4,q5,q6,q7⟩:=info_parts lI.AB;clear hx hz g5;go_upto_region 21 with fail
   go_region_law (first
    |(go_simp;go_at_call 37;(with_reducible refine aU q1.out ?_);rintro e w5 ⟨rfl,rfl⟩;dsimp only)
    |(go_simp;go_at_call 22;(with_reducible refine aU q3.out ?_);rintro e w5 ⟨rfl,rfl⟩;dsimp only)
    |((refine step_append_lies _ (by rfl) _ _ _ (by rfl) w0.heap.size 3 i0 _ 1 8 underlying29 q4 q5 q6 q7 rfl (by omega) (.slice b i a) i (kR (jk (oP S) ms i)) (by rfl) (by exact(show w1.drew.ownsRow _ _ _ _ _ _ from g.out).alloc _) ⟨w1.heap.size,0,none⟩ 1 1 [.int .i64 (z:Int)] (by rfl) rfl (zO (cs:= #[.int .i64 (z:Int)]) (t:=3) (fr:=(0,0)) (by exact aP w1.drew _)) (by intro u hu;simp at hu;subst hu;rfl) (by omega) (by unfold maxLen;omega) (by omega) (by simp;omega) _ rfl ?_;intro ng e5 w4 v o9 r5 q8;have kB:=(qW (j:=7) (wr:=w1.drew) f.out g.out d.out.drew s.out.1 v o9).1;have y7:w4.cell? ⟨pb,7,none⟩=some (.slice b i a):=(by simpa using(cell_of kB 7).1);have g7:w4.frozen? ⟨pb,7,none⟩=false:=(by simpa using(cell_of kB 7).2))))
   all_goals
    go_wp2_with fail
    go_roundw
    case rel=>obtain⟨k1,k2,k3⟩:=(qW (j:=7) (wr:=w1.drew) f.out g.out d.out.drew s.out.1 v o9).2 (.slice (some ⟨ng,0,none⟩) (i+1) e5);exact⟨i+1,e5,some ⟨ng,0,none⟩,by go_num,by omega,k1,(by rw[HZ.out];exact k2:World.ownsRow _ _ _ _ _ _ _),k3⟩
    case measure=>simp[bH];omega
end Kp
namespace Pr
open Go.RowKit Rf Cr
theorem KT.over{w w':af}{eb fb lb:bG}(h:KT w eb fb lb)(hb:aA w.heap.size w w'):KT w' eb fb lb:=by have b:=h.ng;refine⟨?_,h.Sl.over (fun k c=>hb.block k (by omega)),wI h.tab b (fun k c=>hb.block k c),h.ord.over (hb.block _ (by omega)),fun i hi=>(aQ (hb.block _ (by omega))).trans (h.sml i hi),aY b hb.size⟩;have a:=h.pI.over (fun k c=>hb.block k c);have d:=hb.size;exact⟨a.en,a.fa,a.la,a.ef,a.el,a.fl,a.be,a.bf,a.bl,⟨aN a.lt.1 d,aN a.lt.2.1 d,aN a.lt.2.2 d⟩,aY a.ng d⟩
theorem Le(w:af):gq w w.heap.size (.slice none 0 0) []:=⟨none,0,rfl,by simp,fun i hi=>by simp at hi⟩
theorem Gz(t:Nat):∃k,nY [] t=some k:=Rt ZO.nil.adS t
end Pr
namespace Pr
open Rf Cr
open gI (cut fK bz gu bQ gQ fO dw rC lets Bv)
end Pr
namespace Pr
open Rf Cr
open gI (dL b_ lV bQ bz gQ manyN rC zB Oh dw)
open Jo (one)
open lI (Bq)
open Ad (oM)
theorem OI{p:Wk}(h:p.Ok)(F:Nat->Nat)(size:Nat):(nR size (p.kJ F)).length<=30000:=by have h1:=yY size (p.kJ F).length (p.kJ F);have h2:=h.zn F;have a:=p.CZ F;unfold nR;rw[aK,aK,qK];have:([120,1]:List UInt8).length=2:=rfl;omega
theorem Wk.Ok.adW{p:Wk}(h:p.Ok):p.tr.length<=768:=by
 by_cases b:p.K=3
 ·obtain⟨c,d,f,g,i,j⟩:=h.e3 b;unfold Wk.tr;rw[aG b];simp;omega
 ·have a:p.tr.length=2*p.C.length:=by unfold Wk.tr;rw[ax b];exact TE _
  by_cases k:p.K=0\/p.K=2
  ·rcases h.c0 k with e|⟨e,_⟩
   ·rw[a,e];simp
   ·have:aT p.K<=4:=by rcases k with e|e<;>rw[e]<;>decide
    omega
  ·have:=h.c4 (by have:=h.kinds;omega);rw[a,this];simp
end Pr
open Go.RowKit
theorem aaw:prog.globalNamed "vellum/fault.TooLarge" =some 1:=by kernel_rfl
theorem ado:(prog.globals[1]?).map (·.type)=some 80:=by kernel_rfl
theorem ad1:prog.globalNamed "vellum/running.crcOfNibble" =some 4:=by kernel_rfl
theorem aeg:(prog.globals[4]?).map (·.type)=some 268:=by kernel_rfl
theorem aax:prog.globalNamed "vellum/rows.small" =some 5:=by kernel_rfl
theorem adp:(prog.globals[5]?).map (·.type)=some 333:=by kernel_rfl
def BM:List (String×DataW Unit):=[("vellum/running.crcOfNibble",Rows.laid_vellum_running_crcOfNibble),("errors.errorType",Rows.laid_errors_errorType),("vellum/fault.End",Rows.laid_vellum_fault_End),("vellum/fault.Failed",Rows.laid_vellum_fault_Failed),("vellum/fault.TooLarge",Rows.laid_vellum_fault_TooLarge),("vellum/rows.small",Rows.laid_vellum_rows_small),("vellum/unpack.lengthOrder",Rows.laid_vellum_unpack_lengthOrder)]
theorem WE(os:Os)(args:Array ay):laidMetH prog BM ((World.doorLaid prog 95 os).forCall (fun _ _=>0) ⟨#[],args,[]⟩).memory:=
 laidMetH_of_parts3 (fuel:=8) (laidMet_of_run' 8 (by kernel_rfl) (by kernel_rfl)) (by kernel_rfl) (by kernel_rfl)
def BN:List Int:=(List.range 16).map fun i=>((Cr.steps 4 i:Nat):Int)
theorem adq:(Rows.laid_vellum_running_crcOfNibble:DataW Unit)=Lib.tabData .u32 BN:=by kernel_rfl
theorem adr(i:Nat)(h:i<16):BN.getD i 0=((Cr.steps 4 i:Nat):Int):=by unfold BN;simp[List.getD_eq_getElem?_getD,h]
def OO{H:Type}(k:IntKind)(zss:List (List Int)):DataW H:= .agg (zss.map fun zs=>Lib.tabData k zs)
theorem Ie{H:Type}{enc:aW×ay->H}{P:Program}{w:af}{base:Nat}{sp:Nat->Bool}{held:Bool}{fuel:Nat}{t r e:aW}{n m:Nat}{k:IntKind}{cs:List ay}{zss:List (List Int)}{p:List MemPlace}
 (g:P.underlying t=some (.array n r)) (l:P.underlying r=some (.array m e)) (he:P.underlying e=some (.int k)) (b:P.cellsOf e=1) (a:P.cellsOf r=m)
 (h:DataW.trod enc P w base sp held fuel t cs=some (OO k zss,p)) (i j:Nat) (hi:i<n) (o:j<m) (zs:List Int) (c:zss[i]?=some zs):cs[i*m+j]?=(zs.map fun z=>Value.int k z)[j]?:=by
 obtain⟨xs,f,_,q,v,x,d⟩:=DataW.trod_array g h;have h1:=d i hi;rw[a,aB (by omega)]at h1;have h2:xs.map (·.1)=zss.map fun zs=>(Lib.tabData k zs:DataW H):=by
  have:=jo Prod.fst q;injection this with this
  exact this.symm
 have s:(xs[i]'(by omega)).1=Lib.tabData k zs:=by have:=jo (·[i]?) h2;simp only[List.getElem?_map,c,List.getElem?_eq_getElem (show i<xs.length by omega),Option.map_some,Option.some.injEq]at this;exact this
 have u:=Lib.cells_of_tab (zs:=zs) (p:=(xs[i]'(by omega)).2) l he b a (h1.trans (jo some (Prod.ext s rfl)));rw[<-u,dh o,gJ]
def zk:List (List Int):=[[0,8,0,8],[4,8,0,8],[0,4,4,8],[2,4,0,4],[0,2,2,4],[1,2,0,2],[0,1,1,2]]
theorem aay:(Rows.laid_vellum_rows_small:DataW Unit)=OO .u8 zk:=by kernel_rfl
theorem GG{W:af}(h:laidMetH prog BM W):laidMet prog [("vellum/running.crcOfNibble",Rows.laid_vellum_running_crcOfNibble),("vellum/fault.End",Rows.laid_vellum_fault_End),("vellum/fault.Failed",Rows.laid_vellum_fault_Failed),("vellum/fault.TooLarge",Rows.laid_vellum_fault_TooLarge),("vellum/rows.small",Rows.laid_vellum_rows_small),("vellum/unpack.lengthOrder",Rows.laid_vellum_unpack_lengthOrder)] W/\handlesMet prog [("errors.errorType",Rows.laid_errors_errorType)] W:=h
theorem OQ{W:af}(h:laidMetH prog BM W):Ci W:=by have h2:=(GG h).1;rw[adq]at h2;have a:Lib.TabIs prog W "vellum/running.crcOfNibble" .u32 BN:=Lib.tabIs_of_head ad1 aeg underlying268 underlying96 (by kernel_rfl) (by kernel_rfl) h2;intro i hi;have:=a.cell ad1 i (by simpa [BN]using hi);rw[adr i hi]at this;exact this
theorem GH{W:af}(h:laidMetH prog BM W):Pr.iK W:=by
 have h2:=(GG h).1.tail.tail.tail.tail.tail;rw[aav]at h2;have a:Lib.TabIs prog W "vellum/unpack.lengthOrder" .u8 v_:=Lib.tabIs_of_head aat adk underlying347 underlying5 (by kernel_rfl) (by kernel_rfl) h2;intro i hi;have b:v_.length=19:=by decide
 have:=a.cell aat i (by omega);rw[this];have e:v_.getD i 0=((Rf.order.getD i 0:Nat):Int):=by unfold v_;rw[ag,fH,ag];cases Rf.order[i]?<;>rfl
 rw[e]
theorem Ig{W:af}(h:laidMetH prog BM W):Pr.kZ W:=by
 have h2:=(GG h).1.tail.tail.tail.tail;rw[aay]at h2;obtain⟨ps,⟨l,m,cs,fuel,p,q,e,f,a,hd,_,_⟩,_⟩:=h2;obtain rfl:=eu (aax.symm.trans e);obtain rfl:=eu (adp.symm.trans f);intro i hi;have g:=World.var?_cell aax a i;rw[g];have b:i/4<7:=by omega
 obtain⟨zs,c⟩:∃zs,zk[i/4]?=some zs:=⟨_,aB (by exact b)⟩;have:=Ie (zss:=zk) underlying333 underlying332 underlying5 (by kernel_rfl) (by kernel_rfl) hd (i/4) (i%4) b (by omega) zs c;rw[show i/4*4+i%4=i by omega]at this;refine Eq.trans (by simpa using this) ?_;have d:∀k,k<28->∀zs,zk[k/4]?=some zs->(zs.map fun z=>Value.int .u8 z)[k%4]?=some (.int .u8 ((Pr.Kt.getD k 0:Nat):Int)):=by
  intro k n zs j;rcases(by omega:k=0\/k=1\/k=2\/k=3\/k=4\/k=5\/k=6\/k=7\/k=8\/k=9\/k=10\/k=11\/k=12\/k=13\/k=14\/k=15\/k=16\/k=17\/k=18\/k=19\/k=20\/k=21\/k=22\/k=23\/k=24\/k=25\/k=26\/k=27)with rfl|rfl|rfl|rfl|rfl|rfl|rfl|rfl|rfl|rfl|rfl|rfl|rfl|rfl|rfl|rfl|rfl|rfl|rfl|rfl|rfl|rfl|rfl|rfl|rfl|rfl|rfl|rfl
  all_goals
   cases j;rfl
 simpa using d i hi zs c
theorem Lm{W:af}{a b:bG}{s t:ByteArray}{l m:List UInt8}(h1:W.cell? a=some (.string s))(h2:s.data.toList=l)(c:W.cell? b=some (.string t))(f:t.data.toList=m)(d:l≠m):a≠b:=fun e=>by
 subst e;rw[h1]at c;injection c with c
 injection c with c
 subst c;exact d (h2.symm.trans f)
theorem Lp{W:af}(h:laidMetH prog BM W):∃eb fb lb,Pr.KT W eb fb lb:=by
 have g:=GH h;have b:7<=W.heap.size:=by have:=Er.yG (g 0 (by omega));simp at this;omega
 have h1:=(GG h).1.tail;obtain⟨q,f,F,s1,c0,c1,r,s,v0,v1,i,j,_,d,k,_,_,l,m⟩:=laid_sentinels2 h1 adY aef Ll TM underlying80 aau underlying362 underlying384 rfl rfl underlying9 TN OM;obtain⟨v,w,x,s2,y,c2,z,A,B,v2,_,_,_,e,n,_,_,_,o⟩:=laid_sentinels2 h1.tail Ll TM aaw ado underlying80 aau underlying362 underlying384 rfl rfl underlying9 TN OM;have lt:∀{a:bG} {c:Array ay} {t:aW},W.heap[a.block]?=some (.cells c t (0,0))->a.block<W.heap.size:=fun h=>Pr.ak h;have hF:Pr.kL W f:=by simpa [Pr.kL]using World.var?_cell Ll v1 0
 have C:Pr.xI W:=by
  obtain⟨name,u,ty,d,e,e3,D,p⟩:=(GG h).2 _ (List.mem_singleton.2 rfl);have en:name=[101,114,114,111,114]:=(eu d).symm;subst en;obtain rfl:=eu (adZ.symm.trans e);have hm:ty∈(List.range 394).filter fun t=>prog.rowNamed t [101,114,114,111,114]:=List.mem_filter.2 ⟨List.mem_range.2 (by rw[<-adm];exact e3),D⟩;rw[adn]at hm;obtain rfl:=List.mem_singleton.1 hm;have E:typeHandle prog 80= .pointer (some ⟨7,80,none⟩):=by kernel_rfl
  rw[E]at p;exact⟨⟨f,hF⟩,by simpa using World.var?_cell adX p 0⟩
 exact⟨q,f,w,⟨by simpa [Pr.ny]using World.var?_cell adY v0 0,hF,by simpa [Pr.uB]using World.var?_cell aaw v2 0,Lm i j d k (by decide),Lm i j e n (by decide),Lm d k e n (by decide),⟨c0,r,l⟩,⟨c1,s,m⟩,⟨c2,A,o⟩,⟨lt l,lt m,lt o⟩,b⟩,C,OQ h,g,Ig h,b⟩
end Go.Proofs.YtephkcdbnogdhaaGreatDoor
