import Derived.Test.YtephkcdbnogdhabGreatDoorM27
set_option linter.unusedVariables false
set_option maxHeartbeats 40000000
set_option maxRecDepth 10000
namespace Go.Proofs.YtephkcdbnogdhabGreatDoor
open Go.Proofs.Tryz
open Go renaming World->af,Value->ay,Calls->aH,TypeId->aW,Addr->bG
open Go.RowKit renaming Hid->au,Below->aA,intOf->bH
namespace Kp
open Go.RowKit Rf Cr
open Pr
open gI (mY iU)
set_option maxRecDepth 100000 in
theorem Wj(W H K D n N ms:Nat)(I:Bool)(b1 pb:Nat)(S:List Int)(a2:Option bG)(q2:Nat)(ea:Option bG)(en ec:Nat)(w0:af){c0 c2 c3 c4 c7 c8 g4 g5 g6 g9 h3 h4 h5 c17 h7 h8 h9 i1 i2 i3 i4 i5 i6 i7 i9 j0 j1 j2 j3 j4 j5 j6 j7 j8 j9 k0 k4 k5 k6 k7 k8 k9 l0 l1 l2 l3 l4 l5 l6 l7 l8 l9 m0 m1 m2 m3 m4 m5 m6 m7 m8 m9 n0 n1 n2 n3 n4 n5 n6 n7 n8 n9 o0 o1 o2 o3 o4 v w y A B C E F G J L O P Q R T U V X Y Z a0 a1 a3 a4 a5 a6 a7 a8 a9 b0 b2 b3 b4 b5 b6 b7 b8 b9 c1 c5 c6 c9 d0 d1 d2 d3 d4 d5 d6 d7 d8 d9 e0 e1 u9 e4 e5 e6 e7 e8 e9 f0 f1 f2 f3 f4 f5 f6 f7 f8 f9 g0 g1 g2 h l m o:ay}{Q0:Exit->Act->af->Prop}
 (hS:gq w0 pb (.slice a2 S.length q2) S) (h6:w0.cell? ⟨b1,6,none⟩=some (.slice a2 S.length q2)) (o8:b1<pb) (s:w0.heap[pb]?=some (w_ W H K D I (.slice ea en ec) (.slice none 0 0) (.slice none 0 0))) (q7:S.length<=140737488351232)
 (hK:K=0\/K=2\/K=3\/K=4\/K=6) (hn:n=aT K) (o9:n<=4) (hW:W<=20) (hH:H<=20) (hN:N=W*H*n) (q8:1<=ms/\ms<=65536) (p0:u9= .int .i64 0)
 (p:∀(a:Nat) (b:Option bG) (u9 e4 e5 e6 e7 e8 e9 f0 f1 f2 f3 f4 f5 f6 f7 f8 f9 g0 g1 g2 h l m o:ay) (wx:af),wx.heap[pb]?=some (w_ W H K D I (.slice ea en ec) (.slice none 0 0) (.slice b N a))->wx.ownsRow (pb+1) 3 1 (.slice b N a) N (kR (jk (oP S) ms N))->N<=a->Fr (fun k=>k=pb) w0 wx->Q0 (.exit 2) ⟨#[c0,.pointer (some ⟨b1,0,none⟩),c2,c3,c4,.pointer (some ⟨pb,0,none⟩),.int .i64 (ms:Int),c7,c8,u9,g4,g5,g6,g9,h3,h4,h5,c17,h7,h8,h9,i1,i2,i3,i4,i5,i6,i7,i9,j0,j1,j2,j3,j4,j5,j6,j7,j8,j9,k0,k4,k5,k6,k7,k8,k9,l0,l1,l2,l3,l4,l5,l6,l7,l8,l9,m0,m1,m2,m3,m4,m5,m6,m7,m8,m9,n0,n1,n2,n3,n4,n5,n6,n7,n8,n9,o0,o1,o2,o3,o4,e4,e5,e6,e7,e8,e9,f0,f1,f2,f3,f4,f5,f6,f7,f8,f9,g0,g1,g2,h,l,m,o,v,w,y,A,B,C,E,F,G,J,L,O,P,Q,R,T,U,V,X,Y,Z,a0,a1,a3,a4,a5,a6,a7,a8,a9,b0,b2,b3,b4,b5,b6,b7,b8,b9,c1,c5,c6,c9,d0,d1,d2,d3,d4,d5,d6,d7,d8,d9,e0,e1],[]⟩ wx):
 Code.wp prog (wkL 1) (mY Q0) ⟨#[c0,.pointer (some ⟨b1,0,none⟩),c2,c3,c4,.pointer (some ⟨pb,0,none⟩),.int .i64 (ms:Int),c7,c8,u9,g4,g5,g6,g9,h3,h4,h5,c17,h7,h8,h9,i1,i2,i3,i4,i5,i6,i7,i9,j0,j1,j2,j3,j4,j5,j6,j7,j8,j9,k0,k4,k5,k6,k7,k8,k9,l0,l1,l2,l3,l4,l5,l6,l7,l8,l9,m0,m1,m2,m3,m4,m5,m6,m7,m8,m9,n0,n1,n2,n3,n4,n5,n6,n7,n8,n9,o0,o1,o2,o3,o4,e4,e5,e6,e7,e8,e9,f0,f1,f2,f3,f4,f5,f6,f7,f8,f9,g0,g1,g2,h,l,m,o,v,w,y,A,B,C,E,F,G,J,L,O,P,Q,R,T,U,V,X,Y,Z,a0,a1,a3,a4,a5,a6,a7,a8,a9,b0,b2,b3,b4,b5,b6,b7,b8,b9,c1,c5,c6,c9,d0,d1,d2,d3,d4,d5,d6,d7,d8,d9,e0,e1],[]⟩ w0:=by
 obtain⟨M,hM⟩:∃M,M=W*H:=⟨_,rfl⟩;have p1:M<=20*20:=by rw[hM];exact bD hW hH
 have q9:N<=20*20*4:=by rw[hN,<-hM];exact bD p1 o9
 have v1:IntKind.i64.wrap ((W:Int)*(H:Int))=(M:Int):=by rw[<-jK,<-hM,eY];omega
 have v2:IntKind.i64.wrap ((M:Int)*(n:Int))=(N:Int):=by rw[<-jK,hM,<-hN,eY];omega
 have p2:au (∀(b:Option bG) (sn a:Nat) (wx:af),aH prog 12 #[.agg #[.int .i64 (W:Int),.int .i64 (H:Int),.int .i64 (K:Int),.int .i64 (D:Int),.bool I,.slice ea en ec,.slice none 0 0,.slice b sn a]] wx fun e w'=>e= .returned (.int .i64 (n:Int))/\w'=wx.alloc (oC W H K D I (.slice ea en ec) (.slice none 0 0) (.slice b sn a))):=(fun b sn a wx=>by rw[hn];exact pX W H K D I _ _ _ wx ⟨_,_,_,rfl⟩ ⟨_,_,_,rfl⟩ ⟨_,_,_,rfl⟩ hK:∀_,_)
 have HS:au _:=hS;have p3:au _:=p;have p4:au _:=s;have q:au (pb<w0.heap.size/\b1<w0.heap.size):=(⟨ak s,rH o8 (ak s)⟩:_/\_);have H6:au _:=h6;clear hS p s h6 hM hN hn hK;subst p0;conv=>arg 2;whnf
 dsimp only;go_loopw [9] (fun iv wr=> ∃(i a:Nat) (b:Option bG),iv= .int .i64 (i:Int)/\i<=N/\au (wr.heap[pb]?=some (w_ W H K D I (.slice ea en ec) (.slice none 0 0) (.slice b i a)))/\au (wr.ownsRow w0.heap.size 3 1 (.slice b i a) i (kR (jk (oP S) ms i)))/\au (Fr (fun k=>k=pb) w0 wr)) (fun iv _=>N-(bH iv).toNat)
 case atStart=>exact⟨0,0,none,rfl,aX _,p4,(eX _ _ _ _:World.ownsRow _ _ _ _ _ _ _),(Fr.refl _ _:Fr _ _ _)⟩
 case round=>
  obtain⟨i,a,b,rfl,hi,c,HOr,o5⟩:=hrel;have z0:wr.cell? ⟨pb,0,none⟩=some (.int .i64 (W:Int)):=by simpa using(cell_of c.out 0).1
  have z1:wr.cell? ⟨pb,1,none⟩=some (.int .i64 (H:Int)):=by simpa using(cell_of c.out 1).1
  have z2:wr.cell? ⟨pb,2,none⟩=some (.int .i64 (K:Int)):=by simpa using(cell_of c.out 2).1
  have z3:wr.cell? ⟨pb,3,none⟩=some (.int .i64 (D:Int)):=by simpa using(cell_of c.out 3).1
  have z4:wr.cell? ⟨pb,4,none⟩=some (.bool I):=by simpa using(cell_of c.out 4).1
  have z5:wr.cell? ⟨pb,5,none⟩=some (.slice ea en ec):=by simpa using(cell_of c.out 5).1
  have z6:wr.cell? ⟨pb,6,none⟩=some (.slice none 0 0):=by simpa using(cell_of c.out 6).1
  have z7:wr.cell? ⟨pb,7,none⟩=some (.slice b i a):=by simpa using(cell_of c.out 7).1
  have o6:au _:=p2.out b i a;go_upto_region 19 with fail
  go_region_held (fun w'=>w'.cell? ⟨pb,0,none⟩=some (.int .i64 (W:Int))/\w'.cell? ⟨pb,1,none⟩=some (.int .i64 (H:Int))/\w'.cell? ⟨pb,2,none⟩=some (.int .i64 (K:Int))/\w'.cell? ⟨pb,3,none⟩=some (.int .i64 (D:Int))/\w'.cell? ⟨pb,4,none⟩=some (.bool I)/\w'.cell? ⟨pb,5,none⟩=some (.slice ea en ec)/\w'.cell? ⟨pb,6,none⟩=some (.slice none 0 0)/\w'.cell? ⟨pb,7,none⟩=some (.slice b i a))
   (first|go_keep) (first
   |(go_at_call 12;go_must (refine aU (o6.out _) ?_;rintro e w4 ⟨rfl,rfl⟩)))
  have f:au ((wr.alloc (oC W H K D I (.slice ea en ec) (.slice none 0 0) (.slice b i a))).drew.heap[pb]?=some (w_ W H K D I (.slice ea en ec) (.slice none 0 0) (.slice b i a))):=((ai wr _ pb (ak c.out)).trans c.out:_=_);have g:au ((wr.alloc (oC W H K D I (.slice ea en ec) (.slice none 0 0) (.slice b i a))).drew.ownsRow w0.heap.size 3 1 (.slice b i a) i (kR (jk (oP S) ms i))):=(HOr.out.alloc _:World.ownsRow _ _ _ _ _ _ _);have d:au (Fr (fun k=>k=pb) w0 (wr.alloc (oC W H K D I (.slice ea en ec) (.slice none 0 0) (.slice b i a))).drew):=((o5.out.alloc _).drew:Fr _ _ _);revert f g d;generalize (wr.alloc (oC W H K D I (.slice ea en ec) (.slice none 0 0) (.slice b i a))).drew=w1;intro f g d;clear z0 z1 z2 z3 z4 z5 z6 z7 o6 c HOr o5 v1 v2;by_cases r0:i<N;rotate_left
  ·have p5:¬((i:Int)<(N:Int)):=by omega
   have p7:au (i=N):=(by omega:_=_);have p8:au (i<=a):=(ab5 g.out:_<=_);go_wp2_with fail
   have e:=p7.out;subst e;exact p3.out a b _ _ _ _ _ _ _ _ _ _ _ _ _ _ _ _ _ _ _ _ _ _ _ _ _ f.out (yA g.out q.out.1) p8.out d.out
  ·have p5:(i:Int)<(N:Int):=by omega
   have z7:w1.cell? ⟨pb,7,none⟩=some (.slice b i a):=by simpa using(cell_of f.out 7).1
   have p6:w1.cell? ⟨b1,6,none⟩=some (.slice a2 S.length q2):=(aQ (d.out.block b1 q.out.2 (by omega))).trans H6.out;have g3:gq w1 pb (.slice a2 S.length q2) S:=gq.over HS.out (fun k hk=>d.out.block k (rH hk q.out.1) (by omega));obtain⟨x,hx⟩:∃x,x=oP S i:=⟨_,rfl⟩;obtain⟨z,hz⟩:∃z,z=(pk (oP S i) ms).toNat:=⟨_,rfl⟩;have p9:au (aH prog 11 #[.slice a2 S.length q2,.int .i64 (i:Int)] w1.drew fun e w'=>e= .returned (.int .i64 x)/\w'=w1.drew):=(by rw[hx];exact yZ _ S i pb w1.drew g3 (by omega):aH _ _ _ _ _);have q0:au (aH prog 10 #[.int .i64 x,.int .i64 (ms:Int)] w1.drew fun e w'=>e= .returned (.int .i64 (z:Int))/\w'=w1.drew):=(by rw[hz,hx];exact qL (oP S i) ms (Gv g3 i) (by omega) (by omega) w1.drew:aH _ _ _ _ _);have HZ:au (kR (jk (oP S) ms (i+1))=kR (jk (oP S) ms i)++[.int .i64 (z:Int)]):=(by rw[Ar,zg,hz]:_=_);have r1:w0.heap.size<=w1.heap.size:=d.out.size;have r2:(w1.alloc (.cells #[.int .i64 (z:Int)] 3)).cell? ⟨pb,7,none⟩=some (.slice b i a):=(aQ (ai w1 _ pb (ak f.out))).trans z7;obtain⟨i0,q1,q3,q4,q5⟩:=info_parts lI.AB;clear hx hz g3;go_upto_region 21 with fail
   go_region_law (first
    |(go_simp;go_at_call 11;(with_reducible refine aU p9.out ?_);rintro e w5 ⟨rfl,rfl⟩;dsimp only)
    |(go_simp;go_at_call 10;(with_reducible refine aU q0.out ?_);rintro e w5 ⟨rfl,rfl⟩;dsimp only)
    |((refine step_append_lies _ (by rfl) _ _ _ (by rfl) w0.heap.size 3 i0 _ 1 8 underlying22 q1 q3 q4 q5 rfl (by omega) (.slice b i a) i (kR (jk (oP S) ms i)) (by rfl) (by exact(show w1.drew.ownsRow _ _ _ _ _ _ from g.out).alloc _) ⟨w1.heap.size,0,none⟩ 1 1 [.int .i64 (z:Int)] (by rfl) rfl (zO (cs:= #[.int .i64 (z:Int)]) (t:=3) (fr:=(0,0)) (by exact aP w1.drew _)) (by intro u hu;simp at hu;subst hu;rfl) (by omega) (by unfold maxLen;omega) (by omega) (by simp;omega) _ rfl ?_;intro ng e2 w4 r o7 r3 q6;have kB:=(qW (j:=7) (wr:=w1.drew) f.out g.out d.out.drew q.out.1 r o7).1;have y7:w4.cell? ⟨pb,7,none⟩=some (.slice b i a):=(by simpa using(cell_of kB 7).1);have g7:w4.frozen? ⟨pb,7,none⟩=false:=(by simpa using(cell_of kB 7).2))))
   all_goals
    go_wp2_with fail
    go_roundw
    case rel=>obtain⟨k1,k2,k3⟩:=(qW (j:=7) (wr:=w1.drew) f.out g.out d.out.drew q.out.1 r o7).2 (.slice (some ⟨ng,0,none⟩) (i+1) e2);exact⟨i+1,e2,some ⟨ng,0,none⟩,by go_num,by omega,k1,(by rw[HZ.out];exact k2:World.ownsRow _ _ _ _ _ _ _),k3⟩
    case measure=>simp[bH];omega
end Kp
namespace Pr
open Go.RowKit Rf Cr
def ael(L:List Int):List ay:=L.map fun z=> .int .i64 z
theorem aep(L:List Int)(z:Int):ael (L++[z])=ael L++[.int .i64 z]:=by simp[ael]
theorem aeZ(L:List Int):(ael L).length=L.length:=by simp[ael]
theorem ae8(L:List Int)(i:Nat)(h:i<L.length):(ael L)[i]?=some (.int .i64 (L.getD i 0)):=by simp[ael,h,List.getD_eq_getElem?_getD]
theorem aeo{wr:af}{ops:Array Oper}{rest:List Oper}{o:Oper}{a:Act}{Q:Exit->Act->af->Prop}(d:o.guard=none)(s x:Operand)
 (i:o.op= .call {callee:= .builtin .append,args:= #[s,x],argTypes:= #[22,22]}) (base:Nat) (v:ay) (n:Nat) (xs:List ay) (z:Int)
 (b:wr.ownsRow base 3 1 v n xs) (k:a.eval s=v) (l:a.eval x= .slice (some ⟨wr.heap.size,0,none⟩) 1 1) (p:n<=17592186044000) (hb:base<=wr.heap.size)
 (h:∀v' w',w'.ownsRow base 3 1 v' (n+1) (xs++[.int .i64 z])->(wr.alloc (.cells #[.int .i64 z] 3)).grownBy w' v.ownBlock->wpList prog ops Q rest (a.put o.dst v') w'):
 wpList prog ops Q (o::rest) a (wr.alloc (.cells #[.int .i64 z] 3)):=by
 obtain⟨m,hi,e,f,g⟩:=info_parts lI.AB;refine wpList_append_own _ d s x 22 i base 3 m (.int .i64 0) 1 8 underlying22 hi e f g rfl (by decide) v n xs k (b.alloc _) ⟨wr.heap.size,0,none⟩ 1 1 [.int .i64 z] l rfl ?_ ?_ ?_ ?_ ?_ ?_
 ·intro j u c;match j,c with
  |0,c=>simp at c;subst c;simp[Addr.add]
 ·intro u hu;simp at hu;subst hu;rfl
 ·unfold maxLen;omega
 ·omega
 ·simp;omega
 ·intro v' w' h1 h2 q;exact h v' w' h1 h2
theorem aeQ(W:af)(n:Nat)(z:Int)(d:z=(n:Int))(f:n<=17592186044001):(Instr.makeSlice 22 (.int .i64 z) (.int .i64 z)).run prog W= .ok (.slice (some ⟨W.heap.size,0,none⟩) n n) (W.alloc (.cells (Array.replicate n (Value.int .i64 0)) 3)):=by subst d;obtain⟨e,hi,a,b,c⟩:=info_parts lI.AB;have h:=run_make (P:=prog) W 22 3 e _ underlying22 hi a .i64 .i64 (n:Int) (n:Int) (by omega) (by omega) (by rw[c];omega) (by omega);rw[h,b,<-gI.aeY];simp[Value.cells]
theorem aen{w:af}{base e size n:Nat}{v:ay}{xs:List ay}(h:w.ownsRow base e size v n xs):∃a c,v= .slice a n c:=by
 rcases h.2 with⟨rfl,rfl⟩|⟨g,cap,_,rfl,_⟩
 ·exact⟨_,_,rfl⟩
 ·exact⟨_,_,rfl⟩
structure EvS(w wx:af)(i e:Nat)(E:List Int)(ea:Option bG)(ec:Nat):Prop where
 len:E.length=i
 even:ZO E e
 rng:∀x∈E,0<=x/\x<=9223372036854775807
 own:wx.ownsRow w.heap.size 3 1 (.slice ea i ec) i (ael E)
 bl:aA w.heap.size w wx
theorem EvS.start(w:af):EvS w w 0 0 [] none 0:=⟨rfl,ZO.nil,fun x h=>by simp at h,eX _ _ _ _,aV _ _⟩
theorem EvS.next{w wx w2:af}{i e f:Nat}{E:List Int}{ea a:Option bG}{ec b:Nat}(h:EvS w wx i e E ea ec){z:Int}(g:0<=z)(d:z<=9223372036854775807)(he:ZO (E++[z]) f)
 (j:w2.ownsRow w.heap.size 3 1 (.slice a (i+1) b) (i+1) (ael E++[.int .i64 z])) (k:(wx.alloc (.cells #[.int .i64 z] 3)).grownBy w2 (Value.slice ea i ec).ownBlock):EvS w w2 (i+1) f (E++[z]) a b:=by
 refine⟨by rw[aK,h.len];rfl,he,fun x c=> ?_,by rw[aep];exact j,lI.mW h.bl (ah _) h.bl.size h.own k⟩;rcases List.mem_append.1 c with c|c
 ·exact h.rng x c
 ·rw[List.mem_singleton.1 c];exact⟨g,d⟩
theorem KT.over{w w':af}{eb fb lb:bG}(h:KT w eb fb lb)(hb:aA w.heap.size w w'):KT w' eb fb lb:=by have b:=h.ng;refine⟨?_,h.Sl.over (fun k c=>hb.block k (by omega)),wI h.tab b (fun k c=>hb.block k c),h.ord.over (hb.block _ (by omega)),fun i hi=>(aQ (hb.block _ (by omega))).trans (h.sml i hi),aY b hb.size⟩;have a:=h.pI.over (fun k c=>hb.block k c);have d:=hb.size;exact⟨a.en,a.fa,a.la,a.ef,a.el,a.fl,a.be,a.bf,a.bl,⟨aN a.lt.1 d,aN a.lt.2.1 d,aN a.lt.2.2 d⟩,aY a.ng d⟩
theorem Le(w:af):gq w w.heap.size (.slice none 0 0) []:=⟨none,0,rfl,by simp,fun i hi=>by simp at hi⟩
theorem Gz(t:Nat):∃k,nY [] t=some k:=Rt ZO.nil.adS t
end Pr
namespace Su
open Ad Cr
def mix(l m:List UInt8):List UInt8:=List.zipWith (· ^^^ ·) l m
theorem afr(l m:List UInt8)(h:l.length=m.length):(mix l m).length=l.length:=by simp[mix];omega
theorem afy(a b c d:Nat):(a^^^b)^^^(c^^^d)=(a^^^c)^^^(b^^^d):=by rw[Nat.xor_assoc,<-Nat.xor_assoc b c d,Nat.xor_comm b c,Nat.xor_assoc c b d,<-Nat.xor_assoc]
theorem afP(c d:Nat)(a b:UInt8):next (c^^^d) (a^^^b)=next c a^^^next d b:=by unfold next;rw[<-Uz,UInt8.toNat_xor,afy]
theorem af5(l:List UInt8):∀(m:List UInt8) (c d:Nat),l.length=m.length->GU (c^^^d) (mix l m)=GU c l^^^GU d m:=by
 induction l with
 |nil=>intro m c d h;cases m with
  |nil=>rfl
  |cons b m=>cases h
 |cons a l e=>intro m c d h;cases m with
  |nil=>cases h
  |cons b m=>show GU (c^^^d) ((a^^^b)::mix l m)=_;rw[Me,Me,Me,afP];exact e m _ _ (by simpa using h)
theorem afQ(l:List UInt8):∀n,n=l.length->mix l (List.replicate n 0)=l:=by
 induction l with
 |nil=>intro n h;subst h;rfl
 |cons a l b=>intro n h;subst h;show(a^^^0)::mix l (List.replicate l.length 0)=_;rw[b _ rfl];simp
def C(l:List UInt8):Nat:=4294967295-GU 4294967295 l
theorem afw(l:List UInt8):GU 4294967295 l<4294967296:=XF l 4294967295 (by decide)
theorem agm(l:List UInt8):C l<4294967296:=by unfold C;omega
theorem agf(l:List UInt8):C l=4294967295^^^GU 4294967295 l:=by have h:=UD (GU 4294967295 l) (afw l);exact h.symm
theorem af_(l m:List UInt8)(h:l.length=m.length):C l^^^C m=GU 0 (mix l m):=by rw[agf,agf,afy,Nat.xor_self,Nat.zero_xor,<-af5 l m _ _ h,Nat.xor_self]
theorem agl(l m:List UInt8)(h:l.length=m.length):C l^^^C m=C (mix l m)^^^C (List.replicate l.length 0):=by rw[af_ l m h,af_ _ _ (by rw[afr l m h];simp),afQ _ _ (afr l m h).symm]
theorem afI(x:Nat)(h:x<4294967296)(e:Cr.step x=0):x=0:=by
 unfold Cr.step at e;split at e
 ·have:x/2=3988292384:=by
   have k:=jo (· ^^^3988292384) e;rw[Nat.xor_assoc,Nat.xor_self,Nat.xor_zero,Nat.zero_xor]at k;exact k
  omega
 ·omega
theorem afR(a b:Nat)(c:a<4294967296)(hb:b<4294967296)(e:Cr.step a=Cr.step b):a=b:=by
 have h:Cr.step (a^^^b)=0:=by rw[XD,e,Nat.xor_self]
 have k:=afI _ (Nat.xor_lt_two_pow (n:=32) c hb) h;have:=jo (· ^^^b) k;rwa [Nat.xor_assoc,Nat.xor_self,Nat.xor_zero,Nat.zero_xor]at this
theorem aft(n:Nat):∀a b,a<4294967296->b<4294967296->steps n a=steps n b->a=b:=by
 induction n with
 |zero=>intro a b _ _ e;exact e
 |succ n d=>intro a b c hb e;exact afR a b c hb (d _ _ (aa5 a c) (aa5 b hb) e)
theorem afS(c d:Nat)(b:UInt8)(a:c<4294967296)(hd:d<4294967296)(e:next c b=next d b):c=d:=by have h:=aft 8 _ _ (Dq c b a) (Dq d b hd) e;rw[Nat.xor_comm c,Nat.xor_comm d]at h;exact aeK _ _ _ h
theorem afJ(c:Nat)(a b:UInt8)(d:c<4294967296)(e:next c a=next c b):a=b:=by have h:=aft 8 _ _ (Dq c a d) (Dq c b d) e;exact UInt8.toNat_inj.1 (aeK _ _ _ h)
theorem af6(l:List UInt8):∀c d,c<4294967296->d<4294967296->GU c l=GU d l->c=d:=by
 induction l with
 |nil=>intro c d _ _ e;exact e
 |cons b l f=>intro c d a hd e;rw[Me,Me]at e;exact afS c d b a hd (f _ _ (aa6 c b a) (aa6 d b hd) e)
theorem afK(l:List UInt8)(i:Nat)(hi:i<l.length)(b:UInt8):l=l.take i++l[i]::l.drop (i+1)/\l.set i b=l.take i++b::l.drop (i+1):=by refine⟨?_,List.set_eq_take_append_cons_drop.trans (aG hi)⟩;conv=>lhs;rw[<-nS i l,kX hi]
theorem aga(l:List UInt8)(i:Nat)(hi:i<l.length)(b:UInt8)(hb:b≠l[i]):C (l.set i b)≠C l:=by
 obtain⟨a,c⟩:=afK l i hi b;intro e;have k:GU 4294967295 (l.set i b)=GU 4294967295 l:=by have h1:=afw (l.set i b);have h2:=afw l;unfold C at e;omega
 rw[c]at k;conv at k=>rhs;rw[a]
 rw[PY,PY,Me,Me]at k;have hp:=afw (l.take i);have h:=af6 _ _ _ (aa6 _ _ hp) (aa6 _ _ hp) k;exact hb (afJ _ _ _ hp h)
end Su
namespace Pr
open Rf Cr
open gI (cut fK bz gu bQ gQ fO dw rC lets Bv)
theorem Ia.ch{s:ByteArray}{K D:Nat}{x y:PS}(h:Ia s K D x y):rC s x.pos:=by
 cases h with
 |done h1=>exact h1
 |VF h1=>exact h1
 |VN h1=>exact h1
 |VO h1=>exact h1
 |other h1=>exact h1
theorem afF{a b:List UInt8}(h:(⟨a.toArray⟩:ByteArray)=⟨b.toArray⟩):a=b:=by
 injection h with h
 simpa using jo Array.toList h
theorem Ia.next{s:ByteArray}{K D:Nat}{x y:PS}(h:Ia s K D x y){k d:List UInt8}(i:lG s x.pos (qV k d))(j:isKind k)(hd:d.length<=2147483647)(l:k≠rE):
 ∃a,Ia s K D a y/\a.pos=x.pos+(qV k d).length/\((k=DL/\x.jQ<=1/\a.jQ=1)\/((k=yt\/k=uM)/\a.jQ=x.jQ)\/(k≠DL/\k≠yt/\k≠uM/\97<=(k.getD 0 0).toNat/\a.jQ=if x.jQ=1 then 2 else x.jQ)):=by
 obtain⟨c1,c2,c3,c4,c5⟩:=BC i j hd;have ne:∀{m:List UInt8},fG s (x.pos+4) 4=(⟨m.toArray⟩:ByteArray)->k=m:=fun e=>afF (c3.symm.trans e);have n:aF s (x.pos+4)=(k.getD 0 0).toNat:=by have h1:lG s (x.pos+4) (k++(d++bQ (gQ (k++d)))):=i.right;exact h1.left.2 0 (by rw[j.1];omega)
 cases h with
 |done h1 h2=>exact absurd (ne (m:=rE) h2) l
 |VF h1 h2 b c f=>exact⟨_,f,c5,.inl ⟨ne (m:=DL) h2,b,rfl⟩⟩
 |VN h1 h2 b c=>exact⟨_,c,c5,.inr (.inl ⟨.inl (ne (m:=yt) h2),rfl⟩)⟩
 |VO h1 h2 b c f g=>exact⟨_,g,c5,.inr (.inl ⟨.inr (ne (m:=uM) h2),rfl⟩)⟩
 |other h1 h2 b c f g o=>
  refine⟨_,o,c5,.inr (.inr ⟨fun e=>b ?_,fun e=>c ?_,fun e=>f ?_,by rw[<-n];exact g,rfl⟩)⟩
  ·rw[c3,e];rfl
  ·rw[c3,e];rfl
  ·rw[c3,e];rfl
theorem Ia.last{s:ByteArray}{K D:Nat}{x y:PS}(h:Ia s K D x y)(a:lG s x.pos (qV rE [])):x.pos+12=s.size:=by
 obtain⟨c1,c2,c3,c4,c5⟩:=BC a ZC (by simp);have no:∀{m:List UInt8},fG s (x.pos+4) 4=(⟨m.toArray⟩:ByteArray)->rE=m:=fun e=>afF (c3.symm.trans e);cases h with
 |done h1 h2 b c d=>omega
 |VF h1 h2=>exact absurd (no (m:=DL) h2) (by decide)
 |VN h1 h2=>exact absurd (no (m:=yt) h2) (by decide)
 |VO h1 h2=>exact absurd (no (m:=uM) h2) (by decide)
 |other h1 h2=>exact absurd c3 h2
def afe:List (List UInt8×List UInt8)->List UInt8
 | []=>[]
 |c::l=>qV c.1 c.2++afe l
theorem afg(a b:List (List UInt8×List UInt8)):afe (a++b)=afe a++afe b:=by
 induction a with
 |nil=>rfl
 |cons x a c=>rw[nC,afe,c,afe,bI]
def afs(l:List (List UInt8×List UInt8)):Prop:=∀c∈l,isKind c.1/\c.2.length<=2147483647/\c.1≠rE
theorem Ia.reach{s:ByteArray}{K D:Nat}{y:PS}(l:List (List UInt8×List UInt8)):∀{x:PS},Ia s K D x y->afs l->lG s x.pos (afe l)->∃a,Ia s K D a y/\a.pos=x.pos+(afe l).length:=by
 induction l with
 |nil=>intro x h _ _;exact⟨x,h,rfl⟩
 |cons c l d=>intro x h hm b;obtain⟨e,f,g⟩:=hm c (zl ..);obtain⟨n,h1,h2,_⟩:=h.next b.left e f g;obtain⟨i,j,k⟩:=d h1 (fun c m=>hm c (lS _ m)) (by rw[h2];exact b.right);refine⟨i,j,?_⟩;rw[k,h2,afe,aK,dK]
theorem lG.over{s b:ByteArray}{p:Nat}{l:List UInt8}(h:lG b p l)(a:p+l.length<=s.size)(e:∀i,p<=i->i<p+l.length->aF s i=aF b i):lG s p l:=
 ⟨a,fun i hi=>by rw[e (p+i) (by omega) (by omega)];exact h.2 i hi⟩
theorem afo{s b:ByteArray}{p:Nat}(e:∀i,p<=i->i<p+4->aF s i=aF b i):bz s p=bz b p:=by unfold bz;rw[e p (by omega) (by omega),e (p+1) (by omega) (by omega),e (p+2) (by omega) (by omega),e (p+3) (by omega) (by omega)]
theorem af7{s b:ByteArray}{K D:Nat}{y:PS}(u:s.size<b.size)(he:∀i,i<s.size->aF s i=aF b i)(l:List (List UInt8×List UInt8)):
 ∀{x:PS},afs l->lG b x.pos (afe l++qV rE [])->x.pos+(afe l++qV rE []).length=b.size->¬Ia s K D x y:=by
 have early:∀(x:PS) (k d:List UInt8),isKind k->d.length<=2147483647->lG b x.pos (qV k d)->s.size<x.pos+(qV k d).length->¬Ia s K D x y:=by intro x k d j hd a e h;obtain⟨c1,c2,c3,c4,c5⟩:=BC a j hd;obtain⟨v,w,o,_⟩:=h.ch;rw[afo (fun i h1 h2=>he i (by omega)),c2]at o;rw[l_,j.1]at e;omega
 induction l with
 |nil=>intro x _ a f h;rw[afe,yD]at a f;exact early x rE [] ZC (by simp) a (by omega) h
 |cons c l p=>
  intro x hm a f h;obtain⟨m,n,q⟩:=hm c (zl ..);rw[afe,bI]at a f;rcases bW s.size (x.pos+(qV c.1 c.2).length)with e|g
  ·exact early x c.1 c.2 m n a.left e h
  ·obtain⟨r,h1,h2,_⟩:=h.next (a.left.over g (fun i _ hi=>he i (by omega))) m n q;refine p (fun c t=>hm c (lS _ t)) (x:=r) ?_ ?_ h1
   ·rw[h2];exact a.right
   ·rw[h2,<-f];simp only[List.length_append];omega
theorem agh{a b:UInt8}(h:a.toNat=b.toNat):a=b:=UInt8.toNat_inj.1 h
theorem afG{s b:ByteArray}{p q:Nat}{k d:List UInt8}(n:lG b p (qV k d))(l:k.length=4)(hd:d.length<=2147483647)(G:s.size=b.size)(he:∀i,i≠q->aF s i=aF b i)(u:aF s q≠aF b q)(h1:p+4<=q)(h2:q<p+(qV k d).length):¬rC s p:=by
 rintro⟨H,I,J,K,f⟩;rw[l_,l]at h2;have o:=n.1;rw[l_,l]at o;have y:lG b p (bQ d.length):=n.left;have z:lG b (p+4) (k++(d++bQ (gQ (k++d)))):=n.right;have m:lG b (p+4) ((k++d)++bQ (gQ (k++d))):=by rw[bI];exact z
 have A:lG b (p+8+d.length) (bQ (gQ (k++d))):=by have:=m.right;rw[aK,l]at this;rw[show p+8+d.length=p+4+(4+d.length)by omega];exact this
 have B:bz s p=d.length:=by rw[afo (b:=b) (fun i w r=>he i (by omega))];exact y.four (by omega)
 have e3:=A.four (fO _);unfold Bv at f;rw[B]at f;have a:(k++d).length=d.length+4:=by rw[aK,l];omega
 rcases bW q (p+8+d.length)with C|D
 ·
  have E:bz s (p+8+d.length)=gQ (k++d):=by rw[afo (b:=b) (fun i w r=>he i (by omega))];exact e3
  obtain⟨j,x⟩:∃j,q=p+4+j:=⟨q-p-4,by omega⟩;have c:j<(k++d).length:=by rw[a];omega
  obtain⟨v,F⟩:∃v:UInt8,v=UInt8.ofNat (aF s q):=⟨_,rfl⟩;have g:v.toNat=aF s q:=by rw[F,dB];exact gz (gI.rO s q)
  have ls:lG s (p+4) ((k++d).set j v):=by
   refine⟨by rw[iH,a];omega,fun i hi=> ?_⟩;rw[iH]at hi;by_cases t:i=j
   ·subst t;rw[ag,List.getElem?_set_self hi,<-x];exact g.symm
   ·rw[ag,List.getElem?_set_ne (by omega),<-ag,he (p+4+i) (by omega)];exact m.left.2 i hi
  have h:=ls.cut;rw[iH,a]at h;rw[h,E]at f;refine Su.aga (k++d) j c v (fun e=>u ?_) f.symm;rw[<-g,e,x,m.left.2 j c,ag,aB c];rfl
 ·
  have ls:lG s (p+4) (k++d):=m.left.over (by rw[a];omega) (fun i w r=>he i (by rw[a]at r;omega));have h:=ls.cut;rw[a]at h;rw[h,<-e3]at f;unfold bz at f;have v0:=gI.rO s (p+8+d.length);have v1:=gI.rO s (p+8+d.length+1);have v2:=gI.rO s (p+8+d.length+2);have L:=gI.rO s (p+8+d.length+3);have u0:=gI.rO b (p+8+d.length);have u1:=gI.rO b (p+8+d.length+1);have u2:=gI.rO b (p+8+d.length+2);have u3:=gI.rO b (p+8+d.length+3);rcases(by omega:q=p+8+d.length\/q=p+8+d.length+1\/q=p+8+d.length+2\/q=p+8+d.length+3)with e|e|e|e<;>rw[e]at u<;>omega
theorem afT{s:ByteArray}{p:Wk}(hH:ZR s p)(hp:p.Ok)(h:∀y,¬Ia s p.K p.D ps0 y):CY s 1048576 ⟨3,0,0,[]⟩:=by
 refine .dV (by omega) (by omega) (.inr ⟨?_,afO hH.h0 ?_⟩)
 ·rw[hH.w,hH.h];have:p.W*p.H<=20*20:=bD hp.w2 hp.h2;omega
 ·rintro⟨y,a⟩;rw[hH.k,hH.d]at a;exact h y a
theorem afz{s:ByteArray}(h:¬H0 s):CY s 1048576 ⟨3,0,0,[]⟩:= .dV (by omega) (by omega) (.inl h)
end Pr
namespace Pr
open Rf Cr
open gI (dL b_ lV bQ bz gQ manyN rC zB Oh dw)
open Jo (one)
open lI (Bq)
open Ad (oM)
theorem aeR{p:Wk}(h:p.Ok){s:ByteArray}{r:List UInt8}(b:s=⟨(zN++(qV tX (mg p.W p.H p.D p.K (if p.I=true then 1 else 0))++r)).toArray⟩):ZR s p/\lG s 33 r/\33+r.length=s.size:=by
 have a:=BD (zN++(qV tX (mg p.W p.H p.D p.K (if p.I=true then 1 else 0))++r));have hlen:=fF (zN++(qV tX (mg p.W p.H p.D p.K (if p.I=true then 1 else 0))++r));rw[<-b]at a hlen;refine⟨Wi h ?_,?_,?_⟩
 ·rw[<-bI]at a;exact a.left
 ·have:=a.right.right;rw[l_,vV]at this;exact this
 ·have c:zN.length=8:=rfl;have d:tX.length=4:=rfl;rw[hlen];simp only[List.length_append,l_,vV,c,d];omega
theorem OI{p:Wk}(h:p.Ok)(F:Nat->Nat)(size:Nat):(nR size (p.kJ F)).length<=30000:=by have h1:=yY size (p.kJ F).length (p.kJ F);have h2:=h.zn F;have a:=p.CZ F;unfold nR;rw[aK,aK,qK];have:([120,1]:List UInt8).length=2:=rfl;omega
theorem afU{p:Wk}(h:p.Ok)(F:Nat->Nat)(size:Nat){ds:List (List UInt8)}(a:ds.flatten=nR size (p.kJ F)):∀d∈ds,d.length<=2147483647:=fun d hd=>by have h1:=ZU hd;have h2:=OI h F size;rw[a]at h1;omega
def aek(size:Nat)(u x:List UInt8):List UInt8:=[120,1]++(kQ size u.length u++x)
theorem ae0(size most:Nat)(b:1<=size)(a:size<=65535)(u x:List UInt8)(e:x.length=4)(hm:u.length<=most):wU ⟨(aek size u x).toArray⟩ most=⟨⟨8*(kQ size u.length u).length,false⟩,u⟩:=by
 have c:(⟨(aek size u x).toArray⟩:ByteArray).extract 2 (⟨(aek size u x).toArray⟩:ByteArray).size=⟨(kQ size u.length u++x).toArray⟩:=by rw[ab1];rfl
 unfold wU Bq;rw[c];have d:=BD (kQ size u.length u++x);have f:=yY size u.length u;have:=VX ⟨(kQ size u.length u++x).toArray⟩ (pw (aF ⟨(aek size u x).toArray⟩ 0/16+8)) most size b a u.length u 0 [] (8*(⟨(kQ size u.length u++x).toArray⟩:ByteArray).size+1) (by have:1*(u.length+1)<=size*(u.length+1):=dM _ b;omega) d.left (by simpa using hm) (by rw[fF,aK];omega)
 rw[Nat.mul_zero]at this;rw[this,fQ,yD]
theorem ae_(size most:Nat)(f:1<=size)(d:size<=65535)(u x:List UInt8)(g:x.length=4)(hm:u.length=most)(hb:(x.getD 3 0).toNat≠one (oM 1 0 u)%256):¬WI ⟨(aek size u x).toArray⟩ most (fun _=>True):=by
 rintro⟨_,_,_,c,_⟩;rw[ae0 size most f d u x g (by omega)]at c;dsimp only at c;rw[show(8*(kQ size u.length u).length+7)/8=(kQ size u.length u).length by omega]at c;have h:=BD (aek size u x);have h1:=lG.right (a:=[120,1]) (b:=kQ size u.length u++x) h;have h2:=h1.right.2 3 (by omega);have i:=c.2.2.2.2;have e:0+([120,1]:List UInt8).length+(kQ size u.length u).length+3=2+(kQ size u.length u).length+3:=by have:([120,1]:List UInt8).length=2:=rfl;omega
 rw[e,i]at h2;exact hb h2.symm
theorem Wk.Ok.afc{p:Wk}(h:p.Ok)(F:Nat->Nat)(size:Nat)(b:1<=size)(c:size<=65535)(x:List UInt8)(m:x.length=4)(hb:(x.getD 3 0).toNat≠one (oM 1 0 (p.kJ F))%256):
 CY ⟨(p.text [aek size (p.kJ F) x]).toArray⟩ 1048576 ⟨3,0,0,[]⟩:=by
 obtain⟨s,l⟩:∃s:ByteArray,s=⟨(p.text [aek size (p.kJ F) x]).toArray⟩:=⟨_,rfl⟩;rw[<-l];obtain⟨hH,n,o⟩:=aeR h l;have e:=p.CZ F;have f:hSz s=(p.kJ F).length:=by unfold hSz;rw[hH.w,hH.h,hH.d,hH.k,hH.i,e,h.size F]
 have g:∀d∈[aek size (p.kJ F) x],d.length<=2147483647:=fun d hd=>by rw[List.mem_singleton.1 hd];have h1:=yY size (p.kJ F).length (p.kJ F);have h2:=h.zn F;unfold aek;rw[aK,aK];have:([120,1]:List UInt8).length=2:=rfl;omega
 obtain⟨q,pl,a,r⟩:=ZT h [aek size (p.kJ F) x] (by simp) g n o;rw[<-hH.k,<-hH.d]at a;obtain⟨P1,st,t,P2,j⟩:=abN hH.h0 a;refine .dV (by omega) (by omega) (.inr ⟨?_,afb j ?_⟩)
 ·rw[hH.w,hH.h];have:p.W*p.H<=20*20:=bD h.w2 h.h2;omega
 ·dsimp only;rw[List.flatten_cons,List.flatten_nil,kU];exact ae_ size _ b c _ x m f.symm hb
def Wk.afi(p:Wk):List (List UInt8×List UInt8):=(if p.K=3 then [(yt,BF p.E)]else [])++(if p.C=[]then []else [(uM,p.tr)])
theorem Wk.afj(p:Wk):afe p.afi=p.oz:=by
 unfold Wk.afi Wk.oz;rw[afg];congr 1
 ·split
  ·simp[afe]
  ·rfl
 ·split
  ·rfl
  ·simp[afe]
def afh(ds:List (List UInt8)):List (List UInt8×List UInt8):=ds.map fun d=>(DL,d)
theorem afl(ds:List (List UInt8)):afe (afh ds)=nP ds:=by
 induction ds with
 |nil=>rfl
 |cons d ds a=>show qV DL d++afe (afh ds)=_;rw[a];rfl
theorem Wk.Ok.adW{p:Wk}(h:p.Ok):p.tr.length<=768:=by
 by_cases b:p.K=3
 ·obtain⟨c,d,f,g,i,j⟩:=h.e3 b;unfold Wk.tr;rw[aG b];simp;omega
 ·have a:p.tr.length=2*p.C.length:=by unfold Wk.tr;rw[ax b];exact TE _
  by_cases k:p.K=0\/p.K=2
  ·rcases h.c0 k with e|⟨e,_⟩
   ·rw[a,e];simp
   ·have:aT p.K<=4:=by rcases k with e|e<;>rw[e]<;>decide
    omega
  ·have:=h.c4 (by have:=h.kinds;omega);rw[a,this];simp
theorem Wk.Ok.afE{p:Wk}(h:p.Ok):afs p.afi:=by
 intro c a;unfold Wk.afi at a;rcases List.mem_append.1 a with a|a
 ·split at a
  ·rename_i b;rw[List.mem_singleton.1 a];obtain⟨d,e,f,g,i,j⟩:=h.e3 b;exact⟨ZE,by show(BF p.E).length<=_;rw[qP];omega,show yt≠rE by decide⟩
  ·cases a
 ·split at a
  ·cases a
  ·rw[List.mem_singleton.1 a];exact⟨ZF,by have:=h.adW;show p.tr.length<=_;omega,show uM≠rE by decide⟩
theorem afx{ds:List (List UInt8)}(h:∀d∈ds,d.length<=2147483647):afs (afh ds):=by intro c a;obtain⟨d,hd,rfl⟩:=List.mem_map.1 a;exact⟨ZA,h d hd,show DL≠rE by decide⟩
theorem afs.app{a b:List (List UInt8×List UInt8)}(d:afs a)(hb:afs b):afs (a++b):=fun c e=>(List.mem_append.1 e).elim (d c) (hb c)
theorem H0.agi{s:ByteArray}(h:H0 s):33<=s.size:=by have h2:=(abG s).1 h;have a:=h2.2.1.2.2.1;have b:=h2.2.2.2.1;omega
theorem Wk.Ok.agb{p:Wk}(h:p.Ok)(ds:List (List UInt8))(c:∀d∈ds,d.length<=2147483647){s:ByteArray}(n:s.size<(p.text ds).length)(he:∀i,i<s.size->aF s i=aF ⟨(p.text ds).toArray⟩ i):CY s 1048576 ⟨3,0,0,[]⟩:=by
 obtain⟨b,hb⟩:∃b:ByteArray,b=⟨(p.text ds).toArray⟩:=⟨_,rfl⟩;have j:b.size=(p.text ds).length:=by rw[hb,fF]
 rw[<-hb]at he;by_cases h0:H0 s
 ·have k:=H0.agi h0;obtain⟨hH,l,m⟩:=aeR h hb;have a:=BD (p.text ds);rw[<-hb]at a;have e:lG s 0 (zN++qV tX (mg p.W p.H p.D p.K (if p.I=true then 1 else 0))):=by
   unfold Wk.text at a;rw[<-bI]at a;refine a.left.over ?_ (fun i _ hi=>he i ?_)
   ·have f:zN.length=8:=rfl;have g:tX.length=4:=rfl;rw[aK,l_,vV,f,g];omega
   ·have f:zN.length=8:=rfl;have g:tX.length=4:=rfl;rw[aK,l_,vV,f,g]at hi;omega
  refine afT (Wi h e) h (fun y=> ?_);refine af7 (b:=b) (by omega) he (p.afi++afh ds) (h.afE.app (afx c)) ?_ ?_
  ·rw[afg,p.afj,afl,bI];exact l
  ·rw[afg,p.afj,afl,bI];exact m
 ·exact afz h0
theorem Wk.Ok.af8{p:Wk}(h:p.Ok)(ds:List (List UInt8))(u:∀d∈ds,d.length<=2147483647){s:ByteArray}{q:Nat}(L:s.size=(p.text ds).length)(he:∀i,i≠q->aF s i=aF ⟨(p.text ds).toArray⟩ i)(v:aF s q≠aF ⟨(p.text ds).toArray⟩ q)
 (w:(12<=q/\q<33)\/∃(a r:List (List UInt8×List UInt8)) (c:List UInt8×List UInt8),p.afi++afh ds++[(rE,[])]=a++c::r/\33+(afe a).length+4<=q/\q<33+(afe a).length+(qV c.1 c.2).length):CY s 1048576 ⟨3,0,0,[]⟩:=by
 obtain⟨b,hb⟩:∃b:ByteArray,b=⟨(p.text ds).toArray⟩:=⟨_,rfl⟩;have x:b.size=(p.text ds).length:=by rw[hb,fF]
 rw[<-hb]at he v;obtain⟨hH,M,N⟩:=aeR h hb;have f:=BD (p.text ds);rw[<-hb]at f;have C:zN.length=8:=rfl;have n:tX.length=4:=rfl;rcases w with⟨E,F⟩|⟨a,r,c,e,E,F⟩
 ·refine afz (fun h0=> ?_);have h1:=((abG s).1 h0).2.1;unfold Wk.text at f;have O:lG b 8 (qV tX (mg p.W p.H p.D p.K (if p.I=true then 1 else 0))):=by have:=f.right.left;exact this
  exact afG O n (by rw[vV];omega) (by omega) he v (by omega) (by rw[l_,vV,n];omega) h1
 ·have j:afs (p.afi++afh ds):=h.afE.app (afx u);have A:lG s 0 (zN++qV tX (mg p.W p.H p.D p.K (if p.I=true then 1 else 0))):=by
   unfold Wk.text at f;rw[<-bI]at f;refine f.left.over ?_ (fun i _ hi=>he i ?_)
   ·rw[aK,l_,vV,C,n];omega
   ·rw[aK,l_,vV,C,n]at hi;omega
  refine afT (Wi h A) h (fun y P=> ?_);have g:lG b 33 (afe (a++c::r)):=by rw[<-e,afg,afg,p.afj,afl,bI];show lG b 33 (p.oz++(nP ds++(qV rE []++[])));rw[kU];exact M
  rw[afg,afe]at g;have lc:=g.right.left;have B:afs a:=by
   have k:∃t,a++t=p.afi++afh ds:=by
    rcases List.eq_nil_or_concat r with o|⟨G,z,o⟩
    ·subst o;exact⟨[],by
      have:=List.append_inj_left' e rfl;rw[kU];exact this.symm⟩
    ·rw[List.concat_eq_append]at o;subst o;refine⟨c::G,?_⟩;have Q:p.afi++afh ds++[(rE,[])]=(a++c::G)++[z]:=by rw[e];simp
     exact(List.append_inj_left' Q rfl).symm
   obtain⟨t,R⟩:=k;exact fun c S=>j c (by rw[<-R];exact List.mem_append_left _ S)
  have l:c∈p.afi++afh ds++[(rE,[])]:=by rw[e];simp
  have m:c.1.length=4/\c.2.length<=2147483647:=by
   rcases List.mem_append.1 l with hm|hm
   ·have:=j c hm;exact⟨this.1.1,this.2.1⟩
   ·rw[List.mem_singleton.1 hm];exact⟨rfl,by simp⟩
  obtain⟨T,h1,h2⟩:=P.reach a B (g.left.over (by rw[L,<-x];exact g.left.1) (fun i U V=>he i (by have:ps0.pos=33:=rfl;omega)));have J:=h1.ch;rw[h2]at J;exact afG lc m.1 m.2 (by omega) he v E F J
end Pr
open Go.RowKit
theorem aaw:prog.globalNamed "vellum/fault.TooLarge" =some 1:=by kernel_rfl
theorem ado:(prog.globals[1]?).map (·.type)=some 73:=by kernel_rfl
theorem ad1:prog.globalNamed "vellum/running.crcOfNibble" =some 4:=by kernel_rfl
theorem aeg:(prog.globals[4]?).map (·.type)=some 128:=by kernel_rfl
theorem aax:prog.globalNamed "vellum/rows.small" =some 5:=by kernel_rfl
theorem adp:(prog.globals[5]?).map (·.type)=some 212:=by kernel_rfl
def BM:List (String×DataW Unit):=[("vellum/running.crcOfNibble",Rows.laid_vellum_running_crcOfNibble),("errors.errorType",Rows.laid_errors_errorType),("vellum/fault.End",Rows.laid_vellum_fault_End),("vellum/fault.Failed",Rows.laid_vellum_fault_Failed),("vellum/fault.TooLarge",Rows.laid_vellum_fault_TooLarge),("vellum/rows.small",Rows.laid_vellum_rows_small),("vellum/unpack.lengthOrder",Rows.laid_vellum_unpack_lengthOrder)]
theorem WE(os:Os)(args:Array ay):laidMetH prog BM ((World.doorLaid prog 95 os).forCall (fun _ _=>0) ⟨#[],args,[]⟩).memory:=
 laidMetH_of_parts3 (fuel:=8) (laidMet_of_run' 8 (by kernel_rfl) (by kernel_rfl)) (by kernel_rfl) (by kernel_rfl)
def BN:List Int:=(List.range 16).map fun i=>((Cr.steps 4 i:Nat):Int)
theorem adq:(Rows.laid_vellum_running_crcOfNibble:DataW Unit)=Lib.tabData .u32 BN:=by kernel_rfl
theorem adr(i:Nat)(h:i<16):BN.getD i 0=((Cr.steps 4 i:Nat):Int):=by unfold BN;simp[List.getD_eq_getElem?_getD,h]
def OO{H:Type}(k:IntKind)(zss:List (List Int)):DataW H:= .agg (zss.map fun zs=>Lib.tabData k zs)
theorem Ie{H:Type}{enc:aW×ay->H}{P:Program}{w:af}{base:Nat}{sp:Nat->Bool}{held:Bool}{fuel:Nat}{t r e:aW}{n m:Nat}{k:IntKind}{cs:List ay}{zss:List (List Int)}{p:List MemPlace}
 (g:P.underlying t=some (.array n r)) (l:P.underlying r=some (.array m e)) (he:P.underlying e=some (.int k)) (b:P.cellsOf e=1) (a:P.cellsOf r=m)
 (h:DataW.trod enc P w base sp held fuel t cs=some (OO k zss,p)) (i j:Nat) (hi:i<n) (o:j<m) (zs:List Int) (c:zss[i]?=some zs):cs[i*m+j]?=(zs.map fun z=>Value.int k z)[j]?:=by
 obtain⟨xs,f,_,q,v,x,d⟩:=DataW.trod_array g h;have h1:=d i hi;rw[a,aB (by omega)]at h1;have h2:xs.map (·.1)=zss.map fun zs=>(Lib.tabData k zs:DataW H):=by
  have:=jo Prod.fst q;injection this with this
  exact this.symm
 have s:(xs[i]'(by omega)).1=Lib.tabData k zs:=by have:=jo (·[i]?) h2;simp only[List.getElem?_map,c,List.getElem?_eq_getElem (show i<xs.length by omega),Option.map_some,Option.some.injEq]at this;exact this
 have u:=Lib.cells_of_tab (zs:=zs) (p:=(xs[i]'(by omega)).2) l he b a (h1.trans (jo some (Prod.ext s rfl)));rw[<-u,dh o,gJ]
def zk:List (List Int):=[[0,8,0,8],[4,8,0,8],[0,4,4,8],[2,4,0,4],[0,2,2,4],[1,2,0,2],[0,1,1,2]]
theorem aay:(Rows.laid_vellum_rows_small:DataW Unit)=OO .u8 zk:=by kernel_rfl
theorem GG{W:af}(h:laidMetH prog BM W):laidMet prog [("vellum/running.crcOfNibble",Rows.laid_vellum_running_crcOfNibble),("vellum/fault.End",Rows.laid_vellum_fault_End),("vellum/fault.Failed",Rows.laid_vellum_fault_Failed),("vellum/fault.TooLarge",Rows.laid_vellum_fault_TooLarge),("vellum/rows.small",Rows.laid_vellum_rows_small),("vellum/unpack.lengthOrder",Rows.laid_vellum_unpack_lengthOrder)] W/\handlesMet prog [("errors.errorType",Rows.laid_errors_errorType)] W:=h
theorem OQ{W:af}(h:laidMetH prog BM W):Ci W:=by have h2:=(GG h).1;rw[adq]at h2;have a:Lib.TabIs prog W "vellum/running.crcOfNibble" .u32 BN:=Lib.tabIs_of_head ad1 aeg underlying128 underlying65 (by kernel_rfl) (by kernel_rfl) h2;intro i hi;have:=a.cell ad1 i (by simpa [BN]using hi);rw[adr i hi]at this;exact this
theorem GH{W:af}(h:laidMetH prog BM W):Pr.iK W:=by
 have h2:=(GG h).1.tail.tail.tail.tail.tail;rw[aav]at h2;have a:Lib.TabIs prog W "vellum/unpack.lengthOrder" .u8 v_:=Lib.tabIs_of_head aat adk underlying275 underlying5 (by kernel_rfl) (by kernel_rfl) h2;intro i hi;have b:v_.length=19:=by decide
 have:=a.cell aat i (by omega);rw[this];have e:v_.getD i 0=((Rf.order.getD i 0:Nat):Int):=by unfold v_;rw[ag,fH,ag];cases Rf.order[i]?<;>rfl
 rw[e]
theorem Ig{W:af}(h:laidMetH prog BM W):Pr.kZ W:=by
 have h2:=(GG h).1.tail.tail.tail.tail;rw[aay]at h2;obtain⟨ps,⟨l,m,cs,fuel,p,q,e,f,a,hd,_,_⟩,_⟩:=h2;obtain rfl:=eu (aax.symm.trans e);obtain rfl:=eu (adp.symm.trans f);intro i hi;have g:=World.var?_cell aax a i;rw[g];have b:i/4<7:=by omega
 obtain⟨zs,c⟩:∃zs,zk[i/4]?=some zs:=⟨_,aB (by exact b)⟩;have:=Ie (zss:=zk) underlying212 underlying211 underlying5 (by kernel_rfl) (by kernel_rfl) hd (i/4) (i%4) b (by omega) zs c;rw[show i/4*4+i%4=i by omega]at this;refine Eq.trans (by simpa using this) ?_;have d:∀k,k<28->∀zs,zk[k/4]?=some zs->(zs.map fun z=>Value.int .u8 z)[k%4]?=some (.int .u8 ((Pr.Kt.getD k 0:Nat):Int)):=by
  intro k n zs j;rcases(by omega:k=0\/k=1\/k=2\/k=3\/k=4\/k=5\/k=6\/k=7\/k=8\/k=9\/k=10\/k=11\/k=12\/k=13\/k=14\/k=15\/k=16\/k=17\/k=18\/k=19\/k=20\/k=21\/k=22\/k=23\/k=24\/k=25\/k=26\/k=27)with rfl|rfl|rfl|rfl|rfl|rfl|rfl|rfl|rfl|rfl|rfl|rfl|rfl|rfl|rfl|rfl|rfl|rfl|rfl|rfl|rfl|rfl|rfl|rfl|rfl|rfl|rfl|rfl
  all_goals
   cases j;rfl
 simpa using d i hi zs c
theorem Lm{W:af}{a b:bG}{s t:ByteArray}{l m:List UInt8}(h1:W.cell? a=some (.string s))(h2:s.data.toList=l)(c:W.cell? b=some (.string t))(f:t.data.toList=m)(d:l≠m):a≠b:=fun e=>by
 subst e;rw[h1]at c;injection c with c
 injection c with c
 subst c;exact d (h2.symm.trans f)
theorem Lp{W:af}(h:laidMetH prog BM W):∃eb fb lb,Pr.KT W eb fb lb:=by
 have g:=GH h;have b:7<=W.heap.size:=by have:=Er.yG (g 0 (by omega));simp at this;omega
 have h1:=(GG h).1.tail;obtain⟨q,f,F,s1,c0,c1,r,s,v0,v1,i,j,_,d,k,_,_,l,m⟩:=laid_sentinels2 h1 adY aef Ll TM underlying73 aau underlying284 underlying307 rfl rfl underlying9 TN OM;obtain⟨v,w,x,s2,y,c2,z,A,B,v2,_,_,_,e,n,_,_,_,o⟩:=laid_sentinels2 h1.tail Ll TM aaw ado underlying73 aau underlying284 underlying307 rfl rfl underlying9 TN OM;have lt:∀{a:bG} {c:Array ay} {t:aW},W.heap[a.block]?=some (.cells c t (0,0))->a.block<W.heap.size:=fun h=>Pr.ak h;have hF:Pr.kL W f:=by simpa [Pr.kL]using World.var?_cell Ll v1 0
 have C:Pr.xI W:=by
  obtain⟨name,u,ty,d,e,e3,D,p⟩:=(GG h).2 _ (List.mem_singleton.2 rfl);have en:name=[101,114,114,111,114]:=(eu d).symm;subst en;obtain rfl:=eu (adZ.symm.trans e);have hm:ty∈(List.range 317).filter fun t=>prog.rowNamed t [101,114,114,111,114]:=List.mem_filter.2 ⟨List.mem_range.2 (by rw[<-adm];exact e3),D⟩;rw[adn]at hm;obtain rfl:=List.mem_singleton.1 hm;have E:typeHandle prog 73= .pointer (some ⟨7,73,none⟩):=by kernel_rfl
  rw[E]at p;exact⟨⟨f,hF⟩,by simpa using World.var?_cell adX p 0⟩
 exact⟨q,f,w,⟨by simpa [Pr.ny]using World.var?_cell adY v0 0,hF,by simpa [Pr.uB]using World.var?_cell aaw v2 0,Lm i j d k (by decide),Lm i j e n (by decide),Lm d k e n (by decide),⟨c0,r,l⟩,⟨c1,s,m⟩,⟨c2,A,o⟩,⟨lt l,lt m,lt o⟩,b⟩,C,OQ h,g,Ig h,b⟩
end Go.Proofs.YtephkcdbnogdhabGreatDoor
