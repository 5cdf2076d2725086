import Derived.Test.YtephkcdbnogdhaaGreatDoorM6
set_option linter.unusedVariables false
set_option maxHeartbeats 40000000
set_option maxRecDepth 10000
namespace Go.Proofs.YtephkcdbnogdhaaGreatDoor
open Go.Proofs.Tryz
open Go renaming World->af,Calls->aF
open Go.RowKit renaming Hid->ah,Below->aJ,intOf->aX
namespace h_
open Go.RowKit Rf
theorem abM(W H D K I:Nat)(w:af)(hI:I<=1)(hK:K<=6)(hD:D<=16)(hW:W<=1048576)(hH:H<=1048576):
 aF prog 54 #[oQ W H D K I] w fun e w'=>e= .returned (.int .i64 ((lG D K W H (dX I):Nat):Int))/\aJ w.heap.size w w':=by
 have z:=fun w'=>FM W H D K I w' hI;have A:=fun px (h:px<=4294967296) w'=>BL W H D K I px w' hK hD h;obtain⟨X,B⟩:=FU I hI;obtain⟨T,Y⟩:∃T,T=lG D K W H (dX I):=⟨_,rfl⟩;rw[<-Y];have HT:ah _:=Y;have Z:ah _:=A;have C:ah _:=B;clear Y A B;generalize hl:dX I=l at*;clear hl;unfold oQ at*;go_enter func54,ntmps54
 go_wp2_with fail
 refine(z _).mono ?_;rintro e w1 ⟨v,rfl,⟨g,rfl,hg⟩,r⟩;have s:w1.heap[w.heap.size]?=some (.cells #[.int .i64 (W:Int),.int .i64 (H:Int),.int .i64 (D:Int),.int .i64 (K:Int),.int .i64 (I:Int)] 109 (0,0)):=(r.block _ (by simp)).trans (aO w _);have E:aJ w.heap.size w w1:=((aP _ _).alloc (ag _) _).trans (r.mono (by simp));have HG:ah _:=hg;have H1:ah _:=s;have F:ah _:=E;have a0:=Pr.ai hg;have a1:=Pr.ai s;clear hg s E r z;obtain⟨n,G⟩:∃n,n=l.length:=⟨_,rfl⟩;rw[<-G]at X|-;have HN:ah _:=G;clear G;go_wp2_with fail
 go_loopw [3,5] (fun sv iv wr=> ∃(i t:Nat),i<=n/\iv= .int .i64 (i:Int)/\sv= .int .i64 (t:Int)/\t=lG D K W H (l.take i)/\t<=i*200000000000000/\aJ w1.heap.size w1 wr) (fun _ iv _=>n-(aX iv).toNat)
 case atStart=>exact⟨0,0,aU _,rfl,rfl,rfl,by omega,aP _ _⟩
 case round=>
  obtain⟨i,t,hi,rfl,rfl,S,u,b⟩:=hrel;by_cases b1:i<n
  ·have a2:i<l.length:=by have:=HN.out;omega
   obtain⟨q,U⟩:∃q,l[i]?=some q:=⟨_,aG a2⟩;obtain⟨x0,x1,x2,x3⟩:=J_ l i q U;have d:wr.heap[g]?=some (.cells (rM l).toArray 169 (0,0)):=(b.block g a0).trans HG.out;have c:=(b.block _ a1).trans H1.out;have y0:wr.cell? ⟨g,i*4,none⟩=some (.int .i64 (q.1:Int)):=(Pr.cell_of d _).1.trans (by simpa using x0);have y1:wr.cell? ⟨g,i*4+1,none⟩=some (.int .i64 (q.2.1:Int)):=(Pr.cell_of d _).1.trans (by simpa using x1);have y2:wr.cell? ⟨g,i*4+2,none⟩=some (.int .i64 (q.2.2.1:Int)):=(Pr.cell_of d _).1.trans (by simpa using x2);have y3:wr.cell? ⟨g,i*4+3,none⟩=some (.int .i64 (q.2.2.2:Int)):=(Pr.cell_of d _).1.trans (by simpa using x3);have z0:wr.cell? ⟨w.heap.size,0,none⟩=some (.int .i64 (W:Int)):=by simpa using(Pr.cell_of c 0).1
   have z1:wr.cell? ⟨w.heap.size,1,none⟩=some (.int .i64 (H:Int)):=by simpa using(Pr.cell_of c 1).1
   have z2:wr.cell? ⟨w.heap.size,2,none⟩=some (.int .i64 (D:Int)):=by simpa using(Pr.cell_of c 2).1
   have z3:wr.cell? ⟨w.heap.size,3,none⟩=some (.int .i64 (K:Int)):=by simpa using(Pr.cell_of c 3).1
   have z4:wr.cell? ⟨w.heap.size,4,none⟩=some (.int .i64 (I:Int)):=by simpa using(Pr.cell_of c 4).1
   have hb:=C.out q (iP U);have J:ah _:=SI D K W H l i q U;have x:=fun w'=>FD q.1 q.2.1 W w' (by omega) (by omega) (by omega);have a3:=fun w'=>FD q.2.2.1 q.2.2.2 H w' (by omega) (by omega) (by omega);have b2:=FV q.1 q.2.1 W (by omega);have b3:=FV q.2.2.1 q.2.2.2 H (by omega);have V:ah (x_ D K W H q=if 0<manyN q.1 q.2.1 W then manyN q.2.2.1 q.2.2.2 H*(1+uF D K (manyN q.1 q.2.1 W))else 0):=(rfl:x_ D K W H q=_);generalize manyN q.1 q.2.1 W=j at*;generalize manyN q.2.2.1 q.2.2.2 H=mh at*;have b4:uF D K j<=100000000:=by unfold uF;have s:j*fB K<=1048576*4:=bT (by omega) (wI K);have h2:j*fB K*D<=1048576*4*16:=bT s hD;omega
   have p:=Z.out j (by omega);generalize uF D K j=R at*;obtain⟨q0,q1,q2,q3⟩:=q;dsimp only at*;have L:ah _:=S;have M:ah _:=u;have o:ah _:=b;have a4:ah _:=p;have b0:t<=7*200000000000000:=aK u (eY _ (by omega));have b5:(i:Int)<(n:Int):=by omega
   clear U x0 x1 x2 x3 d c S u b p C;generalize x_ D K W H (q0,q1,q2,q3)=SQ at*;by_cases tu:0<j
   ·obtain⟨m,hm⟩:∃m,m=mh*(1+R):=⟨_,rfl⟩;have y:ah (SQ=m):=(by rw[V.out,aC tu,hm]:_=_);have b6:(mh:Int)*(1+(R:Int))=(m:Int):=by rw[hm];simp
    have a5:m<=1048576*100000001:=by rw[hm];exact bT (by omega) (by omega)
    have a6:(0:Int)<(j:Int):=by omega
    clear hm V tu;go_wp2_with fail
    go_quiet ((go_at_call 96;exact jB (x _)))
    go_wp2_with fail
    obtain⟨f,a⟩:∃f,f=wr.drewN nq:=⟨_,rfl⟩;rw[<-a];have k0:f.cell? ⟨g,i*4+2,none⟩=some (.int .i64 (q2:Int)):=by rw[a];exact y2
    have k1:f.cell? ⟨g,i*4+3,none⟩=some (.int .i64 (q3:Int)):=by rw[a];exact y3
    have u0:f.cell? ⟨w.heap.size,0,none⟩=some (.int .i64 (W:Int)):=by rw[a];exact z0
    have u1:f.cell? ⟨w.heap.size,1,none⟩=some (.int .i64 (H:Int)):=by rw[a];exact z1
    have u2:f.cell? ⟨w.heap.size,2,none⟩=some (.int .i64 (D:Int)):=by rw[a];exact z2
    have u3:f.cell? ⟨w.heap.size,3,none⟩=some (.int .i64 (K:Int)):=by rw[a];exact z3
    have u4:f.cell? ⟨w.heap.size,4,none⟩=some (.int .i64 (I:Int)):=by rw[a];exact z4
    have N:ah (aJ w1.heap.size w1 f):=(by rw[a];exact kW.cZ o.out:aJ _ _ _);have O:w1.heap.size<=f.heap.size:=jh N.out;have a7:ah _:=O;clear a y0 y1 y2 y3 z0 z1 z2 z3 z4 x O
    go_region_with (first
     |(go_at_call 96;refine(a3 _).mono ?_;rintro e w3 ⟨rfl,rfl⟩)
     |(go_at_call 97;refine bz (a4.out _) ?_;rintro e w4 ⟨rfl,P⟩))
    all_goals
     have a8:ah (aJ w1.heap.size w1 w4):=(gI N.out (by have Q:=P;exact⟨Q.os,Q.tape,Q.output,Q.size,fun k hk=>Q.block k (bu hk a7.out)⟩):aJ _ _ _);clear P;go_wp2_with fail
     go_roundw
     case rel=>refine⟨i+1,t+m,by omega,by go_num,by go_num,by rw[J.out,y.out,<-L.out],?_,a8.out⟩;have s:=M.out;have h2:m<=200000000000000:=aK a5 (by decide);rw[fO,tJ];exact Nat.add_le_add s h2
     case measure=>simp[aX];omega
   ·have y:ah (SQ=0):=(by rw[V.out,au tu]:_=_);have a6:¬((0:Int)<(j:Int)):=by omega
    have b7:j=0:=by omega
    clear V tu;go_wp2_with fail
    go_quiet ((go_at_call 96;exact jB (x _)))
    go_wp2_with fail
    go_roundw
    case rel=>exact⟨i+1,t,by omega,by go_num,rfl,by rw[J.out,y.out,<-L.out];rfl,aK M.out (eY _ (by omega)),kW.cZ o.out⟩
    case measure=>simp[aX];omega
  ·have e:i=n:=by omega
   subst e;have a9:t=T:=by have G:=HN.out;rw[S,HT.out,G,sS]
   subst a9;have o:ah (aJ w.heap.size w wr):=(gI F.out (b.mono (jh F.out)):aJ _ _ _);clear b S;go_wp2_with fail
   go_ret;exact⟨rfl,o.out⟩
end h_
end Go.Proofs.YtephkcdbnogdhaaGreatDoor
