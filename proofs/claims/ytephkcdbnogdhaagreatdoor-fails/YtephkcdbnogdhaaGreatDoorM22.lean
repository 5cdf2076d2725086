import Derived.Test.YtephkcdbnogdhaaGreatDoorM19
set_option linter.unusedVariables false
set_option maxHeartbeats 40000000
set_option maxRecDepth 10000
namespace Go.Proofs.YtephkcdbnogdhaaGreatDoor
open Go.Proofs.Tryz
open Go renaming World->af,Value->ay,Calls->aF,TypeId->aY,Addr->bP
open Go.RowKit renaming Hid->ah,Below->aJ
namespace Pr
open Go.RowKit Rf
open kW (byteCells jw)
theorem QB(n aN:Nat)(hw:1<=aN):(n+1)%aN=if n%aN+1=aN then 0 else n%aN+1:=by
 have h:=oP n (show 0<aN by omega);rw[Nat.add_mod];by_cases e:aN=1
 ·subst e;simp[Nat.mod_one]
 ·rw[iH (show 1<aN by omega)];by_cases a:n%aN+1=aN
  ·rw[aC a,a,Nat.mod_self]
  ·rw[au a,iH (by omega)]
theorem kR.done{w w2 w3:af}{gb base:Nat}{v v':ay}{aN:Nat}{out:List UInt8}{x:UInt8}(h:kR w gb base v aN out)(a:Fr (fun k=>k=gb\/v.ownBlock=some k) w w2)(hb:w2.heap[gb]?=some (.cells #[.int .i64 (aN:Int),v',.int .i64 (((out.length+1)%aN:Nat):Int)] 231 (0,0)))
 (b:w2.ownsRow base 5 1 v' (min (out.length+1) aN) (iO (out++[x]) aN)) (e:w3.heap=w2.heap) (c:w3.os=w2.os) (d:w3.tape=w2.tape) (f:w3.output=w2.output):
 kR w3 gb base v' aN (out++[x])/\Fr (fun k=>k=gb\/v.ownBlock=some k) w w3:=by
 refine⟨⟨?_,?_,?_⟩,⟨c.trans a.os,d.trans a.tape,f.trans a.output,by rw[e];exact a.size,fun k g hS=>by rw[e];exact a.block k g hS⟩⟩
 ·rw[e,bQ,kD];exact hb
 ·rw[bQ,kD];exact gW b (fun k _=>by rw[e])
 ·rw[e];exact aK h.2.2 a.size
theorem ac9(gb base:Nat)(v:ay)(aN:Nat)(out:List UInt8)(x:UInt8)(w:af)(h:kR w gb base v aN out)(hw:1<=aN)(a0:aN<=32768)(hn:out.length<aN):
 aF prog 196 #[.pointer (some ⟨gb,0,none⟩),.int .u8 ((x.toNat:Nat):Int)] w fun e w'=>e= .returned (.tuple #[])/\∃v',kR w' gb base v' aN (out++[x])/\Fr (fun k=>k=gb\/v.ownBlock=some k) w w'/\(∀k,v'.ownBlock=some k->v.ownBlock=some k\/w.heap.size<=k):=by
 have Q:=h;obtain⟨hb,i,r⟩:=h;have j:out.length%aN=out.length:=iH hn;have H:min out.length aN=out.length:=by omega
 rw[j]at hb;rw[H,Ar out aN (by omega)]at i;have R:v.ownBlock≠some gb:=jA i hb (by decide);have n:ah _:=QB out.length aN hw;have d:ah (iO (out++[x]) aN=byteCells out++[.int .u8 ((x.toNat:Nat):Int)]):=(by rw[Ar _ aN (by simp;omega),jw]:_=_);have s:min (out.length+1) aN=out.length+1:=by omega
 have o:ah (min (out.length+1) aN=out.length+1):=s;clear s H;have a1:out.length<=32768:=by omega
 have M:out.length<=100000000:=by omega
 have Z:w.cell? ⟨gb,0,none⟩=some (.int .i64 (aN:Int)):=by simpa using(cell_of hb 0).1
 have b1:w.cell? ⟨gb,1,none⟩=some v:=by simpa using(cell_of hb 1).1
 rcases i.2 with⟨rfl,S⟩|⟨g,cap,cur,rfl,S⟩
 ·have a2:out.length=0:=S;go_enter func196,ntmps196
  go_wp2
  go_quiet (fail)
  have I:(w.drewN nq).heap[gb]?=_:=hb;have N:(w.drewN nq).ownsRow base 5 1 (.slice none 0 0) out.length (byteCells out):=i;have O:base<=(w.drewN nq).heap.size:=r;have t:Fr (fun k=>k=gb\/(.slice none 0 0:ay).ownBlock=some k) w (w.drewN nq):=⟨rfl,rfl,rfl,ag _,fun _ _ _=>rfl⟩;have J:ah ((w.drewN nq).heap.size=w.heap.size):=rfl;have T:(w.drewN nq).cell? ⟨gb,1,none⟩=some (.slice none 0 0):=by simpa using(cell_of I 1).1
  clear Z b1;generalize w.drewN nq=w0 at*
  go_wp2_with (first
   |(at_builtin;refine xG rfl _ _ rfl base _ out.length (byteCells out) ((x.toNat:Nat):Int) N rfl rfl M O ?_;go_must (intro v' w2 b m hw;obtain⟨l,a,rfl⟩:=kW.kX b;have c:=kW.uD m I (by simp[Value.ownBlock]);have u:=c.2 1;have y:=c.2 2;have K:w2.cell? ⟨gb,1,none⟩=some (.slice none 0 0):=(by simpa using(cell_of c.1 1).1);have z:w2.cell? ⟨gb,2,none⟩=some (.int .i64 (out.length:Int)):=(by simpa using(cell_of c.1 2).1);have A:w2.cell? ⟨gb,0,none⟩=some (.int .i64 (aN:Int)):=(by simpa using(cell_of c.1 0).1)))
   |go_in)
  have B:out.length+1=1:=by omega
  rw[B]at b hw;have C:(1:Int)=((out.length+1:Nat):Int):=by omega
  have p:((w2.setCell ⟨gb,1,none⟩ (.slice (some ⟨l,0,none⟩) 1 a)).setCell ⟨gb,2,none⟩ (.int .i64 1)).heap[gb]?=some (.cells #[.int .i64 (aN:Int),.slice (some ⟨l,0,none⟩) 1 a,.int .i64 1] 231 (0,0)):=(bG (bG c.1 1 _) 2 _).trans (by simp);have D:((w2.setCell ⟨gb,1,none⟩ (.slice (some ⟨l,0,none⟩) 1 a)).setCell ⟨gb,2,none⟩ (.int .i64 1)).ownsRow base 5 1 (.slice (some ⟨l,0,none⟩) 1 a) (1) (byteCells out++[.int .u8 ((x.toNat:Nat):Int)]):=gW b (fun k f=>by have E:k≠gb:=fun e=>jA b c.1 (by decide) (e▸f);exact(aB 2 _ E).trans (aB 1 _ E))
  have q:Fr (fun k=>k=gb\/(.slice none 0 0:ay).ownBlock=some k) w ((w2.setCell ⟨gb,1,none⟩ (.slice (some ⟨l,0,none⟩) 1 a)).setCell ⟨gb,2,none⟩ (.int .i64 1)):=by
   have U:w0.heap.size+1<=w2.heap.size:=by have:=m.size;simpa using this
   have V:=J.out;refine⟨m.os.trans t.os,m.tape.trans t.tape,m.output.trans t.output,by simp;omega,fun k f hS=> ?_⟩;refine(aB 2 _ (fun e=>hS (.inl e))).trans ((aB 1 _ (fun e=>hS (.inl e))).trans ?_);exact((m.block k (by simp;omega) (fun e=>hS (.inr e.symm))).trans (aj w0 _ k (by omega))).trans (t.block k f hS)
  have F:∀k,(.slice (some ⟨l,0,none⟩) 1 a:ay).ownBlock=some k->(.slice none 0 0:ay).ownBlock=some k\/w.heap.size<=k:=fun k f=>by rw[<-J.out];exact hw k f
  clear c u y K z A b m hw I N O t J T;generalize ((w2.setCell ⟨gb,1,none⟩ (.slice (some ⟨l,0,none⟩) 1 a)).setCell ⟨gb,2,none⟩ (.int .i64 1))=w3 at*;have t0:w3.cell? ⟨gb,0,none⟩=some (.int .i64 (aN:Int)):=by simpa using(cell_of p 0).1
  have t2:w3.cell? ⟨gb,2,none⟩=some (.int .i64 1):=by simpa using(cell_of p 2).1
  have u2:=(cell_of p 2).2;have W:ah _:=C;clear C;by_cases P:out.length+1=aN
  ·have X:decide (1=(aN:Int))=true:=aZ (by omega);go_quiet (fail)
   go_wp2_with fail
   go_end0
   have L:(out.length+1)%aN=0:=by rw[n.out,j,aC P]
   have G:=kR.done (v':= .slice (some ⟨l,0,none⟩) 1 a) (w2:=w3.setCell ⟨gb,2,none⟩ (.int .i64 0)) (w3:=(w3.drewN nq).setCell ⟨gb,2,none⟩ (.int .i64 0)) (x:=x) Q ⟨q.os,q.tape,q.output,by simpa using q.size,fun k f hS=>(aB 2 _ (fun e=>hS (.inl e))).trans (q.block k f hS)⟩ ((bG p 2 _).trans (by rw[L];simp)) (by rw[o.out,d.out];exact gW (by first|exact D|(rw[B];exact D)) (fun k f=>aB 2 _ (fun e=>jA D p (by decide) (e▸f)))) rfl rfl rfl rfl;exact⟨rfl,_,G.1,G.2,F⟩
  ·have X:decide (1=(aN:Int))=false:=aS (by omega);go_quiet (fail)
   go_wp2_with fail
   go_end0
   have L:(out.length+1)%aN=out.length+1:=by rw[n.out,j,au P]
   have G:=kR.done (w2:=w3) (w3:=w3.drewN nq) (x:=x) Q q (by rw[L,<-W.out];exact p) (by rw[o.out,d.out];first|exact D|(rw[B];exact D)) rfl rfl rfl rfl;exact⟨rfl,_,G.1,G.2,F⟩
 ·have Y:g≠gb:=fun e=>R (by rw[<-e];rfl);clear S;go_enter func196,ntmps196
  go_wp2
  go_quiet (fail)
  have I:(w.drewN nq).heap[gb]?=_:=hb;have N:(w.drewN nq).ownsRow base 5 1 (.slice (some ⟨g,0,none⟩) out.length cap) out.length (byteCells out):=i;have O:base<=(w.drewN nq).heap.size:=r;have t:Fr (fun k=>k=gb\/(.slice (some ⟨g,0,none⟩) out.length cap:ay).ownBlock=some k) w (w.drewN nq):=⟨rfl,rfl,rfl,ag _,fun _ _ _=>rfl⟩;have J:ah ((w.drewN nq).heap.size=w.heap.size):=rfl;have T:(w.drewN nq).cell? ⟨gb,1,none⟩=some (.slice (some ⟨g,0,none⟩) out.length cap):=by simpa using(cell_of I 1).1
  clear Z b1;generalize w.drewN nq=w0 at*
  go_wp2_with (first
   |(at_builtin;refine xG rfl _ _ rfl base _ out.length (byteCells out) ((x.toNat:Nat):Int) N rfl rfl M O ?_;go_must (intro v' w2 b m hw;obtain⟨l,a,rfl⟩:=kW.kX b;have c:=kW.uD m I (by simp[Value.ownBlock];exact r_ Y);have u:=c.2 1;have y:=c.2 2;have K:w2.cell? ⟨gb,1,none⟩=some (.slice (some ⟨g,0,none⟩) out.length cap):=(by simpa using(cell_of c.1 1).1);have z:w2.cell? ⟨gb,2,none⟩=some (.int .i64 (out.length:Int)):=(by simpa using(cell_of c.1 2).1);have A:w2.cell? ⟨gb,0,none⟩=some (.int .i64 (aN:Int)):=(by simpa using(cell_of c.1 0).1)))
   |go_in)
  have C:(((out.length:Int)+1):Int)=((out.length+1:Nat):Int):=by omega
  have p:((w2.setCell ⟨gb,1,none⟩ (.slice (some ⟨l,0,none⟩) (out.length+1) a)).setCell ⟨gb,2,none⟩ (.int .i64 ((out.length:Int)+1))).heap[gb]?=some (.cells #[.int .i64 (aN:Int),.slice (some ⟨l,0,none⟩) (out.length+1) a,.int .i64 ((out.length:Int)+1)] 231 (0,0)):=(bG (bG c.1 1 _) 2 _).trans (by simp);have D:((w2.setCell ⟨gb,1,none⟩ (.slice (some ⟨l,0,none⟩) (out.length+1) a)).setCell ⟨gb,2,none⟩ (.int .i64 ((out.length:Int)+1))).ownsRow base 5 1 (.slice (some ⟨l,0,none⟩) (out.length+1) a) (out.length+1) (byteCells out++[.int .u8 ((x.toNat:Nat):Int)]):=gW b (fun k f=>by have E:k≠gb:=fun e=>jA b c.1 (by decide) (e▸f);exact(aB 2 _ E).trans (aB 1 _ E))
  have q:Fr (fun k=>k=gb\/(.slice (some ⟨g,0,none⟩) out.length cap:ay).ownBlock=some k) w ((w2.setCell ⟨gb,1,none⟩ (.slice (some ⟨l,0,none⟩) (out.length+1) a)).setCell ⟨gb,2,none⟩ (.int .i64 ((out.length:Int)+1))):=by
   have U:w0.heap.size+1<=w2.heap.size:=by have:=m.size;simpa using this
   have V:=J.out;refine⟨m.os.trans t.os,m.tape.trans t.tape,m.output.trans t.output,by simp;omega,fun k f hS=> ?_⟩;refine(aB 2 _ (fun e=>hS (.inl e))).trans ((aB 1 _ (fun e=>hS (.inl e))).trans ?_);exact((m.block k (by simp;omega) (fun e=>hS (.inr e.symm))).trans (aj w0 _ k (by omega))).trans (t.block k f hS)
  have F:∀k,(.slice (some ⟨l,0,none⟩) (out.length+1) a:ay).ownBlock=some k->(.slice (some ⟨g,0,none⟩) out.length cap:ay).ownBlock=some k\/w.heap.size<=k:=fun k f=>by rw[<-J.out];exact hw k f
  clear c u y K z A b m hw I N O t J T;generalize ((w2.setCell ⟨gb,1,none⟩ (.slice (some ⟨l,0,none⟩) (out.length+1) a)).setCell ⟨gb,2,none⟩ (.int .i64 ((out.length:Int)+1)))=w3 at*;have t0:w3.cell? ⟨gb,0,none⟩=some (.int .i64 (aN:Int)):=by simpa using(cell_of p 0).1
  have t2:w3.cell? ⟨gb,2,none⟩=some (.int .i64 ((out.length:Int)+1)):=by simpa using(cell_of p 2).1
  have u2:=(cell_of p 2).2;have W:ah _:=C;clear C;by_cases P:out.length+1=aN
  ·have X:decide (((out.length:Int)+1)=(aN:Int))=true:=aZ (by omega);go_quiet (fail)
   go_wp2_with fail
   go_end0
   have L:(out.length+1)%aN=0:=by rw[n.out,j,aC P]
   have G:=kR.done (v':= .slice (some ⟨l,0,none⟩) (out.length+1) a) (w2:=w3.setCell ⟨gb,2,none⟩ (.int .i64 0)) (w3:=(w3.drewN nq).setCell ⟨gb,2,none⟩ (.int .i64 0)) (x:=x) Q ⟨q.os,q.tape,q.output,by simpa using q.size,fun k f hS=>(aB 2 _ (fun e=>hS (.inl e))).trans (q.block k f hS)⟩ ((bG p 2 _).trans (by rw[L];simp)) (by rw[o.out,d.out];exact gW (by first|exact D|(rw[B];exact D)) (fun k f=>aB 2 _ (fun e=>jA D p (by decide) (e▸f)))) rfl rfl rfl rfl;exact⟨rfl,_,G.1,G.2,F⟩
  ·have X:decide (((out.length:Int)+1)=(aN:Int))=false:=aS (by omega);go_quiet (fail)
   go_wp2_with fail
   go_end0
   have L:(out.length+1)%aN=out.length+1:=by rw[n.out,j,au P]
   have G:=kR.done (w2:=w3) (w3:=w3.drewN nq) (x:=x) Q q (by rw[L,<-W.out];exact p) (by rw[o.out,d.out];first|exact D|(rw[B];exact D)) rfl rfl rfl rfl;exact⟨rfl,_,G.1,G.2,F⟩
theorem ac_{w:af}{base g n cap:Nat}{xs:List ay}(h:w.ownsRow base 5 1 (.slice (some ⟨g,0,none⟩) n cap) n xs)(j:Nat)(u:ay):(w.setCell ⟨g,j,none⟩ u).ownsRow base 5 1 (.slice (some ⟨g,0,none⟩) n cap) n (xs.set j u):=by
 refine⟨by simpa using h.1,?_⟩;rcases h.2 with⟨h,_⟩|⟨m,k,cur,e,a,b,c,d,f,t⟩
 ·cases h
 ·injection e with i o l
  injection i with i
  injection i with i
  subst i l;refine .inr ⟨g,cap,cur.setIfInBounds j u,rfl,a,bG b j u,c,d,by simpa using f,?_⟩;rw[Array.toList_setIfInBounds,List.take_set,t]
theorem aaN(gb base:Nat)(v:ay)(aN:Nat)(out:List UInt8)(x:UInt8)(w:af)(h:kR w gb base v aN out)(hw:1<=aN)(J:aN<=32768)(R:¬out.length<aN):
 aF prog 196 #[.pointer (some ⟨gb,0,none⟩),.int .u8 ((x.toNat:Nat):Int)] w fun e w'=>e= .returned (.tuple #[])/\∃v',kR w' gb base v' aN (out++[x])/\Fr (fun k=>k=gb\/v.ownBlock=some k) w w'/\(∀k,v'.ownBlock=some k->v.ownBlock=some k\/w.heap.size<=k):=by
 have G:=h;obtain⟨hb,b,t⟩:=h;have f:min out.length aN=aN:=by omega
 rw[f]at b;have u:v.ownBlock≠some gb:=jA b hb (by decide);have y:=oP out.length (show 0<aN by omega);have i:ah _:=QB out.length aN hw;have d:ah _:=Hu out x aN hw (by omega);have p:ah (min (out.length+1) aN=aN):=(by omega:_=_);clear f;obtain⟨g,cap,rfl⟩:∃g cap,v= .slice (some ⟨g,0,none⟩) aN cap:=by
  rcases b.2 with⟨_,K⟩|⟨g,cap,cur,rfl,K⟩
  ·omega
  ·exact⟨g,cap,rfl⟩
 have z:g≠gb:=fun e=>u (by rw[<-e];rfl);obtain⟨a,j⟩:∃a,a=out.length%aN:=⟨_,rfl⟩;rw[<-j]at hb y;have l:ah (a=out.length%aN):=j;clear j;have L:w.cell? ⟨gb,0,none⟩=some (.int .i64 (aN:Int)):=by simpa using(cell_of hb 0).1
 have M:w.cell? ⟨gb,1,none⟩=some (.slice (some ⟨g,0,none⟩) aN cap):=by simpa using(cell_of hb 1).1
 have N:w.cell? ⟨gb,2,none⟩=some (.int .i64 (a:Int)):=by simpa using(cell_of hb 2).1
 have O:w.frozen? ⟨g,a,none⟩=false:=b.frozenAt a;obtain⟨u0,A⟩:∃u0,w.cell? ⟨g,a,none⟩=some u0:=by have:=b.cellAt a (by omega);rw[aG (by rw[Jr];omega)]at this;exact⟨_,this⟩
 have S:decide ((aN:Int)<1)=false:=aS (by omega);have s:(w.setCell ⟨g,a,none⟩ (.int .u8 ((x.toNat:Nat):Int))).heap[gb]?=some (.cells #[.int .i64 (aN:Int),.slice (some ⟨g,0,none⟩) aN cap,.int .i64 (a:Int)] 231 (0,0)):=(aB a _ (r_ z)).trans hb;have B:(w.setCell ⟨g,a,none⟩ (.int .u8 ((x.toNat:Nat):Int))).cell? ⟨gb,2,none⟩=some (.int .i64 (a:Int)):=by simpa using(cell_of s 2).1
 have C:=(cell_of s 2).2;have H:=ac_ b a (.int .u8 ((x.toNat:Nat):Int));go_enter func196,ntmps196
 go_wp2
 go_quiet (fail)
 go_wp2_with fail
 go_region
 have q:((w.drewN (nq+1)).setCell ⟨g,a,none⟩ (.int .u8 ((x.toNat:Nat):Int))).heap[gb]?=some (.cells #[.int .i64 (aN:Int),.slice (some ⟨g,0,none⟩) aN cap,.int .i64 (a:Int)] 231 (0,0)):=s;have D:((w.drewN (nq+1)).setCell ⟨g,a,none⟩ (.int .u8 ((x.toNat:Nat):Int))).ownsRow base 5 1 (.slice (some ⟨g,0,none⟩) aN cap) aN ((iO out aN).set a (.int .u8 ((x.toNat:Nat):Int))):=H;have m:Fr (fun k=>k=gb\/(.slice (some ⟨g,0,none⟩) aN cap:ay).ownBlock=some k) w ((w.drewN (nq+1)).setCell ⟨g,a,none⟩ (.int .u8 ((x.toNat:Nat):Int))):=⟨rfl,rfl,rfl,by simp,fun k c hS=>aB (w:=w) a _ (fun e=>hS (.inr (by rw[e];rfl)))⟩;clear s H B C L M N O A;generalize ((w.drewN (nq+1)).setCell ⟨g,a,none⟩ (.int .u8 ((x.toNat:Nat):Int)))=w1 at*;have B:w1.cell? ⟨gb,2,none⟩=some (.int .i64 (a:Int)):=by simpa using(cell_of q 2).1
 have C:=(cell_of q 2).2;go_wp2_with fail
 have n:(w1.setCell ⟨gb,2,none⟩ (.int .i64 ((a:Int)+1))).heap[gb]?=some (.cells #[.int .i64 (aN:Int),.slice (some ⟨g,0,none⟩) aN cap,.int .i64 ((a:Int)+1)] 231 (0,0)):=(bG q 2 _).trans (by simp);have P:(w1.setCell ⟨gb,2,none⟩ (.int .i64 ((a:Int)+1))).ownsRow base 5 1 (.slice (some ⟨g,0,none⟩) aN cap) aN ((iO out aN).set a (.int .u8 ((x.toNat:Nat):Int))):=gW D (fun k c=>aB 2 _ (fun e=>jA D q (by decide) (e▸c)));have o:Fr (fun k=>k=gb\/(.slice (some ⟨g,0,none⟩) aN cap:ay).ownBlock=some k) w (w1.setCell ⟨gb,2,none⟩ (.int .i64 ((a:Int)+1))):=⟨m.os,m.tape,m.output,by simpa using m.size,fun k c hS=>(aB 2 _ (fun e=>hS (.inl e))).trans (m.block k c hS)⟩;clear q D m B C;generalize (w1.setCell ⟨gb,2,none⟩ (.int .i64 ((a:Int)+1)))=w3 at*;have T:w3.cell? ⟨gb,0,none⟩=some (.int .i64 (aN:Int)):=by simpa using(cell_of n 0).1
 have U:w3.cell? ⟨gb,2,none⟩=some (.int .i64 ((a:Int)+1)):=by simpa using(cell_of n 2).1
 have u2:=(cell_of n 2).2;have E:w3.ownsRow base 5 1 (.slice (some ⟨g,0,none⟩) aN cap) (min (out.length+1) aN) (iO (out++[x]) aN):=by rw[p.out,d.out,<-l.out];exact P
 by_cases I:a+1=aN
 ·have Q:decide ((a:Int)+1=(aN:Int))=true:=aZ (by omega);have F:(out.length+1)%aN=0:=by rw[i.out,<-l.out,aC I]
  go_quiet (fail)
  go_wp2_with fail
  go_end0
  have r:=kR.done (v':= .slice (some ⟨g,0,none⟩) aN cap) (w2:=w3.setCell ⟨gb,2,none⟩ (.int .i64 0)) (w3:=(w3.drewN nq).setCell ⟨gb,2,none⟩ (.int .i64 0)) (x:=x) G ⟨o.os,o.tape,o.output,by simpa using o.size,fun k c hS=>(aB 2 _ (fun e=>hS (.inl e))).trans (o.block k c hS)⟩ ((bG n 2 _).trans (by rw[F];simp)) (gW E (fun k c=>aB 2 _ (fun e=>jA E n (by decide) (e▸c)))) rfl rfl rfl rfl;exact⟨rfl,_,r.1,r.2,fun k c=> .inl c⟩
 ·have Q:decide ((a:Int)+1=(aN:Int))=false:=aS (by omega);have F:(out.length+1)%aN=a+1:=by rw[i.out,<-l.out,au I]
  go_quiet (fail)
  go_wp2_with fail
  go_end0
  have r:=kR.done (v':= .slice (some ⟨g,0,none⟩) aN cap) (w2:=w3) (w3:=w3.drewN nq) (x:=x) G o (by rw[F];exact n) E rfl rfl rfl rfl;exact⟨rfl,_,r.1,r.2,fun k c=> .inl c⟩
theorem Uj(gb base:Nat)(v:ay)(aN:Nat)(out:List UInt8)(x:UInt8)(w:af)(h:kR w gb base v aN out)(hw:1<=aN)(a:aN<=32768):
 aF prog 196 #[.pointer (some ⟨gb,0,none⟩),.int .u8 ((x.toNat:Nat):Int)] w fun e w'=>e= .returned (.tuple #[])/\∃v',kR w' gb base v' aN (out++[x])/\Fr (fun k=>k=gb\/v.ownBlock=some k) w w'/\(∀k,v'.ownBlock=some k->v.ownBlock=some k\/w.heap.size<=k):=by
 by_cases b:out.length<aN
 ·exact ac9 gb base v aN out x w h hw a b
 ·exact aaN gb base v aN out x w h hw a b
structure sG where
 tb:Src
 rb:Nat
 gb:Nat
 ub:Nat
 al:Bool
abbrev sG.base(A:sG):Nat:=A.tb.base
structure jV where
 fv:ay
 K:af->List UInt8->(Nat->Prop)->Prop
 stop:List UInt8->Prop
structure jV.Ok(S:jV)(base:Nat):Prop where
 lt:∀{w out F},S.K w out F->∀k,F k->k<w.heap.size
 iJ:∀{w w' out F},S.K w out F->(∀k,F k\/k<base->w'.heap[k]?=w.heap[k]?)->w.heap.size<=w'.heap.size->S.K w' out F
def yg(T:aY):Bool:=Ph T||(T==5||T==180||T==231||T==185||T==78||T==174||T==299||T==39||T==134||T==292||T==286||T==303||T==301)
theorem QC{T:aY}(h:yg T=false):Ph T=false:=(Bool.or_eq_false_iff.1 h).1
structure PE(base:Nat)(w w':af):Prop where
 os:w'.os=w.os
 tape:w'.tape=w.tape
 output:w'.output=w.output
 size:w.heap.size<=w'.heap.size
 low:∀k,k<base->w'.heap[k]?=w.heap[k]?
 other:∀(k:Nat) (cur:Array ay) (T:aY) (f:Nat×Nat),w.heap[k]?=some (Obj.cells cur T f)->yg T=false->w'.heap[k]?=w.heap[k]?
theorem PE.refl(base:Nat)(w:af):PE base w w:=⟨rfl,rfl,rfl,ag _,fun _ _=>rfl,fun _ _ _ _ _ _=>rfl⟩
theorem PE.trans{base:Nat}{u v w:af}(h:PE base u v)(k:PE base v w):PE base u w:=
 ⟨k.os.trans h.os,k.tape.trans h.tape,k.output.trans h.output,aK h.size k.size,fun i hi=>(k.low i hi).trans (h.low i hi),fun i cur T f e a=>by have b:=h.other i cur T f e a;exact(k.other i cur T f (b.trans e) a).trans b⟩
theorem PE.below{base:Nat}{w w':af}(h:PE base w w'):aJ base w w':=⟨h.os,h.tape,h.output,h.size,h.low⟩
theorem PE.drewN(base:Nat)(w:af)(n:Nat):PE base w (w.drewN n):=⟨rfl,rfl,rfl,ag _,fun _ _=>rfl,fun _ _ _ _ _ _=>rfl⟩
theorem vF.pe{base:Nat}{w w':af}{k:Nat}{f:Nat->Nat×Nat×Nat}{L:List Nat}(h:vF w k f L)(e:PE base w w'):vF w' k f L:=by obtain⟨vb,g,⟨cur,a,b⟩,c,d⟩:=h;exact⟨vb,g,⟨cur,(e.other k _ _ _ a (by decide)).trans a,b⟩,(e.other vb _ _ _ c (by decide)).trans c,d⟩
theorem mX.pe{base:Nat}{w w':af}{k:Nat}{A B:List Nat}(h:mX w k A B)(e:PE base w w'):mX w' k A B:=by obtain⟨b,kb,a,c,h3⟩:=h;exact⟨b,kb,(e.other k _ _ _ a (by decide)).trans a,c.pe e,h3.pe e⟩
theorem RF.pe{w w':af}{tb:Src}{rb:Nat}{s:ByteArray}{pos:Nat}(h:RF tb rb w w')(a:Rd w tb rb s pos):PE tb.base w w':=by
 have i:=a.Jf;have b:tb.Ok:=by obtain⟨_,_,_,_,_,_,_,g,_⟩:=a;exact g
 refine⟨h.os,h.tape,h.output,h.size,fun k j=>h.block k (by omega) (fun e=>by have:=b.low k e;omega) (by omega),fun k cur T f e c=> ?_⟩;have d:=a.types e (QC c) (fun e=>by rw[e]at c;revert c;decide);exact h.block k (ai e) d.1 d.2
def jk(w:af):Prop:=∀i,i<19->w.cell? ⟨6,i,none⟩=some (.int .u8 ((order.getD i 0:Nat):Int))
theorem jk.over{w w':af}(h:jk w)(e:w'.heap[6]?=w.heap[6]?):jk w':=by intro i hi;have:=h i hi;unfold World.cell? at this|-;rw[e];exact this
theorem VU{w:af}{base:Nat}{v:ay}{n:Nat}{xs:List ay}(h:w.ownsRow base 5 1 v n xs){tb:Src}(hS:tb.Ok)(hK:tb.KE w){k:Nat}(b:v.ownBlock=some k):¬tb.F k:=fun hF=>by obtain⟨cur,T,f,c,a⟩:=hS.Vy hK hF;exact jA h c (fun e=>by rw[e]at a;revert a;decide) b
def UP(S:jV)(w:af)(A:sG)(s:ByteArray)(aN most:Nat)(u:US):Prop:=∃a F fx,
 u.st.dA=false/\Rd w A.tb A.rb s u.st.pos/\u.out.length<=most/\kR w A.gb A.base a aN u.out/\
 w.heap[A.ub]?=some (.cells #[.pointer (some ⟨A.rb,0,none⟩),.pointer (some ⟨A.gb,0,none⟩),.int .i64 ((most-u.out.length:Nat):Int),.bool A.al,S.fv,.pointer fx] 185 (0,0))/\
 (fx=none\/∃b,fx=some ⟨b,0,none⟩/\mX w b fH (List.replicate 32 5))/\S.K w u.out F/\
 (∀k,F k->A.base<=k/\¬A.tb.F k/\k≠A.rb/\k≠A.gb/\k≠A.ub/\a.ownBlock≠some k)/\A.tb.Ok/\jk w/\
 7<=A.base/\S.Ok A.base/\A.base<=A.rb/\A.base<=A.gb/\A.base<=A.ub
def UE(w:af)(A:sG)(s:ByteArray):Prop:=qc w A.tb A.rb s/\∃g l b f x,w.heap[A.ub]?=some (.cells #[.pointer (some ⟨A.rb,0,none⟩),g,l,b,f,x] 185 (0,0))
def Stop(S:jV)(U:US):Prop:=U.st.dA=true\/∃p,S.stop p/\p<+:U.out
theorem Stop.mono{S:jV}{U V:US}(h:Stop S U)(c:U.st.dA=true->V.st.dA=true)(d:U.out<+:V.out):Stop S V:=h.imp c (fun⟨p,a,b⟩=>⟨p,a,b.trans d⟩)
def Res(S:jV)(A:sG)(s:ByteArray)(aN most:Nat)(w:af)(U:US)(e:Ending)(w':af):Prop:=
 (U.st.dA=false/\e= .returned .nilIface/\UP S w' A s aN most U/\PE A.base w w')\/
 ((∃T a,e= .returned (.iface T (.pointer (some a)))/\dO A.tb w' T a (Stop S U))/\UE w' A s/\PE A.base w w')
theorem UP.rd{S:jV}{w w':af}{A:sG}{s:ByteArray}{aN most:Nat}{u:US}(h:UP S w A s aN most u)(p:Nat)(z:Rd w' A.tb A.rb s p)(d:RF A.tb A.rb w w'):UP S w' A s aN most ⟨⟨p,false⟩,u.out⟩/\PE A.base w w':=by
 obtain⟨B,F,fx,E,g,h3,b,i,h6,x,h8,y,m,n,f,o,q,r⟩:=h;have hp:PE A.base w w':=d.pe g;have j:=g.types b.1 (by decide) (by decide);have l:=g.types i (by decide) (by decide);refine⟨⟨B,F,fx,rfl,z,h3,⟨?_,?_,?_⟩,?_,?_,?_,h8,y,?_,n,f,o,q,r⟩,hp⟩
 ·exact(d.block _ (ai b.1) j.1 j.2).trans b.1
 ·have v:A.tb.KE w:=by obtain⟨_,_,_,_,_,_,b,i,_⟩:=g;exact i.ke b
  obtain⟨c,G,t,_,_,_,H,_,C⟩:=g;exact gW b.2.1 (fun k a=>d.block k (b.2.1.lt k a).2 (VU b.2.1 y v a) (fun e=>jA b.2.1 C (by decide) (e▸a)))
 ·exact aK b.2.2 d.size
 ·exact(d.block _ (ai i) l.1 l.2).trans i
 ·exact h6.imp id (fun⟨D,e,h⟩=>⟨D,e,h.pe hp⟩)
 ·exact f.iJ x (fun k a=>a.elim (fun a=>d.block k (f.lt x k a) (h8 k a).2.1 (h8 k a).2.2.1) (fun a=>hp.low k a)) d.size
 ·exact m.over (hp.low _ (by omega))
theorem UP.ue{S:jV}{w:af}{A:sG}{s:ByteArray}{aN most:Nat}{u:US}(h:UP S w A s aN most u):UE w A s:=by obtain⟨j,F,fx,k,a,h3,l,b,h6,m,h8,n,c,d,e,f,g,i⟩:=h;exact⟨a.Ag,_,_,_,_,_,b⟩
theorem UP.Ag{S:jV}{w w':af}{A:sG}{s:ByteArray}{aN most:Nat}{u:US}(h:UP S w A s aN most u)(e:qc w' A.tb A.rb s)(c:RF A.tb A.rb w w'):UE w' A s/\PE A.base w w':=by obtain⟨m,F,fx,n,d,h3,o,b,h6,p,h8,q,f,g,i,j,k,l⟩:=h;have a:=d.types b (by decide) (by decide);exact⟨⟨e,_,_,_,_,_,(c.block _ (ai b) a.1 a.2).trans b⟩,c.pe d⟩
theorem UP.alloc{S:jV}{w:af}{A:sG}{s:ByteArray}{aN most:Nat}{u:US}(h:UP S w A s aN most u)(o:Obj):UP S (w.alloc o) A s aN most u/\PE A.base w (w.alloc o):=by
 have a:Rd w A.tb A.rb s u.st.pos:=by obtain⟨_,_,_,_,b,_⟩:=h;exact b
 have c:u.st.dA=false:=by obtain⟨_,_,_,d,_⟩:=h;exact d
 have h3:=h.rd u.st.pos (a.alloc o) ((RF.refl _ _ w).alloc o);rw[<-c]at h3;exact h3
theorem UP.grow{S:jV}{w w':af}{A:sG}{s:ByteArray}{aN most:Nat}{u:US}(h:UP S w A s aN most u)(hb:aJ w.heap.size w w'):UP S w' A s aN most u/\PE A.base w w':=by
 have b:Rd w A.tb A.rb s u.st.pos:=by obtain⟨_,_,_,_,c,_⟩:=h;exact c
 have d:u.st.dA=false:=by obtain⟨_,_,_,e,_⟩:=h;exact e
 have h3:=h.rd (w':=w') u.st.pos (b.grow (fun k a=>hb.block k a)) ⟨hb.os,hb.tape,hb.output,hb.size,fun k a _ _=>hb.block k a⟩;rw[<-d]at h3;exact h3
theorem UE.alloc{w:af}{A:sG}{s:ByteArray}(h:UE w A s)(o:Obj):UE (w.alloc o) A s:=by obtain⟨c,g,l,b,f,x,a⟩:=h;exact⟨c.alloc o,g,l,b,f,x,(alloc_old (ai a)).trans a⟩
theorem UE.drewN{w:af}{A:sG}{s:ByteArray}(h:UE w A s)(n:Nat):UE (w.drewN n) A s:=by obtain⟨a,g,l,b,f,x,c⟩:=h;exact⟨a.drewN n,g,l,b,f,x,c⟩
theorem UP.cells{S:jV}{w:af}{A:sG}{s:ByteArray}{aN most:Nat}{u:US}(h:UP S w A s aN most u):w.cell? ⟨A.ub,0,none⟩=some (.pointer (some ⟨A.rb,0,none⟩))/\w.cell? ⟨A.ub,1,none⟩=some (.pointer (some ⟨A.gb,0,none⟩))/\w.cell? ⟨A.ub,2,none⟩=some (.int .i64 ((most-u.out.length:Nat):Int))/\w.cell? ⟨A.ub,4,none⟩=some S.fv:=by obtain⟨i,F,fx,j,k,h3,l,a,h6,m,h8,n,b,c,d,e,f,g⟩:=h;exact⟨by simpa using(cell_of a 0).1,by simpa using(cell_of a 1).1,by simpa using(cell_of a 2).1,by simpa using(cell_of a 4).1⟩
theorem UP.all{S:jV}{w:af}{A:sG}{s:ByteArray}{aN most:Nat}{u:US}(h:UP S w A s aN most u):w.cell? ⟨A.ub,3,none⟩=some (.bool A.al):=by obtain⟨i,F,fx,j,k,h3,l,a,h6,m,h8,n,b,c,d,e,f,g⟩:=h;simpa using(cell_of a 3).1
theorem UP.facts{S:jV}{w:af}{A:sG}{s:ByteArray}{aN most:Nat}{u:US}(h:UP S w A s aN most u):u.st.dA=false/\Rd w A.tb A.rb s u.st.pos/\u.out.length<=most:=by obtain⟨j,F,fx,a,b,h3,k,l,h6,m,h8,n,c,d,e,f,g,i⟩:=h;exact⟨a,b,h3⟩
theorem PE.alloc(base:Nat)(w:af)(o:Obj)(h:base<=w.heap.size):PE base w (w.alloc o):=⟨rfl,rfl,rfl,by simp,fun k a=>alloc_old (by omega),fun k cur T f e _=>alloc_old (ai e)⟩
theorem UP.base{S:jV}{w:af}{A:sG}{s:ByteArray}{aN most:Nat}{u:US}(h:UP S w A s aN most u):A.base<=w.heap.size:=by obtain⟨i,F,fx,j,a,h3,k,l,h6,m,h8,n,b,c,d,e,f,g⟩:=h;have:=a.Jf;omega
theorem QD(S:jV)(A:sG)(s:ByteArray)(aN most n:Nat)(u:US)(w:af)(h:UP S w A s aN most u)(hm:most<=16777216)(d:n<=1000000)(hle:u.out.length+n<=most):
 aF prog 194 #[.pointer (some ⟨A.ub,0,none⟩),.int .i64 (n:Int)] w fun e w'=>e= .returned .nilIface/\w'=w:=by
 obtain⟨c0,c1,c2,b⟩:=h.cells;have c:u.out.length<=most:=h.facts.2.2;clear c0 c1 b;obtain⟨l,a⟩:∃l,l=most-u.out.length:=⟨_,rfl⟩;rw[<-a]at c2;have f:n<=l:=by omega
 clear a hle;go_enter func194,ntmps194
 go_wp2_with fail
 go_ret;exact⟨rfl,rfl⟩
theorem VV(S:jV)(A:sG)(s:ByteArray)(aN most n:Nat)(u:US)(w:af)(h:UP S w A s aN most u)(hm:most<=16777216)(f:n<=1000000)(hle:¬u.out.length+n<=most):
 aF prog 194 #[.pointer (some ⟨A.ub,0,none⟩),.int .i64 (n:Int)] w fun e w'=> ∃T a,e= .returned (.iface T (.pointer (some a)))/\jC w' T a/\UE w' A s/\PE A.base w w':=by
 obtain⟨c0,c1,c2,c⟩:=h.cells;have d:u.out.length<=most:=h.facts.2.2;clear c0 c1 c;obtain⟨l,b⟩:∃l,l=most-u.out.length:=⟨_,rfl⟩;rw[<-b]at c2;have g:l<n:=by omega
 clear b hle;go_enter func194,ntmps194
 go_wp2_with fail
 refine(dJ _ _).mono ?_;rintro e w3 ⟨rfl,rfl⟩;go_wp2_with fail
 go_ret;exact⟨_,_,rfl,jC.mk _ _,h.ue.alloc _,PE.alloc _ _ _ h.base⟩
theorem QG(S:jV)(A:sG)(s:ByteArray)(aN most n:Nat)(u:US)(w:af)(h:UP S w A s aN most u)(hm:most<=16777216)(c:n<=1000000):
 aF prog 194 #[.pointer (some ⟨A.ub,0,none⟩),.int .i64 (n:Int)] w fun e w'=>
  (u.out.length+n<=most/\e= .returned .nilIface/\w'=w)\/((∃T a,e= .returned (.iface T (.pointer (some a)))/\dO A.tb w' T a (¬u.out.length+n<=most))/\UE w' A s/\PE A.base w w'):=by
 by_cases hle:u.out.length+n<=most
 ·exact(QD S A s aN most n u w h hm c hle).mono (fun e w' ⟨a,b⟩=> .inl ⟨hle,a,b⟩)
 ·exact(VV S A s aN most n u w h hm c hle).mono (fun e w' ⟨T,a,d,f,h3,g⟩=> .inr ⟨⟨T,a,d,.inl ⟨f,hle⟩⟩,h3,g⟩)
theorem Hw(S:jV)(A:sG)(s:ByteArray)(aN most n:Nat)(u:US)(w:af)(h:UP S w A s aN most u)(hm:most<=16777216)(j:n<=1000000):
 aF prog 138 #[.pointer (some ⟨A.ub,0,none⟩),.int .i64 (n:Int)] w fun e w'=>
  ((A.al=true->most<=u.out.length+n)/\e= .returned .nilIface/\w'=w)\/((∃T a,e= .returned (.iface T (.pointer (some a)))/\dO A.tb w' T a (A.al=true/\u.out.length+n<most))/\UE w' A s/\PE A.base w w'):=by
 obtain⟨c0,c1,c2,f⟩:=h.cells;have d:=h.all;have g:u.out.length<=most:=h.facts.2.2;clear c0 c1 f;obtain⟨l,c⟩:∃l,l=most-u.out.length:=⟨_,rfl⟩;rw[<-c]at c2;cases b:A.al with
 |false=>
  rw[b]at d;clear c;go_enter func138,ntmps138
  go_wp2_with fail
  go_ret;exact .inl ⟨fun e=>(by cases e),rfl,rfl⟩
 |true=>
  rw[b]at d;by_cases hle:l<=n
  ·have i:decide ((n:Int)<(l:Int))=false:=aS (by omega);have H:ah (most<=u.out.length+n):=(by omega:_<=_);clear c;go_enter func138,ntmps138
   go_wp2_with fail
   go_ret;exact .inl ⟨fun _=>H.out,rfl,rfl⟩
  ·have i:decide ((n:Int)<(l:Int))=true:=aZ (by omega);have H:ah (u.out.length+n<most):=(by omega:_<_);clear c;go_enter func138,ntmps138
   go_wp2_with fail
   refine(dJ _ _).mono ?_;rintro e w3 ⟨rfl,rfl⟩;go_wp2_with fail
   go_ret;exact .inr ⟨⟨_,_,rfl,dO.ve ⟨by first|exact trivial|rfl,H.out⟩⟩,h.ue.alloc _,PE.alloc _ _ _ h.base⟩
def rD(A:sG)(most:Nat)(U:US):Prop:=A.al=true/\U.out.length<most
def wZ(S:jV)(base:Nat):Prop:=∀(A:sG) (s:ByteArray) (aN most:Nat) (u:US) (x:UInt8) (w:af),A.base=base->UP S w A s aN most u->u.out.length<most->most<=16777216->1<=aN->aN<=32768->
 aF prog 170 #[.pointer (some ⟨A.ub,0,none⟩),.int .u8 ((x.toNat:Nat):Int)] w fun e w'=>
  (e= .returned .nilIface/\UP S w' A s aN most ⟨u.st,u.out++[x]⟩/\PE A.base w w')\/
  ((∃T a,e= .returned (.iface T (.pointer (some a)))/\dO A.tb w' T a (S.stop (u.out++[x])))/\UE w' A s/\PE A.base w w')
structure Hy where
 fv:ay
 fn:FuncId
 args:ay->Array ay
 K:af->List UInt8->(Nat->Prop)->Prop
 stop:List UInt8->Prop
structure Hy.Ok(I:Hy)(base:Nat):Prop where
 lt:∀{w out F},I.K w out F->∀k,F k->k<w.heap.size
 iJ:∀{w w' out F},I.K w out F->(∀k,F k\/k<base->w'.heap[k]?=w.heap[k]?)->w.heap.size<=w'.heap.size->I.K w' out F
 busy:∀{w out F},I.K w out F->∀(k:Nat) (cur:Array ay) (T:aY) (f:Nat×Nat),F k->w.heap[k]?=some (Obj.cells cur T f)->yg T=true
 body:∀args w,(callFunc I.fn args).run prog w= .ok (.enter I.fn args) w
 call:∀(w:af) (out:List UInt8) (F:Nat->Prop) (x:UInt8),I.K w out F->out.length<16777216->(∀k,F k->base<=k)->base<=w.heap.size->
  aF prog I.fn (I.args (.int .u8 ((x.toNat:Nat):Int))) w fun e w'=>
   (e= .returned .nilIface/\∃F',I.K w' (out++[x]) F'/\Fr F w w'/\∀k,F' k->F k\/w.heap.size<=k)\/
   (∃T a,e= .returned (.iface T (.pointer (some a)))/\jC w' T a/\I.stop (out++[x])/\Fr F w w')
def Ld(I:Hy):jV:=⟨I.fv,I.K,I.stop⟩
theorem aaO{I:Hy}{base:Nat}(h:I.Ok base):(Ld I).Ok base:=⟨h.lt,h.iJ⟩
theorem Fr.pe{w w':af}{base:Nat}{P:Nat->Prop}(h:Fr P w w')(hb:base<=w.heap.size)(b:∀k,P k->base<=k)(c:∀k cur T f,P k->w.heap[k]?=some (Obj.cells cur T f)->yg T=true):PE base w w':=
 ⟨h.os,h.tape,h.output,h.size,fun k d=>h.block k (by omega) (fun hp=>by have:=b k hp;omega),fun k cur T f e a=>h.block k (ai e) (fun hp=>by rw[c k cur T f hp e]at a;cases a)⟩
theorem aaP{w:af}{base:Nat}{v:ay}{n:Nat}{xs:List ay}(h:w.ownsRow base 5 1 v n xs){k:Nat}{cur:Array ay}{T:aY}{f:Nat×Nat}(b:v.ownBlock=some k)(e:w.heap[k]?=some (Obj.cells cur T f)):yg T=true:=by
 by_cases a:T=5
 ·subst a;decide
 ·exact absurd b (jA h e a)
def Mid(S:jV)(w:af)(A:sG)(s:ByteArray)(aN most:Nat)(u:US)(x:UInt8):Prop:=∃a F fx,
 u.st.dA=false/\Rd w A.tb A.rb s u.st.pos/\u.out.length+1<=most/\kR w A.gb A.base a aN (u.out++[x])/\
 w.heap[A.ub]?=some (.cells #[.pointer (some ⟨A.rb,0,none⟩),.pointer (some ⟨A.gb,0,none⟩),.int .i64 ((most-(u.out.length+1):Nat):Int),.bool A.al,S.fv,.pointer fx] 185 (0,0))/\
 (fx=none\/∃b,fx=some ⟨b,0,none⟩/\mX w b fH (List.replicate 32 5))/\S.K w u.out F/\
 (∀k,F k->A.base<=k/\¬A.tb.F k/\k≠A.rb/\k≠A.gb/\k≠A.ub/\a.ownBlock≠some k)/\A.tb.Ok/\jk w/\
 7<=A.base/\S.Ok A.base/\A.base<=A.rb/\A.base<=A.gb/\A.base<=A.ub
theorem Mid.mk{S:jV}{w w2:af}{A:sG}{s:ByteArray}{aN most:Nat}{u:US}{x:UInt8}{j m:ay}{F:Nat->Prop}{fx:Option bP}{l:Nat}
 (W:u.st.dA=false) (n:Rd w A.tb A.rb s u.st.pos) (g:kR w A.gb A.base j aN u.out)
 (o:w.heap[A.ub]?=some (.cells #[.pointer (some ⟨A.rb,0,none⟩),.pointer (some ⟨A.gb,0,none⟩),.int .i64 (l:Int),.bool A.al,S.fv,.pointer fx] 185 (0,0)))
 (h6:fx=none\/∃B,fx=some ⟨B,0,none⟩/\mX w B fH (List.replicate 32 5)) (C:S.K w u.out F)
 (h8:∀k,F k->A.base<=k/\¬A.tb.F k/\k≠A.rb/\k≠A.gb/\k≠A.ub/\j.ownBlock≠some k) (D:A.tb.Ok) (E:jk w) (G:7<=A.base) (h:S.Ok A.base) (H:A.base<=A.rb) (q:A.base<=A.gb) (I:A.base<=A.ub)
 (hl:l=most-u.out.length) (J:u.out.length<most)
 (X:kR w2 A.gb A.base m aN (u.out++[x])) (L:Fr (fun k=>k=A.gb\/j.ownBlock=some k) (w.setCell ⟨A.ub,2,none⟩ (.int .i64 ((l:Int)-1))) w2)
 (Y:∀k,m.ownBlock=some k->j.ownBlock=some k\/(w.setCell ⟨A.ub,2,none⟩ (.int .i64 ((l:Int)-1))).heap.size<=k):Mid S w2 A s aN most u x/\PE A.base w w2:=by
 have hb:A.base<=w.heap.size:=by have:=n.Jf;omega
 have M:A.tb.KE w:=by obtain⟨_,_,_,_,_,_,g,o,_⟩:=n;exact o.ke g
 have Q:(w.setCell ⟨A.ub,2,none⟩ (.int .i64 ((l:Int)-1))).heap[A.ub]?=some (.cells #[.pointer (some ⟨A.rb,0,none⟩),.pointer (some ⟨A.gb,0,none⟩),.int .i64 ((l:Int)-1),.bool A.al,S.fv,.pointer fx] 185 (0,0)):=(bG o 2 _).trans (by simp);have r:A.gb≠A.ub:=fU g.1 o (by decide);have i:j.ownBlock≠some A.ub:=jA g.2.1 o (by decide);have Z:PE A.base w (w.setCell ⟨A.ub,2,none⟩ (.int .i64 ((l:Int)-1))):=⟨rfl,rfl,rfl,by simp,fun k a=>aB 2 _ (by omega),fun k cur T f e R=>aB 2 _ (fun N=>by rw[N,o]at e;simp at e;rw[<-e.2.1]at R;revert R;decide)⟩;have U:∀k,k≠A.ub->(w.setCell ⟨A.ub,2,none⟩ (.int .i64 ((l:Int)-1))).heap[k]?=w.heap[k]?:=fun k a=>aB 2 _ a;have gZ:(w.setCell ⟨A.ub,2,none⟩ (.int .i64 ((l:Int)-1))).heap.size=w.heap.size:=by simp
 generalize (w.setCell ⟨A.ub,2,none⟩ (.int .i64 ((l:Int)-1)))=w1 at*;have k5:w2.heap[A.ub]?=_:=(L.block A.ub (ai Q) (fun e=>e.elim (fun e=>r e.symm) (fun e=>i e))).trans Q;have kP:PE A.base w1 w2:=L.pe (by omega) (fun k a=>by
  rcases a with rfl|a
  ·exact q
  ·exact(g.2.1.lt k a).1) (fun k cur T f a e=>by
  have O:k≠A.ub:=by
   rcases a with rfl|a
   ·exact r
   ·exact fun e=>i (e▸a)
  rw[U k O]at e;rcases a with rfl|a
  ·rw[g.1]at e;simp at e;rw[<-e.2.1];decide
  ·exact aaP g.2.1 a e)
 have d:PE A.base w w2:=Z.trans kP;have b:∀k,k<w.heap.size->k≠A.ub->k≠A.gb->j.ownBlock≠some k->w2.heap[k]?=w.heap[k]?:=fun k a a1 a2 a3=>(L.block k (by omega) (fun e=>e.elim a2 a3)).trans (U k a1)
 have v:=n.types g.1 (by decide) (by decide);have y:=n.types o (by decide) (by decide);have z:=n.Jf;have P:j.ownBlock≠some A.rb:=by obtain⟨c,hc,t,_,_,_,_,_,q5⟩:=n;exact jA g.2.1 q5 (by decide)
 refine⟨⟨m,F,fx,W,n.over (fun k a=> ?_) ?_,J,X,?_,h6.imp id (fun⟨B,e,ht⟩=>⟨B,e,ht.pe d⟩),h.iJ C (fun k a=> ?_) d.size,?_,D,E.over (d.low _ (by omega)),G,h,H,q,I⟩,d⟩
 ·rcases a with a|a
  ·exact b k (z.1 k (.inl a)) (fun e=>y.1 (e▸a)) (fun e=>v.1 (e▸a)) (fun e=>VU g.2.1 D M e a)
  ·exact d.low k a
 ·exact b A.rb z.2.1 (r_ y.2) (r_ v.2) P
 ·rw[k5];have:(l:Int)-1=((most-(u.out.length+1):Nat):Int):=by omega
  rw[this]
 ·rcases a with a|a
  ·have:=h8 k a;exact b k (h.lt C k a) this.2.2.2.2.1 this.2.2.2.1 this.2.2.2.2.2
  ·exact d.low k a
 ·intro k a;have p:=h8 k a;refine⟨p.1,p.2.1,p.2.2.1,p.2.2.2.1,p.2.2.2.2.1,fun N=> ?_⟩;have D:=h.lt C k a;rcases Y k N with V|V
  ·exact p.2.2.2.2.2 V
  ·omega
theorem Mid.fin{S:jV}{w w':af}{A:sG}{s:ByteArray}{aN most:Nat}{u:US}{x:UInt8}{j:ay}{F F':Nat->Prop}{fx:Option bP}
 (C:u.st.dA=false) (l:Rd w A.tb A.rb s u.st.pos) (h3:u.out.length+1<=most) (c:kR w A.gb A.base j aN (u.out++[x]))
 (m:w.heap[A.ub]?=some (.cells #[.pointer (some ⟨A.rb,0,none⟩),.pointer (some ⟨A.gb,0,none⟩),.int .i64 ((most-(u.out.length+1):Nat):Int),.bool A.al,S.fv,.pointer fx] 185 (0,0)))
 (h6:fx=none\/∃i,fx=some ⟨i,0,none⟩/\mX w i fH (List.replicate 32 5)) (H:S.K w u.out F)
 (h8:∀k,F k->A.base<=k/\¬A.tb.F k/\k≠A.rb/\k≠A.gb/\k≠A.ub/\j.ownBlock≠some k) (D:A.tb.Ok) (n:jk w) (o:7<=A.base) (p:S.Ok A.base) (q:A.base<=A.rb) (r:A.base<=A.gb) (t:A.base<=A.ub)
 (v:∀(k:Nat) (cur:Array ay) (T:aY) (f:Nat×Nat),F k->w.heap[k]?=some (Obj.cells cur T f)->yg T=true) (d:Fr F w w'):
 UE w' A s/\PE A.base w w'/\(S.K w' (u.out++[x]) F'->(∀k,F' k->F k\/w.heap.size<=k)->UP S w' A s aN most ⟨u.st,u.out++[x]⟩):=by
 have g:=l.Jf;have hb:A.base<=w.heap.size:=by omega
 have b:PE A.base w w':=d.pe hb (fun k a=>(h8 k a).1) v;have h:Rd w' A.tb A.rb s u.st.pos:=l.over (fun k a=>by
  rcases a with a|a
  ·exact d.block k (g.1 k (.inl a)) (fun e=>(h8 k e).2.1 a)
  ·exact b.low k a) (d.block _ g.2.1 (fun e=>(h8 _ e).2.2.1 rfl))
 have B:w'.heap[A.ub]?=_:=(d.block A.ub (ai m) (fun e=>(h8 _ e).2.2.2.2.1 rfl)).trans m;refine⟨⟨h.Ag,_,_,_,_,_,B⟩,b,fun hK y=> ?_⟩;refine⟨j,F',fx,C,h,by simpa using h3,⟨(d.block A.gb (ai c.1) (fun e=>(h8 _ e).2.2.2.1 rfl)).trans c.1,gW c.2.1 (fun k a=>d.block k (c.2.1.lt k a).2 (fun e=>(h8 k e).2.2.2.2.2 a)),aK c.2.2 d.size⟩,?_,h6.imp id (fun⟨i,e,E⟩=>⟨i,e,E.pe b⟩),hK,?_,D,n.over (b.low _ (by omega)),o,p,q,r,t⟩
 ·rw[B];simp
 ·intro k a;rcases y k a with e|e
  ·exact h8 k e
  ·have z:=l.new e;have:=ai c.1;have:=ai m;exact⟨z.1,z.2.1,z.2.2,by omega,by omega,fun G=>by have:=(c.2.1.lt k G).2;omega⟩
def mI(a:Nat)(fn:FuncId)(K:af->List UInt8->(Nat->Prop)->Prop)(stop:List UInt8->Prop):Hy:=
 ⟨.func (.func fn) #[.pointer (some ⟨a,0,none⟩)] #[],fn,fun x=> #[.pointer (some ⟨a,0,none⟩),x],K,stop⟩
end Pr
namespace Pr
open Go.RowKit Rf
theorem Ju(S:jV)(A:sG)(s:ByteArray)(aN most:Nat)(u:US)(x:UInt8)(w:af)(j:wZ S A.base)(h:UP S w A s aN most u)(hm:most<=16777216)(c:1<=aN)(d:aN<=32768):
 aF prog 199 #[.pointer (some ⟨A.ub,0,none⟩),.int .u8 ((x.toNat:Nat):Int)] w fun e w'=>Res S A s aN most w (mQ most x u) e w':=by
 have b:u.st.dA=false:=h.facts.1;go_enter func199,ntmps199
 go_wp2_with fail
 refine(QG S A s aN most 1 u _ h hm (by omega)).mono ?_;rintro e w1 (⟨f,rfl,rfl⟩|⟨⟨T,a,rfl,f⟩,k,l⟩)
 ·go_wp2_with fail
  refine(j A s aN most u x _ rfl h (by omega) hm c d).mono ?_;rintro e w2 (⟨rfl,g,i⟩|⟨⟨T,a,rfl,m⟩,g,i⟩)
  ·go_wp2_with fail
   go_ret;refine .inl ⟨?_,rfl,?_,i⟩
   ·rw[tX most x u (by omega) b];exact b
   ·rw[tX most x u (by omega) b];exact g
  ·go_wp2_with fail
   go_ret;refine .inr ⟨⟨T,a,rfl,m.imp (fun uJ=> .inr ⟨_,uJ,?_⟩)⟩,g,i⟩;rw[tX most x u (by omega) b];exact dS _
 ·go_wp2_with fail
  go_ret;exact .inr ⟨⟨T,a,rfl,f.imp (fun f=> .inl (by rw[rG most x u (by omega)]))⟩,k,l⟩
theorem Uo(S:jV)(A:sG)(s:ByteArray)(aN most:Nat)(u:US)(x:UInt8)(a:Int)(d:a=((x.toNat:Nat):Int))(w:af)(f:wZ S A.base)(h:UP S w A s aN most u)(hm:most<=16777216)(b:1<=aN)(c:aN<=32768):
 aF prog 199 #[.pointer (some ⟨A.ub,0,none⟩),.int .u8 a] w fun e w'=>Res S A s aN most w (mQ most x u) e w':=by
 subst d;exact Ju S A s aN most u x w f h hm b c
theorem UP.ring{S:jV}{w:af}{A:sG}{s:ByteArray}{aN most:Nat}{u:US}(h:UP S w A s aN most u):∃a,kR w A.gb A.base a aN u.out:=by obtain⟨a,F,fx,c,d,h3,b,_⟩:=h;exact⟨a,b⟩
theorem Yg(S:jV)(A:sG)(s:ByteArray)(aN most n:Nat)(u:US)(w:af)(h:UP S w A s aN most u)(b:1<=aN)(c:aN<=32768)(d:1<=n)(a:n<=aN/\n<=u.out.length):
 aF prog 226 #[.pointer (some ⟨A.ub,0,none⟩),.int .i64 (n:Int)] w fun e w'=>e= .returned .nilIface/\w'=w:=by
 obtain⟨c0,c1,c2,i⟩:=h.cells;obtain⟨f,g⟩:=h.ring;have H:ah _:=a;clear a;go_enter func226,ntmps226
 go_wp2_with fail
 refine(Lc A.gb A.base f aN n u.out _ g b c d (by have:=H.out;omega)).mono ?_;rintro e w1 ⟨rfl,rfl⟩;go_wp2_with fail
 go_ret;exact⟨rfl,rfl⟩
theorem aaY(S:jV)(A:sG)(s:ByteArray)(aN most n:Nat)(u:US)(w:af)(h:UP S w A s aN most u)(c:1<=aN)(d:aN<=32768)(f:1<=n)(i:n<=1000000)(b:¬(n<=aN/\n<=u.out.length)):
 aF prog 226 #[.pointer (some ⟨A.ub,0,none⟩),.int .i64 (n:Int)] w fun e w'=> ∃T a,e= .returned (.iface T (.pointer (some a)))/\jC w' T a/\UE w' A s/\PE A.base w w':=by
 obtain⟨c0,c1,c2,l⟩:=h.cells;obtain⟨j,k⟩:=h.ring;have H:ah _:=b;clear b;go_enter func226,ntmps226
 go_wp2_with fail
 have m:aN<n\/u.out.length<n:=by
  rcases bU aN n with h|h
  ·exact .inl h
  ·rcases bU u.out.length n with g|g
   ·exact .inr g
   ·exact absurd ⟨h,g⟩ H.out
 refine(XY A.gb A.base j aN n u.out _ k c d f i (by omega)).mono ?_;rintro e w1 ⟨rfl,rfl⟩;go_wp2_with fail
 refine(dJ _ _).mono ?_;rintro e w3 ⟨rfl,rfl⟩;go_wp2_with fail
 go_ret;exact⟨_,_,rfl,jC.mk _ _,h.ue.alloc _,PE.alloc _ _ _ h.base⟩
structure Ur(S:jV)(A:sG)(s:ByteArray)(aN most:Nat)(fn:FuncId)(P:Nat->List UInt8->Prop):Prop where
 body:∀args w,(callFunc fn args).run prog w= .ok (.enter fn args) w
 yes:∀(n:Nat) (u:US) (w:af),UP S w A s aN most u->1<=n->n<=1000000->P n u.out->aF prog fn #[.pointer (some ⟨A.ub,0,none⟩),.int .i64 (n:Int)] w fun e w'=>e= .returned .nilIface/\w'=w
 no:∀(n:Nat) (u:US) (w:af),UP S w A s aN most u->1<=n->n<=1000000->¬P n u.out->aF prog fn #[.pointer (some ⟨A.ub,0,none⟩),.int .i64 (n:Int)] w fun e w'=> ∃T a,e= .returned (.iface T (.pointer (some a)))/\jC w' T a/\UE w' A s/\PE A.base w w'
 mono:∀n m out,n<=m->P m out->P n out
theorem Yh(S:jV)(A:sG)(s:ByteArray)(aN most:Nat)(hm:most<=16777216):Ur S A s aN most 194 (fun n out=>out.length+n<=most) where
 body:=fun args w=>qI func194 (by kernel_rfl) (by kernel_rfl) args w
 yes:=fun n u w h _ a hp=>QD S A s aN most n u w h hm a hp
 no:=fun n u w h _ a hp=>VV S A s aN most n u w h hm a hp
 mono:=fun n m out b c=>by omega
theorem Us(S:jV)(A:sG)(s:ByteArray)(aN most:Nat)(a:1<=aN)(b:aN<=32768):Ur S A s aN most 226 (fun n out=>n<=aN/\n<=out.length) where
 body:=fun args w=>qI func226 (by kernel_rfl) (by kernel_rfl) args w
 yes:=fun n u w h c _ hp=>Yg S A s aN most n u w h a b c hp
 no:=fun n u w h c d hp=>aaY S A s aN most n u w h a b c d hp
 mono:=fun n m out c e=>by omega
def rY(w:af)(b:Nat)(m:Nat×Nat×Nat):Prop:=w.heap[b]?=some (.cells #[.int .u8 (m.1:Int),.int .i64 (m.2.1:Int),.int .u64 (m.2.2:Int)] 314 (0,0))
theorem rY.c{w:af}{b:Nat}{m:Nat×Nat×Nat}(h:rY w b m):w.cell? ⟨b,0,none⟩=some (.int .u8 (m.1:Int))/\w.cell? ⟨b,1,none⟩=some (.int .i64 (m.2.1:Int))/\w.cell? ⟨b,2,none⟩=some (.int .u64 (m.2.2:Int)):=
 ⟨by simpa using(cell_of h 0).1,by simpa using(cell_of h 1).1,by simpa using(cell_of h 2).1⟩
theorem rY.rf{w w':af}{b:Nat}{tb:Src}{rb:Nat}{m:Nat×Nat×Nat}{s:ByteArray}{pos:Nat}(h:rY w b m)(c:Rd w tb rb s pos)(d:RF tb rb w w'):rY w' b m:=by have a:=c.types h (by decide) (by decide);exact(d.block b (ai h) a.1 a.2).trans h
theorem rY.pe{w w':af}{b base:Nat}{m:Nat×Nat×Nat}(h:rY w b m)(hp:PE base w w'):rY w' b m:=(hp.other b _ _ _ h (by decide)).trans h
theorem RF.NJ{tb:Src}{rb:Nat}{w w':af}(h:RF tb rb w.drew w'):RF tb rb w w':=⟨h.os,h.tape,h.output,h.size,h.block⟩
theorem Zx.NJ{tb:Src}{rb:Nat}{s:ByteArray}{pos n:Nat}{w:af}{x:Int}{v:ay}{w':af}(h:Zx tb rb s pos n w.drew x v w'):Zx tb rb s pos n w x v w':=
 Or.imp (fun⟨a,b,c,d,e⟩=>⟨a,b,c,d,e.NJ⟩) (fun⟨a,b,c,d⟩=>⟨a,b,c,d.NJ⟩) h
theorem wrap_add(a b:Nat)(h:a+b<9223372036854775808):IntKind.i64.wrap ((a:Int)+(b:Int))=((a+b:Nat):Int):=by rw[bK];omega
theorem Ih(S:jV)(A:sG)(s:ByteArray)(aN most:Nat)(u:US)(m:Nat×Nat×Nat)(fn:FuncId)(P:Nat->List UInt8->Prop)(w:af)(h:UP S w A s aN most u)(hF:Ur S A s aN most fn P)(hs:s.size<=140737488354000)(hx:m.2.2<=16)(Z:m.2.1<=900000)(z:1<=m.2.1):
 aF prog 225 #[.pointer (some ⟨A.ub,0,none⟩),.agg #[.int .u8 (m.1:Int),.int .i64 (m.2.1:Int),.int .u64 (m.2.2:Int)],.func (.func fn) #[.pointer (some ⟨A.ub,0,none⟩)] #[]] w fun e w'=>
  ((bI s m.2.2 u.st).2.dA=false/\u.st.pos+m.2.2<=8*s.size/\P (m.2.1+bH s u.st.pos m.2.2) u.out/\e= .returned (.tuple #[.int .i64 ((m.2.1+bH s u.st.pos m.2.2:Nat):Int),.nilIface])/\UP S w' A s aN most ⟨⟨u.st.pos+m.2.2,false⟩,u.out⟩/\PE A.base w w'/\RF A.tb A.rb w w')\/
  ((∃n T a,e= .returned (.tuple #[.int .i64 n,.iface T (.pointer (some a))])/\dO A.tb w' T a ((bI s m.2.2 u.st).2.dA=true\/¬P (m.2.1+bH s u.st.pos m.2.2) u.out))/\UE w' A s/\PE A.base w w'):=by
 obtain⟨k,l,x⟩:=m;dsimp only at hx Z z|-;have t:=h.facts.1;obtain⟨⟨pos,dA⟩,out⟩:=u;dsimp only at t|-;subst t;have hA:=h.alloc (.cells #[.int .u8 (k:Int),.int .i64 (l:Int),.int .u64 (x:Int)] 314);have E:RF A.tb A.rb w (w.alloc (.cells #[.int .u8 (k:Int),.int .i64 (l:Int),.int .u64 (x:Int)] 314)):=(RF.refl _ _ w).alloc _;have hM:rY (w.alloc (.cells #[.int .u8 (k:Int),.int .i64 (l:Int),.int .u64 (x:Int)] 314)) w.heap.size (k,l,x):=jY w _ _ rfl;obtain⟨d,p⟩:=hA;have a0:∀args w,(callFunc fn args).run prog w= .ok (.enter fn args) w:=hF.body;go_enter func225,ntmps225
 go_wp2_with fail
 generalize (w.alloc (.cells #[.int .u8 (k:Int),.int .i64 (l:Int),.int .u64 (x:Int)] 314))=w0 at*;obtain⟨c0,c1,c2,H⟩:=d.cells;obtain⟨I,J,K⟩:=hM.c;obtain⟨f1,F,f3⟩:=d.facts;dsimp only at F;have W:bH s pos x<65536:=bu (fQ s pos x) (show 2^x<=2^16 from b_ (by omega) hx);by_cases g:P l out;rotate_left
 ·have j:=hF.no l ⟨⟨pos,false⟩,out⟩ w0 d z (by omega) g;have HN:ah (¬P (l+bH s pos x) out):=(fun hp=>g (hF.mono l _ out (by omega) hp):¬_);clear g;go_wp2_with fail
  refine j.mono ?_;rintro e w1 ⟨T,a,rfl,L,M,G⟩;clear j c0 c1 c2 H I J K;go_wp2_with fail
  go_ret2;exact .inr ⟨⟨_,T,a,rfl,.inl ⟨L,.inr HN.out⟩⟩,M,p.trans G⟩
 have j:=hF.yes l ⟨⟨pos,false⟩,out⟩ w0 d z (by omega) g;clear g;go_wp2_with fail
 refine j.mono ?_;rintro e w1 ⟨rfl,B⟩;have B:=B.symm;subst B;clear j;go_upto_region 4 with fail
 go_cut [9,10] (fun v6 v7 wx=> ∃(i:Int) (v:ay),v6= .int .i64 i/\v7=v/\Zx A.tb A.rb s pos x w0 i v wx)
 case first=>
  go_region_with ((go_at_call 133;refine(Tn A.tb A.rb s pos x _ (by exact F.drew) hs hx).mono ?_;rintro e w3 ⟨i,v,rfl,D⟩))
  all_goals
   go_wp2_with fail
   go_meet
   case rel=>exact⟨i,v,rfl,rfl,D.NJ⟩
 case rest=>
  obtain⟨i,v,rfl,rfl,hN⟩:=hcut;rcases hN with⟨y,rfl,rfl,D,C⟩|⟨rfl,⟨T,a,rfl,X⟩,D,C⟩
  ·have Y:ah (pos+x<=8*s.size):=y;clear y;obtain⟨N,O,Q⟩:=(hM.rf F C).c;have b:=d.rd (pos+x) D C;clear c0 c1 c2 H I J K;have q:=(b.1.rd (pos+x) D.drew ((RF.refl _ _ wc).drew)).1;dsimp only at q;have R:ah ((bI s x ⟨pos,false⟩).2.dA=false):=(by rw[jc s x pos Y.out]:_=_);by_cases f:P (l+bH s pos x) out
   ·have j:=hF.yes (l+bH s pos x) _ _ q (by omega) (by omega) f;have U:ah _:=f;clear f;generalize o:bH s pos x=bv at*;have r:ah _:=o;clear o;rw[<-wrap_add l bv (by omega)]at j;go_wp2_with fail
    go_region_with ((refine j.mono ?_;rintro e w3 ⟨rfl,rfl⟩))
    all_goals
     go_wp2_with fail
     go_ret2;exact .inl ⟨R.out,Y.out,by rw[r.out];exact U.out,vW (by rw[r.out,<-wrap_add l bv (by omega)]),q,p.trans (b.2.trans (PE.drewN _ _ 1)),E.trans C.drew⟩
   ·have j:=hF.no (l+bH s pos x) _ _ q (by omega) (by omega) f;have U:ah _:=f;clear f;generalize o:bH s pos x=bv at*;have r:ah _:=o;clear o;rw[<-wrap_add l bv (by omega)]at j;go_wp2_with fail
    have V:rY wc.drew w.heap.size (k,l,x):=hM.rf F C.drew;go_region_with ((refine j.mono ?_;rintro e w3 ⟨T,a,rfl,L,M,G⟩;have a1:=(V.pe G).c.2.1))
    all_goals
     go_wp2_with fail
     go_ret2;exact .inr ⟨⟨_,T,a,rfl,.inl ⟨L,.inr (by rw[r.out];exact U.out)⟩⟩,M,p.trans (b.2.trans ((PE.drewN _ _ 1).trans G))⟩
  ·obtain⟨N,O,Q⟩:=(hM.rf F C).c;have b:=d.Ag D C;have HW:dO A.tb wc T a ((bI s x ⟨pos,false⟩).2.dA=true\/¬P (l+bH s pos x) out):=X.imp .inl;clear c0 c1 c2 H I J K X;go_wp2_with fail
   go_ret2;exact .inr ⟨⟨_,T,a,rfl,HW⟩,b.1,p.trans b.2⟩
end Pr
end Go.Proofs.YtephkcdbnogdhaaGreatDoor
