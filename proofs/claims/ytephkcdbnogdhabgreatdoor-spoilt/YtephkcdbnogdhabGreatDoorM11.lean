import Derived.Test.YtephkcdbnogdhabGreatDoorM8
import Derived.Test.YtephkcdbnogdhabGreatDoorM9
set_option linter.unusedVariables false
set_option maxHeartbeats 40000000
set_option maxRecDepth 10000
namespace Go.Proofs.YtephkcdbnogdhabGreatDoor
open Go.Proofs.Tryz
open Go renaming World->af,Value->ay,Calls->aH,TypeId->aW,Addr->bG
open Go.RowKit renaming Hid->au,Below->aA,intOf->bH
namespace Pr
open Go.RowKit Rf
open lI (byteCells iM)
def FH(n aO j:Nat):Nat:=n-1-(n-1-j)%aO
def iC(out:List UInt8)(aO:Nat):List ay:=(List.range (min out.length aO)).map fun j=> .int .u8 (((out.getD (FH out.length aO j) 0).toNat:Nat):Int)
theorem Ho(out:List UInt8)(aO:Nat):(iC out aO).length=min out.length aO:=by simp[iC]
theorem zL(out:List UInt8)(aO:Nat)(h:out.length<=aO):iC out aO=byteCells out:=by
 apply List.ext_getElem?;intro j;unfold iC byteCells;by_cases a:j<out.length
 ·have e:FH out.length aO j=j:=by unfold FH;rw[gz (by omega)];omega
  rw[fH,List.getElem?_range (by omega),fH,aB a];simp[e,List.getD,List.getElem?_eq_getElem a]
 ·rw[dD (by simp;omega),dD (by simp;omega)]
theorem Yx(n aO j:Nat)(hw:1<=aO)(c:j<aO)(i:aO<=n):FH (n+1) aO j=if j=n%aO then n else FH n aO j:=by
 unfold FH;rw[show n+1-1-j=n-j by omega,show n+1-1=n by omega];by_cases e:j=n%aO
 ·rw[aG e];have h1:(n-j)%aO=0:=by
   have h2:=Nat.div_add_mod n aO;have a:n-j=aO*(n/aO):=by omega
   rw[a];exact Nat.mul_mod_right _ _
  omega
 ·rw[ax e];have h1:(n-j)%aO≠0:=by
   intro h;apply e;have h2:=Nat.div_add_mod (n-j) aO;rw[h]at h2;have a:n=j+aO*((n-j)/aO):=by omega
   rw[a,Nat.add_mul_mod_self_left,gz c]
  have d:(n-j-1)%aO=(n-j)%aO-1:=by
   have f:n-j=(n-j-1)+1:=by omega
   have b:(n-j)%aO=((n-j-1)%aO+1)%aO:=by rw[f];simp[Nat.add_mod]
   have k:=jR (n-j-1) (show 0<aO by omega);by_cases g:(n-j-1)%aO+1=aO
   ·rw[g,Nat.mod_self]at b;omega
   ·rw[gz (show(n-j-1)%aO+1<aO by omega)]at b;omega
  rw[show n-1-j=n-j-1 by omega,d];have l:=jR (n-j) (show 0<aO by omega);omega
theorem FI(out:List UInt8)(x:UInt8)(aO:Nat)(hw:1<=aO)(h:aO<=out.length):iC (out++[x]) aO=(iC out aO).set (out.length%aO) (.int .u8 ((x.toNat:Nat):Int)):=by
 apply List.ext_getElem?;intro j;have hm:=jR out.length (show 0<aO by omega);unfold iC;by_cases b:j<aO
 ·rw[fH,List.getElem?_range (by simp;omega),List.getElem?_set];have e:=Yx out.length aO j hw b h;rw[aK,lq];simp only[Option.map_some,e];by_cases a:j=out.length%aO
  ·rw[aG a,aG a.symm,aG (by simp;omega)];simp
  ·rw[ax a,ax (fun h=>a h.symm),fH,List.getElem?_range (by omega)];have hi:FH out.length aO j<out.length:=by unfold FH;omega
   simp[List.getD,List.getElem?_append_left hi]
 ·rw[dD (by simp;omega),dD (by simp;omega)]
def atR(n aO d:Nat):Nat:=if d<=n%aO then n%aO-d else n%aO+min n aO-d
theorem Vg(out:List UInt8)(aO d:Nat)(hw:1<=aO)(h1:1<=d)(h2:d<=min out.length aO):(iC out aO)[atR out.length aO d]?=some (.int .u8 (((out.getD (out.length-d) 0).toNat:Nat):Int))/\atR out.length aO d<min out.length aO:=by
 have hm:=jR out.length (show 0<aO by omega);have hd:=Nat.div_add_mod out.length aO;generalize a:out.length=n at*;have key:atR n aO d<min n aO/\FH n aO (atR n aO d)=n-d:=by
  by_cases b:n<aO
  ·have e:n%aO=n:=gz b;unfold atR FH;rw[e,aG (by omega)];refine⟨by omega,?_⟩;rw[show n-1-(n-d)=d-1 by omega,gz (by omega)];omega
  ·have c:atR n aO d<aO:=by unfold atR;split<;>omega
   refine⟨by omega,?_⟩;unfold FH;have e:(n-1-atR n aO d)%aO=d-1:=by
    unfold atR;generalize n/aO=q at*;split
    ·rename_i hle;rw[show n-1-(n%aO-d)=d-1+aO*q by omega,Nat.add_mul_mod_self_left,gz (by omega)]
    ·rename_i hle;have i:1<=q:=by
      rcases Nat.eq_zero_or_pos q with h0|h0
      ·subst h0;omega
      ·exact h0
     have f:aO*q=aO+aO*(q-1):=by
      have g:q=(q-1)+1:=by omega
      have h:aO*((q-1)+1)=aO*(q-1)+aO:=Nat.mul_succ aO (q-1);rw[<-g]at h;omega
     rw[show n-1-(n%aO+min n aO-d)=d-1+aO*(q-1)by omega,Nat.add_mul_mod_self_left,gz (by omega)]
   rw[e];omega
 refine⟨?_,key.1⟩;unfold iC;rw[fH,List.getElem?_range (by rw[a];exact key.1)];simp only[Option.map_some,a,key.2]
def jO(w:af)(gb base:Nat)(v:ay)(aO:Nat)(out:List UInt8):Prop:=w.heap[gb]?=some (.cells #[.int .i64 (aO:Int),v,.int .i64 ((out.length%aO:Nat):Int)] 238 (0,0))/\w.ownsRow base 5 1 v (min out.length aO) (iC out aO)/\base<=w.heap.size
theorem Nv(aO:Nat)(w:af):
 aH prog 129 #[.int .i64 (aO:Int)] w fun e w'=>e= .returned (.pointer (some ⟨w.heap.size,0,none⟩))/\w'=w.alloc (.cells #[.int .i64 (aO:Int),.slice none 0 0,.int .i64 0] 238):=by
 go_enter func129,ntmps129
 go_wp2
 go_ret;exact⟨rfl,rfl⟩
theorem Vh(gb base:Nat)(v:ay)(aO d:Nat)(out:List UInt8)(w:af)(h:jO w gb base v aO out)(hw:1<=aO)(c:aO<=32768)(h1:1<=d)(hd:d<=1000000)(h2:¬d<=min out.length aO):
 aH prog 164 #[.pointer (some ⟨gb,0,none⟩),.int .i64 (d:Int)] w fun e w'=>e= .returned (.tuple #[.int .u8 0,.bool false])/\w'=w:=by
 obtain⟨hb,a,b⟩:=h;have c1:w.cell? ⟨gb,1,none⟩=some v:=by simpa using(cell_of hb 1).1
 have d1:decide ((d:Int)<1)=false:=aS (by omega);generalize min out.length aO=f at*;rcases a.2 with⟨rfl,i⟩|⟨g,cap,cur,rfl,i⟩
 ·have d2:decide ((0:Int)<(d:Int))=true:=aZ (by omega);go_enter func164,ntmps164
  go_wp2
  go_ret2;exact⟨rfl,rfl⟩
 ·have d2:decide ((f:Int)<(d:Int))=true:=aZ (by omega);go_enter func164,ntmps164
  go_wp2
  go_ret2;exact⟨rfl,rfl⟩
theorem I_(gb base:Nat)(v:ay)(aO d:Nat)(out:List UInt8)(w:af)(h:jO w gb base v aO out)(hw:1<=aO)(l:aO<=32768)(h1:1<=d)(h2:d<=min out.length aO):
 aH prog 164 #[.pointer (some ⟨gb,0,none⟩),.int .i64 (d:Int)] w fun e w'=>e= .returned (.tuple #[.int .u8 (((out.getD (out.length-d) 0).toNat:Nat):Int),.bool true])/\w'=w:=by
 obtain⟨hb,a,c⟩:=h;have c1:w.cell? ⟨gb,1,none⟩=some v:=by simpa using(cell_of hb 1).1
 have c2:w.cell? ⟨gb,2,none⟩=some (.int .i64 ((out.length%aO:Nat):Int)):=by simpa using(cell_of hb 2).1
 have d1:decide ((d:Int)<1)=false:=aS (by omega);have m:min out.length aO<=32768:=by omega
 obtain⟨f,n⟩:=Vg out aO d hw h1 h2;have j:out.length%aO<=32768:=by have:=jR out.length (show 0<aO by omega);omega
 obtain⟨g,cap,rfl⟩:∃g cap,v= .slice (some ⟨g,0,none⟩) (min out.length aO) cap:=by
  rcases a.2 with⟨_,o⟩|⟨g,cap,cur,rfl,o⟩
  ·omega
  ·exact⟨g,cap,rfl⟩
 have i:w.cell? ⟨g,atR out.length aO d,none⟩=_:=(a.cellAt _ (by omega)).trans f;have k:au (atR out.length aO d=if d<=out.length%aO then out.length%aO-d else out.length%aO+min out.length aO-d):=rfl;generalize atR out.length aO d=p at*;generalize min out.length aO=q at*;generalize out.length%aO=b at*;generalize ((out.getD (out.length-d) 0).toNat:Nat)=r at*;by_cases hle:d<=b
 ·have hp:(b:Int)-(d:Int)=(p:Int):=by have:=k.out;rw[aG hle]at this;omega
  go_enter func164,ntmps164
  go_wp2
  go_ret2;exact⟨rfl,rfl⟩
 ·have hp:(b:Int)-(d:Int)+(q:Int)=(p:Int):=by have:=k.out;rw[ax hle]at this;omega
  have s:(b:Int)-(d:Int)<0:=by omega
  go_enter func164,ntmps164
  go_wp2
  go_ret2;exact⟨rfl,rfl⟩
theorem Nw(n aO:Nat)(hw:1<=aO):(n+1)%aO=if n%aO+1=aO then 0 else n%aO+1:=by
 have h:=jR n (show 0<aO by omega);rw[Nat.add_mod];by_cases e:aO=1
 ·subst e;simp[Nat.mod_one]
 ·rw[gz (show 1<aO by omega)];by_cases a:n%aO+1=aO
  ·rw[aG a,a,Nat.mod_self]
  ·rw[ax a,gz (by omega)]
theorem jO.done{w w2 w3:af}{gb base:Nat}{v v':ay}{aO:Nat}{out:List UInt8}{x:UInt8}(h:jO w gb base v aO out)(a:Fr (fun k=>k=gb\/v.ownBlock=some k) w w2)(hb:w2.heap[gb]?=some (.cells #[.int .i64 (aO:Int),v',.int .i64 (((out.length+1)%aO:Nat):Int)] 238 (0,0)))
 (b:w2.ownsRow base 5 1 v' (min (out.length+1) aO) (iC (out++[x]) aO)) (e:w3.heap=w2.heap) (c:w3.os=w2.os) (d:w3.tape=w2.tape) (e3:w3.output=w2.output):
 jO w3 gb base v' aO (out++[x])/\Fr (fun k=>k=gb\/v.ownBlock=some k) w w3:=by
 refine⟨⟨?_,?_,?_⟩,⟨c.trans a.os,d.trans a.tape,e3.trans a.output,by rw[e];exact a.size,fun k f hS=>by rw[e];exact a.block k f hS⟩⟩
 ·rw[e,aK,lq];exact hb
 ·rw[aK,lq];exact fZ b (fun k _=>by rw[e])
 ·rw[e];exact aY h.2.2 a.size
theorem abq(gb base:Nat)(v:ay)(aO:Nat)(out:List UInt8)(x:UInt8)(w:af)(h:jO w gb base v aO out)(hw:1<=aO)(a0:aO<=32768)(hn:out.length<aO):
 aH prog 150 #[.pointer (some ⟨gb,0,none⟩),.int .u8 ((x.toNat:Nat):Int)] w fun e w'=>e= .returned (.tuple #[])/\∃v',jO w' gb base v' aO (out++[x])/\Fr (fun k=>k=gb\/v.ownBlock=some k) w w'/\(∀k,v'.ownBlock=some k->v.ownBlock=some k\/w.heap.size<=k):=by
 have h0:=h;obtain⟨hb,i,r⟩:=h;have j:out.length%aO=out.length:=gz hn;have H:min out.length aO=out.length:=by omega
 rw[j]at hb;rw[H,zL out aO (by omega)]at i;have Q:v.ownBlock≠some gb:=iy i hb (by decide);have n:au _:=Nw out.length aO hw;have d:au (iC (out++[x]) aO=byteCells out++[.int .u8 ((x.toNat:Nat):Int)]):=(by rw[zL _ aO (by simp;omega),iM]:_=_);have s:min (out.length+1) aO=out.length+1:=by omega
 have o:au (min (out.length+1) aO=out.length+1):=s;clear s H;have a1:out.length<=32768:=by omega
 have M:out.length<=100000000:=by omega
 have Y:w.cell? ⟨gb,0,none⟩=some (.int .i64 (aO:Int)):=by simpa using(cell_of hb 0).1
 have Z:w.cell? ⟨gb,1,none⟩=some v:=by simpa using(cell_of hb 1).1
 rcases i.2 with⟨rfl,R⟩|⟨g,cap,cur,rfl,R⟩
 ·have a2:out.length=0:=R;go_enter func150,ntmps150
  go_wp2
  go_quiet (fail)
  have I:(w.drewN nq).heap[gb]?=_:=hb;have N:(w.drewN nq).ownsRow base 5 1 (.slice none 0 0) out.length (byteCells out):=i;have O:base<=(w.drewN nq).heap.size:=r;have t:Fr (fun k=>k=gb\/(.slice none 0 0:ay).ownBlock=some k) w (w.drewN nq):=⟨rfl,rfl,rfl,ah _,fun _ _ _=>rfl⟩;have J:au ((w.drewN nq).heap.size=w.heap.size):=rfl;have S:(w.drewN nq).cell? ⟨gb,1,none⟩=some (.slice none 0 0):=by simpa using(cell_of I 1).1
  clear Y Z;generalize w.drewN nq=w0 at*
  go_wp2_with (first
   |(at_builtin;refine pK rfl _ _ rfl base _ out.length (byteCells out) ((x.toNat:Nat):Int) N rfl rfl M O ?_;go_must (intro v' w2 b m hw;obtain⟨l,a,rfl⟩:=lI.jB b;have c:=lI.zQ m I (by simp[Value.ownBlock]);have u:=c.2 1;have y:=c.2 2;have K:w2.cell? ⟨gb,1,none⟩=some (.slice none 0 0):=(by simpa using(cell_of c.1 1).1);have z:w2.cell? ⟨gb,2,none⟩=some (.int .i64 (out.length:Int)):=(by simpa using(cell_of c.1 2).1);have A:w2.cell? ⟨gb,0,none⟩=some (.int .i64 (aO:Int)):=(by simpa using(cell_of c.1 0).1)))
   |go_in)
  have B:out.length+1=1:=by omega
  rw[B]at b hw;have C:(1:Int)=((out.length+1:Nat):Int):=by omega
  have p:((w2.setCell ⟨gb,1,none⟩ (.slice (some ⟨l,0,none⟩) 1 a)).setCell ⟨gb,2,none⟩ (.int .i64 1)).heap[gb]?=some (.cells #[.int .i64 (aO:Int),.slice (some ⟨l,0,none⟩) 1 a,.int .i64 1] 238 (0,0)):=(bF (bF c.1 1 _) 2 _).trans (by simp);have D:((w2.setCell ⟨gb,1,none⟩ (.slice (some ⟨l,0,none⟩) 1 a)).setCell ⟨gb,2,none⟩ (.int .i64 1)).ownsRow base 5 1 (.slice (some ⟨l,0,none⟩) 1 a) (1) (byteCells out++[.int .u8 ((x.toNat:Nat):Int)]):=fZ b (fun k f=>by have E:k≠gb:=fun e=>iy b c.1 (by decide) (e▸f);exact(aC 2 _ E).trans (aC 1 _ E))
  have q:Fr (fun k=>k=gb\/(.slice none 0 0:ay).ownBlock=some k) w ((w2.setCell ⟨gb,1,none⟩ (.slice (some ⟨l,0,none⟩) 1 a)).setCell ⟨gb,2,none⟩ (.int .i64 1)):=by
   have T:w0.heap.size+1<=w2.heap.size:=by have:=m.size;simpa using this
   have U:=J.out;refine⟨m.os.trans t.os,m.tape.trans t.tape,m.output.trans t.output,by simp;omega,fun k f hS=> ?_⟩;refine(aC 2 _ (fun e=>hS (.inl e))).trans ((aC 1 _ (fun e=>hS (.inl e))).trans ?_);exact((m.block k (by simp;omega) (fun e=>hS (.inr e.symm))).trans (ai w0 _ k (by omega))).trans (t.block k f hS)
  have F:∀k,(.slice (some ⟨l,0,none⟩) 1 a:ay).ownBlock=some k->(.slice none 0 0:ay).ownBlock=some k\/w.heap.size<=k:=fun k f=>by rw[<-J.out];exact hw k f
  clear c u y K z A b m hw I N O t J S;generalize ((w2.setCell ⟨gb,1,none⟩ (.slice (some ⟨l,0,none⟩) 1 a)).setCell ⟨gb,2,none⟩ (.int .i64 1))=w3 at*;have t0:w3.cell? ⟨gb,0,none⟩=some (.int .i64 (aO:Int)):=by simpa using(cell_of p 0).1
  have t2:w3.cell? ⟨gb,2,none⟩=some (.int .i64 1):=by simpa using(cell_of p 2).1
  have u2:=(cell_of p 2).2;have V:au _:=C;clear C;by_cases P:out.length+1=aO
  ·have W:decide (1=(aO:Int))=true:=aZ (by omega);go_quiet (fail)
   go_wp2_with fail
   go_end0
   have L:(out.length+1)%aO=0:=by rw[n.out,j,aG P]
   have G:=jO.done (v':= .slice (some ⟨l,0,none⟩) 1 a) (w2:=w3.setCell ⟨gb,2,none⟩ (.int .i64 0)) (w3:=(w3.drewN nq).setCell ⟨gb,2,none⟩ (.int .i64 0)) (x:=x) h0 ⟨q.os,q.tape,q.output,by simpa using q.size,fun k f hS=>(aC 2 _ (fun e=>hS (.inl e))).trans (q.block k f hS)⟩ ((bF p 2 _).trans (by rw[L];simp)) (by rw[o.out,d.out];exact fZ (by first|exact D|(rw[B];exact D)) (fun k f=>aC 2 _ (fun e=>iy D p (by decide) (e▸f)))) rfl rfl rfl rfl;exact⟨rfl,_,G.1,G.2,F⟩
  ·have W:decide (1=(aO:Int))=false:=aS (by omega);go_quiet (fail)
   go_wp2_with fail
   go_end0
   have L:(out.length+1)%aO=out.length+1:=by rw[n.out,j,ax P]
   have G:=jO.done (w2:=w3) (w3:=w3.drewN nq) (x:=x) h0 q (by rw[L,<-V.out];exact p) (by rw[o.out,d.out];first|exact D|(rw[B];exact D)) rfl rfl rfl rfl;exact⟨rfl,_,G.1,G.2,F⟩
 ·have X:g≠gb:=fun e=>Q (by rw[<-e];rfl);clear R;go_enter func150,ntmps150
  go_wp2
  go_quiet (fail)
  have I:(w.drewN nq).heap[gb]?=_:=hb;have N:(w.drewN nq).ownsRow base 5 1 (.slice (some ⟨g,0,none⟩) out.length cap) out.length (byteCells out):=i;have O:base<=(w.drewN nq).heap.size:=r;have t:Fr (fun k=>k=gb\/(.slice (some ⟨g,0,none⟩) out.length cap:ay).ownBlock=some k) w (w.drewN nq):=⟨rfl,rfl,rfl,ah _,fun _ _ _=>rfl⟩;have J:au ((w.drewN nq).heap.size=w.heap.size):=rfl;have S:(w.drewN nq).cell? ⟨gb,1,none⟩=some (.slice (some ⟨g,0,none⟩) out.length cap):=by simpa using(cell_of I 1).1
  clear Y Z;generalize w.drewN nq=w0 at*
  go_wp2_with (first
   |(at_builtin;refine pK rfl _ _ rfl base _ out.length (byteCells out) ((x.toNat:Nat):Int) N rfl rfl M O ?_;go_must (intro v' w2 b m hw;obtain⟨l,a,rfl⟩:=lI.jB b;have c:=lI.zQ m I (by simp[Value.ownBlock];exact rG X);have u:=c.2 1;have y:=c.2 2;have K:w2.cell? ⟨gb,1,none⟩=some (.slice (some ⟨g,0,none⟩) out.length cap):=(by simpa using(cell_of c.1 1).1);have z:w2.cell? ⟨gb,2,none⟩=some (.int .i64 (out.length:Int)):=(by simpa using(cell_of c.1 2).1);have A:w2.cell? ⟨gb,0,none⟩=some (.int .i64 (aO:Int)):=(by simpa using(cell_of c.1 0).1)))
   |go_in)
  have C:(((out.length:Int)+1):Int)=((out.length+1:Nat):Int):=by omega
  have p:((w2.setCell ⟨gb,1,none⟩ (.slice (some ⟨l,0,none⟩) (out.length+1) a)).setCell ⟨gb,2,none⟩ (.int .i64 ((out.length:Int)+1))).heap[gb]?=some (.cells #[.int .i64 (aO:Int),.slice (some ⟨l,0,none⟩) (out.length+1) a,.int .i64 ((out.length:Int)+1)] 238 (0,0)):=(bF (bF c.1 1 _) 2 _).trans (by simp);have D:((w2.setCell ⟨gb,1,none⟩ (.slice (some ⟨l,0,none⟩) (out.length+1) a)).setCell ⟨gb,2,none⟩ (.int .i64 ((out.length:Int)+1))).ownsRow base 5 1 (.slice (some ⟨l,0,none⟩) (out.length+1) a) (out.length+1) (byteCells out++[.int .u8 ((x.toNat:Nat):Int)]):=fZ b (fun k f=>by have E:k≠gb:=fun e=>iy b c.1 (by decide) (e▸f);exact(aC 2 _ E).trans (aC 1 _ E))
  have q:Fr (fun k=>k=gb\/(.slice (some ⟨g,0,none⟩) out.length cap:ay).ownBlock=some k) w ((w2.setCell ⟨gb,1,none⟩ (.slice (some ⟨l,0,none⟩) (out.length+1) a)).setCell ⟨gb,2,none⟩ (.int .i64 ((out.length:Int)+1))):=by
   have T:w0.heap.size+1<=w2.heap.size:=by have:=m.size;simpa using this
   have U:=J.out;refine⟨m.os.trans t.os,m.tape.trans t.tape,m.output.trans t.output,by simp;omega,fun k f hS=> ?_⟩;refine(aC 2 _ (fun e=>hS (.inl e))).trans ((aC 1 _ (fun e=>hS (.inl e))).trans ?_);exact((m.block k (by simp;omega) (fun e=>hS (.inr e.symm))).trans (ai w0 _ k (by omega))).trans (t.block k f hS)
  have F:∀k,(.slice (some ⟨l,0,none⟩) (out.length+1) a:ay).ownBlock=some k->(.slice (some ⟨g,0,none⟩) out.length cap:ay).ownBlock=some k\/w.heap.size<=k:=fun k f=>by rw[<-J.out];exact hw k f
  clear c u y K z A b m hw I N O t J S;generalize ((w2.setCell ⟨gb,1,none⟩ (.slice (some ⟨l,0,none⟩) (out.length+1) a)).setCell ⟨gb,2,none⟩ (.int .i64 ((out.length:Int)+1)))=w3 at*;have t0:w3.cell? ⟨gb,0,none⟩=some (.int .i64 (aO:Int)):=by simpa using(cell_of p 0).1
  have t2:w3.cell? ⟨gb,2,none⟩=some (.int .i64 ((out.length:Int)+1)):=by simpa using(cell_of p 2).1
  have u2:=(cell_of p 2).2;have V:au _:=C;clear C;by_cases P:out.length+1=aO
  ·have W:decide (((out.length:Int)+1)=(aO:Int))=true:=aZ (by omega);go_quiet (fail)
   go_wp2_with fail
   go_end0
   have L:(out.length+1)%aO=0:=by rw[n.out,j,aG P]
   have G:=jO.done (v':= .slice (some ⟨l,0,none⟩) (out.length+1) a) (w2:=w3.setCell ⟨gb,2,none⟩ (.int .i64 0)) (w3:=(w3.drewN nq).setCell ⟨gb,2,none⟩ (.int .i64 0)) (x:=x) h0 ⟨q.os,q.tape,q.output,by simpa using q.size,fun k f hS=>(aC 2 _ (fun e=>hS (.inl e))).trans (q.block k f hS)⟩ ((bF p 2 _).trans (by rw[L];simp)) (by rw[o.out,d.out];exact fZ (by first|exact D|(rw[B];exact D)) (fun k f=>aC 2 _ (fun e=>iy D p (by decide) (e▸f)))) rfl rfl rfl rfl;exact⟨rfl,_,G.1,G.2,F⟩
  ·have W:decide (((out.length:Int)+1)=(aO:Int))=false:=aS (by omega);go_quiet (fail)
   go_wp2_with fail
   go_end0
   have L:(out.length+1)%aO=out.length+1:=by rw[n.out,j,ax P]
   have G:=jO.done (w2:=w3) (w3:=w3.drewN nq) (x:=x) h0 q (by rw[L,<-V.out];exact p) (by rw[o.out,d.out];first|exact D|(rw[B];exact D)) rfl rfl rfl rfl;exact⟨rfl,_,G.1,G.2,F⟩
theorem Kr{w:af}{base g n cap:Nat}{xs:List ay}(h:w.ownsRow base 5 1 (.slice (some ⟨g,0,none⟩) n cap) n xs)(j:Nat)(u:ay):(w.setCell ⟨g,j,none⟩ u).ownsRow base 5 1 (.slice (some ⟨g,0,none⟩) n cap) n (xs.set j u):=by
 refine⟨by simpa using h.1,?_⟩;rcases h.2 with⟨h,_⟩|⟨l,k,cur,e,a,b,c,d,f,t⟩
 ·cases h
 ·injection e with i m e3
  injection i with i
  injection i with i
  subst i e3;refine .inr ⟨g,cap,cur.setIfInBounds j u,rfl,a,bF b j u,c,d,by simpa using f,?_⟩;rw[Array.toList_setIfInBounds,List.take_set,t]
theorem Yy(gb base:Nat)(v:ay)(aO:Nat)(out:List UInt8)(x:UInt8)(w:af)(h:jO w gb base v aO out)(hw:1<=aO)(I:aO<=32768)(Q:¬out.length<aO):
 aH prog 150 #[.pointer (some ⟨gb,0,none⟩),.int .u8 ((x.toNat:Nat):Int)] w fun e w'=>e= .returned (.tuple #[])/\∃v',jO w' gb base v' aO (out++[x])/\Fr (fun k=>k=gb\/v.ownBlock=some k) w w'/\(∀k,v'.ownBlock=some k->v.ownBlock=some k\/w.heap.size<=k):=by
 have h0:=h;obtain⟨hb,b,t⟩:=h;have f:min out.length aO=aO:=by omega
 rw[f]at b;have u:v.ownBlock≠some gb:=iy b hb (by decide);have y:=jR out.length (show 0<aO by omega);have i:au _:=Nw out.length aO hw;have d:au _:=FI out x aO hw (by omega);have p:au (min (out.length+1) aO=aO):=(by omega:_=_);clear f;obtain⟨g,cap,rfl⟩:∃g cap,v= .slice (some ⟨g,0,none⟩) aO cap:=by
  rcases b.2 with⟨_,J⟩|⟨g,cap,cur,rfl,J⟩
  ·omega
  ·exact⟨g,cap,rfl⟩
 have z:g≠gb:=fun e=>u (by rw[<-e];rfl);obtain⟨a,j⟩:∃a,a=out.length%aO:=⟨_,rfl⟩;rw[<-j]at hb y;have l:au (a=out.length%aO):=j;clear j;have K:w.cell? ⟨gb,0,none⟩=some (.int .i64 (aO:Int)):=by simpa using(cell_of hb 0).1
 have L:w.cell? ⟨gb,1,none⟩=some (.slice (some ⟨g,0,none⟩) aO cap):=by simpa using(cell_of hb 1).1
 have M:w.cell? ⟨gb,2,none⟩=some (.int .i64 (a:Int)):=by simpa using(cell_of hb 2).1
 have N:w.frozen? ⟨g,a,none⟩=false:=b.frozenAt a;obtain⟨u0,A⟩:∃u0,w.cell? ⟨g,a,none⟩=some u0:=by have:=b.cellAt a (by omega);rw[aB (by rw[Ho];omega)]at this;exact⟨_,this⟩
 have d2:decide ((aO:Int)<1)=false:=aS (by omega);have s:(w.setCell ⟨g,a,none⟩ (.int .u8 ((x.toNat:Nat):Int))).heap[gb]?=some (.cells #[.int .i64 (aO:Int),.slice (some ⟨g,0,none⟩) aO cap,.int .i64 (a:Int)] 238 (0,0)):=(aC a _ (rG z)).trans hb;have B:(w.setCell ⟨g,a,none⟩ (.int .u8 ((x.toNat:Nat):Int))).cell? ⟨gb,2,none⟩=some (.int .i64 (a:Int)):=by simpa using(cell_of s 2).1
 have C:=(cell_of s 2).2;have G:=Kr b a (.int .u8 ((x.toNat:Nat):Int));go_enter func150,ntmps150
 go_wp2
 go_quiet (fail)
 go_wp2_with fail
 go_region
 have q:((w.drewN (nq+1)).setCell ⟨g,a,none⟩ (.int .u8 ((x.toNat:Nat):Int))).heap[gb]?=some (.cells #[.int .i64 (aO:Int),.slice (some ⟨g,0,none⟩) aO cap,.int .i64 (a:Int)] 238 (0,0)):=s;have D:((w.drewN (nq+1)).setCell ⟨g,a,none⟩ (.int .u8 ((x.toNat:Nat):Int))).ownsRow base 5 1 (.slice (some ⟨g,0,none⟩) aO cap) aO ((iC out aO).set a (.int .u8 ((x.toNat:Nat):Int))):=G;have m:Fr (fun k=>k=gb\/(.slice (some ⟨g,0,none⟩) aO cap:ay).ownBlock=some k) w ((w.drewN (nq+1)).setCell ⟨g,a,none⟩ (.int .u8 ((x.toNat:Nat):Int))):=⟨rfl,rfl,rfl,by simp,fun k c hS=>aC (w:=w) a _ (fun e=>hS (.inr (by rw[e];rfl)))⟩;clear s G B C K L M N A;generalize ((w.drewN (nq+1)).setCell ⟨g,a,none⟩ (.int .u8 ((x.toNat:Nat):Int)))=w1 at*;have B:w1.cell? ⟨gb,2,none⟩=some (.int .i64 (a:Int)):=by simpa using(cell_of q 2).1
 have C:=(cell_of q 2).2;go_wp2_with fail
 have n:(w1.setCell ⟨gb,2,none⟩ (.int .i64 ((a:Int)+1))).heap[gb]?=some (.cells #[.int .i64 (aO:Int),.slice (some ⟨g,0,none⟩) aO cap,.int .i64 ((a:Int)+1)] 238 (0,0)):=(bF q 2 _).trans (by simp);have O:(w1.setCell ⟨gb,2,none⟩ (.int .i64 ((a:Int)+1))).ownsRow base 5 1 (.slice (some ⟨g,0,none⟩) aO cap) aO ((iC out aO).set a (.int .u8 ((x.toNat:Nat):Int))):=fZ D (fun k c=>aC 2 _ (fun e=>iy D q (by decide) (e▸c)));have o:Fr (fun k=>k=gb\/(.slice (some ⟨g,0,none⟩) aO cap:ay).ownBlock=some k) w (w1.setCell ⟨gb,2,none⟩ (.int .i64 ((a:Int)+1))):=⟨m.os,m.tape,m.output,by simpa using m.size,fun k c hS=>(aC 2 _ (fun e=>hS (.inl e))).trans (m.block k c hS)⟩;clear q D m B C;generalize (w1.setCell ⟨gb,2,none⟩ (.int .i64 ((a:Int)+1)))=w3 at*;have R:w3.cell? ⟨gb,0,none⟩=some (.int .i64 (aO:Int)):=by simpa using(cell_of n 0).1
 have S:w3.cell? ⟨gb,2,none⟩=some (.int .i64 ((a:Int)+1)):=by simpa using(cell_of n 2).1
 have u2:=(cell_of n 2).2;have E:w3.ownsRow base 5 1 (.slice (some ⟨g,0,none⟩) aO cap) (min (out.length+1) aO) (iC (out++[x]) aO):=by rw[p.out,d.out,<-l.out];exact O
 by_cases H:a+1=aO
 ·have P:decide ((a:Int)+1=(aO:Int))=true:=aZ (by omega);have F:(out.length+1)%aO=0:=by rw[i.out,<-l.out,aG H]
  go_quiet (fail)
  go_wp2_with fail
  go_end0
  have r:=jO.done (v':= .slice (some ⟨g,0,none⟩) aO cap) (w2:=w3.setCell ⟨gb,2,none⟩ (.int .i64 0)) (w3:=(w3.drewN nq).setCell ⟨gb,2,none⟩ (.int .i64 0)) (x:=x) h0 ⟨o.os,o.tape,o.output,by simpa using o.size,fun k c hS=>(aC 2 _ (fun e=>hS (.inl e))).trans (o.block k c hS)⟩ ((bF n 2 _).trans (by rw[F];simp)) (fZ E (fun k c=>aC 2 _ (fun e=>iy E n (by decide) (e▸c)))) rfl rfl rfl rfl;exact⟨rfl,_,r.1,r.2,fun k c=> .inl c⟩
 ·have P:decide ((a:Int)+1=(aO:Int))=false:=aS (by omega);have F:(out.length+1)%aO=a+1:=by rw[i.out,<-l.out,ax H]
  go_quiet (fail)
  go_wp2_with fail
  go_end0
  have r:=jO.done (v':= .slice (some ⟨g,0,none⟩) aO cap) (w2:=w3) (w3:=w3.drewN nq) (x:=x) h0 o (by rw[F];exact n) E rfl rfl rfl rfl;exact⟨rfl,_,r.1,r.2,fun k c=> .inl c⟩
theorem QB(gb base:Nat)(v:ay)(aO:Nat)(out:List UInt8)(x:UInt8)(w:af)(h:jO w gb base v aO out)(hw:1<=aO)(a:aO<=32768):
 aH prog 150 #[.pointer (some ⟨gb,0,none⟩),.int .u8 ((x.toNat:Nat):Int)] w fun e w'=>e= .returned (.tuple #[])/\∃v',jO w' gb base v' aO (out++[x])/\Fr (fun k=>k=gb\/v.ownBlock=some k) w w'/\(∀k,v'.ownBlock=some k->v.ownBlock=some k\/w.heap.size<=k):=by
 by_cases b:out.length<aO
 ·exact abq gb base v aO out x w h hw a b
 ·exact Yy gb base v aO out x w h hw a b
structure qN where
 tb:Src
 rb:Nat
 gb:Nat
 ub:Nat
 al:Bool
abbrev qN.base(A:qN):Nat:=A.tb.base
structure jy where
 fv:ay
 K:af->List UInt8->(Nat->Prop)->Prop
 stop:List UInt8->Prop
structure jy.Ok(S:jy)(base:Nat):Prop where
 lt:∀{w out F},S.K w out F->∀k,F k->k<w.heap.size
 iq:∀{w w' out F},S.K w out F->(∀k,F k\/k<base->w'.heap[k]?=w.heap[k]?)->w.heap.size<=w'.heap.size->S.K w' out F
def xh(T:aW):Bool:=LU T||(T==5||T==218||T==238||T==225||T==99999||T==77||T==186||T==55||T==197||T==179||T==173||T==190||T==188)
theorem Ny{T:aW}(h:xh T=false):LU T=false:=(Bool.or_eq_false_iff.1 h).1
structure PE(base:Nat)(w w':af):Prop where
 os:w'.os=w.os
 tape:w'.tape=w.tape
 output:w'.output=w.output
 size:w.heap.size<=w'.heap.size
 low:∀k,k<base->w'.heap[k]?=w.heap[k]?
 other:∀(k:Nat) (cur:Array ay) (T:aW) (f:Nat×Nat),w.heap[k]?=some (Obj.cells cur T f)->xh T=false->w'.heap[k]?=w.heap[k]?
theorem PE.refl(base:Nat)(w:af):PE base w w:=⟨rfl,rfl,rfl,ah _,fun _ _=>rfl,fun _ _ _ _ _ _=>rfl⟩
theorem PE.trans{base:Nat}{u v w:af}(h:PE base u v)(k:PE base v w):PE base u w:=
 ⟨k.os.trans h.os,k.tape.trans h.tape,k.output.trans h.output,aY h.size k.size,fun i hi=>(k.low i hi).trans (h.low i hi),fun i cur T f e a=>by have h1:=h.other i cur T f e a;exact(k.other i cur T f (h1.trans e) a).trans h1⟩
theorem PE.below{base:Nat}{w w':af}(h:PE base w w'):aA base w w':=⟨h.os,h.tape,h.output,h.size,h.low⟩
theorem PE.drewN(base:Nat)(w:af)(n:Nat):PE base w (w.drewN n):=⟨rfl,rfl,rfl,ah _,fun _ _=>rfl,fun _ _ _ _ _ _=>rfl⟩
theorem um.pe{base:Nat}{w w':af}{k:Nat}{f:Nat->Nat×Nat×Nat}{L:List Nat}(h:um w k f L)(e:PE base w w'):um w' k f L:=by obtain⟨vb,g,⟨cur,a,b⟩,c,d⟩:=h;exact⟨vb,g,⟨cur,(e.other k _ _ _ a (by decide)).trans a,b⟩,(e.other vb _ _ _ c (by decide)).trans c,d⟩
theorem lM.pe{base:Nat}{w w':af}{k:Nat}{A B:List Nat}(h:lM w k A B)(e:PE base w w'):lM w' k A B:=by obtain⟨a,kb,h1,h2,b⟩:=h;exact⟨a,kb,(e.other k _ _ _ h1 (by decide)).trans h1,h2.pe e,b.pe e⟩
theorem RF.pe{w w':af}{tb:Src}{rb:Nat}{s:ByteArray}{pos:Nat}(h:RF tb rb w w')(a:Rd w tb rb s pos):PE tb.base w w':=by
 have i:=a.GM;have b:tb.Ok:=by obtain⟨_,_,_,_,_,_,_,g,_⟩:=a;exact g
 refine⟨h.os,h.tape,h.output,h.size,fun k j=>h.block k (by omega) (fun e=>by have:=b.low k e;omega) (by omega),fun k cur T f e c=> ?_⟩;have d:=a.types e (Ny c) (fun e=>by rw[e]at c;revert c;decide);exact h.block k (ak e) d.1 d.2
def iK(w:af):Prop:=∀i,i<19->w.cell? ⟨6,i,none⟩=some (.int .u8 ((order.getD i 0:Nat):Int))
theorem iK.over{w w':af}(h:iK w)(e:w'.heap[6]?=w.heap[6]?):iK w':=by intro i hi;have:=h i hi;unfold World.cell? at this|-;rw[e];exact this
theorem Tc{w:af}{base:Nat}{v:ay}{n:Nat}{xs:List ay}(h:w.ownsRow base 5 1 v n xs){tb:Src}(hS:tb.Ok)(hK:tb.KE w){k:Nat}(a:v.ownBlock=some k):¬tb.F k:=fun hF=>by obtain⟨cur,T,f,h1,h2⟩:=hS.Sl hK hF;exact iy h h1 (fun e=>by rw[e]at h2;revert h2;decide) a
def UP(S:jy)(w:af)(A:qN)(s:ByteArray)(aO most:Nat)(u:US):Prop:=∃a F fx,
 u.st.dV=false/\Rd w A.tb A.rb s u.st.pos/\u.out.length<=most/\jO w A.gb A.base a aO u.out/\
 w.heap[A.ub]?=some (.cells #[.pointer (some ⟨A.rb,0,none⟩),.pointer (some ⟨A.gb,0,none⟩),.int .i64 ((most-u.out.length:Nat):Int),.bool A.al,S.fv,.pointer fx] 225 (0,0))/\
 (fx=none\/∃b,fx=some ⟨b,0,none⟩/\lM w b gU (List.replicate 32 5))/\S.K w u.out F/\
 (∀k,F k->A.base<=k/\¬A.tb.F k/\k≠A.rb/\k≠A.gb/\k≠A.ub/\a.ownBlock≠some k)/\A.tb.Ok/\iK w/\
 7<=A.base/\S.Ok A.base/\A.base<=A.rb/\A.base<=A.gb/\A.base<=A.ub
def UE(w:af)(A:qN)(s:ByteArray):Prop:=oH w A.tb A.rb s/\∃g l b f x,w.heap[A.ub]?=some (.cells #[.pointer (some ⟨A.rb,0,none⟩),g,l,b,f,x] 225 (0,0))
def Stop(S:jy)(U:US):Prop:=U.st.dV=true\/∃p,S.stop p/\p<+:U.out
theorem Stop.mono{S:jy}{U V:US}(h:Stop S U)(h1:U.st.dV=true->V.st.dV=true)(h2:U.out<+:V.out):Stop S V:=h.imp h1 (fun⟨p,a,b⟩=>⟨p,a,b.trans h2⟩)
def Res(S:jy)(A:qN)(s:ByteArray)(aO most:Nat)(w:af)(U:US)(e:Ending)(w':af):Prop:=
 (U.st.dV=false/\e= .returned .nilIface/\UP S w' A s aO most U/\PE A.base w w')\/
 ((∃T a,e= .returned (.iface T (.pointer (some a)))/\dJ A.tb w' T a (Stop S U))/\UE w' A s/\PE A.base w w')
theorem UP.rd{S:jy}{w w':af}{A:qN}{s:ByteArray}{aO most:Nat}{u:US}(h:UP S w A s aO most u)(p:Nat)(z:Rd w' A.tb A.rb s p)(d:RF A.tb A.rb w w'):UP S w' A s aO most ⟨⟨p,false⟩,u.out⟩/\PE A.base w w':=by
 obtain⟨B,F,fx,h1,h2,C,b,g,D,x,l,y,m,n,f,o,q,r⟩:=h;have hp:PE A.base w w':=d.pe h2;have i:=h2.types b.1 (by decide) (by decide);have j:=h2.types g (by decide) (by decide);refine⟨⟨B,F,fx,rfl,z,C,⟨?_,?_,?_⟩,?_,?_,?_,l,y,?_,n,f,o,q,r⟩,hp⟩
 ·exact(d.block _ (ak b.1) i.1 i.2).trans b.1
 ·have v:A.tb.KE w:=by obtain⟨_,_,_,_,_,_,b,g,_⟩:=h2;exact g.ke b
  obtain⟨c,H,t,_,_,_,I,_,E⟩:=h2;exact fZ b.2.1 (fun k a=>d.block k (b.2.1.lt k a).2 (Tc b.2.1 y v a) (fun e=>iy b.2.1 E (by decide) (e▸a)))
 ·exact aY b.2.2 d.size
 ·exact(d.block _ (ak g) j.1 j.2).trans g
 ·exact D.imp id (fun⟨G,e,h⟩=>⟨G,e,h.pe hp⟩)
 ·exact f.iq x (fun k a=>a.elim (fun a=>d.block k (f.lt x k a) (l k a).2.1 (l k a).2.2.1) (fun a=>hp.low k a)) d.size
 ·exact m.over (hp.low _ (by omega))
theorem UP.ue{S:jy}{w:af}{A:qN}{s:ByteArray}{aO most:Nat}{u:US}(h:UP S w A s aO most u):UE w A s:=by obtain⟨i,F,fx,h1,h2,j,k,a,l,m,n,o,b,c,d,e,f,g⟩:=h;exact⟨h2.zC,_,_,_,_,_,a⟩
theorem UP.zC{S:jy}{w w':af}{A:qN}{s:ByteArray}{aO most:Nat}{u:US}(h:UP S w A s aO most u)(d:oH w' A.tb A.rb s)(c:RF A.tb A.rb w w'):UE w' A s/\PE A.base w w':=by obtain⟨l,F,fx,h1,h2,m,n,b,o,p,q,r,e,f,g,i,j,k⟩:=h;have a:=h2.types b (by decide) (by decide);exact⟨⟨d,_,_,_,_,_,(c.block _ (ak b) a.1 a.2).trans b⟩,c.pe h2⟩
theorem UP.alloc{S:jy}{w:af}{A:qN}{s:ByteArray}{aO most:Nat}{u:US}(h:UP S w A s aO most u)(o:Obj):UP S (w.alloc o) A s aO most u/\PE A.base w (w.alloc o):=by
 have b:Rd w A.tb A.rb s u.st.pos:=by obtain⟨_,_,_,_,h2,_⟩:=h;exact h2
 have h0:u.st.dV=false:=by obtain⟨_,_,_,h1,_⟩:=h;exact h1
 have a:=h.rd u.st.pos (b.alloc o) ((RF.refl _ _ w).alloc o);rw[<-h0]at a;exact a
theorem UP.grow{S:jy}{w w':af}{A:qN}{s:ByteArray}{aO most:Nat}{u:US}(h:UP S w A s aO most u)(hb:aA w.heap.size w w'):UP S w' A s aO most u/\PE A.base w w':=by
 have c:Rd w A.tb A.rb s u.st.pos:=by obtain⟨_,_,_,_,h2,_⟩:=h;exact h2
 have h0:u.st.dV=false:=by obtain⟨_,_,_,h1,_⟩:=h;exact h1
 have b:=h.rd (w':=w') u.st.pos (c.grow (fun k a=>hb.block k a)) ⟨hb.os,hb.tape,hb.output,hb.size,fun k a _ _=>hb.block k a⟩;rw[<-h0]at b;exact b
theorem UE.alloc{w:af}{A:qN}{s:ByteArray}(h:UE w A s)(o:Obj):UE (w.alloc o) A s:=by obtain⟨h1,g,l,b,f,x,h2⟩:=h;exact⟨h1.alloc o,g,l,b,f,x,(alloc_old (ak h2)).trans h2⟩
theorem UE.drewN{w:af}{A:qN}{s:ByteArray}(h:UE w A s)(n:Nat):UE (w.drewN n) A s:=by obtain⟨h1,g,l,b,f,x,h2⟩:=h;exact⟨h1.drewN n,g,l,b,f,x,h2⟩
theorem UP.cells{S:jy}{w:af}{A:qN}{s:ByteArray}{aO most:Nat}{u:US}(h:UP S w A s aO most u):w.cell? ⟨A.ub,0,none⟩=some (.pointer (some ⟨A.rb,0,none⟩))/\w.cell? ⟨A.ub,1,none⟩=some (.pointer (some ⟨A.gb,0,none⟩))/\w.cell? ⟨A.ub,2,none⟩=some (.int .i64 ((most-u.out.length:Nat):Int))/\w.cell? ⟨A.ub,4,none⟩=some S.fv:=by obtain⟨i,F,fx,h1,h2,j,k,a,l,m,n,o,b,c,d,e,f,g⟩:=h;exact⟨by simpa using(cell_of a 0).1,by simpa using(cell_of a 1).1,by simpa using(cell_of a 2).1,by simpa using(cell_of a 4).1⟩
theorem UP.all{S:jy}{w:af}{A:qN}{s:ByteArray}{aO most:Nat}{u:US}(h:UP S w A s aO most u):w.cell? ⟨A.ub,3,none⟩=some (.bool A.al):=by obtain⟨i,F,fx,h1,h2,j,k,a,l,m,n,o,b,c,d,e,f,g⟩:=h;simpa using(cell_of a 3).1
theorem UP.facts{S:jy}{w:af}{A:qN}{s:ByteArray}{aO most:Nat}{u:US}(h:UP S w A s aO most u):u.st.dV=false/\Rd w A.tb A.rb s u.st.pos/\u.out.length<=most:=by obtain⟨i,F,fx,h1,h2,a,j,k,l,m,n,o,b,c,d,e,f,g⟩:=h;exact⟨h1,h2,a⟩
theorem PE.alloc(base:Nat)(w:af)(o:Obj)(h:base<=w.heap.size):PE base w (w.alloc o):=⟨rfl,rfl,rfl,by simp,fun k a=>alloc_old (by omega),fun k cur T f e _=>alloc_old (ak e)⟩
theorem UP.base{S:jy}{w:af}{A:qN}{s:ByteArray}{aO most:Nat}{u:US}(h:UP S w A s aO most u):A.base<=w.heap.size:=by obtain⟨g,F,fx,h1,h2,i,j,k,l,m,n,o,a,b,c,d,e,f⟩:=h;have:=h2.GM;omega
theorem Nz(S:jy)(A:qN)(s:ByteArray)(aO most n:Nat)(u:US)(w:af)(h:UP S w A s aO most u)(hm:most<=16777216)(c:n<=1000000)(hle:u.out.length+n<=most):
 aH prog 148 #[.pointer (some ⟨A.ub,0,none⟩),.int .i64 (n:Int)] w fun e w'=>e= .returned .nilIface/\w'=w:=by
 obtain⟨c0,c1,c2,c3⟩:=h.cells;have b:u.out.length<=most:=h.facts.2.2;clear c0 c1 c3;obtain⟨l,a⟩:∃l,l=most-u.out.length:=⟨_,rfl⟩;rw[<-a]at c2;have d2:n<=l:=by omega
 clear a hle;go_enter func148,ntmps148
 go_wp2_with fail
 go_ret;exact⟨rfl,rfl⟩
theorem Td(S:jy)(A:qN)(s:ByteArray)(aO most n:Nat)(u:US)(w:af)(h:UP S w A s aO most u)(hm:most<=16777216)(d:n<=1000000)(hle:¬u.out.length+n<=most):
 aH prog 148 #[.pointer (some ⟨A.ub,0,none⟩),.int .i64 (n:Int)] w fun e w'=> ∃T a,e= .returned (.iface T (.pointer (some a)))/\iQ w' T a/\UE w' A s/\PE A.base w w':=by
 obtain⟨c0,c1,c2,c3⟩:=h.cells;have c:u.out.length<=most:=h.facts.2.2;clear c0 c1 c3;obtain⟨l,b⟩:∃l,l=most-u.out.length:=⟨_,rfl⟩;rw[<-b]at c2;have d2:l<n:=by omega
 clear b hle;go_enter func148,ntmps148
 go_wp2_with fail
 refine(cZ _ _).mono ?_;rintro e w3 ⟨rfl,rfl⟩;go_wp2_with fail
 go_ret;exact⟨_,_,rfl,iQ.mk _ _,h.ue.alloc _,PE.alloc _ _ _ h.base⟩
theorem NC(S:jy)(A:qN)(s:ByteArray)(aO most n:Nat)(u:US)(w:af)(h:UP S w A s aO most u)(hm:most<=16777216)(c:n<=1000000):
 aH prog 148 #[.pointer (some ⟨A.ub,0,none⟩),.int .i64 (n:Int)] w fun e w'=>
  (u.out.length+n<=most/\e= .returned .nilIface/\w'=w)\/((∃T a,e= .returned (.iface T (.pointer (some a)))/\dJ A.tb w' T a (¬u.out.length+n<=most))/\UE w' A s/\PE A.base w w'):=by
 by_cases hle:u.out.length+n<=most
 ·exact(Nz S A s aO most n u w h hm c hle).mono (fun e w' ⟨a,b⟩=> .inl ⟨hle,a,b⟩)
 ·exact(Td S A s aO most n u w h hm c hle).mono (fun e w' ⟨T,a,h1,h2,d,f⟩=> .inr ⟨⟨T,a,h1,.inl ⟨h2,hle⟩⟩,d,f⟩)
theorem FK(S:jy)(A:qN)(s:ByteArray)(aO most n:Nat)(u:US)(w:af)(h:UP S w A s aO most u)(hm:most<=16777216)(f:n<=1000000):
 aH prog 140 #[.pointer (some ⟨A.ub,0,none⟩),.int .i64 (n:Int)] w fun e w'=>
  ((A.al=true->most<=u.out.length+n)/\e= .returned .nilIface/\w'=w)\/((∃T a,e= .returned (.iface T (.pointer (some a)))/\dJ A.tb w' T a (A.al=true/\u.out.length+n<most))/\UE w' A s/\PE A.base w w'):=by
 obtain⟨c0,c1,c2,c3⟩:=h.cells;have c4:=h.all;have d:u.out.length<=most:=h.facts.2.2;clear c0 c1 c3;obtain⟨l,c⟩:∃l,l=most-u.out.length:=⟨_,rfl⟩;rw[<-c]at c2;cases b:A.al with
 |false=>
  rw[b]at c4;clear c;go_enter func140,ntmps140
  go_wp2_with fail
  go_ret;exact .inl ⟨fun e=>(by cases e),rfl,rfl⟩
 |true=>
  rw[b]at c4;by_cases hle:l<=n
  ·have d1:decide ((n:Int)<(l:Int))=false:=aS (by omega);have H:au (most<=u.out.length+n):=(by omega:_<=_);clear c;go_enter func140,ntmps140
   go_wp2_with fail
   go_ret;exact .inl ⟨fun _=>H.out,rfl,rfl⟩
  ·have d1:decide ((n:Int)<(l:Int))=true:=aZ (by omega);have H:au (u.out.length+n<most):=(by omega:_<_);clear c;go_enter func140,ntmps140
   go_wp2_with fail
   refine(cZ _ _).mono ?_;rintro e w3 ⟨rfl,rfl⟩;go_wp2_with fail
   go_ret;exact .inr ⟨⟨_,_,rfl,dJ.uh ⟨by first|exact trivial|rfl,H.out⟩⟩,h.ue.alloc _,PE.alloc _ _ _ h.base⟩
def qm(A:qN)(most:Nat)(U:US):Prop:=A.al=true/\U.out.length<most
def vP(S:jy)(base:Nat):Prop:=∀(A:qN) (s:ByteArray) (aO most:Nat) (u:US) (x:UInt8) (w:af),A.base=base->UP S w A s aO most u->u.out.length<most->most<=16777216->1<=aO->aO<=32768->
 aH prog 143 #[.pointer (some ⟨A.ub,0,none⟩),.int .u8 ((x.toNat:Nat):Int)] w fun e w'=>
  (e= .returned .nilIface/\UP S w' A s aO most ⟨u.st,u.out++[x]⟩/\PE A.base w w')\/
  ((∃T a,e= .returned (.iface T (.pointer (some a)))/\dJ A.tb w' T a (S.stop (u.out++[x])))/\UE w' A s/\PE A.base w w')
structure FM where
 fv:ay
 fn:FuncId
 args:ay->Array ay
 K:af->List UInt8->(Nat->Prop)->Prop
 stop:List UInt8->Prop
structure FM.Ok(I:FM)(base:Nat):Prop where
 lt:∀{w out F},I.K w out F->∀k,F k->k<w.heap.size
 iq:∀{w w' out F},I.K w out F->(∀k,F k\/k<base->w'.heap[k]?=w.heap[k]?)->w.heap.size<=w'.heap.size->I.K w' out F
 busy:∀{w out F},I.K w out F->∀(k:Nat) (cur:Array ay) (T:aW) (f:Nat×Nat),F k->w.heap[k]?=some (Obj.cells cur T f)->xh T=true
 body:∀args w,(callFunc I.fn args).run prog w= .ok (.enter I.fn args) w
 call:∀(w:af) (out:List UInt8) (F:Nat->Prop) (x:UInt8),I.K w out F->out.length<16777216->(∀k,F k->base<=k)->base<=w.heap.size->
  aH prog I.fn (I.args (.int .u8 ((x.toNat:Nat):Int))) w fun e w'=>
   (e= .returned .nilIface/\∃F',I.K w' (out++[x]) F'/\Fr F w w'/\∀k,F' k->F k\/w.heap.size<=k)\/
   (∃T a,e= .returned (.iface T (.pointer (some a)))/\iQ w' T a/\I.stop (out++[x])/\Fr F w w')
def Ja(I:FM):jy:=⟨I.fv,I.K,I.stop⟩
theorem Yz{I:FM}{base:Nat}(h:I.Ok base):(Ja I).Ok base:=⟨h.lt,h.iq⟩
theorem Fr.pe{w w':af}{base:Nat}{P:Nat->Prop}(h:Fr P w w')(hb:base<=w.heap.size)(h1:∀k,P k->base<=k)(h2:∀k cur T f,P k->w.heap[k]?=some (Obj.cells cur T f)->xh T=true):PE base w w':=
 ⟨h.os,h.tape,h.output,h.size,fun k b=>h.block k (by omega) (fun hp=>by have:=h1 k hp;omega),fun k cur T f e a=>h.block k (ak e) (fun hp=>by rw[h2 k cur T f hp e]at a;cases a)⟩
theorem YA{w:af}{base:Nat}{v:ay}{n:Nat}{xs:List ay}(h:w.ownsRow base 5 1 v n xs){k:Nat}{cur:Array ay}{T:aW}{f:Nat×Nat}(b:v.ownBlock=some k)(e:w.heap[k]?=some (Obj.cells cur T f)):xh T=true:=by
 by_cases a:T=5
 ·subst a;decide
 ·exact absurd b (iy h e a)
def Mid(S:jy)(w:af)(A:qN)(s:ByteArray)(aO most:Nat)(u:US)(x:UInt8):Prop:=∃a F fx,
 u.st.dV=false/\Rd w A.tb A.rb s u.st.pos/\u.out.length+1<=most/\jO w A.gb A.base a aO (u.out++[x])/\
 w.heap[A.ub]?=some (.cells #[.pointer (some ⟨A.rb,0,none⟩),.pointer (some ⟨A.gb,0,none⟩),.int .i64 ((most-(u.out.length+1):Nat):Int),.bool A.al,S.fv,.pointer fx] 225 (0,0))/\
 (fx=none\/∃b,fx=some ⟨b,0,none⟩/\lM w b gU (List.replicate 32 5))/\S.K w u.out F/\
 (∀k,F k->A.base<=k/\¬A.tb.F k/\k≠A.rb/\k≠A.gb/\k≠A.ub/\a.ownBlock≠some k)/\A.tb.Ok/\iK w/\
 7<=A.base/\S.Ok A.base/\A.base<=A.rb/\A.base<=A.gb/\A.base<=A.ub
theorem Mid.mk{S:jy}{w w2:af}{A:qN}{s:ByteArray}{aO most:Nat}{u:US}{x:UInt8}{j m:ay}{F:Nat->Prop}{fx:Option bG}{l:Nat}
 (h1:u.st.dV=false) (h2:Rd w A.tb A.rb s u.st.pos) (g:jO w A.gb A.base j aO u.out)
 (n:w.heap[A.ub]?=some (.cells #[.pointer (some ⟨A.rb,0,none⟩),.pointer (some ⟨A.gb,0,none⟩),.int .i64 (l:Int),.bool A.al,S.fv,.pointer fx] 225 (0,0)))
 (V:fx=none\/∃z,fx=some ⟨z,0,none⟩/\lM w z gU (List.replicate 32 5)) (B:S.K w u.out F)
 (P:∀k,F k->A.base<=k/\¬A.tb.F k/\k≠A.rb/\k≠A.gb/\k≠A.ub/\j.ownBlock≠some k) (C:A.tb.Ok) (D:iK w) (E:7<=A.base) (h:S.Ok A.base) (G:A.base<=A.rb) (p:A.base<=A.gb) (H:A.base<=A.ub)
 (hl:l=most-u.out.length) (I:u.out.length<most)
 (W:jO w2 A.gb A.base m aO (u.out++[x])) (J:Fr (fun k=>k=A.gb\/j.ownBlock=some k) (w.setCell ⟨A.ub,2,none⟩ (.int .i64 ((l:Int)-1))) w2)
 (X:∀k,m.ownBlock=some k->j.ownBlock=some k\/(w.setCell ⟨A.ub,2,none⟩ (.int .i64 ((l:Int)-1))).heap.size<=k):Mid S w2 A s aO most u x/\PE A.base w w2:=by
 have hb:A.base<=w.heap.size:=by have:=h2.GM;omega
 have L:A.tb.KE w:=by obtain⟨_,_,_,_,_,_,g,n,_⟩:=h2;exact n.ke g
 have Q:(w.setCell ⟨A.ub,2,none⟩ (.int .i64 ((l:Int)-1))).heap[A.ub]?=some (.cells #[.pointer (some ⟨A.rb,0,none⟩),.pointer (some ⟨A.gb,0,none⟩),.int .i64 ((l:Int)-1),.bool A.al,S.fv,.pointer fx] 225 (0,0)):=(bF n 2 _).trans (by simp);have q:A.gb≠A.ub:=fM g.1 n (by decide);have i:j.ownBlock≠some A.ub:=iy g.2.1 n (by decide);have Y:PE A.base w (w.setCell ⟨A.ub,2,none⟩ (.int .i64 ((l:Int)-1))):=⟨rfl,rfl,rfl,by simp,fun k a=>aC 2 _ (by omega),fun k cur T f e R=>aC 2 _ (fun M=>by rw[M,n]at e;simp at e;rw[<-e.2.1]at R;revert R;decide)⟩;have U:∀k,k≠A.ub->(w.setCell ⟨A.ub,2,none⟩ (.int .i64 ((l:Int)-1))).heap[k]?=w.heap[k]?:=fun k a=>aC 2 _ a;have gZ:(w.setCell ⟨A.ub,2,none⟩ (.int .i64 ((l:Int)-1))).heap.size=w.heap.size:=by simp
 generalize (w.setCell ⟨A.ub,2,none⟩ (.int .i64 ((l:Int)-1)))=w1 at*;have Z:w2.heap[A.ub]?=_:=(J.block A.ub (ak Q) (fun e=>e.elim (fun e=>q e.symm) (fun e=>i e))).trans Q;have kP:PE A.base w1 w2:=J.pe (by omega) (fun k a=>by
  rcases a with rfl|a
  ·exact p
  ·exact(g.2.1.lt k a).1) (fun k cur T f a e=>by
  have N:k≠A.ub:=by
   rcases a with rfl|a
   ·exact q
   ·exact fun e=>i (e▸a)
  rw[U k N]at e;rcases a with rfl|a
  ·rw[g.1]at e;simp at e;rw[<-e.2.1];decide
  ·exact YA g.2.1 a e)
 have d:PE A.base w w2:=Y.trans kP;have b:∀k,k<w.heap.size->k≠A.ub->k≠A.gb->j.ownBlock≠some k->w2.heap[k]?=w.heap[k]?:=fun k a a1 a2 a3=>(J.block k (by omega) (fun e=>e.elim a2 a3)).trans (U k a1)
 have r:=h2.types g.1 (by decide) (by decide);have v:=h2.types n (by decide) (by decide);have y:=h2.GM;have O:j.ownBlock≠some A.rb:=by obtain⟨c,hc,t,_,_,_,_,_,q5⟩:=h2;exact iy g.2.1 q5 (by decide)
 refine⟨⟨m,F,fx,h1,h2.over (fun k a=> ?_) ?_,I,W,?_,V.imp id (fun⟨z,e,ht⟩=>⟨z,e,ht.pe d⟩),h.iq B (fun k a=> ?_) d.size,?_,C,D.over (d.low _ (by omega)),E,h,G,p,H⟩,d⟩
 ·rcases a with a|a
  ·exact b k (y.1 k (.inl a)) (fun e=>v.1 (e▸a)) (fun e=>r.1 (e▸a)) (fun e=>Tc g.2.1 C L e a)
  ·exact d.low k a
 ·exact b A.rb y.2.1 (rG v.2) (rG r.2) O
 ·rw[Z];have:(l:Int)-1=((most-(u.out.length+1):Nat):Int):=by omega
  rw[this]
 ·rcases a with a|a
  ·have:=P k a;exact b k (h.lt B k a) this.2.2.2.2.1 this.2.2.2.1 this.2.2.2.2.2
  ·exact d.low k a
 ·intro k a;have o:=P k a;refine⟨o.1,o.2.1,o.2.2.1,o.2.2.2.1,o.2.2.2.2.1,fun M=> ?_⟩;have C:=h.lt B k a;rcases X k M with e3|e3
  ·exact o.2.2.2.2.2 e3
  ·omega
theorem Mid.fin{S:jy}{w w':af}{A:qN}{s:ByteArray}{aO most:Nat}{u:US}{x:UInt8}{l:ay}{F F':Nat->Prop}{fx:Option bG}
 (h1:u.st.dV=false) (h2:Rd w A.tb A.rb s u.st.pos) (C:u.out.length+1<=most) (c:jO w A.gb A.base l aO (u.out++[x]))
 (m:w.heap[A.ub]?=some (.cells #[.pointer (some ⟨A.rb,0,none⟩),.pointer (some ⟨A.gb,0,none⟩),.int .i64 ((most-(u.out.length+1):Nat):Int),.bool A.al,S.fv,.pointer fx] 225 (0,0)))
 (D:fx=none\/∃j,fx=some ⟨j,0,none⟩/\lM w j gU (List.replicate 32 5)) (I:S.K w u.out F)
 (d:∀k,F k->A.base<=k/\¬A.tb.F k/\k≠A.rb/\k≠A.gb/\k≠A.ub/\l.ownBlock≠some k) (E:A.tb.Ok) (n:iK w) (o:7<=A.base) (p:S.Ok A.base) (q:A.base<=A.rb) (r:A.base<=A.gb) (t:A.base<=A.ub)
 (v:∀(k:Nat) (cur:Array ay) (T:aW) (f:Nat×Nat),F k->w.heap[k]?=some (Obj.cells cur T f)->xh T=true) (g:Fr F w w'):
 UE w' A s/\PE A.base w w'/\(S.K w' (u.out++[x]) F'->(∀k,F' k->F k\/w.heap.size<=k)->UP S w' A s aO most ⟨u.st,u.out++[x]⟩):=by
 have h:=h2.GM;have hb:A.base<=w.heap.size:=by omega
 have b:PE A.base w w':=g.pe hb (fun k a=>(d k a).1) v;have i:Rd w' A.tb A.rb s u.st.pos:=h2.over (fun k a=>by
  rcases a with a|a
  ·exact g.block k (h.1 k (.inl a)) (fun e=>(d k e).2.1 a)
  ·exact b.low k a) (g.block _ h.2.1 (fun e=>(d _ e).2.2.1 rfl))
 have B:w'.heap[A.ub]?=_:=(g.block A.ub (ak m) (fun e=>(d _ e).2.2.2.2.1 rfl)).trans m;refine⟨⟨i.zC,_,_,_,_,_,B⟩,b,fun hK y=> ?_⟩;refine⟨l,F',fx,h1,i,by simpa using C,⟨(g.block A.gb (ak c.1) (fun e=>(d _ e).2.2.2.1 rfl)).trans c.1,fZ c.2.1 (fun k a=>g.block k (c.2.1.lt k a).2 (fun e=>(d k e).2.2.2.2.2 a)),aY c.2.2 g.size⟩,?_,D.imp id (fun⟨j,e,G⟩=>⟨j,e,G.pe b⟩),hK,?_,E,n.over (b.low _ (by omega)),o,p,q,r,t⟩
 ·rw[B];simp
 ·intro k a;rcases y k a with e|e
  ·exact d k e
  ·have z:=h2.new e;have:=ak c.1;have:=ak m;exact⟨z.1,z.2.1,z.2.2,by omega,by omega,fun H=>by have:=(c.2.1.lt k H).2;omega⟩
def mI(a:Nat)(fn:FuncId)(K:af->List UInt8->(Nat->Prop)->Prop)(stop:List UInt8->Prop):FM:=
 ⟨.func (.func fn) #[.pointer (some ⟨a,0,none⟩)] #[],fn,fun x=> #[.pointer (some ⟨a,0,none⟩),x],K,stop⟩
end Pr
namespace Pr
open Go.RowKit Rf
theorem Ht(S:jy)(A:qN)(s:ByteArray)(aO most:Nat)(u:US)(x:UInt8)(w:af)(j:vP S A.base)(h:UP S w A s aO most u)(hm:most<=16777216)(b:1<=aO)(c:aO<=32768):
 aH prog 153 #[.pointer (some ⟨A.ub,0,none⟩),.int .u8 ((x.toNat:Nat):Int)] w fun e w'=>Res S A s aO most w (uO most x u) e w':=by
 have h1:u.st.dV=false:=h.facts.1;go_enter func153,ntmps153
 go_wp2_with fail
 refine(NC S A s aO most 1 u _ h hm (by omega)).mono ?_;rintro e w1 (⟨d,rfl,rfl⟩|⟨⟨T,a,rfl,d⟩,k,l⟩)
 ·go_wp2_with fail
  refine(j A s aO most u x _ rfl h (by omega) hm b c).mono ?_;rintro e w2 (⟨rfl,f,g⟩|⟨⟨T,a,rfl,m⟩,f,g⟩)
  ·go_wp2_with fail
   go_ret;refine .inl ⟨?_,rfl,?_,g⟩
   ·rw[rM most x u (by omega) h1];exact h1
   ·rw[rM most x u (by omega) h1];exact f
  ·go_wp2_with fail
   go_ret;refine .inr ⟨⟨T,a,rfl,m.imp (fun i=> .inr ⟨_,i,?_⟩)⟩,f,g⟩;rw[rM most x u (by omega) h1];exact dO _
 ·go_wp2_with fail
  go_ret;exact .inr ⟨⟨T,a,rfl,d.imp (fun d=> .inl (by rw[rY most x u (by omega)]))⟩,k,l⟩
theorem QJ(S:jy)(A:qN)(s:ByteArray)(aO most:Nat)(u:US)(x:UInt8)(a:Int)(d:a=((x.toNat:Nat):Int))(w:af)(f:vP S A.base)(h:UP S w A s aO most u)(hm:most<=16777216)(b:1<=aO)(c:aO<=32768):
 aH prog 153 #[.pointer (some ⟨A.ub,0,none⟩),.int .u8 a] w fun e w'=>Res S A s aO most w (uO most x u) e w':=by
 subst d;exact Ht S A s aO most u x w f h hm b c
theorem UP.ring{S:jy}{w:af}{A:qN}{s:ByteArray}{aO most:Nat}{u:US}(h:UP S w A s aO most u):∃a,jO w A.gb A.base a aO u.out:=by obtain⟨a,F,fx,h1,h2,c,b,_⟩:=h;exact⟨a,b⟩
theorem Vu(S:jy)(A:qN)(s:ByteArray)(aO most n:Nat)(u:US)(w:af)(h:UP S w A s aO most u)(b:1<=aO)(c:aO<=32768)(d:1<=n)(a:n<=aO/\n<=u.out.length):
 aH prog 163 #[.pointer (some ⟨A.ub,0,none⟩),.int .i64 (n:Int)] w fun e w'=>e= .returned .nilIface/\w'=w:=by
 obtain⟨c0,c1,c2,c3⟩:=h.cells;obtain⟨f,g⟩:=h.ring;have H:au _:=a;clear a;go_enter func163,ntmps163
 go_wp2_with fail
 refine(I_ A.gb A.base f aO n u.out _ g b c d (by have:=H.out;omega)).mono ?_;rintro e w1 ⟨rfl,rfl⟩;go_wp2_with fail
 go_ret;exact⟨rfl,rfl⟩
theorem YT(S:jy)(A:qN)(s:ByteArray)(aO most n:Nat)(u:US)(w:af)(h:UP S w A s aO most u)(c:1<=aO)(d:aO<=32768)(f:1<=n)(i:n<=1000000)(b:¬(n<=aO/\n<=u.out.length)):
 aH prog 163 #[.pointer (some ⟨A.ub,0,none⟩),.int .i64 (n:Int)] w fun e w'=> ∃T a,e= .returned (.iface T (.pointer (some a)))/\iQ w' T a/\UE w' A s/\PE A.base w w':=by
 obtain⟨c0,c1,c2,c3⟩:=h.cells;obtain⟨j,k⟩:=h.ring;have H:au _:=b;clear b;go_enter func163,ntmps163
 go_wp2_with fail
 have l:aO<n\/u.out.length<n:=by
  rcases bW aO n with h|h
  ·exact .inl h
  ·rcases bW u.out.length n with g|g
   ·exact .inr g
   ·exact absurd ⟨h,g⟩ H.out
 refine(Vh A.gb A.base j aO n u.out _ k c d f i (by omega)).mono ?_;rintro e w1 ⟨rfl,rfl⟩;go_wp2_with fail
 refine(cZ _ _).mono ?_;rintro e w3 ⟨rfl,rfl⟩;go_wp2_with fail
 go_ret;exact⟨_,_,rfl,iQ.mk _ _,h.ue.alloc _,PE.alloc _ _ _ h.base⟩
structure QK(S:jy)(A:qN)(s:ByteArray)(aO most:Nat)(fn:FuncId)(P:Nat->List UInt8->Prop):Prop where
 body:∀args w,(callFunc fn args).run prog w= .ok (.enter fn args) w
 yes:∀(n:Nat) (u:US) (w:af),UP S w A s aO most u->1<=n->n<=1000000->P n u.out->aH prog fn #[.pointer (some ⟨A.ub,0,none⟩),.int .i64 (n:Int)] w fun e w'=>e= .returned .nilIface/\w'=w
 no:∀(n:Nat) (u:US) (w:af),UP S w A s aO most u->1<=n->n<=1000000->¬P n u.out->aH prog fn #[.pointer (some ⟨A.ub,0,none⟩),.int .i64 (n:Int)] w fun e w'=> ∃T a,e= .returned (.iface T (.pointer (some a)))/\iQ w' T a/\UE w' A s/\PE A.base w w'
 mono:∀n m out,n<=m->P m out->P n out
theorem Vw(S:jy)(A:qN)(s:ByteArray)(aO most:Nat)(hm:most<=16777216):QK S A s aO most 148 (fun n out=>out.length+n<=most) where
 body:=fun args w=>pq func148 (by kernel_rfl) (by kernel_rfl) args w
 yes:=fun n u w h _ a hp=>Nz S A s aO most n u w h hm a hp
 no:=fun n u w h _ a hp=>Td S A s aO most n u w h hm a hp
 mono:=fun n m out h1 h2=>by omega
theorem QL(S:jy)(A:qN)(s:ByteArray)(aO most:Nat)(a:1<=aO)(b:aO<=32768):QK S A s aO most 163 (fun n out=>n<=aO/\n<=out.length) where
 body:=fun args w=>pq func163 (by kernel_rfl) (by kernel_rfl) args w
 yes:=fun n u w h h1 _ hp=>Vu S A s aO most n u w h a b h1 hp
 no:=fun n u w h h1 c hp=>YT S A s aO most n u w h a b h1 c hp
 mono:=fun n m out h1 h2=>by omega
def qJ(w:af)(b:Nat)(m:Nat×Nat×Nat):Prop:=w.heap[b]?=some (.cells #[.int .u8 (m.1:Int),.int .i64 (m.2.1:Int),.int .u64 (m.2.2:Int)] 251 (0,0))
theorem qJ.c{w:af}{b:Nat}{m:Nat×Nat×Nat}(h:qJ w b m):w.cell? ⟨b,0,none⟩=some (.int .u8 (m.1:Int))/\w.cell? ⟨b,1,none⟩=some (.int .i64 (m.2.1:Int))/\w.cell? ⟨b,2,none⟩=some (.int .u64 (m.2.2:Int)):=
 ⟨by simpa using(cell_of h 0).1,by simpa using(cell_of h 1).1,by simpa using(cell_of h 2).1⟩
theorem qJ.rf{w w':af}{b:Nat}{tb:Src}{rb:Nat}{m:Nat×Nat×Nat}{s:ByteArray}{pos:Nat}(h:qJ w b m)(c:Rd w tb rb s pos)(d:RF tb rb w w'):qJ w' b m:=by have a:=c.types h (by decide) (by decide);exact(d.block b (ak h) a.1 a.2).trans h
theorem qJ.pe{w w':af}{b base:Nat}{m:Nat×Nat×Nat}(h:qJ w b m)(hp:PE base w w'):qJ w' b m:=(hp.other b _ _ _ h (by decide)).trans h
theorem RF.KG{tb:Src}{rb:Nat}{w w':af}(h:RF tb rb w.drew w'):RF tb rb w w':=⟨h.os,h.tape,h.output,h.size,h.block⟩
theorem Xi.KG{tb:Src}{rb:Nat}{s:ByteArray}{pos n:Nat}{w:af}{x:Int}{v:ay}{w':af}(h:Xi tb rb s pos n w.drew x v w'):Xi tb rb s pos n w x v w':=
 Or.imp (fun⟨a,b,c,d,e⟩=>⟨a,b,c,d,e.KG⟩) (fun⟨a,b,c,d⟩=>⟨a,b,c,d.KG⟩) h
theorem wrap_add(a b:Nat)(h:a+b<9223372036854775808):IntKind.i64.wrap ((a:Int)+(b:Int))=((a+b:Nat):Int):=by rw[eY];omega
theorem FY(S:jy)(A:qN)(s:ByteArray)(aO most:Nat)(u:US)(m:Nat×Nat×Nat)(fn:FuncId)(P:Nat->List UInt8->Prop)(w:af)(h:UP S w A s aO most u)(hF:QK S A s aO most fn P)(hs:s.size<=140737488354000)(I:m.2.2<=16)(hl:m.2.1<=900000)(z:1<=m.2.1):
 aH prog 162 #[.pointer (some ⟨A.ub,0,none⟩),.agg #[.int .u8 (m.1:Int),.int .i64 (m.2.1:Int),.int .u64 (m.2.2:Int)],.func (.func fn) #[.pointer (some ⟨A.ub,0,none⟩)] #[]] w fun e w'=>
  ((bZ s m.2.2 u.st).2.dV=false/\u.st.pos+m.2.2<=8*s.size/\P (m.2.1+bC s u.st.pos m.2.2) u.out/\e= .returned (.tuple #[.int .i64 ((m.2.1+bC s u.st.pos m.2.2:Nat):Int),.nilIface])/\UP S w' A s aO most ⟨⟨u.st.pos+m.2.2,false⟩,u.out⟩/\PE A.base w w'/\RF A.tb A.rb w w')\/
  ((∃n T a,e= .returned (.tuple #[.int .i64 n,.iface T (.pointer (some a))])/\dJ A.tb w' T a ((bZ s m.2.2 u.st).2.dV=true\/¬P (m.2.1+bC s u.st.pos m.2.2) u.out))/\UE w' A s/\PE A.base w w'):=by
 obtain⟨k,l,x⟩:=m;dsimp only at I hl z|-;have t:=h.facts.1;obtain⟨⟨pos,dV⟩,out⟩:=u;dsimp only at t|-;subst t;have hA:=h.alloc (.cells #[.int .u8 (k:Int),.int .i64 (l:Int),.int .u64 (x:Int)] 251);have E:RF A.tb A.rb w (w.alloc (.cells #[.int .u8 (k:Int),.int .i64 (l:Int),.int .u64 (x:Int)] 251)):=(RF.refl _ _ w).alloc _;have G:qJ (w.alloc (.cells #[.int .u8 (k:Int),.int .i64 (l:Int),.int .u64 (x:Int)] 251)) w.heap.size (k,l,x):=jE w _ _ rfl;obtain⟨d,p⟩:=hA;have a0:∀args w,(callFunc fn args).run prog w= .ok (.enter fn args) w:=hF.body;go_enter func162,ntmps162
 go_wp2_with fail
 generalize (w.alloc (.cells #[.int .u8 (k:Int),.int .i64 (l:Int),.int .u64 (x:Int)] 251))=w0 at*;obtain⟨c0,c1,c2,c3⟩:=d.cells;obtain⟨J,K,L⟩:=G.c;obtain⟨f1,F,f3⟩:=d.facts;dsimp only at F;have X:bC s pos x<65536:=aN (fJ s pos x) (show 2^x<=2^16 from bT (by omega) I);by_cases g:P l out;rotate_left
 ·have j:=hF.no l ⟨⟨pos,false⟩,out⟩ w0 d z (by omega) g;have HN:au (¬P (l+bC s pos x) out):=(fun hp=>g (hF.mono l _ out (by omega) hp):¬_);clear g;go_wp2_with fail
  refine j.mono ?_;rintro e w1 ⟨T,a,rfl,M,N,H⟩;clear j c0 c1 c2 c3 J K L;go_wp2_with fail
  go_ret2;exact .inr ⟨⟨_,T,a,rfl,.inl ⟨M,.inr HN.out⟩⟩,N,p.trans H⟩
 have j:=hF.yes l ⟨⟨pos,false⟩,out⟩ w0 d z (by omega) g;clear g;go_wp2_with fail
 refine j.mono ?_;rintro e w1 ⟨rfl,B⟩;have B:=B.symm;subst B;clear j;go_upto_region 4 with fail
 go_cut [9,10] (fun v6 v7 wx=> ∃(i:Int) (v:ay),v6= .int .i64 i/\v7=v/\Xi A.tb A.rb s pos x w0 i v wx)
 case first=>
  go_region_with ((go_at_call 128;refine(PI A.tb A.rb s pos x _ (by exact F.drew) hs I).mono ?_;rintro e w3 ⟨i,v,rfl,D⟩))
  all_goals
   go_wp2_with fail
   go_meet
   case rel=>exact⟨i,v,rfl,rfl,D.KG⟩
 case rest=>
  obtain⟨i,v,rfl,rfl,hN⟩:=hcut;rcases hN with⟨y,rfl,rfl,D,C⟩|⟨rfl,⟨T,a,rfl,Y⟩,D,C⟩
  ·have Z:au (pos+x<=8*s.size):=y;clear y;obtain⟨O,Q,R⟩:=(G.rf F C).c;have b:=d.rd (pos+x) D C;clear c0 c1 c2 c3 J K L;have q:=(b.1.rd (pos+x) D.drew ((RF.refl _ _ wc).drew)).1;dsimp only at q;have U:au ((bZ s x ⟨pos,false⟩).2.dV=false):=(by rw[gV s x pos Z.out]:_=_);by_cases f:P (l+bC s pos x) out
   ·have j:=hF.yes (l+bC s pos x) _ _ q (by omega) (by omega) f;have V:au _:=f;clear f;generalize o:bC s pos x=bv at*;have r:au _:=o;clear o;rw[<-wrap_add l bv (by omega)]at j;go_wp2_with fail
    go_region_with ((refine j.mono ?_;rintro e w3 ⟨rfl,rfl⟩))
    all_goals
     go_wp2_with fail
     go_ret2;exact .inl ⟨U.out,Z.out,by rw[r.out];exact V.out,uP (by rw[r.out,<-wrap_add l bv (by omega)]),q,p.trans (b.2.trans (PE.drewN _ _ 1)),E.trans C.drew⟩
   ·have j:=hF.no (l+bC s pos x) _ _ q (by omega) (by omega) f;have V:au _:=f;clear f;generalize o:bC s pos x=bv at*;have r:au _:=o;clear o;rw[<-wrap_add l bv (by omega)]at j;go_wp2_with fail
    have W:qJ wc.drew w.heap.size (k,l,x):=G.rf F C.drew;go_region_with ((refine j.mono ?_;rintro e w3 ⟨T,a,rfl,M,N,H⟩;have a1:=(W.pe H).c.2.1))
    all_goals
     go_wp2_with fail
     go_ret2;exact .inr ⟨⟨_,T,a,rfl,.inl ⟨M,.inr (by rw[r.out];exact V.out)⟩⟩,N,p.trans (b.2.trans ((PE.drewN _ _ 1).trans H))⟩
  ·obtain⟨O,Q,R⟩:=(G.rf F C).c;have b:=d.zC D C;have HW:dJ A.tb wc T a ((bZ s x ⟨pos,false⟩).2.dV=true\/¬P (l+bC s pos x) out):=Y.imp .inl;clear c0 c1 c2 c3 J K L Y;go_wp2_with fail
   go_ret2;exact .inr ⟨⟨_,T,a,rfl,HW⟩,b.1,p.trans b.2⟩
def qo(tb:Src)(rb:Nat)(s:ByteArray)(cs:List (Nat×List UInt8))(pos:Nat)(b:Nat->Nat×Nat×Nat)(w:af)(m:Nat×Nat×Nat)(v:ay)(w':af):Prop:=
 (∃y p,dX s cs ⟨pos,false⟩=(y,⟨p,false⟩)/\m=b y/\v= .nilIface/\Rd w' tb rb s p/\RF tb rb w w')\/
 (m=(0,0,0)/\(∃T a,v= .iface T (.pointer (some a))/\dJ tb w' T a ((dX s cs ⟨pos,false⟩).2.dV=true))/\oH w' tb rb s/\RF tb rb w w')
theorem qo.rf{tb:Src}{rb:Nat}{s:ByteArray}{cs:List (Nat×List UInt8)}{pos:Nat}{a:Nat->Nat×Nat×Nat}{w w':af}{m:Nat×Nat×Nat}{v:ay}(h:qo tb rb s cs pos a w m v w'):RF tb rb w w':=by
 rcases h with⟨y,p,_,_,_,_,h⟩|⟨_,_,_,h⟩
 ·exact h
 ·exact h
theorem qo.from{tb:Src}{rb:Nat}{s:ByteArray}{cs:List (Nat×List UInt8)}{pos:Nat}{a:Nat->Nat×Nat×Nat}{w0 w w':af}{m:Nat×Nat×Nat}{v:ay}(h0:RF tb rb w0 w)(h:qo tb rb s cs pos a w m v w'):qo tb rb s cs pos a w0 m v w':=by
 rcases h with⟨y,p,h1,h2,b,c,d⟩|⟨h1,h2,b,c⟩
 ·exact .inl ⟨y,p,h1,h2,b,c,h0.trans d⟩
 ·exact .inr ⟨h1,h2,b,h0.trans c⟩
theorem qo.alloc{tb:Src}{rb:Nat}{s:ByteArray}{cs:List (Nat×List UInt8)}{pos:Nat}{b:Nat->Nat×Nat×Nat}{w w':af}{m:Nat×Nat×Nat}{v:ay}(h:qo tb rb s cs pos b w m v w')(o:Obj):qo tb rb s cs pos b w m v (w'.alloc o):=by
 rcases h with⟨y,p,h1,h2,c,d,f⟩|⟨h1,⟨T,a,h2,e⟩,c,d⟩
 ·exact .inl ⟨y,p,h1,h2,c,d.alloc o,f.alloc o⟩
 ·exact .inr ⟨h1,⟨T,a,h2,e.alloc o⟩,c.alloc o,d.alloc o⟩
theorem qo.set{tb:Src}{rb:Nat}{s:ByteArray}{cs:List (Nat×List UInt8)}{pos:Nat}{c:Nat->Nat×Nat×Nat}{w w':af}{m:Nat×Nat×Nat}{v:ay}(h:qo tb rb s cs pos c w m v w'){b:Nat}(hb:w.heap.size<=b)(h0:tb.base<=b)(h1:¬tb.F b)(h2:b≠rb)
 {cur:Array ay} {l:aW} {f:Nat×Nat} (e:w'.heap[b]?=some (.cells cur l f)) (n:l≠112) (o:Nat) (x:ay):qo tb rb s cs pos c w m v (w'.setCell ⟨b,o,none⟩ x):=by
 rcases h with⟨y,p,d,g,i,j,q⟩|⟨d,⟨T,a,g,k⟩,i,j⟩
 ·exact .inl ⟨y,p,d,g,i,j.dY b o x h0 h1 h2,q.dY b o hb x⟩
 ·exact .inr ⟨d,⟨T,a,g,k.set e n o x⟩,i.dY b o x h0 h1 h2,j.dY b o hb x⟩
theorem yR(k:Nat)(tb:Src)(rb:Nat)(L:List Nat)(s:ByteArray)(pos:Nat)(w:af)(b:Nat->Nat×Nat×Nat)(h:um w k b L)(g:Rd w tb rb s pos)(i:s.size<=140737488354000)(j:L.length<=400)(l:∀x∈L,x<=15)(hK:kN L 16<=32768):
 aH prog 152 #[.pointer (some ⟨k,0,none⟩),.pointer (some ⟨rb,0,none⟩)] w fun e w'=> ∃(m:Nat×Nat×Nat) (v:ay),e= .returned (.tuple #[.agg #[.int .u8 (m.1:Int),.int .i64 (m.2.1:Int),.int .u64 (m.2.2:Int)],v])/\qo tb rb s (bK L).cs pos b w m v w':=by
 refine(UI k tb rb L s pos w b h g i j l hK).mono ?_;rintro e w' (⟨y,p,c,rfl,d,f⟩|⟨⟨T,a,rfl,c⟩,d,f⟩)
 ·exact⟨b y,_,rfl,.inl ⟨y,p,c,rfl,rfl,d,f⟩⟩
 ·exact⟨(0,0,0),_,rfl,.inr ⟨rfl,⟨T,a,rfl,c⟩,d,f⟩⟩
structure Fit(L:List Nat):Prop where
 len:L.length<=400
 le:∀x∈L,x<=15
 zn:kN L 16<=32768
 some:0<L.length
theorem Jg{tb:Src}{rb b:Nat}{W w3:af}(g:RF tb rb W w3)(a:W.heap[b]?=some (.cells #[.int .u8 0,.int .i64 0,.int .u64 0] 251 (0,0)))(h1:¬tb.F b)(h2:b≠rb):
 w3.heap[b]?=some (.cells #[.int .u8 0,.int .i64 0,.int .u64 0] 251 (0,0))/\w3.cell? ⟨b,0,none⟩=some (.int .u8 0)/\w3.cell? ⟨b,1,none⟩=some (.int .i64 0)/\w3.cell? ⟨b,2,none⟩=some (.int .u64 0)/\w3.frozen? ⟨b,0,none⟩=false/\w3.frozen? ⟨b,1,none⟩=false/\w3.frozen? ⟨b,2,none⟩=false:=by
 have h:=(g.block b (ak a) h1 h2).trans a;exact⟨h,by simpa using(cell_of h 0).1,by simpa using(cell_of h 1).1,by simpa using(cell_of h 2).1,(cell_of h 0).2,(cell_of h 1).2,(cell_of h 2).2⟩
theorem Vx(S:jy)(A:qN)(s:ByteArray)(aO most kt y:Nat)(LA z:List Nat)(u:US)(w:af)(hP:vP S A.base)(h:UP S w A s aO most u)(hT:lM w kt LA z)(hB:Fit z)(hs:s.size<=140737488354000)(hm:most<=16777216)(R:1<=aO)(U:aO<=32768)(B:257<=y)(C:y<=285):
 aH prog 154 #[.pointer (some ⟨A.ub,0,none⟩),.agg #[.int .u8 ((iV y).1:Int),.int .i64 ((iV y).2.1:Int),.int .u64 ((iV y).2.2:Int)],.pointer (some ⟨kt,0,none⟩)] w fun e w'=>Res S A s aO most w (jH s aO most (bK z).cs y u) e w':=by
 have g:=h.facts.1;obtain⟨⟨pos,dV⟩,out⟩:=u;dsimp only at g;subst g;have O:=ML y B C;have e1:=RY y B C;obtain⟨V,K⟩:=h.alloc (II (iV y));have W:=hT.xu (w':=w.alloc (II (iV y))) (fun b hb=>alloc_old hb);have hM:qJ (w.alloc (II (iV y))) w.heap.size (iV y):=jE w _ _ rfl;have hlen:(iV y).2=jq y:=by rw[O]
 have P:(iV y).2.2<=16:=by rw[hlen];omega
 have a8:(iV y).2.1<=900000:=by rw[hlen];omega
 have HL:au ((iV y).2=jq y):=hlen;have d4:1<=(iV y).2.1:=by rw[hlen];have:=Ti y B C;omega
 have a9:(w.alloc (II (iV y)))=w.alloc (.cells #[.int .u8 ((iV y).1:Int),.int .i64 ((iV y).2.1:Int),.int .u64 ((iV y).2.2:Int)] 251):=rfl;rw[a9]at V K W hM;clear O hlen a9;generalize iV y=lm at*;go_enter func154,ntmps154
 go_wp2_with fail
 generalize (w.alloc (.cells #[.int .u8 (lm.1:Int),.int .i64 (lm.2.1:Int),.int .u64 (lm.2.2:Int)] 251))=w0 at*;refine(FY S A s aO most ⟨⟨pos,false⟩,out⟩ lm _ _ _ V (Vw S A s aO most hm) hs P a8 d4).mono ?_;rintro e w1 (⟨D,a2,k1,rfl,L,a4,a5⟩|⟨⟨n,T,a,rfl,D⟩,a2,L⟩);rotate_left
 ·have X:dJ A.tb w1 T a (Stop S (jH s aO most (bK z).cs y ⟨⟨pos,false⟩,out⟩)):=D.imp (fun D=> .inl (by
   by_cases hb:(bZ s (jq y).2 ⟨pos,false⟩).2.dV=true
   ·exact Vr hb
   ·have Y:pos+(jq y).2<=8*s.size:=Nat.le_of_not_lt (fun hc=>hb (sQ s _ pos h.facts.2.1.zS (by omega)));rcases D with D|D
    ·exact absurd (by rw[<-HL.out];exact D) hb
    ·refine QI (u:=⟨⟨pos,false⟩,out⟩) h.facts.2.2 ?_;have N:=gV s (jq y).2 pos Y;rw[N];rw[HL.out]at D;exact D))
  clear D;go_wp2_with fail
  go_ret;exact .inr ⟨⟨T,a,rfl,X⟩,a2,K.trans L⟩
 dsimp only at D a2 L;have b0:bC s pos lm.2.2<65536:=aN (fJ s pos _) (show 2^lm.2.2<=2^16 from bT (by omega) P);have Q:au (bZ s (jq y).2 ⟨pos,false⟩=(bC s pos lm.2.2,⟨pos+lm.2.2,false⟩)):=(by rw[<-HL.out];exact gV s _ pos a2:_=_);have d5:=W.pe a4;have E:=K.trans a4;have HN:au (lm.2.1+bC s pos lm.2.2=(jq y).1+(bZ s (jq y).2 ⟨pos,false⟩).1):=(by rw[Q.out,<-HL.out]:_=_);have d6:1<=lm.2.1+bC s pos lm.2.2/\lm.2.1+bC s pos lm.2.2<=100000:=by have h3:3<=(jq y).1:=Ti y B C;have h4:=jo Prod.fst HL.out;have:=RY y B C;omega
 obtain⟨l,M⟩:∃l,l=lm.2.1+bC s pos lm.2.2:=⟨_,rfl⟩;rw[<-M]at d6|-;have d7:au (l=lm.2.1+bC s pos lm.2.2):=M;dsimp only at k1;rw[<-M]at k1;clear M V K W hM b0;obtain⟨c0,c1,c2,c3⟩:=L.cells;obtain⟨f1,f2,f3⟩:=L.facts;obtain⟨ka,kb,t1,t2,t3⟩:=d5;have b6:w1.cell? ⟨kt,1,none⟩=some (.pointer (some ⟨kb,0,none⟩)):=by simpa using(cell_of t1 1).1
 have o1:∀o:Obj,(w1.alloc o).cell? ⟨kt,1,none⟩=some (.pointer (some ⟨kb,0,none⟩)):=fun o=>Er.bU b6 o;have o2:∀o:Obj,(w1.alloc o).cell? ⟨A.ub,0,none⟩=some (.pointer (some ⟨A.rb,0,none⟩)):=fun o=>Er.bU c0 o;dsimp only at f2;obtain⟨Z,a0⟩:∃Z,Z=pos+lm.2.2:=⟨_,rfl⟩;rw[<-a0]at L f2;have x:au (Z=pos+lm.2.2):=a0;have f:=f2.new (ah w1.heap.size);clear a0 c1 c2 c3 t1 t2;have b7:um (w1.alloc (.cells #[.int .u8 0,.int .i64 0,.int .u64 0] 251)).drew kb kW z:=t3.xu (w':=w1.alloc (.cells #[.int .u8 0,.int .i64 0,.int .u64 0] 251)) (fun b hb=>alloc_old hb);have b8:Rd (w1.alloc (.cells #[.int .u8 0,.int .i64 0,.int .u64 0] 251)).drew A.tb A.rb s Z:=(f2.alloc _).drew;have b9:(w1.alloc (.cells #[.int .u8 0,.int .i64 0,.int .u64 0] 251)).drew.heap[w1.heap.size]?=some (.cells #[.int .u8 0,.int .i64 0,.int .u64 0] 251 (0,0)):=jE w1 _ _ rfl;have c5:RF A.tb A.rb w1 (w1.alloc (.cells #[.int .u8 0,.int .i64 0,.int .u64 0] 251)).drew:=((RF.refl _ _ w1).alloc _).drew;have c6:RF A.tb A.rb w1 w1.drew:=(RF.refl _ _ w1).drew;go_upto_region 4 with fail
 go_cut [8,9] (fun v8 v10 wx=> ∃(m:Nat×Nat×Nat) (v:ay) (b:Nat),v8=v/\v10= .pointer (some ⟨b,0,none⟩)/\qJ wx b m/\qo A.tb A.rb s (bK z).cs Z kW w1 m v wx)
 case first=>
  go_region_with (first
   |(go_at_call 152;refine(yR kb A.tb A.rb z s Z (w1.alloc (.cells #[.int .u8 0,.int .i64 0,.int .u64 0] 251)).drew kW b7 b8 hs hB.len hB.le hB.zn).mono ?_;rintro e w3 ⟨m,v,rfl,i⟩;obtain⟨zz,z0,z1,z2,y0,y1,y2⟩:=Jg i.rf b9 f.2.1 f.2.2;replace i:=qo.from c5 i)
   |(go_at_call 152;refine(yR kb A.tb A.rb z s Z _ kW (by exact t3) (by exact f2.drew) hs hB.len hB.le hB.zn).mono ?_;rintro e w3 ⟨m,v,rfl,i⟩;replace i:=qo.from c6 i))
  all_goals
   go_wp2_with fail
   go_meet
   case rel=>first
    |exact⟨m,v,_,rfl,rfl,jE w3 _ _ rfl,i.alloc _⟩
    |exact⟨m,v,_,rfl,rfl,(bF (bF (bF zz 0 _) 1 _) 2 _).trans (by simp),((i.set (ah _) f.1 f.2.1 f.2.2 zz (by decide) 0 _).set (ah _) f.1 f.2.1 f.2.2 (bF zz 0 _) (by decide) 1 _).set (ah _) f.1 f.2.1 f.2.2 (bF (bF zz 0 _) 1 _) (by decide) 2 _⟩
 case rest=>
  obtain⟨m,v,b,rfl,rfl,a6,hR⟩:=hcut;rcases hR with⟨d,r,c7,c8,rfl,i,g2⟩|⟨e2,⟨T,a,rfl,g0⟩,i,g2⟩;rotate_left
  ·have k:=L.zC i g2;have X:dJ A.tb _ T a (Stop S (jH s aO most (bK z).cs y ⟨⟨pos,false⟩,out⟩)):=g0.imp (fun g0=> .inl (FV (by rw[Q.out,<-x.out];exact g0)));clear g0 a6;go_wp2_with fail
   go_ret;exact .inr ⟨⟨T,a,rfl,X⟩,k.1,E.trans k.2⟩
  ·have F:au _:=c7;have c9:au _:=c8;clear c7 c8;have p:=L.rd r i g2;obtain⟨m0,m1,m2⟩:=a6.c;clear b7 b8 b9 c5 c6 o1 o2 b6 c0 t3;by_cases hd:d<=29
   ·have G:m=(4,jh d):=by rw[c9.out];exact Qa d hd
    have e4:=WS d hd;subst G;go_wp2_with fail
    refine(FY S A s aO most ⟨⟨r,false⟩,out⟩ (4,jh d) _ _ _ p.1 (QL S A s aO most R U) hs (by dsimp only;omega) (by dsimp only;omega) (by dsimp only;omega)).mono ?_;rintro e w4 (⟨J,b2,kr,rfl,b3,b4,b5⟩|⟨⟨n,T,a,rfl,J⟩,b2,b3⟩)
    ·dsimp only at J b2 b3;have e0:bC s r (jh d).2<65536:=aN (fJ s r _) (show 2^(jh d).2<=2^16 from bT (by omega) (by omega));obtain⟨back,q⟩:∃back,back=(jh d).1+bC s r (jh d).2:=⟨_,rfl⟩;dsimp only at kr;rw[<-q]at kr|-;have k:jH s aO most (bK z).cs y ⟨⟨pos,false⟩,out⟩=GL most back l ⟨⟨r+(jh d).2,false⟩,out⟩:=by
      rw[NR (by rw[Q.out,<-x.out]) F.out hd (gV s _ r b2),<-q,ax (by omega)];have:=HN.out;rw[Q.out]at this;rw[d7.out,this]
     have H:au _:=k;have d0:=(E.trans p.2).trans b4;have d8:1<=back:=by omega
     clear k q p E b4 b5 L a6 m0 m1 m2;go_wp2_with fail
     go_loopw [56] (fun iv wr=> ∃(j:Nat) (t:US),j<=l/\iv= .int .i64 (j:Int)/\GL most back l ⟨⟨r+(jh d).2,false⟩,out⟩=GL most back (l-j) t/\t.out.length=out.length+j/\UP S wr A s aO most t/\PE A.base w wr) (fun iv _=>l-(bH iv).toNat)
     case atStart=>exact⟨0,⟨⟨r+(jh d).2,false⟩,out⟩,aX _,rfl,rfl,rfl,b3,d0⟩
     case round=>
      clear b3 d0;obtain⟨j,t,hj,rfl,d1,d2,hU,a7⟩:=hrel;have HT:au _:=d1;have d3:au (t.out.length=out.length+j):=d2;clear d1 d2;by_cases e5:j<l
      ·obtain⟨c0,c1,c2,c3⟩:=hU.cells;obtain⟨vr,hr⟩:=hU.ring;have g:t.st.dV=false:=hU.facts.1;have H1:au (back<=min t.out.length aO/\t.out.length<most):=(by have:=d3.out;omega:_/\_);have H2:au (GL most back (l-j) t=GL most back (l-(j+1)) ⟨t.st,t.out++[t.out.getD (t.out.length-back) 0]⟩):=(by
        rw[show l-j=(l-(j+1))+1 by omega,WT most back _ t g,rM most _ t (by have:=H1.out;omega) g]:_=_)
       go_wp2_with fail
       refine(I_ A.gb A.base vr aO back t.out _ hr R U d8 H1.out.1).mono ?_;rintro e w1 ⟨rfl,I⟩;have I:=I.symm;subst I;go_wp2_with fail
       refine(hP A s aO most t (t.out.getD (t.out.length-back) 0) _ rfl hU H1.out.2 hm R U).mono ?_;rintro e w2 (⟨rfl,i,g2⟩|⟨⟨T,a,rfl,g0⟩,i,g2⟩);rotate_left
       ·have X:dJ A.tb w2 T a (Stop S (jH s aO most (bK z).cs y ⟨⟨pos,false⟩,out⟩)):=g0.imp (fun d9=> .inr ⟨_,d9,by
         rw[H.out,HT.out,H2.out];exact Tm most back _ ⟨t.st,t.out++[t.out.getD (t.out.length-back) 0]⟩⟩)
        clear c0 c1 c2 c3 hr g0;go_wp2_with fail
        go_ret;exact .inr ⟨⟨T,a,rfl,X⟩,i,a7.trans g2⟩
       clear c0 c1 c2 c3 hr;go_wp2_with fail
       go_roundw
       case rel=>exact⟨j+1,_,by omega,by go_num,HT.out.trans H2.out,by simp only[List.length_append,List.length_singleton];have:=d3.out;omega,i,a7.trans g2⟩
       case measure=>simp[bH];omega
      ·have H2:au (GL most back l ⟨⟨r+(jh d).2,false⟩,out⟩=t):=(by rw[HT.out,show l-j=0 by omega];rfl:_=_);go_wp2_with fail
       go_ret;exact .inl ⟨by rw[H.out,H2.out];exact hU.facts.1,rfl,by rw[H.out,H2.out];exact hU,a7⟩
    ·have X:dJ A.tb w4 T a (Stop S (jH s aO most (bK z).cs y ⟨⟨pos,false⟩,out⟩)):=J.imp (fun J=> .inl (by
      by_cases hb:(bZ s (jh d).2 ⟨r,false⟩).2.dV=true
      ·refine QH ?_ ?_
       ·dsimp only;rw[Q.out,<-x.out,F.out];exact Nat.not_lt.2 hd
       ·dsimp only;rw[Q.out,<-x.out,F.out];exact hb
      ·have Y:r+(jh d).2<=8*s.size:=Nat.le_of_not_lt (fun hc=>hb (sQ s _ r i.zS (by omega)));rcases J with J|J
       ·exact absurd J hb
       ·dsimp only at J;rw[NR (by rw[Q.out,<-x.out]) F.out hd (gV s _ r Y),aG (by omega)]))
     clear J;go_wp2_with fail
     go_ret;exact .inr ⟨⟨T,a,rfl,X⟩,b2,(E.trans p.2).trans b3⟩
   ·have G:m=(0,0,0):=by rw[c9.out];unfold kW;rw[ax (by omega),ax (by omega)]
    subst G;go_wp2_with fail
    refine(cZ _ _).mono ?_;rintro e w4 ⟨rfl,rfl⟩;go_wp2_with fail
    go_ret;refine .inr ⟨⟨_,_,rfl,dJ.uh (.inl (Je ?_))⟩,p.1.ue.alloc _,(E.trans p.2).trans (PE.alloc _ _ _ p.1.base)⟩;dsimp only;rw[Q.out,<-x.out,F.out];exact Nat.lt_of_not_le hd
end Pr
end Go.Proofs.YtephkcdbnogdhabGreatDoor
