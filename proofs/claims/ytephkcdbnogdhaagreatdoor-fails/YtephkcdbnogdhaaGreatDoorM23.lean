import Derived.Test.YtephkcdbnogdhaaGreatDoorM17
import Derived.Test.YtephkcdbnogdhaaGreatDoorM19
set_option linter.unusedVariables false
set_option maxHeartbeats 40000000
set_option maxRecDepth 10000
namespace Go.Proofs.YtephkcdbnogdhaaGreatDoor
open Go.Proofs.Tryz
open Go renaming World->af,Value->ay,Calls->aF,TypeId->aY
open Go.RowKit renaming Hid->ah,Below->aJ
namespace Pr
open Go.RowKit Rf Cr
open h_ (cut gz eP gJ iq iG iw jo jd dF aT fV di)
def jH(D:Nat):Prop:=D=1\/D=2\/D=4\/D=8\/D=16
theorem GN(x D:Nat)(w:af)(hx:x<=65535)(hD:jH D):
 aF prog 210 #[.int .u16 (x:Int),.int .i64 (D:Int)] w fun e w'=>e= .returned (.int .u16 ((di x D:Nat):Int))/\w'=w:=by
 obtain⟨V,a⟩:∃V,V=di x D:=⟨_,rfl⟩;rw[<-a];have b:ah _:=a;clear a;rcases hD with rfl|rfl|rfl|rfl|rfl
 all_goals
  go_enter func210,ntmps210
  go_wp2_with fail
  go_ret;refine⟨dP ?_,rfl⟩;rw[b.out];unfold di;simp only[pw]
  first
   |omega
   |(rw[IntKind.wrap_u16];omega)
def nH(q:Nat×Nat×Nat×Nat):List ay:=[.int .u16 (q.1:Int),.int .u16 (q.2.1:Int),.int .u16 (q.2.2.1:Int),.int .u16 (q.2.2.2:Int)]
def fZ(E:List (Nat×Nat×Nat×Nat)):List ay:=E.flatMap nH
def dI(C:List Nat):List ay:=C.map fun(x:Nat)=> .int .u16 ((x:Nat):Int)
def rU(W H D K:Nat)(I:Bool)(ev:ay)(jG:Bool)(cv:ay):Obj:= .cells #[.int .i64 (W:Int),.int .i64 (H:Int),.int .i64 (D:Int),.int .u8 (K:Int),.bool I,ev,.bool jG,cv] 286 (0,0)
structure jE(w:af)(kb base W H D K:Nat)(I:Bool)(ev:ay)(E:List (Nat×Nat×Nat×Nat))(jG:Bool)(cv:ay)(C:List Nat):Prop where
 nN:w.heap[kb]?=some (rU W H D K I ev jG cv)
 nP:w.ownsRow base 303 4 ev E.length (fZ E)
 Bq:w.ownsRow base 39 1 cv C.length (dI C)
theorem iM{w w':af}{base:Nat}{T:aY}{z:Nat}{v:ay}{n:Nat}{xs:List ay}(h:w.ownsRow base T z v n xs)(e:∀k,v.ownBlock=some k->w'.heap[k]?=w.heap[k]?):w'.ownsRow base T z v n xs:=by
 refine⟨h.1,?_⟩;rcases h.2 with h|⟨g,cap,cur,rfl,a,b,c⟩
 ·exact .inl h
 ·exact .inr ⟨g,cap,cur,rfl,a,(e g rfl).trans b,c⟩
theorem gB{w:af}{base:Nat}{S:aY}{z:Nat}{v:ay}{n:Nat}{xs:List ay}(h:w.ownsRow base S z v n xs){k:Nat}{cur:Array ay}{T:aY}{f:Nat×Nat}(a:w.heap[k]?=some (.cells cur T f))(c:T≠S):v.ownBlock≠some k:=by
 rcases h.2 with⟨rfl,_⟩|⟨g,cap,d,rfl,_,b,_⟩
 ·simp[Value.ownBlock]
 ·intro e;simp[Value.ownBlock]at e;subst e;rw[b]at a;simp at a;exact c a.2.1.symm
theorem jE.over{w w':af}{kb base W H D K:Nat}{I:Bool}{ev:ay}{E:List (Nat×Nat×Nat×Nat)}{jG:Bool}{cv:ay}{C:List Nat}(h:jE w kb base W H D K I ev E jG cv C)(e:∀k,k=kb\/ev.ownBlock=some k\/cv.ownBlock=some k->w'.heap[k]?=w.heap[k]?):jE w' kb base W H D K I ev E jG cv C:=
 ⟨(e kb (.inl rfl)).trans h.nN,iM h.nP (fun k a=>e k (.inr (.inl a))),iM h.Bq (fun k a=>e k (.inr (.inr a)))⟩
theorem jE.cells{w:af}{kb base W H D K:Nat}{I:Bool}{ev:ay}{E:List (Nat×Nat×Nat×Nat)}{jG:Bool}{cv:ay}{C:List Nat}(h:jE w kb base W H D K I ev E jG cv C):
 w.cell? ⟨kb,2,none⟩=some (.int .i64 (D:Int))/\w.cell? ⟨kb,3,none⟩=some (.int .u8 (K:Int))/\w.cell? ⟨kb,5,none⟩=some ev/\w.cell? ⟨kb,6,none⟩=some (.bool jG)/\w.cell? ⟨kb,7,none⟩=some cv/\∀i,w.frozen? ⟨kb,i,none⟩=false:=by
 have hb:=h.nN;exact⟨by simpa [rU]using(cell_of hb 2).1,by simpa [rU]using(cell_of hb 3).1,by simpa [rU]using(cell_of hb 5).1,by simpa [rU]using(cell_of hb 6).1,by simpa [rU]using(cell_of hb 7).1,fun i=>(cell_of hb i).2⟩
theorem nX{w:af}{base:Nat}{T:aY}{z:Nat}{v:ay}{n:Nat}{xs:List ay}(h:w.ownsRow base T z v n xs):∃la cap,v= .slice la n cap:=by
 rcases h.2 with⟨rfl,a⟩|⟨g,cap,cur,rfl,_⟩
 ·exact⟨none,0,by rw[a]⟩
 ·exact⟨_,_,rfl⟩
def GR(D K:Nat)(ne:Nat)(jG:Bool)(n:Nat):Prop:=(K≠0/\K≠4)/\ne=0/\jG=false/\3<=n/\n<=3*(if K=3 then pw D else 256)/\n%3=0
theorem TQ(w:af)(kb base W H D K n:Nat)(I:Bool)(ev:ay)(E:List (Nat×Nat×Nat×Nat))(jG:Bool)(cv:ay)(C:List Nat)(h:jE w kb base W H D K I ev E jG cv C)(hD:jH D)(hK:K<=255)(x:n<=2147483647)(y:E.length<=1000):
 aF prog 209 #[.pointer (some ⟨kb,0,none⟩),.int .i64 (n:Int)] w fun e w'=>
  (GR D K E.length jG n/\e= .returned .nilIface/\w'=w)\/
  (∃a,e= .returned (.iface 142 (.pointer (some a)))/\¬GR D K E.length jG n/\aJ w.heap.size w w'):=by
 obtain⟨c2,z,A,B,u,_⟩:=h.cells;obtain⟨la,cap,rfl⟩:=nX h.nP;clear u;have d:ah (GR D K E.length jG n↔(K≠0/\K≠4)/\E.length=0/\jG=false/\3<=n/\n<=3*(if K=3 then pw D else 256)/\n%3=0):=Iff.rfl;obtain⟨Q,s⟩:∃Q:Prop,Q=GR D K E.length jG n:=⟨_,rfl⟩;rw[<-s]at d|-;clear s h;generalize E.length=ne at*;have dA:ah (∀m (o:af),¬Q->aF prog 137 #[.string m] o fun e w'=> ∃a,e= .returned (.iface 142 (.pointer (some a)))/\aJ o.heap.size o w'):=(fun m o _=>(dJ m o).mono (fun e w' ⟨a,b⟩=>⟨_,a,by rw[b];exact(aP _ _).alloc (ag _) _⟩):∀m o,_);have F:ah (pw D=if D=1 then 2 else if D=2 then 4 else if D=4 then 16 else if D=8 then 256 else 65536):=(by rcases hD with rfl|rfl|rfl|rfl|rfl<;>decide:_=_);by_cases v:K=0\/K=4
 ·have c:ah (¬Q):=(fun f=>by have:=(d.out.1 f).1;omega:¬_);rcases v with rfl|rfl
  all_goals
   go_enter func209,ntmps209
   go_wp2_with fail
   refine(dA.out _ _ c.out).mono ?_;rintro e w' ⟨a,rfl,hb⟩;go_wp2_with fail
   go_ret;exact .inr ⟨a,rfl,c.out,hb⟩
 have G:((K:Int)==0)=false:=by rw[ax];omega
 have J:((K:Int)==4)=false:=by rw[ax];omega
 by_cases t:K=3
 ·subst t;rcases hD with rfl|rfl|rfl|rfl|rfl
  ·have g:ah (3*(if(3:Nat)=3 then pw 1 else 256)=6):=(by decide:_=_);by_cases i:ne=0;rotate_left
   ·have c:ah (¬Q):=(fun f=>i (d.out.1 f).2.1:¬_);have p:0<ne:=by omega
    go_enter func209,ntmps209
    go_wp2_with fail
    refine(dA.out _ _ c.out).mono ?_;rintro e w' ⟨a,rfl,hb⟩;go_wp2_with fail
    go_ret;exact .inr ⟨a,rfl,c.out,hb⟩
   subst i;cases jG with
   |true=>
    have c:ah (¬Q):=(fun f=>Bool.noConfusion (d.out.1 f).2.2.1:¬_);go_enter func209,ntmps209
    go_wp2_with fail
    refine(dA.out _ _ c.out).mono ?_;rintro e w' ⟨a,rfl,hb⟩;go_wp2_with fail
    go_ret;exact .inr ⟨a,rfl,c.out,hb⟩
   |false=>
    by_cases q:n<3
    ·have c:ah (¬Q):=(fun f=>by have:=(d.out.1 f).2.2.2.1;omega:¬_);go_enter func209,ntmps209
     go_wp2_with fail
     refine(dA.out _ _ c.out).mono ?_;rintro e w' ⟨a,rfl,hb⟩;go_wp2_with fail
     go_ret;exact .inr ⟨a,rfl,c.out,hb⟩
    ·have r:decide ((n:Int)<3)=false:=aS (by omega);by_cases nm:6<n
     ·have c:ah (¬Q):=(fun f=>by have:=(d.out.1 f).2.2.2.2.1;rw[g.out]at this;omega:¬_);have k:decide ((6:Int)<(n:Int))=true:=aZ (by omega);go_enter func209,ntmps209
      go_wp2_with fail
      refine(dA.out _ _ c.out).mono ?_;rintro e w' ⟨a,rfl,hb⟩;go_wp2_with fail
      go_ret;exact .inr ⟨a,rfl,c.out,hb⟩
     ·have k:decide ((6:Int)<(n:Int))=false:=aS (by omega);by_cases nr:n%3=0
      ·have j:ah Q:=(d.out.2 ⟨by omega,rfl,rfl,by omega,by rw[g.out];omega,nr⟩:Q);have l:((n:Int)%3 !=0)=false:=by rw[bn];omega
       go_enter func209,ntmps209
       go_wp2_with fail
       go_ret;exact .inl ⟨j.out,rfl,rfl⟩
      ·have c:ah (¬Q):=(fun f=>nr (d.out.1 f).2.2.2.2.2:¬_);have l:((n:Int)%3 !=0)=true:=by rw[dG];omega
       go_enter func209,ntmps209
       go_wp2_with fail
       refine(dA.out _ _ c.out).mono ?_;rintro e w' ⟨a,rfl,hb⟩;go_wp2_with fail
       go_ret;exact .inr ⟨a,rfl,c.out,hb⟩
  ·have g:ah (3*(if(3:Nat)=3 then pw 2 else 256)=12):=(by decide:_=_);by_cases i:ne=0;rotate_left
   ·have c:ah (¬Q):=(fun f=>i (d.out.1 f).2.1:¬_);have p:0<ne:=by omega
    go_enter func209,ntmps209
    go_wp2_with fail
    refine(dA.out _ _ c.out).mono ?_;rintro e w' ⟨a,rfl,hb⟩;go_wp2_with fail
    go_ret;exact .inr ⟨a,rfl,c.out,hb⟩
   subst i;cases jG with
   |true=>
    have c:ah (¬Q):=(fun f=>Bool.noConfusion (d.out.1 f).2.2.1:¬_);go_enter func209,ntmps209
    go_wp2_with fail
    refine(dA.out _ _ c.out).mono ?_;rintro e w' ⟨a,rfl,hb⟩;go_wp2_with fail
    go_ret;exact .inr ⟨a,rfl,c.out,hb⟩
   |false=>
    by_cases q:n<3
    ·have c:ah (¬Q):=(fun f=>by have:=(d.out.1 f).2.2.2.1;omega:¬_);go_enter func209,ntmps209
     go_wp2_with fail
     refine(dA.out _ _ c.out).mono ?_;rintro e w' ⟨a,rfl,hb⟩;go_wp2_with fail
     go_ret;exact .inr ⟨a,rfl,c.out,hb⟩
    ·have r:decide ((n:Int)<3)=false:=aS (by omega);by_cases nm:12<n
     ·have c:ah (¬Q):=(fun f=>by have:=(d.out.1 f).2.2.2.2.1;rw[g.out]at this;omega:¬_);have k:decide ((12:Int)<(n:Int))=true:=aZ (by omega);go_enter func209,ntmps209
      go_wp2_with fail
      refine(dA.out _ _ c.out).mono ?_;rintro e w' ⟨a,rfl,hb⟩;go_wp2_with fail
      go_ret;exact .inr ⟨a,rfl,c.out,hb⟩
     ·have k:decide ((12:Int)<(n:Int))=false:=aS (by omega);by_cases nr:n%3=0
      ·have j:ah Q:=(d.out.2 ⟨by omega,rfl,rfl,by omega,by rw[g.out];omega,nr⟩:Q);have l:((n:Int)%3 !=0)=false:=by rw[bn];omega
       go_enter func209,ntmps209
       go_wp2_with fail
       go_ret;exact .inl ⟨j.out,rfl,rfl⟩
      ·have c:ah (¬Q):=(fun f=>nr (d.out.1 f).2.2.2.2.2:¬_);have l:((n:Int)%3 !=0)=true:=by rw[dG];omega
       go_enter func209,ntmps209
       go_wp2_with fail
       refine(dA.out _ _ c.out).mono ?_;rintro e w' ⟨a,rfl,hb⟩;go_wp2_with fail
       go_ret;exact .inr ⟨a,rfl,c.out,hb⟩
  ·have g:ah (3*(if(3:Nat)=3 then pw 4 else 256)=48):=(by decide:_=_);by_cases i:ne=0;rotate_left
   ·have c:ah (¬Q):=(fun f=>i (d.out.1 f).2.1:¬_);have p:0<ne:=by omega
    go_enter func209,ntmps209
    go_wp2_with fail
    refine(dA.out _ _ c.out).mono ?_;rintro e w' ⟨a,rfl,hb⟩;go_wp2_with fail
    go_ret;exact .inr ⟨a,rfl,c.out,hb⟩
   subst i;cases jG with
   |true=>
    have c:ah (¬Q):=(fun f=>Bool.noConfusion (d.out.1 f).2.2.1:¬_);go_enter func209,ntmps209
    go_wp2_with fail
    refine(dA.out _ _ c.out).mono ?_;rintro e w' ⟨a,rfl,hb⟩;go_wp2_with fail
    go_ret;exact .inr ⟨a,rfl,c.out,hb⟩
   |false=>
    by_cases q:n<3
    ·have c:ah (¬Q):=(fun f=>by have:=(d.out.1 f).2.2.2.1;omega:¬_);go_enter func209,ntmps209
     go_wp2_with fail
     refine(dA.out _ _ c.out).mono ?_;rintro e w' ⟨a,rfl,hb⟩;go_wp2_with fail
     go_ret;exact .inr ⟨a,rfl,c.out,hb⟩
    ·have r:decide ((n:Int)<3)=false:=aS (by omega);by_cases nm:48<n
     ·have c:ah (¬Q):=(fun f=>by have:=(d.out.1 f).2.2.2.2.1;rw[g.out]at this;omega:¬_);have k:decide ((48:Int)<(n:Int))=true:=aZ (by omega);go_enter func209,ntmps209
      go_wp2_with fail
      refine(dA.out _ _ c.out).mono ?_;rintro e w' ⟨a,rfl,hb⟩;go_wp2_with fail
      go_ret;exact .inr ⟨a,rfl,c.out,hb⟩
     ·have k:decide ((48:Int)<(n:Int))=false:=aS (by omega);by_cases nr:n%3=0
      ·have j:ah Q:=(d.out.2 ⟨by omega,rfl,rfl,by omega,by rw[g.out];omega,nr⟩:Q);have l:((n:Int)%3 !=0)=false:=by rw[bn];omega
       go_enter func209,ntmps209
       go_wp2_with fail
       go_ret;exact .inl ⟨j.out,rfl,rfl⟩
      ·have c:ah (¬Q):=(fun f=>nr (d.out.1 f).2.2.2.2.2:¬_);have l:((n:Int)%3 !=0)=true:=by rw[dG];omega
       go_enter func209,ntmps209
       go_wp2_with fail
       refine(dA.out _ _ c.out).mono ?_;rintro e w' ⟨a,rfl,hb⟩;go_wp2_with fail
       go_ret;exact .inr ⟨a,rfl,c.out,hb⟩
  ·have g:ah (3*(if(3:Nat)=3 then pw 8 else 256)=768):=(by decide:_=_);by_cases i:ne=0;rotate_left
   ·have c:ah (¬Q):=(fun f=>i (d.out.1 f).2.1:¬_);have p:0<ne:=by omega
    go_enter func209,ntmps209
    go_wp2_with fail
    refine(dA.out _ _ c.out).mono ?_;rintro e w' ⟨a,rfl,hb⟩;go_wp2_with fail
    go_ret;exact .inr ⟨a,rfl,c.out,hb⟩
   subst i;cases jG with
   |true=>
    have c:ah (¬Q):=(fun f=>Bool.noConfusion (d.out.1 f).2.2.1:¬_);go_enter func209,ntmps209
    go_wp2_with fail
    refine(dA.out _ _ c.out).mono ?_;rintro e w' ⟨a,rfl,hb⟩;go_wp2_with fail
    go_ret;exact .inr ⟨a,rfl,c.out,hb⟩
   |false=>
    by_cases q:n<3
    ·have c:ah (¬Q):=(fun f=>by have:=(d.out.1 f).2.2.2.1;omega:¬_);go_enter func209,ntmps209
     go_wp2_with fail
     refine(dA.out _ _ c.out).mono ?_;rintro e w' ⟨a,rfl,hb⟩;go_wp2_with fail
     go_ret;exact .inr ⟨a,rfl,c.out,hb⟩
    ·have r:decide ((n:Int)<3)=false:=aS (by omega);by_cases nm:768<n
     ·have c:ah (¬Q):=(fun f=>by have:=(d.out.1 f).2.2.2.2.1;rw[g.out]at this;omega:¬_);have k:decide ((768:Int)<(n:Int))=true:=aZ (by omega);go_enter func209,ntmps209
      go_wp2_with fail
      refine(dA.out _ _ c.out).mono ?_;rintro e w' ⟨a,rfl,hb⟩;go_wp2_with fail
      go_ret;exact .inr ⟨a,rfl,c.out,hb⟩
     ·have k:decide ((768:Int)<(n:Int))=false:=aS (by omega);by_cases nr:n%3=0
      ·have j:ah Q:=(d.out.2 ⟨by omega,rfl,rfl,by omega,by rw[g.out];omega,nr⟩:Q);have l:((n:Int)%3 !=0)=false:=by rw[bn];omega
       go_enter func209,ntmps209
       go_wp2_with fail
       go_ret;exact .inl ⟨j.out,rfl,rfl⟩
      ·have c:ah (¬Q):=(fun f=>nr (d.out.1 f).2.2.2.2.2:¬_);have l:((n:Int)%3 !=0)=true:=by rw[dG];omega
       go_enter func209,ntmps209
       go_wp2_with fail
       refine(dA.out _ _ c.out).mono ?_;rintro e w' ⟨a,rfl,hb⟩;go_wp2_with fail
       go_ret;exact .inr ⟨a,rfl,c.out,hb⟩
  ·have g:ah (3*(if(3:Nat)=3 then pw 16 else 256)=196608):=(by decide:_=_);by_cases i:ne=0;rotate_left
   ·have c:ah (¬Q):=(fun f=>i (d.out.1 f).2.1:¬_);have p:0<ne:=by omega
    go_enter func209,ntmps209
    go_wp2_with fail
    refine(dA.out _ _ c.out).mono ?_;rintro e w' ⟨a,rfl,hb⟩;go_wp2_with fail
    go_ret;exact .inr ⟨a,rfl,c.out,hb⟩
   subst i;cases jG with
   |true=>
    have c:ah (¬Q):=(fun f=>Bool.noConfusion (d.out.1 f).2.2.1:¬_);go_enter func209,ntmps209
    go_wp2_with fail
    refine(dA.out _ _ c.out).mono ?_;rintro e w' ⟨a,rfl,hb⟩;go_wp2_with fail
    go_ret;exact .inr ⟨a,rfl,c.out,hb⟩
   |false=>
    by_cases q:n<3
    ·have c:ah (¬Q):=(fun f=>by have:=(d.out.1 f).2.2.2.1;omega:¬_);go_enter func209,ntmps209
     go_wp2_with fail
     refine(dA.out _ _ c.out).mono ?_;rintro e w' ⟨a,rfl,hb⟩;go_wp2_with fail
     go_ret;exact .inr ⟨a,rfl,c.out,hb⟩
    ·have r:decide ((n:Int)<3)=false:=aS (by omega);by_cases nm:196608<n
     ·have c:ah (¬Q):=(fun f=>by have:=(d.out.1 f).2.2.2.2.1;rw[g.out]at this;omega:¬_);have k:decide ((196608:Int)<(n:Int))=true:=aZ (by omega);go_enter func209,ntmps209
      go_wp2_with fail
      refine(dA.out _ _ c.out).mono ?_;rintro e w' ⟨a,rfl,hb⟩;go_wp2_with fail
      go_ret;exact .inr ⟨a,rfl,c.out,hb⟩
     ·have k:decide ((196608:Int)<(n:Int))=false:=aS (by omega);by_cases nr:n%3=0
      ·have j:ah Q:=(d.out.2 ⟨by omega,rfl,rfl,by omega,by rw[g.out];omega,nr⟩:Q);have l:((n:Int)%3 !=0)=false:=by rw[bn];omega
       go_enter func209,ntmps209
       go_wp2_with fail
       go_ret;exact .inl ⟨j.out,rfl,rfl⟩
      ·have c:ah (¬Q):=(fun f=>nr (d.out.1 f).2.2.2.2.2:¬_);have l:((n:Int)%3 !=0)=true:=by rw[dG];omega
       go_enter func209,ntmps209
       go_wp2_with fail
       refine(dA.out _ _ c.out).mono ?_;rintro e w' ⟨a,rfl,hb⟩;go_wp2_with fail
       go_ret;exact .inr ⟨a,rfl,c.out,hb⟩
 ·have d3:((K:Int)==3)=false:=by rw[ax];omega
  have g:ah (3*(if K=3 then pw D else 256)=768):=(by rw[au t]:_=_);by_cases i:ne=0;rotate_left
  ·have c:ah (¬Q):=(fun f=>i (d.out.1 f).2.1:¬_);have p:0<ne:=by omega
   go_enter func209,ntmps209
   go_wp2_with fail
   refine(dA.out _ _ c.out).mono ?_;rintro e w' ⟨a,rfl,hb⟩;go_wp2_with fail
   go_ret;exact .inr ⟨a,rfl,c.out,hb⟩
  subst i;cases jG with
  |true=>
   have c:ah (¬Q):=(fun f=>Bool.noConfusion (d.out.1 f).2.2.1:¬_);go_enter func209,ntmps209
   go_wp2_with fail
   refine(dA.out _ _ c.out).mono ?_;rintro e w' ⟨a,rfl,hb⟩;go_wp2_with fail
   go_ret;exact .inr ⟨a,rfl,c.out,hb⟩
  |false=>
   by_cases q:n<3
   ·have c:ah (¬Q):=(fun f=>by have:=(d.out.1 f).2.2.2.1;omega:¬_);go_enter func209,ntmps209
    go_wp2_with fail
    refine(dA.out _ _ c.out).mono ?_;rintro e w' ⟨a,rfl,hb⟩;go_wp2_with fail
    go_ret;exact .inr ⟨a,rfl,c.out,hb⟩
   ·have r:decide ((n:Int)<3)=false:=aS (by omega);by_cases nm:768<n
    ·have c:ah (¬Q):=(fun f=>by have:=(d.out.1 f).2.2.2.2.1;rw[g.out]at this;omega:¬_);have k:decide ((768:Int)<(n:Int))=true:=aZ (by omega);go_enter func209,ntmps209
     go_wp2_with fail
     refine(dA.out _ _ c.out).mono ?_;rintro e w' ⟨a,rfl,hb⟩;go_wp2_with fail
     go_ret;exact .inr ⟨a,rfl,c.out,hb⟩
    ·have k:decide ((768:Int)<(n:Int))=false:=aS (by omega);by_cases nr:n%3=0
     ·have j:ah Q:=(d.out.2 ⟨by omega,rfl,rfl,by omega,by rw[g.out];omega,nr⟩:Q);have l:((n:Int)%3 !=0)=false:=by rw[bn];omega
      go_enter func209,ntmps209
      go_wp2_with fail
      go_ret;exact .inl ⟨j.out,rfl,rfl⟩
     ·have c:ah (¬Q):=(fun f=>nr (d.out.1 f).2.2.2.2.2:¬_);have l:((n:Int)%3 !=0)=true:=by rw[dG];omega
      go_enter func209,ntmps209
      go_wp2_with fail
      refine(dA.out _ _ c.out).mono ?_;rintro e w' ⟨a,rfl,hb⟩;go_wp2_with fail
      go_ret;exact .inr ⟨a,rfl,c.out,hb⟩
theorem XF(w:af)(kb base W H D K:Nat)(I:Bool)(ev:ay)(E:List (Nat×Nat×Nat×Nat))(jG:Bool)(cv:ay)(C:List Nat)(h:jE w kb base W H D K I ev E jG cv C)(hK:K<=255)(g:E.length<=1000):
 aF prog 153 #[.pointer (some ⟨kb,0,none⟩)] w fun e w'=>
  (¬(K=3/\E.length=0)/\e= .returned .nilIface/\w'=w)\/
  (∃a,e= .returned (.iface 142 (.pointer (some a)))/\(K=3/\E.length=0)/\aJ w.heap.size w w'):=by
 obtain⟨c2,i,j,d,f,_⟩:=h.cells;obtain⟨la,cap,rfl⟩:=nX h.nP;clear f c2 d h;generalize E.length=ne at*;by_cases c:K=3
 ·subst c;by_cases b:ne=0
  ·subst b;go_enter func153,ntmps153
   go_wp2_with fail
   refine(dJ _ _).mono ?_;rintro e w' ⟨rfl,rfl⟩;go_wp2_with fail
   go_ret;exact .inr ⟨_,rfl,by first|exact⟨rfl,rfl⟩|simp,(aP _ _).alloc (ag _) _⟩
  ·have k:((ne:Int)==0)=false:=by rw[ax];omega
   go_enter func153,ntmps153
   go_wp2_with fail
   go_ret;exact .inl ⟨fun h=>b h.2,rfl,rfl⟩
 ·have d3:((K:Int)==3)=false:=by rw[ax];omega
  go_enter func153,ntmps153
  go_wp2_with fail
  go_ret;exact .inl ⟨fun h=>c h.1,rfl,rfl⟩
end Pr
end Go.Proofs.YtephkcdbnogdhaaGreatDoor
