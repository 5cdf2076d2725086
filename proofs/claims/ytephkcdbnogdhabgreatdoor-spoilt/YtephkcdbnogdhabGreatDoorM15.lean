import Derived.Test.YtephkcdbnogdhabGreatDoorM9
import Derived.Test.YtephkcdbnogdhabGreatDoorM12
import Derived.Test.YtephkcdbnogdhabGreatDoorM13
set_option linter.unusedVariables false
set_option maxHeartbeats 40000000
set_option maxRecDepth 10000
namespace Go.Proofs.YtephkcdbnogdhabGreatDoor
open Go.Proofs.Tryz
open Go renaming World->af,Value->ay,Calls->aH,TypeId->aW,Addr->bG
open Go.RowKit renaming Hid->au,Below->aA,intOf->bH
namespace Pr
open Go.RowKit Rf Cr
open gI (cut fK dZ gy gW h_ bQ gQ fO dw bz gu dL)
def eG(D:Nat):Prop:=D=1\/D=2\/D=4\/D=8\/D=16
theorem Ff(x D:Nat)(w:af)(c:x<=65535)(hD:eG D):
 aH prog 107 #[.int .u16 (x:Int),.int .i64 (D:Int)] w fun e w'=>e= .returned (.int .u16 ((dL x D:Nat):Int))/\w'=w:=by
 obtain⟨V,a⟩:∃V,V=dL x D:=⟨_,rfl⟩;rw[<-a];have b:au _:=a;clear a;rcases hD with rfl|rfl|rfl|rfl|rfl
 all_goals
  go_enter func107,ntmps107
  go_wp2_with fail
  go_ret;refine⟨bP ?_,rfl⟩;rw[b.out];unfold dL;simp only[pw]
  first
   |omega
   |(rw[IntKind.wrap_u16];omega)
def qE(q:Nat×Nat×Nat×Nat):List ay:=[.int .u16 (q.1:Int),.int .u16 (q.2.1:Int),.int .u16 (q.2.2.1:Int),.int .u16 (q.2.2.2:Int)]
def fP(E:List (Nat×Nat×Nat×Nat)):List ay:=E.flatMap qE
def dm(C:List Nat):List ay:=C.map fun(x:Nat)=> .int .u16 ((x:Nat):Int)
def qF(W H D K:Nat)(I:Bool)(ev:ay)(iW:Bool)(cv:ay):Obj:= .cells #[.int .i64 (W:Int),.int .i64 (H:Int),.int .i64 (D:Int),.int .u8 (K:Int),.bool I,ev,.bool iW,cv] 173 (0,0)
structure iT(w:af)(kb base W H D K:Nat)(I:Bool)(ev:ay)(E:List (Nat×Nat×Nat×Nat))(iW:Bool)(cv:ay)(C:List Nat):Prop where
 oD:w.heap[kb]?=some (qF W H D K I ev iW cv)
 lU:w.ownsRow base 190 4 ev E.length (fP E)
 zZ:w.ownsRow base 55 1 cv C.length (dm C)
theorem fE{w w':af}{base:Nat}{T:aW}{z:Nat}{v:ay}{n:Nat}{xs:List ay}(h:w.ownsRow base T z v n xs)(e:∀k,v.ownBlock=some k->w'.heap[k]?=w.heap[k]?):w'.ownsRow base T z v n xs:=by
 refine⟨h.1,?_⟩;rcases h.2 with h|⟨g,cap,cur,rfl,a,b,c⟩
 ·exact .inl h
 ·exact .inr ⟨g,cap,cur,rfl,a,(e g rfl).trans b,c⟩
theorem f_{w:af}{base:Nat}{S:aW}{z:Nat}{v:ay}{n:Nat}{xs:List ay}(h:w.ownsRow base S z v n xs){k:Nat}{cur:Array ay}{T:aW}{f:Nat×Nat}(a:w.heap[k]?=some (.cells cur T f))(c:T≠S):v.ownBlock≠some k:=by
 rcases h.2 with⟨rfl,_⟩|⟨g,cap,d,rfl,_,b,_⟩
 ·simp[Value.ownBlock]
 ·intro e;simp[Value.ownBlock]at e;subst e;rw[b]at a;simp at a;exact c a.2.1.symm
theorem iT.over{w w':af}{kb base W H D K:Nat}{I:Bool}{ev:ay}{E:List (Nat×Nat×Nat×Nat)}{iW:Bool}{cv:ay}{C:List Nat}(h:iT w kb base W H D K I ev E iW cv C)(e:∀k,k=kb\/ev.ownBlock=some k\/cv.ownBlock=some k->w'.heap[k]?=w.heap[k]?):iT w' kb base W H D K I ev E iW cv C:=
 ⟨(e kb (.inl rfl)).trans h.oD,fE h.lU (fun k a=>e k (.inr (.inl a))),fE h.zZ (fun k a=>e k (.inr (.inr a)))⟩
theorem iT.cells{w:af}{kb base W H D K:Nat}{I:Bool}{ev:ay}{E:List (Nat×Nat×Nat×Nat)}{iW:Bool}{cv:ay}{C:List Nat}(h:iT w kb base W H D K I ev E iW cv C):
 w.cell? ⟨kb,2,none⟩=some (.int .i64 (D:Int))/\w.cell? ⟨kb,3,none⟩=some (.int .u8 (K:Int))/\w.cell? ⟨kb,5,none⟩=some ev/\w.cell? ⟨kb,6,none⟩=some (.bool iW)/\w.cell? ⟨kb,7,none⟩=some cv/\∀i,w.frozen? ⟨kb,i,none⟩=false:=by
 have hb:=h.oD;exact⟨by simpa [qF]using(cell_of hb 2).1,by simpa [qF]using(cell_of hb 3).1,by simpa [qF]using(cell_of hb 5).1,by simpa [qF]using(cell_of hb 6).1,by simpa [qF]using(cell_of hb 7).1,fun i=>(cell_of hb i).2⟩
theorem lZ{w:af}{base:Nat}{T:aW}{z:Nat}{v:ay}{n:Nat}{xs:List ay}(h:w.ownsRow base T z v n xs):∃la cap,v= .slice la n cap:=by
 rcases h.2 with⟨rfl,h0⟩|⟨g,cap,cur,rfl,_⟩
 ·exact⟨none,0,by rw[h0]⟩
 ·exact⟨_,_,rfl⟩
def Fg(D K:Nat)(ne:Nat)(iW:Bool)(n:Nat):Prop:=(K≠0/\K≠4)/\ne=0/\iW=false/\3<=n/\n<=3*(if K=3 then pw D else 256)/\n%3=0
theorem Qj(w:af)(kb base W H D K n:Nat)(I:Bool)(ev:ay)(E:List (Nat×Nat×Nat×Nat))(iW:Bool)(cv:ay)(C:List Nat)(h:iT w kb base W H D K I ev E iW cv C)(hD:eG D)(hK:K<=255)(u:n<=2147483647)(v:E.length<=1000):
 aH prog 106 #[.pointer (some ⟨kb,0,none⟩),.int .i64 (n:Int)] w fun e w'=>
  (Fg D K E.length iW n/\e= .returned .nilIface/\w'=w)\/
  (∃a,e= .returned (.iface 93 (.pointer (some a)))/\¬Fg D K E.length iW n/\aA w.heap.size w w'):=by
 obtain⟨c2,c3,c5,c6,c7,_⟩:=h.cells;obtain⟨la,cap,rfl⟩:=lZ h.lU;clear c7;have d:au (Fg D K E.length iW n↔(K≠0/\K≠4)/\E.length=0/\iW=false/\3<=n/\n<=3*(if K=3 then pw D else 256)/\n%3=0):=Iff.rfl;obtain⟨Q,r⟩:∃Q:Prop,Q=Fg D K E.length iW n:=⟨_,rfl⟩;rw[<-r]at d|-;clear r h;generalize E.length=ne at*;have dV:au (∀m (o:af),¬Q->aH prog 75 #[.string m] o fun e w'=> ∃a,e= .returned (.iface 93 (.pointer (some a)))/\aA o.heap.size o w'):=(fun m o _=>(cZ m o).mono (fun e w' ⟨a,b⟩=>⟨_,a,by rw[b];exact(aV _ _).alloc (ah _) _⟩):∀m o,_);have x:au (pw D=if D=1 then 2 else if D=2 then 4 else if D=4 then 16 else if D=8 then 256 else 65536):=(by rcases hD with rfl|rfl|rfl|rfl|rfl<;>decide:_=_);by_cases t:K=0\/K=4
 ·have c:au (¬Q):=(fun f=>by have:=(d.out.1 f).1;omega:¬_);rcases t with rfl|rfl
  all_goals
   go_enter func106,ntmps106
   go_wp2_with fail
   refine(dV.out _ _ c.out).mono ?_;rintro e w' ⟨a,rfl,hb⟩;go_wp2_with fail
   go_ret;exact .inr ⟨a,rfl,c.out,hb⟩
 have y:((K:Int)==0)=false:=by rw[aI];omega
 have d4:((K:Int)==4)=false:=by rw[aI];omega
 by_cases s:K=3
 ·subst s;rcases hD with rfl|rfl|rfl|rfl|rfl
  ·have g:au (3*(if(3:Nat)=3 then pw 1 else 256)=6):=(by decide:_=_);by_cases i:ne=0;rotate_left
   ·have c:au (¬Q):=(fun f=>i (d.out.1 f).2.1:¬_);have p:0<ne:=by omega
    go_enter func106,ntmps106
    go_wp2_with fail
    refine(dV.out _ _ c.out).mono ?_;rintro e w' ⟨a,rfl,hb⟩;go_wp2_with fail
    go_ret;exact .inr ⟨a,rfl,c.out,hb⟩
   subst i;cases iW with
   |true=>
    have c:au (¬Q):=(fun f=>Bool.noConfusion (d.out.1 f).2.2.1:¬_);go_enter func106,ntmps106
    go_wp2_with fail
    refine(dV.out _ _ c.out).mono ?_;rintro e w' ⟨a,rfl,hb⟩;go_wp2_with fail
    go_ret;exact .inr ⟨a,rfl,c.out,hb⟩
   |false=>
    by_cases q:n<3
    ·have c:au (¬Q):=(fun f=>by have:=(d.out.1 f).2.2.2.1;omega:¬_);go_enter func106,ntmps106
     go_wp2_with fail
     refine(dV.out _ _ c.out).mono ?_;rintro e w' ⟨a,rfl,hb⟩;go_wp2_with fail
     go_ret;exact .inr ⟨a,rfl,c.out,hb⟩
    ·have e3:decide ((n:Int)<3)=false:=aS (by omega);by_cases nm:6<n
     ·have c:au (¬Q):=(fun f=>by have:=(d.out.1 f).2.2.2.2.1;rw[g.out]at this;omega:¬_);have k:decide ((6:Int)<(n:Int))=true:=aZ (by omega);go_enter func106,ntmps106
      go_wp2_with fail
      refine(dV.out _ _ c.out).mono ?_;rintro e w' ⟨a,rfl,hb⟩;go_wp2_with fail
      go_ret;exact .inr ⟨a,rfl,c.out,hb⟩
     ·have k:decide ((6:Int)<(n:Int))=false:=aS (by omega);by_cases nr:n%3=0
      ·have j:au Q:=(d.out.2 ⟨by omega,rfl,rfl,by omega,by rw[g.out];omega,nr⟩:Q);have l:((n:Int)%3 !=0)=false:=by rw[di];omega
       go_enter func106,ntmps106
       go_wp2_with fail
       go_ret;exact .inl ⟨j.out,rfl,rfl⟩
      ·have c:au (¬Q):=(fun f=>nr (d.out.1 f).2.2.2.2.2:¬_);have l:((n:Int)%3 !=0)=true:=by rw[ig];omega
       go_enter func106,ntmps106
       go_wp2_with fail
       refine(dV.out _ _ c.out).mono ?_;rintro e w' ⟨a,rfl,hb⟩;go_wp2_with fail
       go_ret;exact .inr ⟨a,rfl,c.out,hb⟩
  ·have g:au (3*(if(3:Nat)=3 then pw 2 else 256)=12):=(by decide:_=_);by_cases i:ne=0;rotate_left
   ·have c:au (¬Q):=(fun f=>i (d.out.1 f).2.1:¬_);have p:0<ne:=by omega
    go_enter func106,ntmps106
    go_wp2_with fail
    refine(dV.out _ _ c.out).mono ?_;rintro e w' ⟨a,rfl,hb⟩;go_wp2_with fail
    go_ret;exact .inr ⟨a,rfl,c.out,hb⟩
   subst i;cases iW with
   |true=>
    have c:au (¬Q):=(fun f=>Bool.noConfusion (d.out.1 f).2.2.1:¬_);go_enter func106,ntmps106
    go_wp2_with fail
    refine(dV.out _ _ c.out).mono ?_;rintro e w' ⟨a,rfl,hb⟩;go_wp2_with fail
    go_ret;exact .inr ⟨a,rfl,c.out,hb⟩
   |false=>
    by_cases q:n<3
    ·have c:au (¬Q):=(fun f=>by have:=(d.out.1 f).2.2.2.1;omega:¬_);go_enter func106,ntmps106
     go_wp2_with fail
     refine(dV.out _ _ c.out).mono ?_;rintro e w' ⟨a,rfl,hb⟩;go_wp2_with fail
     go_ret;exact .inr ⟨a,rfl,c.out,hb⟩
    ·have e3:decide ((n:Int)<3)=false:=aS (by omega);by_cases nm:12<n
     ·have c:au (¬Q):=(fun f=>by have:=(d.out.1 f).2.2.2.2.1;rw[g.out]at this;omega:¬_);have k:decide ((12:Int)<(n:Int))=true:=aZ (by omega);go_enter func106,ntmps106
      go_wp2_with fail
      refine(dV.out _ _ c.out).mono ?_;rintro e w' ⟨a,rfl,hb⟩;go_wp2_with fail
      go_ret;exact .inr ⟨a,rfl,c.out,hb⟩
     ·have k:decide ((12:Int)<(n:Int))=false:=aS (by omega);by_cases nr:n%3=0
      ·have j:au Q:=(d.out.2 ⟨by omega,rfl,rfl,by omega,by rw[g.out];omega,nr⟩:Q);have l:((n:Int)%3 !=0)=false:=by rw[di];omega
       go_enter func106,ntmps106
       go_wp2_with fail
       go_ret;exact .inl ⟨j.out,rfl,rfl⟩
      ·have c:au (¬Q):=(fun f=>nr (d.out.1 f).2.2.2.2.2:¬_);have l:((n:Int)%3 !=0)=true:=by rw[ig];omega
       go_enter func106,ntmps106
       go_wp2_with fail
       refine(dV.out _ _ c.out).mono ?_;rintro e w' ⟨a,rfl,hb⟩;go_wp2_with fail
       go_ret;exact .inr ⟨a,rfl,c.out,hb⟩
  ·have g:au (3*(if(3:Nat)=3 then pw 4 else 256)=48):=(by decide:_=_);by_cases i:ne=0;rotate_left
   ·have c:au (¬Q):=(fun f=>i (d.out.1 f).2.1:¬_);have p:0<ne:=by omega
    go_enter func106,ntmps106
    go_wp2_with fail
    refine(dV.out _ _ c.out).mono ?_;rintro e w' ⟨a,rfl,hb⟩;go_wp2_with fail
    go_ret;exact .inr ⟨a,rfl,c.out,hb⟩
   subst i;cases iW with
   |true=>
    have c:au (¬Q):=(fun f=>Bool.noConfusion (d.out.1 f).2.2.1:¬_);go_enter func106,ntmps106
    go_wp2_with fail
    refine(dV.out _ _ c.out).mono ?_;rintro e w' ⟨a,rfl,hb⟩;go_wp2_with fail
    go_ret;exact .inr ⟨a,rfl,c.out,hb⟩
   |false=>
    by_cases q:n<3
    ·have c:au (¬Q):=(fun f=>by have:=(d.out.1 f).2.2.2.1;omega:¬_);go_enter func106,ntmps106
     go_wp2_with fail
     refine(dV.out _ _ c.out).mono ?_;rintro e w' ⟨a,rfl,hb⟩;go_wp2_with fail
     go_ret;exact .inr ⟨a,rfl,c.out,hb⟩
    ·have e3:decide ((n:Int)<3)=false:=aS (by omega);by_cases nm:48<n
     ·have c:au (¬Q):=(fun f=>by have:=(d.out.1 f).2.2.2.2.1;rw[g.out]at this;omega:¬_);have k:decide ((48:Int)<(n:Int))=true:=aZ (by omega);go_enter func106,ntmps106
      go_wp2_with fail
      refine(dV.out _ _ c.out).mono ?_;rintro e w' ⟨a,rfl,hb⟩;go_wp2_with fail
      go_ret;exact .inr ⟨a,rfl,c.out,hb⟩
     ·have k:decide ((48:Int)<(n:Int))=false:=aS (by omega);by_cases nr:n%3=0
      ·have j:au Q:=(d.out.2 ⟨by omega,rfl,rfl,by omega,by rw[g.out];omega,nr⟩:Q);have l:((n:Int)%3 !=0)=false:=by rw[di];omega
       go_enter func106,ntmps106
       go_wp2_with fail
       go_ret;exact .inl ⟨j.out,rfl,rfl⟩
      ·have c:au (¬Q):=(fun f=>nr (d.out.1 f).2.2.2.2.2:¬_);have l:((n:Int)%3 !=0)=true:=by rw[ig];omega
       go_enter func106,ntmps106
       go_wp2_with fail
       refine(dV.out _ _ c.out).mono ?_;rintro e w' ⟨a,rfl,hb⟩;go_wp2_with fail
       go_ret;exact .inr ⟨a,rfl,c.out,hb⟩
  ·have g:au (3*(if(3:Nat)=3 then pw 8 else 256)=768):=(by decide:_=_);by_cases i:ne=0;rotate_left
   ·have c:au (¬Q):=(fun f=>i (d.out.1 f).2.1:¬_);have p:0<ne:=by omega
    go_enter func106,ntmps106
    go_wp2_with fail
    refine(dV.out _ _ c.out).mono ?_;rintro e w' ⟨a,rfl,hb⟩;go_wp2_with fail
    go_ret;exact .inr ⟨a,rfl,c.out,hb⟩
   subst i;cases iW with
   |true=>
    have c:au (¬Q):=(fun f=>Bool.noConfusion (d.out.1 f).2.2.1:¬_);go_enter func106,ntmps106
    go_wp2_with fail
    refine(dV.out _ _ c.out).mono ?_;rintro e w' ⟨a,rfl,hb⟩;go_wp2_with fail
    go_ret;exact .inr ⟨a,rfl,c.out,hb⟩
   |false=>
    by_cases q:n<3
    ·have c:au (¬Q):=(fun f=>by have:=(d.out.1 f).2.2.2.1;omega:¬_);go_enter func106,ntmps106
     go_wp2_with fail
     refine(dV.out _ _ c.out).mono ?_;rintro e w' ⟨a,rfl,hb⟩;go_wp2_with fail
     go_ret;exact .inr ⟨a,rfl,c.out,hb⟩
    ·have e3:decide ((n:Int)<3)=false:=aS (by omega);by_cases nm:768<n
     ·have c:au (¬Q):=(fun f=>by have:=(d.out.1 f).2.2.2.2.1;rw[g.out]at this;omega:¬_);have k:decide ((768:Int)<(n:Int))=true:=aZ (by omega);go_enter func106,ntmps106
      go_wp2_with fail
      refine(dV.out _ _ c.out).mono ?_;rintro e w' ⟨a,rfl,hb⟩;go_wp2_with fail
      go_ret;exact .inr ⟨a,rfl,c.out,hb⟩
     ·have k:decide ((768:Int)<(n:Int))=false:=aS (by omega);by_cases nr:n%3=0
      ·have j:au Q:=(d.out.2 ⟨by omega,rfl,rfl,by omega,by rw[g.out];omega,nr⟩:Q);have l:((n:Int)%3 !=0)=false:=by rw[di];omega
       go_enter func106,ntmps106
       go_wp2_with fail
       go_ret;exact .inl ⟨j.out,rfl,rfl⟩
      ·have c:au (¬Q):=(fun f=>nr (d.out.1 f).2.2.2.2.2:¬_);have l:((n:Int)%3 !=0)=true:=by rw[ig];omega
       go_enter func106,ntmps106
       go_wp2_with fail
       refine(dV.out _ _ c.out).mono ?_;rintro e w' ⟨a,rfl,hb⟩;go_wp2_with fail
       go_ret;exact .inr ⟨a,rfl,c.out,hb⟩
  ·have g:au (3*(if(3:Nat)=3 then pw 16 else 256)=196608):=(by decide:_=_);by_cases i:ne=0;rotate_left
   ·have c:au (¬Q):=(fun f=>i (d.out.1 f).2.1:¬_);have p:0<ne:=by omega
    go_enter func106,ntmps106
    go_wp2_with fail
    refine(dV.out _ _ c.out).mono ?_;rintro e w' ⟨a,rfl,hb⟩;go_wp2_with fail
    go_ret;exact .inr ⟨a,rfl,c.out,hb⟩
   subst i;cases iW with
   |true=>
    have c:au (¬Q):=(fun f=>Bool.noConfusion (d.out.1 f).2.2.1:¬_);go_enter func106,ntmps106
    go_wp2_with fail
    refine(dV.out _ _ c.out).mono ?_;rintro e w' ⟨a,rfl,hb⟩;go_wp2_with fail
    go_ret;exact .inr ⟨a,rfl,c.out,hb⟩
   |false=>
    by_cases q:n<3
    ·have c:au (¬Q):=(fun f=>by have:=(d.out.1 f).2.2.2.1;omega:¬_);go_enter func106,ntmps106
     go_wp2_with fail
     refine(dV.out _ _ c.out).mono ?_;rintro e w' ⟨a,rfl,hb⟩;go_wp2_with fail
     go_ret;exact .inr ⟨a,rfl,c.out,hb⟩
    ·have e3:decide ((n:Int)<3)=false:=aS (by omega);by_cases nm:196608<n
     ·have c:au (¬Q):=(fun f=>by have:=(d.out.1 f).2.2.2.2.1;rw[g.out]at this;omega:¬_);have k:decide ((196608:Int)<(n:Int))=true:=aZ (by omega);go_enter func106,ntmps106
      go_wp2_with fail
      refine(dV.out _ _ c.out).mono ?_;rintro e w' ⟨a,rfl,hb⟩;go_wp2_with fail
      go_ret;exact .inr ⟨a,rfl,c.out,hb⟩
     ·have k:decide ((196608:Int)<(n:Int))=false:=aS (by omega);by_cases nr:n%3=0
      ·have j:au Q:=(d.out.2 ⟨by omega,rfl,rfl,by omega,by rw[g.out];omega,nr⟩:Q);have l:((n:Int)%3 !=0)=false:=by rw[di];omega
       go_enter func106,ntmps106
       go_wp2_with fail
       go_ret;exact .inl ⟨j.out,rfl,rfl⟩
      ·have c:au (¬Q):=(fun f=>nr (d.out.1 f).2.2.2.2.2:¬_);have l:((n:Int)%3 !=0)=true:=by rw[ig];omega
       go_enter func106,ntmps106
       go_wp2_with fail
       refine(dV.out _ _ c.out).mono ?_;rintro e w' ⟨a,rfl,hb⟩;go_wp2_with fail
       go_ret;exact .inr ⟨a,rfl,c.out,hb⟩
 ·have d3:((K:Int)==3)=false:=by rw[aI];omega
  have g:au (3*(if K=3 then pw D else 256)=768):=(by rw[ax s]:_=_);by_cases i:ne=0;rotate_left
  ·have c:au (¬Q):=(fun f=>i (d.out.1 f).2.1:¬_);have p:0<ne:=by omega
   go_enter func106,ntmps106
   go_wp2_with fail
   refine(dV.out _ _ c.out).mono ?_;rintro e w' ⟨a,rfl,hb⟩;go_wp2_with fail
   go_ret;exact .inr ⟨a,rfl,c.out,hb⟩
  subst i;cases iW with
  |true=>
   have c:au (¬Q):=(fun f=>Bool.noConfusion (d.out.1 f).2.2.1:¬_);go_enter func106,ntmps106
   go_wp2_with fail
   refine(dV.out _ _ c.out).mono ?_;rintro e w' ⟨a,rfl,hb⟩;go_wp2_with fail
   go_ret;exact .inr ⟨a,rfl,c.out,hb⟩
  |false=>
   by_cases q:n<3
   ·have c:au (¬Q):=(fun f=>by have:=(d.out.1 f).2.2.2.1;omega:¬_);go_enter func106,ntmps106
    go_wp2_with fail
    refine(dV.out _ _ c.out).mono ?_;rintro e w' ⟨a,rfl,hb⟩;go_wp2_with fail
    go_ret;exact .inr ⟨a,rfl,c.out,hb⟩
   ·have e3:decide ((n:Int)<3)=false:=aS (by omega);by_cases nm:768<n
    ·have c:au (¬Q):=(fun f=>by have:=(d.out.1 f).2.2.2.2.1;rw[g.out]at this;omega:¬_);have k:decide ((768:Int)<(n:Int))=true:=aZ (by omega);go_enter func106,ntmps106
     go_wp2_with fail
     refine(dV.out _ _ c.out).mono ?_;rintro e w' ⟨a,rfl,hb⟩;go_wp2_with fail
     go_ret;exact .inr ⟨a,rfl,c.out,hb⟩
    ·have k:decide ((768:Int)<(n:Int))=false:=aS (by omega);by_cases nr:n%3=0
     ·have j:au Q:=(d.out.2 ⟨by omega,rfl,rfl,by omega,by rw[g.out];omega,nr⟩:Q);have l:((n:Int)%3 !=0)=false:=by rw[di];omega
      go_enter func106,ntmps106
      go_wp2_with fail
      go_ret;exact .inl ⟨j.out,rfl,rfl⟩
     ·have c:au (¬Q):=(fun f=>nr (d.out.1 f).2.2.2.2.2:¬_);have l:((n:Int)%3 !=0)=true:=by rw[ig];omega
      go_enter func106,ntmps106
      go_wp2_with fail
      refine(dV.out _ _ c.out).mono ?_;rintro e w' ⟨a,rfl,hb⟩;go_wp2_with fail
      go_ret;exact .inr ⟨a,rfl,c.out,hb⟩
theorem UR(w:af)(kb base W H D K:Nat)(I:Bool)(ev:ay)(E:List (Nat×Nat×Nat×Nat))(iW:Bool)(cv:ay)(C:List Nat)(h:iT w kb base W H D K I ev E iW cv C)(hK:K<=255)(d:E.length<=1000):
 aH prog 61 #[.pointer (some ⟨kb,0,none⟩)] w fun e w'=>
  (¬(K=3/\E.length=0)/\e= .returned .nilIface/\w'=w)\/
  (∃a,e= .returned (.iface 93 (.pointer (some a)))/\(K=3/\E.length=0)/\aA w.heap.size w w'):=by
 obtain⟨c2,c3,c5,c6,c7,_⟩:=h.cells;obtain⟨la,cap,rfl⟩:=lZ h.lU;clear c7 c2 c6 h;generalize E.length=ne at*;by_cases c:K=3
 ·subst c;by_cases b:ne=0
  ·subst b;go_enter func61,ntmps61
   go_wp2_with fail
   refine(cZ _ _).mono ?_;rintro e w' ⟨rfl,rfl⟩;go_wp2_with fail
   go_ret;exact .inr ⟨_,rfl,by first|exact⟨rfl,rfl⟩|simp,(aV _ _).alloc (ah _) _⟩
  ·have f:((ne:Int)==0)=false:=by rw[aI];omega
   go_enter func61,ntmps61
   go_wp2_with fail
   go_ret;exact .inl ⟨fun h=>b h.2,rfl,rfl⟩
 ·have d3:((K:Int)==3)=false:=by rw[aI];omega
  go_enter func61,ntmps61
  go_wp2_with fail
  go_ret;exact .inl ⟨fun h=>c h.1,rfl,rfl⟩
end Pr
namespace Pr
open Go.RowKit Rf Cr
def xQ(x sx y sy W H:Nat):ay:= .agg #[.int .i64 (x:Int),.int .i64 (sx:Int),.int .i64 (y:Int),.int .i64 (sy:Int),.int .i64 (W:Int),.int .i64 (H:Int)]
theorem Dz(rb bits x sx y sy W H:Nat)(w:af)(a:rb<w.heap.size)(c0:w.cell? ⟨rb,0,none⟩=some (.int .i64 (bits:Int)))(hb:bits<=64)(hW:W<=4294967296):
 aH prog 98 #[.pointer (some ⟨rb,0,none⟩),xQ x sx y sy W H] w fun e w'=>e= .returned (.int .i64 (((W*bits+7)/8:Nat):Int))/\aA w.heap.size w w':=by
 have hm:W*bits<=4294967296*64:=bD hW hb;have hmul:(W:Int)*(bits:Int)=((W*bits:Nat):Int):=by rw[jK]
 have b:∀o,(w.alloc o).cell? ⟨rb,0,none⟩=some (.int .i64 (bits:Int)):=fun o=>(aQ (ai w o rb a)).trans c0;unfold xQ;generalize W*bits=M at*;clear c0;go_enter func98,ntmps98
 go_wp2_with fail
 go_quiet (fail)
 go_wp2_with fail
 go_ret;exact⟨bP (by first|rfl|omega),lI.lJ ((aV _ _).alloc (ah _) _)⟩
open gI (cut fK dZ gy gW h_ bQ gQ fO dw bz gu dL)
theorem Yb(w:af):(Instr.index 42 (.agg #[.int .i64 256,.int .i64 1]) (.int .i64 0)).run prog w= .ok (.int .i64 256) w:=by kernel_rfl
theorem Yc(w:af):(Instr.index 42 (.agg #[.int .i64 256,.int .i64 1]) (.int .i64 1)).run prog w= .ok (.int .i64 1) w:=by kernel_rfl
def z_(s:ByteArray)(t B:Nat):Prop:=t+2<=s.size/\256*aF s t+aF s (t+1)<B
theorem UT(S:Src)(hS:S.Ok)(s:ByteArray)(t B:Nat)(w:af)(hK:S.K w s t)(I:t<=s.size)(P:B<=65536):
 aH prog 125 #[.iface S.T (.pointer (some S.a)),.int .i64 (B:Int)] w fun e w'=>
  (z_ s t B/\e= .returned (.tuple #[.int .u16 ((256*aF s t+aF s (t+1):Nat):Int),.nilIface])/\S.K w' s (t+2)/\Fr S.F w w')\/
  ((∃T a,e= .returned (.tuple #[.int .u16 0,.iface T (.pointer (some a))])/\dJ S w' T a (¬z_ s t B))/\S.KE w'/\Fr S.F w w'):=by
 have g:au (z_ s t B↔t+2<=s.size/\256*aF s t+aF s (t+1)<B):=Iff.rfl;obtain⟨Q,H⟩:∃Q:Prop,Q=z_ s t B:=⟨_,rfl⟩;rw[<-H]at g|-;clear H;have r:=bY s t;have u:=bY s (t+1);obtain⟨o,h⟩:∃y,y=aF s t:=⟨_,rfl⟩;obtain⟨q,i⟩:∃y,y=aF s (t+1):=⟨_,rfl⟩;rw[<-h]at g r|-;rw[<-i]at g u|-;have v:au _:=h;have x:au _:=i;clear h i;obtain⟨V,z⟩:∃V:Nat,V=256*o+q:=⟨_,rfl⟩;rw[<-z];have J:au _:=z;clear z;go_enter func125,ntmps125
 go_wp2_with fail
 go_loopw [6,12] (fun L iv wr=> ∃j c:Nat,j<=2/\iv= .int .i64 (j:Int)/\L= .int .i64 (c:Int)/\((j=0/\c=0)\/(j=1/\c=256*o)\/(j=2/\c=256*o+q/\c<B))/\t+j<=s.size/\S.K wr s (t+j)/\Fr S.F w wr) (fun _ iv _=>2-(bH iv).toNat)
 case atStart=>exact⟨0,0,aX _,rfl,rfl,.inl ⟨rfl,rfl⟩,I,hK,Fr.refl _ _⟩
 case round=>
  obtain⟨j,c,R,rfl,rfl,A,hle,l,hF⟩:=hrel;clear hK;rcases A with⟨rfl,rfl⟩|⟨rfl,A⟩|⟨rfl,A,M⟩
  ·have m:=hS.one wr s (t+0) l hle;rw[cO,<-v.out]at m;have C:=Yb wr;go_wp2_with fail
   refine m.mono ?_;clear m;rintro e w1 (⟨b,rfl,d,f⟩|⟨N,T,a,rfl,b,d,f⟩);rotate_left
   ·have D:dJ S w1 T a (¬Q):=b.imp (fun b n=>b (by have:=(g.out.1 n).1;omega));clear b;go_wp2_with fail
    go_ret2;exact .inr ⟨⟨T,a,rfl,D⟩,d,hF.trans f⟩
   by_cases p:B<=256*o
   ·have E:au (¬Q):=(fun n=>by have:=(g.out.1 n).2;omega:¬_);go_wp2_with fail
    refine(cZ _ _).mono ?_;rintro e w3 ⟨rfl,rfl⟩;go_wp2_with fail
    go_ret2;exact .inr ⟨⟨_,_,rfl,dJ.uh E.out⟩,hS.pF (hS.ke d) (fun k G=>ai _ _ k G),(hF.trans f).alloc _⟩
   ·go_wp2_with fail
    go_roundw
    case rel=>exact⟨1,256*o,by omega,rfl,by go_num,.inr (.inl ⟨rfl,rfl⟩),by omega,d,hF.trans f⟩
    case measure=>simp[bH]
  ·have m:=hS.one wr s (t+1) l hle;rw[<-x.out]at m;have C:=Yc wr;go_wp2_with fail
   refine m.mono ?_;clear m;rintro e w1 (⟨b,rfl,d,f⟩|⟨N,T,a,rfl,b,d,f⟩);rotate_left
   ·have D:dJ S w1 T a (¬Q):=b.imp (fun b n=>b (by have:=(g.out.1 n).1;omega));clear b;go_wp2_with fail
    go_ret2;exact .inr ⟨⟨T,a,rfl,D⟩,d,hF.trans f⟩
   by_cases p:B<=c+q
   ·have E:au (¬Q):=(fun n=>by have:=(g.out.1 n).2;omega:¬_);go_wp2_with fail
    refine(cZ _ _).mono ?_;rintro e w3 ⟨rfl,rfl⟩;go_wp2_with fail
    go_ret2;exact .inr ⟨⟨_,_,rfl,dJ.uh E.out⟩,hS.pF (hS.ke d) (fun k G=>ai _ _ k G),(hF.trans f).alloc _⟩
   ·go_wp2_with fail
    go_roundw
    case rel=>exact⟨2,c+q,by omega,rfl,by go_num,.inr (.inr ⟨rfl,by omega,by omega⟩),by omega,d,hF.trans f⟩
    case measure=>simp[bH]
  ·have O:au Q:=(g.out.2 ⟨hle,by omega⟩:Q);go_wp2_with fail
   go_ret2;exact .inl ⟨O.out,uP (by rw[J.out];omega),l,hF⟩
theorem Qk(W H D K:Nat)(I:Bool)(w:af):
 aH prog 57 #[qc W H D K I] w fun e w'=> ∃kb,e= .returned (.pointer (some ⟨kb,0,none⟩))/\w.heap.size<=kb/\aA w.heap.size w w'/\∀base,iT w' kb base W H D K I (.slice none 0 0) [] false (.slice none 0 0) []:=by
 unfold qc;go_enter func57,ntmps57
 go_wp2_with fail
 go_ret;refine⟨_,rfl,by simp,(((aV _ _).alloc (ah _) _).alloc (by simp) _),fun base=>⟨?_,eX _ _ _ _,eX _ _ _ _⟩⟩;have e:=aP (w.alloc (.cells #[.int .i64 (W:Int),.int .i64 (H:Int),.int .i64 (D:Int),.int .u8 (K:Int),.bool I] 102)) (.cells #[.int .i64 (W:Int),.int .i64 (H:Int),.int .i64 (D:Int),.int .u8 (K:Int),.bool I,.slice none 0 0,.bool false,.slice none 0 0] 173);rw[sG]at e;exact e
theorem abg:(prog.info? 190).map (fun i=>(i.zero,i.size,i.bytes))=some (some (.agg #[.int .u16 0,.int .u16 0,.int .u16 0,.int .u16 0]),4,8):=by kernel_rfl
def kY(s:ByteArray)(q:Nat):Nat×Nat×Nat×Nat:=(dL (aF s q) 8,dL (aF s (q+1)) 8,dL (aF s (q+2)) 8,65535)
def wP(s:ByteArray)(p:Nat):Nat->List (Nat×Nat×Nat×Nat)
 |0=>[]
 |m+1=>wP s p m++[kY s (p+3*m)]
theorem vI(s:ByteArray)(p m:Nat):(wP s p m).length=m:=by
 induction m with
 |zero=>rfl
 |succ m a=>simp[wP,a]
def Ql(s:ByteArray)(q i:Nat):Obj:= .cells #[.int .u16 ((if 0<i then dL (aF s q) 8 else 0:Nat):Int),.int .u16 ((if 1<i then dL (aF s (q+1)) 8 else 0:Nat):Int),.int .u16 ((if 2<i then dL (aF s (q+2)) 8 else 0:Nat):Int),.int .u16 65535] 190 (0,0)
theorem Yd{w:af}{b:Nat}{s:ByteArray}{q i:Nat}(h:w.heap[b]?=some (Ql s q i))(hi:i<3):(w.setCell ⟨b,i,none⟩ (.int .u16 ((dL (aF s (q+i)) 8:Nat):Int))).heap[b]?=some (Ql s q (i+1)):=by refine(bF h i _).trans ?_;rcases(by omega:i=0\/i=1\/i=2)with rfl|rfl|rfl<;>simp[Ql]
theorem UU{w:af}{b:Nat}{s:ByteArray}{q i:Nat}(h:w.heap[b]?=some (Ql s q i))(hi:i<3):w.cell? ⟨b,i,none⟩=some (.int .u16 0):=by refine(cell_of h i).1.trans ?_;rcases(by omega:i=0\/i=1\/i=2)with rfl|rfl|rfl<;>simp
theorem UW{w:af}{b:Nat}{s:ByteArray}{q:Nat}(h:w.heap[b]?=some (Ql s q 3)):w.cell? ⟨b,0,none⟩=some (.int .u16 (((kY s q).1:Nat):Int))/\w.cell? ⟨b,1,none⟩=some (.int .u16 (((kY s q).2.1:Nat):Int))/\w.cell? ⟨b,2,none⟩=some (.int .u16 (((kY s q).2.2.1:Nat):Int))/\w.cell? ⟨b,3,none⟩=some (.int .u16 65535):=by exact⟨by refine(cell_of h 0).1.trans ?_;simp[kY],by refine(cell_of h 1).1.trans ?_;simp[kY],by refine(cell_of h 2).1.trans ?_;simp[kY],by refine(cell_of h 3).1.trans ?_;simp⟩
theorem r_{w:af}{base d:Nat}{T:aW}{z:Nat}{v:ay}{n:Nat}{xs:List ay}(h:w.ownsRow base T z v n xs)(hb:d<=base):w.ownsRow d T z v n xs:=by
 refine⟨h.1,?_⟩;rcases h.2 with h|⟨g,cap,cur,rfl,a,b,c⟩
 ·exact .inl h
 ·exact .inr ⟨g,cap,cur,rfl,by omega,b,c⟩
def UX(S:Src)(cb kb:Nat)(k:Nat):Prop:=jc S cb k\/k=kb
def Fh(s:ByteArray)(p n D K ne:Nat)(iW:Bool):Prop:=Fg D K ne iW n/\p+n<=s.size
theorem mP.ne{S:Src}{cb:Nat}{w:af}(h:mP S cb w){k:Nat}{cur:Array ay}{T:aW}{f:Nat×Nat}(a:w.heap[k]?=some (.cells cur T f))(b:LU T=false):¬jc S cb k:=by
 rintro(e|rfl)
 ·exact h.ok.ne h.k a b e
 ·obtain⟨num,name,left,sum,hb⟩:=h.oD;rw[hb]at a;cases a;exact Bool.noConfusion b
structure SQ(S:Src)(cb kb:Nat)(w wi:af)(W H D K:Nat)(I iW:Bool)(cv v:ay)(s:ByteArray)(p m b i:Nat):Prop where
 e:wi.heap[b]?=some (Ql s (p+3*m) i)
 k:wi.heap[kb]?=some (qF W H D K I v iW cv)
 o:wi.ownsRow w.heap.size 190 4 v m (fP (wP s p m))
 ne:v.ownBlock≠some b
 b:w.heap.size<=b
 f:Fr (UX S cb kb) w wi
theorem SQ.fr{S:Src}{cb kb:Nat}{w wi w2:af}{W H D K:Nat}{I iW:Bool}{cv v:ay}{s:ByteArray}{p m b i:Nat}(h:SQ S cb kb w wi W H D K I iW cv v s p m b i)(d:mP S cb wi)(c:Fr (jc S cb) wi w2):SQ S cb kb w w2 W H D K I iW cv v s p m b i:=by
 refine⟨(c.block b (ak h.e) (d.ne h.e (by decide))).trans h.e,(c.block kb (ak h.k) (d.ne h.k (by decide))).trans h.k,fE h.o (fun k a=>c.block k (h.o.lt k a).2 (fun e=> ?_)),h.ne,h.b,h.f.trans (c.mono (fun k a=> .inl a))⟩;rcases h.o.2 with⟨rfl,_⟩|⟨g,cap,cur,rfl,_,j,_⟩
 ·simp[Value.ownBlock]at a
 ·simp[Value.ownBlock]at a;subst a;exact d.ne j (by decide) e
theorem SQ.set{S:Src}{cb kb:Nat}{w wi:af}{W H D K:Nat}{I iW:Bool}{cv v:ay}{s:ByteArray}{p m b i:Nat}(h:SQ S cb kb w wi W H D K I iW cv v s p m b i)(hi:i<3):SQ S cb kb w (wi.setCell ⟨b,i,none⟩ (.int .u16 ((dL (aF s (p+3*m+i)) 8:Nat):Int))) W H D K I iW cv v s p m b (i+1):=by
 have a:kb≠b:=fun e=>by have h1:=h.k;rw[e,h.e]at h1;simp[Ql,qF]at h1
 refine⟨Yd h.e hi,(aC i _ a).trans h.k,fE h.o (fun k c=>aC i _ (fun e=>h.ne (e▸c))),h.ne,h.b,⟨h.f.os,h.f.tape,h.f.output,by simp;exact h.f.size,fun k c hF=>(aC i _ (fun e=>by have:=h.b;omega)).trans (h.f.block k c hF)⟩⟩
theorem SQ.cr{S:Src}{cb kb:Nat}{w wi:af}{W H D K:Nat}{I iW:Bool}{cv v:ay}{s:ByteArray}{p m b i:Nat}(h:SQ S cb kb w wi W H D K I iW cv v s p m b i)(hS:S.base<=w.heap.size){q left:Nat}{name:ByteArray}{l:List UInt8}(c:CR S cb s wi q name left l)(j:Nat)(x:ay):CR S cb s (wi.setCell ⟨b,j,none⟩ x) q name left l:=
 c.over (fun k a=>aC j x (fun e=>by
  rcases a with a|a
  ·exact c.e.ne (e▸h.e) (by decide) a
  ·have:=h.b;omega))
theorem DY(S:Src)(cb:Nat)(s:ByteArray)(w:af)(eb lb:bG)(p n:Nat)(name:ByteArray)(l:List UInt8)(h:CR S cb s w p name n l)(hs:ja w eb S.fb lb S.base)
 (kb base W H D K:Nat) (I:Bool) (ev:ay) (E:List (Nat×Nat×Nat×Nat)) (iW:Bool) (cv:ay) (C:List Nat) (O:iT w kb base W H D K I ev E iW cv C) (a4:E.length=0->ev= .slice none 0 0) (e0:S.base<=kb) (b4:base<=w.heap.size) (hD:eG D) (hK:K<=255) (hE:E.length<=1000):
 aH prog 89 #[.pointer (some ⟨kb,0,none⟩),.pointer (some ⟨cb,0,none⟩)] w fun e w'=>
  (Fh s p n D K E.length iW/\e= .returned .nilIface/\CR S cb s w' (p+n) name 0 (l++cut s p n)/\(∃b5,iT w' kb base W H D K I b5 (wP s p (n/3)) iW cv C)/\Fr (UX S cb kb) w w')\/
  ((∃T a,e= .returned (.iface T (.pointer (some a)))/\dJ S w' T a (¬Fh s p n D K E.length iW))/\mP S cb w'/\Fr (UX S cb kb) w w'):=by
 have P:au (Fh s p n D K E.length iW↔Fg D K E.length iW n/\p+n<=s.size):=Iff.rfl;obtain⟨Q,hQ⟩:∃Q:Prop,Q=Fh s p n D K E.length iW:=⟨_,rfl⟩;rw[<-hQ]at P|-;clear hQ;have b6:=h.lf;have Z:=tq S cb s w p n name l h;have hM:=Qj w kb base W H D K n I ev E iW cv C O hD hK b6 hE;have b7:¬jc S cb kb:=h.e.ne O.oD (by decide);have b8:au _:=O.oD;have b9:au (∀w',Fr (UX S cb kb) w w'->w'.ownsRow base 55 1 cv C.length (dm C)):=(fun w' hf=>fE O.zZ (fun k d=>hf.block k (O.zZ.lt k d).2 (fun e=>by
  rcases O.zZ.2 with⟨rfl,_⟩|⟨g,cap,cur,rfl,_,hg,_⟩
  ·simp[Value.ownBlock]at d
  ·simp[Value.ownBlock]at d;subst d;rcases e with e|rfl
   ·exact h.e.ne hg (by decide) e
   ·have:=O.oD;rw[hg]at this;simp[qF]at this)):∀w',_)
 have e2:=ak O.oD;go_enter func89,ntmps89
 go_wp2_with fail
 refine Z.mono ?_;rintro e w1 ⟨rfl,hw⟩;have hw:=hw.symm;subst hw;clear Z;go_wp2_with fail
 refine hM.mono ?_;clear hM;rintro e w1 (⟨J,rfl,hw⟩|⟨a,rfl,c1,j⟩);rotate_left
 ·have HN:au (¬Q):=(fun hq=>c1 (P.out.1 hq).1:¬_);go_wp2_with fail
  go_ret;exact .inr ⟨⟨_,_,rfl,dJ.uh HN.out⟩,h.e.grow (fun k d=>j.block k d),⟨j.os,j.tape,j.output,j.size,fun k d _=>j.block k d⟩⟩
 have hw:=hw.symm;subst hw;have c2:E.length=0:=J.2.1;have e4:n%3=0:=J.2.2.2.2.2;have e5:n<=200000:=by
  have:=J.2.2.2.2.1;have hp:(if K=3 then pw D else 256)<=65536:=by
   split
   ·rcases hD with rfl|rfl|rfl|rfl|rfl<;>decide
   ·omega
  omega
 have c3:=a4 c2;subst c3;have c5:au _:=J;clear J a4 hE O;go_wp2_with fail
 go_loopg [6] (n+1) (fun gk _ wr=> ∃(m:Nat) (v:ay),n-3*m<gk/\3*m<=n/\CR S cb s wr (p+3*m) name (n-3*m) (l++cut s p (3*m))/\wr.heap[kb]?=some (qF W H D K I v iW cv)/\wr.ownsRow w.heap.size 190 4 v m (fP (wP s p m))/\Fr (UX S cb kb) w wr)
 case atStart=>exact⟨0,_,by omega,by omega,by simpa [dZ]using h,b8.out,eX _ _ _ _,Fr.refl _ _⟩
 case round=>
  obtain⟨m,v,c6,hm,hR,R,B,hF⟩:=hrel;have Z:=tq S cb s wr _ _ name _ hR;obtain⟨r,hr⟩:∃r,r=n-3*m:=⟨_,rfl⟩;rw[<-hr]at Z hR c6;have e6:r<=200000:=by omega
  by_cases h0:r=0
  ·subst h0;have c7:au (n=3*m):=(by omega:_=_);clear hr;go_wp2_with fail
   refine Z.mono ?_;rintro e w1 ⟨rfl,hw⟩;have hw:=hw.symm;subst hw;go_wp2_with fail
   go_ret;have c8:=c7.out;have e1:n/3=m:=by omega
   rw[e1];rw[<-c8]at hR;exact .inl ⟨P.out.2 ⟨c5.out,hR.le⟩,rfl,hR,⟨v,R,by rw[vI];exact r_ B b4,b9.out _ hF⟩,hF⟩
  ·have e7:0<r:=by omega
   have e8:3<=r:=by omega
   have HR:au _:=hr;clear hr;go_wp2_with fail
   refine Z.mono ?_;rintro e w1 ⟨rfl,hw⟩;have hw:=hw.symm;subst hw;clear Z;have q:=ak R;have a0:SQ S cb kb w (wr.alloc (.cells #[.int .u16 0,.int .u16 0,.int .u16 0,.int .u16 65535] 190)) W H D K I iW cv v s p m wr.heap.size 0:=⟨aP wr _,(ai _ _ kb q).trans R,B.alloc _,fun e=>Nat.lt_irrefl _ (B.lt _ e).2,hF.size,hF.alloc _⟩;have a5:CR S cb s (wr.alloc (.cells #[.int .u16 0,.int .u16 0,.int .u16 0,.int .u16 65535] 190)) (p+3*m) name r (l++cut s p (3*m)):=hR.grow (fun k d=>ai _ _ k d);go_wp2_with fail
   obtain⟨bE,F⟩:∃b,b=wr.heap.size:=⟨_,rfl⟩;rw[<-F]at a0;rw[<-F];clear F;go_loopw [21] (fun iv wi=> ∃i:Nat,i<=3/\iv= .int .i64 (i:Int)/\CR S cb s wi (p+3*m+i) name (r-i) (l++cut s p (3*m)++cut s (p+3*m) i)/\SQ S cb kb w wi W H D K I iW cv v s p m bE i) (fun iv _=>3-(bH iv).toNat)
   case atStart=>exact⟨0,by omega,rfl,by simpa [dZ]using a5,a0⟩
   case round=>
    obtain⟨i,hi,rfl,G,c⟩:=hrel;clear a5 a0;have c9:=h.e.lt.2;by_cases a6:i<3
    ·obtain⟨q1,a1⟩:∃q1,r-i=q1+1:=⟨r-i-1,by omega⟩;rw[a1]at G;have d0:au _:=a1;clear a1;have a7:ja wr eb S.fb lb S.base:=hs.over (fun k d=>c.f.block k (by omega) (fun e=>by
      rcases e with(e|e)|e
      ·have:=h.ok.low k e;omega
      ·have:=h.base;omega
      ·omega))
     have hN:=yN S cb s wr eb lb _ q1 name _ G a7;have hb:=bY s (p+3*m+i);have x:=fun w'=>Ff (aF s (p+3*m+i)) 8 w' (by omega) (.inr (.inr (.inr (.inl rfl))));obtain⟨z,hz⟩:∃z,z=dL (aF s (p+3*m+i)) 8:=⟨_,rfl⟩;rw[<-hz]at x;have HZ:au _:=hz;clear hz;generalize aF s (p+3*m+i)=y at hb x hN;have U:au _:=G;have V:au _:=c;clear G c a7;go_wp2_with fail
     refine hN.mono ?_;clear hN;rintro e w2 (⟨hp,rfl,g1,g2⟩|⟨⟨T,a,rfl,g0⟩,g1,g2⟩)
     ·have X:=SQ.fr V.out (CR.e U.out) g2;have ce:=UU X.e a6;have fe:=(cell_of X.e i).2;have a8:au _:=X;clear X;go_wp2_with fail
      refine(x _).mono ?_;rintro e w3 ⟨rfl,hw⟩;have hw:=hw.symm;subst hw;go_wp2_with fail
      go_roundw
      case rel=>
       refine⟨i+1,by omega,by go_num,?_,?_⟩
       ·have e1:=gy s (p+3*m) i hp;rw[e1,<-bI,show r-(i+1)=q1 by have:=d0.out;omega];exact SQ.cr a8.out c9 g1 i _
       ·rw[HZ.out];exact SQ.set a8.out a6
      case measure=>simp[bH];omega
     ·have HW:dJ S w2 T a (¬Q):=g0.imp (fun g0 hq=>g0 (by have:=(P.out.1 hq).2;have:=HR.out;omega));clear g0;go_wp2_with fail
      go_ret;exact .inr ⟨⟨T,a,rfl,HW⟩,g1,(SQ.fr V.out (CR.e U.out) g2).f⟩
    ·have e3:i=3:=by omega
     subst e3;obtain⟨la,cap,rfl⟩:=lZ c.o;obtain⟨x0,x1,x2,x3⟩:=UW c.e;have k5:wr.cell? ⟨kb,5,none⟩=some (.slice la m cap):=by simpa [qF]using(cell_of c.k 5).1
     have a9:qE (kY s (p+3*m))=[.int .u16 (((kY s (p+3*m)).1:Nat):Int),.int .u16 (((kY s (p+3*m)).2.1:Nat):Int),.int .u16 (((kY s (p+3*m)).2.2.1:Nat):Int),.int .u16 65535]:=rfl;have b0:au _:=a9;clear a9;obtain⟨z0,L⟩:∃z,z=(((kY s (p+3*m)).1:Nat):Int):=⟨_,rfl⟩;obtain⟨z1,q⟩:∃z,z=(((kY s (p+3*m)).2.1:Nat):Int):=⟨_,rfl⟩;obtain⟨z2,M⟩:∃z,z=(((kY s (p+3*m)).2.2.1:Nat):Int):=⟨_,rfl⟩;rw[<-L,<-q,<-M]at b0;rw[<-L]at x0;rw[<-q]at x1;rw[<-M]at x2;clear L q M;have U:au _:=G;have V:au _:=c;have b1:au _:=c.o;have e9:w.heap.size<=wr.heap.size:=c.f.size;have f0:m<=100000:=by omega
     have a2:=c.k;have F:=c.e;have d1:(Value.slice la m cap).ownBlock≠some kb:=f_ c.o c.k (by decide);have d2:=c.ne;have b2:=ak a2;have b3:=ak F;have d3:au _:=a2;clear G c B R hR a2 F;obtain⟨i0,d4,L,q,M⟩:=info_parts abg;go_wp2_with fail
     go_region_law (first
      |((refine step_append_lies _ (by rfl) _ _ _ (by rfl) w.heap.size 190 i0 _ 4 8 underlying171 d4 L q M rfl (by omega) (.slice la m cap) m (fP (wP s p m)) (by rfl) (by exact(show wr.ownsRow _ _ _ _ _ _ from b1.out).alloc _) ⟨wr.heap.size,0,none⟩ 1 1 [.int .u16 z0,.int .u16 z1,.int .u16 z2,.int .u16 65535] (by rfl) rfl (zO (cs:= #[.int .u16 z0,.int .u16 z1,.int .u16 z2,.int .u16 65535]) (t:=190) (fr:=(0,0)) (by exact aP wr _)) (by intro u hu;simp at hu;rcases hu with rfl|rfl|rfl|rfl<;>rfl) (by omega) (by unfold maxLen;omega) (by omega) (by simp;omega) _ rfl ?_;intro ng Y w4 N A f1 d8;have kB:w4.heap[kb]?=some (qF W H D K I (.slice la m cap) iW cv):=((A.block kb (by simp;omega) d1.symm).trans (ai wr _ kb b2)).trans d3.out;have eS:w4.heap[bE]?=wr.heap[bE]?:=(A.block bE (by simp;omega) d2.symm).trans (ai wr _ bE b3);have y5:w4.cell? ⟨kb,5,none⟩=some (.slice la m cap):=(by simpa [qF]using(cell_of kB 5).1);have g5:=(cell_of kB 5).2;have y0:=(aQ eS).trans x0;have y1:=(aQ eS).trans x1;have y2:=(aQ eS).trans x2;have y3:=(aQ eS).trans x3)))
     all_goals
      go_wp2_with fail
      go_roundg (r-3+1)
      case measure=>omega
      case rel=>
       have d5:=U.out;have d6:=V.out;have a3:wr.ownsRow w.heap.size 190 4 (.slice la m cap) m (fP (wP s p m)):=b1.out;have hold:∀k,k<wr.heap.size->k≠kb->(Value.slice la m cap).ownBlock≠some k->(w4.setCell ⟨kb,5,none⟩ (.slice (some ⟨ng,0,none⟩) (m+1) Y)).heap[k]?=wr.heap[k]?:=fun k h1 h2 h3=>((aC 5 _ h2).trans (A.block k (by simp;omega) h3.symm)).trans (ai wr _ k h1);have hr:=HR.out;refine⟨m+1,.slice (some ⟨ng,0,none⟩) (m+1) Y,by omega,by omega,?_,(bF kB 5 _).trans (by simp[qF]),?_,?_⟩
       ·have hz:CR S cb s wr (p+3*(m+1)) name (n-3*(m+1)) (l++cut s p (3*(m+1))):=by
         rw[show p+3*(m+1)=p+3*m+3 by omega,show n-3*(m+1)=r-3 by omega,show 3*(m+1)=3*m+3 by omega,h_,<-bI];exact d5
        refine hz.over (fun k d=>hold k (hz.e.lt.1 k d) (fun e=> ?_) (fun e=> ?_))
        ·rcases d with d|d
         ·exact b7 (e▸d)
         ·omega
        ·rcases d with d|d
         ·rcases a3.2 with⟨hv,_⟩|⟨g,d9,cur,hv,_,hg,_⟩
          ·rw[hv]at e;simp[Value.ownBlock]at e
          ·rw[hv]at e;simp[Value.ownBlock]at e;subst e;exact hz.e.ne hg (by decide) d
         ·have:=(a3.lt k e).1;omega
       ·have d7:fP (wP s p (m+1))=fP (wP s p m)++[.int .u16 z0,.int .u16 z1,.int .u16 z2,.int .u16 65535]:=by
         rw[<-b0.out];simp[fP,wP]
        rw[d7];exact fE N (fun k d=>aC 5 _ (fun e=>f_ N kB (by decide) (e▸d)))
       ·have hf:=d6.f;exact⟨A.os.trans hf.os,A.tape.trans hf.tape,A.output.trans hf.output,by have:=A.size;simp at this|-;omega,fun k d hF=>(hold k (by omega) (fun e=>hF (.inr e)) (fun e=>by have:=(a3.lt k e).1;omega)).trans (hf.block k d hF)⟩
theorem JX:(prog.info? 55).map (fun i=>(i.zero,i.size,i.bytes))=some (some (.int .u16 0),1,2):=by kernel_rfl
theorem Qm{wr:af}{ops:Array Oper}{rest:List Oper}{o:Oper}{a:Act}{Q:Exit->Act->af->Prop}(d:o.guard=none)(s x:Operand)
 (i:o.op= .call {callee:= .builtin .append,args:= #[s,x],argTypes:= #[33,33]}) (base:Nat) (v:ay) (n:Nat) (xs:List ay) (z:Int)
 (b:wr.ownsRow base 55 1 v n xs) (k:a.eval s=v) (l:a.eval x= .slice (some ⟨wr.heap.size,0,none⟩) 1 1) (p:n<=1000000) (hb:base<=wr.heap.size)
 (h:∀v' w',w'.ownsRow base 55 1 v' (n+1) (xs++[.int .u16 z])->(wr.alloc (.cells #[.int .u16 z] 55)).grownBy w' v.ownBlock->wpList prog ops Q rest (a.put o.dst v') w'):
 wpList prog ops Q (o::rest) a (wr.alloc (.cells #[.int .u16 z] 55)):=by
 obtain⟨m,hi,e,f,g⟩:=info_parts JX;refine wpList_append_own _ d s x 33 i base 55 m _ 1 2 underlying33 hi e f g rfl (by decide) v n xs k (b.alloc _) ⟨wr.heap.size,0,none⟩ 1 1 [.int .u16 z] l rfl ?_ ?_ ?_ ?_ ?_ ?_
 ·intro j u c;match j,c with
  |0,c=>simp at c;subst c;simp[Addr.add]
 ·intro u hu;simp at hu;subst hu;rfl
 ·unfold maxLen;omega
 ·omega
 ·simp;omega
 ·intro v' w' h1 h2 _;exact h v' w' h1 h2
def sh(s:ByteArray)(q:Nat):Nat:=256*aF s q+aF s (q+1)
theorem acV(s:ByteArray)(p n B:Nat)(b:2<=n)(hp:p<=s.size):(z_ (fG s p n) 0 B↔z_ s p B)/\(z_ s p B->sh (fG s p n) 0=sh s p):=by
 have c:=JU s p n hp;have hb:p+2<=s.size->aF (fG s p n) 0=aF s p/\aF (fG s p n) (0+1)=aF s (p+1):=fun h=>⟨lT s p n 0 (by omega) (by omega),lT s p n 1 (by omega) (by omega)⟩;refine⟨⟨fun h=> ?_,fun h=> ?_⟩,fun h=> ?_⟩
 ·have h1:=h.1;have h2:=hb (by omega);have a:=h.2;rw[h2.1,h2.2]at a;exact⟨by omega,a⟩
 ·have h1:=h.1;have h2:=hb h1;refine⟨by omega,?_⟩;rw[h2.1,h2.2];exact h.2
 ·have h2:=hb h.1;unfold sh;rw[h2.1,h2.2]
theorem Qn(S:Src)(cb:Nat)(s:ByteArray)(w:af)(eb lb:bG)(p left B:Nat)(name:ByteArray)(l:List UInt8)(h:CR S cb s w p name (left+2) l)(g:ja w eb S.fb lb S.base)(i:B<=65536):
 aH prog 125 #[.iface 89 (.pointer (some ⟨cb,0,none⟩)),.int .i64 (B:Int)] w fun e w'=>
  (z_ s p B/\e= .returned (.tuple #[.int .u16 ((sh s p:Nat):Int),.nilIface])/\CR S cb s w' (p+2) name left (l++cut s p 2)/\Fr (jc S cb) w w')\/
  ((∃T a,e= .returned (.tuple #[.int .u16 0,.iface T (.pointer (some a))])/\dJ S w' T a (¬z_ s p B))/\mP S cb w'/\Fr (jc S cb) w w'):=by
 obtain⟨f,j⟩:=acV s p (left+2) B (by omega) h.le;refine(UT (Ya S cb s eb lb name p (left+2) l) (MX S cb s eb lb name p (left+2) l h.ok h.base h.le) (fG s p (left+2)) 0 B w ⟨rfl,aX _,g,by simpa [dZ]using h⟩ (aX _) i).mono ?_;rintro e w' (⟨b,rfl,c,d⟩|⟨⟨T,a,rfl,b⟩,c,d⟩)
 ·have b:=f.1 b;obtain⟨_,_,_,c⟩:=c;refine .inl ⟨b,?_,?_,d⟩
  ·have:=j b;unfold sh at this;rw[this];rfl
  ·simpa using c
 ·exact .inr ⟨⟨T,a,rfl,Or.imp (fun q=>⟨q.1,fun k=>q.2 (f.2 k)⟩) id b⟩,c.2,d⟩
def Lr(s:ByteArray)(p:Nat):Nat->List Nat
 |0=>[]
 |m+1=>Lr s p m++[sh s (p+2*m)]
theorem Ec(s:ByteArray)(p m:Nat):(Lr s p m).length=m:=by
 induction m with
 |zero=>rfl
 |succ m a=>simp[Lr,a]
def JY(s:ByteArray)(p n D K:Nat):Prop:=n=2*aT K/\∀j,j<aT K->z_ s (p+2*j) (pw D)
theorem GZ(S:Src)(cb:Nat)(s:ByteArray)(w:af)(eb lb:bG)(p n:Nat)(name:ByteArray)(l:List UInt8)(h:CR S cb s w p name n l)(hs:ja w eb S.fb lb S.base)
 (kb base W H D K:Nat) (I:Bool) (ev:ay) (E:List (Nat×Nat×Nat×Nat)) (iW:Bool) (r:iT w kb base W H D K I ev E iW (.slice none 0 0) []) (b7:S.base<=kb) (a0:base<=w.heap.size) (hD:eG D) (hK:K<=255):
 aH prog 108 #[.pointer (some ⟨kb,0,none⟩),.pointer (some ⟨cb,0,none⟩)] w fun e w'=>
  (JY s p n D K/\e= .returned .nilIface/\CR S cb s w' (p+n) name 0 (l++cut s p n)/\(∃a1,iT w' kb base W H D K I ev E iW a1 (Lr s p (aT K)))/\Fr (UX S cb kb) w w')\/
  ((∃T a,e= .returned (.iface T (.pointer (some a)))/\dJ S w' T a (¬JY s p n D K))/\mP S cb w'/\Fr (UX S cb kb) w w'):=by
 have t:au (JY s p n D K↔n=2*aT K/\∀j,j<aT K->z_ s (p+2*j) (pw D)):=Iff.rfl;obtain⟨Q,hQ⟩:∃Q:Prop,Q=JY s p n D K:=⟨_,rfl⟩;rw[<-hQ]at t|-;clear hQ;have hL:=tq S cb s w p n name l h;have hM:=Be K w hK;have b5:aT K<=4:=by unfold aT;(repeat' split)<;>omega
 have R:¬jc S cb kb:=h.e.ne r.oD (by decide);have a2:au _:=r.oD;have a3:au (∀w',Fr (UX S cb kb) w w'->w'.ownsRow base 190 4 ev E.length (fP E)):=(fun w' u=>fE r.lU (fun k b=>u.block k (r.lU.lt k b).2 (fun e=>by
  rcases r.lU.2 with⟨rfl,_⟩|⟨g,cap,cur,rfl,_,m,_⟩
  ·simp[Value.ownBlock]at b
  ·simp[Value.ownBlock]at b;subst b;rcases e with e|rfl
   ·exact h.e.ne m (by decide) e
   ·have:=r.oD;rw[m]at this;simp[qF]at this)):∀w',_)
 have b8:=ak r.oD;obtain⟨_,c3,_,_,_,_⟩:=r.cells;clear r;generalize aT K=vz at*;go_enter func108,ntmps108
 go_wp2_with fail
 refine hM.mono ?_;rintro e w1 ⟨rfl,hw⟩;have hw:=hw.symm;subst hw;clear hM c3;go_wp2_with fail
 refine hL.mono ?_;rintro e w1 ⟨rfl,hw⟩;have hw:=hw.symm;subst hw;clear hL;by_cases o:n=2*vz;rotate_left
 ·have HN:au (¬Q):=(fun hq=>o (t.out.1 hq).1:¬_);have d1:((n:Int) !=2*(vz:Int))=true:=by rw[ig];omega
  go_wp2_with fail
  refine(cZ _ _).mono ?_;rintro e w3 ⟨rfl,rfl⟩;go_wp2_with fail
  go_ret;exact .inr ⟨⟨_,_,rfl,dJ.uh HN.out⟩,h.e.grow (fun k b=>ai _ _ k b),(Fr.refl _ _).alloc _⟩
 have d1:((n:Int) !=2*(vz:Int))=false:=by rw[di];omega
 have U:au _:=o;have A:∀k,UX S cb kb k->S.base<=k:=fun k e=>by
  rcases e with(e|e)|e
  ·exact h.ok.low k e
  ·have:=h.base;omega
  ·omega
 have V:au _:=A;have HH:au _:=h;clear A o h;go_wp2_with fail
 go_loopw [21] (fun iv wr=> ∃(j:Nat) (v:ay),j<=vz/\iv= .int .i64 (j:Int)/\CR S cb s wr (p+2*j) name (n-2*j) (l++cut s p (2*j))/\wr.heap[kb]?=some (qF W H D K I ev iW v)/\wr.ownsRow w.heap.size 55 1 v j (dm (Lr s p j))/\(∀i,i<j->z_ s (p+2*i) (pw D))/\Fr (UX S cb kb) w wr) (fun iv _=>vz-(bH iv).toNat)
 case atStart=>exact⟨0,_,aX _,rfl,by simpa [dZ]using HH.out,a2.out,eX _ _ _ _,fun i hi=>absurd hi (Nat.not_lt_zero i),Fr.refl _ _⟩
 case round=>
  obtain⟨j,v,hj,rfl,N,q,c,B,hF⟩:=hrel;have C:au _:=B;clear B;by_cases a4:j<vz;rotate_left
  ·have e:j=vz:=by omega
   subst e;go_wp2_with fail
   go_ret;have o:=U.out;rw[<-o,iL]at N;exact .inl ⟨t.out.2 ⟨o,C.out⟩,rfl,N,⟨v,q,a3.out _ hF,by rw[Ec];exact r_ c a0⟩,hF⟩
  obtain⟨q1,x⟩:∃q1,n-2*j=q1+2:=⟨n-2*j-2,by have:=U.out;omega⟩;rw[x]at N;have a5:au _:=x;clear x;have X:ja wr eb S.fb lb S.base:=hs.over (fun k b=>hF.block k (by omega) (fun e=>by have:S.base<=k:=V.out k e;omega));have a6:pw D<=65536:=by rcases hD with rfl|rfl|rfl|rfl|rfl<;>decide
  have hC:=Qn S cb s wr eb lb (p+2*j) q1 (pw D) name _ N X a6;have c2:wr.cell? ⟨kb,2,none⟩=some (.int .i64 (D:Int)):=by simpa [qF]using(cell_of q 2).1
  obtain⟨la,cap,rfl⟩:=lZ c;have a7:au (∀w1,Fr (jc S cb) wr w1->w1.heap[kb]?=some (qF W H D K I ev iW (.slice la j cap))/\w1.ownsRow w.heap.size 55 1 (.slice la j cap) j (dm (Lr s p j))):=(fun w1 u=>⟨(u.block kb (ak q) R).trans q,fE c (fun k b=>u.block k (c.lt k b).2 (fun e=>by
   rcases c.2 with⟨G,_⟩|⟨g,f,cur,G,_,m,_⟩
   ·rw[G]at b;simp[Value.ownBlock]at b
   ·rw[G]at b;simp[Value.ownBlock]at b;subst b;exact N.e.ne m (by decide) e))⟩:∀w1,_)
  have Y:au (Lr s p (j+1)=Lr s p j++[sh s (p+2*j)]):=rfl;have HF:au _:=hF;have b9:j<=4:=by omega
  clear X N hF c q;obtain⟨z,O⟩:∃z,z=sh s (p+2*j):=⟨_,rfl⟩;rw[<-O]at hC Y;clear O;have b6:au (z_ s (p+2*j) (pw D)↔z_ s (p+2*j) (pw D)):=Iff.rfl;rcases hD with rfl|rfl|rfl|rfl|rfl
  all_goals
   go_wp2_with fail
   refine aU hC ?_;clear hC;rintro e w1 (⟨J,rfl,g1,P⟩|⟨⟨T,a,rfl,J⟩,g1,P⟩);rotate_left
   ·have HW:dJ S w1 T a (¬Q):=J.imp (fun J hq=>J ((t.out.1 hq).2 j a4));clear J;go_wp2_with fail
    go_ret;exact .inr ⟨⟨T,a,rfl,HW⟩,g1,Fr.trans HF.out (P.mono (fun k b=> .inl b))⟩
   ·obtain⟨kB,L⟩:=a7.out w1 P;have c7:w1.cell? ⟨kb,7,none⟩=some (.slice la j cap):=by simpa [qF]using(cell_of kB 7).1
    have a8:(Value.slice la j cap).ownBlock≠some kb:=f_ L kB (by decide);have a9:w.heap.size<=w1.heap.size:=aY (Fr.size HF.out) P.size;have b0:j<=1000000:=by omega
    have Z:au _:=kB;have F:au _:=L;have b1:au _:=g1;have b2:au _:=J;have b3:au _:=P;clear J g1 P kB L c2
    go_wp2_with (first
     |(at_builtin;refine Qm rfl _ _ rfl w.heap.size _ j (dm (Lr s p j)) (z:Int) F.out rfl rfl b0 a9 ?_;go_must (intro v' w2 d m;obtain⟨g',f,rfl⟩:=lI.jB d;have y:=lI.zQ m Z.out a8.symm;have c1:=y.2 7;have c5:w2.cell? ⟨kb,7,none⟩=some (.slice la j cap):=by simpa using(cell_of y.1 7).1))
     |go_in)
    go_roundw
    case rel=>
     have M:w1.ownsRow w.heap.size 55 1 (.slice la j cap) j (dm (Lr s p j)):=F.out;have u:Fr (UX S cb kb) w w1:=Fr.trans HF.out (Fr.mono b3.out (fun k b=> .inl b));have hold:∀k,k<w1.heap.size->k≠kb->(Value.slice la j cap).ownBlock≠some k->(w2.setCell ⟨kb,7,none⟩ (.slice (some ⟨g',0,none⟩) (j+1) f)).heap[k]?=w1.heap[k]?:=fun k h1 h2 h3=>((aC 7 _ h2).trans (m.block k (by simp;omega) h3.symm)).trans (ai w1 _ k h1);have x:=a5.out;refine⟨j+1,.slice (some ⟨g',0,none⟩) (j+1) f,by omega,by go_num,?_,(bF y.1 7 _).trans (by simp[qF]),?_,fun i hi=> ?_,?_⟩
     ·have O:CR S cb s w1 (p+2*(j+1)) name (n-2*(j+1)) (l++cut s p (2*(j+1))):=by
       rw[show p+2*(j+1)=p+2*j+2 by omega,show n-2*(j+1)=q1 by omega,show 2*(j+1)=2*j+2 by omega,h_,<-bI];exact b1.out
      refine O.over (fun k b=>hold k (O.e.lt.1 k b) (fun e=> ?_) (fun e=> ?_))
      ·rcases b with b|b
       ·exact R (e▸b)
       ·omega
      ·rcases b with b|b
       ·rcases M.2 with⟨G,_⟩|⟨g,f,cur,G,_,m,_⟩
        ·rw[G]at e;simp[Value.ownBlock]at e
        ·rw[G]at e;simp[Value.ownBlock]at e;subst e;exact O.e.ne m (by decide) b
       ·have:=(M.lt k e).1;omega
     ·have b4:dm (Lr s p (j+1))=dm (Lr s p j)++[.int .u16 (z:Int)]:=by
       rw[Y.out];simp[dm]
      rw[b4];exact fE d (fun k b=>aC 7 _ (fun e=>f_ d y.1 (by decide) (e▸b)))
     ·rcases bW i j with h1|h1
      ·exact C.out i h1
      ·rw[show i=j by omega];exact b2.out
     ·exact⟨m.os.trans u.os,m.tape.trans u.tape,m.output.trans u.output,by have:=m.size;simp at this|-;omega,fun k b hF=>(hold k (by omega) (fun e=>hF (.inr e)) (fun e=>by have:=(M.lt k e).1;omega)).trans (u.block k b hF)⟩
    case measure=>simp[bH];omega
end Pr
namespace Pr
open Go.RowKit Rf
def vK(w:af)(v:ay)(row:List Nat):Prop:=∃g off cap,v= .slice (some ⟨g,off,none⟩) row.length cap/\∀j,j<row.length->w.cell? ⟨g,off+j,none⟩=some (.int .u8 ((row.getD j 0:Nat):Int))
def oO(row:List Nat)(i D:Nat):Nat:=if D=16 then 256*row.getD (2*i) 0+row.getD (2*i+1) 0 else row.getD (i*D/8) 0/2^(8-D-i*D%8)%2^D
theorem Qp(row:List Nat)(i:Nat)(v:ay)(w:af)(j:vK w v row)(hb:∀x∈row,x<=255)(k:2*i+1<row.length)(l:row.length<=1000000000000):
 aH prog 113 #[v,.int .i64 (i:Int),.int .i64 16] w fun e w'=>e= .returned (.int .u16 ((oO row i 16:Nat):Int))/\∃nq,w'=w.drewN nq:=by
 obtain⟨g,off,cap,rfl,c⟩:=j;have h0:=c (2*i) (by omega);have h1:=c (2*i+1) k;have m:=gI.qy hb (2*i);have n:=gI.qy hb (2*i+1);have f:oO row i 16=256*row.getD (2*i) 0+row.getD (2*i+1) 0:=rfl;rw[f];clear f;generalize row.getD (2*i) 0=a at*;generalize row.getD (2*i+1) 0=b at*;clear c hb;have d:bits .or .u16 ((a:Int)*256) (b:Int)=((256*a+b:Nat):Int):=by
  have h:=u16_or_nat (a*256) b (by omega) (by omega);have e:a*256|||b=256*a+b:=by rw[eP a];exact(jZ (i:=8) (by omega) a).symm
  rw[e]at h;rw[<-h];congr 1
 go_enter func113,ntmps113
 go_wp2_with fail
 go_quiet (fail)
 go_wp2_with fail
 go_ret;exact⟨bP (by first|rfl|exact d|omega),_,rfl⟩
theorem iG(x D:Nat)(a:x<65536)(hD:D<=8):bits .and .u16 (x:Int) ((2^D-1:Nat):Int)=((x%2^D:Nat):Int):=by have hp:2^D<=2^8:=bT (by omega) hD;rw[u16_and_nat x (2^D-1) a (by omega),lF]
theorem wQ(row:List Nat)(i D:Nat)(v:ay)(w:af)(p:vK w v row)(hb:∀x∈row,x<=255)(hD:D=1\/D=2\/D=4\/D=8)(n:i*D/8<row.length)(q:row.length<=1000000000000)(hi:i<=1000000000000):
 aH prog 113 #[v,.int .i64 (i:Int),.int .i64 (D:Int)] w fun e w'=>e= .returned (.int .u16 ((oO row i D:Nat):Int))/\∃nq,w'=w.drewN nq:=by
 obtain⟨g,off,cap,rfl,o⟩:=p;have h0:=o (i*D/8) n;have r:=gI.qy hb (i*D/8);have b:oO row i D=row.getD (i*D/8) 0/2^(8-D-i*D%8)%2^D:=by unfold oO;rw[ax (by omega)]
 rw[b];clear b;generalize row.getD (i*D/8) 0=y at*;obtain⟨m,hm⟩:∃m,m=i*D:=⟨_,rfl⟩;have c:(i:Int)*(D:Int)=(m:Int):=by rw[hm];simp
 rw[<-hm]at h0 n|-;clear o hb;rcases hD with rfl|rfl|rfl|rfl
 ·rcases(by omega:m%8=0\/m%8=1\/m%8=2\/m%8=3\/m%8=4\/m%8=5\/m%8=6\/m%8=7)with f|f|f|f|f|f|f|f
  ·have d:(m:Int)%8=0:=by omega
   have a:(i:Int)*1=(m:Int):=c;rw[f];clear c f hm;obtain⟨V,b⟩:∃V,V=y/2^(8-1-0)%2^1:=⟨_,rfl⟩;rw[<-b];have h:au _:=b;clear b;have j:au (bits .and .u16 ((y:Int)/128) 1=((y/2^(8-1-0)%2^1:Nat):Int)):=(iG (y/128) 1 (by omega) (by omega):_=_);show aH prog 113 #[.slice (some ⟨g,off,none⟩) row.length cap,.int .i64 (i:Int),.int .i64 1] w fun e w'=>e= .returned (.int .u16 ((V:Nat):Int))/\∃nq,w'=w.drewN nq;go_enter func113,ntmps113
   go_upto_region 5 with fail
   have l:(m:Int)/8<(row.length:Int):=by omega
   have k:(0:Int)<=(m:Int)/8:=by omega
   clear a d hi;go_quiet (fail)
   go_wp2_with fail
   go_ret;exact⟨bP (by rw[h.out];exact j.out),_,rfl⟩
  ·have d:(m:Int)%8=1:=by omega
   have a:(i:Int)*1=(m:Int):=c;rw[f];clear c f hm;obtain⟨V,b⟩:∃V,V=y/2^(8-1-1)%2^1:=⟨_,rfl⟩;rw[<-b];have h:au _:=b;clear b;have j:au (bits .and .u16 ((y:Int)/64) 1=((y/2^(8-1-1)%2^1:Nat):Int)):=(iG (y/64) 1 (by omega) (by omega):_=_);show aH prog 113 #[.slice (some ⟨g,off,none⟩) row.length cap,.int .i64 (i:Int),.int .i64 1] w fun e w'=>e= .returned (.int .u16 ((V:Nat):Int))/\∃nq,w'=w.drewN nq;go_enter func113,ntmps113
   go_upto_region 5 with fail
   have l:(m:Int)/8<(row.length:Int):=by omega
   have k:(0:Int)<=(m:Int)/8:=by omega
   clear a d hi;go_quiet (fail)
   go_wp2_with fail
   go_ret;exact⟨bP (by rw[h.out];exact j.out),_,rfl⟩
  ·have d:(m:Int)%8=2:=by omega
   have a:(i:Int)*1=(m:Int):=c;rw[f];clear c f hm;obtain⟨V,b⟩:∃V,V=y/2^(8-1-2)%2^1:=⟨_,rfl⟩;rw[<-b];have h:au _:=b;clear b;have j:au (bits .and .u16 ((y:Int)/32) 1=((y/2^(8-1-2)%2^1:Nat):Int)):=(iG (y/32) 1 (by omega) (by omega):_=_);show aH prog 113 #[.slice (some ⟨g,off,none⟩) row.length cap,.int .i64 (i:Int),.int .i64 1] w fun e w'=>e= .returned (.int .u16 ((V:Nat):Int))/\∃nq,w'=w.drewN nq;go_enter func113,ntmps113
   go_upto_region 5 with fail
   have l:(m:Int)/8<(row.length:Int):=by omega
   have k:(0:Int)<=(m:Int)/8:=by omega
   clear a d hi;go_quiet (fail)
   go_wp2_with fail
   go_ret;exact⟨bP (by rw[h.out];exact j.out),_,rfl⟩
  ·have d:(m:Int)%8=3:=by omega
   have a:(i:Int)*1=(m:Int):=c;rw[f];clear c f hm;obtain⟨V,b⟩:∃V,V=y/2^(8-1-3)%2^1:=⟨_,rfl⟩;rw[<-b];have h:au _:=b;clear b;have j:au (bits .and .u16 ((y:Int)/16) 1=((y/2^(8-1-3)%2^1:Nat):Int)):=(iG (y/16) 1 (by omega) (by omega):_=_);show aH prog 113 #[.slice (some ⟨g,off,none⟩) row.length cap,.int .i64 (i:Int),.int .i64 1] w fun e w'=>e= .returned (.int .u16 ((V:Nat):Int))/\∃nq,w'=w.drewN nq;go_enter func113,ntmps113
   go_upto_region 5 with fail
   have l:(m:Int)/8<(row.length:Int):=by omega
   have k:(0:Int)<=(m:Int)/8:=by omega
   clear a d hi;go_quiet (fail)
   go_wp2_with fail
   go_ret;exact⟨bP (by rw[h.out];exact j.out),_,rfl⟩
  ·have d:(m:Int)%8=4:=by omega
   have a:(i:Int)*1=(m:Int):=c;rw[f];clear c f hm;obtain⟨V,b⟩:∃V,V=y/2^(8-1-4)%2^1:=⟨_,rfl⟩;rw[<-b];have h:au _:=b;clear b;have j:au (bits .and .u16 ((y:Int)/8) 1=((y/2^(8-1-4)%2^1:Nat):Int)):=(iG (y/8) 1 (by omega) (by omega):_=_);show aH prog 113 #[.slice (some ⟨g,off,none⟩) row.length cap,.int .i64 (i:Int),.int .i64 1] w fun e w'=>e= .returned (.int .u16 ((V:Nat):Int))/\∃nq,w'=w.drewN nq;go_enter func113,ntmps113
   go_upto_region 5 with fail
   have l:(m:Int)/8<(row.length:Int):=by omega
   have k:(0:Int)<=(m:Int)/8:=by omega
   clear a d hi;go_quiet (fail)
   go_wp2_with fail
   go_ret;exact⟨bP (by rw[h.out];exact j.out),_,rfl⟩
  ·have d:(m:Int)%8=5:=by omega
   have a:(i:Int)*1=(m:Int):=c;rw[f];clear c f hm;obtain⟨V,b⟩:∃V,V=y/2^(8-1-5)%2^1:=⟨_,rfl⟩;rw[<-b];have h:au _:=b;clear b;have j:au (bits .and .u16 ((y:Int)/4) 1=((y/2^(8-1-5)%2^1:Nat):Int)):=(iG (y/4) 1 (by omega) (by omega):_=_);show aH prog 113 #[.slice (some ⟨g,off,none⟩) row.length cap,.int .i64 (i:Int),.int .i64 1] w fun e w'=>e= .returned (.int .u16 ((V:Nat):Int))/\∃nq,w'=w.drewN nq;go_enter func113,ntmps113
   go_upto_region 5 with fail
   have l:(m:Int)/8<(row.length:Int):=by omega
   have k:(0:Int)<=(m:Int)/8:=by omega
   clear a d hi;go_quiet (fail)
   go_wp2_with fail
   go_ret;exact⟨bP (by rw[h.out];exact j.out),_,rfl⟩
  ·have d:(m:Int)%8=6:=by omega
   have a:(i:Int)*1=(m:Int):=c;rw[f];clear c f hm;obtain⟨V,b⟩:∃V,V=y/2^(8-1-6)%2^1:=⟨_,rfl⟩;rw[<-b];have h:au _:=b;clear b;have j:au (bits .and .u16 ((y:Int)/2) 1=((y/2^(8-1-6)%2^1:Nat):Int)):=(iG (y/2) 1 (by omega) (by omega):_=_);show aH prog 113 #[.slice (some ⟨g,off,none⟩) row.length cap,.int .i64 (i:Int),.int .i64 1] w fun e w'=>e= .returned (.int .u16 ((V:Nat):Int))/\∃nq,w'=w.drewN nq;go_enter func113,ntmps113
   go_upto_region 5 with fail
   have l:(m:Int)/8<(row.length:Int):=by omega
   have k:(0:Int)<=(m:Int)/8:=by omega
   clear a d hi;go_quiet (fail)
   go_wp2_with fail
   go_ret;exact⟨bP (by rw[h.out];exact j.out),_,rfl⟩
  ·have d:(m:Int)%8=7:=by omega
   have a:(i:Int)*1=(m:Int):=c;rw[f];clear c f hm;obtain⟨V,b⟩:∃V,V=y/2^(8-1-7)%2^1:=⟨_,rfl⟩;rw[<-b];have h:au _:=b;clear b;have j:au (bits .and .u16 ((y:Int)) 1=((y/2^(8-1-7)%2^1:Nat):Int)):=(by rw[show y/2^(8-1-7)=y from Nat.div_one y];exact iG y 1 (by omega) (by omega):_=_);show aH prog 113 #[.slice (some ⟨g,off,none⟩) row.length cap,.int .i64 (i:Int),.int .i64 1] w fun e w'=>e= .returned (.int .u16 ((V:Nat):Int))/\∃nq,w'=w.drewN nq;go_enter func113,ntmps113
   go_upto_region 5 with fail
   have l:(m:Int)/8<(row.length:Int):=by omega
   have k:(0:Int)<=(m:Int)/8:=by omega
   clear a d hi;go_quiet (fail)
   go_wp2_with fail
   go_ret;exact⟨bP (by rw[h.out];exact j.out),_,rfl⟩
 ·rcases(by omega:m%8=0\/m%8=2\/m%8=4\/m%8=6)with f|f|f|f
  ·have d:(m:Int)%8=0:=by omega
   have a:(i:Int)*2=(m:Int):=c;rw[f];clear c f hm;obtain⟨V,b⟩:∃V,V=y/2^(8-2-0)%2^2:=⟨_,rfl⟩;rw[<-b];have h:au _:=b;clear b;have j:au (bits .and .u16 ((y:Int)/64) 3=((y/2^(8-2-0)%2^2:Nat):Int)):=(iG (y/64) 2 (by omega) (by omega):_=_);show aH prog 113 #[.slice (some ⟨g,off,none⟩) row.length cap,.int .i64 (i:Int),.int .i64 2] w fun e w'=>e= .returned (.int .u16 ((V:Nat):Int))/\∃nq,w'=w.drewN nq;go_enter func113,ntmps113
   go_upto_region 5 with fail
   have l:(m:Int)/8<(row.length:Int):=by omega
   have k:(0:Int)<=(m:Int)/8:=by omega
   clear a d hi;go_quiet (fail)
   go_wp2_with fail
   go_ret;exact⟨bP (by rw[h.out];exact j.out),_,rfl⟩
  ·have d:(m:Int)%8=2:=by omega
   have a:(i:Int)*2=(m:Int):=c;rw[f];clear c f hm;obtain⟨V,b⟩:∃V,V=y/2^(8-2-2)%2^2:=⟨_,rfl⟩;rw[<-b];have h:au _:=b;clear b;have j:au (bits .and .u16 ((y:Int)/16) 3=((y/2^(8-2-2)%2^2:Nat):Int)):=(iG (y/16) 2 (by omega) (by omega):_=_);show aH prog 113 #[.slice (some ⟨g,off,none⟩) row.length cap,.int .i64 (i:Int),.int .i64 2] w fun e w'=>e= .returned (.int .u16 ((V:Nat):Int))/\∃nq,w'=w.drewN nq;go_enter func113,ntmps113
   go_upto_region 5 with fail
   have l:(m:Int)/8<(row.length:Int):=by omega
   have k:(0:Int)<=(m:Int)/8:=by omega
   clear a d hi;go_quiet (fail)
   go_wp2_with fail
   go_ret;exact⟨bP (by rw[h.out];exact j.out),_,rfl⟩
  ·have d:(m:Int)%8=4:=by omega
   have a:(i:Int)*2=(m:Int):=c;rw[f];clear c f hm;obtain⟨V,b⟩:∃V,V=y/2^(8-2-4)%2^2:=⟨_,rfl⟩;rw[<-b];have h:au _:=b;clear b;have j:au (bits .and .u16 ((y:Int)/4) 3=((y/2^(8-2-4)%2^2:Nat):Int)):=(iG (y/4) 2 (by omega) (by omega):_=_);show aH prog 113 #[.slice (some ⟨g,off,none⟩) row.length cap,.int .i64 (i:Int),.int .i64 2] w fun e w'=>e= .returned (.int .u16 ((V:Nat):Int))/\∃nq,w'=w.drewN nq;go_enter func113,ntmps113
   go_upto_region 5 with fail
   have l:(m:Int)/8<(row.length:Int):=by omega
   have k:(0:Int)<=(m:Int)/8:=by omega
   clear a d hi;go_quiet (fail)
   go_wp2_with fail
   go_ret;exact⟨bP (by rw[h.out];exact j.out),_,rfl⟩
  ·have d:(m:Int)%8=6:=by omega
   have a:(i:Int)*2=(m:Int):=c;rw[f];clear c f hm;obtain⟨V,b⟩:∃V,V=y/2^(8-2-6)%2^2:=⟨_,rfl⟩;rw[<-b];have h:au _:=b;clear b;have j:au (bits .and .u16 ((y:Int)) 3=((y/2^(8-2-6)%2^2:Nat):Int)):=(by rw[show y/2^(8-2-6)=y from Nat.div_one y];exact iG y 2 (by omega) (by omega):_=_);show aH prog 113 #[.slice (some ⟨g,off,none⟩) row.length cap,.int .i64 (i:Int),.int .i64 2] w fun e w'=>e= .returned (.int .u16 ((V:Nat):Int))/\∃nq,w'=w.drewN nq;go_enter func113,ntmps113
   go_upto_region 5 with fail
   have l:(m:Int)/8<(row.length:Int):=by omega
   have k:(0:Int)<=(m:Int)/8:=by omega
   clear a d hi;go_quiet (fail)
   go_wp2_with fail
   go_ret;exact⟨bP (by rw[h.out];exact j.out),_,rfl⟩
 ·rcases(by omega:m%8=0\/m%8=4)with f|f
  ·have d:(m:Int)%8=0:=by omega
   have a:(i:Int)*4=(m:Int):=c;rw[f];clear c f hm;obtain⟨V,b⟩:∃V,V=y/2^(8-4-0)%2^4:=⟨_,rfl⟩;rw[<-b];have h:au _:=b;clear b;have j:au (bits .and .u16 ((y:Int)/16) 15=((y/2^(8-4-0)%2^4:Nat):Int)):=(iG (y/16) 4 (by omega) (by omega):_=_);show aH prog 113 #[.slice (some ⟨g,off,none⟩) row.length cap,.int .i64 (i:Int),.int .i64 4] w fun e w'=>e= .returned (.int .u16 ((V:Nat):Int))/\∃nq,w'=w.drewN nq;go_enter func113,ntmps113
   go_upto_region 5 with fail
   have l:(m:Int)/8<(row.length:Int):=by omega
   have k:(0:Int)<=(m:Int)/8:=by omega
   clear a d hi;go_quiet (fail)
   go_wp2_with fail
   go_ret;exact⟨bP (by rw[h.out];exact j.out),_,rfl⟩
  ·have d:(m:Int)%8=4:=by omega
   have a:(i:Int)*4=(m:Int):=c;rw[f];clear c f hm;obtain⟨V,b⟩:∃V,V=y/2^(8-4-4)%2^4:=⟨_,rfl⟩;rw[<-b];have h:au _:=b;clear b;have j:au (bits .and .u16 ((y:Int)) 15=((y/2^(8-4-4)%2^4:Nat):Int)):=(by rw[show y/2^(8-4-4)=y from Nat.div_one y];exact iG y 4 (by omega) (by omega):_=_);show aH prog 113 #[.slice (some ⟨g,off,none⟩) row.length cap,.int .i64 (i:Int),.int .i64 4] w fun e w'=>e= .returned (.int .u16 ((V:Nat):Int))/\∃nq,w'=w.drewN nq;go_enter func113,ntmps113
   go_upto_region 5 with fail
   have l:(m:Int)/8<(row.length:Int):=by omega
   have k:(0:Int)<=(m:Int)/8:=by omega
   clear a d hi;go_quiet (fail)
   go_wp2_with fail
   go_ret;exact⟨bP (by rw[h.out];exact j.out),_,rfl⟩
 ·have f:m%8=0:=by omega
  have d:(m:Int)%8=0:=by omega
  have a:(i:Int)*8=(m:Int):=c;rw[f];clear c f hm;obtain⟨V,b⟩:∃V,V=y/2^(8-8-0)%2^8:=⟨_,rfl⟩;rw[<-b];have h:au _:=b;clear b;have j:au (bits .and .u16 ((y:Int)) 255=((y/2^(8-8-0)%2^8:Nat):Int)):=(by rw[show y/2^(8-8-0)=y from Nat.div_one y];exact iG y 8 (by omega) (by omega):_=_);show aH prog 113 #[.slice (some ⟨g,off,none⟩) row.length cap,.int .i64 (i:Int),.int .i64 8] w fun e w'=>e= .returned (.int .u16 ((V:Nat):Int))/\∃nq,w'=w.drewN nq;go_enter func113,ntmps113
  go_upto_region 5 with fail
  have l:(m:Int)/8<(row.length:Int):=by omega
  have k:(0:Int)<=(m:Int)/8:=by omega
  clear a d hi;go_quiet (fail)
  go_wp2_with fail
  go_ret;exact⟨bP (by rw[h.out];exact j.out),_,rfl⟩
end Pr
end Go.Proofs.YtephkcdbnogdhabGreatDoor
