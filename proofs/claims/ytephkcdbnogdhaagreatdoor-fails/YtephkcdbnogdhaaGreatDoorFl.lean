import Derived.Test.YtephkcdbnogdhaaGreatDoorM35
set_option linter.unusedVariables false
set_option maxHeartbeats 40000000
set_option maxRecDepth 10000
namespace Go.Proofs.YtephkcdbnogdhaaGreatDoor
open Go.Proofs.Tryz
open Go renaming World->af,Value->ay,Calls->aF,Addr->bP
open Go.RowKit renaming Hid->ah,Below->aJ,intOf->aX
namespace Pr
open Go.RowKit Rf Cr
open h_ (cut aT)
def adS:ByteArray:=⟨#[137,80,78,71,13,10,26,10,0,0,0,13,73,72,68,82,0,1,0,0,0,1,0,0,8,0,0,0,0,73,239,111,63]⟩
instance (s:ByteArray) (t:Nat) (x:ByteArray):Decidable (Match s t x):=inferInstanceAs (Decidable (_/\_))
instance (s:ByteArray) (t:Nat):Decidable (oU s t):=inferInstanceAs (Decidable (_/\_))
instance (s:ByteArray) (t:Nat):Decidable (qM s t):=inferInstanceAs (Decidable (_/\_))
instance (s:ByteArray) (t:Nat):Decidable (vZ s t):=inferInstanceAs (Decidable (_/\_))
instance (s:ByteArray) (t:Nat):Decidable (v_ s t):=inferInstanceAs (Decidable (_/\_))
instance (s:ByteArray) (t:Nat):Decidable (DL s t):=inferInstanceAs (Decidable (_/\_/\_/\_/\_))
instance (s:ByteArray) (p n:Nat) (l:List UInt8):Decidable (jK s p n l):=inferInstanceAs (Decidable (Match _ _ _))
instance (s:ByteArray):Decidable (H0 s):=inferInstanceAs (Decidable (_/\_/\_/\_))
theorem ab9:H0 adS:=by decide+kernel
theorem RX:1048576<hW adS*hH adS:=by decide+kernel
def adT(b:ByteArray)(bM:Int)(L:List Int)(A:An)(w:af)(e:Ending)(w':af):Prop:=
 (Told A w e w'/\(A.e=0->∃k,jJ L b.size=some k)/\(A.e=2->33<=b.size/\∃k,jJ L 33=some k)/\(A.e≠1->0<b.size->∃k,jJ L 1=some k)/\(A.e=0\/A.e=1\/A.e=2\/A.e=3))\/
 (e= .returned (.tuple #[xh,.int .i64 4])/\A.e≠1/\∃t,t<b.size/\jJ L (t+1)=none)
theorem H0.size{s:ByteArray}(h:H0 s):33<=s.size:=by have a:=((NV s).1 h);have h3:=a.2.1.2.2.1;have b:=a.2.2.2.1;omega
theorem ab_(b:ByteArray)(bM:Int)(sl:ay)(L:List Int)(w:af)(eb fb lb:bP)(A:An)(m:wC b bM A)(hD:JI w eb fb lb)(c:qf w w.heap.size sl L)(d:b.size<=140737488354000):
 aF prog 16 #[.string b,.int .i64 bM,sl] w fun e w'=>adT b bM L A w e w'/\aJ w.heap.size w w':=by
 by_cases h:bM<1\/1048576<bM
 ·obtain⟨la,cap,rfl,-,-⟩:=c;refine(IW b bM la _ cap w h).mono ?_;rintro e w' ⟨rfl,hb⟩;rw[m.EZ (.lim h)];exact⟨.inl ⟨told_none 1 w w',(by intro h;cases h),(by intro h;cases h),fun h=>absurd rfl h,.inr (.inl rfl)⟩,hb⟩
 ·obtain⟨l,rfl⟩:∃l:Nat,bM=l:=⟨bM.toNat,by omega⟩;have r:(1:Int)<=(l:Int):=by omega
  have s:(l:Int)<=1048576:=by omega
  have n:A.e≠1:=by
   intro e;cases m with
   |lim h3=>exact h h3
   |ok=>cases e
   |large=>cases e
   |dA=>cases e
  by_cases hp:jJ L 1=none/\0<b.size
  ·refine(Ed b l sl L adS w eb fb lb hD c (.inr ⟨0,by decide,hp.2,hp.1,fun i hi=>by omega⟩) d (by decide) (by omega) (by omega)).mono ?_;have g:∀t,1<=t->jJ L t=none:=fun t B=>by
    have:=wP L 1 (t-1) hp.1;rw[show 1+(t-1)=t by omega]at this;exact this
   rintro e w' ⟨⟨P1,st,t,P2,f,gp,a,o,p,u,rfl,v,x⟩|⟨⟨a,k,o⟩,rfl⟩|⟨a,rfl⟩|⟨a,rfl⟩,hb⟩
   ·have:=RX;omega
   ·rw[g 33 (by omega)]at o;cases o
   ·rcases a with a|a
    ·exact absurd ab9 a
    ·have:=RX;omega
   ·exact⟨.inr ⟨rfl,n,a⟩,hb⟩
  ·have j:0<b.size->∃k,jJ L 1=some k:=fun y=>by
    cases z:jJ L 1 with
    |none=>exact absurd ⟨z,y⟩ hp
    |some k=>exact⟨k,rfl⟩
   refine(Ed b l sl L b w eb fb lb hD c (.inl rfl) d d (by omega) (by omega)).mono ?_;rintro e w' ⟨⟨P1,st,t,P2,f,gp,a,o,p,u,rfl,v,x⟩|⟨⟨⟨a,o⟩,p⟩,rfl⟩|⟨a,rfl⟩|⟨a,rfl⟩,hb⟩
   ·rw[m.EZ (.ok r s a (by omega) u)];exact⟨.inl ⟨Ee a u v x,fun _=>p.2,(by intro h;cases h),fun _=>j,.inl rfl⟩,hb⟩
   ·rw[m.EZ (.large r s a (by omega))];exact⟨.inl ⟨told_none 2 w w',(by intro h;cases h),fun _=>⟨a.size,p⟩,fun _=>j,.inr (.inr (.inl rfl))⟩,hb⟩
   ·rw[m.EZ (.dA r s (a.imp id (fun q=>⟨by have:=q.1;omega,q.2⟩)))];exact⟨.inl ⟨told_none 3 w w',(by intro h;cases h),(by intro h;cases h),fun _=>j,.inr (.inr (.inr rfl))⟩,hb⟩
   ·exact⟨.inr ⟨rfl,n,a⟩,hb⟩
end Pr
namespace Pr
open Go.RowKit Rf Cr
def ae6(b:ByteArray)(L:List Int)(A:An)(base:Nat)(w':af)(a:Int)(aW aH:Nat)(c:Option bP)(d:Nat):Prop:=
 (a=A.e/\aW=A.W/\aH=A.H/\d_ base w' c d A.dM/\(A.e=0->∃k,jJ L b.size=some k)/\(A.e=2->33<=b.size/\∃k,jJ L 33=some k)/\(A.e≠1->0<b.size->∃k,jJ L 1=some k)/\(A.e=0\/A.e=1\/A.e=2\/A.e=3))\/
 (a=4/\aW=0/\aH=0/\c=none/\d=0/\A.e≠1/\∃t,t<b.size/\jJ L (t+1)=none)
theorem acd(b:ByteArray)(bM:Int)(sl:ay)(L:List Int)(w:af)(eb fb lb:bP)(A:An)(j:wC b bM A)(hD:JI w eb fb lb)(a:qf w w.heap.size sl L)(f:b.size<=140737488354000):
 aF prog 16 #[.string b,.int .i64 bM,sl] w fun e w'=>(∃i aW aH d c,e= .returned (.tuple #[.agg #[.int .i64 ((aW:Nat):Int),.int .i64 ((aH:Nat):Int),.slice d c c],.int .i64 i])/\ae6 b L A w.heap.size w' i aW aH d c)/\aJ w.heap.size w w':=by
 refine(ab_ b bM sl L w eb fb lb A j hD a f).mono ?_;rintro e w' ⟨⟨⟨d,c,rfl,hi⟩,g,h,h3,k⟩|⟨rfl,g,h⟩,hb⟩
 ·exact⟨⟨A.e,A.W,A.H,d,c,rfl,.inl ⟨rfl,rfl,rfl,hi,g,h,h3,k⟩⟩,hb⟩
 ·exact⟨⟨4,0,0,none,0,rfl,.inr ⟨rfl,rfl,rfl,rfl,rfl,g,h⟩⟩,hb⟩
structure FlS(b:ByteArray)(L:List Int)(n:Nat)(fl:Bool)(e m s i:Nat):Prop where
 hi:i<=n
 hs:s<=i
 he:e<=101
 hm:m<=2*b.size+1
 Am:s<=m\/m=b.size+1
 no:fl=false->Ou L i e s
 yes:fl=true->jJ L (s+1)=none/\∃k,jJ L s=some k
structure FlE(b:ByteArray)(L:List Int)(fl:Bool)(m s:Nat):Prop where
 Am:s<=m\/m=b.size+1
 no:fl=false->∀t,∃k,jJ L t=some k
 yes:fl=true->∀t,(jJ L t=none↔s<t)
theorem FlS.done{b:ByteArray}{L:List Int}{n:Nat}{fl:Bool}{e m s i:Nat}(h:FlS b L n fl e m s i)(o:L.length=n)(hx:i=n\/fl=true):FlE b L fl m s:=by
 refine⟨h.Am,fun a t=> ?_,fun a t=> ?_⟩
 ·rcases hx with hx|hx
  ·exact(h.no a).done (by omega) t
  ·rw[a]at hx;cases hx
 ·obtain⟨f,g⟩:=h.yes a;constructor
  ·intro j;rcases bU s t with c|c
   ·exact c
   ·obtain⟨k,d⟩:=adQ g c;rw[j]at d;cases d
  ·intro l;have:=wP L (s+1) (t-(s+1)) f;rw[show s+1+(t-(s+1))=t by omega]at this;exact this
theorem FlE.some{b:ByteArray}{L:List Int}{m s t:Nat}(h:FlE b L true m s)(a:∃k,jJ L t=some k):t<=s:=by
 rcases bU s t with c|c
 ·obtain⟨k,a⟩:=a;rw[(h.yes rfl t).2 c]at a;cases a
 ·exact c
theorem Vj(b:ByteArray)(bM:Int)(la:Option bP)(n cap:Nat)(L:List Int)(w:af)(eb fb lb:bP)(hD:JI w eb fb lb)(hL:L.length=n)(C:qf w w.heap.size (.slice la n cap) L)(hb:b.size<=140737488351232)(hn:n<=17592186044000):
 aF prog 6 #[.string b,.int .i64 bM,.slice la n cap] w fun e w'=>e= .returned (.bool true)/\aJ w.heap.size w w':=by
 have HC:ah (∀i,i<n->∃a:bP,la=some a/\a.block<w.heap.size/\w.cell? (a.add i)=some (.int .i64 (L.getD i 0))/\ -9223372036854775808<=L.getD i 0/\L.getD i 0<=9223372036854775807):=(by
  obtain⟨f0,e7,e,_,h⟩:=id C;injection e with e1 e2 e3
  subst e1;intro i hi;exact h i (by rw[hL];exact hi):∀i,_)
 obtain⟨A,hA⟩:=wC.ex b bM;have HA:ah _:=hA;have HG:ah _:=acd b bM (.slice la n cap) L w eb fb lb A hA hD C (by omega);have a1:ah _:=hL;clear hD C hA hL;go_enter func6,ntmps6
 go_wp2_with fail
 refine bz HG.out ?_;rintro e1 w1 ⟨⟨ae,aW,aH,r,d,rfl,a2⟩,a3⟩;have c3:ah (ae6 b L A w.heap.size w1 ae aW aH r d):=(a2:ae6 _ _ _ _ _ _ _ _ _ _);have P:ah _:=a3;clear a2 a3 HG;go_upto_region 2 with fail
 obtain⟨a0,a4⟩:∃a0,a0=w1.heap.size:=⟨_,rfl⟩;have u:ah _:=aO w1 (.cells #[.int .i64 (aW:Int),.int .i64 (aH:Int),.slice r d d] 32);have Q:aJ w1.heap.size w1 (w1.alloc (.cells #[.int .i64 (aW:Int),.int .i64 (aH:Int),.slice r d d] 32)):=(aP w1.heap.size w1).alloc (ag _) _;have D:ah (aJ w.heap.size w (w1.alloc (.cells #[.int .i64 (aW:Int),.int .i64 (aH:Int),.slice r d d] 32))):=(P.out.trans (Q.mono P.out.size):aJ _ _ _);have G:ah (∀o,d_ w.heap.size w1 r d o->d_ w.heap.size (w1.alloc (.cells #[.int .i64 (aW:Int),.int .i64 (aH:Int),.slice r d d] 32)) r d o):=(fun o h=>d_.below h Q:∀o,_);rw[<-a4]at u|-;clear a4 Q P;revert u D G;generalize w1.alloc _=w2;intro u D G;have HR:ah _:=IZ b bM w2 A HA.out hb;go_wp2_with fail
 refine bz HR.out ?_;rintro e3 w3 ⟨⟨l2,q,rfl,O⟩,H⟩;have a5:ah (d_ w2.heap.size w3 l2 q A.dM):=(O:d_ _ _ _ _ _);have R:ah _:=(H.block _ (ai u.out)).trans u.out;have S:ah (aJ w.heap.size w w3):=(D.out.trans (H.mono D.out.size):aJ _ _ _);have a6:ah (∀o,d_ w.heap.size w1 r d o->d_ w.heap.size w3 r d o):=(fun o h=>d_.below (G.out o h) H:∀o,_);clear O H HR u D G;obtain⟨xe,xW,xH,xp⟩:=A;dsimp only at*;go_upto_region 3 with fail
 obtain⟨x0,a7⟩:∃x0,x0=w3.heap.size:=⟨_,rfl⟩;have x:ah _:=aO w3 (.cells #[.int .i64 (xW:Int),.int .i64 (xH:Int),.slice l2 q q] 32);have E:aJ w3.heap.size w3 (w3.alloc (.cells #[.int .i64 (xW:Int),.int .i64 (xH:Int),.slice l2 q q] 32)):=(aP w3.heap.size w3).alloc (ag _) _;have F:ah _:=(E.block _ (ai R.out)).trans R.out;have I:ah (d_ w2.heap.size (w3.alloc (.cells #[.int .i64 (xW:Int),.int .i64 (xH:Int),.slice l2 q q] 32)) l2 q xp):=(d_.below a5.out E:d_ _ _ _ _ _);have g:ah (aJ w.heap.size w (w3.alloc (.cells #[.int .i64 (xW:Int),.int .i64 (xH:Int),.slice l2 q q] 32))):=(S.out.trans (E.mono S.out.size):aJ _ _ _);have T:ah (∀o,d_ w.heap.size w1 r d o->d_ w.heap.size (w3.alloc (.cells #[.int .i64 (xW:Int),.int .i64 (xH:Int),.slice l2 q q] 32)) r d o):=(fun o h=>d_.below (a6.out o h) E:∀o,_);rw[<-a7]at x|-;clear a7 E R a5 S a6;revert x F I g T;generalize w3.alloc _=J;intro x F I g T;go_wp2_with fail
 go_loop [11,12,13,14,15] (fun fv ev mv sv iv=> ∃(fl:Bool) (e m s i:Nat),fv= .bool fl/\ev= .int .i64 (e:Int)/\mv= .int .i64 (m:Int)/\sv= .int .i64 (s:Int)/\iv= .int .i64 (i:Int)/\FlS b L n fl e m s i) (fun _ _ _ _ iv=>n-(aX iv).toNat)
 case atStart=>exact⟨false,0,0,0,0,rfl,rfl,rfl,rfl,rfl,aU _,ag _,by omega,by omega,.inl (ag _),fun _=>Ou.start L,fun h=>Bool.noConfusion h⟩
 case round=>
  obtain⟨fl,e,m,s,i,rfl,rfl,rfl,rfl,rfl,hS⟩:=hrel;have hi:=hS.hi;have hs:=hS.hs;have he:=hS.he;have hm:=hS.hm;by_cases p:i<n/\fl=false
  ·obtain⟨p,rfl⟩:=p;obtain⟨a,rfl,ha,hc,c4,c5⟩:=HC.out i p;have c6:J.cell? (a.add i)=some (.int .i64 (L.getD i 0)):=(xA (a:=a.add i) (g.out.block _ (by rw[Cf];exact ha))).trans hc;have y:ah _:=hS.no rfl;have j:ah _:=hS.Am;have K:ah (i<L.length):=(by rw[a1.out];exact p:_<_);have a8:ah (∃k,jJ L s=some k):=(Exists.intro _ y.out.pos:∃k,jJ L s=some k);obtain⟨z,B⟩:∃z,z=L.getD i 0:=⟨_,rfl⟩;have HZ:ah (L.getD i 0=z):=(B.symm:_=_);rw[<-B]at c6 c4 c5;clear B hc hS;rcases(by omega:z<0\/(z=0/\e+1<=100)\/(z=0/\100<e+1)\/0<z)with B|⟨B,U⟩|⟨B,U⟩|B
   ·have M:ah _:=Ou.fail y.out K.out (by rw[HZ.out];exact B);go_wp2_with fail
    go_round
    case rel=>exact⟨true,e,m,s,i+1,rfl,rfl,rfl,rfl,by go_num,by omega,by omega,he,hm,j.out,fun h=>Bool.noConfusion h,fun _=>⟨M.out,a8.out⟩⟩
    case measure=>simp[aX];omega
   ·have M:ah _:=Ou.zero y.out K.out (by rw[HZ.out];exact B) U;subst B;have c7:¬(100<(e:Int)+1):=by omega
    go_wp2_with fail
    go_round
    case rel=>exact⟨false,e+1,m,s,i+1,rfl,by go_num,rfl,rfl,by go_num,by omega,by omega,by omega,hm,j.out,fun _=>M.out,fun h=>Bool.noConfusion h⟩
    case measure=>simp[aX];omega
   ·have M:ah _:=Ou.afx y.out K.out (by rw[HZ.out];exact B) U;subst B;have c7:100<(e:Int)+1:=by omega
    have e8:=y.out.Di;go_wp2_with fail
    go_round
    case rel=>exact⟨true,e+1,m,s,i+1,rfl,by go_num,rfl,rfl,by go_num,by omega,by omega,by omega,hm,j.out,fun h=>Bool.noConfusion h,fun _=>⟨M.out,a8.out⟩⟩
    case measure=>simp[aX];omega
   ·have M:ah _:=Ou.more y.out K.out (by rw[HZ.out];exact B);have f1:(z==0)=false:=by rw[ax];omega
    have f2:¬z<0:=by omega
    by_cases hle:(m:Int)<=(b.size:Int)/\z<=(b.size:Int)
    ·obtain⟨a9,c8⟩:=hle;obtain⟨zn,rfl⟩:∃zn:Nat,z=(zn:Int):=⟨z.toNat,by omega⟩;go_wp2_with fail
     go_round
     case rel=>exact⟨false,0,m+zn,s+1,i+1,rfl,rfl,by go_num,by go_num,by go_num,by omega,by omega,by omega,by omega,by have:=j.out;omega,fun _=>M.out,fun h=>Bool.noConfusion h⟩
     case measure=>simp[aX];omega
    ·by_cases a9:(m:Int)<=(b.size:Int)
     ·have c8:¬z<=(b.size:Int):=fun h=>hle ⟨a9,h⟩;clear hle;go_wp2_with fail
      go_round
      case rel=>exact⟨false,0,b.size+1,s+1,i+1,rfl,rfl,by go_num,by go_num,by go_num,by omega,by omega,by omega,by omega,.inr rfl,fun _=>M.out,fun h=>Bool.noConfusion h⟩
      case measure=>simp[aX];omega
     ·clear hle;go_wp2_with fail
      go_round
      case rel=>exact⟨false,0,b.size+1,s+1,i+1,rfl,rfl,by go_num,by go_num,by go_num,by omega,by omega,by omega,by omega,.inr rfl,fun _=>M.out,fun h=>Bool.noConfusion h⟩
      case measure=>simp[aX];omega
  ·have Z:ah _:=hS.done a1.out (by cases fl with|false=>exact .inl (by have:=p;simp at this;omega)|true=>exact .inr rfl);clear hS;have hex:¬((i:Int)<(n:Int))\/fl=true:=by
    cases fl with
    |false=>exact .inl (by have:=p;simp at this;omega)
    |true=>exact .inr rfl
   have b0:((decide ((i:Int)<(n:Int)))&& !fl)=false:=by
    rcases hex with h|h
    ·simp[h]
    ·simp[h]
   have c9:J.cell? ⟨a0,0,none⟩=some (.int .i64 (aW:Int)):=by simpa using(cell_of F.out 0).1
   have d0:J.cell? ⟨a0,1,none⟩=some (.int .i64 (aH:Int)):=by simpa using(cell_of F.out 1).1
   have d1:J.cell? ⟨a0,2,none⟩=some (.slice r d d):=by simpa using(cell_of F.out 2).1
   clear p;rcases c3.out with⟨rfl,rfl,rfl,N,g0,g2,g1,c⟩|⟨rfl,rfl,rfl,rfl,rfl,d2,t,f3,b1⟩;rotate_left
   ·have d4:fl=true:=by
     cases fl with
     |true=>rfl
     |false=>obtain⟨k,hk⟩:=Z.out.no rfl (t+1);rw[b1]at hk;cases hk
    subst d4;have f4:s<b.size:=by have:=(Z.out.yes rfl (t+1)).1 b1;omega
    have f5:(s:Int)<(b.size:Int):=by omega
    have e9:(xe !=1)=true:=by rw[dG];exact d2
    rcases hex with hex|hex
    ·go_wp2_with fail
     go_ret;exact⟨rfl,g.out⟩
    ·by_cases d5:(i:Int)<(n:Int)
     ·go_wp2_with fail
      go_ret;exact⟨rfl,g.out⟩
     ·go_wp2_with fail
      go_ret;exact⟨rfl,g.out⟩
   ·dsimp only at g0 g2 g1 c N|-;have d6:ah _:=T.out _ N;have b2:xp.length=d:=N.1;have b3:xp.length=q:=I.out.1;obtain rfl:d=q:=b2.symm.trans b3;have b4:ah _:=zU (aW:Int) (aH:Int) (.slice r d d) (.slice l2 d d) xp J (d_.dM d6.out) (d_.dM I.out) (by have:=wC.len HA.out;dsimp only at this;omega);have d7:J.cell? ⟨x0,0,none⟩=some (.int .i64 (aW:Int)):=by simpa using(cell_of x.out 0).1
    have d8:J.cell? ⟨x0,1,none⟩=some (.int .i64 (aH:Int)):=by simpa using(cell_of x.out 1).1
    have d9:J.cell? ⟨x0,2,none⟩=some (.slice l2 d d):=by simpa using(cell_of x.out 2).1
    have e0:ah _:=g0;have e4:ah _:=g1;have b5:ah _:=g2;have h4:(ae==4)=false:=by rw[ax];omega
    have b6:ah _:=c;have b7:ah _:=hex;clear g0 g1 g2 N b2 b3 c hex b0;go_upto_region 8 with fail
    go_cut [37]from 30 to 79 (fun v wx=>v= .bool false/\wx=J)
    case first=>
     cases fl with
     |false=>
      have f6:¬((i:Int)<(n:Int)):=b7.out.resolve_right (fun h=>Bool.noConfusion h);go_wp2_with fail
      go_meet
      case rel=>exact⟨rfl,rfl⟩
     |true=>
      by_cases d5:(i:Int)<(n:Int)
      ·go_wp2_with fail
       go_meet
       case rel=>exact⟨rfl,rfl⟩
      ·go_wp2_with fail
       go_meet
       case rel=>exact⟨rfl,rfl⟩
    case rest=>
     obtain⟨rfl,V⟩:=hcut;have V:=V.symm;subst V;go_wp2_with fail
     refine bz b4.out ?_;rintro e5 w5 ⟨rfl,b8⟩;have f:ah (aJ w.heap.size w w5):=(g.out.trans (b8.mono g.out.size):aJ _ _ _);clear b8 b4 c9 d0 d1 d7 d8 d9 h4;have c:=b6.out;clear b6 b7;cases fl with
     |false=>
      rcases c with rfl|rfl|rfl|rfl
      all_goals
       go_wp2_with fail
       go_ret;exact⟨rfl,f.out⟩
     |true=>
      have j:ah _:=Z.out.Am;rcases c with rfl|rfl|rfl|rfl
      ·have e6:ah (b.size<=s):=(FlE.some Z.out (e0.out rfl):_<=_);have hlen:(b.size:Int)<=(m:Int):=by have h1:=e6.out;have h2:=j.out;omega
       by_cases l:m=0
       ·have W:(b.size:Int)=0:=by omega
        subst l;clear hs hi he hm hlen;go_wp2_with fail
        go_ret;exact⟨rfl,f.out⟩
       ·have X:((m:Int)==0)=false:=by rw[ax];omega
        clear l hs hi he hm;by_cases Y:(m:Int)<33
        ·go_wp2_with fail
         go_ret;exact⟨rfl,f.out⟩
        ·go_wp2_with fail
         go_ret;exact⟨rfl,f.out⟩
      ·by_cases l:m=0
       ·subst l;clear hs hi he hm;go_wp2_with fail
        go_ret;exact⟨rfl,f.out⟩
       ·have X:((m:Int)==0)=false:=by rw[ax];omega
        clear l hs hi he hm;by_cases Y:(m:Int)<33
        ·go_wp2_with fail
         go_ret;exact⟨rfl,f.out⟩
        ·go_wp2_with fail
         go_ret;exact⟨rfl,f.out⟩
      ·have b9:ah (33<=b.size/\33<=s):=(⟨(b5.out rfl).1,FlE.some Z.out (b5.out rfl).2⟩:_/\_);have Y:¬((m:Int)<33):=by have h1:=b9.out;have h2:=j.out;omega
       have X:((m:Int)==0)=false:=by rw[ax];omega
       clear hs hi he hm;go_wp2_with fail
       go_ret;exact⟨rfl,f.out⟩
      ·by_cases l:m=0
       ·have W:(b.size:Int)=0:=by
         rcases Nat.eq_zero_or_pos b.size with h0|h0
         ·omega
         ·have h1:=FlE.some Z.out (e4.out (by decide) h0);have h2:=j.out;omega
        subst l;clear hs hi he hm;go_wp2_with fail
        go_ret;exact⟨rfl,f.out⟩
       ·have X:((m:Int)==0)=false:=by rw[ax];omega
        clear l hs hi he hm;by_cases Y:(m:Int)<33
        ·go_wp2_with fail
         go_ret;exact⟨rfl,f.out⟩
        ·go_wp2_with fail
         go_ret;exact⟨rfl,f.out⟩
end Pr
end Go.Proofs.YtephkcdbnogdhaaGreatDoor
