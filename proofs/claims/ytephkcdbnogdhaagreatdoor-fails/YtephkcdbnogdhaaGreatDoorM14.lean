import Derived.Deep.LoopGhost
import Derived.Test.YtephkcdbnogdhaaGreatDoorM12
set_option linter.unusedVariables false
set_option maxHeartbeats 40000000
set_option maxRecDepth 10000
namespace Go.Proofs.YtephkcdbnogdhaaGreatDoor
open Go.Proofs.Tryz
open Go renaming World->af,Value->ay,Calls->aF,TypeId->aY,Addr->bP
open Go.RowKit renaming Hid->ah,Below->aJ,intOf->aX
namespace Pr
open Go.RowKit Rf Cr
def ZP(x:Nat):Bool:=65<=x&&x<=90
def Jc(x:Nat):Bool:=97<=x&&x<=122
theorem mM{a b:Bool}(h:a=b):Ending.returned (.bool a)= .returned (.bool b):=by rw[h]
theorem acT(x:Nat)(w:af)(hx:x<=255):
 aF prog 206 #[.int .u8 (x:Int)] w fun e w'=>e= .returned (.bool (ZP x))/\w'=w:=by
 unfold ZP;by_cases a:65<=x
 ·by_cases b:x<=90
  ·rw[aZ a,aZ b];go_enter func206,ntmps206
   go_wp2
   go_ret;refine⟨mM ?_,rfl⟩;first|rfl|(rw[aZ (by omega)];rfl)|(rw[aS (by omega)];rfl)
  ·rw[aZ a,aS b];go_enter func206,ntmps206
   go_wp2
   go_ret;refine⟨mM ?_,rfl⟩;first|rfl|(rw[aZ (by omega)];rfl)|(rw[aS (by omega)];rfl)
 ·rw[aS a];go_enter func206,ntmps206
  go_wp2
  go_ret;exact⟨rfl,rfl⟩
theorem ZQ(x:Nat)(w:af)(hx:x<=255):
 aF prog 207 #[.int .u8 (x:Int)] w fun e w'=>e= .returned (.bool (Jc x))/\w'=w:=by
 unfold Jc;by_cases a:97<=x
 ·by_cases b:x<=122
  ·rw[aZ a,aZ b];go_enter func207,ntmps207
   go_wp2
   go_ret;refine⟨mM ?_,rfl⟩;first|rfl|(rw[aZ (by omega)];rfl)|(rw[aS (by omega)];rfl)
  ·rw[aZ a,aS b];go_enter func207,ntmps207
   go_wp2
   go_ret;refine⟨mM ?_,rfl⟩;first|rfl|(rw[aZ (by omega)];rfl)|(rw[aS (by omega)];rfl)
 ·rw[aS a];go_enter func207,ntmps207
  go_wp2
  go_ret;exact⟨rfl,rfl⟩
theorem Ey(x:ByteArray)(w:af)(h:0<x.size):
 aF prog 182 #[.string x] w fun e w'=>e= .returned (.bool (Jc (aA x 0)))/\w'=w:=by
 have a:(x[0]).toNat=aA x 0:=(dL x 0 h).symm;have hb:=dH x 0;go_enter func182,ntmps182
 go_wp2_with fail
 refine(ZQ (aA x 0) _ (by omega)).mono ?_;rintro e w' ⟨rfl,rfl⟩;go_wp2
 go_ret;exact⟨rfl,rfl⟩
def preB(x n:ByteArray):Bool:=decide (x.size<=n.size)&&((n.extract 0 x.size).toList==x.toList)
theorem Ji(n x:ByteArray)(w:af)(a:n.size<=4)(hx:x.size<=4):
 aF prog 208 #[.string n,.string x] w fun e w'=>e= .returned (.bool (preB x n))/\w'=w:=by
 unfold preB;by_cases h:x.size<=n.size
 ·rw[aZ h,Bool.true_and];go_enter func208,ntmps208
  go_wp2
  go_ret;exact⟨rfl,rfl⟩
 ·rw[aS h,Bool.false_and];go_enter func208,ntmps208
  go_wp2
  go_ret;exact⟨rfl,rfl⟩
theorem KJ(x:ByteArray)(g:Nat)(a:List ByteArray)(w:af)(m:∀i,i<a.length->w.cell? ⟨g,i,none⟩=some (.string (a.getD i ⟨#[]⟩)))(n:∀i,(a.getD i ⟨#[]⟩).size<=4)(q:a.length<=4)(hx:x.size<=4):
 aF prog 183 #[.string x,.slice (some ⟨g,0,none⟩) a.length a.length] w fun e w'=>e= .returned (.bool (a.any (preB x)))/\w'=w:=by
 obtain⟨B,h⟩:∃B,B=a.any (preB x):=⟨_,rfl⟩;rw[<-h];have p:ah _:=h;clear h;go_enter func183,ntmps183
 go_wp2_with fail
 go_loop [9] (fun k=> ∃j:Nat,j<=a.length/\k= .int .i64 (j:Int)/\B=(a.drop j).any (preB x)) (fun k=>a.length-(aX k).toNat)
 case atStart=>exact⟨0,aU _,rfl,p.out⟩
 case round=>
  obtain⟨j,r,rfl,c⟩:=hrel;have d:ah _:=c;clear c;by_cases b:j<a.length
  ·have c0:=m j b;have l:=n j;have o:ah (B=(preB x (a.getD j ⟨#[]⟩)||(a.drop (j+1)).any (preB x))):=(by
    rw[d.out,mD b,yC];rw[ak,aG b];rfl:_=_)
   generalize a.getD j ⟨#[]⟩=nm at*;clear m n;go_wp2_with fail
   refine(Ji nm x _ l hx).mono ?_;rintro e w' ⟨rfl,rfl⟩;cases hp:preB x nm with
   |true=>
    have f:ah (B=true):=(by rw[o.out,hp];rfl:_=_);go_wp2_with fail
    go_ret;exact⟨mM f.out.symm,rfl⟩
   |false=>
    have f:ah (B=(a.drop (j+1)).any (preB x)):=(by rw[o.out,hp];rfl:_=_);go_wp2_with fail
    go_round
    case rel=>exact⟨j+1,by omega,by go_num,f.out⟩
    case measure=>simp[aX];omega
  ·have f:ah (B=false):=(by rw[d.out,lQ (by omega)];rfl:_=_);go_wp2_with fail
   go_ret;exact⟨mM f.out.symm,rfl⟩
def kT:ByteArray:=⟨#[80,76,84,69]⟩
def dV:ByteArray:=⟨#[73,68,65,84]⟩
def jm:ByteArray:=⟨#[73,69,78,68]⟩
def nD:ByteArray:=⟨#[116,82,78,83]⟩
def mP:ByteArray:=⟨#[73,72,68,82]⟩
def oV(x:ByteArray):Bool:=Jc (aA x 0)|| [kT,dV].any (preB x)
def kQ(x:ByteArray):Bool:=(Jc (aA x 0)&& !(x.toList==nD.toList))|| [jm].any (preB x)
def jQ(x:ByteArray):Bool:=kQ x|| [dV].any (preB x)
theorem Xu(x a b:ByteArray)(w:af)(c:a.size<=4)(d:b.size<=4)(hx:x.size<=4):
 aF prog 183 #[.string x,.slice (some ⟨w.heap.size,0,none⟩) 2 2] (w.alloc (.cells #[.string a,.string b] 9)) fun e w'=>e= .returned (.bool ([a,b].any (preB x)))/\w'=w.alloc (.cells #[.string a,.string b] 9):=
 KJ x w.heap.size [a,b] _ (fun i hi=>by
  have hi:i<2:=hi;refine(World.cell?_alloc_mark w #[.string a,.string b] 9 (0,0) i).trans ?_;rcases(by omega:i=0\/i=1)with rfl|rfl<;>rfl) (fun i=>by
  rcases i with _|_|i
  ·exact c
  ·exact d
  ·exact aU _) (by simp) hx
theorem DI(x a:ByteArray)(w:af)(b:a.size<=4)(hx:x.size<=4):
 aF prog 183 #[.string x,.slice (some ⟨w.heap.size,0,none⟩) 1 1] (w.alloc (.cells #[.string a] 9)) fun e w'=>e= .returned (.bool ([a].any (preB x)))/\w'=w.alloc (.cells #[.string a] 9):=
 KJ x w.heap.size [a] _ (fun i hi=>by
  have hi:i<1:=hi;refine(World.cell?_alloc_mark w #[.string a] 9 (0,0) i).trans ?_;rcases(by omega:i=0)with rfl;rfl) (fun i=>by
  rcases i with _|i
  ·exact b
  ·exact aU _) (by simp) hx
theorem MS(x:ByteArray)(w:af)(h:0<x.size)(hx:x.size<=4):
 aF prog 151 #[.string x] w fun e w'=>e= .returned (.bool (oV x))/\aJ w.heap.size w w':=by
 have b:ah (oV x=(Jc (aA x 0)|| [kT,dV].any (preB x))):=rfl;have c:=Xu x kT dV w (by decide) (by decide) hx;have d:aJ w.heap.size w (w.alloc (.cells #[.string kT,.string dV] 9)):=(aP _ _).alloc (ag _) _;generalize oV x=M at*;generalize [kT,dV].any (preB x)=P at*;unfold kT dV at c d;have hS:=Ey x w h;generalize Jc (aA x 0)=s at*;cases s with
 |true=>
  have a:ah (M=true):=(by rw[b.out];rfl:_=_);go_enter func151,ntmps151
  go_wp2_with fail
  refine hS.mono ?_;rintro e w' ⟨rfl,rfl⟩;go_wp2_with fail
  go_ret;exact⟨mM a.out.symm,aP _ _⟩
 |false=>
  have a:ah (M=P):=(by rw[b.out];rfl:_=_);go_enter func151,ntmps151
  go_wp2_with fail
  refine hS.mono ?_;rintro e w' ⟨rfl,rfl⟩;go_wp2_with fail
  refine c.mono ?_;rintro e w' ⟨rfl,rfl⟩;go_wp2_with fail
  go_ret;exact⟨mM a.out.symm,d⟩
theorem Ez(x:ByteArray)(w:af)(h:0<x.size)(hx:x.size<=4):
 aF prog 164 #[.string x] w fun e w'=>e= .returned (.bool (kQ x))/\aJ w.heap.size w w':=by
 have c:ah (kQ x=((Jc (aA x 0)&& !(x.toList==nD.toList))|| [jm].any (preB x))):=rfl;have d:=DI x jm w (by decide) hx;have f:aJ w.heap.size w (w.alloc (.cells #[.string jm] 9)):=(aP _ _).alloc (ag _) _;generalize kQ x=M at*;generalize [jm].any (preB x)=P at*;unfold jm at d f;have hS:=Ey x w h;generalize Jc (aA x 0)=s at*;obtain⟨q,g⟩:∃q,q=(x.toList==nD.toList):=⟨_,rfl⟩;have j:nD.toList=[116,82,78,83]:=by rw[bD];rfl
 have a:(x.toList==[116,82,78,83])=q:=by rw[g,j]
 rw[<-g]at c;clear g j;cases s with
 |true=>
  cases q with
  |false=>
   have i:¬x.toList=[116,82,78,83]:=by simpa using a
   have b:ah (M=true):=(by rw[c.out];rfl:_=_);go_enter func164,ntmps164
   go_wp2_with fail
   refine hS.mono ?_;rintro e w' ⟨rfl,rfl⟩;go_wp2_with fail
   go_ret;exact⟨mM b.out.symm,aP _ _⟩
  |true=>
   have i:x.toList=[116,82,78,83]:=by simpa using a
   have b:ah (M=P):=(by rw[c.out];rfl:_=_);go_enter func164,ntmps164
   go_wp2_with fail
   refine hS.mono ?_;rintro e w' ⟨rfl,rfl⟩;go_wp2_with fail
   refine d.mono ?_;rintro e w' ⟨rfl,rfl⟩;go_wp2_with fail
   go_ret;exact⟨mM b.out.symm,f⟩
 |false=>
  have b:ah (M=P):=(by rw[c.out];rfl:_=_);go_enter func164,ntmps164
  go_wp2_with fail
  refine hS.mono ?_;rintro e w' ⟨rfl,rfl⟩;go_wp2_with fail
  refine d.mono ?_;rintro e w' ⟨rfl,rfl⟩;go_wp2_with fail
  go_ret;exact⟨mM b.out.symm,f⟩
theorem Jj(x:ByteArray)(w:af)(h:0<x.size)(hx:x.size<=4):
 aF prog 159 #[.string x] w fun e w'=>e= .returned (.bool (jQ x))/\aJ w.heap.size w w':=by
 have b:ah (jQ x=(kQ x|| [dV].any (preB x))):=rfl;have c:=fun w=>DI x dV w (by decide) hx;have d:=Ez x w h hx;generalize jQ x=M at*;generalize kQ x=s at*;generalize [dV].any (preB x)=P at*;unfold dV at c;cases s with
 |true=>
  have a:ah (M=true):=(by rw[b.out];rfl:_=_);go_enter func159,ntmps159
  go_wp2_with fail
  refine d.mono ?_;rintro e w' ⟨rfl,hb⟩;go_wp2_with fail
  go_ret;exact⟨mM a.out.symm,hb⟩
 |false=>
  have a:ah (M=P):=(by rw[b.out];rfl:_=_);go_enter func159,ntmps159
  go_wp2_with fail
  refine d.mono ?_;rintro e w1 ⟨rfl,hb⟩;go_wp2_with fail
  refine(c _).mono ?_;rintro e w' ⟨rfl,rfl⟩;go_wp2_with fail
  go_ret;exact⟨mM a.out.symm,hb.trans ((aP _ _).alloc hb.size _)⟩
theorem ZR(a:Nat)(x nm:ByteArray)(cv bv:ay)(w:af)(b:w.heap[a]?=some (.cells #[cv,.string nm,bv] 307 (0,0)))(c:nm.size<=4)(hx:x.size<=4):
 aF prog 285 #[.pointer (some ⟨a,0,none⟩),.string x] w fun e w'=>e= .returned (.bool ([nm].any (preB x)))/\aJ w.heap.size w w':=by
 have c1:w.cell? ⟨a,1,none⟩=some (.string nm):=by simpa using(cell_of b 1).1
 have d:=DI x nm w c hx;have f:aJ w.heap.size w (w.alloc (.cells #[.string nm] 9)):=(aP _ _).alloc (ag _) _;generalize [nm].any (preB x)=P at*;go_enter func285,ntmps285
 go_wp2_with fail
 refine d.mono ?_;rintro e w' ⟨rfl,rfl⟩;go_wp2_with fail
 go_ret;exact⟨rfl,f⟩
open h_ (cut gz eP gJ iq iG iw jo jd dF aT)
structure EC(fn:FuncId)(bs:Array ay)(M:ByteArray->Bool)(C:af->Prop)(F:Nat->Prop):Prop where
 body:∀args w,(callFunc fn args).run prog w= .ok (.enter fn args) w
 ask:∀(x:ByteArray) (w:af),C w->0<x.size->x.size<=4->aF prog fn (bs.push (.string x)) w fun e w'=>e= .returned (.bool (M x))/\aJ w.heap.size w w'
 iU:∀{w w'},C w->Fr F w w'->C w'
def dQ(s:ByteArray)(p j:Nat):ByteArray:=⟨(cut s p j).toArray⟩
theorem gq(s:ByteArray)(p j:Nat)(h:p+j<=s.size):(dQ s p j).size=j:=by show(cut s p j).toArray.size=j;rw[List.size_toArray,gz s p j h]
theorem ZT(s:ByteArray)(p j:Nat)(h:p+j<s.size)(x:Nat)(hx:x=aA s (p+j)):dQ s p j++⟨#[UInt8.ofNat x]⟩=dQ s p (j+1):=by
 unfold dQ;rw[gJ s p j h];have e:UInt8.ofNat x=s[p+j]:=by rw[hx,dL s (p+j) h];simp
 rw[e];apply oJ;simp[ByteArray.data_append]
theorem KL(x:Nat)(h:x<128):Utf8.encode (x:Int)=⟨#[UInt8.ofNat x]⟩:=by
 unfold Utf8.encode;have a:Utf8.valid (x:Int)=true:=by simp[Utf8.valid];omega
 simp only[a,if_true,Int.toNat_natCast];rw[aC (by omega)]
def vY(M:ByteArray->Bool)(s:ByteArray)(p:Nat):Prop:=p+4<=s.size/\(∀i,i<4->dF (aA s (p+i)) i=true)/\∀i,1<=i->i<=4->M (dQ s p i)=true
theorem MV(x i:Nat):dF x i=(ZP x||(Jc x&&i !=2)):=rfl
theorem Xv(x i:Nat)(h:dF x i=true):x<128:=by unfold dF at h;simp at h;omega
theorem MW(S:Src)(hS:S.Ok)(fn:FuncId)(bs:Array ay)(a2:bs= #[]\/∃r,bs= #[r])(M:ByteArray->Bool)(C:af->Prop)(F:Nat->Prop)(a3:∀k,S.F k->F k)(hM:EC fn bs M C F)(s:ByteArray)(p:Nat)(w:af)(hK:S.K w s p)(hC:C w)(hp:p<=s.size):
 aF prog 181 #[.iface S.T (.pointer (some S.a)),.func (.func fn) bs #[]] w fun e w'=>
  (vY M s p/\e= .returned (.tuple #[.string (dQ s p 4),.nilIface])/\S.K w' s (p+4)/\Fr S.F w w')\/
  ((∃T a,e= .returned (.tuple #[.string ⟨#[]⟩,.iface T (.pointer (some a))])/\dO S w' T a (¬vY M s p))/\S.KE w'/\Fr S.F w w'):=by
 have t:ah (vY M s p↔p+4<=s.size/\(∀i,i<4->dF (aA s (p+i)) i=true)/\∀i,1<=i->i<=4->M (dQ s p i)=true):=Iff.rfl;obtain⟨Q,hQ⟩:∃Q:Prop,Q=vY M s p:=⟨_,rfl⟩;rw[<-hQ]at t|-;clear hQ;have b4:∀args w,(callFunc fn args).run prog w= .ok (.enter fn args) w:=hM.body;have a4:=hM.ask;have D:∀{w w'},C w->Fr F w w'->C w':=hM.iU;clear hM;go_enter func181,ntmps181
 go_wp2_with fail
 go_loopw [6] (fun v wr=> ∃j:Nat,j<=4/\v= .string (dQ s p j)/\p+j<=s.size/\(∀i,i<j->dF (aA s (p+i)) i=true)/\(∀i,1<=i->i<=j->M (dQ s p i)=true)/\S.K wr s (p+j)/\Fr S.F w wr) (fun v _=>4-(match v with| .string x=>x.size|_=>0))
 case atStart=>exact⟨0,by omega,by unfold dQ;rw[eP],hp,fun i hi=>absurd hi (qw i),fun i R Y=>by omega,hK,Fr.refl _ _⟩
 case round=>
  obtain⟨j,hj,rfl,hle,U,V,a5,hF⟩:=hrel;have u:ah _:=U;have z:ah _:=V;have hz:=gq s p j hle;have HZ:ah _:=hz;clear U V hK;have a9:C wr:=D hC (hF.mono a3);by_cases b0:j<4
  ·have b1:=dH s (p+j);have E:=hS.one wr s (p+j) a5 hle;obtain⟨y,hy⟩:∃y,y=aA s (p+j):=⟨_,rfl⟩;rw[<-hy]at E b1;have HY:ah _:=hy;clear hy;obtain⟨x,hx⟩:∃x,x=dQ s p j:=⟨_,rfl⟩;rw[<-hx]at hz|-;have HX:ah _:=hx;clear hx;have b5:(x.size:Int)=(j:Int):=by omega
   go_wp2_with fail
   refine E.mono ?_;clear E;rintro e w1 (⟨g0,rfl,Z,L⟩|⟨x0,T,a,rfl,g0,Z,L⟩);rotate_left
   ·have HW:dO S w1 T a (¬Q):=g0.imp (fun g0 G=>g0 (by have:=(t.out.1 G).1;omega));clear g0;go_wp2_with fail
    go_ret2;exact .inr ⟨⟨T,a,rfl,HW⟩,Z,hF.trans L⟩
   have b2:ah (p+j<s.size):=g0;have d:=acT y w1 (by omega);have Am:=ZQ y w1 (by omega);have N:ah (dF y j=(ZP y||(Jc y&&j !=2))):=MV y j;have a6:ah (dF y j=true->y<128):=Xv y j;have b3:C w1:=D a9 (L.mono a3);have a0:ah (x++⟨#[UInt8.ofNat y]⟩=dQ s p (j+1)):=(by rw[HX.out];exact ZT s p j b2.out y HY.out:_=_);have H:ah ((dQ s p (j+1)).size=j+1):=gq s p (j+1) (by omega);have I:ah (aF prog fn (bs.push (.string (dQ s p (j+1)))) w1 fun e w'=>e= .returned (.bool (M (dQ s p (j+1))))/\aJ w1.heap.size w1 w'):=(a4 (dQ s p (j+1)) w1 b3 (by rw[H.out];omega) (by rw[H.out];omega):aF _ _ _ _ _);have W:=hS.ke Z;generalize ZP y=cy at*;generalize Jc y=sy at*;have a7:ah (dF y j=false->¬Q):=(fun hl G=>by have Y:=(t.out.1 G).2.1 j b0;rw[<-HY.out,hl]at Y;exact Bool.noConfusion Y:dF y j=false->¬Q);obtain⟨X,hX⟩:∃X,X=dQ s p (j+1):=⟨_,rfl⟩;rw[<-hX]at a0 H I;have g:ah _:=hX;have O:X.size=j+1:=H.out;have b6:=a0.out;have q:=I.out;clear hX a0 H I;cases o:cy with
   |true=>
    have l:ah (dF y j=true):=(by rw[N.out,o];rfl:_=_);have a8:=KL y (a6.out l.out);rw[o]at d;clear o;rcases a2 with rfl|⟨r,rfl⟩
    ·have q:aF prog fn #[.string X] w1 _:=q;go_wp2_with fail
     refine d.mono ?_;rintro e P ⟨rfl,b⟩;have b:=b.symm;subst b;go_wp2_with fail
     refine q.mono ?_;rintro e w2 ⟨rfl,hb⟩;clear q d Am;have m:S.K w2 s (p+j+1):=hS.Pv Z (fun k f=>hb.block k f);have n:Fr S.F w w2:=(hF.trans L).trans ⟨hb.os,hb.tape,hb.output,hb.size,fun k f _=>hb.block k f⟩;cases c:M X with
     |false=>
      have J:ah (¬Q):=(fun G=>by have:=(t.out.1 G).2.2 (j+1) (by omega) (by omega);rw[<-g.out,c]at this;exact Bool.noConfusion this:¬_);clear c;go_wp2_with fail
      refine(dJ _ _).mono ?_;rintro e w3 ⟨rfl,rfl⟩;go_wp2_with fail
      go_ret2;exact .inr ⟨⟨_,_,rfl,dO.ve J.out⟩,hS.qK (hS.ke m) (fun k f=>aj _ _ k f),n.alloc _⟩
     |true=>
      have B:ah (M (dQ s p (j+1))=true):=(by rw[<-g.out];exact c:_=_);clear c;go_wp2_with fail
      go_roundw
      case rel=>
       refine⟨j+1,by omega,by rw[g.out],by omega,fun i hi=> ?_,fun i R Y=> ?_,m,n⟩
       ·rcases bU i j with h|h
        ·exact u.out i h
        ·have:i=j:=by omega
         rw[this,<-HY.out];exact l.out
       ·rcases bU i (j+1)with h|h
        ·exact z.out i R (by omega)
        ·have:i=j+1:=by omega
         rw[this];exact B.out
      case measure=>show 4-X.size<4-x.size;rw[O,hz];omega
    ·have q:aF prog fn #[r,.string X] w1 _:=q;go_wp2_with fail
     refine d.mono ?_;rintro e P ⟨rfl,b⟩;have b:=b.symm;subst b;go_wp2_with fail
     refine q.mono ?_;rintro e w2 ⟨rfl,hb⟩;clear q d Am;have m:S.K w2 s (p+j+1):=hS.Pv Z (fun k f=>hb.block k f);have n:Fr S.F w w2:=(hF.trans L).trans ⟨hb.os,hb.tape,hb.output,hb.size,fun k f _=>hb.block k f⟩;cases c:M X with
     |false=>
      have J:ah (¬Q):=(fun G=>by have:=(t.out.1 G).2.2 (j+1) (by omega) (by omega);rw[<-g.out,c]at this;exact Bool.noConfusion this:¬_);clear c;go_wp2_with fail
      refine(dJ _ _).mono ?_;rintro e w3 ⟨rfl,rfl⟩;go_wp2_with fail
      go_ret2;exact .inr ⟨⟨_,_,rfl,dO.ve J.out⟩,hS.qK (hS.ke m) (fun k f=>aj _ _ k f),n.alloc _⟩
     |true=>
      have B:ah (M (dQ s p (j+1))=true):=(by rw[<-g.out];exact c:_=_);clear c;go_wp2_with fail
      go_roundw
      case rel=>
       refine⟨j+1,by omega,by rw[g.out],by omega,fun i hi=> ?_,fun i R Y=> ?_,m,n⟩
       ·rcases bU i j with h|h
        ·exact u.out i h
        ·have:i=j:=by omega
         rw[this,<-HY.out];exact l.out
       ·rcases bU i (j+1)with h|h
        ·exact z.out i R (by omega)
        ·have:i=j+1:=by omega
         rw[this];exact B.out
      case measure=>show 4-X.size<4-x.size;rw[O,hz];omega
   |false=>
    rw[o]at d;cases A:sy with
    |false=>
     have J:ah (¬Q):=(a7.out (by rw[N.out,o,A];rfl):¬_);rw[A]at Am;clear o A q;go_wp2_with fail
     refine d.mono ?_;rintro e P ⟨rfl,b⟩;have b:=b.symm;subst b;go_wp2_with fail
     refine Am.mono ?_;rintro e P ⟨rfl,b⟩;have b:=b.symm;subst b;go_wp2_with fail
     refine(dJ _ _).mono ?_;rintro e w3 ⟨rfl,rfl⟩;go_wp2_with fail
     go_ret2;exact .inr ⟨⟨_,_,rfl,dO.ve J.out⟩,hS.qK W (fun k f=>aj _ _ k f),(hF.trans L).alloc _⟩
    |true=>
     rw[A]at Am;by_cases a1:j=2
     ·have J:ah (¬Q):=(a7.out (by rw[N.out,o,A,a1];rfl):¬_);clear o A q;subst a1;go_wp2_with fail
      refine d.mono ?_;rintro e P ⟨rfl,b⟩;have b:=b.symm;subst b;go_wp2_with fail
      refine Am.mono ?_;rintro e P ⟨rfl,b⟩;have b:=b.symm;subst b;go_wp2_with fail
      refine(dJ _ _).mono ?_;rintro e w3 ⟨rfl,rfl⟩;go_wp2_with fail
      go_ret2;exact .inr ⟨⟨_,_,rfl,dO.ve J.out⟩,hS.qK W (fun k f=>aj _ _ k f),(hF.trans L).alloc _⟩
     ·have l:ah (dF y j=true):=(by
       rw[N.out,o,A];simp[a1]:_=_)
      have a8:=KL y (a6.out l.out);have b7:((j:Int)==2)=false:=by rw[ax];omega
      clear o A;rcases a2 with rfl|⟨r,rfl⟩
      ·have q:aF prog fn #[.string X] w1 _:=q;go_wp2_with fail
       refine d.mono ?_;rintro e P ⟨rfl,b⟩;have b:=b.symm;subst b;go_wp2_with fail
       refine Am.mono ?_;rintro e P ⟨rfl,b⟩;have b:=b.symm;subst b;go_wp2_with fail
       refine q.mono ?_;rintro e w2 ⟨rfl,hb⟩;clear q d Am;have m:S.K w2 s (p+j+1):=hS.Pv Z (fun k f=>hb.block k f);have n:Fr S.F w w2:=(hF.trans L).trans ⟨hb.os,hb.tape,hb.output,hb.size,fun k f _=>hb.block k f⟩;cases c:M X with
       |false=>
        have J:ah (¬Q):=(fun G=>by have:=(t.out.1 G).2.2 (j+1) (by omega) (by omega);rw[<-g.out,c]at this;exact Bool.noConfusion this:¬_);clear c;go_wp2_with fail
        refine(dJ _ _).mono ?_;rintro e w3 ⟨rfl,rfl⟩;go_wp2_with fail
        go_ret2;exact .inr ⟨⟨_,_,rfl,dO.ve J.out⟩,hS.qK (hS.ke m) (fun k f=>aj _ _ k f),n.alloc _⟩
       |true=>
        have B:ah (M (dQ s p (j+1))=true):=(by rw[<-g.out];exact c:_=_);clear c;go_wp2_with fail
        go_roundw
        case rel=>
         refine⟨j+1,by omega,by rw[g.out],by omega,fun i hi=> ?_,fun i R Y=> ?_,m,n⟩
         ·rcases bU i j with h|h
          ·exact u.out i h
          ·have:i=j:=by omega
           rw[this,<-HY.out];exact l.out
         ·rcases bU i (j+1)with h|h
          ·exact z.out i R (by omega)
          ·have:i=j+1:=by omega
           rw[this];exact B.out
        case measure=>show 4-X.size<4-x.size;rw[O,hz];omega
      ·have q:aF prog fn #[r,.string X] w1 _:=q;go_wp2_with fail
       refine d.mono ?_;rintro e P ⟨rfl,b⟩;have b:=b.symm;subst b;go_wp2_with fail
       refine Am.mono ?_;rintro e P ⟨rfl,b⟩;have b:=b.symm;subst b;go_wp2_with fail
       refine q.mono ?_;rintro e w2 ⟨rfl,hb⟩;clear q d Am;have m:S.K w2 s (p+j+1):=hS.Pv Z (fun k f=>hb.block k f);have n:Fr S.F w w2:=(hF.trans L).trans ⟨hb.os,hb.tape,hb.output,hb.size,fun k f _=>hb.block k f⟩;cases c:M X with
       |false=>
        have J:ah (¬Q):=(fun G=>by have:=(t.out.1 G).2.2 (j+1) (by omega) (by omega);rw[<-g.out,c]at this;exact Bool.noConfusion this:¬_);clear c;go_wp2_with fail
        refine(dJ _ _).mono ?_;rintro e w3 ⟨rfl,rfl⟩;go_wp2_with fail
        go_ret2;exact .inr ⟨⟨_,_,rfl,dO.ve J.out⟩,hS.qK (hS.ke m) (fun k f=>aj _ _ k f),n.alloc _⟩
       |true=>
        have B:ah (M (dQ s p (j+1))=true):=(by rw[<-g.out];exact c:_=_);clear c;go_wp2_with fail
        go_roundw
        case rel=>
         refine⟨j+1,by omega,by rw[g.out],by omega,fun i hi=> ?_,fun i R Y=> ?_,m,n⟩
         ·rcases bU i j with h|h
          ·exact u.out i h
          ·have:i=j:=by omega
           rw[this,<-HY.out];exact l.out
         ·rcases bU i (j+1)with h|h
          ·exact z.out i R (by omega)
          ·have:i=j+1:=by omega
           rw[this];exact B.out
        case measure=>show 4-X.size<4-x.size;rw[O,hz];omega
  ·have e:j=4:=by omega
   subst e;have HQ:ah Q:=(t.out.2 ⟨hle,u.out,z.out⟩:Q);go_wp2_with fail
   go_ret2;exact .inl ⟨HQ.out,rfl,a5,hF⟩
def l_(M:ByteArray->Bool)(s:ByteArray)(p:Nat):Prop:=oU s p/\vY M s (p+4)
theorem KR(x:ByteArray)(w:af)(hx:x.size<=1000)(a:Tab w):
 aF prog 103 #[.string x] w fun e w'=>e= .returned (.int .u32 ((jo x.data.toList:Nat):Int))/\w'=w:=WV x w (by unfold maxLen;omega) a
theorem yT(s:ByteArray)(p j:Nat):(dQ s p j).data.toList=cut s p j:=by unfold dQ;simp
theorem CR.num{S:Src}{cb:Nat}{s:ByteArray}{w:af}{p left:Nat}{name:ByteArray}{l:List UInt8}(h:CR S cb s w p name left l)(v:Int):CR S cb s (w.setCell ⟨cb,1,none⟩ (.int .i64 v)) p name left l:=by obtain⟨num,b⟩:=h.nN;exact h.put v ((bG b 1 _).trans (by simp[Pz])) h.lf (fun k c a=>aB 1 _ a)
theorem CR.begun{S:Src}{cb:Nat}{s:ByteArray}{w:af}{p left:Nat}{name:ByteArray}{l:List UInt8}(h:CR S cb s w p name left l)(x:ByteArray)(n:Nat)(b:n<=2147483647):
 CR S cb s (((w.setCell ⟨cb,2,none⟩ (.string x)).setCell ⟨cb,3,none⟩ (.int .i64 (n:Int))).setCell ⟨cb,4,none⟩ (.int .u32 ((jo x.data.toList:Nat):Int))) p x n x.data.toList/\
 Fr (jP S cb) w (((w.setCell ⟨cb,2,none⟩ (.string x)).setCell ⟨cb,3,none⟩ (.int .i64 (n:Int))).setCell ⟨cb,4,none⟩ (.int .u32 ((jo x.data.toList:Nat):Int))):=by
 obtain⟨num,c⟩:=h.nN;exact⟨h.put num ((bG (bG (bG c 2 _) 3 _) 4 _).trans (by simp[Pz])) b (fun k d a=>(aB 4 _ a).trans ((aB 3 _ a).trans (aB 2 _ a))),(((Fr.refl _ w).set cb 2 (.inr rfl) _).set cb 3 (.inr rfl) _).set cb 4 (.inr rfl) _⟩
theorem KT(S:Src)(cb:Nat)(fn:FuncId)(bs:Array ay)(H:bs= #[]\/∃r,bs= #[r])(M:ByteArray->Bool)(C:af->Prop)(hM:EC fn bs M C (jP S cb))(s:ByteArray)(w:af)(p left:Nat)(name:ByteArray)(l:List UInt8)(h:CR S cb s w p name left l)(hC:C w):
 aF prog 150 #[.pointer (some ⟨cb,0,none⟩),.func (.func fn) bs #[]] w fun e w'=>
  (l_ M s p/\e= .returned .nilIface/\CR S cb s w' (p+8) (dQ s (p+4) 4) (aT s p) (cut s (p+4) 4)/\Fr (jP S cb) w w')\/
  ((∃T a,e= .returned (.iface T (.pointer (some a)))/\dO S w' T a (¬l_ M s p))/\oC S cb w'/\Fr (jP S cb) w w'):=by
 have c:ah (l_ M s p↔oU s p/\vY M s (p+4)):=Iff.rfl;obtain⟨Q,hQ⟩:∃Q:Prop,Q=l_ M s p:=⟨_,rfl⟩;rw[<-hQ]at c|-;clear hQ;obtain⟨num,c0,c1,c2,c3,c4,cf,y⟩:=h.cells;have f1:=cf 1;have d:=fun v=>h.num v;have z:∀v,Fr (jP S cb) w (w.setCell ⟨cb,1,none⟩ (.int .i64 v)):=fun v=>(Fr.refl (jP S cb) w).set cb 1 (.inr rfl) _;have I:∀v,(w.setCell ⟨cb,1,none⟩ (.int .i64 v)).cell? ⟨cb,0,none⟩=some (.iface S.T (.pointer (some S.a))):=fun v=>by obtain⟨_,I,_⟩:=(d v).cells;exact I
 clear c2 c3 c4 cf y;go_enter func150,ntmps150
 go_wp2_with fail
 refine(KA S h.ok s p _ (d _).k h.le).mono ?_;have n:=d (wrap64 (num+1));have o:=z (wrap64 (num+1));clear d z I c0 c1 f1;generalize (w.setCell ⟨cb,1,none⟩ (.int .i64 (wrap64 (num+1))))=w0 at*;rintro e w1 (⟨f,rfl,J,x⟩|⟨⟨T,a,rfl,f⟩,J,x⟩);rotate_left
 ·have K:dO S w1 T a (¬Q):=f.imp (fun f L=>f (c.out.1 L).1);have N:=n.PD J x;clear f;go_wp2_with fail
  go_ret;exact .inr ⟨⟨T,a,rfl,K⟩,N,o.trans (x.mono (fun k g=> .inl g))⟩
 have A:ah (oU s p):=f;have O:aT s p<=2147483647:=f.2;have j:p+4<=s.size:=f.1;have b:=n.src J j x;have q:Fr (jP S cb) w w1:=o.trans (x.mono (fun k g=> .inl g));have P:C w1:=hM.iU hC q;clear f n o x;obtain⟨a0,e0,_,_,_,_,_,_⟩:=b.cells;generalize B:aT s p=n4 at*;have R:ah _:=B;clear B;have D:=MW S h.ok fn bs H M C (jP S cb) (fun k g=> .inl g) hM s (p+4) w1 b.k P j;go_wp2_with fail
 refine D.mono ?_;clear D;rintro e w2 (⟨i,rfl,U,E⟩|⟨⟨T,a,rfl,i⟩,U,E⟩);rotate_left
 ·have K:dO S w2 T a (¬Q):=i.imp (fun i L=>i (c.out.1 L).2);have N:=b.PD U E;clear i;go_wp2_with fail
  go_ret;exact .inr ⟨⟨T,a,rfl,K⟩,N,q.trans (E.mono (fun k g=> .inl g))⟩
 have V:ah Q:=(c.out.2 ⟨A.out,i⟩:Q);have t:=b.src U i.1 E;have W:Fr (jP S cb) w w2:=q.trans (E.mono (fun k g=> .inl g));have Y:(dQ s (p+4) 4).size=4:=gq s (p+4) 4 i.1;have Z:ah ((dQ s (p+4) 4).data.toList=cut s (p+4) 4):=yT s (p+4) 4;have m:=KR (dQ s (p+4) 4) w2 (by rw[Y];omega) t.tab;obtain⟨a1,q0,q1,q2,q3,q4,G,_⟩:=t.cells;have z2:=G 2;have z3:=G 3;have z4:=G 4;have F:ah _:=t.begun (dQ s (p+4) 4) n4 O;clear i q0 q1 G e0 b;generalize jo (dQ s (p+4) 4).data.toList=cc at*;generalize hX:dQ s (p+4) 4=X at*;have HX:ah _:=hX;clear hX;go_wp2_with fail
 refine m.mono ?_;rintro e wz ⟨rfl,u⟩;have u:=u.symm;subst u;clear m;go_wp2_with fail
 go_ret;obtain⟨y1,y2⟩:=F.out;refine .inl ⟨V.out,rfl,?_,W.trans y2⟩;rw[HX.out,R.out,<-Z.out];exact y1
theorem Bc(S:Src)(cb:Nat)(fn:FuncId)(bs:Array ay)(g:bs= #[]\/∃r,bs= #[r])(M:ByteArray->Bool)(C:af->Prop)(hM:EC fn bs M C (jP S cb))(s:ByteArray)(w:af)(p left:Nat)(name:ByteArray)(l:List UInt8)(h:CR S cb s w p name left l)(u:C w):
 aF prog 163 #[.pointer (some ⟨cb,0,none⟩),.func (.func fn) bs #[]] w fun e w'=>
  ((jK s p left l/\l_ M s (p+left+4))/\e= .returned .nilIface/\CR S cb s w' (p+left+4+8) (dQ s (p+left+4+4) 4) (aT s (p+left+4)) (cut s (p+left+4+4) 4)/\Fr (jP S cb) w w')\/
  ((∃T a,e= .returned (.iface T (.pointer (some a)))/\dO S w' T a (¬(jK s p left l/\l_ M s (p+left+4))))/\oC S cb w'/\Fr (jP S cb) w w'):=by
 obtain⟨Q,i⟩:∃Q:Prop,Q=(jK s p left l/\l_ M s (p+left+4)):=⟨_,rfl⟩;rw[<-i];have j:ah _:=i;clear i;go_enter func163,ntmps163
 go_wp2_with fail
 refine(xC S cb s _ p left name l h).mono ?_;rintro e w1 (⟨b,rfl,k,d⟩|⟨⟨T,a,rfl,b⟩,k,d⟩)
 ·have t:=KT S cb fn bs g M C hM s w1 _ _ _ _ k (hM.iU u d);have v:ah _:=b;clear b;go_wp2_with fail
  refine t.mono ?_;clear t;rintro e w2 (⟨c,rfl,m,n⟩|⟨⟨T,a,rfl,c⟩,m,n⟩)
  ·have o:ah Q:=(by rw[j.out];exact⟨v.out,c⟩:Q);clear c;go_wp2_with fail
   go_ret;exact .inl ⟨o.out,rfl,m,d.trans n⟩
  ·have q:dO S w2 T a (¬Q):=c.imp (fun c f=>by rw[j.out]at f;exact c f.2);clear c;go_wp2_with fail
   go_ret;exact .inr ⟨⟨T,a,rfl,q⟩,m,d.trans n⟩
 ·have q:dO S w1 T a (¬Q):=b.imp (fun b f=>by rw[j.out]at f;exact b f.1);clear b;go_wp2_with fail
  go_ret;exact .inr ⟨⟨T,a,rfl,q⟩,k,d⟩
theorem yU(S:Src)(cb:Nat)(s:ByteArray)(w:af)(p left:Nat)(name:ByteArray)(l:List UInt8)(h:CR S cb s w p name left l):
 aF prog 152 #[.pointer (some ⟨cb,0,none⟩)] w fun e w'=>e= .returned (.string name)/\w'=w:=by
 obtain⟨num,c0,c1,c2,b,c,d,a⟩:=h.cells;clear c0 c1 b c d a;go_enter func152,ntmps152
 go_wp2
 go_ret;exact⟨rfl,rfl⟩
theorem uQ(S:Src)(cb:Nat)(s:ByteArray)(w:af)(p left:Nat)(name:ByteArray)(l:List UInt8)(h:CR S cb s w p name left l):
 aF prog 165 #[.pointer (some ⟨cb,0,none⟩)] w fun e w'=>e= .returned (.int .i64 (left:Int))/\w'=w:=by
 obtain⟨num,c0,c1,c2,d,b,c,a⟩:=h.cells;clear c0 c1 c2 b c a;go_enter func165,ntmps165
 go_wp2
 go_ret;exact⟨rfl,rfl⟩
def lu:ByteArray:=⟨#[137,80,78,71,13,10,26,10]⟩
theorem aaf(S:Src)(cb:Nat)(s:ByteArray)(w:af)(p left:Nat)(name:ByteArray)(l:List UInt8)(h:CR S cb s w p name left l):
 aF prog 145 #[.pointer (some ⟨cb,0,none⟩)] w fun e w'=>
  (Match s p lu/\e= .returned .nilIface/\CR S cb s w' (p+8) name left l/\Fr (jP S cb) w w')\/
  ((∃T a,e= .returned (.iface T (.pointer (some a)))/\dO S w' T a (¬Match s p lu))/\oC S cb w'/\Fr (jP S cb) w w'):=by
 obtain⟨num,c0,c1,c2,n,o,q,b⟩:=h.cells;clear c1 c2 n o q b;have f:=fun g=>AY S h.ok s lu g p w h.k h.le (by decide);have r:ah (Match s p lu->p+8<=s.size):=(fun hm=>hm.1:_->_);generalize Match s p lu=Q at*;have t:lu.size=8:=rfl;rw[t]at f;unfold lu at f;go_enter func145,ntmps145
 go_wp2_with fail
 refine(f _).mono ?_;clear f;rintro e w1 (⟨c,rfl,i,d⟩|⟨⟨T,a,rfl,c⟩,i,d⟩)
 ·have j:=h.src i (r.out c) d;have u:ah Q:=c;clear c c0;go_wp2_with fail
  go_ret;exact .inl ⟨u.out,rfl,j,d.mono (fun k m=> .inl m)⟩
 ·have j:=h.PD i d;clear c0;go_wp2_with fail
  go_ret;exact .inr ⟨⟨T,a,rfl,c⟩,j,d.mono (fun k m=> .inl m)⟩
def GK(x:ByteArray):Bool:=[dV].any (preB x)
def oM(s:ByteArray)(p left:Nat)(l:List UInt8):Prop:=jK s p left l/\l_ GK s (p+left+4)
open Classical in
noncomputable def yV(s:ByteArray):Nat->Nat->Nat->List UInt8->List UInt8
 |0,_,_,_=>[]
 |f+1,p,left,l=>cut s p left++(if oM s p left l then yV s f (p+left+4+8) (aT s (p+left+4)) (cut s (p+left+4+4) 4)else [])
theorem Cj{s:ByteArray}{p left:Nat}{l:List UInt8}(h:oM s p left l):p+left+4+8<=s.size:=by have:=h.2.2.1;omega
theorem TM(s:ByteArray)(f:Nat):∀g p left l,s.size-p<f->s.size-p<g->yV s f p left l=yV s g p left l:=by
 induction f with
 |zero=>intro g p left l h;omega
 |succ f b=>
  intro g p left l c d;obtain⟨a,rfl⟩:∃a,g=a+1:=⟨g-1,by omega⟩;rw[yV,yV];congr 1
  by_cases h:oM s p left l
  ·have:=Cj h;rw[aC h,aC h,b a _ _ _ (by omega) (by omega)]
  ·rw[au h,au h]
noncomputable def kU(s:ByteArray)(p left:Nat)(l:List UInt8):List UInt8:=yV s (s.size+1) p left l
theorem uS{s:ByteArray}{p left:Nat}{l:List UInt8}(h:oM s p left l):kU s p left l=cut s p left++kU s (p+left+4+8) (aT s (p+left+4)) (cut s (p+left+4+4) 4):=by have:=Cj h;unfold kU;rw[yV,aC h,TM s s.size (s.size+1) _ _ _ (by omega) (by omega)]
theorem pK{s:ByteArray}{p left:Nat}{l:List UInt8}(h:¬oM s p left l):kU s p left l=cut s p left:=by unfold kU;rw[yV,au h,zA]
theorem PU(s:ByteArray)(p left:Nat)(l:List UInt8)(h:p<s.size):jK s (p+1) left (l++[s[p]])↔jK s p (left+1) l:=by unfold jK;rw[iq s p left h,bV,show p+1+left=p+(left+1)by omega];rfl
theorem GL(s:ByteArray)(p left:Nat)(l:List UInt8)(h:p<s.size):kU s p (left+1) l=s[p]::kU s (p+1) left (l++[s[p]]):=by
 have c:=PU s p left l h;have b:oM s (p+1) left (l++[s[p]])↔oM s p (left+1) l:=by unfold oM;rw[c,show p+1+left+4=p+(left+1)+4 by omega]
 by_cases a:oM s p (left+1) l
 ·rw[uS a,uS (b.2 a),iq s p left h,show p+1+left=p+(left+1)by omega];rfl
 ·rw[pK a,pK (fun e=>a (b.1 e)),iq s p left h]
theorem PV(s:ByteArray)(p left:Nat)(l:List UInt8)(h:¬p<s.size)(b:0<left):kU s p left l=[]:=by rw[pK (fun a=>by have:=Cj a;omega)];unfold cut;rw[lQ (by simp;omega)];exact List.take_nil
theorem VJ{x n:ByteArray}(hx:x.size=4)(b:n.size=4)(h:preB x n=true):x=n:=by
 unfold preB at h;rw[gQ,iV]at h;have a:=h.2;rw[bD,bD,fG]at a;have h3:n.data.extract 0 x.size=n.data:=by rw[hx,<-b];exact Array.extract_size
 rw[h3]at a;apply oJ;exact(Array.toList_inj.1 a).symm
theorem VK{s:ByteArray}{p:Nat}(h:vY GK s p):dQ s p 4=dV:=by have a:=h.2.2 4 (by omega) (by omega);unfold GK at a;rw[yC,List.any_nil,Bool.or_false]at a;exact VJ (gq s p 4 h.1) rfl a
theorem acW(s:ByteArray)(p i:Nat)(h:p+4<=s.size)(a:dQ s p 4=dV)(hi:i<=4):preB (dQ s p i) dV=true:=by
 have b:=gq s p i (by omega);unfold preB;rw[b,gQ,iV];refine⟨aZ (show i<=dV.size from hi),?_⟩;rw[<-a,bD,bD,fG];have c:(dQ s p 4).data.toList=cut s p 4:=by unfold dQ;simp
 have d:(dQ s p i).data.toList=cut s p i:=by unfold dQ;simp
 rw[ni,jU,c,d,kG,Nat.sub_zero];unfold cut;rw[List.take_take,qx hi]
theorem PW{x:ByteArray}(h:GK x=true):jQ x=true:=by unfold jQ;have:[dV].any (preB x)=true:=h;rw[this,Bool.or_true]
theorem wQ(s:ByteArray)(p left:Nat)(l:List UInt8):oM s p left l↔jK s p left l/\l_ jQ s (p+left+4)/\dQ s (p+left+4+4) 4=dV:=by
 constructor
 ·rintro⟨d,e,h3,c,f⟩;exact⟨d,⟨e,h3,c,fun i a b=>PW (f i a b)⟩,VK ⟨h3,c,f⟩⟩
 ·rintro⟨d,⟨e,h3,c,f⟩,h6⟩;refine⟨d,e,h3,c,fun i a b=> ?_⟩;unfold GK;rw[yC,List.any_nil,Bool.or_false];exact acW s _ i h3 h6 b
structure Pt where
 p:Nat
 name:ByteArray
 left:Nat
 l:List UInt8
inductive Ends(s:ByteArray):Nat->Nat->List UInt8->Pt->Prop
 |stop {p left:Nat} {l:List UInt8}:jK s p left l->l_ jQ s (p+left+4)->dQ s (p+left+4+4) 4≠dV->Ends s p left l ⟨p+left+4+8,dQ s (p+left+4+4) 4,aT s (p+left+4),cut s (p+left+4+4) 4⟩
 |more {p left:Nat} {l:List UInt8} {P:Pt}:jK s p left l->l_ jQ s (p+left+4)->dQ s (p+left+4+4) 4=dV->Ends s (p+left+4+8) (aT s (p+left+4)) (cut s (p+left+4+4) 4) P->Ends s p left l P
theorem Ends.first{s:ByteArray}{p left:Nat}{l:List UInt8}{P:Pt}(h:Ends s p left l P):jK s p left l/\l_ jQ s (p+left+4):=by
 cases h with
 |stop a b h3=>exact⟨a,b⟩
 |more a b h3 c=>exact⟨a,b⟩
theorem KU{s:ByteArray}{p left:Nat}{l:List UInt8}(b:oM s p left l)(P:Pt):Ends s (p+left+4+8) (aT s (p+left+4)) (cut s (p+left+4+4) 4) P↔Ends s p left l P:=by
 obtain⟨c,d,h3⟩:=(wQ s p left l).1 b;constructor
 ·exact fun h=> .more c d h3 h
 ·intro h;cases h with
  |stop e f a=>exact absurd h3 a
  |more e f a g=>exact g
theorem XD{s:ByteArray}{p left:Nat}{l:List UInt8}(hp:p<s.size)(P:Pt):Ends s (p+1) left (l++[s[p]]) P↔Ends s p (left+1) l P:=by
 have e:p+1+left=p+(left+1):=by omega
 have d:=PU s p left l hp;constructor
 ·intro h;cases h with
  |stop c a b=>rw[e]at a b|-;exact .stop (d.1 c) a b
  |more c a b f=>rw[e]at a b f;exact .more (d.1 c) a b f
 ·intro h;cases h with
  |stop c a b=>have:=Ends.stop (s:=s) (p:=p+1) (left:=left) (l:=l++[s[p]]) (d.2 c) (by rw[e];exact a) (by rw[e];exact b);rw[e]at this;exact this
  |more c a b f=>exact .more (d.2 c) (by rw[e];exact a) (by rw[e];exact b) (by rw[e];exact f)
def RY(cb:Nat)(bv:ay):Obj:= .cells #[.pointer (some ⟨cb,0,none⟩),.string dV,bv] 307 (0,0)
theorem aag(S:Src)(cb a:Nat)(bv:ay)(c:¬S.F a)(b:a≠cb):EC 285 #[.pointer (some ⟨a,0,none⟩)] GK (fun w=>w.heap[a]?=some (RY cb bv)) (jP S cb) where
 body:=fun args w=>qI func285 (by kernel_rfl) (by kernel_rfl) args w
 ask:=fun x w h g d=>ZR a x dV _ _ w h (by decide) d
 iU:=fun h f=>(f.block a (ai h) (fun e=>e.elim c b)).trans h
theorem TN(S:Src)(cb n:Nat)(bv:ay)(s:ByteArray)(w:af)(p left:Nat)(l:List UInt8)(h:CR S cb s w p dV left l)(L:w.heap[n]?=some (RY cb bv))(M:¬S.F n)(u:n≠cb):
 aF prog 283 #[.pointer (some ⟨n,0,none⟩)] w fun e w'=>
  (∃(b:UInt8) (C f:Nat) (D:List UInt8),(kU s p left l=b::kU s C f D/\∀P,Ends s C f D P↔Ends s p left l P)/\e= .returned (.tuple #[.int .u8 ((b.toNat:Nat):Int),.nilIface])/\CR S cb s w' C dV f D/\Fr (jP S cb) w w')\/
  ((∃T a,e= .returned (.tuple #[.int .u8 0,.iface T (.pointer (some a))])/\dO S w' T a (kU s p left l=[]))/\oC S cb w'/\Fr (jP S cb) w w'):=by
 have hM:=aag S cb n bv M u;obtain⟨R,G⟩:∃R,R=kU s p left l:=⟨_,rfl⟩;rw[<-G];have q:ah _:=G;clear G;obtain⟨E,H⟩:∃E:Pt->Prop,E=Ends s p left l:=⟨_,rfl⟩;rw[<-H];have v:ah (∀P,Ends s p left l P↔E P):=(fun P=>by rw[H]:∀P,_);clear H;go_enter func283,ntmps283
 go_wp2_with fail
 go_loopg [4] (s.size-p+1) (fun gk _ wr=> ∃(d c:Nat) (j:List UInt8),s.size-d<gk/\(R=kU s d c j/\∀P,Ends s d c j P↔E P)/\CR S cb s wr d dV c j/\Fr (jP S cb) w wr)
 case atStart=>exact⟨p,left,l,by omega,⟨q.out,v.out⟩,h,Fr.refl _ _⟩
 case round=>
  clear q v;obtain⟨d,c,j,V,⟨x,y⟩,k,hF⟩:=hrel;have q:ah _:=x;have N:ah _:=y;clear x y;have z:wr.heap[n]?=some (RY cb bv):=(hF.block n (ai L) (fun e=>e.elim M u)).trans L;have c0:wr.cell? ⟨n,0,none⟩=some (.pointer (some ⟨cb,0,none⟩)):=by simpa using(cell_of z 0).1
  have O:=k.lf;have A:=uQ S cb s wr d c dV j k;cases c with
  |zero=>
   have t:=Bc S cb _ _ (.inr ⟨_,rfl⟩) GK _ hM s wr d 0 dV j k z;rw[eH]at t;go_wp2_with fail
   refine A.mono ?_;rintro e Q ⟨rfl,g⟩;have g:=g.symm;subst g;clear A;go_wp2_with fail
   refine t.mono ?_;clear t;rintro e w1 (⟨i,rfl,o,r⟩|⟨⟨T,a,rfl,i⟩,o,r⟩)
   ·have B:oM s d 0 j:=i;have hle:=Cj B;have I:ah (R=kU s (d+4+8) (aT s (d+4)) (cut s (d+4+4) 4)):=(by rw[q.out,uS B,eP];rfl:_=_);rw[VK i.2.2]at o;have J:ah (∀P,Ends s (d+4+8) (aT s (d+4)) (cut s (d+4+4) 4) P↔E P):=(fun P=>(KU B P).trans (N.out P):∀P,_);clear i B c0;go_wp2_with fail
    go_roundg (s.size-(d+4+8)+1)
    case measure=>omega
    case rel=>exact⟨_,_,_,by omega,⟨I.out,J.out⟩,o,hF.trans r⟩
   ·have K:dO S w1 T a (R=[]):=i.imp (fun i=>by rw[q.out,pK (show¬oM s d 0 j from i),eP]);clear i c0;go_wp2_with fail
    go_ret2;exact .inr ⟨⟨T,a,rfl,K⟩,o,hF.trans r⟩
  |succ m=>
   have t:=vX S cb s wr d m dV j k;go_wp2_with fail
   refine A.mono ?_;rintro e Q ⟨rfl,g⟩;have g:=g.symm;subst g;clear A;go_wp2_with fail
   refine t.mono ?_;clear t;rintro e w1 (⟨hp,rfl,o,r⟩|⟨⟨T,a,rfl,i⟩,o,r⟩)
   ·have I:ah (R=s[d]::kU s (d+1) m (j++[s[d]])):=(by rw[q.out];exact GL s d m j hp:_=_);have U:ah (aA s d=(s[d]).toNat):=dL s d hp;clear c0;go_wp2_with fail
    go_ret2;exact .inl ⟨_,_,_,_,⟨I.out,fun P=>(XD hp P).trans (N.out P)⟩,vW (gY Nat.cast U.out),o,hF.trans r⟩
   ·have K:dO S w1 T a (R=[]):=i.imp (fun i=>by rw[q.out];exact PV s d (m+1) j i (by omega));clear i c0;go_wp2_with fail
    go_ret2;exact .inr ⟨⟨T,a,rfl,K⟩,o,hF.trans r⟩
theorem PX(v:ay)(w:af):(Go.method 494 266 v "NextByte").run prog w= .ok (283,v) w:=by kernel_rfl
theorem PY{S:Src}{w:af}{eb lb:bP}{base:Nat}{T:aY}{a:bP}{P:Prop}(hs:jI w eb S.fb lb base)(h:dO S w T a P):
 aF prog 76 #[.iface T (.pointer (some a)),.iface 362 (.pointer (some eb))] w fun e w'=>e= .returned (.bool false)/\w'=w:=by
 rcases h with⟨h,_⟩|⟨⟨n,h⟩,_⟩
 ·exact jI.aev eb h
 ·exact hs.ZK n T a h
theorem KW(S:Src)(cb g:Nat)(bv:ay)(s:ByteArray)(w:af)(eb lb:bP)(p left:Nat)(l:List UInt8)(h:CR S cb s w p dV left l)(u:w.heap[g]?=some (RY cb bv))(v:¬S.F g)(n:g≠cb)(hs:jI w eb S.fb lb S.base):
 aF prog 193 #[.iface 266 (.pointer (some ⟨g,0,none⟩))] w fun e w'=>
  (∃(b:UInt8) (i c:Nat) (j:List UInt8),(kU s p left l=b::kU s i c j/\∀P,Ends s i c j P↔Ends s p left l P)/\e= .returned (.tuple #[.int .u8 ((b.toNat:Nat):Int),.nilIface])/\CR S cb s w' i dV c j/\Fr (jP S cb) w w')\/
  ((∃T a,e= .returned (.tuple #[.int .u8 0,.iface T (.pointer (some a))])/\dO S w' T a (kU s p left l=[]))/\oC S cb w'/\Fr (jP S cb) w w'):=by
 have hm:=PX;have o:=TN S cb g bv s w p left l h u v n;have d:∀w',Fr (jP S cb) w w'->jI w' eb S.fb lb S.base:=fun w' x=>hs.over (fun k z=>x.block k (by have:=h.e.lt.2;omega) (fun e=>by
  rcases e with e|e
  ·have:=h.ok.low k e;omega
  ·have:=h.base;omega))
 obtain⟨R,t⟩:∃R,R=kU s p left l:=⟨_,rfl⟩;rw[<-t]at o|-;clear t;generalize Ends s p left l=E at*;go_enter func193,ntmps193
 go_wp2_with fail
 refine o.mono ?_;clear o;rintro e w1 (⟨b,i,c,j,m,rfl,q,f⟩|⟨⟨T,a,rfl,m⟩,q,f⟩)
 ·have r:=(d w1 f).en;have y:ah _:=m;clear m;unfold oK at r;go_wp2_with fail
  refine(Er.Tq _ _).mono ?_;rintro e w2 ⟨rfl,hw⟩;have hw:=hw.symm;subst hw;go_wp2_with fail
  go_ret2;exact .inl ⟨b,i,c,j,y.out,rfl,q,f⟩
 ·have r:=(d w1 f).en;have hI:=PY (d w1 f) m;unfold oK at r;go_wp2_with fail
  refine hI.mono ?_;rintro e w2 ⟨rfl,hw⟩;have hw:=hw.symm;subst hw;clear hI;go_wp2_with fail
  go_ret2;exact .inr ⟨⟨T,a,rfl,m⟩,q,f⟩
def VL(S:Src)(cb b:Nat)(bv:ay)(s:ByteArray)(eb lb:bP)(E:Pt->Prop):Src where
 T:=266
 a:=⟨b,0,none⟩
 base:=S.base
 F:=fun k=>jP S cb k\/k=b
 z:=0
 K:=fun w d t=>w.heap[b]?=some (RY cb bv)/\jI w eb S.fb lb S.base/\∃p left l,CR S cb s w p dV left l/\t<=d.size/\d.data.toList.drop t=kU s p left l/\∀P,Ends s p left l P↔E P
 KE:=fun w=>w.heap[b]?=some (RY cb bv)/\jI w eb S.fb lb S.base/\oC S cb w
 t_:=S.t_
 fb:=S.fb
theorem Nk{d:ByteArray}{t:Nat}{b:UInt8}{r:List UInt8}(h:d.data.toList.drop t=b::r):t<d.size/\aA d t=b.toNat/\d.data.toList.drop (t+1)=r:=by
 have e:t<d.data.toList.length:=by
  rcases bU t d.data.toList.length with a|a
  ·exact a
  ·rw[lQ a]at h;cases h
 have c:t<d.size:=by simpa using e
 rw[mD e]at h;injection h with a f
 refine⟨c,?_,f⟩;rw[dL d t c,<-a];rfl
theorem aah(S:Src)(cb o:Nat)(bv:ay)(s:ByteArray)(eb lb:bP)(E:Pt->Prop)(hS:S.Ok)(A:S.base<=cb)(B:S.base<=o)(v:¬S.F o)(q:o≠cb):(VL S cb o bv s eb lb E).Ok where
 ng:=hS.ng
 Di:=aU _
 low:=fun k i=>by
  rcases i with(i|rfl)|rfl
  ·exact hS.low k i
  ·exact A
  ·exact B
 ke:=fun⟨a,b,p,left,l,c,_⟩=>⟨a,b,c.e⟩
 Vy:=fun⟨a,b,c⟩ i=>by
  rcases i with(i|rfl)|rfl
  ·exact hS.Vy c.k i
  ·obtain⟨num,x,y,z,I⟩:=c.nN;exact⟨_,_,_,I,by decide⟩
  ·exact⟨_,_,_,a,by decide⟩
 iJ:=fun⟨a,b,p,left,l,c,d,f,g⟩ e=>⟨(e _ (.inl (.inr rfl))).trans a,b.over (fun k i=>e k (.inr i)),p,left,l,c.over (fun k i=>e k (i.imp .inl id)),d,f,g⟩
 qH:=fun⟨a,b,c⟩ e=>⟨(e _ (.inl (.inr rfl))).trans a,b.over (fun k i=>e k (.inr i)),c.over (fun k i=>e k (i.imp .inl id))⟩
 hb:=fun⟨a,b,c⟩=>c.lt.2
 Tm:=fun w d t ⟨a,b,p,left,l,c,hd,f,g⟩ N=>by
  have h:∀w',Fr (jP S cb) w w'->w'.heap[o]?=some (RY cb bv)/\jI w' eb S.fb lb S.base:=fun w' u=>⟨(u.block o (ai a) (fun e=>e.elim v q)).trans a,b.over (fun k i=>u.block k (by have:=c.e.lt.2;omega) (fun e=>by
   rcases e with e|e
   ·have:=hS.low k e;omega
   ·omega))⟩
  refine(KW S cb o bv s w eb lb p left l c a v q b).mono ?_;rintro e w' (⟨x,D,n,G,⟨j,H⟩,rfl,r,m⟩|⟨⟨T,C,rfl,j⟩,r,m⟩)
  ·obtain⟨O,J,K⟩:=Nk (f.trans j);exact .inl ⟨by rw[J],⟨(h w' m).1,(h w' m).2,D,n,G,r,by omega,K,fun P=>(H P).trans (g P)⟩,m.mono (fun k i=> .inl i)⟩
  ·rcases j with⟨_,j⟩|⟨j,L⟩
   ·rw[j]at f;have:d.data.toList.length<=t:=List.drop_eq_nil_iff.1 f;have Q:d.data.toList.length=d.size:=by simp
    omega
   ·exact .inr ⟨_,T,C,rfl,j,L,⟨(h w' m).1,(h w' m).2,r⟩,m.mono (fun k i=> .inl i)⟩
 xx:=fun w d ⟨a,b,p,left,l,c,hd,f,g⟩=>by
  have h:∀w',Fr (jP S cb) w w'->w'.heap[o]?=some (RY cb bv)/\jI w' eb S.fb lb S.base:=fun w' u=>⟨(u.block o (ai a) (fun e=>e.elim v q)).trans a,b.over (fun k i=>u.block k (by have:=c.e.lt.2;omega) (fun e=>by
   rcases e with e|e
   ·have:=hS.low k e;omega
   ·omega))⟩
  have M:kU s p left l=[]:=by rw[<-f];exact lQ (by simp)
  refine(KW S cb o bv s w eb lb p left l c a v q b).mono ?_;rintro e w' (⟨x,D,n,G,⟨j,H⟩,rfl,r,m⟩|⟨⟨T,C,rfl,j⟩,r,m⟩)
  ·rw[M]at j;cases j
  ·exact⟨_,T,C,rfl,Or.imp (fun g=>⟨g.1,trivial⟩) id j,⟨(h w' m).1,(h w' m).2,r⟩,m.mono (fun k i=> .inl i)⟩
theorem EF(v:ay)(w:af):(Go.method 494 159 v "NextByte").run prog w= .ok (179,v) w:=by kernel_rfl
theorem GM(S:Src)(cb:Nat)(s:ByteArray)(w:af)(p:Nat)(name:ByteArray)(l:List UInt8)(eb:bP)(h:CR S cb s w p name 0 l)(b:oK w eb):
 aF prog 179 #[.pointer (some ⟨cb,0,none⟩)] w fun e w'=>e= .returned (.tuple #[.int .u8 0,.iface 362 (.pointer (some eb))])/\∃nq,w'=w.drewN nq:=by
 obtain⟨num,c0,c1,c2,f,c,d,a⟩:=h.cells;clear c0 c1 c2 c d a;unfold oK at b;go_enter func179,ntmps179
 go_wp2_with fail
 go_quiet (fail)
 go_wp2_with fail
 go_ret2;exact⟨rfl,_,rfl⟩
theorem CR.qL{S:Src}{cb:Nat}{s:ByteArray}{w w':af}{p left:Nat}{name:ByteArray}{l:List UInt8}{eb lb:bP}(h:CR S cb s w p name left l)(hs:jI w eb S.fb lb S.base)(a:Fr (jP S cb) w w'):jI w' eb S.fb lb S.base:=
 hs.over (fun k b=>a.block k (by have:=h.e.lt.2;omega) (fun e=>by
  rcases e with e|e
  ·have:=h.ok.low k e;omega
  ·have:=h.base;omega))
theorem zL(S:Src)(cb:Nat)(s:ByteArray)(w:af)(eb lb:bP)(p left:Nat)(name:ByteArray)(l:List UInt8)(h:CR S cb s w p name (left+1) l)(hs:jI w eb S.fb lb S.base):
 aF prog 193 #[.iface 159 (.pointer (some ⟨cb,0,none⟩))] w fun e w'=>
  (∃hp:p<s.size,e= .returned (.tuple #[.int .u8 ((aA s p:Nat):Int),.nilIface])/\CR S cb s w' (p+1) name left (l++[s[p]])/\Fr (jP S cb) w w')\/
  ((∃T a,e= .returned (.tuple #[.int .u8 0,.iface T (.pointer (some a))])/\dO S w' T a (¬p<s.size))/\oC S cb w'/\Fr (jP S cb) w w'):=by
 have hm:=EF;have g:=vX S cb s w p left name l h;have b:=fun w' j=>h.qL hs (w':=w') j;go_enter func193,ntmps193
 go_wp2_with fail
 refine g.mono ?_;clear g;rintro e w1 (⟨hp,rfl,d,c⟩|⟨⟨T,a,rfl,i⟩,d,c⟩)
 ·have f:=(b w1 c).en;unfold oK at f;go_wp2_with fail
  refine(Er.Tq _ _).mono ?_;rintro e w2 ⟨rfl,hw⟩;have hw:=hw.symm;subst hw;go_wp2_with fail
  go_ret2;exact .inl ⟨hp,rfl,d,c⟩
 ·have f:=(b w1 c).en;have hI:=PY (b w1 c) i;unfold oK at f;go_wp2_with fail
  refine hI.mono ?_;rintro e w2 ⟨rfl,hw⟩;have hw:=hw.symm;subst hw;clear hI;go_wp2_with fail
  go_ret2;exact .inr ⟨⟨T,a,rfl,i⟩,d,c⟩
theorem TP(S:Src)(cb:Nat)(s:ByteArray)(w:af)(eb lb:bP)(p:Nat)(name:ByteArray)(l:List UInt8)(h:CR S cb s w p name 0 l)(hs:jI w eb S.fb lb S.base):
 aF prog 193 #[.iface 159 (.pointer (some ⟨cb,0,none⟩))] w fun e w'=>
  (∃T a,e= .returned (.tuple #[.int .u8 0,.iface T (.pointer (some a))])/\jC w' T a)/\CR S cb s w' p name 0 l/\Fr (jP S cb) w w':=by
 have hm:=EF;have c:=GM S cb s w p name l eb h hs.en;go_enter func193,ntmps193
 go_wp2_with fail
 refine c.mono ?_;clear c;rintro e w1 ⟨rfl,nq,b⟩;have d:oK w1 eb:=by rw[b];exact hs.en
 have f:CR S cb s w1 p name 0 l:=by rw[b];exact h.grow (fun _ _=>rfl)
 have hF:Fr (jP S cb) w w1:=by rw[b];exact(Fr.refl _ w).drewN nq
 clear b;unfold oK at d;go_wp2_with fail
 refine(Er.acg _ _).mono ?_;rintro e w2 ⟨rfl,hw⟩;have hw:=hw.symm;subst hw;go_wp2_with fail
 refine(dJ _ _).mono ?_;rintro e w3 ⟨rfl,rfl⟩;go_wp2_with fail
 go_ret2;exact⟨⟨_,_,rfl,jC.mk _ _⟩,f.grow (fun k g=>aj _ _ k g),hF.alloc _⟩
def aai(S:Src)(cb:Nat)(s:ByteArray)(eb lb:bP)(name:ByteArray)(p n:Nat)(l:List UInt8):Src where
 T:=159
 a:=⟨cb,0,none⟩
 base:=S.base
 F:=jP S cb
 z:=0
 K:=fun w d t=>d=dQ s p n/\t<=n/\jI w eb S.fb lb S.base/\CR S cb s w (p+t) name (n-t) (l++cut s p t)
 KE:=fun w=>jI w eb S.fb lb S.base/\oC S cb w
 t_:=S.t_
 fb:=S.fb
theorem Nl(s:ByteArray)(p n:Nat)(hp:p<=s.size):(dQ s p n).size=min n (s.size-p):=by
 show(cut s p n).toArray.size=_;rw[List.size_toArray];unfold cut;rw[jl,iI];have:s.data.toList.length=s.size:=by simp
 omega
theorem nG(s:ByteArray)(p n t:Nat)(a:t<n)(hp:p+t<s.size):aA (dQ s p n) t=aA s (p+t):=by
 unfold aA;have e:(dQ s p n).data.toList=cut s p n:=by unfold dQ;simp
 rw[e];unfold cut;rw[ak,ak,dU a,iZ]
theorem PZ(S:Src)(cb:Nat)(s:ByteArray)(eb lb:bP)(name:ByteArray)(p n:Nat)(l:List UInt8)(hS:S.Ok)(r:S.base<=cb)(hp:p<=s.size):(aai S cb s eb lb name p n l).Ok where
 ng:=hS.ng
 Di:=aU _
 low:=fun k i=>by
  rcases i with i|rfl
  ·exact hS.low k i
  ·exact r
 ke:=fun⟨a,b,c,d⟩=>⟨c,d.e⟩
 Vy:=fun⟨a,c⟩ i=>by
  rcases i with i|rfl
  ·exact hS.Vy c.k i
  ·obtain⟨num,x,y,z,A⟩:=c.nN;exact⟨_,_,_,A,by decide⟩
 iJ:=fun⟨a,b,c,d⟩ e=>⟨a,b,c.over (fun k i=>e k (.inr i)),d.over e⟩
 qH:=fun⟨a,c⟩ e=>⟨a.over (fun k i=>e k (.inr i)),c.over e⟩
 hb:=fun⟨a,c⟩=>c.lt.2
 Tm:=fun w d t ⟨a,b,c,h⟩ B=>by
  subst a;rw[Nl s p n hp]at B;have v:t<n:=by omega
  have q:p+t<s.size:=by omega
  obtain⟨m,hm⟩:∃m,n-t=m+1:=⟨n-t-1,by omega⟩;rw[hm]at h;refine(zL S cb s w eb lb (p+t) m name _ h c).mono ?_;rintro e w' (⟨u,rfl,o,f⟩|⟨⟨T,a,rfl,j⟩,o,f⟩)
  ·refine .inl ⟨by rw[nG s p n t v q],⟨rfl,by omega,h.qL c f,?_⟩,f⟩;have e:=gJ s p t q;rw[e,<-bV,show n-(t+1)=m by omega];exact o
  ·rcases j with⟨_,j⟩|⟨j,C⟩
   ·exact absurd q j
   ·exact .inr ⟨_,T,a,rfl,j,C,⟨h.qL c f,o⟩,f⟩
 xx:=fun w d ⟨a,b,c,h⟩=>by
  subst a;rw[Nl s p n hp]at b h;by_cases v:n<=s.size-p
  ·rw[show min n (s.size-p)=n by omega,iW]at h;refine(TP S cb s w eb lb _ name _ h c).mono ?_;rintro e w' ⟨⟨T,a,rfl,j⟩,o,f⟩;exact⟨_,T,a,rfl,.inl ⟨j,trivial⟩,⟨h.qL c f,o.e⟩,f⟩
  ·rw[show min n (s.size-p)=s.size-p by omega]at h;obtain⟨m,hm⟩:∃m,n-(s.size-p)=m+1:=⟨n-(s.size-p)-1,by omega⟩;rw[hm]at h;refine(zL S cb s w eb lb _ m name _ h c).mono ?_;rintro e w' (⟨u,rfl,o,f⟩|⟨⟨T,a,rfl,j⟩,o,f⟩)
   ·omega
   ·exact⟨_,T,a,rfl,Or.imp (fun g=>⟨g.1,trivial⟩) id j,⟨h.qL c f,o⟩,f⟩
theorem afh{A B C D:Prop}{S:Src}{w w':af}{k:Nat}(h:(A/\B/\C/\Fr S.F w w')\/(D/\S.KE w'/\Fr S.F w w'))(a:k<w.heap.size)(b:¬S.F k):w'.heap[k]?=w.heap[k]?:=by rcases h with⟨_,_,_,h⟩|⟨_,_,h⟩<;>exact h.block k a b
theorem P_(S:Src)(cb:Nat)(s:ByteArray)(w:af)(p left n:Nat)(name nm:ByteArray)(l:List UInt8)(h:CR S cb s w p name left l)(U:n<=2147483647)(r:nm.size=4):
 aF prog 146 #[.pointer (some ⟨cb,0,none⟩),.string nm,.int .i64 (n:Int)] w fun e w'=>
  (Match s p ((⟨(iw n).toArray⟩:ByteArray)++nm)/\e= .returned .nilIface/\CR S cb s w' (p+8) nm n nm.data.toList/\Fr (jP S cb) w w')\/
  ((∃T a,e= .returned (.iface T (.pointer (some a)))/\dO S w' T a (¬Match s p ((⟨(iw n).toArray⟩:ByteArray)++nm)))/\oC S cb w'/\Fr (jP S cb) w w'):=by
 have F:(⟨(iw n).toArray⟩:ByteArray).size=4:=rfl;have V:((⟨(iw n).toArray⟩:ByteArray)++nm).size=8:=by rw[vg,F,r]
 have L:=fun w'=>Ak n w' (by omega);have t:IntKind.u32.wrap (n:Int)=(n:Int):=by rw[IntKind.wrap_u32];omega
 rw[<-t]at L;clear t;obtain⟨num,c0,c1,c2,W,X,M,u⟩:=h.cells;have Y:=M 1;have x:=h.num (wrap64 (num+1));have y:Fr (jP S cb) w (w.setCell ⟨cb,1,none⟩ (.int .i64 (wrap64 (num+1)))):=(Fr.refl (jP S cb) w).set cb 1 (.inr rfl) _;clear c2 W X M u;generalize (⟨(iw n).toArray⟩:ByteArray)=G at*;have Z:ah (Match s p (G++nm)->p+8<=s.size):=(fun hm=>by have:=hm.1;omega:_->_);obtain⟨Q,H⟩:∃Q:Prop,Q=Match s p (G++nm):=⟨_,rfl⟩;rw[<-H]at Z|-;have N:ah _:=H;clear H;go_enter func146,ntmps146
 go_upto_region 2 with fail
 generalize (w.setCell ⟨cb,1,none⟩ (.int .i64 (wrap64 (num+1))))=w0 at*;clear c0 c1 Y;obtain⟨O,P,_,_,_,_,_,_⟩:=x.cells;go_cut [7] (fun v7 wx=> ∃v:ay,v7=v/\((Q/\v= .nilIface/\CR S cb s wx (p+8) name left l/\Fr (jP S cb) w0 wx)\/((∃T a,v= .iface T (.pointer (some a))/\dO S wx T a (¬Q))/\oC S cb wx/\Fr (jP S cb) w0 wx)))
 case first=>
  go_region_held3 (fun w'=>w'.cell? ⟨cb,0,none⟩=some (.iface S.T (.pointer (some S.a)))) (first|go_keep|exact I|exact z) (first
   |(go_at_call 175;refine(L _).mono ?_;rintro e w3 ⟨rfl,c⟩;have b:CR S cb s w3 p name left l:=x.grow (fun k j=>c.block k j);obtain⟨A,z,_,_,_,_,_,m⟩:=b.cells)
   |(go_at_call 174;refine(Gy S b.ok s (G++nm) _ p _ b.k b.le (by omega)).mono ?_;rintro e w4 ⟨v4,rfl,B⟩;have I:w4.cell? ⟨cb,0,none⟩=some (.iface S.T (.pointer (some S.a))):=(aV (afh B (ai m) b.no)).trans z))
  all_goals
   go_wp2_with fail
   go_meet
   case rel=>
    refine⟨v4,rfl,?_⟩;have C:Fr (jP S cb) w0 w3:=⟨c.os,c.tape,c.output,c.size,fun k j _=>c.block k j⟩;rcases B with⟨f,rfl,d,g⟩|⟨⟨T,a,rfl,f⟩,d,g⟩
    ·rw[V]at d;have J:=b.src d (by have:=f.1;omega) g;exact .inl ⟨by rw[N.out];exact f,rfl,J,C.trans (g.mono (fun k j=> .inl j))⟩
    ·exact .inr ⟨⟨T,a,rfl,f.imp (fun q R=>q (by rw[N.out]at R;exact R))⟩,b.PD d g,C.trans (g.mono (fun k j=> .inl j))⟩
 case rest=>
  obtain⟨v,rfl,hv⟩:=hcut;rcases hv with⟨f,rfl,d,g⟩|⟨⟨T,a,rfl,f⟩,d,g⟩
  ·have K:ah Q:=f;have i:=KR nm wc (by rw[r];omega) d.tab;obtain⟨A,u0,u1,u2,u3,u4,E,_⟩:=d.cells;have z2:=E 2;have z3:=E 3;have z4:=E 4;have D:ah _:=d.begun nm n U;clear f u0 u1 E P;generalize jo nm.data.toList=cc at*;go_wp2_with fail
   refine i.mono ?_;rintro e wz ⟨rfl,o⟩;have o:=o.symm;subst o;clear i;go_wp2_with fail
   go_ret;obtain⟨y1,y2⟩:=D.out;exact .inl ⟨K.out,rfl,y1,(y.trans g).trans y2⟩
  ·clear P;go_wp2_with fail
   go_ret;exact .inr ⟨⟨T,a,rfl,f⟩,d,y.trans g⟩
end Pr
end Go.Proofs.YtephkcdbnogdhaaGreatDoor
