import Derived.Test.YtephkcdbnogdhaaGreatDoorM4
set_option linter.unusedVariables false
set_option maxHeartbeats 40000000
set_option maxRecDepth 10000
namespace Go.Proofs.YtephkcdbnogdhaaGreatDoor
open Go.Proofs.Tryz
open Go renaming World->af,Value->ay,Calls->aF,TypeId->aY
open Go.RowKit renaming Hid->ah,intOf->aX
namespace Pr
open Go.RowKit Rf
def kM(w:af)(b o:Nat)(L:List Nat):Prop:=∀i,i<L.length->w.cell? ⟨b,o+i,none⟩=some (.int .u8 ((L.getD i 0:Nat):Int))
def vz(L:List Nat):Nat:=if wE L=0 then 3 else if jD L=32768 then 1 else if wE L=1/\jD L=16384 then 2 else 0
theorem VC(x:Nat)(h:0<x):pw (15-x)<=16384:=uC _ 14 (by omega)
theorem Pn(L:List Nat):jD L<=16384*L.length:=by
 induction L with
 |nil=>simp[jD]
 |cons x L a=>
  unfold jD at*;rw[qZ,List.sum_cons,gK];by_cases h:0<x
  ·rw[aC h];have:=VC x h;omega
  ·rw[au h];omega
theorem uj(L:List Nat)(k:Nat)(h:k<L.length):L.take (k+1)=L.take k++[L.getD k 0]:=by rw[lN h];simp[List.getD,List.getElem?_eq_getElem h]
theorem acG(a k:Nat)(h:pw k<=16384)(hm:a<=1000000000):wrap64 ((a:Int)+wrap64 (2^k))=((a+pw k:Nat):Int):=by
 have e:(2:Int)^k=((pw k:Nat):Int):=by simp[pw]
 rw[e];simp only[wrap64];omega
theorem Cc(b o cap:Nat)(L:List Nat)(w:af)(h:kM w b o L)(D:L.length<=400)(hx:∀x∈L,x<=15):
 aF prog 228 #[.slice (some ⟨b,o,none⟩) L.length cap] w fun e w'=>e= .returned (.int .i64 ((vz L:Nat):Int))/\w'=w:=by
 go_enter func228,ntmps228
 go_wp2
 go_loop [3,4,9] (fun c r i=> ∃k:Nat,k<=L.length/\i= .int .i64 k/\c= .int .i64 ((wE (L.take k):Nat):Int)/\r= .int .i64 ((jD (L.take k):Nat):Int)) (fun _ _ i=>L.length-(aX i).toNat)
 case atStart=>exact⟨0,aU _,rfl,rfl,rfl⟩
 case round=>
  obtain⟨k,E,rfl,rfl,rfl⟩:=hrel;by_cases f:k<L.length
  ·have F:=h k f;have s:ah _:=OY (L.take k) (L.getD k 0);have t:ah _:=Tv (L.take k) (L.getD k 0);have m:ah _:=uj L k f;have u:L.getD k 0<=15:=gU L 15 hx k;have p:wE (L.take k)<=400:=by have:=SV (L.take k);simp at this;omega
   have q:jD (L.take k)<=6553600:=by have:=Pn (L.take k);simp at this;omega
   have y:ah (0<L.getD k 0->pw (15-L.getD k 0)<=16384):=VC (L.getD k 0);generalize L.getD k 0=x at*;generalize wE (L.take k)=d at*;generalize jD (L.take k)=a at*;by_cases g:0<x
   ·have hp:pw (15-x)<=16384:=y.out g;go_wp2
    go_round
    case rel=>exact⟨k+1,by omega,by go_num,by rw[m.out,s.out,aC g];go_num,by rw[m.out,t.out,aC g,acG a _ hp (by omega)]⟩
    case measure=>simp[aX];omega
   ·go_wp2
    go_round
    case rel=>exact⟨k+1,by omega,by go_num,by rw[m.out,s.out,au g];go_num,by rw[m.out,t.out,au g];go_num⟩
    case measure=>simp[aX];omega
  ·have z:L.take k=L:=iY (by omega);rw[z];have p:wE L<=400:=by have:=SV L;omega
   have q:jD L<=6553600:=by have:=Pn L;omega
   have j:ah (vz L=if wE L=0 then 3 else if jD L=32768 then 1 else if wE L=1/\jD L=16384 then 2 else 0):=rfl;generalize wE L=d at*;generalize jD L=a at*;by_cases l:d=0
   ·have A:decide ((d:Int)=0)=true:=aZ (by omega);go_wp2
    go_ret;exact⟨dP (by rw[j.out,aC l];rfl),rfl⟩
   ·have A:decide ((d:Int)=0)=false:=aS (by omega);by_cases n:a=32768
    ·have B:decide ((a:Int)=32768)=true:=aZ (by omega);go_wp2
     go_ret;exact⟨dP (by rw[j.out,au l,aC n];rfl),rfl⟩
    ·have B:decide ((a:Int)=32768)=false:=aS (by omega);by_cases h3:d=1
     ·have d3:decide ((d:Int)=1)=true:=aZ (by omega);by_cases v:a=16384
      ·have C:decide ((a:Int)=16384)=true:=aZ (by omega);go_wp2
       go_ret;exact⟨dP (by rw[j.out,au l,au n,aC ⟨h3,v⟩];rfl),rfl⟩
      ·have C:decide ((a:Int)=16384)=false:=aS (by omega);go_wp2
       go_ret;exact⟨dP (by rw[j.out,au l,au n,au (fun e=>v e.2)];rfl),rfl⟩
     ·have d3:decide ((d:Int)=1)=false:=aS (by omega);go_wp2
      go_ret;exact⟨dP (by rw[j.out,au l,au n,au (fun e=>h3 e.1)];rfl),rfl⟩
def Ce(w:af)(k vb:Nat)(T:aY)(L:List Nat):Prop:=∃cur,w.heap[k]?=some (.cells cur T (0,0))/\cur[0]?=some (.int .i64 ((dK L:Nat):Int))/\(∀n,n<=15->cur[1+n]?=some (.int .i64 ((cN L n:Nat):Int)))/\
 cur[17]?=some (.slice (some ⟨vb,0,none⟩) (sN L 16) (sN L 16))
theorem Ce.c0{w:af}{k vb:Nat}{T:aY}{L:List Nat}(h:Ce w k vb T L):w.cell? ⟨k,0,none⟩=some (.int .i64 ((dK L:Nat):Int)):=by obtain⟨cur,a,b,h3,c⟩:=h;rw[(cell_of a 0).1,b]
theorem Ce.cn{w:af}{k vb:Nat}{T:aY}{L:List Nat}(h:Ce w k vb T L)(n:Nat)(a:n<=15):w.cell? ⟨k,1+n,none⟩=some (.int .i64 ((cN L n:Nat):Int)):=by obtain⟨cur,b,c,h3,d⟩:=h;rw[(cell_of b _).1,h3 n a]
theorem Ce.Gq{w:af}{k vb:Nat}{T:aY}{L:List Nat}(h:Ce w k vb T L):w.cell? ⟨k,17,none⟩=some (.slice (some ⟨vb,0,none⟩) (sN L 16) (sN L 16)):=by obtain⟨cur,a,c,h3,b⟩:=h;rw[(cell_of a _).1,b]
def Gs(w:af)(k:Nat)(L:List Nat):Prop:=∃vb a,Ce w k vb 360 L/\w.heap[vb]?=some (.cells a 3 (0,0))/\∀j,j<sN L 16->a[j]?=some (.int .i64 (((BZ L 16).getD j 0:Nat):Int))
theorem Gs.over{w w':af}{k:Nat}{tb:Src}{rb:Nat}{L:List Nat}{s:ByteArray}{pos:Nat}(h:Gs w k L)(f:Rd w tb rb s pos)(g:RF tb rb w w'):Gs w' k L:=by obtain⟨vb,e,⟨cur,a,b⟩,c,d⟩:=h;have i:=f.types a (by decide) (by decide);have j:=f.types c (by decide) (by decide);exact⟨vb,e,⟨cur,(g.block k (ai a) i.1 i.2).trans a,b⟩,(g.block vb (ai c) j.1 j.2).trans c,d⟩
theorem Gt(s:ByteArray)(cs:List (Nat×List UInt8))(st:bZ):cu s cs st=pF s cs (15-0) (qj 0 0) st:=rfl
theorem zG(a:Nat)(b:a<4294967296):(BitVec.ofInt 64 (a:Int)).toNat=a:=by rw[BitVec.ofInt_natCast,BitVec.toNat_ofNat];exact iH (by omega)
theorem AX(a b:Nat)(c:a<4294967296)(hb:b<4294967296):bits .or .i64 (a:Int) (b:Int)=((a|||b:Nat):Int):=by have hx:a|||b<2^32:=Nat.or_lt_two_pow (by omega) (by omega);show IntKind.i64.wrap ((BitVec.ofInt 64 (a:Int)|||BitVec.ofInt 64 (b:Int)).toNat:Int)=_;rw[BitVec.toNat_or,zG a c,zG b hb,bK];omega
theorem Eu(a b:Nat)(c:a<4294967296)(hb:b<4294967296):bits .and .i64 (a:Int) (b:Int)=((a&&&b:Nat):Int):=by have hx:a&&&b<2^32:=Nat.and_lt_two_pow _ (by omega);show IntKind.i64.wrap ((BitVec.ofInt 64 (a:Int)&&&BitVec.ofInt 64 (b:Int)).toNat:Int)=_;rw[BitVec.toNat_and,zG a c,zG b hb,bK];omega
theorem ZF(c b:Nat)(a:c<1000000)(hb:b<=1):bits BinOp.or IntKind.i64 ((c:Int)*2) (b:Int)=((2*c+b:Nat):Int):=by
 have h:=AX (c*2) b (by omega) (by omega);have e:c*2|||b=2*c+b:=by rw[eu c];exact(lq (i:=1) (by omega) c).symm
 rw[e]at h;rw[<-h];congr 1
theorem Po(s:ByteArray)(L:List Nat)(m c b p:Nat)(hm:m<15)(k:c<2^m)(l:fN L m+cN L m<=c)(hb:b=bH s p 1)(hp:p<8*s.size)(hK:kN L 16<=32768):
 (2*c+b-fN L (m+1)<cN L (m+1)->pF s (bJ L).cs (15-m) (qj c m) ⟨p,false⟩=((BZ L 16).getD (sN L (m+1)+(2*c+b-fN L (m+1))) 0,⟨p+1,false⟩))/\
 (¬2*c+b-fN L (m+1)<cN L (m+1)->pF s (bJ L).cs (15-m) (qj c m) ⟨p,false⟩=pF s (bJ L).cs (15-(m+1)) (qj (2*c+b) (m+1)) ⟨p+1,false⟩):=by
 have a:b<=1:=by have:=fQ s p 1;omega
 have f:=zD s p hp;have i:(gy s ⟨p,false⟩).2.dA=false:=by rw[f]
 have d:15-m=(15-(m+1))+1:=by omega
 have e:=Pm L (m+1) (2*c+b) (by omega) (by rw[iD];omega) (by rw[fN];omega) hK;have g:(gy s ⟨p,false⟩).1=b:=by rw[f,hb]
 have j:(gy s ⟨p,false⟩).2=⟨p+1,false⟩:=by rw[f]
 constructor
 ·intro h;rw[aC h]at e;rw[d,Oz s _ _ _ _ rfl i _ (by rw[g,Dy c b m a];exact e),j]
 ·intro h;rw[au h]at e;rw[d,Dl s _ _ _ _ rfl i (by rw[g,Dy c b m a];exact e),g,j,Dy c b m a]
theorem MP(L:List Nat)(a:L.length<=400):∀n,sN L n<=400*n:=by
 intro n;induction n with
 |zero=>simp[sN]
 |succ n b=>rw[sN];have:=B_ L n;omega
theorem Pq(L:List Nat)(a:L.length<=400):sN L 16<=6400:=MP L a 16
theorem Xe(k:Nat)(tb:Src)(rb:Nat)(L:List Nat)(s:ByteArray)(pos:Nat)(w:af)(h:Gs w k L)(R:Rd w tb rb s pos)(hs:s.size<=140737488354000)(hl:L.length<=400)(hx:∀x∈L,x<=15)(hK:kN L 16<=32768):
 aF prog 231 #[.pointer (some ⟨k,0,none⟩),.pointer (some ⟨rb,0,none⟩)] w fun e w'=>
  (∃y p,cu s (bJ L).cs ⟨pos,false⟩=(y,⟨p,false⟩)/\e= .returned (.tuple #[.int .i64 ((y:Nat):Int),.nilIface])/\Rd w' tb rb s p/\RF tb rb w w')\/
  ((∃T a,e= .returned (.tuple #[.int .i64 0,.iface T (.pointer (some a))])/\dO tb w' T a ((cu s (bJ L).cs ⟨pos,false⟩).2.dA=true))/\qc w' tb rb s/\RF tb rb w w'):=by
 have a4:dK L<=15:=Gn L 15 hx;go_enter func231,ntmps231
 go_wp2_with fail
 go_loopw [7,8,9,10] (fun cv fv sv S wr=> ∃m c g sh:Nat,m<=dK L/\S= .int .i64 ((m+1:Nat):Int)/\cv= .int .i64 (c:Int)/\fv= .int .i64 (g:Int)/\sv= .int .i64 (sh:Int)/\g=fN L m+cN L m/\sh=sN L (m+1)/\c<2^m/\g<=c/\
  cu s (bJ L).cs ⟨pos,false⟩=pF s (bJ L).cs (15-m) (qj c m) ⟨pos+m,false⟩/\Rd wr tb rb s (pos+m)/\RF tb rb w wr) (fun _ _ _ S _=>17-(aX S).toNat)
 case atStart=>exact⟨0,0,0,0,aU _,rfl,rfl,rfl,rfl,by simp[fN,cN],by simp[sN,cN],by simp,ag _,Gt s _ _,R,RF.refl _ _ _⟩
 case round=>
  obtain⟨m,c,g,sh,hm,rfl,rfl,rfl,rfl,hg,E,hc,U,u,F,hF⟩:=hrel;have hT:Gs wr k L:=h.over R hF;obtain⟨vb,G,i,r,j⟩:=hT;have c0:=i.c0;have O:ah _:=u;have D:ah (g=fN L m+cN L m/\sh=sN L (m+1)/\c<2^m):=(⟨hg,E,hc⟩:_/\_/\_);have H:m<=15:=by omega
  have hp:2^m<=2^15:=b_ (by omega) H;have a5:c<=32767:=by omega
  clear u hg E hc hp;by_cases V:m+1<=dK L
  ·go_wp2_with fail
   refine(xy tb rb s (pos+m) _ F hs).mono ?_;rintro e w1 (⟨I,W,rfl,P,X⟩|⟨⟨T,a,rfl,I⟩,W,P⟩)
   ·have J:Gs w1 k L:=h.over R (hF.trans X);clear i r j c0;obtain⟨vb,G,i,r,j⟩:=J;have c0:=i.c0;have Gq:=i.Gq;have cn:=i.cn (m+1) (by omega);have hb:bH s (pos+m) 1<=1:=by have:=fQ s (pos+m) 1;omega
    obtain⟨b,v⟩:∃b,b=bH s (pos+m) 1:=⟨_,rfl⟩;rw[<-v]at hb|-;have Y:=ZF c b (by omega) hb;obtain⟨t,z⟩:∃t,t=2*c+b:=⟨_,rfl⟩;rw[<-z]at Y;have a6:t<=65535:=by omega
    have Z:cN L (m+1)<=400:=by have:=B_ L (m+1);omega
    have Q:ah (t=2*c+b):=z;have ql:(t:Int)-(g:Int)*2=((t-2*g:Nat):Int):=by omega
    obtain⟨pl,l⟩:∃pl,pl=t-2*g:=⟨_,rfl⟩;rw[<-l]at ql;have HP:ah (pl=t-2*g):=l;clear z l;obtain⟨A,n⟩:∃A,A=cN L (m+1):=⟨_,rfl⟩;rw[<-n]at Z cn;have K:ah (A=cN L (m+1)):=n;clear n;have hle:sN L (m+2)<=sN L 16:=zF L _ _ (by omega);have a3:sN L 16<=6400:=Pq L hl;have a7:sh+A<=sN L 16:=by have h1:=D.out.2.1;rw[K.out,h1];exact hle
    obtain⟨d,f⟩:=Po s L m c b (pos+m) (by omega) D.out.2.2 (by rw[<-D.out.1];exact U) v W hK;have B:fN L (m+1)=2*g:=by rw[fN,D.out.1]
    rw[B,<-Q.out,<-HP.out,<-D.out.2.1,<-K.out]at d;rw[B,<-Q.out,<-HP.out,<-K.out]at f;have H1:ah _:=d;have H2:ah _:=f;clear d f B hle v;generalize sN L 16=NN at*;by_cases o:pl<A
    ·have M:sh+pl<NN:=by omega
     have a0:w1.cell? ⟨vb,sh+pl,none⟩=_:=(cell_of r (sh+pl)).1.trans (j (sh+pl) M);go_wp2_with fail
     go_ret2;exact .inl ⟨_,_,O.out.trans (H1.out o),rfl,P,hF.trans X⟩
    ·go_wp2_with fail
     go_roundw
     case rel=>
      have hG:=D.out;refine⟨m+1,t,2*g+A,sh+A,V,by go_num,rfl,by go_num,by go_num,?_,?_,?_,?_,O.out.trans (H2.out o),P,hF.trans X⟩
      ·rw[fN,<-hG.1,<-K.out]
      ·rw[K.out,hG.2.1];rfl
      ·rw[Q.out,iD];omega
      ·rw[HP.out]at o;have:=Q.out;omega
     case measure=>simp[aX];omega
   ·clear i r j c0;have H3:dO tb w1 T a ((cu s (bJ L).cs ⟨pos,false⟩).2.dA=true):=I.imp (fun I=>by
     rw[O.out,show 15-m=(15-(m+1))+1 by omega,BG s _ _ _ _ rfl I])
    clear I;go_wp2_with fail
    go_ret2;exact .inr ⟨⟨T,a,rfl,H3⟩,W,hF.trans P⟩
  ·have H3:ah ((cu s (bJ L).cs ⟨pos,false⟩).2.dA=true):=(by
    rw[O.out];exact Kz s _ _ _ _ (fun q hq=>Gp L q (by rw[vI]at hq;omega)):_=_)
   have a1:qc wr tb rb s:=F.Ag;go_wp2_with fail
   refine(dJ _ _).mono ?_;rintro e w3 ⟨rfl,C⟩;have N:qc w3 tb rb s:=by rw[C];exact a1.alloc _
   have a2:RF tb rb w w3:=by rw[C];exact hF.alloc _
   clear C;go_wp2_with fail
   go_ret2;exact .inr ⟨⟨_,_,rfl,dO.ve H3.out⟩,N,a2⟩
def lY(m:Nat×Nat×Nat):ay:= .agg #[.int .u8 (m.1:Int),.int .i64 (m.2.1:Int),.int .u64 (m.2.2:Int)]
def vF(w:af)(k:Nat)(b:Nat->Nat×Nat×Nat)(L:List Nat):Prop:=∃vb a,Ce w k vb 343 L/\w.heap[vb]?=some (.cells a 314 (0,0))/\
 ∀j,j<sN L 16->a[j*3]?=some (.int .u8 ((b ((BZ L 16).getD j 0)).1:Int))/\a[j*3+1]?=some (.int .i64 ((b ((BZ L 16).getD j 0)).2.1:Int))/\a[j*3+2]?=some (.int .u64 ((b ((BZ L 16).getD j 0)).2.2:Int))
theorem vF.over{w w':af}{k:Nat}{tb:Src}{rb:Nat}{e:Nat->Nat×Nat×Nat}{L:List Nat}{s:ByteArray}{pos:Nat}(h:vF w k e L)(g:Rd w tb rb s pos)(i:RF tb rb w w'):vF w' k e L:=by obtain⟨vb,f,⟨cur,a,b⟩,c,d⟩:=h;have j:=g.types a (by decide) (by decide);have l:=g.types c (by decide) (by decide);exact⟨vb,f,⟨cur,(i.block k (ai a) j.1 j.2).trans a,b⟩,(i.block vb (ai c) l.1 l.2).trans c,d⟩
theorem RF.eF{tb:Src}{rb:Nat}{u v:af}(h:RF tb rb u v)(b o:Nat)(hb:u.heap.size<=b)(x:ay):RF tb rb u (v.setCell ⟨b,o,none⟩ x):=
 ⟨h.os,h.tape,h.output,by simpa using h.size,fun k c a e=>(iy v ⟨b,o,none⟩ x k (show k≠b by omega)).trans (h.block k c a e)⟩
theorem Rd.drew{w:af}{tb:Src}{rb:Nat}{s:ByteArray}{pos:Nat}(h:Rd w tb rb s pos):Rd w.drew tb rb s pos:=h.grow (fun _ _=>rfl)
theorem Xz(k:Nat)(tb:Src)(rb:Nat)(L:List Nat)(s:ByteArray)(pos:Nat)(w:af)(d:Nat->Nat×Nat×Nat)(h:vF w k d L)(hR:Rd w tb rb s pos)(hs:s.size<=140737488354000)(hl:L.length<=400)(hx:∀x∈L,x<=15)(hK:kN L 16<=32768):
 aF prog 198 #[.pointer (some ⟨k,0,none⟩),.pointer (some ⟨rb,0,none⟩)] w fun e w'=>
  (∃y p,cu s (bJ L).cs ⟨pos,false⟩=(y,⟨p,false⟩)/\e= .returned (.tuple #[lY (d y),.nilIface])/\Rd w' tb rb s p/\RF tb rb w w')\/
  ((∃T a,e= .returned (.tuple #[lY (0,0,0),.iface T (.pointer (some a))])/\dO tb w' T a ((cu s (bJ L).cs ⟨pos,false⟩).2.dA=true))/\qc w' tb rb s/\RF tb rb w w'):=by
 have I:Rd ((w.alloc (.cells #[.int .u8 0,.int .i64 0,.int .u64 0] 314)).alloc (.cells #[.int .u8 0,.int .i64 0,.int .u64 0] 314)) tb rb s pos:=(hR.alloc _).alloc _;have C:RF tb rb w ((w.alloc (.cells #[.int .u8 0,.int .i64 0,.int .u64 0] 314)).alloc (.cells #[.int .u8 0,.int .i64 0,.int .u64 0] 314)):=((RF.refl tb rb w).alloc _).alloc _;have h0:vF ((w.alloc (.cells #[.int .u8 0,.int .i64 0,.int .u64 0] 314)).alloc (.cells #[.int .u8 0,.int .i64 0,.int .u64 0] 314)) k d L:=h.over hR C;have a0:((w.alloc (.cells #[.int .u8 0,.int .i64 0,.int .u64 0] 314)).alloc (.cells #[.int .u8 0,.int .i64 0,.int .u64 0] 314)).heap[w.heap.size]?=some (.cells #[.int .u8 0,.int .i64 0,.int .u64 0] 314 (0,0)):=by rw[aj _ _ _ (by simp)];exact(dR w _).1
 have a1:((w.alloc (.cells #[.int .u8 0,.int .i64 0,.int .u64 0] 314)).alloc (.cells #[.int .u8 0,.int .i64 0,.int .u64 0] 314)).heap[w.heap.size+1]?=some (.cells #[.int .u8 0,.int .i64 0,.int .u64 0] 314 (0,0)):=by have h:=(dR (w.alloc (.cells #[.int .u8 0,.int .i64 0,.int .u64 0] 314)) (.cells #[.int .u8 0,.int .i64 0,.int .u64 0] 314)).1;rw[qh]at h;exact h
 have a2:((w.alloc (.cells #[.int .u8 0,.int .i64 0,.int .u64 0] 314)).alloc (.cells #[.int .u8 0,.int .i64 0,.int .u64 0] 314)).heap.size=w.heap.size+2:=by simp
 have D:∀k,w.heap.size<=k->tb.base<=k/\¬tb.F k/\k≠rb:=fun k hk=>hR.new hk;have n:∀{v:af} {b:Nat},RF tb rb ((w.alloc (.cells #[.int .u8 0,.int .i64 0,.int .u64 0] 314)).alloc (.cells #[.int .u8 0,.int .i64 0,.int .u64 0] 314)) v->w.heap.size<=b->b<w.heap.size+2->v.heap[b]?=some (.cells #[.int .u8 0,.int .i64 0,.int .u64 0] 314 (0,0)):=fun {v b} hv h1 h2=>by
  have hb:=D b h1;have e:=hv.block b (by rw[a2];exact h2) hb.2.1 hb.2.2;rcases(by omega:b=w.heap.size\/b=w.heap.size+1)with rfl|rfl
  ·exact e.trans a0
  ·exact e.trans a1
 have b0:dK L<=15:=Gn L 15 hx;go_enter func198,ntmps198
 go_wp2_with fail
 go_loopw [7,8,9,10] (fun cv fv sv lv wr=> ∃m c g sh:Nat,m<=dK L/\lv= .int .i64 ((m+1:Nat):Int)/\cv= .int .i64 (c:Int)/\fv= .int .i64 (g:Int)/\sv= .int .i64 (sh:Int)/\g=fN L m+cN L m/\sh=sN L (m+1)/\c<2^m/\g<=c/\
  cu s (bJ L).cs ⟨pos,false⟩=pF s (bJ L).cs (15-m) (qj c m) ⟨pos+m,false⟩/\Rd wr tb rb s (pos+m)/\RF tb rb ((w.alloc (.cells #[.int .u8 0,.int .i64 0,.int .u64 0] 314)).alloc (.cells #[.int .u8 0,.int .i64 0,.int .u64 0] 314)) wr) (fun _ _ _ lv _=>17-(aX lv).toNat)
 case atStart=>exact⟨0,0,0,0,aU _,rfl,rfl,rfl,rfl,by simp[fN,cN],by simp[sN,cN],by simp,ag _,Gt s _ _,I,RF.refl _ _ _⟩
 case round=>
  obtain⟨m,c,g,sh,hm,rfl,rfl,rfl,rfl,hg,Q,hc,a3,G,R,hF⟩:=hrel;have hT:vF wr k d L:=h0.over I hF;obtain⟨vb,S,r,u,t⟩:=hT;have c0:=r.c0;have Z:ah _:=G;have O:ah (g=fN L m+cN L m/\sh=sN L (m+1)/\c<2^m):=(⟨hg,Q,hc⟩:_/\_/\_);have U:m<=15:=by omega
  have hp:2^m<=2^15:=b_ (by omega) U;have b1:c<=32767:=by omega
  clear G hg Q hc hp;by_cases a4:m+1<=dK L
  ·go_wp2_with fail
   refine(xy tb rb s (pos+m) _ R hs).mono ?_;rintro e w1 (⟨V,k1,rfl,P,k3⟩|⟨⟨T,a,rfl,V⟩,k1,P⟩)
   ·have W:vF w1 k d L:=h0.over I (hF.trans k3);clear r u t c0;obtain⟨vb,S,r,u,t⟩:=W;have c0:=r.c0;have Gq:=r.Gq;have cn:=r.cn (m+1) (by omega);have hb:bH s (pos+m) 1<=1:=by have:=fQ s (pos+m) 1;omega
    obtain⟨b,J⟩:∃b,b=bH s (pos+m) 1:=⟨_,rfl⟩;rw[<-J]at hb|-;have a5:=ZF c b (by omega) hb;obtain⟨E,K⟩:∃E,E=2*c+b:=⟨_,rfl⟩;rw[<-K]at a5;have b2:E<=65535:=by omega
    have a6:cN L (m+1)<=400:=by have:=B_ L (m+1);omega
    have HC:ah (E=2*c+b):=K;have ql:(E:Int)-(g:Int)*2=((E-2*g:Nat):Int):=by omega
    obtain⟨pl,z⟩:∃pl,pl=E-2*g:=⟨_,rfl⟩;rw[<-z]at ql;have HP:ah (pl=E-2*g):=z;clear K z;obtain⟨M,A⟩:∃M,M=cN L (m+1):=⟨_,rfl⟩;rw[<-A]at a6 cn;have X:ah (M=cN L (m+1)):=A;clear A;have hle:sN L (m+2)<=sN L 16:=zF L _ _ (by omega);have a8:sN L 16<=6400:=Pq L hl;have b3:sh+M<=sN L 16:=by have h1:=O.out.2.1;rw[X.out,h1];exact hle
    obtain⟨j,l⟩:=Po s L m c b (pos+m) (by omega) O.out.2.2 (by rw[<-O.out.1];exact a3) J k1 hK;have N:fN L (m+1)=2*g:=by rw[fN,O.out.1]
    rw[N,<-HC.out,<-HP.out,<-O.out.2.1,<-X.out]at j;rw[N,<-HC.out,<-HP.out,<-X.out]at l;have H1:ah _:=j;have H2:ah _:=l;clear j l N hle J;generalize sN L 16=NN at*;by_cases B:pl<M
    ·have Y:sh+pl<NN:=by omega
     obtain⟨v0,v1,v2⟩:=t (sh+pl) Y;have b4:=(cell_of u ((sh+pl)*3)).1.trans v0;have b5:=(cell_of u ((sh+pl)*3+1)).1.trans v1;have a9:=(cell_of u ((sh+pl)*3+2)).1.trans v2;have i:=n (hF.trans k3) (ag _) (by omega);have s0:=(cell_of i 0);have s1:=(cell_of i 1);have s2:=(cell_of i 2);have t0:w1.cell? ⟨w.heap.size,0,none⟩=some (.int .u8 0):=by simpa using s0.1
     have t1:w1.cell? ⟨w.heap.size,1,none⟩=some (.int .i64 0):=by simpa using s1.1
     have t2:w1.cell? ⟨w.heap.size,2,none⟩=some (.int .u64 0):=by simpa using s2.1
     have f0:=s0.2;have f1:=s1.2;have f2:=s2.2;clear s0 s1 s2 v0 v1 v2;generalize hy:(BZ L 16).getD (sh+pl) 0=y at*;have f:=D w.heap.size (ag _);have g0:(w1.setCell ⟨w.heap.size,0,none⟩ (.int .u8 ((d y).1:Int))).cell? ⟨w.heap.size,0,none⟩=some (.int .u8 ((d y).1:Int)):=by simpa using(cell_of (bG i 0 (.int .u8 ((d y).1:Int))) 0).1
     have g1:((w1.setCell ⟨w.heap.size,0,none⟩ (.int .u8 ((d y).1:Int))).setCell ⟨w.heap.size,1,none⟩ (.int .i64 ((d y).2.1:Int))).cell? ⟨w.heap.size,1,none⟩=some (.int .i64 ((d y).2.1:Int)):=by simpa using(cell_of (bG (bG i 0 (.int .u8 ((d y).1:Int))) 1 (.int .i64 ((d y).2.1:Int))) 1).1
     have g2:(((w1.setCell ⟨w.heap.size,0,none⟩ (.int .u8 ((d y).1:Int))).setCell ⟨w.heap.size,1,none⟩ (.int .i64 ((d y).2.1:Int))).setCell ⟨w.heap.size,2,none⟩ (.int .u64 ((d y).2.2:Int))).cell? ⟨w.heap.size,2,none⟩=some (.int .u64 ((d y).2.2:Int)):=by simpa using(cell_of (bG (bG (bG i 0 (.int .u8 ((d y).1:Int))) 1 (.int .i64 ((d y).2.1:Int))) 2 (.int .u64 ((d y).2.2:Int))) 2).1
     go_wp2_with fail
     refine aI (v:= .tuple #[lY (d y),.nilIface]) (by simp[g0,g1,g2,results,results198,go_sem,lY]) rfl (.inl ⟨_,_,Z.out.trans (H1.out B),rfl,?_,?_⟩)
     ·exact((P.eF _ 0 _ f.1 f.2.1 f.2.2).eF _ 1 _ f.1 f.2.1 f.2.2).eF _ 2 _ f.1 f.2.1 f.2.2
     ·exact(((C.trans (hF.trans k3)).eF _ 0 (ag _) _).eF _ 1 (ag _) _).eF _ 2 (ag _) _
    ·go_wp2_with fail
     go_roundw
     case rel=>
      have hG:=O.out;refine⟨m+1,E,2*g+M,sh+M,a4,by go_num,rfl,by go_num,by go_num,?_,?_,?_,?_,Z.out.trans (H2.out B),P,hF.trans k3⟩
      ·rw[fN,<-hG.1,<-X.out]
      ·rw[X.out,hG.2.1];rfl
      ·rw[HC.out,iD];omega
      ·rw[HP.out]at B;have:=HC.out;omega
     case measure=>simp[aX];omega
   ·clear r u t c0;have H3:dO tb w1 T a ((cu s (bJ L).cs ⟨pos,false⟩).2.dA=true):=V.imp (fun V=>by
     rw[Z.out,show 15-m=(15-(m+1))+1 by omega,BG s _ _ _ _ rfl V])
    clear V;have i:=n (hF.trans P) (ag _) (by omega);have H:=n (hF.trans P) (Nat.le_succ _) (by omega);have t0:w1.cell? ⟨w.heap.size,0,none⟩=some (.int .u8 0):=by simpa using(cell_of i 0).1
    have t1:w1.cell? ⟨w.heap.size,1,none⟩=some (.int .i64 0):=by simpa using(cell_of i 1).1
    have t2:w1.cell? ⟨w.heap.size,2,none⟩=some (.int .u64 0):=by simpa using(cell_of i 2).1
    have q0:w1.cell? ⟨w.heap.size+1,0,none⟩=some (.int .u8 0):=by simpa using(cell_of H 0).1
    have q1:w1.cell? ⟨w.heap.size+1,1,none⟩=some (.int .i64 0):=by simpa using(cell_of H 1).1
    have q2:w1.cell? ⟨w.heap.size+1,2,none⟩=some (.int .u64 0):=by simpa using(cell_of H 2).1
    have f0:=(cell_of i 0).2;have f1:=(cell_of i 1).2;have f2:=(cell_of i 2).2;have f:=D w.heap.size (ag _);have g0:(w1.setCell ⟨w.heap.size,0,none⟩ (.int .u8 0)).cell? ⟨w.heap.size,0,none⟩=some (.int .u8 0):=by simpa using(cell_of (bG i 0 (.int .u8 0)) 0).1
    have g1:((w1.setCell ⟨w.heap.size,0,none⟩ (.int .u8 0)).setCell ⟨w.heap.size,1,none⟩ (.int .i64 0)).cell? ⟨w.heap.size,1,none⟩=some (.int .i64 0):=by simpa using(cell_of (bG (bG i 0 (.int .u8 0)) 1 (.int .i64 0)) 1).1
    have g2:(((w1.setCell ⟨w.heap.size,0,none⟩ (.int .u8 0)).setCell ⟨w.heap.size,1,none⟩ (.int .i64 0)).setCell ⟨w.heap.size,2,none⟩ (.int .u64 0)).cell? ⟨w.heap.size,2,none⟩=some (.int .u64 0):=by simpa using(cell_of (bG (bG (bG i 0 (.int .u8 0)) 1 (.int .i64 0)) 2 (.int .u64 0)) 2).1
    go_wp2_with fail
    refine aI (v:= .tuple #[lY (0,0,0),.iface T (.pointer (some a))]) (by simp[g0,g1,g2,results,results198,go_sem,lY]) rfl (.inr ⟨⟨T,a,rfl,((H3.set i (by decide) 0 _).set (bG i 0 _) (by decide) 1 _).set (bG (bG i 0 _) 1 _) (by decide) 2 _⟩,?_,?_⟩)
    ·exact((k1.eF _ 0 _ f.1 f.2.1 f.2.2).eF _ 1 _ f.1 f.2.1 f.2.2).eF _ 2 _ f.1 f.2.1 f.2.2
    ·exact(((C.trans (hF.trans P)).eF _ 0 (ag _) _).eF _ 1 (ag _) _).eF _ 2 (ag _) _
  ·have H3:ah ((cu s (bJ L).cs ⟨pos,false⟩).2.dA=true):=(by
    rw[Z.out];exact Kz s _ _ _ _ (fun q hq=>Gp L q (by rw[vI]at hq;omega)):_=_)
   have a7:qc wr tb rb s:=R.Ag;have i:=n hF (ag _) (by omega);have H:=n hF (Nat.le_succ _) (by omega);have t0:wr.cell? ⟨w.heap.size,0,none⟩=some (.int .u8 0):=by simpa using(cell_of i 0).1
   have t1:wr.cell? ⟨w.heap.size,1,none⟩=some (.int .i64 0):=by simpa using(cell_of i 1).1
   have t2:wr.cell? ⟨w.heap.size,2,none⟩=some (.int .u64 0):=by simpa using(cell_of i 2).1
   have q0:wr.cell? ⟨w.heap.size+1,0,none⟩=some (.int .u8 0):=by simpa using(cell_of H 0).1
   have q1:wr.cell? ⟨w.heap.size+1,1,none⟩=some (.int .i64 0):=by simpa using(cell_of H 1).1
   have q2:wr.cell? ⟨w.heap.size+1,2,none⟩=some (.int .u64 0):=by simpa using(cell_of H 2).1
   have f0:=(cell_of i 0).2;have f1:=(cell_of i 1).2;have f2:=(cell_of i 2).2;have T0:∀o:Obj,(wr.alloc o).cell? ⟨w.heap.size,0,none⟩=_:=fun o=>Er.dm t0 o;have T1:∀o:Obj,(wr.alloc o).cell? ⟨w.heap.size,1,none⟩=_:=fun o=>Er.dm t1 o;have T2:∀o:Obj,(wr.alloc o).cell? ⟨w.heap.size,2,none⟩=_:=fun o=>Er.dm t2 o;have Q0:∀o:Obj,(wr.alloc o).cell? ⟨w.heap.size+1,0,none⟩=_:=fun o=>Er.dm q0 o;have Q1:∀o:Obj,(wr.alloc o).cell? ⟨w.heap.size+1,1,none⟩=_:=fun o=>Er.dm q1 o;have Q2:∀o:Obj,(wr.alloc o).cell? ⟨w.heap.size+1,2,none⟩=_:=fun o=>Er.dm q2 o;have F0:∀o:Obj,(wr.alloc o).frozen? ⟨w.heap.size,0,none⟩=false:=fun o=>Er.f_ t0 o f0;have F1:∀o:Obj,(wr.alloc o).frozen? ⟨w.heap.size,1,none⟩=false:=fun o=>Er.f_ t1 o f1;have F2:∀o:Obj,(wr.alloc o).frozen? ⟨w.heap.size,2,none⟩=false:=fun o=>Er.f_ t2 o f2;have f:=D w.heap.size (ag _);have R0:∀o:Obj,(wr.alloc o).heap[w.heap.size]?=some (.cells #[.int .u8 0,.int .i64 0,.int .u64 0] 314 (0,0)):=fun o=>(aj wr o _ (ai i)).trans i;have G0:∀o:Obj,((wr.alloc o).setCell ⟨w.heap.size,0,none⟩ (.int .u8 0)).cell? ⟨w.heap.size,0,none⟩=some (.int .u8 0):=fun o=>by simpa using(cell_of (bG (R0 o) 0 (.int .u8 0)) 0).1
   have G1:∀o:Obj,(((wr.alloc o).setCell ⟨w.heap.size,0,none⟩ (.int .u8 0)).setCell ⟨w.heap.size,1,none⟩ (.int .i64 0)).cell? ⟨w.heap.size,1,none⟩=some (.int .i64 0):=fun o=>by simpa using(cell_of (bG (bG (R0 o) 0 (.int .u8 0)) 1 (.int .i64 0)) 1).1
   have G2:∀o:Obj,((((wr.alloc o).setCell ⟨w.heap.size,0,none⟩ (.int .u8 0)).setCell ⟨w.heap.size,1,none⟩ (.int .i64 0)).setCell ⟨w.heap.size,2,none⟩ (.int .u64 0)).cell? ⟨w.heap.size,2,none⟩=some (.int .u64 0):=fun o=>by simpa using(cell_of (bG (bG (bG (R0 o) 0 (.int .u8 0)) 1 (.int .i64 0)) 2 (.int .u64 0)) 2).1
   clear i H r u t R0;go_wp2_with fail
   go_region_with ((go_at_call 137;refine(dJ _ _).mono ?_;rintro e w3 ⟨rfl,rfl⟩))
   all_goals go_wp2_with fail
   all_goals
    refine aI (v:= .tuple #[lY (0,0,0),.iface 142 (.pointer (some ⟨wr.heap.size,0,none⟩))]) (by simp[G0,G1,G2,results,results198,go_sem,lY]) rfl (.inr ⟨⟨_,_,rfl,dO.ve H3.out⟩,?_,?_⟩)
    ·exact((((a7.alloc _).eF _ 0 _ f.1 f.2.1 f.2.2).eF _ 1 _ f.1 f.2.1 f.2.2).eF _ 2 _ f.1 f.2.1 f.2.2).drew
    ·exact(((((C.trans hF).alloc _).eF _ 0 (ag _) _).eF _ 1 (ag _) _).eF _ 2 (ag _) _).drew
def jF(y:Nat):Nat×Nat×Nat:=if y<256 then(1,y,0)else if y=256 then(2,0,0)else if y<265 then(3,y-254,0)else if y<285 then(3,(4+(y-265)%4)*2^((y-265)/4+1)+3,(y-265)/4+1)else if y=285 then(3,258,0)else(0,0,0)
def lZ(y:Nat):Nat×Nat×Nat:=if y<4 then(4,y+1,0)else if y<30 then(4,(2+y%2)*2^((y-2)/2)+1,(y-2)/2)else(0,0,0)
def KN(m:Nat×Nat×Nat):Obj:= .cells #[.int .u8 (m.1:Int),.int .i64 (m.2.1:Int),.int .u64 (m.2.2:Int)] 314
theorem VG(a k n c:Nat)(b:a<=8)(d:k<=14)(g:c<=3)(A:Int)(f:A=(a:Int))(h:n=a*2^k+c):wrap64 (wrap64 (A*2^k)+(c:Int))=(n:Int):=by
 have hp:2^k<=2^14:=b_ (by omega) d;have i:a*2^k<=8*2^14:=bT b hp;have e:A*2^k=((a*2^k:Nat):Int):=by rw[f];simp
 rw[e,h];generalize a*2^k=z at*;simp only[wrap64];omega
theorem ZX(y:Nat)(w:af)(n:y<=400):
 aF prog 223 #[.int .i64 (y:Int)] w fun e w'=>e= .returned (lY (jF y))/\w'=w.alloc (KN (jF y)):=by
 by_cases b:y<256
 ·have g:decide ((y:Int)<256)=true:=aZ (by omega);have a:ah (jF y=(1,y,0)):=(by unfold jF;rw[aC b]:_=_);go_enter func223,ntmps223
  go_wp2
  rw[a.out];exact aI (v:=lY (1,y,0)) (by simp[results,results223,go_sem,lY]) rfl ⟨rfl,rfl⟩
 ·have g:decide ((y:Int)<256)=false:=aS (by omega);by_cases c:y=256
  ·have h:((y:Int)==256)=true:=by simp;omega
   have a:ah (jF y=(2,0,0)):=(by unfold jF;rw[au b,aC c]:_=_);go_enter func223,ntmps223
   go_wp2
   rw[a.out];exact aI (v:=lY (2,0,0)) (by simp[results,results223,go_sem,lY]) rfl ⟨rfl,rfl⟩
  ·have h:((y:Int)==256)=false:=by simp;omega
   by_cases h3:y<265
   ·have d3:decide ((y:Int)<265)=true:=aZ (by omega);have o:(y:Int)-254=((y-254:Nat):Int):=by omega
    have a:ah (jF y=(3,y-254,0)):=(by unfold jF;rw[au b,au c,aC h3]:_=_);go_enter func223,ntmps223
    go_wp2
    rw[a.out];exact aI (v:=lY (3,y-254,0)) (by simp[results,results223,go_sem,lY]) rfl ⟨rfl,rfl⟩
   ·have d3:decide ((y:Int)<265)=false:=aS (by omega);by_cases d:y<285
    ·have i:decide ((y:Int)<285)=true:=aZ (by omega);have j:ah (wrap64 (wrap64 ((4+((y:Int)-265)%4)*2^((y-265)/4+1))+3)=(((4+(y-265)%4)*2^((y-265)/4+1)+3:Nat):Int)):=VG (4+(y-265)%4) _ _ 3 (by omega) (by omega) (by omega) _ (by omega) rfl;have k:ah (((y:Int)-265)/4+1=(((y-265)/4+1:Nat):Int)):=(by omega:_=_);have a:ah (jF y=(3,(4+(y-265)%4)*2^((y-265)/4+1)+3,(y-265)/4+1)):=(by unfold jF;rw[au b,au c,au h3,aC d]:_=_);go_enter func223,ntmps223
     go_wp2
     rw[a.out];have hu:=j.out;have l:=k.out;rw[hu,l];exact aI (v:=lY (3,(4+(y-265)%4)*2^((y-265)/4+1)+3,(y-265)/4+1)) (by simp[results,results223,go_sem,lY]) rfl ⟨rfl,rfl⟩
    ·have i:decide ((y:Int)<285)=false:=aS (by omega);by_cases f:y=285
     ·have m:((y:Int)==285)=true:=by simp;omega
      have a:ah (jF y=(3,258,0)):=(by unfold jF;rw[au b,au c,au h3,au d,aC f]:_=_);go_enter func223,ntmps223
      go_wp2
      rw[a.out];exact aI (v:=lY (3,258,0)) (by simp[results,results223,go_sem,lY]) rfl ⟨rfl,rfl⟩
     ·have m:((y:Int)==285)=false:=by simp;omega
      have a:ah (jF y=(0,0,0)):=(by unfold jF;rw[au b,au c,au h3,au d,au f]:_=_);go_enter func223,ntmps223
      go_wp2
      rw[a.out];exact aI (v:=lY (0,0,0)) (by simp[results,results223,go_sem,lY]) rfl ⟨rfl,rfl⟩
theorem XA(y:Nat)(w:af)(j:y<=400):
 aF prog 224 #[.int .i64 (y:Int)] w fun e w'=>e= .returned (lY (lZ y))/\w'=w.alloc (KN (lZ y)):=by
 by_cases b:y<4
 ·have d:decide ((y:Int)<4)=true:=aZ (by omega);have a:ah (lZ y=(4,y+1,0)):=(by unfold lZ;rw[aC b]:_=_);go_enter func224,ntmps224
  go_wp2
  rw[a.out];exact aI (v:=lY (4,y+1,0)) (by simp[results,results224,go_sem,lY]) rfl ⟨rfl,rfl⟩
 ·have d:decide ((y:Int)<4)=false:=aS (by omega);by_cases c:y<30
  ·have f:decide ((y:Int)<30)=true:=aZ (by omega);have g:ah (wrap64 (wrap64 ((2+(y:Int)%2)*2^((y-2)/2))+1)=(((2+y%2)*2^((y-2)/2)+1:Nat):Int)):=VG (2+y%2) _ _ 1 (by omega) (by omega) (by omega) _ (by omega) rfl;have h:ah (((y:Int)-2)/2=(((y-2)/2:Nat):Int)):=(by omega:_=_);have a:ah (lZ y=(4,(2+y%2)*2^((y-2)/2)+1,(y-2)/2)):=(by unfold lZ;rw[au b,aC c]:_=_);go_enter func224,ntmps224
   go_wp2
   rw[a.out];have hu:=g.out;have i:=h.out;rw[hu,i];exact aI (v:=lY (4,(2+y%2)*2^((y-2)/2)+1,(y-2)/2)) (by simp[results,results224,go_sem,lY]) rfl ⟨rfl,rfl⟩
  ·have f:decide ((y:Int)<30)=false:=aS (by omega);have a:ah (lZ y=(0,0,0)):=(by unfold lZ;rw[au b,au c]:_=_);go_enter func224,ntmps224
   go_wp2
   rw[a.out];exact aI (v:=lY (0,0,0)) (by simp[results,results224,go_sem,lY]) rfl ⟨rfl,rfl⟩
theorem PL(y:Nat)(a:257<=y)(b:y<=285):jF y=(3,ja y):=by
 have h:∀k:Fin 29,jF (257+k.val)=(3,ja (257+k.val)):=by decide+kernel
 have:=h ⟨y-257,by omega⟩;rwa [show 257+(y-257)=y by omega]at this
theorem TI(y:Nat)(h:y<=29):lZ y=(4,iK y):=by
 have a:∀k:Fin 30,lZ k.val=(4,iK k.val):=by decide+kernel
 exact a ⟨y,by omega⟩
def EU(f:Nat->Nat)(n x:Nat):Nat->Nat:=fun m=>if m=n then x else f m
def sW(w:af)(k:Nat)(T:aY)(a:Nat)(f:Nat->Nat)(v:ay):Prop:=∃cur,w.heap[k]?=some (.cells cur T (0,0))/\cur.size=18/\cur[0]?=some (.int .i64 (a:Int))/\(∀n,n<=15->cur[1+n]?=some (.int .i64 ((f n:Nat):Int)))/\cur[17]?=some v
theorem sW.lt{w:af}{k:Nat}{T:aY}{a:Nat}{f:Nat->Nat}{v:ay}(h:sW w k T a f v):k<w.heap.size:=by obtain⟨cur,b,_⟩:=h;exact ai b
theorem sW.c0{w:af}{k:Nat}{T:aY}{a:Nat}{f:Nat->Nat}{v:ay}(h:sW w k T a f v):w.cell? ⟨k,0,none⟩=some (.int .i64 (a:Int)):=by obtain⟨cur,b,c,h3,d,e⟩:=h;rw[(cell_of b 0).1,h3]
theorem sW.cn{w:af}{k:Nat}{T:aY}{a:Nat}{f:Nat->Nat}{v:ay}(h:sW w k T a f v)(n:Nat)(b:n<=15):w.cell? ⟨k,1+n,none⟩=some (.int .i64 ((f n:Nat):Int)):=by obtain⟨cur,c,e,h3,d,g⟩:=h;rw[(cell_of c _).1,d n b]
theorem sW.Gq{w:af}{k:Nat}{T:aY}{a:Nat}{f:Nat->Nat}{v:ay}(h:sW w k T a f v):w.cell? ⟨k,17,none⟩=some v:=by obtain⟨cur,b,d,h3,e,c⟩:=h;rw[(cell_of b _).1,c]
theorem sW.fr{w:af}{k:Nat}{T:aY}{a:Nat}{f:Nat->Nat}{v:ay}(h:sW w k T a f v)(o:Nat):w.frozen? ⟨k,o,none⟩=false:=by obtain⟨cur,b,_⟩:=h;exact(cell_of b o).2
theorem sW.over{w w':af}{k:Nat}{T:aY}{a:Nat}{f:Nat->Nat}{v:ay}(h:sW w k T a f v)(e:w'.heap[k]?=w.heap[k]?):sW w' k T a f v:=by obtain⟨cur,b,c⟩:=h;exact⟨cur,e.trans b,c⟩
theorem sW.aex{w:af}{k:Nat}{T:aY}{a:Nat}{f:Nat->Nat}{v:ay}(h:sW w k T a f v)(n x:Nat)(j:n<=15)(X:Int)(b:X=(x:Int)):sW (w.setCell ⟨k,1+n,none⟩ (.int .i64 X)) k T a (EU f n x) v:=by
 obtain⟨cur,c,d,h3,g,i⟩:=h;subst b;refine⟨_,bG c _ _,by simpa using d,?_,?_,?_⟩
 ·rw[bC (by omega)];exact h3
 ·intro m hm;by_cases e:m=n
  ·subst e;rw[dY (by omega)];simp[EU]
  ·rw[bC (by omega),g m hm];simp[EU,e]
 ·rw[bC (by omega)];exact i
theorem sW.aey{w:af}{k:Nat}{T:aY}{a:Nat}{f:Nat->Nat}{v:ay}(h:sW w k T a f v)(x:Nat)(X:Int)(b:X=(x:Int)):sW (w.setCell ⟨k,0,none⟩ (.int .i64 X)) k T x f v:=by
 obtain⟨cur,c,d,h3,e,g⟩:=h;subst b;refine⟨_,bG c _ _,by simpa using d,?_,?_,?_⟩
 ·rw[dY (by omega)]
 ·intro m hm;rw[bC (by omega),e m hm]
 ·rw[bC (by omega)];exact g
theorem sW.aez{w:af}{k:Nat}{T:aY}{a:Nat}{f:Nat->Nat}{v:ay}(h:sW w k T a f v)(x:ay):sW (w.setCell ⟨k,17,none⟩ x) k T a f x:=by
 obtain⟨cur,b,c,h3,d,e⟩:=h;refine⟨_,bG b _ _,by simpa using c,?_,?_,?_⟩
 ·rw[bC (by omega)];exact h3
 ·intro m hm;rw[bC (by omega),d m hm]
 ·rw[dY (by omega)]
theorem sW.hd{w:af}{k vb:Nat}{T:aY}{L:List Nat}(h:sW w k T (dK L) (cN L) (.slice (some ⟨vb,0,none⟩) (sN L 16) (sN L 16))):Ce w k vb T L:=by obtain⟨cur,a,d,h3,b,c⟩:=h;exact⟨cur,a,h3,b,c⟩
def yz(w:af)(k:Nat)(T:aY)(f:Nat->Nat):Prop:=∃cur,w.heap[k]?=some (.cells cur T (0,0))/\cur.size=16/\∀n,n<=15->cur[n]?=some (.int .i64 ((f n:Nat):Int))
theorem yz.lt{w:af}{k:Nat}{T:aY}{f:Nat->Nat}(h:yz w k T f):k<w.heap.size:=by obtain⟨cur,a,_⟩:=h;exact ai a
theorem yz.cn{w:af}{k:Nat}{T:aY}{f:Nat->Nat}(h:yz w k T f)(n:Nat)(a:n<=15):w.cell? ⟨k,n,none⟩=some (.int .i64 ((f n:Nat):Int)):=by obtain⟨cur,b,c,h3⟩:=h;rw[(cell_of b _).1,h3 n a]
theorem yz.fr{w:af}{k:Nat}{T:aY}{f:Nat->Nat}(h:yz w k T f)(o:Nat):w.frozen? ⟨k,o,none⟩=false:=by obtain⟨cur,a,_⟩:=h;exact(cell_of a o).2
theorem yz.over{w w':af}{k:Nat}{T:aY}{f:Nat->Nat}(h:yz w k T f)(e:w'.heap[k]?=w.heap[k]?):yz w' k T f:=by obtain⟨cur,a,b⟩:=h;exact⟨cur,e.trans a,b⟩
theorem yz.set{w:af}{k:Nat}{T:aY}{f:Nat->Nat}(h:yz w k T f)(n x:Nat)(d:n<=15)(X:Int)(a:X=(x:Int)):yz (w.setCell ⟨k,n,none⟩ (.int .i64 X)) k T (EU f n x):=by
 obtain⟨cur,b,c,h3⟩:=h;subst a;refine⟨_,bG b _ _,by simpa using c,?_⟩;intro m hm;by_cases e:m=n
 ·subst e;rw[dY (by omega)];simp[EU]
 ·rw[bC (by omega),h3 m hm];simp[EU,e]
theorem yz.congr{w:af}{k:Nat}{T:aY}{f g:Nat->Nat}(h:yz w k T f)(e:∀n,n<=15->f n=g n):yz w k T g:=by obtain⟨cur,b,c,h3⟩:=h;exact⟨cur,b,c,fun n a=>by rw[h3 n a,e n a]⟩
theorem sW.congr{w:af}{k:Nat}{T:aY}{a:Nat}{f g:Nat->Nat}{v:ay}(h:sW w k T a f v)(e:∀n,n<=15->f n=g n):sW w k T a g v:=by obtain⟨cur,c,d,h3,i,j⟩:=h;exact⟨cur,c,d,h3,fun n b=>by rw[i n b,e n b],j⟩
theorem VH(L:List Nat)(x n:Nat):cN (L++[x]) n=cN L n+if x=n/\n≠0 then 1 else 0:=by
 unfold cN;by_cases h:n=0
 ·simp[h]
 ·rw[au h,au h,List.count_append,List.count_singleton];by_cases e:x=n
  ·simp[e,h]
  ·simp[e]
theorem acU(L:List Nat):cN L 0=0:=by simp[cN]
theorem TJ(L:List Nat)(x:Nat)(hx:0<x)(n:Nat):EU (cN L) x (cN L x+1) n=cN (L++[x]) n:=by
 rw[VH];unfold EU;by_cases e:n=x
 ·subst e;rw[aC rfl,aC ⟨rfl,by omega⟩]
 ·rw[au e,au (fun h=>e h.1.symm),eH]
theorem M_(L:List Nat)(x:Nat)(hx:¬0<x)(n:Nat):cN L n=cN (L++[x]) n:=by rw[VH,au (by omega),eH]
theorem xE(L:List Nat)(x:Nat)(hx:¬0<x):dK (L++[x])=dK L:=by rw[ug];omega
def rk(L:List Nat)(n i:Nat):Nat:=(jy L n i).length
theorem TK(L:List Nat)(n:Nat):∀i j,i<=j->∃t,jy L n j=jy L n i++t:=by
 intro i j h;induction j with
 |zero=>exact⟨[],by rw[show i=0 by omega];simp⟩
 |succ j b=>
  by_cases e:i=j+1
  ·subst e;exact⟨[],by simp⟩
  ·obtain⟨t,a⟩:=b (by omega);rw[lU];split
   ·exact⟨t++[j],by rw[a,bV]⟩
   ·exact⟨t,a⟩
theorem ad_(L:List Nat)(n i:Nat)(hi:i<=L.length)(a:n≠0):rk L n i<=cN L n:=by obtain⟨t,b⟩:=TK L n i L.length hi;have h:=pJ L n;unfold qJ at h;rw[au a,b,bQ]at h;unfold rk;omega
theorem VI(L:List Nat)(i:Nat)(hi:i<L.length)(a:L.getD i 0≠0):rk L (L.getD i 0) i<cN L (L.getD i 0):=by have h:=ad_ L (L.getD i 0) (i+1) (by omega) a;unfold rk at*;rw[lU,aC rfl,bQ,kD]at h;omega
theorem zJ(L:List Nat)(n i:Nat):rk L n (i+1)=rk L n i+if L.getD i 0=n then 1 else 0:=by unfold rk;rw[lU];split<;>simp
theorem ZY(L:List Nat)(n r m q:Nat)(b:r<cN L n)(c:q<cN L m)(h:¬(n=m/\r=q)):sN L n+r≠sN L m+q:=by
 rcases Nat.lt_trichotomy n m with a|a|a
 ·have:=zF L (n+1) m (by omega);rw[sN]at this;omega
 ·subst a;intro e;exact h ⟨rfl,by omega⟩
 ·have:=zF L (m+1) n (by omega);rw[sN]at this;omega
theorem GI(L:List Nat)(n r:Nat)(a:n<=15)(b:r<cN L n):sN L n+r<sN L 16:=by have:=zF L (n+1) 16 (by omega);rw[sN]at this;omega
theorem ZZ(L:List Nat)(m:Nat):∀j,j<sN L m->∃n r,n<m/\r<cN L n/\j=sN L n+r:=by
 induction m with
 |zero=>intro j h;simp[sN]at h
 |succ m d=>
  intro j h;rw[sN]at h;by_cases e:j<sN L m
  ·obtain⟨n,r,a,b,c⟩:=d j e;exact⟨n,r,by omega,b,c⟩
  ·exact⟨m,j-sN L m,by omega,by omega,by omega⟩
def ku(L:List Nat)(i:Nat)(g:Nat->Option Nat):Prop:=∀n r,1<=n->n<=15->r<rk L n i->g (sN L n+r)=some ((jy L n i).getD r 0)
theorem ku.begin(L:List Nat)(g:Nat->Option Nat):ku L 0 g:=by intro n r _ _ h;simp[rk,jy]at h
theorem ku.none{L:List Nat}{i:Nat}{g:Nat->Option Nat}(h:ku L i g)(hx:L.getD i 0=0):ku L (i+1) g:=by
 intro n r a b h3;have e:jy L n (i+1)=jy L n i:=by rw[lU,au (by omega)]
 rw[e];refine h n r a b ?_;unfold rk at h3|-;rwa [e]at h3
theorem ku.more{L:List Nat}{i:Nat}{g:Nat->Option Nat}(h:ku L i g)(hi:i<L.length)(hx:L.getD i 0≠0):ku L (i+1) (fun j=>if j=sN L (L.getD i 0)+rk L (L.getD i 0) i then some i else g j):=by
 intro n r b c h3;dsimp only;have d:=ad_ L n (i+1) (by omega) (by omega);by_cases e:L.getD i 0=n
 ·rw[lU,aC e];by_cases a:r=rk L n i
  ·rw[e,aC (by rw[a])];rw[a,ak];unfold rk;simp
  ·rw[zJ,aC e]at h3;rw[e,au (by omega)];have f:=h n r b c (by omega);rw[f,ak,ak,dh (by unfold rk at h3 a;omega)]
 ·rw[lU,au e];rw[zJ,au e]at h3;rw[au (ZY L n r _ _ (by rw[zJ,au e]at d;omega) (VI L i hi hx) (fun h=>e h.1.symm))];exact h n r b c (by omega)
theorem ku.all{L:List Nat}{g:Nat->Option Nat}(h:ku L L.length g)(j:Nat)(b:j<sN L 16):g j=some ((BZ L 16).getD j 0):=by
 obtain⟨n,r,c,a,rfl⟩:=ZZ L 16 j b;have d:n≠0:=by rintro rfl;rw[acU]at a;omega
 have f:=pJ L n;have e:qJ L n=jy L n L.length:=by unfold qJ;rw[au d]
 rw[VA L 16 n r c a,e];exact h n r (by omega) (by omega) (by unfold rk;rw[<-e];omega)
end Pr
end Go.Proofs.YtephkcdbnogdhaaGreatDoor
