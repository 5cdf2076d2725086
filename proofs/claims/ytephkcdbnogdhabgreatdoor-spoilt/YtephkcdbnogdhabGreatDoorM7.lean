import Derived.Test.YtephkcdbnogdhabGreatDoorM4
set_option linter.unusedVariables false
set_option maxHeartbeats 40000000
set_option maxRecDepth 10000
namespace Go.Proofs.YtephkcdbnogdhabGreatDoor
open Go.Proofs.Tryz
open Go renaming World->af,Value->ay,Calls->aH,TypeId->aW
open Go.RowKit renaming Hid->au,intOf->bH
namespace Pr
open Go.RowKit Rf
def jL(w:af)(b o:Nat)(L:List Nat):Prop:=∀i,i<L.length->w.cell? ⟨b,o+i,none⟩=some (.int .u8 ((L.getD i 0:Nat):Int))
def uk(L:List Nat):Nat:=if vz L=0 then 3 else if iR L=32768 then 1 else if vz L=1/\iR L=16384 then 2 else 0
theorem Sz(x:Nat)(h:0<x):pw (15-x)<=16384:=Ih _ 14 (by omega)
theorem LX(L:List Nat):iR L<=16384*L.length:=by
 induction L with
 |nil=>simp[iR]
 |cons x L a=>
  unfold iR at*;rw[List.map_cons,List.sum_cons,dF];by_cases h:0<x
  ·rw[aG h];have:=Sz x h;omega
  ·rw[ax h];omega
theorem rV(L:List Nat)(k:Nat)(h:k<L.length):L.take (k+1)=L.take k++[L.getD k 0]:=by rw[dN h];simp[List.getD,List.getElem?_eq_getElem h]
theorem aaU(a k:Nat)(h:pw k<=16384)(hm:a<=1000000000):wrap64 ((a:Int)+wrap64 (2^k))=((a+pw k:Nat):Int):=by
 have e:(2:Int)^k=((pw k:Nat):Int):=by simp[pw]
 rw[e];simp only[wrap64];omega
theorem Ba(b o cap:Nat)(L:List Nat)(w:af)(h:jL w b o L)(z:L.length<=400)(u:∀x∈L,x<=15):
 aH prog 165 #[.slice (some ⟨b,o,none⟩) L.length cap] w fun e w'=>e= .returned (.int .i64 ((uk L:Nat):Int))/\w'=w:=by
 go_enter func165,ntmps165
 go_wp2
 go_loop [3,4,9] (fun c r i=> ∃k:Nat,k<=L.length/\i= .int .i64 k/\c= .int .i64 ((vz (L.take k):Nat):Int)/\r= .int .i64 ((iR (L.take k):Nat):Int)) (fun _ _ i=>L.length-(bH i).toNat)
 case atStart=>exact⟨0,aX _,rfl,rfl,rfl⟩
 case round=>
  obtain⟨k,A,rfl,rfl,rfl⟩:=hrel;by_cases f:k<L.length
  ·have B:=h k f;have n:au _:=WU (L.take k) (L.getD k 0);have p:au _:=PN (L.take k) (L.getD k 0);have j:au _:=rV L k f;have q:L.getD k 0<=15:=jU L 15 u k;have l:vz (L.take k)<=400:=by have:=WV (L.take k);simp at this;omega
   have m:iR (L.take k)<=6553600:=by have:=LX (L.take k);simp at this;omega
   have v:au (0<L.getD k 0->pw (15-L.getD k 0)<=16384):=Sz (L.getD k 0);generalize L.getD k 0=x at*;generalize vz (L.take k)=d at*;generalize iR (L.take k)=a at*;by_cases h0:0<x
   ·have hp:pw (15-x)<=16384:=v.out h0;go_wp2
    go_round
    case rel=>exact⟨k+1,by omega,by go_num,by rw[j.out,n.out,aG h0];go_num,by rw[j.out,p.out,aG h0,aaU a _ hp (by omega)]⟩
    case measure=>simp[bH];omega
   ·go_wp2
    go_round
    case rel=>exact⟨k+1,by omega,by go_num,by rw[j.out,n.out,ax h0];go_num,by rw[j.out,p.out,ax h0];go_num⟩
    case measure=>simp[bH];omega
  ·have y:L.take k=L:=dn (by omega);rw[y];have l:vz L<=400:=by have:=WV L;omega
   have m:iR L<=6553600:=by have:=LX L;omega
   have g:au (uk L=if vz L=0 then 3 else if iR L=32768 then 1 else if vz L=1/\iR L=16384 then 2 else 0):=rfl;generalize vz L=d at*;generalize iR L=a at*;by_cases h1:d=0
   ·have d1:decide ((d:Int)=0)=true:=aZ (by omega);go_wp2
    go_ret;exact⟨bP (by rw[g.out,aG h1];rfl),rfl⟩
   ·have d1:decide ((d:Int)=0)=false:=aS (by omega);by_cases h2:a=32768
    ·have d2:decide ((a:Int)=32768)=true:=aZ (by omega);go_wp2
     go_ret;exact⟨bP (by rw[g.out,ax h1,aG h2];rfl),rfl⟩
    ·have d2:decide ((a:Int)=32768)=false:=aS (by omega);by_cases s:d=1
     ·have d3:decide ((d:Int)=1)=true:=aZ (by omega);by_cases t:a=16384
      ·have d4:decide ((a:Int)=16384)=true:=aZ (by omega);go_wp2
       go_ret;exact⟨bP (by rw[g.out,ax h1,ax h2,aG ⟨s,t⟩];rfl),rfl⟩
      ·have d4:decide ((a:Int)=16384)=false:=aS (by omega);go_wp2
       go_ret;exact⟨bP (by rw[g.out,ax h1,ax h2,ax (fun e=>t e.2)];rfl),rfl⟩
     ·have d3:decide ((d:Int)=1)=false:=aS (by omega);go_wp2
      go_ret;exact⟨bP (by rw[g.out,ax h1,ax h2,ax (fun e=>s e.1)];rfl),rfl⟩
def Bc(w:af)(k vb:Nat)(T:aW)(L:List Nat):Prop:=∃cur,w.heap[k]?=some (.cells cur T (0,0))/\cur[0]?=some (.int .i64 ((dA L:Nat):Int))/\(∀n,n<=15->cur[1+n]?=some (.int .i64 ((cN L n:Nat):Int)))/\
 cur[17]?=some (.slice (some ⟨vb,0,none⟩) (sN L 16) (sN L 16))
theorem Bc.c0{w:af}{k vb:Nat}{T:aW}{L:List Nat}(h:Bc w k vb T L):w.cell? ⟨k,0,none⟩=some (.int .i64 ((dA L:Nat):Int)):=by obtain⟨cur,h1,h2,a,b⟩:=h;rw[(cell_of h1 0).1,h2]
theorem Bc.cn{w:af}{k vb:Nat}{T:aW}{L:List Nat}(h:Bc w k vb T L)(n:Nat)(a:n<=15):w.cell? ⟨k,1+n,none⟩=some (.int .i64 ((cN L n:Nat):Int)):=by obtain⟨cur,h1,h2,b,c⟩:=h;rw[(cell_of h1 _).1,b n a]
theorem Bc.c17{w:af}{k vb:Nat}{T:aW}{L:List Nat}(h:Bc w k vb T L):w.cell? ⟨k,17,none⟩=some (.slice (some ⟨vb,0,none⟩) (sN L 16) (sN L 16)):=by obtain⟨cur,h1,h2,b,a⟩:=h;rw[(cell_of h1 _).1,a]
def EI(w:af)(k:Nat)(L:List Nat):Prop:=∃vb a,Bc w k vb 283 L/\w.heap[vb]?=some (.cells a 3 (0,0))/\∀j,j<sN L 16->a[j]?=some (.int .i64 (((AY L 16).getD j 0:Nat):Int))
theorem EI.over{w w':af}{k:Nat}{tb:Src}{rb:Nat}{L:List Nat}{s:ByteArray}{pos:Nat}(h:EI w k L)(f:Rd w tb rb s pos)(g:RF tb rb w w'):EI w' k L:=by obtain⟨vb,e,⟨cur,a,b⟩,c,d⟩:=h;have i:=f.types a (by decide) (by decide);have j:=f.types c (by decide) (by decide);exact⟨vb,e,⟨cur,(g.block k (ak a) i.1 i.2).trans a,b⟩,(g.block vb (ak c) j.1 j.2).trans c,d⟩
theorem EJ(s:ByteArray)(cs:List (Nat×List UInt8))(st:dG):dX s cs st=qw s cs (15-0) (qY 0 0) st:=rfl
theorem yI(a:Nat)(b:a<4294967296):(BitVec.ofInt 64 (a:Int)).toNat=a:=by rw[BitVec.ofInt_natCast,BitVec.toNat_ofNat];exact gz (by omega)
theorem zU(a b:Nat)(c:a<4294967296)(hb:b<4294967296):bits .or .i64 (a:Int) (b:Int)=((a|||b:Nat):Int):=by have d:a|||b<2^32:=Nat.or_lt_two_pow (by omega) (by omega);show IntKind.i64.wrap ((BitVec.ofInt 64 (a:Int)|||BitVec.ofInt 64 (b:Int)).toNat:Int)=_;rw[BitVec.toNat_or,yI a c,yI b hb,eY];omega
theorem uA(a b:Nat)(c:a<4294967296)(hb:b<4294967296):bits .and .i64 (a:Int) (b:Int)=((a&&&b:Nat):Int):=by have d:a&&&b<2^32:=Nat.and_lt_two_pow _ (by omega);show IntKind.i64.wrap ((BitVec.ofInt 64 (a:Int)&&&BitVec.ofInt 64 (b:Int)).toNat:Int)=_;rw[BitVec.toNat_and,yI a c,yI b hb,eY];omega
theorem Xp(c b:Nat)(a:c<1000000)(hb:b<=1):bits BinOp.or IntKind.i64 ((c:Int)*2) (b:Int)=((2*c+b:Nat):Int):=by
 have h:=zU (c*2) b (by omega) (by omega);have e:c*2|||b=2*c+b:=by rw[eP c];exact(jZ (i:=1) (by omega) c).symm
 rw[e]at h;rw[<-h];congr 1
theorem LY(s:ByteArray)(L:List Nat)(m c b p:Nat)(hm:m<15)(i:c<2^m)(j:fN L m+cN L m<=c)(hb:b=bC s p 1)(hp:p<8*s.size)(hK:kN L 16<=32768):
 (2*c+b-fN L (m+1)<cN L (m+1)->qw s (bK L).cs (15-m) (qY c m) ⟨p,false⟩=((AY L 16).getD (sN L (m+1)+(2*c+b-fN L (m+1))) 0,⟨p+1,false⟩))/\
 (¬2*c+b-fN L (m+1)<cN L (m+1)->qw s (bK L).cs (15-m) (qY c m) ⟨p,false⟩=qw s (bK L).cs (15-(m+1)) (qY (2*c+b) (m+1)) ⟨p+1,false⟩):=by
 have a:b<=1:=by have:=fJ s p 1;omega
 have h1:=wB s p hp;have h2:(kE s ⟨p,false⟩).2.dV=false:=by rw[h1]
 have d:15-m=(15-(m+1))+1:=by omega
 have e:=LW L (m+1) (2*c+b) (by omega) (by rw[lH];omega) (by rw[fN];omega) hK;have f:(kE s ⟨p,false⟩).1=b:=by rw[h1,hb]
 have g:(kE s ⟨p,false⟩).2=⟨p+1,false⟩:=by rw[h1]
 constructor
 ·intro h;rw[aG h]at e;rw[d,WO s _ _ _ _ rfl h2 _ (by rw[f,B_ c b m a];exact e),g]
 ·intro h;rw[ax h]at e;rw[d,TR s _ _ _ _ rfl h2 (by rw[f,B_ c b m a];exact e),f,g,B_ c b m a]
theorem JD(L:List Nat)(a:L.length<=400):∀n,sN L n<=400*n:=by
 intro n;induction n with
 |zero=>simp[sN]
 |succ n b=>rw[sN];have:=AZ L n;omega
theorem LZ(L:List Nat)(a:L.length<=400):sN L 16<=6400:=JD L a 16
theorem Uj(k:Nat)(tb:Src)(rb:Nat)(L:List Nat)(s:ByteArray)(pos:Nat)(w:af)(h:EI w k L)(R:Rd w tb rb s pos)(hs:s.size<=140737488354000)(hl:L.length<=400)(hx:∀x∈L,x<=15)(hK:kN L 16<=32768):
 aH prog 168 #[.pointer (some ⟨k,0,none⟩),.pointer (some ⟨rb,0,none⟩)] w fun e w'=>
  (∃y p,dX s (bK L).cs ⟨pos,false⟩=(y,⟨p,false⟩)/\e= .returned (.tuple #[.int .i64 ((y:Nat):Int),.nilIface])/\Rd w' tb rb s p/\RF tb rb w w')\/
  ((∃T a,e= .returned (.tuple #[.int .i64 0,.iface T (.pointer (some a))])/\dJ tb w' T a ((dX s (bK L).cs ⟨pos,false⟩).2.dV=true))/\oH w' tb rb s/\RF tb rb w w'):=by
 have a5:dA L<=15:=EF L 15 hx;go_enter func168,ntmps168
 go_wp2_with fail
 go_loopw [7,8,9,10] (fun cv fv sv S wr=> ∃m c g sh:Nat,m<=dA L/\S= .int .i64 ((m+1:Nat):Int)/\cv= .int .i64 (c:Int)/\fv= .int .i64 (g:Int)/\sv= .int .i64 (sh:Int)/\g=fN L m+cN L m/\sh=sN L (m+1)/\c<2^m/\g<=c/\
  dX s (bK L).cs ⟨pos,false⟩=qw s (bK L).cs (15-m) (qY c m) ⟨pos+m,false⟩/\Rd wr tb rb s (pos+m)/\RF tb rb w wr) (fun _ _ _ S _=>17-(bH S).toNat)
 case atStart=>exact⟨0,0,0,0,aX _,rfl,rfl,rfl,rfl,by simp[fN,cN],by simp[sN,cN],by simp,ah _,EJ s _ _,R,RF.refl _ _ _⟩
 case round=>
  obtain⟨m,c,g,sh,hm,rfl,rfl,rfl,rfl,hg,E,hc,U,u,F,hF⟩:=hrel;have hT:EI wr k L:=h.over R hF;obtain⟨vb,G,i,r,j⟩:=hT;have c0:=i.c0;have O:au _:=u;have D:au (g=fN L m+cN L m/\sh=sN L (m+1)/\c<2^m):=(⟨hg,E,hc⟩:_/\_/\_);have H:m<=15:=by omega
  have hp:2^m<=2^15:=bT (by omega) H;have a6:c<=32767:=by omega
  clear u hg E hc hp;by_cases V:m+1<=dA L
  ·go_wp2_with fail
   refine(wF tb rb s (pos+m) _ F hs).mono ?_;rintro e w1 (⟨I,W,rfl,P,X⟩|⟨⟨T,a,rfl,I⟩,W,P⟩)
   ·have J:EI w1 k L:=h.over R (hF.trans X);clear i r j c0;obtain⟨vb,G,i,r,j⟩:=J;have c0:=i.c0;have c17:=i.c17;have cn:=i.cn (m+1) (by omega);have hb:bC s (pos+m) 1<=1:=by have:=fJ s (pos+m) 1;omega
    obtain⟨b,v⟩:∃b,b=bC s (pos+m) 1:=⟨_,rfl⟩;rw[<-v]at hb|-;have Y:=Xp c b (by omega) hb;obtain⟨t,z⟩:∃t,t=2*c+b:=⟨_,rfl⟩;rw[<-z]at Y;have a7:t<=65535:=by omega
    have Z:cN L (m+1)<=400:=by have:=AZ L (m+1);omega
    have Q:au (t=2*c+b):=z;have a0:(t:Int)-(g:Int)*2=((t-2*g:Nat):Int):=by omega
    obtain⟨pl,l⟩:∃pl,pl=t-2*g:=⟨_,rfl⟩;rw[<-l]at a0;have HP:au (pl=t-2*g):=l;clear z l;obtain⟨A,n⟩:∃A,A=cN L (m+1):=⟨_,rfl⟩;rw[<-n]at Z cn;have K:au (A=cN L (m+1)):=n;clear n;have hle:sN L (m+2)<=sN L 16:=yH L _ _ (by omega);have a4:sN L 16<=6400:=LZ L hl;have a8:sh+A<=sN L 16:=by have h1:=D.out.2.1;rw[K.out,h1];exact hle
    obtain⟨d,f⟩:=LY s L m c b (pos+m) (by omega) D.out.2.2 (by rw[<-D.out.1];exact U) v W hK;have B:fN L (m+1)=2*g:=by rw[fN,D.out.1]
    rw[B,<-Q.out,<-HP.out,<-D.out.2.1,<-K.out]at d;rw[B,<-Q.out,<-HP.out,<-K.out]at f;have H1:au _:=d;have H2:au _:=f;clear d f B hle v;generalize sN L 16=NN at*;by_cases o:pl<A
    ·have M:sh+pl<NN:=by omega
     have a1:w1.cell? ⟨vb,sh+pl,none⟩=_:=(cell_of r (sh+pl)).1.trans (j (sh+pl) M);go_wp2_with fail
     go_ret2;exact .inl ⟨_,_,O.out.trans (H1.out o),rfl,P,hF.trans X⟩
    ·go_wp2_with fail
     go_roundw
     case rel=>
      have hG:=D.out;refine⟨m+1,t,2*g+A,sh+A,V,by go_num,rfl,by go_num,by go_num,?_,?_,?_,?_,O.out.trans (H2.out o),P,hF.trans X⟩
      ·rw[fN,<-hG.1,<-K.out]
      ·rw[K.out,hG.2.1];rfl
      ·rw[Q.out,lH];omega
      ·rw[HP.out]at o;have:=Q.out;omega
     case measure=>simp[bH];omega
   ·clear i r j c0;have H3:dJ tb w1 T a ((dX s (bK L).cs ⟨pos,false⟩).2.dV=true):=I.imp (fun I=>by
     rw[O.out,show 15-m=(15-(m+1))+1 by omega,LC s _ _ _ _ rfl I])
    clear I;go_wp2_with fail
    go_ret2;exact .inr ⟨⟨T,a,rfl,H3⟩,W,hF.trans P⟩
  ·have H3:au ((dX s (bK L).cs ⟨pos,false⟩).2.dV=true):=(by
    rw[O.out];exact Iy s _ _ _ _ (fun q hq=>EG L q (by rw[uy]at hq;omega)):_=_)
   have a2:oH wr tb rb s:=F.zC;go_wp2_with fail
   refine(cZ _ _).mono ?_;rintro e w3 ⟨rfl,C⟩;have N:oH w3 tb rb s:=by rw[C];exact a2.alloc _
   have a3:RF tb rb w w3:=by rw[C];exact hF.alloc _
   clear C;go_wp2_with fail
   go_ret2;exact .inr ⟨⟨_,_,rfl,dJ.uh H3.out⟩,N,a3⟩
def kV(m:Nat×Nat×Nat):ay:= .agg #[.int .u8 (m.1:Int),.int .i64 (m.2.1:Int),.int .u64 (m.2.2:Int)]
def um(w:af)(k:Nat)(b:Nat->Nat×Nat×Nat)(L:List Nat):Prop:=∃vb a,Bc w k vb 271 L/\w.heap[vb]?=some (.cells a 251 (0,0))/\
 ∀j,j<sN L 16->a[j*3]?=some (.int .u8 ((b ((AY L 16).getD j 0)).1:Int))/\a[j*3+1]?=some (.int .i64 ((b ((AY L 16).getD j 0)).2.1:Int))/\a[j*3+2]?=some (.int .u64 ((b ((AY L 16).getD j 0)).2.2:Int))
theorem um.over{w w':af}{k:Nat}{tb:Src}{rb:Nat}{e:Nat->Nat×Nat×Nat}{L:List Nat}{s:ByteArray}{pos:Nat}(h:um w k e L)(g:Rd w tb rb s pos)(i:RF tb rb w w'):um w' k e L:=by obtain⟨vb,f,⟨cur,a,b⟩,c,d⟩:=h;have j:=g.types a (by decide) (by decide);have l:=g.types c (by decide) (by decide);exact⟨vb,f,⟨cur,(i.block k (ak a) j.1 j.2).trans a,b⟩,(i.block vb (ak c) l.1 l.2).trans c,d⟩
theorem RF.dY{tb:Src}{rb:Nat}{u v:af}(h:RF tb rb u v)(b o:Nat)(hb:u.heap.size<=b)(x:ay):RF tb rb u (v.setCell ⟨b,o,none⟩ x):=
 ⟨h.os,h.tape,h.output,by simpa using h.size,fun k c a e=>(Below.heap_setCell v ⟨b,o,none⟩ x k (show k≠b by omega)).trans (h.block k c a e)⟩
theorem Rd.drew{w:af}{tb:Src}{rb:Nat}{s:ByteArray}{pos:Nat}(h:Rd w tb rb s pos):Rd w.drew tb rb s pos:=h.grow (fun _ _=>rfl)
theorem UI(k:Nat)(tb:Src)(rb:Nat)(L:List Nat)(s:ByteArray)(pos:Nat)(w:af)(d:Nat->Nat×Nat×Nat)(h:um w k d L)(hR:Rd w tb rb s pos)(hs:s.size<=140737488354000)(hl:L.length<=400)(hx:∀x∈L,x<=15)(hK:kN L 16<=32768):
 aH prog 152 #[.pointer (some ⟨k,0,none⟩),.pointer (some ⟨rb,0,none⟩)] w fun e w'=>
  (∃y p,dX s (bK L).cs ⟨pos,false⟩=(y,⟨p,false⟩)/\e= .returned (.tuple #[kV (d y),.nilIface])/\Rd w' tb rb s p/\RF tb rb w w')\/
  ((∃T a,e= .returned (.tuple #[kV (0,0,0),.iface T (.pointer (some a))])/\dJ tb w' T a ((dX s (bK L).cs ⟨pos,false⟩).2.dV=true))/\oH w' tb rb s/\RF tb rb w w'):=by
 have I:Rd ((w.alloc (.cells #[.int .u8 0,.int .i64 0,.int .u64 0] 251)).alloc (.cells #[.int .u8 0,.int .i64 0,.int .u64 0] 251)) tb rb s pos:=(hR.alloc _).alloc _;have C:RF tb rb w ((w.alloc (.cells #[.int .u8 0,.int .i64 0,.int .u64 0] 251)).alloc (.cells #[.int .u8 0,.int .i64 0,.int .u64 0] 251)):=((RF.refl tb rb w).alloc _).alloc _;have h0:um ((w.alloc (.cells #[.int .u8 0,.int .i64 0,.int .u64 0] 251)).alloc (.cells #[.int .u8 0,.int .i64 0,.int .u64 0] 251)) k d L:=h.over hR C;have a0:((w.alloc (.cells #[.int .u8 0,.int .i64 0,.int .u64 0] 251)).alloc (.cells #[.int .u8 0,.int .i64 0,.int .u64 0] 251)).heap[w.heap.size]?=some (.cells #[.int .u8 0,.int .i64 0,.int .u64 0] 251 (0,0)):=by rw[ai _ _ _ (by simp)];exact(gY w _).1
 have a1:((w.alloc (.cells #[.int .u8 0,.int .i64 0,.int .u64 0] 251)).alloc (.cells #[.int .u8 0,.int .i64 0,.int .u64 0] 251)).heap[w.heap.size+1]?=some (.cells #[.int .u8 0,.int .i64 0,.int .u64 0] 251 (0,0)):=by have h:=(gY (w.alloc (.cells #[.int .u8 0,.int .i64 0,.int .u64 0] 251)) (.cells #[.int .u8 0,.int .i64 0,.int .u64 0] 251)).1;rw[sG]at h;exact h
 have a2:((w.alloc (.cells #[.int .u8 0,.int .i64 0,.int .u64 0] 251)).alloc (.cells #[.int .u8 0,.int .i64 0,.int .u64 0] 251)).heap.size=w.heap.size+2:=by simp
 have D:∀k,w.heap.size<=k->tb.base<=k/\¬tb.F k/\k≠rb:=fun k hk=>hR.new hk;have n:∀{v:af} {b:Nat},RF tb rb ((w.alloc (.cells #[.int .u8 0,.int .i64 0,.int .u64 0] 251)).alloc (.cells #[.int .u8 0,.int .i64 0,.int .u64 0] 251)) v->w.heap.size<=b->b<w.heap.size+2->v.heap[b]?=some (.cells #[.int .u8 0,.int .i64 0,.int .u64 0] 251 (0,0)):=fun {v b} hv h1 h2=>by
  have hb:=D b h1;have e:=hv.block b (by rw[a2];exact h2) hb.2.1 hb.2.2;rcases(by omega:b=w.heap.size\/b=w.heap.size+1)with rfl|rfl
  ·exact e.trans a0
  ·exact e.trans a1
 have b1:dA L<=15:=EF L 15 hx;go_enter func152,ntmps152
 go_wp2_with fail
 go_loopw [7,8,9,10] (fun cv fv sv lv wr=> ∃m c g sh:Nat,m<=dA L/\lv= .int .i64 ((m+1:Nat):Int)/\cv= .int .i64 (c:Int)/\fv= .int .i64 (g:Int)/\sv= .int .i64 (sh:Int)/\g=fN L m+cN L m/\sh=sN L (m+1)/\c<2^m/\g<=c/\
  dX s (bK L).cs ⟨pos,false⟩=qw s (bK L).cs (15-m) (qY c m) ⟨pos+m,false⟩/\Rd wr tb rb s (pos+m)/\RF tb rb ((w.alloc (.cells #[.int .u8 0,.int .i64 0,.int .u64 0] 251)).alloc (.cells #[.int .u8 0,.int .i64 0,.int .u64 0] 251)) wr) (fun _ _ _ lv _=>17-(bH lv).toNat)
 case atStart=>exact⟨0,0,0,0,aX _,rfl,rfl,rfl,rfl,by simp[fN,cN],by simp[sN,cN],by simp,ah _,EJ s _ _,I,RF.refl _ _ _⟩
 case round=>
  obtain⟨m,c,g,sh,hm,rfl,rfl,rfl,rfl,hg,Q,hc,a3,G,R,hF⟩:=hrel;have hT:um wr k d L:=h0.over I hF;obtain⟨vb,S,r,u,t⟩:=hT;have c0:=r.c0;have Z:au _:=G;have O:au (g=fN L m+cN L m/\sh=sN L (m+1)/\c<2^m):=(⟨hg,Q,hc⟩:_/\_/\_);have U:m<=15:=by omega
  have hp:2^m<=2^15:=bT (by omega) U;have b2:c<=32767:=by omega
  clear G hg Q hc hp;by_cases a4:m+1<=dA L
  ·go_wp2_with fail
   refine(wF tb rb s (pos+m) _ R hs).mono ?_;rintro e w1 (⟨V,k1,rfl,P,k3⟩|⟨⟨T,a,rfl,V⟩,k1,P⟩)
   ·have W:um w1 k d L:=h0.over I (hF.trans k3);clear r u t c0;obtain⟨vb,S,r,u,t⟩:=W;have c0:=r.c0;have c17:=r.c17;have cn:=r.cn (m+1) (by omega);have hb:bC s (pos+m) 1<=1:=by have:=fJ s (pos+m) 1;omega
    obtain⟨b,J⟩:∃b,b=bC s (pos+m) 1:=⟨_,rfl⟩;rw[<-J]at hb|-;have a5:=Xp c b (by omega) hb;obtain⟨E,K⟩:∃E,E=2*c+b:=⟨_,rfl⟩;rw[<-K]at a5;have b3:E<=65535:=by omega
    have a6:cN L (m+1)<=400:=by have:=AZ L (m+1);omega
    have HC:au (E=2*c+b):=K;have a7:(E:Int)-(g:Int)*2=((E-2*g:Nat):Int):=by omega
    obtain⟨pl,z⟩:∃pl,pl=E-2*g:=⟨_,rfl⟩;rw[<-z]at a7;have HP:au (pl=E-2*g):=z;clear K z;obtain⟨M,A⟩:∃M,M=cN L (m+1):=⟨_,rfl⟩;rw[<-A]at a6 cn;have X:au (M=cN L (m+1)):=A;clear A;have hle:sN L (m+2)<=sN L 16:=yH L _ _ (by omega);have a9:sN L 16<=6400:=LZ L hl;have b4:sh+M<=sN L 16:=by have h1:=O.out.2.1;rw[X.out,h1];exact hle
    obtain⟨j,l⟩:=LY s L m c b (pos+m) (by omega) O.out.2.2 (by rw[<-O.out.1];exact a3) J k1 hK;have N:fN L (m+1)=2*g:=by rw[fN,O.out.1]
    rw[N,<-HC.out,<-HP.out,<-O.out.2.1,<-X.out]at j;rw[N,<-HC.out,<-HP.out,<-X.out]at l;have H1:au _:=j;have H2:au _:=l;clear j l N hle J;generalize sN L 16=NN at*;by_cases B:pl<M
    ·have Y:sh+pl<NN:=by omega
     obtain⟨v0,v1,v2⟩:=t (sh+pl) Y;have b5:=(cell_of u ((sh+pl)*3)).1.trans v0;have b6:=(cell_of u ((sh+pl)*3+1)).1.trans v1;have b0:=(cell_of u ((sh+pl)*3+2)).1.trans v2;have i:=n (hF.trans k3) (ah _) (by omega);have s0:=(cell_of i 0);have s1:=(cell_of i 1);have s2:=(cell_of i 2);have t0:w1.cell? ⟨w.heap.size,0,none⟩=some (.int .u8 0):=by simpa using s0.1
     have t1:w1.cell? ⟨w.heap.size,1,none⟩=some (.int .i64 0):=by simpa using s1.1
     have t2:w1.cell? ⟨w.heap.size,2,none⟩=some (.int .u64 0):=by simpa using s2.1
     have f0:=s0.2;have f1:=s1.2;have f2:=s2.2;clear s0 s1 s2 v0 v1 v2;generalize hy:(AY L 16).getD (sh+pl) 0=y at*;have f:=D w.heap.size (ah _);have g0:(w1.setCell ⟨w.heap.size,0,none⟩ (.int .u8 ((d y).1:Int))).cell? ⟨w.heap.size,0,none⟩=some (.int .u8 ((d y).1:Int)):=by simpa using(cell_of (bF i 0 (.int .u8 ((d y).1:Int))) 0).1
     have g1:((w1.setCell ⟨w.heap.size,0,none⟩ (.int .u8 ((d y).1:Int))).setCell ⟨w.heap.size,1,none⟩ (.int .i64 ((d y).2.1:Int))).cell? ⟨w.heap.size,1,none⟩=some (.int .i64 ((d y).2.1:Int)):=by simpa using(cell_of (bF (bF i 0 (.int .u8 ((d y).1:Int))) 1 (.int .i64 ((d y).2.1:Int))) 1).1
     have g2:(((w1.setCell ⟨w.heap.size,0,none⟩ (.int .u8 ((d y).1:Int))).setCell ⟨w.heap.size,1,none⟩ (.int .i64 ((d y).2.1:Int))).setCell ⟨w.heap.size,2,none⟩ (.int .u64 ((d y).2.2:Int))).cell? ⟨w.heap.size,2,none⟩=some (.int .u64 ((d y).2.2:Int)):=by simpa using(cell_of (bF (bF (bF i 0 (.int .u8 ((d y).1:Int))) 1 (.int .i64 ((d y).2.1:Int))) 2 (.int .u64 ((d y).2.2:Int))) 2).1
     go_wp2_with fail
     refine a_ (v:= .tuple #[kV (d y),.nilIface]) (by simp[g0,g1,g2,results,results152,go_sem,kV]) rfl (.inl ⟨_,_,Z.out.trans (H1.out B),rfl,?_,?_⟩)
     ·exact((P.dY _ 0 _ f.1 f.2.1 f.2.2).dY _ 1 _ f.1 f.2.1 f.2.2).dY _ 2 _ f.1 f.2.1 f.2.2
     ·exact(((C.trans (hF.trans k3)).dY _ 0 (ah _) _).dY _ 1 (ah _) _).dY _ 2 (ah _) _
    ·go_wp2_with fail
     go_roundw
     case rel=>
      have hG:=O.out;refine⟨m+1,E,2*g+M,sh+M,a4,by go_num,rfl,by go_num,by go_num,?_,?_,?_,?_,Z.out.trans (H2.out B),P,hF.trans k3⟩
      ·rw[fN,<-hG.1,<-X.out]
      ·rw[X.out,hG.2.1];rfl
      ·rw[HC.out,lH];omega
      ·rw[HP.out]at B;have:=HC.out;omega
     case measure=>simp[bH];omega
   ·clear r u t c0;have H3:dJ tb w1 T a ((dX s (bK L).cs ⟨pos,false⟩).2.dV=true):=V.imp (fun V=>by
     rw[Z.out,show 15-m=(15-(m+1))+1 by omega,LC s _ _ _ _ rfl V])
    clear V;have i:=n (hF.trans P) (ah _) (by omega);have H:=n (hF.trans P) (Nat.le_succ _) (by omega);have t0:w1.cell? ⟨w.heap.size,0,none⟩=some (.int .u8 0):=by simpa using(cell_of i 0).1
    have t1:w1.cell? ⟨w.heap.size,1,none⟩=some (.int .i64 0):=by simpa using(cell_of i 1).1
    have t2:w1.cell? ⟨w.heap.size,2,none⟩=some (.int .u64 0):=by simpa using(cell_of i 2).1
    have q0:w1.cell? ⟨w.heap.size+1,0,none⟩=some (.int .u8 0):=by simpa using(cell_of H 0).1
    have q1:w1.cell? ⟨w.heap.size+1,1,none⟩=some (.int .i64 0):=by simpa using(cell_of H 1).1
    have q2:w1.cell? ⟨w.heap.size+1,2,none⟩=some (.int .u64 0):=by simpa using(cell_of H 2).1
    have f0:=(cell_of i 0).2;have f1:=(cell_of i 1).2;have f2:=(cell_of i 2).2;have f:=D w.heap.size (ah _);have g0:(w1.setCell ⟨w.heap.size,0,none⟩ (.int .u8 0)).cell? ⟨w.heap.size,0,none⟩=some (.int .u8 0):=by simpa using(cell_of (bF i 0 (.int .u8 0)) 0).1
    have g1:((w1.setCell ⟨w.heap.size,0,none⟩ (.int .u8 0)).setCell ⟨w.heap.size,1,none⟩ (.int .i64 0)).cell? ⟨w.heap.size,1,none⟩=some (.int .i64 0):=by simpa using(cell_of (bF (bF i 0 (.int .u8 0)) 1 (.int .i64 0)) 1).1
    have g2:(((w1.setCell ⟨w.heap.size,0,none⟩ (.int .u8 0)).setCell ⟨w.heap.size,1,none⟩ (.int .i64 0)).setCell ⟨w.heap.size,2,none⟩ (.int .u64 0)).cell? ⟨w.heap.size,2,none⟩=some (.int .u64 0):=by simpa using(cell_of (bF (bF (bF i 0 (.int .u8 0)) 1 (.int .i64 0)) 2 (.int .u64 0)) 2).1
    go_wp2_with fail
    refine a_ (v:= .tuple #[kV (0,0,0),.iface T (.pointer (some a))]) (by simp[g0,g1,g2,results,results152,go_sem,kV]) rfl (.inr ⟨⟨T,a,rfl,((H3.set i (by decide) 0 _).set (bF i 0 _) (by decide) 1 _).set (bF (bF i 0 _) 1 _) (by decide) 2 _⟩,?_,?_⟩)
    ·exact((k1.dY _ 0 _ f.1 f.2.1 f.2.2).dY _ 1 _ f.1 f.2.1 f.2.2).dY _ 2 _ f.1 f.2.1 f.2.2
    ·exact(((C.trans (hF.trans P)).dY _ 0 (ah _) _).dY _ 1 (ah _) _).dY _ 2 (ah _) _
  ·have H3:au ((dX s (bK L).cs ⟨pos,false⟩).2.dV=true):=(by
    rw[Z.out];exact Iy s _ _ _ _ (fun q hq=>EG L q (by rw[uy]at hq;omega)):_=_)
   have a8:oH wr tb rb s:=R.zC;have i:=n hF (ah _) (by omega);have H:=n hF (Nat.le_succ _) (by omega);have t0:wr.cell? ⟨w.heap.size,0,none⟩=some (.int .u8 0):=by simpa using(cell_of i 0).1
   have t1:wr.cell? ⟨w.heap.size,1,none⟩=some (.int .i64 0):=by simpa using(cell_of i 1).1
   have t2:wr.cell? ⟨w.heap.size,2,none⟩=some (.int .u64 0):=by simpa using(cell_of i 2).1
   have q0:wr.cell? ⟨w.heap.size+1,0,none⟩=some (.int .u8 0):=by simpa using(cell_of H 0).1
   have q1:wr.cell? ⟨w.heap.size+1,1,none⟩=some (.int .i64 0):=by simpa using(cell_of H 1).1
   have q2:wr.cell? ⟨w.heap.size+1,2,none⟩=some (.int .u64 0):=by simpa using(cell_of H 2).1
   have f0:=(cell_of i 0).2;have f1:=(cell_of i 1).2;have f2:=(cell_of i 2).2;have T0:∀o:Obj,(wr.alloc o).cell? ⟨w.heap.size,0,none⟩=_:=fun o=>Er.bU t0 o;have T1:∀o:Obj,(wr.alloc o).cell? ⟨w.heap.size,1,none⟩=_:=fun o=>Er.bU t1 o;have T2:∀o:Obj,(wr.alloc o).cell? ⟨w.heap.size,2,none⟩=_:=fun o=>Er.bU t2 o;have Q0:∀o:Obj,(wr.alloc o).cell? ⟨w.heap.size+1,0,none⟩=_:=fun o=>Er.bU q0 o;have Q1:∀o:Obj,(wr.alloc o).cell? ⟨w.heap.size+1,1,none⟩=_:=fun o=>Er.bU q1 o;have Q2:∀o:Obj,(wr.alloc o).cell? ⟨w.heap.size+1,2,none⟩=_:=fun o=>Er.bU q2 o;have F0:∀o:Obj,(wr.alloc o).frozen? ⟨w.heap.size,0,none⟩=false:=fun o=>Er.fV t0 o f0;have F1:∀o:Obj,(wr.alloc o).frozen? ⟨w.heap.size,1,none⟩=false:=fun o=>Er.fV t1 o f1;have F2:∀o:Obj,(wr.alloc o).frozen? ⟨w.heap.size,2,none⟩=false:=fun o=>Er.fV t2 o f2;have f:=D w.heap.size (ah _);have R0:∀o:Obj,(wr.alloc o).heap[w.heap.size]?=some (.cells #[.int .u8 0,.int .i64 0,.int .u64 0] 251 (0,0)):=fun o=>(ai wr o _ (ak i)).trans i;have G0:∀o:Obj,((wr.alloc o).setCell ⟨w.heap.size,0,none⟩ (.int .u8 0)).cell? ⟨w.heap.size,0,none⟩=some (.int .u8 0):=fun o=>by simpa using(cell_of (bF (R0 o) 0 (.int .u8 0)) 0).1
   have G1:∀o:Obj,(((wr.alloc o).setCell ⟨w.heap.size,0,none⟩ (.int .u8 0)).setCell ⟨w.heap.size,1,none⟩ (.int .i64 0)).cell? ⟨w.heap.size,1,none⟩=some (.int .i64 0):=fun o=>by simpa using(cell_of (bF (bF (R0 o) 0 (.int .u8 0)) 1 (.int .i64 0)) 1).1
   have G2:∀o:Obj,((((wr.alloc o).setCell ⟨w.heap.size,0,none⟩ (.int .u8 0)).setCell ⟨w.heap.size,1,none⟩ (.int .i64 0)).setCell ⟨w.heap.size,2,none⟩ (.int .u64 0)).cell? ⟨w.heap.size,2,none⟩=some (.int .u64 0):=fun o=>by simpa using(cell_of (bF (bF (bF (R0 o) 0 (.int .u8 0)) 1 (.int .i64 0)) 2 (.int .u64 0)) 2).1
   clear i H r u t R0;go_wp2_with fail
   go_region_with ((go_at_call 75;refine(cZ _ _).mono ?_;rintro e w3 ⟨rfl,rfl⟩))
   all_goals go_wp2_with fail
   all_goals
    refine a_ (v:= .tuple #[kV (0,0,0),.iface 93 (.pointer (some ⟨wr.heap.size,0,none⟩))]) (by simp[G0,G1,G2,results,results152,go_sem,kV]) rfl (.inr ⟨⟨_,_,rfl,dJ.uh H3.out⟩,?_,?_⟩)
    ·exact((((a8.alloc _).dY _ 0 _ f.1 f.2.1 f.2.2).dY _ 1 _ f.1 f.2.1 f.2.2).dY _ 2 _ f.1 f.2.1 f.2.2).drew
    ·exact(((((C.trans hF).alloc _).dY _ 0 (ah _) _).dY _ 1 (ah _) _).dY _ 2 (ah _) _).drew
def iV(y:Nat):Nat×Nat×Nat:=if y<256 then(1,y,0)else if y=256 then(2,0,0)else if y<265 then(3,y-254,0)else if y<285 then(3,(4+(y-265)%4)*2^((y-265)/4+1)+3,(y-265)/4+1)else if y=285 then(3,258,0)else(0,0,0)
def kW(y:Nat):Nat×Nat×Nat:=if y<4 then(4,y+1,0)else if y<30 then(4,(2+y%2)*2^((y-2)/2)+1,(y-2)/2)else(0,0,0)
def II(m:Nat×Nat×Nat):Obj:= .cells #[.int .u8 (m.1:Int),.int .i64 (m.2.1:Int),.int .u64 (m.2.2:Int)] 251
theorem SG(a k n c:Nat)(b:a<=8)(d:k<=14)(g:c<=3)(A:Int)(f:A=(a:Int))(h:n=a*2^k+c):wrap64 (wrap64 (A*2^k)+(c:Int))=(n:Int):=by
 have hp:2^k<=2^14:=bT (by omega) d;have h1:a*2^k<=8*2^14:=bD b hp;have e:A*2^k=((a*2^k:Nat):Int):=by rw[f];simp
 rw[e,h];generalize a*2^k=z at*;simp only[wrap64];omega
theorem XL(y:Nat)(w:af)(j:y<=400):
 aH prog 160 #[.int .i64 (y:Int)] w fun e w'=>e= .returned (kV (iV y))/\w'=w.alloc (II (iV y)):=by
 by_cases h1:y<256
 ·have d1:decide ((y:Int)<256)=true:=aZ (by omega);have a:au (iV y=(1,y,0)):=(by unfold iV;rw[aG h1]:_=_);go_enter func160,ntmps160
  go_wp2
  rw[a.out];exact a_ (v:=kV (1,y,0)) (by simp[results,results160,go_sem,kV]) rfl ⟨rfl,rfl⟩
 ·have d1:decide ((y:Int)<256)=false:=aS (by omega);by_cases h2:y=256
  ·have d2:((y:Int)==256)=true:=by simp;omega
   have a:au (iV y=(2,0,0)):=(by unfold iV;rw[ax h1,aG h2]:_=_);go_enter func160,ntmps160
   go_wp2
   rw[a.out];exact a_ (v:=kV (2,0,0)) (by simp[results,results160,go_sem,kV]) rfl ⟨rfl,rfl⟩
  ·have d2:((y:Int)==256)=false:=by simp;omega
   by_cases b:y<265
   ·have d3:decide ((y:Int)<265)=true:=aZ (by omega);have k:(y:Int)-254=((y-254:Nat):Int):=by omega
    have a:au (iV y=(3,y-254,0)):=(by unfold iV;rw[ax h1,ax h2,aG b]:_=_);go_enter func160,ntmps160
    go_wp2
    rw[a.out];exact a_ (v:=kV (3,y-254,0)) (by simp[results,results160,go_sem,kV]) rfl ⟨rfl,rfl⟩
   ·have d3:decide ((y:Int)<265)=false:=aS (by omega);by_cases c:y<285
    ·have d4:decide ((y:Int)<285)=true:=aZ (by omega);have f:au (wrap64 (wrap64 ((4+((y:Int)-265)%4)*2^((y-265)/4+1))+3)=(((4+(y-265)%4)*2^((y-265)/4+1)+3:Nat):Int)):=SG (4+(y-265)%4) _ _ 3 (by omega) (by omega) (by omega) _ (by omega) rfl;have g:au (((y:Int)-265)/4+1=(((y-265)/4+1:Nat):Int)):=(by omega:_=_);have a:au (iV y=(3,(4+(y-265)%4)*2^((y-265)/4+1)+3,(y-265)/4+1)):=(by unfold iV;rw[ax h1,ax h2,ax b,aG c]:_=_);go_enter func160,ntmps160
     go_wp2
     rw[a.out];have hu:=f.out;have h:=g.out;rw[hu,h];exact a_ (v:=kV (3,(4+(y-265)%4)*2^((y-265)/4+1)+3,(y-265)/4+1)) (by simp[results,results160,go_sem,kV]) rfl ⟨rfl,rfl⟩
    ·have d4:decide ((y:Int)<285)=false:=aS (by omega);by_cases d:y=285
     ·have i:((y:Int)==285)=true:=by simp;omega
      have a:au (iV y=(3,258,0)):=(by unfold iV;rw[ax h1,ax h2,ax b,ax c,aG d]:_=_);go_enter func160,ntmps160
      go_wp2
      rw[a.out];exact a_ (v:=kV (3,258,0)) (by simp[results,results160,go_sem,kV]) rfl ⟨rfl,rfl⟩
     ·have i:((y:Int)==285)=false:=by simp;omega
      have a:au (iV y=(0,0,0)):=(by unfold iV;rw[ax h1,ax h2,ax b,ax c,ax d]:_=_);go_enter func160,ntmps160
      go_wp2
      rw[a.out];exact a_ (v:=kV (0,0,0)) (by simp[results,results160,go_sem,kV]) rfl ⟨rfl,rfl⟩
theorem UJ(y:Nat)(w:af)(f:y<=400):
 aH prog 161 #[.int .i64 (y:Int)] w fun e w'=>e= .returned (kV (kW y))/\w'=w.alloc (II (kW y)):=by
 by_cases h1:y<4
 ·have d1:decide ((y:Int)<4)=true:=aZ (by omega);have a:au (kW y=(4,y+1,0)):=(by unfold kW;rw[aG h1]:_=_);go_enter func161,ntmps161
  go_wp2
  rw[a.out];exact a_ (v:=kV (4,y+1,0)) (by simp[results,results161,go_sem,kV]) rfl ⟨rfl,rfl⟩
 ·have d1:decide ((y:Int)<4)=false:=aS (by omega);by_cases h2:y<30
  ·have d2:decide ((y:Int)<30)=true:=aZ (by omega);have b:au (wrap64 (wrap64 ((2+(y:Int)%2)*2^((y-2)/2))+1)=(((2+y%2)*2^((y-2)/2)+1:Nat):Int)):=SG (2+y%2) _ _ 1 (by omega) (by omega) (by omega) _ (by omega) rfl;have c:au (((y:Int)-2)/2=(((y-2)/2:Nat):Int)):=(by omega:_=_);have a:au (kW y=(4,(2+y%2)*2^((y-2)/2)+1,(y-2)/2)):=(by unfold kW;rw[ax h1,aG h2]:_=_);go_enter func161,ntmps161
   go_wp2
   rw[a.out];have hu:=b.out;have d:=c.out;rw[hu,d];exact a_ (v:=kV (4,(2+y%2)*2^((y-2)/2)+1,(y-2)/2)) (by simp[results,results161,go_sem,kV]) rfl ⟨rfl,rfl⟩
  ·have d2:decide ((y:Int)<30)=false:=aS (by omega);have a:au (kW y=(0,0,0)):=(by unfold kW;rw[ax h1,ax h2]:_=_);go_enter func161,ntmps161
   go_wp2
   rw[a.out];exact a_ (v:=kV (0,0,0)) (by simp[results,results161,go_sem,kV]) rfl ⟨rfl,rfl⟩
theorem ML(y:Nat)(h1:257<=y)(h2:y<=285):iV y=(3,jq y):=by
 have h:∀k:Fin 29,iV (257+k.val)=(3,jq (257+k.val)):=by decide+kernel
 have:=h ⟨y-257,by omega⟩;rwa [show 257+(y-257)=y by omega]at this
theorem Qa(y:Nat)(h:y<=29):kW y=(4,jh y):=by
 have a:∀k:Fin 30,kW k.val=(4,jh k.val):=by decide+kernel
 exact a ⟨y,by omega⟩
def DX(f:Nat->Nat)(n x:Nat):Nat->Nat:=fun m=>if m=n then x else f m
def qX(w:af)(k:Nat)(T:aW)(a:Nat)(f:Nat->Nat)(v:ay):Prop:=∃cur,w.heap[k]?=some (.cells cur T (0,0))/\cur.size=18/\cur[0]?=some (.int .i64 (a:Int))/\(∀n,n<=15->cur[1+n]?=some (.int .i64 ((f n:Nat):Int)))/\cur[17]?=some v
theorem qX.lt{w:af}{k:Nat}{T:aW}{a:Nat}{f:Nat->Nat}{v:ay}(h:qX w k T a f v):k<w.heap.size:=by obtain⟨cur,h1,_⟩:=h;exact ak h1
theorem qX.c0{w:af}{k:Nat}{T:aW}{a:Nat}{f:Nat->Nat}{v:ay}(h:qX w k T a f v):w.cell? ⟨k,0,none⟩=some (.int .i64 (a:Int)):=by obtain⟨cur,h1,h2,b,c,d⟩:=h;rw[(cell_of h1 0).1,b]
theorem qX.cn{w:af}{k:Nat}{T:aW}{a:Nat}{f:Nat->Nat}{v:ay}(h:qX w k T a f v)(n:Nat)(b:n<=15):w.cell? ⟨k,1+n,none⟩=some (.int .i64 ((f n:Nat):Int)):=by obtain⟨cur,h1,h2,d,c,e⟩:=h;rw[(cell_of h1 _).1,c n b]
theorem qX.c17{w:af}{k:Nat}{T:aW}{a:Nat}{f:Nat->Nat}{v:ay}(h:qX w k T a f v):w.cell? ⟨k,17,none⟩=some v:=by obtain⟨cur,h1,h2,c,d,b⟩:=h;rw[(cell_of h1 _).1,b]
theorem qX.fr{w:af}{k:Nat}{T:aW}{a:Nat}{f:Nat->Nat}{v:ay}(h:qX w k T a f v)(o:Nat):w.frozen? ⟨k,o,none⟩=false:=by obtain⟨cur,h1,_⟩:=h;exact(cell_of h1 o).2
theorem qX.over{w w':af}{k:Nat}{T:aW}{a:Nat}{f:Nat->Nat}{v:ay}(h:qX w k T a f v)(e:w'.heap[k]?=w.heap[k]?):qX w' k T a f v:=by obtain⟨cur,h1,h2⟩:=h;exact⟨cur,e.trans h1,h2⟩
theorem qX.acR{w:af}{k:Nat}{T:aW}{a:Nat}{f:Nat->Nat}{v:ay}(h:qX w k T a f v)(n x:Nat)(i:n<=15)(X:Int)(b:X=(x:Int)):qX (w.setCell ⟨k,1+n,none⟩ (.int .i64 X)) k T a (DX f n x) v:=by
 obtain⟨cur,h1,h2,c,d,g⟩:=h;subst b;refine⟨_,bF h1 _ _,by simpa using h2,?_,?_,?_⟩
 ·rw[bu (by omega)];exact c
 ·intro m hm;by_cases e:m=n
  ·subst e;rw[dS (by omega)];simp[DX]
  ·rw[bu (by omega),d m hm];simp[DX,e]
 ·rw[bu (by omega)];exact g
theorem qX.acS{w:af}{k:Nat}{T:aW}{a:Nat}{f:Nat->Nat}{v:ay}(h:qX w k T a f v)(x:Nat)(X:Int)(b:X=(x:Int)):qX (w.setCell ⟨k,0,none⟩ (.int .i64 X)) k T x f v:=by
 obtain⟨cur,h1,h2,e,c,d⟩:=h;subst b;refine⟨_,bF h1 _ _,by simpa using h2,?_,?_,?_⟩
 ·rw[dS (by omega)]
 ·intro m hm;rw[bu (by omega),c m hm]
 ·rw[bu (by omega)];exact d
theorem qX.acT{w:af}{k:Nat}{T:aW}{a:Nat}{f:Nat->Nat}{v:ay}(h:qX w k T a f v)(x:ay):qX (w.setCell ⟨k,17,none⟩ x) k T a f x:=by
 obtain⟨cur,h1,h2,b,c,d⟩:=h;refine⟨_,bF h1 _ _,by simpa using h2,?_,?_,?_⟩
 ·rw[bu (by omega)];exact b
 ·intro m hm;rw[bu (by omega),c m hm]
 ·rw[dS (by omega)]
theorem qX.hd{w:af}{k vb:Nat}{T:aW}{L:List Nat}(h:qX w k T (dA L) (cN L) (.slice (some ⟨vb,0,none⟩) (sN L 16) (sN L 16))):Bc w k vb T L:=by obtain⟨cur,h1,h2,a,b,c⟩:=h;exact⟨cur,h1,a,b,c⟩
def xm(w:af)(k:Nat)(T:aW)(f:Nat->Nat):Prop:=∃cur,w.heap[k]?=some (.cells cur T (0,0))/\cur.size=16/\∀n,n<=15->cur[n]?=some (.int .i64 ((f n:Nat):Int))
theorem xm.lt{w:af}{k:Nat}{T:aW}{f:Nat->Nat}(h:xm w k T f):k<w.heap.size:=by obtain⟨cur,h1,_⟩:=h;exact ak h1
theorem xm.cn{w:af}{k:Nat}{T:aW}{f:Nat->Nat}(h:xm w k T f)(n:Nat)(a:n<=15):w.cell? ⟨k,n,none⟩=some (.int .i64 ((f n:Nat):Int)):=by obtain⟨cur,h1,h2,b⟩:=h;rw[(cell_of h1 _).1,b n a]
theorem xm.fr{w:af}{k:Nat}{T:aW}{f:Nat->Nat}(h:xm w k T f)(o:Nat):w.frozen? ⟨k,o,none⟩=false:=by obtain⟨cur,h1,_⟩:=h;exact(cell_of h1 o).2
theorem xm.over{w w':af}{k:Nat}{T:aW}{f:Nat->Nat}(h:xm w k T f)(e:w'.heap[k]?=w.heap[k]?):xm w' k T f:=by obtain⟨cur,h1,h2⟩:=h;exact⟨cur,e.trans h1,h2⟩
theorem xm.set{w:af}{k:Nat}{T:aW}{f:Nat->Nat}(h:xm w k T f)(n x:Nat)(c:n<=15)(X:Int)(a:X=(x:Int)):xm (w.setCell ⟨k,n,none⟩ (.int .i64 X)) k T (DX f n x):=by
 obtain⟨cur,h1,h2,b⟩:=h;subst a;refine⟨_,bF h1 _ _,by simpa using h2,?_⟩;intro m hm;by_cases e:m=n
 ·subst e;rw[dS (by omega)];simp[DX]
 ·rw[bu (by omega),b m hm];simp[DX,e]
theorem xm.congr{w:af}{k:Nat}{T:aW}{f g:Nat->Nat}(h:xm w k T f)(e:∀n,n<=15->f n=g n):xm w k T g:=by obtain⟨cur,h1,h2,b⟩:=h;exact⟨cur,h1,h2,fun n a=>by rw[b n a,e n a]⟩
theorem qX.congr{w:af}{k:Nat}{T:aW}{a:Nat}{f g:Nat->Nat}{v:ay}(h:qX w k T a f v)(e:∀n,n<=15->f n=g n):qX w k T a g v:=by obtain⟨cur,h1,h2,c,d,i⟩:=h;exact⟨cur,h1,h2,c,fun n b=>by rw[d n b,e n b],i⟩
theorem SH(L:List Nat)(x n:Nat):cN (L++[x]) n=cN L n+if x=n/\n≠0 then 1 else 0:=by
 unfold cN;by_cases h:n=0
 ·simp[h]
 ·rw[ax h,ax h,List.count_append,List.count_singleton];by_cases e:x=n
  ·simp[e,h]
  ·simp[e]
theorem aba(L:List Nat):cN L 0=0:=by simp[cN]
theorem Qb(L:List Nat)(x:Nat)(a:0<x)(n:Nat):DX (cN L) x (cN L x+1) n=cN (L++[x]) n:=by
 rw[SH];unfold DX;by_cases e:n=x
 ·subst e;rw[aG rfl,aG ⟨rfl,by omega⟩]
 ·rw[ax e,ax (fun h=>e h.1.symm),cO]
theorem JH(L:List Nat)(x:Nat)(a:¬0<x)(n:Nat):cN L n=cN (L++[x]) n:=by rw[SH,ax (by omega),cO]
theorem wL(L:List Nat)(x:Nat)(a:¬0<x):dA (L++[x])=dA L:=by rw[rQ];omega
def rk(L:List Nat)(n i:Nat):Nat:=(iO L n i).length
theorem Qc(L:List Nat)(n:Nat):∀i j,i<=j->∃t,iO L n j=iO L n i++t:=by
 intro i j h;induction j with
 |zero=>exact⟨[],by rw[show i=0 by omega];simp⟩
 |succ j b=>
  by_cases e:i=j+1
  ·subst e;exact⟨[],by simp⟩
  ·obtain⟨t,a⟩:=b (by omega);rw[kK];split
   ·exact⟨t++[j],by rw[a,bI]⟩
   ·exact⟨t,a⟩
theorem acv(L:List Nat)(n i:Nat)(hi:i<=L.length)(a:n≠0):rk L n i<=cN L n:=by obtain⟨t,b⟩:=Qc L n i L.length hi;have h:=nX L n;unfold pz at h;rw[ax a,b,aK]at h;unfold rk;omega
theorem SI(L:List Nat)(i:Nat)(hi:i<L.length)(a:L.getD i 0≠0):rk L (L.getD i 0) i<cN L (L.getD i 0):=by have h:=acv L (L.getD i 0) (i+1) (by omega) a;unfold rk at*;rw[kK,aG rfl,aK,lq]at h;omega
theorem yL(L:List Nat)(n i:Nat):rk L n (i+1)=rk L n i+if L.getD i 0=n then 1 else 0:=by unfold rk;rw[kK];split<;>simp
theorem XM(L:List Nat)(n r m q:Nat)(a:r<cN L n)(b:q<cN L m)(h:¬(n=m/\r=q)):sN L n+r≠sN L m+q:=by
 rcases Nat.lt_trichotomy n m with h1|h1|h1
 ·have:=yH L (n+1) m (by omega);rw[sN]at this;omega
 ·subst h1;intro e;exact h ⟨rfl,by omega⟩
 ·have:=yH L (m+1) n (by omega);rw[sN]at this;omega
theorem EZ(L:List Nat)(n r:Nat)(a:n<=15)(b:r<cN L n):sN L n+r<sN L 16:=by have:=yH L (n+1) 16 (by omega);rw[sN]at this;omega
theorem XN(L:List Nat)(m:Nat):∀j,j<sN L m->∃n r,n<m/\r<cN L n/\j=sN L n+r:=by
 induction m with
 |zero=>intro j h;simp[sN]at h
 |succ m d=>
  intro j h;rw[sN]at h;by_cases h1:j<sN L m
  ·obtain⟨n,r,a,b,c⟩:=d j h1;exact⟨n,r,by omega,b,c⟩
  ·exact⟨m,j-sN L m,by omega,by omega,by omega⟩
def jF(L:List Nat)(i:Nat)(g:Nat->Option Nat):Prop:=∀n r,1<=n->n<=15->r<rk L n i->g (sN L n+r)=some ((iO L n i).getD r 0)
theorem jF.begin(L:List Nat)(g:Nat->Option Nat):jF L 0 g:=by intro n r _ _ h;simp[rk,iO]at h
theorem jF.none{L:List Nat}{i:Nat}{g:Nat->Option Nat}(h:jF L i g)(b:L.getD i 0=0):jF L (i+1) g:=by
 intro n r h1 h2 a;have e:iO L n (i+1)=iO L n i:=by rw[kK,ax (by omega)]
 rw[e];refine h n r h1 h2 ?_;unfold rk at a|-;rwa [e]at a
theorem jF.more{L:List Nat}{i:Nat}{g:Nat->Option Nat}(h:jF L i g)(hi:i<L.length)(c:L.getD i 0≠0):jF L (i+1) (fun j=>if j=sN L (L.getD i 0)+rk L (L.getD i 0) i then some i else g j):=by
 intro n r h1 h2 a;dsimp only;have d:=acv L n (i+1) (by omega) (by omega);by_cases e:L.getD i 0=n
 ·rw[kK,aG e];by_cases b:r=rk L n i
  ·rw[e,aG (by rw[b])];rw[b,ag];unfold rk;simp
  ·rw[yL,aG e]at a;rw[e,ax (by omega)];have f:=h n r h1 h2 (by omega);rw[f,ag,ag,dI (by unfold rk at a b;omega)]
 ·rw[kK,ax e];rw[yL,ax e]at a;rw[ax (XM L n r _ _ (by rw[yL,ax e]at d;omega) (SI L i hi c) (fun h=>e h.1.symm))];exact h n r h1 h2 (by omega)
theorem jF.all{L:List Nat}{g:Nat->Option Nat}(h:jF L L.length g)(j:Nat)(a:j<sN L 16):g j=some ((AY L 16).getD j 0):=by
 obtain⟨n,r,h1,h2,rfl⟩:=XN L 16 j a;have b:n≠0:=by rintro rfl;rw[aba]at h2;omega
 have c:=nX L n;have e:pz L n=iO L n L.length:=by unfold pz;rw[ax b]
 rw[Sr L 16 n r h1 h2,e];exact h n r (by omega) (by omega) (by unfold rk;rw[<-e];omega)
end Pr
end Go.Proofs.YtephkcdbnogdhabGreatDoor
