import Derived.Test.YtephkcdbnogdhabGreatDoorM11
import Derived.Test.YtephkcdbnogdhabGreatDoorM14
set_option linter.unusedVariables false
set_option maxHeartbeats 40000000
set_option maxRecDepth 10000
namespace Go.Proofs.YtephkcdbnogdhabGreatDoor
open Go.Proofs.Tryz
open Go renaming World->af,Calls->aH
open Go.RowKit renaming Hid->au,intOf->bH
namespace Pr
open Go.RowKit Rf
theorem oH.FZ{w:af}{tb:Src}{rb:Nat}{s:ByteArray}{pos:Nat}(h:Rd w tb rb s pos)(o:Obj):oH (w.alloc o) tb rb s:=h.zC.alloc o
theorem QN(tb:Src)(rb:Nat)(s:ByteArray)(pos:Nat)(w:af)(h:Rd w tb rb s pos)(o:s.size<=140737488354000):
 aH prog 155 #[.pointer (some ⟨rb,0,none⟩)] w fun e w'=>
  (∃a b n:Nat,uq s ⟨pos,false⟩=(a,b,n,⟨pos+14,false⟩)/\257<=a/\a<=286/\1<=b/\b<=30/\4<=n/\n<=19/\e= .returned (.tuple #[.int .i64 (a:Int),.int .i64 (b:Int),.int .i64 (n:Int),.nilIface])/\Rd w' tb rb s (pos+14)/\RF tb rb w w')\/
  ((∃T a,e= .returned (.tuple #[.int .i64 0,.int .i64 0,.int .i64 0,.iface T (.pointer (some a))])/\dJ tb w' T a ((uq s ⟨pos,false⟩).2.2.2.dV=true))/\oH w' tb rb s/\RF tb rb w w'):=by
 go_enter func155,ntmps155
 go_wp2_with fail
 refine(dR tb rb s pos 5 _ h o (by omega)).mono ?_;rintro e w1 (⟨j,r,rfl,k,c⟩|⟨⟨T,a,rfl,j⟩,k,c⟩);rotate_left
 ·go_wp2_with fail
  refine a_ (v:= .tuple #[.int .i64 0,.int .i64 0,.int .i64 0,.iface T (.pointer (some a))]) (by simp[results,results155,go_sem]) rfl (.inr ⟨⟨T,a,rfl,j.imp (fun j=>Ae _ _ _ (mX s 4 _ (mX s 5 _ j)))⟩,k,c⟩)
 have d:au (bZ s 5 ⟨pos,false⟩=(bC s pos 5,⟨pos+5,false⟩)):=gV s 5 pos r;have t:bC s pos 5<32:=fJ s pos 5;generalize bC s pos 5=f at*;by_cases h1:f+257<=286;rotate_left
 ·have d1:decide ((286:Int)<(f:Int)+257)=true:=aZ (by omega);go_wp2_with fail
  refine(cZ _ _).mono ?_;rintro e w2 ⟨rfl,rfl⟩;go_wp2_with fail
  refine a_ (v:= .tuple #[.int .i64 0,.int .i64 0,.int .i64 0,.iface 93 (.pointer (some ⟨w1.heap.size,0,none⟩))]) (by simp[results,results155,go_sem]) rfl (.inr ⟨⟨_,_,rfl,dJ.uh ?_⟩,oH.FZ k _,c.alloc _⟩);unfold uq;dsimp only;rw[d.out];unfold AL;rw[aG (.inl (by dsimp only;omega))]
 have d1:decide ((286:Int)<(f:Int)+257)=false:=aS (by omega);go_wp2_with fail
 refine(dR tb rb s (pos+5) 5 _ k o (by omega)).mono ?_;rintro e w2 (⟨l,u,rfl,m,g⟩|⟨⟨T,a,rfl,l⟩,m,g⟩);rotate_left
 ·go_wp2_with fail
  refine a_ (v:= .tuple #[.int .i64 0,.int .i64 0,.int .i64 0,.iface T (.pointer (some a))]) (by simp[results,results155,go_sem]) rfl (.inr ⟨⟨T,a,rfl,l.imp (fun l=> ?_)⟩,m,c.trans g⟩);unfold uq;dsimp only;rw[d.out];exact Ae _ _ _ (mX s 4 _ l)
 have p:au (bZ s 5 ⟨pos+5,false⟩=(bC s (pos+5) 5,⟨pos+5+5,false⟩)):=gV s 5 (pos+5) u;have x:bC s (pos+5) 5<32:=fJ s (pos+5) 5;generalize bC s (pos+5) 5=i at*;by_cases h2:i+1<=30;rotate_left
 ·have d2:decide ((30:Int)<(i:Int)+1)=true:=aZ (by omega);go_wp2_with fail
  refine(cZ _ _).mono ?_;rintro e w3 ⟨rfl,rfl⟩;go_wp2_with fail
  refine a_ (v:= .tuple #[.int .i64 0,.int .i64 0,.int .i64 0,.iface 93 (.pointer (some ⟨w2.heap.size,0,none⟩))]) (by simp[results,results155,go_sem]) rfl (.inr ⟨⟨_,_,rfl,dJ.uh ?_⟩,oH.FZ m _,(c.trans g).alloc _⟩);unfold uq;dsimp only;rw[d.out];dsimp only;rw[p.out];unfold AL;rw[aG (.inr (by dsimp only;omega))]
 have d2:decide ((30:Int)<(i:Int)+1)=false:=aS (by omega);go_wp2_with fail
 refine(dR tb rb s (pos+5+5) 4 _ m o (by omega)).mono ?_;rintro e w3 (⟨c1,c2,rfl,c3,c4⟩|⟨⟨T,a,rfl,c1⟩,c3,c4⟩);rotate_left
 ·go_wp2_with fail
  refine a_ (v:= .tuple #[.int .i64 0,.int .i64 0,.int .i64 0,.iface T (.pointer (some a))]) (by simp[results,results155,go_sem]) rfl (.inr ⟨⟨T,a,rfl,c1.imp (fun c1=> ?_)⟩,c3,(c.trans g).trans c4⟩);unfold uq;dsimp only;rw[d.out];dsimp only;rw[p.out];exact Ae _ _ _ c1
 have y:au (bZ s 4 ⟨pos+5+5,false⟩=(bC s (pos+5+5) 4,⟨pos+5+5+4,false⟩)):=gV s 4 (pos+5+5) c2;have z:bC s (pos+5+5) 4<16:=fJ s (pos+5+5) 4;generalize bC s (pos+5+5) 4=q at*;go_wp2_with fail
 refine a_ (v:= .tuple #[.int .i64 ((f+257:Nat):Int),.int .i64 ((i+1:Nat):Int),.int .i64 ((q+4:Nat):Int),.nilIface]) (by simp[results,results155,go_sem]) rfl (.inl ⟨f+257,i+1,q+4,?_,by omega,h1,by omega,h2,by omega,by omega,rfl,c3,(c.trans g).trans c4⟩);unfold uq
 (try dsimp only)
 rw[d.out]
 (try dsimp only)
 rw[p.out]
 (try dsimp only)
 rw[y.out];unfold AL;rw[ax (by first|omega|(dsimp only;omega))]
end Pr
namespace Rf
theorem DK(s:ByteArray)(most:Nat)(u:US)(h:(qg s u.st).2.dV=true):(jA s most u).st.dV=true:=by unfold jA;rw[uz s most _ _ h];exact h
theorem Zb(s:ByteArray)(most:Nat)(n:Nat):∀u:US,most<u.out.length+n->u.out.length<=most->(GK s most n u).st.dV=true:=by
 induction n with
 |zero=>intro u h h2;omega
 |succ n e=>
  intro u h h2;by_cases hb:u.st.dV=true
  ·rw[uz s most _ _ hb];exact hb
  ·have c:u.st.dV=false:=by simpa using hb
   rw[Jt s most n u c];by_cases b:(bZ s 8 u.st).2.dV=true
   ·by_cases a:most<=u.out.length
    ·rw[rY most _ ⟨(bZ s 8 u.st).2,u.out⟩ a,uz s most _ _ rfl]
    ·rw[Ep most _ ⟨(bZ s 8 u.st).2,u.out⟩ a b,uz s most _ _ b];exact b
   ·have d:(bZ s 8 u.st).2.dV=false:=by simpa using b
    by_cases a:most<=u.out.length
    ·rw[rY most _ ⟨(bZ s 8 u.st).2,u.out⟩ a,uz s most _ _ rfl]
    ·rw[rM most _ ⟨(bZ s 8 u.st).2,u.out⟩ a d];exact e _ (by simp;omega) (by simp;omega)
theorem aby(s:ByteArray)(most:Nat)(n:Nat):∀u:US,(GK s most n u).out.length<=u.out.length+n:=by
 induction n with
 |zero=>intro u;exact ah _
 |succ n d=>
  intro u;by_cases hb:u.st.dV=true
  ·rw[uz s most _ _ hb];omega
  ·have a:u.st.dV=false:=by simpa using hb
   rw[Jt s most n u a];refine aY (d _) ?_;by_cases b:most<=u.out.length
   ·rw[rY most _ ⟨(bZ s 8 u.st).2,u.out⟩ b];dsimp only;omega
   ·by_cases c:(bZ s 8 u.st).2.dV=true
    ·rw[Ep most _ ⟨(bZ s 8 u.st).2,u.out⟩ b c];dsimp only;omega
    ·rw[rM most _ ⟨(bZ s 8 u.st).2,u.out⟩ b (by simpa using c)];simp;omega
theorem Zc(n a b:Nat)(c:a<256)(hb:b<256)(h:n<65536):n+(a+256*b)=65535↔a=255-n%256/\b=255-n/256:=by omega
def ry(s:ByteArray)(p n:Nat):Prop:=p+16<=8*s.size/\n+bC s p 16=65535
theorem ry.iff(s:ByteArray)(p n:Nat)(h:n<65536):ry s p n↔p+16<=8*s.size/\bC s p 8=255-n%256/\bC s (p+8) 8=255-n/256:=by have e:bC s p 16=bC s p 8+2^8*bC s (p+8) 8:=rZ s p 8 8;have h1:=fJ s p 8;have h2:=fJ s (p+8) 8;unfold ry;rw[e,Zc n _ _ h1 h2 h]
theorem Gg(s:ByteArray)(p:Nat)(h:(bZ s 8 ⟨p,false⟩).2.dV=true):¬p+8<=8*s.size:=fun a=>by rw[gV s 8 p a]at h;cases h
theorem NZ(s:ByteArray)(p:Nat)(h:(bZ s 16 ⟨p,false⟩).2.dV=true):¬p+16<=8*s.size:=fun a=>by rw[gV s 16 p a]at h;cases h
theorem abz(s:ByteArray)(pos a c:Nat)(hp:a=(pos+7)/8*8)(d:bZ s 16 ⟨a,false⟩=(c,⟨a+16,false⟩))(f:a+16<=8*s.size)(h:¬ry s (a+16) c):(qg s ⟨pos,false⟩).2.dV=true:=by
 have b:oW ⟨pos,false⟩=⟨a,false⟩:=by rw[hp];rfl
 unfold qg;rw[b,d];dsimp only;by_cases h2:a+16+16<=8*s.size
 ·rw[gV s 16 (a+16) h2];dsimp only;rw[ax (fun e=>h ⟨h2,e⟩)]
 ·have:=sQ s 16 (a+16) f (by omega);split
  ·exact this
  ·rfl
theorem Zd(s:ByteArray)(pos a b:Nat)(hp:a=(pos+7)/8*8)(d:bZ s 16 ⟨a,false⟩=(b,⟨a+16,false⟩))(h:ry s (a+16) b):qg s ⟨pos,false⟩=(b,⟨a+16+16,false⟩):=by
 have c:oW ⟨pos,false⟩=⟨a,false⟩:=by rw[hp];rfl
 unfold qg;rw[c,d];dsimp only;rw[gV s 16 (a+16) h.1];dsimp only;rw[aG h.2]
theorem VA(s:ByteArray)(pos a:Nat)(hp:a=(pos+7)/8*8)(h:(bZ s 16 ⟨a,false⟩).2.dV=true):(qg s ⟨pos,false⟩).2.dV=true:=by
 have b:oW ⟨pos,false⟩=⟨a,false⟩:=by rw[hp];rfl
 unfold qg;rw[b];dsimp only;split
 ·exact mX s 16 _ h
 ·rfl
theorem QU(s:ByteArray)(pos a c:Nat)(hp:a=(pos+7)/8*8)(d:bZ s 16 ⟨a,false⟩=(c,⟨a+16,false⟩)):(qg s ⟨pos,false⟩).1=c:=by
 have b:oW ⟨pos,false⟩=⟨a,false⟩:=by rw[hp];rfl
 unfold qg;rw[b,d]
end Rf
namespace Pr
open Go.RowKit Rf
theorem Ze(x:Nat)(h:x<256):bits BinOp.xor IntKind.u8 IntKind.u8.max (x:Int)=255-(x:Int):=by
 have all:∀x:Fin 256,bits BinOp.xor IntKind.u8 IntKind.u8.max (x.val:Int)=255-(x.val:Int):=by decide+kernel
 exact all ⟨x,h⟩
theorem Gh(S:jy)(A:qN)(s:ByteArray)(aO most p n:Nat)(out:List UInt8)(w:af)(h:UP S w A s aO most ⟨⟨p,false⟩,out⟩)(K:s.size<=140737488354000)(M:n<65536):
 aH prog 149 #[.pointer (some ⟨A.ub,0,none⟩),.int .i64 (n:Int)] w fun e w'=>
  (ry s p n/\e= .returned .nilIface/\UP S w' A s aO most ⟨⟨p+16,false⟩,out⟩/\PE A.base w w')\/
  ((∃T a,e= .returned (.iface T (.pointer (some a)))/\dJ A.tb w' T a (¬ry s p n))/\UE w' A s/\PE A.base w w'):=by
 have q:au _:=ry.iff s p n M;obtain⟨Q,L⟩:∃Q:Prop,Q=ry s p n:=⟨_,rfl⟩;rw[<-L]at q|-;clear L;obtain⟨c0,_,_,_⟩:=h.cells;obtain⟨X,k,Y⟩:=h.facts;dsimp only at k;have N:IntKind.u8.signed=false:=rfl;have O:bits BinOp.xor IntKind.u8 IntKind.u8.max ((n:Int)%256)=255-(n:Int)%256:=by have:=Ze (n%256) (by omega);rw[show((n%256:Nat):Int)=(n:Int)%256 by omega]at this;exact this
 have z:bits BinOp.xor IntKind.u8 IntKind.u8.max ((n:Int)/256)=255-(n:Int)/256:=by have:=Ze (n/256) (by omega);rw[show((n/256:Nat):Int)=(n:Int)/256 by omega]at this;exact this
 have P:bits BinOp.xor IntKind.u8 IntKind.u8.max ((n:Int)/256%256)=255-(n:Int)/256:=by rw[show(n:Int)/256%256=(n:Int)/256 by omega];exact z
 go_enter func149,ntmps149
 go_wp2_with fail
 refine wp_loop_rounds 3 ?_;rw[xx];go_wp2_with fail
 refine(dR A.tb A.rb s p 8 _ k K (by omega)).mono ?_;rintro e w1 (⟨_,Z,rfl,B,C⟩|⟨⟨T,a,rfl,r⟩,B,C⟩);rotate_left
 ·have D:dJ A.tb w1 T a (¬Q):=r.imp (fun r l=>Gg s p r (by have:=(q.out.1 l).1;omega));have c:=h.zC B C;clear r;go_wp2_with fail
  go_ret;exact .inr ⟨⟨T,a,rfl,D⟩,c.1,c.2⟩
 obtain⟨d,i⟩:=h.rd _ B C;have E:bC s p 8<256:=fJ s p 8;obtain⟨m,f⟩:∃b,b=bC s p 8:=⟨_,rfl⟩;rw[<-f]at E|-;have t:au (m=bC s p 8):=f;clear f c0 k;obtain⟨c0,_,_,_⟩:=d.cells;obtain⟨_,k,_⟩:=d.facts;dsimp only at k;by_cases x:m=255-n%256;rotate_left
 ·have d1:((m:Int) !=255-(n:Int)%256)=true:=by rw[ig];omega
  have F:au (¬Q):=(fun l=>x (t.out.trans (q.out.1 l).2.1):¬_);clear x;go_wp2_with fail
  refine(cZ _ _).mono ?_;rintro e R ⟨rfl,rfl⟩;go_wp2_with fail
  go_ret;exact .inr ⟨⟨_,_,rfl,dJ.uh F.out⟩,d.ue.alloc _,i.trans (PE.alloc _ _ _ d.base)⟩
 have d1:((m:Int) !=255-(n:Int)%256)=false:=by rw[di];omega
 have U:au (bC s p 8=255-n%256):=(t.out.symm.trans x:_=_);clear x;go_wp2_with fail
 rw[xx];go_wp2_with fail
 refine(dR A.tb A.rb s (p+8) 8 _ k K (by omega)).mono ?_;rintro e w2 (⟨_,V,rfl,G,H⟩|⟨⟨T,a,rfl,m⟩,G,H⟩);rotate_left
 ·have D:dJ A.tb w2 T a (¬Q):=m.imp (fun r l=>Gg s (p+8) r (by have:=(q.out.1 l).1;omega));have c:=d.zC G H;clear m;go_wp2_with fail
  go_ret;exact .inr ⟨⟨T,a,rfl,D⟩,c.1,i.trans c.2⟩
 obtain⟨o,u⟩:=d.rd _ G H;have I:bC s (p+8) 8<256:=fJ s (p+8) 8;obtain⟨j,g⟩:∃b,b=bC s (p+8) 8:=⟨_,rfl⟩;rw[<-g]at I|-;have v:au (j=bC s (p+8) 8):=g;have J:au (p+16<=8*s.size):=(by omega:_<=_);clear g c0 k V;by_cases y:j=255-n/256;rotate_left
 ·have d1:((j:Int) !=255-(n:Int)/256)=true:=by rw[ig];omega
  have F:au (¬Q):=(fun l=>y (v.out.trans (q.out.1 l).2.2):¬_);clear y;go_wp2_with fail
  refine(cZ _ _).mono ?_;rintro e R ⟨rfl,rfl⟩;go_wp2_with fail
  go_ret;exact .inr ⟨⟨_,_,rfl,dJ.uh F.out⟩,o.ue.alloc _,(i.trans u).trans (PE.alloc _ _ _ o.base)⟩
 have d2:((j:Int) !=255-(n:Int)/256)=false:=by rw[di];omega
 have W:au Q:=(q.out.2 ⟨J.out,U.out,v.out.symm.trans y⟩:Q);clear y;go_wp2_with fail
 rw[xx];go_wp2_with fail
 go_ret;exact .inl ⟨W.out,rfl,o,i.trans u⟩
def Ee(A:qN)(s:ByteArray)(most p len:Nat)(last:Bool):Prop:=p+16<=8*s.size/\len+bC s p 16<=most/\(last=true->A.al=true->most<=len+bC s p 16)/\ry s (p+16) (bC s p 16)
theorem Hz(S:jy)(A:qN)(s:ByteArray)(aO most p:Nat)(out:List UInt8)(last:Bool)(w:af)(h:UP S w A s aO most ⟨⟨p,false⟩,out⟩)(E:s.size<=140737488354000)(hm:most<=16777216):
 aH prog 142 #[.pointer (some ⟨A.ub,0,none⟩),.bool last] w fun e w'=>
  (Ee A s most p out.length last/\e= .returned (.tuple #[.int .i64 ((bC s p 16:Nat):Int),.nilIface])/\UP S w' A s aO most ⟨⟨p+16+16,false⟩,out⟩/\PE A.base w w')\/
  ((∃n T a,e= .returned (.tuple #[.int .i64 n,.iface T (.pointer (some a))])/\dJ A.tb w' T a (¬Ee A s most p out.length last))/\UE w' A s/\PE A.base w w'):=by
 obtain⟨c0,_,_,_⟩:=h.cells;obtain⟨M,t,J⟩:=h.facts;dsimp only at t J;have u:bC s p 16<65536:=fJ s p 16;have m:au (Ee A s most p out.length last↔p+16<=8*s.size/\out.length+bC s p 16<=most/\(last=true->A.al=true->most<=out.length+bC s p 16)/\ry s (p+16) (bC s p 16)):=Iff.rfl;obtain⟨Q,F⟩:∃Q:Prop,Q=Ee A s most p out.length last:=⟨_,rfl⟩;rw[<-F]at m|-;clear F;have G:=dR A.tb A.rb s p 16 w t E (by omega);generalize bC s p 16=n at*;go_enter func142,ntmps142
 go_wp2_with fail
 refine G.mono ?_;rintro e w1 (⟨_,H,rfl,v,x⟩|⟨⟨T,a,rfl,r⟩,v,x⟩);rotate_left
 ·have o:dJ A.tb w1 T a (¬Q):=r.imp (fun r k=>NZ s p r (m.out.1 k).1);have j:=h.zC v x;clear r;go_wp2_with fail
  go_ret2;exact .inr ⟨⟨_,T,a,rfl,o⟩,j.1,j.2⟩
 obtain⟨l,f⟩:=h.rd _ v x;have q:au (p+16<=8*s.size):=H;clear G c0 t H;go_wp2_with fail
 refine(NC S A s aO most n _ _ l hm (by omega)).mono ?_;rintro e w2 (⟨b,rfl,hw⟩|⟨⟨T,a,rfl,b⟩,y,z⟩);rotate_left
 ·have o:dJ A.tb w2 T a (¬Q):=b.imp (fun b k=>b (m.out.1 k).2.1);clear b;go_wp2_with fail
  go_ret2;exact .inr ⟨⟨_,T,a,rfl,o⟩,y,f.trans z⟩
 have hw:=hw.symm;subst hw;have B:au (out.length+n<=most):=b;clear b;have d:∀I:(last=true->A.al=true->most<=out.length+n),aH prog 149 #[.pointer (some ⟨A.ub,0,none⟩),.int .i64 (n:Int)] w1 fun e w'=>
  (Q/\e= .returned .nilIface/\UP S w' A s aO most ⟨⟨p+16+16,false⟩,out⟩/\PE A.base w1 w')\/
  ((∃T a,e= .returned (.iface T (.pointer (some a)))/\dJ A.tb w' T a (¬Q))/\UE w' A s/\PE A.base w1 w'):=fun I=>by
  refine(Gh S A s aO most (p+16) n out w1 l E u).mono ?_;rintro e w3 (⟨c,K,g,i⟩|⟨⟨T,a,L,c⟩,g,i⟩)
  ·exact .inl ⟨m.out.2 ⟨q.out,B.out,I,c⟩,K,g,i⟩
  ·exact .inr ⟨⟨T,a,L,c.imp (fun c k=>c (m.out.1 k).2.2.2)⟩,g,i⟩
 cases last with
 |false=>
  have C:=d (fun e=>by cases e);clear d;go_wp2_with fail
  refine C.mono ?_;rintro e w3 (⟨c,rfl,g,i⟩|⟨⟨T,a,rfl,c⟩,g,i⟩)
  ·have D:au Q:=c;clear c;go_wp2_with fail
   go_ret2;exact .inl ⟨D.out,rfl,g,f.trans i⟩
  ·go_wp2_with fail
   go_ret2;exact .inr ⟨⟨_,T,a,rfl,c⟩,g,f.trans i⟩
 |true=>
  go_wp2_with fail
  refine(FK S A s aO most n _ _ l hm (by omega)).mono ?_;rintro e w2 (⟨b,rfl,hw⟩|⟨⟨T,a,rfl,b⟩,y,z⟩);rotate_left
  ·have o:dJ A.tb w2 T a (¬Q):=b.imp (fun b k=>by have:=(m.out.1 k).2.2.1 (by first|exact trivial|rfl) b.1;have:=b.2;dsimp only at this;omega);clear b;go_wp2_with fail
   go_ret2;exact .inr ⟨⟨_,T,a,rfl,o⟩,y,f.trans z⟩
  have hw:=hw.symm;subst hw;have C:=d (fun _=>b);clear d b;go_wp2_with fail
  refine C.mono ?_;rintro e w3 (⟨c,rfl,g,i⟩|⟨⟨T,a,rfl,c⟩,g,i⟩)
  ·have D:au Q:=c;clear c;go_wp2_with fail
   go_ret2;exact .inl ⟨D.out,rfl,g,f.trans i⟩
  ·go_wp2_with fail
   go_ret2;exact .inr ⟨⟨_,T,a,rfl,c⟩,g,f.trans i⟩
def adI(S:jy)(A:qN)(s:ByteArray)(aO most:Nat)(w:af)(last:Bool)(U:US)(e:Ending)(w':af):Prop:=
 (U.st.dV=false/\e= .returned .nilIface/\UP S w' A s aO most U/\PE A.base w w')\/
 ((∃T a,e= .returned (.iface T (.pointer (some a)))/\dJ A.tb w' T a (Stop S U\/(last=true/\qm A most U)))/\UE w' A s/\PE A.base w w')
theorem zM(S:jy)(A:qN)(s:ByteArray)(aO most:Nat)(u:US)(last:Bool)(w:af)(hP:vP S A.base)(h:UP S w A s aO most u)(hs:s.size<=140737488354000)(hm:most<=16777216)(P:1<=aO)(Q:aO<=32768):
 aH prog 137 #[.pointer (some ⟨A.ub,0,none⟩),.bool last] w fun e w'=>adI S A s aO most w last (jA s most u) e w':=by
 have f:=h.facts.1;obtain⟨⟨pos,dV⟩,out⟩:=u;dsimp only at f;subst f;obtain⟨c0,_,_,_⟩:=h.cells;obtain⟨f1,y,f3⟩:=h.facts;dsimp only at y;go_enter func137,ntmps137
 go_wp2_with fail
 refine(Ir A.tb A.rb s pos _ y).mono ?_;rintro e w1 ⟨rfl,z,C⟩;have i:=h.rd _ z C;obtain⟨c,v⟩:∃c,c=(pos+7)/8*8:=⟨_,rfl⟩;rw[<-v]at i z;have m:au _:=v;clear v c0;obtain⟨i,x⟩:=i;have a5:bC s c 16<65536:=fJ s c 16;have R:out.length<=most:=i.facts.2.2;go_wp2_with fail
 refine(Hz S A s aO most c out last _ i hs hm).mono ?_;rintro e w2 (⟨g,rfl,D,E⟩|⟨⟨n,T,a,rfl,g⟩,F,G⟩);rotate_left
 ·have H:dJ A.tb w2 T a (Stop S (jA s most ⟨⟨pos,false⟩,out⟩)\/(last=true/\qm A most (jA s most ⟨⟨pos,false⟩,out⟩))):=g.imp (fun g=>by
   by_cases U:c+16<=8*s.size
   ·have N1:=gV s 16 c U;have V:=QU s pos c _ m.out N1;by_cases z2:out.length+bC s c 16<=most
    ·by_cases z4:ry s (c+16) (bC s c 16)
     ·refine .inr ?_;by_cases N:last=true->A.al=true->most<=out.length+bC s c 16
      ·exact absurd ⟨U,z2,N,z4⟩ g
      ·have z5:last=true/\A.al=true/\¬most<=out.length+bC s c 16:=by
        refine⟨?_,?_,?_⟩
        ·cases last with
         |true=>rfl
         |false=>exact absurd (fun e=>by cases e) N
        ·cases W:A.al with
         |true=>rfl
         |false=>exact absurd (fun _ e=>by rw[W]at e;cases e) N
        ·exact fun e=>N (fun _ _=>e)
       refine⟨z5.1,z5.2.1,?_⟩;have hle:=aby s most (qg s ⟨pos,false⟩).1 ⟨(qg s ⟨pos,false⟩).2,out⟩;rw[V]at hle;have:(jA s most ⟨⟨pos,false⟩,out⟩).out.length<=out.length+bC s c 16:=by unfold jA;rw[V];exact hle
       omega
     ·exact .inl (.inl (DK s most _ (abz s pos c _ m.out N1 U z4)))
    ·refine .inl (.inl ?_);unfold jA;rw[V];exact Zb s most _ _ (by dsimp only;omega) R
   ·exact .inl (.inl (DK s most _ (VA s pos c m.out (sQ s 16 c i.facts.2.1.zS (by omega))))))
  clear g;go_wp2_with fail
  go_ret;exact .inr ⟨⟨T,a,rfl,H⟩,F,x.trans G⟩
 have O:au (jA s most ⟨⟨pos,false⟩,out⟩=GK s most (bC s c 16) ⟨⟨c+16+16,false⟩,out⟩):=(by unfold jA;rw[Zd s pos c _ m.out (gV s 16 c g.1) g.2.2.2]:_=_)
 have X:out.length+bC s c 16<=most:=g.2.1;have k:=x.trans E;clear g;generalize bC s c 16=l at*;go_wp2_with fail
 go_loopw [25] (fun iv wr=> ∃(j:Nat) (t:US),j<=l/\iv= .int .i64 (j:Int)/\GK s most l ⟨⟨c+16+16,false⟩,out⟩=GK s most (l-j) t/\t.out.length=out.length+j/\UP S wr A s aO most t/\PE A.base w wr) (fun iv _=>l-(bH iv).toNat)
 case atStart=>exact⟨0,⟨⟨c+16+16,false⟩,out⟩,aX _,rfl,rfl,rfl,D,k⟩
 case round=>
  clear D k i x E;obtain⟨j,t,hj,rfl,I,J,B,o⟩:=hrel;have p:au _:=I;have HL:au (t.out.length=out.length+j):=J;clear I J;have f:=B.facts.1;obtain⟨⟨d,dV⟩,b⟩:=t;dsimp only at f;subst f;by_cases a6:j<l
  ·obtain⟨c0,_,_,_⟩:=B.cells;obtain⟨_,y,_⟩:=B.facts;dsimp only at y;have H1:au (GK s most (l-j) ⟨⟨d,false⟩,b⟩=GK s most (l-(j+1)) (uO most (UInt8.ofNat (bZ s 8 ⟨d,false⟩).1) ⟨(bZ s 8 ⟨d,false⟩).2,b⟩)):=(by
    rw[show l-j=(l-(j+1))+1 by omega];exact Jt s most _ _ rfl:_=_)
   go_wp2_with fail
   refine(dR A.tb A.rb s d 8 _ y hs (by omega)).mono ?_;rintro e w2 (⟨g,a2,rfl,F,G⟩|⟨⟨T,a,rfl,g⟩,F,G⟩)
   ·obtain⟨Y,K⟩:=B.rd _ F G;have a7:bC s d 8<256:=fJ s d 8;have N8:au (bZ s 8 ⟨d,false⟩=(bC s d 8,⟨d+8,false⟩)):=gV s 8 d a2;have L:(UInt8.ofNat (bC s d 8)).toNat=bC s d 8:=by simp;omega
    have Z:b.length<most:=by have:=HL.out;(try dsimp only at this);omega
    have M:au (uO most (UInt8.ofNat (bZ s 8 ⟨d,false⟩).1) ⟨(bZ s 8 ⟨d,false⟩).2,b⟩=⟨⟨d+8,false⟩,b++[UInt8.ofNat (bC s d 8)]⟩):=(by rw[N8.out];exact rM most _ _ (by dsimp only;omega) rfl:_=_)
    have q:=hP A s aO most ⟨⟨d+8,false⟩,b⟩ (UInt8.ofNat (bC s d 8)) w2 rfl Y Z hm P Q;rw[L]at q;clear L c0 y;go_wp2_with fail
    refine q.mono ?_;rintro e w3 (⟨rfl,z,C⟩|⟨⟨T,a,rfl,g0⟩,z,C⟩);rotate_left
    ·have H:dJ A.tb w3 T a (Stop S (jA s most ⟨⟨pos,false⟩,out⟩)\/(last=true/\qm A most (jA s most ⟨⟨pos,false⟩,out⟩))):=g0.imp (fun a0=> .inl (.inr ⟨_,a0,by
      rw[O.out,p.out,H1.out,M.out];exact Tj s most _ ⟨⟨d+8,false⟩,b++[UInt8.ofNat (bC s d 8)]⟩⟩))
     clear g0;go_wp2_with fail
     go_ret;exact .inr ⟨⟨T,a,rfl,H⟩,z,o.trans (K.trans C)⟩
    go_wp2_with fail
    go_roundw
    case rel=>exact⟨j+1,_,by omega,by go_num,p.out.trans (H1.out.trans (by rw[M.out])),by simp only[List.length_append,List.length_singleton];have:=HL.out;(try dsimp only at this);omega,z,o.trans (K.trans C)⟩
    case measure=>simp[bH];omega
   ·have r:=B.zC F G;have H:dJ A.tb w2 T a (Stop S (jA s most ⟨⟨pos,false⟩,out⟩)\/(last=true/\qm A most (jA s most ⟨⟨pos,false⟩,out⟩))):=g.imp (fun g=> .inl (.inl (by
     rw[O.out,p.out,H1.out];by_cases hf:most<=b.length
     ·rw[rY most _ _ hf,uz s most _ _ rfl]
     ·rw[Ep most _ _ hf g,uz s most _ _ g];exact g)))
    clear g;go_wp2_with fail
    go_ret;exact .inr ⟨⟨T,a,rfl,H⟩,r.1,o.trans r.2⟩
  ·have M:au (GK s most l ⟨⟨c+16+16,false⟩,out⟩=⟨⟨d,false⟩,b⟩):=(by rw[p.out,show l-j=0 by omega];rfl:_=_);go_wp2_with fail
   go_ret;exact .inl ⟨by rw[O.out,M.out],rfl,by rw[O.out,M.out];exact B,o⟩
end Pr
namespace lI
open Go.RowKit Rf
def Bq(s:ByteArray)(aO most:Nat):US:=xC s aO most (8*s.size+1) ⟨⟨0,false⟩,[]⟩
end lI
end Go.Proofs.YtephkcdbnogdhabGreatDoor
