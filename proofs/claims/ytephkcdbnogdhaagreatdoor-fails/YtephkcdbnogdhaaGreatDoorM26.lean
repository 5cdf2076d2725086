import Derived.Test.YtephkcdbnogdhaaGreatDoorM15
import Derived.Test.YtephkcdbnogdhaaGreatDoorM20
import Derived.Test.YtephkcdbnogdhaaGreatDoorM21
import Derived.Test.YtephkcdbnogdhaaGreatDoorM24
import Derived.Test.YtephkcdbnogdhaaGreatDoorM25
set_option linter.unusedVariables false
set_option maxHeartbeats 40000000
set_option maxRecDepth 10000
namespace Go.Proofs.YtephkcdbnogdhaaGreatDoor
open Go.Proofs.Tryz
open Go renaming World->af,Value->ay,Calls->aF,Addr->bP
open Go.RowKit renaming Hid->ah,Below->aJ,intOf->aX
namespace Pr
open Go.RowKit Rf Cr
open h_ (cut gz eP gJ iq iG iw jo jd dF aT fV di)
def CE:ByteArray:=⟨#[116,82,78,83]⟩
theorem H_:kT.toList=[80,76,84,69]:=by rw[bD];rfl
theorem Ia:CE.toList=[116,82,78,83]:=by rw[bD];rfl
theorem Ib:dV.toList=[73,68,65,84]:=by rw[bD];rfl
theorem ry.fr{S:Src}{cb:Nat}{w w':af}{kb base W H D K:Nat}{I:Bool}{st:Cs}(h:ry w kb base W H D K I st)(c:oC S cb w)(b:Fr (jP S cb) w w'):ry w' kb base W H D K I st:=by obtain⟨ev,cv,a,d,h3⟩:=h.at';exact⟨⟨ev,cv,⟨(b.block kb (ai a.nN) (c.ne a.nN (by decide))).trans a.nN,GX a.nP c (by decide) b,GX a.Bq c (by decide) b⟩,d,h3⟩,h.kb,aK h.hp b.size,h.Di,h.Bq⟩
def aaS(s:ByteArray)(p n D K:Nat)(name:ByteArray)(st:Cs):Prop:=(name=kT->GU s p n D K st.E.length st.jG)/\(name=CE->sF s p n D K st)
def YW(s:ByteArray)(p n K:Nat)(name:ByteArray)(st:Cs):Cs:=if name=kT then aao s p n st else if name=CE then Nu s p n K st else st
theorem Jt(S:Src)(cb:Nat)(s:ByteArray)(w:af)(eb lb:bP)(p n:Nat)(name:ByteArray)(l:List UInt8)(h:CR S cb s w p name n l)(hs:jI w eb S.fb lb S.base)
 (kb base W H D K:Nat) (I:Bool) (st:Cs) (x:ry w kb base W H D K I st) (hb:S.base<=base) (hD:jH D) (hK:K<=255) (y:K=3->D<=8):
 aF prog 154 #[.pointer (some ⟨cb,0,none⟩),.pointer (some ⟨kb,0,none⟩)] w fun e w'=>
  (aaS s p n D K name st/\e= .returned .nilIface/\(∃m,m<=n/\CR S cb s w' (p+m) name (n-m) (l++cut s p m))/\ry w' kb base W H D K I (YW s p n K name st)/\Fr (Jn S cb base) w w')\/
  ((∃T a,e= .returned (.iface T (.pointer (some a)))/\dO S w' T a (¬aaS s p n D K name st))/\oC S cb w'/\Fr (Jn S cb base) w w'):=by
 have j:ah (aaS s p n D K name st↔(name=kT->GU s p n D K st.E.length st.jG)/\(name=CE->sF s p n D K st)):=Iff.rfl;obtain⟨Q,F⟩:∃Q:Prop,Q=aaS s p n D K name st:=⟨_,rfl⟩;rw[<-F]at j|-;clear F;have u:=yU S cb s w p n name l h;have z:kT≠CE:=by decide
 obtain⟨ST,k⟩:∃ST,ST=YW s p n K name st:=⟨_,rfl⟩;rw[<-k];have d:ah _:=k;clear k;by_cases f:name=kT
 ·have c:ah (ST=aao s p n st):=(by rw[d.out];unfold YW;rw[aC f]:_=_);have g:ah (Q↔GU s p n D K st.E.length st.jG):=(j.out.trans ⟨fun q=>q.1 f,fun q=>⟨fun _=>q,fun e=>absurd (f.symm.trans e) z⟩⟩:_↔_);have v:=DU S cb s w eb lb p n name l h hs kb base W H D K I st x hb hD hK y;have J:=H_;subst f;clear d;go_enter func154,ntmps154
  go_wp2_with fail
  refine u.mono ?_;rintro e G ⟨rfl,b⟩;have b:=b.symm;subst b;clear u;go_wp2_with fail
  refine v.mono ?_;clear v;rintro e w1 (⟨i,rfl,o,r,A⟩|⟨⟨T,a,rfl,i⟩,o,r⟩)
  ·go_wp2_with fail
   go_ret;rw[c.out];exact .inl ⟨g.out.2 i,rfl,⟨n,ag _,by rw[iW];exact o⟩,r,A⟩
  ·go_wp2_with fail
   go_ret;exact .inr ⟨⟨T,a,rfl,i.imp (fun i B=>i (g.out.1 B))⟩,o,r⟩
 have L:=uz f;rw[H_]at L;by_cases t:name=CE
 ·have c:ah (ST=Nu s p n K st):=(by rw[d.out];unfold YW;rw[au f,aC t]:_=_);have g:ah (Q↔sF s p n D K st):=(j.out.trans ⟨fun q=>q.2 t,fun q=>⟨fun e=>absurd e f,fun _=>q⟩⟩:_↔_);have v:=Jo S cb s w eb lb p n name l h hs kb base W H D K I st x hb hD hK;have J:=Ia;subst t;clear d f;go_enter func154,ntmps154
  go_wp2_with fail
  refine u.mono ?_;rintro e G ⟨rfl,b⟩;have b:=b.symm;subst b;clear u;go_wp2_with fail
  refine v.mono ?_;clear v;rintro e w1 (⟨i,rfl,o,r,A⟩|⟨⟨T,a,rfl,i⟩,o,r⟩)
  ·go_wp2_with fail
   go_ret;rw[c.out];exact .inl ⟨g.out.2 i,rfl,⟨n,ag _,by rw[iW];exact o⟩,r,A⟩
  ·go_wp2_with fail
   go_ret;exact .inr ⟨⟨T,a,rfl,i.imp (fun i B=>i (g.out.1 B))⟩,o,r⟩
 have M:=uz t;rw[Ia]at M;have c:ah (ST=st):=(by rw[d.out];unfold YW;rw[au f,au t]:_=_);have C:ah Q:=(j.out.2 ⟨fun e=>absurd e f,fun e=>absurd e t⟩:Q);clear d f t;go_enter func154,ntmps154
 go_wp2_with fail
 refine u.mono ?_;rintro e G ⟨rfl,b⟩;have b:=b.symm;subst b;clear u;go_wp2_with fail
 go_ret;rw[c.out];exact .inl ⟨C.out,rfl,⟨0,aU _,by rw[eP,zA];exact h⟩,x,Fr.refl _ _⟩
inductive o_(s:ByteArray)(D K:Nat):Nat->Cs->Pt->Cs->Prop
 |here {p:Nat} {st:Cs}:l_ oV s p->dQ s (p+4) 4=dV->¬(K=3/\st.E.length=0)->o_ s D K p st ⟨p+8,dV,aT s p,cut s (p+4) 4⟩ st
 |more {p:Nat} {st m_:Cs} {P:Pt}:l_ oV s p->dQ s (p+4) 4≠dV->aaS s (p+8) (aT s p) D K (dQ s (p+4) 4) st->jK s (p+8) (aT s p) (cut s (p+4) 4)->
   o_ s D K (p+8+aT s p+4) (YW s (p+8) (aT s p) K (dQ s (p+4) 4) st) P m_->o_ s D K p st P m_
theorem QJ{s:ByteArray}{p n m:Nat}{l:List UInt8}(h:m<=n):jK s (p+m) (n-m) (l++cut s p m)↔jK s p n l:=by
 unfold jK;have a:l++cut s p m++cut s (p+m) (n-m)=l++cut s p n:=by rw[bV,<-iG,show m+(n-m)=n by omega]
 rw[a,show p+m+(n-m)=p+n by omega]
theorem ry.whole{w:af}{kb base W H D K:Nat}{I:Bool}{st:Cs}(h:ry w kb base W H D K I st)(hK:K<=255):
 aF prog 153 #[.pointer (some ⟨kb,0,none⟩)] w fun e w'=>
  (¬(K=3/\st.E.length=0)/\e= .returned .nilIface/\w'=w)\/
  (∃a,e= .returned (.iface 142 (.pointer (some a)))/\(K=3/\st.E.length=0)/\aJ w.heap.size w w'):=by
 obtain⟨ev,cv,b,c,h3⟩:=h.at';exact XF w kb base W H D K I ev st.E st.jG cv st.C b hK (by have:=h.Di;omega)
theorem Lh{S:Src}{cb base:Nat}{w0 w w':af}(a:Fr (jP S cb) w0 w)(h:Fr (Jn S cb base) w w')(hb:w0.heap.size<=base):Fr (jP S cb) w0 w':=
 ⟨h.os.trans a.os,h.tape.trans a.tape,h.output.trans a.output,aK a.size h.size,fun k b hF=>(h.block k (bu b a.size) (fun e=>e.elim hF (fun e=>by omega))).trans (a.block k b hF)⟩
theorem EY(S:Src)(cb:Nat)(s:ByteArray)(w:af)(eb lb:bP)(p left:Nat)(name:ByteArray)(l:List UInt8)(h:CR S cb s w p name left l)(hs:jI w eb S.fb lb S.base)
 (W H D K:Nat) (I:Bool) (hD:jH D) (hK:K<=255) (b3:K=3->D<=8):
 aF prog 125 #[.pointer (some ⟨cb,0,none⟩),qX W H D K I] w fun e w'=>
  (∃(P:Pt) (st:Cs) (kb:Nat),o_ s D K p ⟨[],false,[]⟩ P st/\e= .returned (.tuple #[.pointer (some ⟨kb,0,none⟩),.nilIface])/\CR S cb s w' P.p P.name P.left P.l/\ry w' kb w.heap.size W H D K I st/\Fr (jP S cb) w w')\/
  ((∃v T a,e= .returned (.tuple #[.pointer v,.iface T (.pointer (some a))])/\dO S w' T a (∀P st,¬o_ s D K p ⟨[],false,[]⟩ P st))/\oC S cb w'/\Fr (jP S cb) w w'):=by
 have hM:=X_ (jP S cb);obtain⟨B,J⟩:∃B:Pt->Cs->Prop,B=o_ s D K p ⟨[],false,[]⟩:=⟨_,rfl⟩;rw[<-J];have U:ah (∀P st,B P st↔o_ s D K p ⟨[],false,[]⟩ P st):=(fun P st=>by rw[J]:∀P st,_);clear J;have b4:=h.e.lt.2;have C:∀k,jP S cb k->S.base<=k:=fun k e=>by
  rcases e with e|e
  ·exact h.ok.low k e
  ·have:=h.base;omega
 have V:ah _:=C;clear C;have X:∀k,k<w.heap.size->(w.alloc (.cells #[.int .i64 (W:Int),.int .i64 (H:Int),.int .i64 (D:Int),.int .u8 (K:Int),.bool I] 221)).heap[k]?=w.heap[k]?:=fun k Q=>aj _ _ k Q;have Y:=h.grow X;have Z:Fr (jP S cb) w (w.alloc (.cells #[.int .i64 (W:Int),.int .i64 (H:Int),.int .i64 (D:Int),.int .u8 (K:Int),.bool I] 221)):=(Fr.refl _ _).alloc _;have hN:=TR W H D K I (w.alloc (.cells #[.int .i64 (W:Int),.int .i64 (H:Int),.int .i64 (D:Int),.int .u8 (K:Int),.bool I] 221));unfold qX at hN|-;clear X h;go_enter func125,ntmps125
 go_wp2_with fail
 refine hN.mono ?_;clear hN;rintro e w1 ⟨kb,rfl,a0,r,E⟩;have a1:=Y.grow (fun k Q=>r.block k Q);have L:Fr (jP S cb) w w1:=Z.trans (Fr.kJ r);have b5:w.heap.size<=kb:=by simp at a0;omega
 have a2:ry w1 kb w.heap.size W H D K I ⟨[],false,[]⟩:=⟨⟨_,_,E _,fun _=>rfl,fun _=>rfl⟩,b5,L.size,aU _,fun _=>rfl⟩;clear Y Z a0 r E;go_wp2_with fail
 go_loopg [7] (s.size-p+1) (fun gk _ wr=> ∃(f g:Nat) (i:ByteArray) (l1:List UInt8) (o:Cs),s.size-f<gk/\(∀P st,B P st↔o_ s D K f o P st)/\CR S cb s wr f i g l1/\ry wr kb w.heap.size W H D K I o/\Fr (jP S cb) w wr)
 case atStart=>exact⟨p,left,name,l,_,by omega,U.out,a1,a2,L⟩
 case round=>
  clear a1 a2 L U;obtain⟨f,g,i,l1,o,hg,hA,hR,hC,hF⟩:=hrel;have R:ah _:=hA;clear hA;have hB:=KT S cb 151 #[] (.inl rfl) oV _ hM s wr f g i l1 hR trivial;have a3:ah _:=hR.e;have HC:ah _:=hC;have HF:ah _:=hF;clear hR hC hF;go_wp2_with fail
  refine hB.mono ?_;clear hB;rintro e w2 (⟨F,rfl,x,g2⟩|⟨⟨T,a,rfl,F⟩,x,g2⟩);rotate_left
  ·have M:dO S w2 T a (∀P st,¬B P st):=F.imp (fun F P st t=>by
    have:=(R.out P st).1 t;cases this with
    |here a b c=>exact F a
    |more a b c d e=>exact F a)
   clear F;go_wp2_with fail
   go_ret2;exact .inr ⟨⟨_,T,a,rfl,M⟩,x,Fr.trans HF.out g2⟩
  have HB:ah _:=F;have c5:f+8<=s.size:=x.le;have y:ry w2 kb w.heap.size W H D K I o:=ry.fr HC.out a3.out g2;have u:Fr (jP S cb) w w2:=Fr.trans HF.out g2;clear F g2 HC HF a3;have hT:=yU S cb s w2 _ _ _ _ x;obtain⟨nm,N⟩:∃nm,nm=dQ s (f+4) 4:=⟨_,rfl⟩;rw[<-N]at hT x;have j:ah _:=N;clear N;by_cases z:nm=dV
  ·have a4:=y.whole hK;have e1:=Ib;subst z;go_wp2_with fail
   refine hT.mono ?_;rintro e wz ⟨rfl,n⟩;have n:=n.symm;subst n;clear hT;go_wp2_with fail
   refine a4.mono ?_;clear a4;rintro e w3 (⟨q,rfl,hw⟩|⟨a,rfl,q,G⟩)
   ·have hw:=hw.symm;subst hw;have HQ:ah _:=q;clear q;go_wp2_with fail
    go_ret2;exact .inl ⟨_,_,kb,(R.out _ _).2 (.here HB.out j.out.symm HQ.out),rfl,x,y,u⟩
   ·have M:ah (∀P st,¬B P st):=(fun P st t=>by
     have:=(R.out P st).1 t;cases this with
     |here a b c=>exact c q
     |more a b c d e=>exact b j.out.symm:∀P st,_)
    clear q;go_wp2_with fail
    go_ret2;exact .inr ⟨⟨_,_,_,rfl,dO.ve M.out⟩,x.e.grow (fun k Q=>G.block k Q),u.trans (Fr.kJ G)⟩
  ·have d1:=uz z;rw[Ib]at d1;have A:ah (dQ s (f+4) 4≠dV):=(by rw[<-j.out];exact z:_≠_);clear z;have a5:jI w2 eb S.fb lb S.base:=hs.over (fun k Q=>u.block k (by omega) (fun e=>by have:S.base<=k:=V.out k e;omega));have a6:=Jt S cb s w2 eb lb _ _ nm _ x a5 kb w.heap.size W H D K I o y b4 hD hK b3;have a7:ah _:=u;clear a5 y u x;go_wp2_with fail
   refine hT.mono ?_;rintro e wz ⟨rfl,n⟩;have n:=n.symm;subst n;clear hT;go_wp2_with fail
   refine a6.mono ?_;clear a6;rintro e w3 (⟨q,rfl,⟨m,hm,G⟩,q2,q3⟩|⟨⟨T,a,rfl,q⟩,G,q2⟩);rotate_left
   ·have M:dO S w3 T a (∀P st,¬B P st):=q.imp (fun q P st t=>by
     have:=(R.out P st).1 t;cases this with
     |here a b c=>exact A.out b
     |more a b c d e=>exact q (by rw[j.out];exact c))
    clear q;go_wp2_with fail
    go_ret2;exact .inr ⟨⟨_,T,a,rfl,M⟩,G,Lh a7.out q2 (ag _)⟩
   have b6:ah _:=q;have a8:Fr (jP S cb) w w3:=Lh a7.out q3 (ag _);have a9:=xC S cb s w3 _ _ _ _ G;have b0:ah (jK s (f+8+m) (aT s f-m) (cut s (f+4) 4++cut s (f+8) m)↔jK s (f+8) (aT s f) (cut s (f+4) 4)):=(QJ hm:_↔_);have b7:ah _:=G.e;have b8:ah _:=q2;have b1:ah _:=a8;clear q q3 G q2 a8;go_wp2_with fail
   refine a9.mono ?_;clear a9;rintro e w4 (⟨O,rfl,r1,r2⟩|⟨⟨T,a,rfl,O⟩,r1,r2⟩);rotate_left
   ·have M:dO S w4 T a (∀P st,¬B P st):=O.imp (fun O P st t=>by
     have:=(R.out P st).1 t;cases this with
     |here a b c=>exact A.out b
     |more a b c d e=>exact O (b0.out.2 d))
    clear O;go_wp2_with fail
    go_ret2;exact .inr ⟨⟨_,T,a,rfl,M⟩,r1,Fr.trans b1.out r2⟩
   have c4:f+8+m+(aT s f-m)+4<=s.size:=r1.le;have b9:ah _:=O;have c3:ah _:=r1;have b2:ah _:=r2;clear O r1 r2;go_wp2_with fail
   go_roundg (s.size-(f+8+aT s f+4)+1)
   case measure=>omega
   case rel=>
    refine⟨f+8+aT s f+4,0,nm,cut s (f+4) 4++cut s (f+8) m++cut s (f+8+m) (aT s f-m),YW s (f+8) (aT s f) K nm o,by omega,fun P st=> ?_,?_,ry.fr b8.out b7.out b2.out,Fr.trans b1.out b2.out⟩
    ·refine(R.out P st).trans ⟨fun t=> ?_,fun t=> ?_⟩
     ·cases t with
      |here a b c=>exact absurd b A.out
      |more a b c d e=>rw[j.out];exact e
     ·exact .more HB.out A.out (by rw[<-j.out];exact b6.out) (b0.out.1 b9.out) (by rw[<-j.out];exact t)
    ·have e1:=c3.out;rw[show f+8+m+(aT s f-m)+4=f+8+aT s f+4 by omega]at e1;exact e1
end Pr
namespace Pr
open Go.RowKit Rf
theorem QU(L:List Nat):vz L=1↔jD L=32768:=by
 unfold vz;constructor
 ·intro h;by_cases a:wE L=0
  ·rw[aC a]at h;omega
  ·rw[au a]at h;by_cases b:jD L=32768
   ·exact b
   ·rw[au b]at h;split at h<;>omega
 ·intro h;have a:wE L≠0:=fun e=>by rw[sH L e]at h;omega
  rw[au a,aC h]
theorem afH(n k:Nat):(List.replicate n 0).getD k 0=0:=by rw[ak,nU];split<;>rfl
theorem Uu(k:Nat):order.getD k 0<19:=Nat.lt_succ_of_le (gU order 18 (by decide) k)
theorem aaZ(L:List Nat)(i x k:Nat)(a:k<L.length):(L.set i x).getD k 0=EU (fun k=>L.getD k 0) i x k:=by
 unfold EU;simp only[List.getD_eq_getElem?_getD,List.getElem?_set];by_cases e:k=i
 ·subst e;simp[a]
 ·rw[au (fun h=>e h.symm),au e]
theorem aa0(tb:Src)(rb:Nat)(s:ByteArray)(pos n:Nat)(w:af)(h:Rd w tb rb s pos)(y:jk w)(hs:s.size<=140737488354000)(hn:n<=19)(z:¬tb.F 6)(A:6≠rb)(B:6<w.heap.size):
 aF prog 202 #[.pointer (some ⟨rb,0,none⟩),.int .i64 (n:Int)] w fun e w'=>
  (∃k p,NI s n ⟨pos,false⟩=((NI s n ⟨pos,false⟩).1,⟨p,false⟩)/\jD (NI s n ⟨pos,false⟩).1=32768/\e= .returned (.tuple #[.pointer (some ⟨k,0,none⟩),.nilIface])/\Gs w' k (NI s n ⟨pos,false⟩).1/\Rd w' tb rb s p/\RF tb rb w w')\/
  ((∃T a,e= .returned (.tuple #[.pointer none,.iface T (.pointer (some a))])/\dO tb w' T a ((yu (bJ (NI s n ⟨pos,false⟩).1).nZ (NI s n ⟨pos,false⟩).2).dA=true))/\qc w' tb rb s/\RF tb rb w w'):=by
 have P:(Instr.makeSlice 45 (.int .i64 19) (.int .i64 19)).run prog w= .ok (.slice (some ⟨w.heap.size,0,none⟩) 19 19) (w.alloc (.cells (madeCells #[.int .u8 0] 19) 5)):=A_ w 19 (by omega);have C:=Ba w 19 _ rfl;have b:=h.new (ag w.heap.size);have Q:ah (NI s n ⟨pos,false⟩=lX s n 0 (List.replicate 19 0) ⟨pos,false⟩):=rfl;have i:=aaU s n ⟨pos,false⟩;generalize NI s n ⟨pos,false⟩=M at*;go_enter func202,ntmps202
 go_wp2_with fail
 go_loopw [12] (fun R wr=> ∃(j p:Nat) (L:List Nat),j<=n/\R= .int .i64 (j:Int)/\M=lX s (n-j) j L ⟨p,false⟩/\L.length=19/\uP wr w.heap.size 19 (fun k=>L.getD k 0)/\Rd wr tb rb s p/\RF tb rb w wr) (fun R _=>n-(aX R).toNat)
 case atStart=>refine⟨0,pos,List.replicate 19 0,aU _,rfl,Q.out,by simp,C.congr (fun k D=> ?_),h.alloc _,(RF.refl _ _ w).alloc _⟩;exact(afH 19 k).symm
 case round=>
  clear P C;obtain⟨j,p,L,hj,rfl,E,N,O,l,hF⟩:=hrel;have S:ah _:=E;clear E;have m:jk wr:=y.over (hF.block _ B z A);by_cases Z:j<n
  ·have H1:ah (lX s (n-j) j L ⟨p,false⟩=lX s (n-(j+1)) (j+1) (L.set (order.getD j 0) (bI s 3 ⟨p,false⟩).1) (bI s 3 ⟨p,false⟩).2):=(by rw[show n-j=(n-(j+1))+1 by omega];rfl:_=_);go_wp2_with fail
   refine(fM tb rb s p 3 _ l hs (by omega)).mono ?_;rintro e w2 (⟨G,a2,rfl,U,H⟩|⟨⟨T,a,rfl,G⟩,U,H⟩)
   ·have N1:ah (bI s 3 ⟨p,false⟩=(bH s p 3,⟨p+3,false⟩)):=jc s 3 p a2;have a0:bH s p 3<8:=fQ s p 3;have I:uP w2 w.heap.size 19 (fun k=>L.getD k 0):=O.over (H.block _ O.lt b.2.1 b.2.2);have o:jk w2:=m.over (H.block _ (bu B hF.size) z A);have ho:=o j (by omega);have q:=Uu j;generalize bH s p 3=x at*;obtain⟨r,t⟩:∃r,r=order.getD j 0:=⟨_,rfl⟩;rw[<-t]at ho q;have HO:ah (r=order.getD j 0):=t;clear t;obtain⟨a5,a6⟩:=I.cn r q;have V:=I.set r x q (x:Int) rfl;go_wp2_with fail
    go_roundw
    case rel=>
     refine⟨j+1,p+3,L.set r x,by omega,by go_num,?_,by simpa using N,V.congr (fun k D=> ?_),U.eF _ _ _ b.1 b.2.1 b.2.2,(hF.trans H).eF _ _ (ag _) _⟩
     ·rw[S.out,H1.out,N1.out,<-HO.out]
     ·rw[aaZ L r x k (by omega)]
    case measure=>simp[aX];omega
   ·have HB:dO tb w2 T a ((yu (bJ M.1).nZ M.2).dA=true):=G.imp (fun G=>Lm _ _ (by rw[S.out,H1.out];exact EN s _ _ _ _ G));clear G;go_wp2_with fail
    go_ret2;exact .inr ⟨⟨T,a,rfl,HB⟩,U,hF.trans H⟩
  ·have c:ah (M=(L,⟨p,false⟩)):=(by rw[S.out,show n-j=0 by omega];rfl:_=_);have u:∀x∈L,x<=15:=by have:=i;rw[c.out]at this;exact this
   have J:kM wr w.heap.size 0 L:=O.bytes L N (fun k _=>rfl);have f:=Cc w.heap.size 0 19 L wr J (by omega) u;rw[N]at f;have W:=O.lt;go_wp2_with fail
   refine f.mono ?_;rintro e w2 ⟨rfl,hw⟩;have hw:=hw.symm;subst hw;by_cases d:vz L=1
   ·have g:=Z_ w.heap.size 0 19 L wr J W (by omega) u;rw[N]at g;have d1:((vz L:Int)==1)=true:=by rw[d];rfl
    have X:ah (jD L=32768):=(QU L).1 d;rw[d];go_wp2_with fail
    refine g.mono ?_;rintro e w3 ⟨⟨k,rfl,g1,g2⟩,v⟩;have K:Rd w3 tb rb s p:=l.grow (fun k D=>v.block k D);have Y:RF tb rb w w3:=hF.trans ⟨v.os,v.tape,v.output,v.size,fun k D _ _=>v.block k D⟩;go_wp2_with fail
    go_ret2;exact .inl ⟨k,p,by rw[c.out],by rw[c.out];exact X.out,rfl,by rw[c.out];exact g1,K,Y⟩
   ·have d1:((vz L:Int)==1)=false:=by rw[ax];omega
    have X:ah (¬jD L=32768):=(fun e=>d ((QU L).2 e):¬_);go_wp2_with fail
    refine(dJ _ _).mono ?_;rintro e w3 ⟨rfl,rfl⟩;go_wp2_with fail
    go_ret2;refine .inr ⟨⟨_,_,rfl,dO.ve ?_⟩,qc.Ii l _,hF.alloc _⟩;rw[c.out];dsimp only;unfold yu;rw[uh L u,au X.out]
def VZ(r:(Nat×Nat×bZ) ⊕ bZ):Prop:=match r with
 | .inl (_,_,st)=>st.dA=true
 | .inr st=>st.dA=true
theorem adf(tb:Src)(rb:Nat)(s:ByteArray)(pos y g cap:Nat)(L:List Nat)(w:af)(h:Rd w tb rb s pos)(hs:s.size<=140737488354000)(I:y<=18)(J:L.length<=400)(hx:∀x∈L,x<=15)
 (b:0<L.length->w.cell? ⟨g,L.length-1,none⟩=some (.int .u8 ((L.getD (L.length-1) 0:Nat):Int))):
 aF prog 232 #[.pointer (some ⟨rb,0,none⟩),.int .i64 (y:Int),.slice (some ⟨g,0,none⟩) L.length cap] w fun e w'=>
  (∃v k p,jb s L y ⟨pos,false⟩= .inl (v,k,⟨p,false⟩)/\v<=15/\1<=k/\k<=200/\e= .returned (.tuple #[.int .u8 (v:Int),.int .i64 (k:Int),.nilIface])/\Rd w' tb rb s p/\RF tb rb w w')\/
  ((∃x n T a,e= .returned (.tuple #[x,.int .i64 n,.iface T (.pointer (some a))])/\dO tb w' T a (VZ (jb s L y ⟨pos,false⟩)))/\qc w' tb rb s/\RF tb rb w w'):=by
 by_cases l:y=16
 ·subst l;by_cases z:L.length=0
  ·have C:((L.length:Int)==0)=true:=by rw[iV];omega
   have d:ah (VZ (jb s L 16 ⟨pos,false⟩)):=(by unfold jb;rw[aC rfl,aC z];rfl:VZ _);clear b;generalize L.length=n at*;subst z;go_enter func232,ntmps232
   go_wp2_with fail
   refine(dJ _ _).mono ?_;rintro e w1 ⟨rfl,rfl⟩;go_wp2_with fail
   go_ret3
   exact .inr ⟨⟨_,_,_,_,rfl,dO.ve d.out⟩,qc.Ii h _,(RF.refl _ _ w).alloc _⟩
  ·have D:=b (by omega);have E:L.getD (L.length-1) 0<=15:=gU L 15 hx _;have A:(L.length:Int)-1=((L.length-1:Nat):Int):=by omega
   have C:((L.length:Int)==0)=false:=by rw[ax];omega
   have d:ah (jb s L 16 ⟨pos,false⟩= .inl (L.getD (L.length-1) 0,3+(bI s 2 ⟨pos,false⟩).1,(bI s 2 ⟨pos,false⟩).2)):=(by unfold jb;rw[aC rfl,au z]:_=_);have m:(((L.length-1:Nat):Int))<(L.length:Int):=by omega
   clear b;generalize L.getD (L.length-1) 0=v at*;have hp:1<=L.length:=by omega
   obtain⟨B,j⟩:∃B,B=L.length-1:=⟨_,rfl⟩;rw[<-j]at D A m;clear j;go_enter func232,ntmps232
   go_wp2_with fail
   refine(fM tb rb s pos 2 _ h hs (by omega)).mono ?_;rintro e w1 (⟨c,o,rfl,f,i⟩|⟨⟨T,a,rfl,c⟩,f,i⟩)
   ·have q:ah (bI s 2 ⟨pos,false⟩=(bH s pos 2,⟨pos+2,false⟩)):=jc s 2 pos o;have r:bH s pos 2<4:=fQ s pos 2;generalize bH s pos 2=x at*;go_wp2_with fail
    go_ret3
    refine .inl ⟨v,3+x,pos+2,by rw[d.out,q.out],E,by omega,by omega,?_,f,i⟩;rw[show((3+x:Nat):Int)=(x:Int)+3 by omega];rfl
   ·go_wp2_with fail
    go_ret3
    exact .inr ⟨⟨_,_,T,a,rfl,c.imp (fun c=>by rw[d.out];exact c)⟩,f,i⟩
 ·have F:((y:Int)==16)=false:=by rw[ax];omega
  clear b;by_cases t:y=17
  ·subst t;have d:ah (jb s L 17 ⟨pos,false⟩= .inl (0,3+(bI s 3 ⟨pos,false⟩).1,(bI s 3 ⟨pos,false⟩).2)):=(by unfold jb;rw[au (by omega),aC rfl]:_=_);go_enter func232,ntmps232
   go_wp2_with fail
   refine(fM tb rb s pos 3 _ h hs (by omega)).mono ?_;rintro e w1 (⟨c,o,rfl,f,i⟩|⟨⟨T,a,rfl,c⟩,f,i⟩)
   ·have q:ah (bI s 3 ⟨pos,false⟩=(bH s pos 3,⟨pos+3,false⟩)):=jc s 3 pos o;have r:bH s pos 3<8:=fQ s pos 3;generalize bH s pos 3=x at*;go_wp2_with fail
    go_ret3
    refine .inl ⟨0,3+x,pos+3,by rw[d.out,q.out],by omega,by omega,by omega,?_,f,i⟩;rw[show((3+x:Nat):Int)=(x:Int)+3 by omega];rfl
   ·go_wp2_with fail
    go_ret3
    exact .inr ⟨⟨_,_,T,a,rfl,c.imp (fun c=>by rw[d.out];exact c)⟩,f,i⟩
  ·have G:((y:Int)==17)=false:=by rw[ax];omega
   by_cases u:y=18
   ·subst u;have d:ah (jb s L 18 ⟨pos,false⟩= .inl (0,11+(bI s 7 ⟨pos,false⟩).1,(bI s 7 ⟨pos,false⟩).2)):=(by unfold jb;rw[au (by omega),au (by omega),aC rfl]:_=_);go_enter func232,ntmps232
    go_wp2_with fail
    refine(fM tb rb s pos 7 _ h hs (by omega)).mono ?_;rintro e w1 (⟨c,o,rfl,f,i⟩|⟨⟨T,a,rfl,c⟩,f,i⟩)
    ·have q:ah (bI s 7 ⟨pos,false⟩=(bH s pos 7,⟨pos+7,false⟩)):=jc s 7 pos o;have r:bH s pos 7<128:=fQ s pos 7;generalize bH s pos 7=x at*;go_wp2_with fail
     go_ret3
     refine .inl ⟨0,11+x,pos+7,by rw[d.out,q.out],by omega,by omega,by omega,?_,f,i⟩;rw[show((11+x:Nat):Int)=(x:Int)+11 by omega];rfl
    ·go_wp2_with fail
     go_ret3
     exact .inr ⟨⟨_,_,T,a,rfl,c.imp (fun c=>by rw[d.out];exact c)⟩,f,i⟩
   ·have H:((y:Int)==18)=false:=by rw[ax];omega
    have d:ah (jb s L y ⟨pos,false⟩= .inl (y,1,⟨pos,false⟩)):=(by unfold jb;rw[au l,au t,au u]:_=_);go_enter func232,ntmps232
    go_wp2_with fail
    go_ret3
    exact .inl ⟨y,1,pos,d.out,by omega,by omega,by omega,rfl,h,RF.refl _ _ _⟩
def kK(L:List Nat):List ay:=L.map fun x=> .int .u8 ((x:Nat):Int)
theorem Jv(L:List Nat)(x:Nat):kK (L++[x])=kK L++[.int .u8 ((x:Nat):Int)]:=by simp[kK]
theorem zi(s:ByteArray)(N:Nat)(cs:List (Nat×List UInt8))(f:Nat)(L:List Nat)(p:Nat)(h:L.length<N)(hb:VZ (jb s L (cu s cs ⟨p,false⟩).1 (cu s cs ⟨p,false⟩).2)):(gV s N cs (f+1) L ⟨p,false⟩).2.dA=true:=by
 cases e:jb s L (cu s cs ⟨p,false⟩).1 (cu s cs ⟨p,false⟩).2 with
 |inl r=>obtain⟨v,k,m_⟩:=r;rw[e]at hb;rw[F_ s N cs f L _ h rfl v k m_ e,zC _ _ _ _ _ _ hb];exact hb
 |inr m_=>rw[e]at hb;rw[Gf s N cs f L _ h rfl m_ e];exact hb
theorem Jw(s:ByteArray)(N:Nat)(cs:List (Nat×List UInt8))(f:Nat)(L:List Nat)(p:Nat)(h:L.length<N)(hb:(cu s cs ⟨p,false⟩).2.dA=true):(gV s N cs (f+1) L ⟨p,false⟩).2.dA=true:=by apply zi s N cs f L p h;rw[Lj s cs _ hb];unfold jb;rw[au (by omega),au (by omega),au (by omega)];exact hb
theorem aa1{tb:Src}{rb g:Nat}{w wr w2:af}{o:Obj}(a:RF tb rb w wr)(b:(wr.alloc o).grownBy w2 (some g))(h:w.heap.size<=g):RF tb rb w w2:=
 ⟨b.os.trans a.os,b.tape.trans a.tape,b.output.trans a.output,by have:=b.size;have:=a.size;simp at*;omega,fun k c d f=>(b.block k (by have:=a.size;simp;omega) (by intro e;injection e with e;omega)).trans ((alloc_old (by have:=a.size;omega)).trans (a.block k c d f))⟩
theorem aa2{tb:Src}{rb g:Nat}{wr w2:af}{o:Obj}{s:ByteArray}{p:Nat}(h:Rd wr tb rb s p)(c:(wr.alloc o).grownBy w2 (some g))(j:tb.base<=g)(f:¬tb.F g)(i:g≠rb):Rd w2 tb rb s p:=by
 have d:=h.Jf;refine h.over (fun k a=> ?_) ((c.block _ (by simp;omega) (by intro e;injection e with e;exact i e.symm)).trans (alloc_old d.2.1));have b:=d.1 k a;refine(c.block k (by simp;omega) (fun e=> ?_)).trans (alloc_old b);injection e with e
 subst e;rcases a with a|a
 ·exact f a
 ·omega
theorem aa3(tb:Src)(rb kt:Nat)(s:ByteArray)(pos N:Nat)(m:List Nat)(w:af)(h:Rd w tb rb s pos)(hT:Gs w kt m)(a7:m.length=19)(hx:∀x∈m,x<=15)(hK:kN m 16<=32768)(hs:s.size<=140737488354000)(hN:N<=320):
 aF prog 203 #[.pointer (some ⟨rb,0,none⟩),.pointer (some ⟨kt,0,none⟩),.int .i64 (N:Int)] w fun e w'=>
  (∃L p g cap,gV s N (bJ m).cs (N+1) [] ⟨pos,false⟩=(L,⟨p,false⟩)/\L.length=N/\(∀x∈L,x<=15)/\e= .returned (.tuple #[.slice (some ⟨g,0,none⟩) N cap,.nilIface])/\w'.ownsRow w.heap.size 5 1 (.slice (some ⟨g,0,none⟩) N cap) N (kK L)/\Rd w' tb rb s p/\RF tb rb w w')\/
  ((∃T a,e= .returned (.tuple #[.slice none 0 0,.iface T (.pointer (some a))])/\dO tb w' T a ((gV s N (bJ m).cs (N+1) [] ⟨pos,false⟩).2.dA=true\/(gV s N (bJ m).cs (N+1) [] ⟨pos,false⟩).1.length≠N))/\qc w' tb rb s/\RF tb rb w w'):=by
 obtain⟨i0,hi,J,K,M⟩:=info_parts PN;have a0:(Instr.makeSlice 45 (.int .i64 0) (.int .i64 (N:Int))).run prog w= .ok (.slice (some ⟨w.heap.size,0,none⟩) 0 N) (w.alloc (.cells (madeCells #[.int .u8 0] N) 5)):=by have h:=run_make (P:=prog) w 45 5 i0 _ underlying45 hi J .i64 .i64 0 (N:Int) (by omega) (by omega) (by rw[M];omega) (by omega);rw[h,K];simp[Value.cells]
 clear hi J K M;have a8:=h.Jf;have O:(w.alloc (.cells (madeCells #[.int .u8 0] N) 5)).ownsRow w.heap.size 5 1 (.slice (some ⟨w.heap.size,0,none⟩) 0 N) 0 []:=⟨rfl,.inr ⟨w.heap.size,N,_,rfl,ag _,jY w _ _ rfl,aU _,by unfold maxLen;omega,by rw[og];omega,by simp⟩⟩;obtain⟨R,B⟩:∃R,R=gV s N (bJ m).cs (N+1) [] ⟨pos,false⟩:=⟨_,rfl⟩;rw[<-B];have a1:ah _:=B;clear B;go_enter func203,ntmps203
 go_wp2_with fail
 go_loopw [8] (fun v wr=> ∃(f p g cap:Nat) (L:List Nat),R=gV s N (bJ m).cs f L ⟨p,false⟩/\N-L.length<f/\L.length<=N/\(∀x∈L,x<=15)/\v= .slice (some ⟨g,0,none⟩) L.length cap/\wr.ownsRow w.heap.size 5 1 v L.length (kK L)/\Rd wr tb rb s p/\RF tb rb w wr) (fun v _=>match v with| .slice _ n _=>N-n|_=>0)
 case atStart=>exact⟨N+1,pos,w.heap.size,N,[],a1.out,by simp,aU _,by simp,rfl,O,h.alloc _,(RF.refl _ _ w).alloc _⟩
 case round=>
  clear a0 O;obtain⟨f,p,g,cap,L,hR,hf,a9,C,rfl,j,Q,hF⟩:=hrel;have HR:ah _:=hR;clear hR;have D:=j.lt g rfl;have u:=h.new D.1;have a2:Gs wr kt m:=hT.over h hF;by_cases l:L.length<N
  ·obtain⟨S,a3⟩:∃S,f=S+1:=⟨f-1,by omega⟩;subst a3;go_wp2_with fail
   refine(Xe kt tb rb m s p _ a2 Q hs (by omega) hx hK).mono ?_;rintro e w1 (⟨y,p1,z,rfl,k2,I⟩|⟨⟨T,a,rfl,z⟩,k2,I⟩);rotate_left
   ·have HW:dO tb w1 T a (R.2.dA=true\/R.1.length≠N):=z.imp (fun z=> .inl (by rw[HR.out];exact Jw s N _ _ L p l z));clear z;go_wp2_with fail
    go_ret2;exact .inr ⟨⟨T,a,rfl,HW⟩,k2,hF.trans I⟩
   have hy:y<19:=by have:=OZ s m ⟨p,false⟩ (by omega);rw[z]at this;omega
   have K1:ah _:=z;have b:w1.ownsRow w.heap.size 5 1 (.slice (some ⟨g,0,none⟩) L.length cap) L.length (kK L):=gW j (fun k U=>by simp[Value.ownBlock]at U;subst U;exact I.block _ D.2 u.2.1 u.2.2)
   have c:0<L.length->w1.cell? ⟨g,L.length-1,none⟩=some (.int .u8 ((L.getD (L.length-1) 0:Nat):Int)):=fun h0=>by rw[b.cellAt (L.length-1) (by omega)];simp[kK,List.getD_eq_getElem?_getD,List.getElem?_eq_getElem (show L.length-1<L.length by omega)]
   clear z;go_wp2_with fail
   refine(adf tb rb s p1 y g cap L _ k2 hs (by omega) (by omega) C c).mono ?_;rintro e w2 (⟨v,k,p2,E,r2,r3,r4,rfl,r5,r6⟩|⟨⟨x,n,T,a,rfl,E⟩,r3,r4⟩);rotate_left
   ·have HW:dO tb w2 T a (R.2.dA=true\/R.1.length≠N):=E.imp (fun E=> .inl (by
     rw[HR.out];refine zi s N _ _ L p l ?_;rw[K1.out];exact E))
    clear c E;go_wp2_with fail
    go_ret2;exact .inr ⟨⟨T,a,rfl,HW⟩,r3,(hF.trans I).trans r4⟩
   have V:ah (R=gV s N (bJ m).cs S (L++List.replicate k v) ⟨p2,false⟩):=(by rw[HR.out];exact F_ s N _ S L _ l rfl v k ⟨p2,false⟩ (by rw[K1.out];exact E):_=_)
   have o:w2.ownsRow w.heap.size 5 1 (.slice (some ⟨g,0,none⟩) L.length cap) L.length (kK L):=gW b (fun k U=>by simp[Value.ownBlock]at U;subst U;exact r6.block _ (bu D.2 I.size) u.2.1 u.2.2)
   have F:=(hF.trans I).trans r6;clear c E j b;have b0:(L.length:Int)<=400:=by omega
   have b1:(k:Int)<=200:=by omega
   by_cases b2:k<=N-L.length;rotate_left
   ·have d1:decide ((N:Int)-(L.length:Int)<(k:Int))=true:=aZ (by omega);have HB:ah (R.1.length≠N):=(by
     rw[V.out,AQ s N _ _ _ _ (by simp;omega)];simp;omega:_≠_)
    go_wp2_with fail
    refine(dJ _ _).mono ?_;rintro e w3 ⟨rfl,rfl⟩;go_wp2_with fail
    go_ret2;exact .inr ⟨⟨_,_,rfl,dO.ve (.inr HB.out)⟩,qc.Ii r5 _,F.alloc _⟩
   have d1:decide ((N:Int)-(L.length:Int)<(k:Int))=false:=aS (by omega);go_wp2_with fail
   go_loopw [8,47] (fun vv iv wx=> ∃(i g cap:Nat),i<=k/\iv= .int .i64 (i:Int)/\vv= .slice (some ⟨g,0,none⟩) (L.length+i) cap/\wx.ownsRow w.heap.size 5 1 vv (L.length+i) (kK (L++List.replicate i v))/\Rd wx tb rb s p2/\RF tb rb w wx) (fun _ iv _=>k-(aX iv).toNat)
   case atStart=>exact⟨0,g,cap,aU _,rfl,rfl,by simpa using o,r5,F⟩
   case round=>
    clear o F r5;obtain⟨i,g3,W,hi,rfl,rfl,d,A,G⟩:=hrel;have X:=d.lt g3 rfl;have q:=h.new X.1;by_cases b3:i<k
    ·have a4:L.length+i<=100000000:=by omega
     have a5:w.heap.size<=wr.heap.size:=G.size;have a6:ah (kK (L++List.replicate i v)++[.int .u8 ((v:Nat):Int)]=kK (L++List.replicate (i+1) v)):=(by rw[<-Jv,bV,List.replicate_succ']:_=_)
     go_wp2_with (first
      |(at_builtin;refine xG rfl _ _ rfl w.heap.size _ (L.length+i) (kK (L++List.replicate i v)) ((v:Nat):Int) d rfl rfl a4 a5 ?_;go_must (intro v' w4 r hg hw;obtain⟨g',Y,rfl⟩:=kW.kX r))
      |go_in)
     go_roundw
     case rel=>refine⟨i+1,g',Y,by omega,by go_num,rfl,?_,aa2 (g:=g3) A hg q.1 q.2.1 q.2.2,aa1 (g:=g3) G hg X.1⟩;rw[<-a6.out];exact r
     case measure=>simp[aX];omega
    ·have Z:i=k:=by omega
     subst Z;have hlen:(L++List.replicate i v).length=L.length+i:=by simp
     go_wp2_with fail
     go_roundw
     case rel=>
      refine⟨S,p2,g3,W,L++List.replicate i v,V.out,by omega,by omega,?_,by rw[hlen],by rw[hlen];exact d,A,G⟩;intro x t;rcases List.mem_append.1 t with t|t
      ·exact C x t
      ·rw[gX t];exact r2
     case measure=>simp;omega
  ·have H:L.length=N:=by omega
   have HB:ah (R=(L,⟨p,false⟩)):=(by rw[HR.out];exact AQ s N _ _ L _ l:_=_);go_wp2_with fail
   go_ret2;exact .inl ⟨L,p,g,cap,HB.out,H,C,by rw[<-H];rfl,by rw[<-H];exact j,Q,hF⟩
end Pr
namespace Rf
theorem Ij(x:Nat)(L:List Nat):wE (x::L)=(if 0<x then 1 else 0)+wE L:=by
 unfold wE;by_cases h:0<x
 ·simp[h];omega
 ·simp[h]
theorem Ik(x:Nat)(L:List Nat):jD (x::L)=(if 0<x then pw (15-x)else 0)+jD L:=by unfold jD;rw[qZ,List.sum_cons]
theorem Jy(L:List Nat)(h:jD L=0):wE L=0:=by
 induction L with
 |nil=>rfl
 |cons x L a=>
  rw[Ik]at h;have hx:¬0<x:=by intro hx;rw[aC hx]at h;have:=LQ (15-x);omega
  rw[au hx]at h;rw[Ij,au hx,a (by omega)]
theorem V_(L:List Nat):∀i,L.getD i 0≠0->0<wE L:=by
 induction L with
 |nil=>intro i h;simp at h
 |cons x L a=>
  intro i h;rw[Ij];cases i with
  |zero=>simp at h;rw[aC (by omega)];omega
  |succ i=>have:=a i (by simpa using h);omega
theorem QV(L:List Nat):∀i,wE L=1->L.getD i 0≠0->jD L=pw (15-L.getD i 0):=by
 induction L with
 |nil=>intro i h;cases h
 |cons x L b=>
  intro i h a;rw[Ij]at h;rw[Ik];cases i with
  |zero=>simp at a;rw[aC (by omega)]at h|-;rw[sH L (by omega)];simp
  |succ i=>
   have h3:L.getD i 0≠0:=by simpa using a
   have c:=V_ L i h3;have hx:¬0<x:=by intro hx;rw[aC hx]at h;omega
   rw[au hx]at h|-;have:=b i (by omega) h3;simp only[List.getD_cons_succ];omega
theorem afl(x:Nat)(b:x≠0)(h:x<=15)(e:pw (15-x)=16384):x=1:=by
 by_cases a:x=1
 ·exact a
 ·have c:pw (15-x)<=pw 13:=uC _ _ (by omega);have h3:pw 13=8192:=rfl;omega
end Rf
namespace Pr
open Go.RowKit Rf
theorem NK(L:List Nat):vz L<=3:=by
 unfold vz;split
 ·omega
 ·split
  ·omega
  ·split<;>omega
def Yj(A B:List Nat):Prop:=(vz A=1\/vz A=2)/\A.getD 256 0≠0/\vz B≠0
theorem Yk(a:Nat)(L:List Nat)(s:257<=a)(t:a<=L.length)(hx:∀x∈L,x<=15):rO a L=false↔Yj (L.take a) (L.drop a):=by
 have f:∀x∈L.take a,x<=15:=fun x h=>hx x (List.mem_of_mem_take h);have o:∀x∈L.drop a,x<=15:=fun x h=>hx x (List.mem_of_mem_drop h);have d:L.getD 256 0=(L.take a).getD 256 0:=by rw[ak,ak,dU (by omega)]
 unfold rO Yj ad2 ad3 sD;rw[uh _ f,uh _ o,d];generalize g:L.take a=A at*;generalize i:L.drop a=B at*;have e:A.getD 256 0<=15:=gU A 15 f 256;have u:A.getD 256 0≠0->wE A=1->jD A=16384->A.getD 256 0=1:=fun b c h3=>by have:=QV A 256 c b;exact afl _ b e (by omega)
 have p:wE A=0->A.getD 256 0=0:=fun h=>by
  by_cases q:A.getD 256 0=0
  ·exact q
  ·have:=V_ A 256 q;omega
 have r:wE B=0↔jD B=0:=⟨sH B,Jy B⟩;unfold vz;generalize A.getD 256 0=x at*;generalize wE A=j at*;generalize jD A=k at*;generalize wE B=cb at*;generalize jD B=l at*;clear g i f o d hx t s;simp only[Bool.or_eq_false_iff,Bool.and_eq_false_iff,beq_eq_false_iff_ne,bne_eq_false_iff_eq,Bool.not_eq_false',Bool.and_eq_true,beq_iff_eq,Bool.or_eq_true,ne_eq];constructor
 ·rintro⟨⟨b,c⟩,h3⟩;refine⟨?_,b,?_⟩
  ·by_cases c0:j=0
   ·exact absurd (p c0) b
   ·rw[au c0];by_cases c1:k=32768
    ·rw[aC c1];exact .inl rfl
    ·rw[au c1];rcases c with c|⟨⟨m,_⟩,n⟩
     ·exact absurd c c1
     ·rw[aC ⟨n,m⟩];exact .inr rfl
  ·by_cases c0:cb=0
   ·rw[aC c0];omega
   ·rw[au c0];by_cases c1:l=32768
    ·rw[aC c1];omega
    ·rw[au c1];rcases h3 with h3|h3|⟨m,n⟩
     ·exact absurd h3 c1
     ·exact absurd (r.2 h3) c0
     ·rw[aC ⟨n,m⟩];omega
 ·rintro⟨b,c,h3⟩;refine⟨⟨c,?_⟩,?_⟩
  ·by_cases c0:j=0
   ·exact absurd (p c0) c
   ·rw[au c0]at b;by_cases c1:k=32768
    ·exact .inl c1
    ·rw[au c1]at b;by_cases c2:j=1/\k=16384
     ·exact .inr ⟨⟨c2.2,u c c2.1 c2.2⟩,c2.1⟩
     ·rw[au c2]at b;omega
  ·by_cases c0:cb=0
   ·exact .inr (.inl (r.1 c0))
   ·rw[au c0]at h3;by_cases c1:l=32768
    ·exact .inl c1
    ·rw[au c1]at h3;by_cases c2:cb=1/\l=16384
     ·exact .inr (.inr ⟨c2.2,c2.1⟩)
     ·rw[au c2]at h3;omega
theorem We(L:List Nat)(hx:∀x∈L,x<=15)(h:vz L≠0):kN L 16<=32768:=by
 rw[Cb L hx];unfold vz at h;by_cases c0:wE L=0
 ·rw[sH L c0];omega
 ·rw[au c0]at h;by_cases c1:jD L=32768
  ·omega
  ·rw[au c1]at h;by_cases c2:wE L=1/\jD L=16384
   ·omega
   ·rw[au c2]at h;omega
theorem aa4(b o cap f g a:Nat)(A B:List Nat)(w:af)(m:kM w b o A)(h:A.length<=400)(n:257<=A.length)(i:∀x∈A,x<=15)(p:kM w f g B)(j:B.length<=400)(k:∀x∈B,x<=15)(l:Yj A B):
 aF prog 204 #[.slice (some ⟨b,o,none⟩) A.length cap,.slice (some ⟨f,g,none⟩) B.length a] w fun e w'=>e= .returned .nilIface/\w'=w:=by
 obtain⟨q,s,h3⟩:=l;have t:=m 256 (by omega);have r:=NK B;have c:=Cc b o cap A w m h i;have d:=Cc f g a B w p j k;generalize A.getD 256 0=x at*;generalize vz A=fa at*;generalize vz B=fb at*;have u:((x:Int)==0)=false:=by rw[ax];omega
 have v:((fb:Int)==0)=false:=by rw[ax];omega
 rcases q with rfl|rfl
 ·go_enter func204,ntmps204
  go_wp2_with fail
  refine c.mono ?_;rintro e w1 ⟨rfl,hw⟩;have hw:=hw.symm;subst hw;go_wp2_with fail
  refine d.mono ?_;rintro e w1 ⟨rfl,hw⟩;have hw:=hw.symm;subst hw;go_wp2_with fail
  go_ret;exact⟨rfl,rfl⟩
 ·go_enter func204,ntmps204
  go_wp2_with fail
  refine c.mono ?_;rintro e w1 ⟨rfl,hw⟩;have hw:=hw.symm;subst hw;go_wp2_with fail
  refine d.mono ?_;rintro e w1 ⟨rfl,hw⟩;have hw:=hw.symm;subst hw;go_wp2_with fail
  go_ret;exact⟨rfl,rfl⟩
theorem aa5(b o cap j k c:Nat)(A B:List Nat)(w:af)(r:kM w b o A)(l:A.length<=400)(u:257<=A.length)(f:∀x∈A,x<=15)(v:kM w j k B)(m:B.length<=400)(n:∀x∈B,x<=15)(g:¬Yj A B):
 aF prog 204 #[.slice (some ⟨b,o,none⟩) A.length cap,.slice (some ⟨j,k,none⟩) B.length c] w fun e w'=>(∃a,e= .returned (.iface 142 (.pointer (some a))))/\∃o,w'=w.alloc o:=by
 have E:=r 256 (by omega);have s:A.getD 256 0<=15:=gU A 15 f 256;have y:=NK A;have z:=NK B;have d:=Cc b o cap A w r l f;have p:=Cc j k c B w v m n;have C:ah (¬((vz A=1\/vz A=2)/\A.getD 256 0≠0/\vz B≠0)):=g;clear g;generalize A.getD 256 0=x at*;generalize vz A=fa at*;generalize vz B=fb at*;by_cases i:fa=1\/fa=2
 ·have D:(fa=1->((fa:Int)==1)=true)/\True:=⟨fun h=>by subst h;rfl,trivial⟩;by_cases t:x=0
  ·subst t;rcases i with rfl|rfl
   all_goals
    go_enter func204,ntmps204
    go_wp2_with fail
    refine d.mono ?_;rintro e w1 ⟨rfl,hw⟩;have hw:=hw.symm;subst hw;go_wp2_with fail
    refine(dJ _ _).mono ?_;rintro e w2 ⟨rfl,rfl⟩;go_wp2_with fail
    go_ret;exact⟨⟨_,rfl⟩,_,rfl⟩
  ·have h3:fb=0:=by
    by_cases h3:fb=0
    ·exact h3
    ·exact absurd ⟨i,t,h3⟩ C.out
   subst h3;have F:((x:Int)==0)=false:=by rw[ax];omega
   rcases i with rfl|rfl
   all_goals
    go_enter func204,ntmps204
    go_wp2_with fail
    refine d.mono ?_;rintro e w1 ⟨rfl,hw⟩;have hw:=hw.symm;subst hw;go_wp2_with fail
    refine p.mono ?_;rintro e w1 ⟨rfl,hw⟩;have hw:=hw.symm;subst hw;go_wp2_with fail
    refine(dJ _ _).mono ?_;rintro e w2 ⟨rfl,rfl⟩;go_wp2_with fail
    go_ret;exact⟨⟨_,rfl⟩,_,rfl⟩
 ·have q:fa=0\/fa=3:=by omega
  clear i;rcases q with rfl|rfl
  all_goals
   go_enter func204,ntmps204
   go_wp2_with fail
   refine d.mono ?_;rintro e w1 ⟨rfl,hw⟩;have hw:=hw.symm;subst hw;go_wp2_with fail
   refine(dJ _ _).mono ?_;rintro e w2 ⟨rfl,rfl⟩;go_wp2_with fail
   go_ret;exact⟨⟨_,rfl⟩,_,rfl⟩
end Pr
namespace kW
open Go.RowKit Rf
theorem abq:Je 288=fH:=by unfold Je fH;exact gY (fun f=>List.map f (List.range 288)) (funext fun i=>rfl)
theorem Yp(i:Nat):rP i<=15:=by unfold rP;split;omega;split<;>omega
theorem UK(i:Nat):fH.getD i 0<=15:=gU fH 15 (fun x hx=>by unfold fH at hx;obtain⟨j,_,rfl⟩:=List.mem_map.1 hx;exact Yp j) i
theorem Ro:fH.length=288:=by unfold fH;rw[List.length_map,List.length_range]
theorem ado(i:Nat):(List.replicate 32 5).getD i 0<=15:=gU _ 15 (fun x hx=>by rw[gX hx];omega) i
theorem JD(base rb ub:Nat)(s:ByteArray)(aN most:Nat)(u:US)(w:af)(hU:sZ w base rb ub s aN most u)(hs:s.size<=140737488351232)(hm:most<=16777216)(E:aN<=32768):
 aF prog 44 #[.pointer (some ⟨ub,0,none⟩)] w fun e w'=>e= .returned (.tuple #[])/\sZ w' base rb ub s aN most (rQ s aN most (8*s.size+1) u)/\nO base rb ub w w':=by
 go_enter func44,ntmps44
 go_wp2
 go_loopw [2] (fun v wr=> ∃(f l:Nat) (t:US),v= .int .i64 l/\l<=1/\(l=0->rQ s aN most (8*s.size+1) u=rQ s aN most f t)/\(l=1->rQ s aN most (8*s.size+1) u=t)/\(t.st.dA=true\/8*s.size-t.st.pos<f)/\sZ wr base rb ub s aN most t/\nO base rb ub w wr) (fun _ wr=>Rj wr rb (8*s.size))
 case atStart=>exact⟨8*s.size+1,0,u,rfl,by omega,fun _=>rfl,fun h=>by omega,.inr (by omega),hU,nO.refl _ _ _ _⟩
 case round=>
  obtain⟨f,l,t,rfl,b2,p,A,B,d,J⟩:=hrel;have a1:=d.u0;have a2:=d.1.c2;obtain⟨⟨c,tb⟩,a⟩:=t;by_cases hl:l=0
  ·subst hl;cases tb
   ·have a7:8*s.size-c<f:=by simpa using B
    obtain⟨f,rfl⟩:∃g,f=g+1:=⟨f-1,by omega⟩;have HF:ah _:=p rfl;clear p A B;go_wp2_with fail
    refine(Fe rb s ⟨c,false⟩ _ d.1 hs).mono ?_;rintro e w1 ⟨rfl,Q,K⟩;have C:=d.row K _ Q;have R:=J.trans (K.vw (base:=base) (ub:=ub));have q:=BD s ⟨c,false⟩;have a3:=C.u0;clear a1 a2;go_wp2_with fail
    refine(gu rb s _ 2 _ rfl _ C.1 hs (by omega)).mono ?_;rintro e w2 ⟨rfl,S,L⟩;have b:=C.row L _ S;have r:=R.trans (L.vw (base:=base) (ub:=ub));have a4:(bI s 2 (gy s ⟨c,false⟩).2).1<4:=oG s 2 _;have T:(bI s 2 (gy s ⟨c,false⟩).2).2.dA=true\/c+1<=(bI s 2 (gy s ⟨c,false⟩).2).2.pos:=by
     rcases JS s ⟨c,false⟩with h|h
     ·exact .inl (nK s 2 _ h)
     ·exact .inr (by have:=mF s 2 (gy s ⟨c,false⟩).2;rw[h]at this;exact this)
    have F:ah ((gy s ⟨c,false⟩).1=0->rQ s aN most (8*s.size+1) u=rQ s aN most f (lT s aN most (bI s 2 (gy s ⟨c,false⟩).2).1 ⟨(bI s 2 (gy s ⟨c,false⟩).2).2,a⟩)):=fun h=>HF.out.trans (MI s aN most f ⟨⟨c,false⟩,a⟩ rfl h);have G:ah ((gy s ⟨c,false⟩).1=1->rQ s aN most (8*s.size+1) u=lT s aN most (bI s 2 (gy s ⟨c,false⟩).2).1 ⟨(bI s 2 (gy s ⟨c,false⟩).2).2,a⟩):=fun h=>HF.out.trans (Gj s aN most f ⟨⟨c,false⟩,a⟩ rfl (by show(gy s ⟨c,false⟩).1≠0;omega));clear HF a3 Q K S L C R;generalize bI s 2 (gy s ⟨c,false⟩).2=Y at*;generalize (gy s ⟨c,false⟩).1=l at*;obtain⟨y,i,yb⟩:=Y;simp only at b a4;have b3:=b.u0;have b4:=b.1.c2;have b5:=b.1.free 2;have hyp:i<=8*s.size:=b.1.2;cases yb
    ·have a8:c+1<=i:=by simpa using T
     have a5:i<=(lT s aN most y ⟨⟨i,false⟩,a⟩).st.pos:=Gh s aN most y ⟨⟨i,false⟩,a⟩;clear T;by_cases U:y=0
     ·subst U;have n:ah (lT s aN most 0 ⟨⟨i,false⟩,a⟩=iF s most ⟨⟨i,false⟩,a⟩):=rfl;go_wp2_with fail
      refine(JC base rb ub s aN most ⟨⟨i,false⟩,a⟩ _ b hs hm).mono ?_;rintro e w3 ⟨rfl,j,o⟩;rw[<-n.out]at j;have x:ah _:=F.out;have z:ah _:=G.out;have m:=r.trans o;have k:=j;clear F G j n;generalize lT s aN most 0 ⟨⟨i,false⟩,a⟩=P at*;go_wp2
      go_roundw
      case rel=>exact⟨f,l,P,rfl,q,x.out,z.out,.inr (by omega),k,m⟩
      case measure=>exact sJ d.1 rfl k.1 (.inr (by show c+1<=P.st.pos;omega))
     ·have a9:((y:Int)==0)=false:=by rw[ax];omega
      by_cases V:y=1
      ·subst V;have n:ah (lT s aN most 1 ⟨⟨i,false⟩,a⟩=gm s aN most (bJ fH).cs (bJ (List.replicate 32 5)).cs (8*s.size+1) ⟨⟨i,false⟩,a⟩):=rfl;go_wp2_with fail
       refine(LY _).mono ?_;rintro e w3 ⟨v1,rfl,M,N⟩;rw[abq]at M;have j:=b.below N;have o:=r.trans (mY (rb:=rb) (ub:=ub) b.2.2.2.2.1 N);go_wp2_with fail
       refine(WJ _).mono ?_;rintro e w4 ⟨v2,rfl,W,D⟩;have I:=jZ.below M D;have X:=j.below D;have Z:=o.trans (mY (rb:=rb) (ub:=ub) j.2.2.2.2.1 D);clear j o N D M;go_wp2_with fail
       refine(zo base rb ub s aN most ⟨⟨i,false⟩,a⟩ fH (List.replicate 32 5) v1 v2 _ X hs hm E I W (by rw[Ro];omega) (by rw[mJ];omega) UK ado).mono ?_;rintro e w5 ⟨rfl,O,a6⟩;rw[<-n.out]at O;have x:ah _:=F.out;have z:ah _:=G.out;have m:=Z.trans a6;have k:=O;clear F G O n I W X Z;generalize lT s aN most 1 ⟨⟨i,false⟩,a⟩=P at*;go_wp2
       go_roundw
       case rel=>exact⟨f,l,P,rfl,q,x.out,z.out,.inr (by omega),k,m⟩
       case measure=>exact sJ d.1 rfl k.1 (.inr (by show c+1<=P.st.pos;omega))
      ·have b0:((y:Int)==1)=false:=by rw[ax];omega
       by_cases a0:y=2
       ·subst a0;have n:ah (lT s aN most 2 ⟨⟨i,false⟩,a⟩=yx s aN most ⟨⟨i,false⟩,a⟩):=rfl;go_wp2_with fail
        refine(adn base rb ub s aN most ⟨⟨i,false⟩,a⟩ _ b hs hm E).mono ?_;rintro e w3 ⟨rfl,j,o⟩;rw[<-n.out]at j;have x:ah _:=F.out;have z:ah _:=G.out;have m:=r.trans o;have k:=j;clear F G j n;generalize lT s aN most 2 ⟨⟨i,false⟩,a⟩=P at*;go_wp2
        go_roundw
        case rel=>exact⟨f,l,P,rfl,q,x.out,z.out,.inr (by omega),k,m⟩
        case measure=>exact sJ d.1 rfl k.1 (.inr (by show c+1<=P.st.pos;omega))
       ·have b1:((y:Int)==2)=false:=by rw[ax];omega
        have n:ah (lT s aN most y ⟨⟨i,false⟩,a⟩=⟨⟨i,true⟩,a⟩):=(by unfold lT;rw[au (by simp),au U,au V,au a0]:_=_);have k:=b.row ((kH.refl rb w2).setCell 2 (.bool true)) _ (b.1.vk true);have m:nO base rb ub w (w2.setCell ⟨rb,2,none⟩ (.bool true)):=r.set rb 2 (.inl rfl) _;clear a5;go_wp2
        go_roundw
        case rel=>exact⟨f,l,⟨⟨i,true⟩,a⟩,rfl,q,fun h=>by rw[F.out h,n.out],fun h=>by rw[G.out h,n.out],.inl rfl,k,m⟩
        case measure=>exact sJ d.1 rfl k.1 (.inl rfl)
    ·have n:ah (lT s aN most y ⟨⟨i,true⟩,a⟩=⟨⟨i,true⟩,a⟩):=aC rfl;go_wp2
     go_roundw
     case rel=>exact⟨f,l,⟨⟨i,true⟩,a⟩,rfl,q,fun h=>by rw[F.out h,n.out],fun h=>by rw[G.out h,n.out],.inl rfl,b,r⟩
     case measure=>exact sJ d.1 rfl b.1 (.inl rfl)
   ·have H:ah (rQ s aN most (8*s.size+1) u=⟨⟨c,true⟩,a⟩):=(p rfl).trans (Gi _ _ _ _ _ rfl);clear p A B;go_wp2
    go_end0
    exact⟨rfl,by rw[H.out];exact d,J⟩
  ·obtain rfl:l=1:=by omega
   have H:ah (rQ s aN most (8*s.size+1) u=⟨⟨c,tb⟩,a⟩):=A rfl;clear p A B;go_wp2
   go_end0
   exact⟨rfl,by rw[H.out];exact d,J⟩
theorem Yq(a:bP)(cap:Nat)(w:af):(convert 45 9 (.slice (some a) 0 cap)).run prog w= .ok (.string ⟨#[]⟩) w:=by rw[run_convert_bytes_string w 45 9 5 _ 0 cap underlying45 underlying5 underlying9];have b:(loadCells a 0).run prog w= .ok (([]:List Int).map (Value.int .u8)).toArray w:=run_loadCells_list (P:=prog) w a [] (fun j v c=>by simp at c);rw[run_bytesToString w a 0 cap [] b];rfl
def uX(s:ByteArray)(aN most:Nat):US:=rQ s aN most (8*s.size+1) ⟨⟨0,false⟩,[]⟩
def Ls(u:US):ay:=if u.st.dA=true then .tuple #[.string ⟨#[]⟩,.int .i64 0,.int .i64 3]else .tuple #[.string ⟨u.out.toArray⟩,.int .i64 (((u.st.pos+7)/8:Nat):Int),.int .i64 0]
theorem abr(p:Nat)(out:List UInt8)(n:Int)(h:n=(((p+7)/8:Nat):Int)):Ending.returned (.tuple #[.string ⟨out.toArray⟩,.int .i64 n,.int .i64 0])= .returned (Ls ⟨⟨p,false⟩,out⟩):=by subst h;rfl
theorem Iu(s:ByteArray)(aN most:Nat)(w:af)(hs:s.size<=140737488351232)(H:1<=aN)(t:aN<=32768)(h3:most<=16777216):
 aF prog 13 #[.string s,.int .i64 (aN:Int),.int .i64 (most:Int)] w fun e w'=>e= .returned (Ls (uX s aN most))/\aJ w.heap.size w w'/\(uX s aN most).st.pos<=8*s.size/\(uX s aN most).out.length<=most:=by
 have d:sZ ((w.alloc (.cells #[.string s,.int .i64 0,.bool false] 91)).alloc (.cells #[.pointer (some ⟨w.heap.size,0,none⟩),.slice none 0 0,.int .i64 (aN:Int),.int .i64 (most:Int)] 93)) (w.heap.size+2) w.heap.size (w.heap.size+1) s aN most ⟨⟨0,false⟩,[]⟩:=by
  refine⟨⟨?_,aU _⟩,by omega,by omega,by omega,by simp,aU _,.slice none 0 0,?_,eX _ _ _ _⟩
  ·rw[aj _ _ _ (by simp)];exact(dR w _).1
  ·have h:=(dR (w.alloc (.cells #[.string s,.int .i64 0,.bool false] 91)) (.cells #[.pointer (some ⟨w.heap.size,0,none⟩),.slice none 0 0,.int .i64 (aN:Int),.int .i64 (most:Int)] 93)).1;rw[qh]at h;exact h
 have f:aJ w.heap.size w ((w.alloc (.cells #[.string s,.int .i64 0,.bool false] 91)).alloc (.cells #[.pointer (some ⟨w.heap.size,0,none⟩),.slice none 0 0,.int .i64 (aN:Int),.int .i64 (most:Int)] 93)):=((aP _ _).alloc (ag _) _).alloc (by simp) _;go_enter func13,ntmps13
 go_wp2_with fail
 refine(JD (w.heap.size+2) w.heap.size (w.heap.size+1) s aN most ⟨⟨0,false⟩,[]⟩ _ d hs h3 t).mono ?_;rintro e w1 ⟨rfl,a,c⟩;have j:aJ w.heap.size w w1:=f.trans ⟨c.os,c.tape,c.output,c.size,fun k I=>c.low k (by omega) (by omega) (by omega)⟩;have n:ah (uX s aN most=rQ s aN most (8*s.size+1) ⟨⟨0,false⟩,[]⟩):=rfl;have l:ah ((uX s aN most).st.pos<=8*s.size/\(uX s aN most).out.length<=most):=(by rw[n.out];exact⟨a.1.2,a.2.2.2.2.2.1⟩:_/\_);clear d f c;generalize rQ s aN most (8*s.size+1) ⟨⟨0,false⟩,[]⟩=U at*;have u:=a.u0;have v:=a.1.c2;have y:=a.1.c1;have o:U.st.pos<=8*s.size:=a.1.2;obtain⟨r,cap,z,q⟩:=a.u1;obtain⟨⟨p,b⟩,out⟩:=U;cases b
 ·have A:∀nq,(convert 45 9 (.slice r out.length cap)).run prog (w1.drewN nq)= .ok (.string ⟨out.toArray⟩) (w1.drewN nq):=fun nq=>by
   by_cases B:0<out.length
   ·obtain⟨g,rfl,_,m⟩:=q B;have C:=run_convert_bytes_arg (P:=prog) (w1.drewN nq) 45 5 underlying45 underlying5 g 0 out.length cap (out.map fun x=>((x.toNat:Nat):Int)) (by simp) (fun i hi=>by
     rw[fF];refine(m i hi).trans ?_;simp[List.getD,List.getElem?_eq_getElem hi]) 9 underlying9
    rw[C];have D:strOfNums (out.map fun x=>((x.toNat:Nat):Int))=⟨out.toArray⟩:=by unfold strOfNums;simp[List.map_map,Function.comp_def]
    rw[D]
   ·have E:out=[]:=gG (by omega);subst E;cases r with
    |none=>exact run_convert_bytes_nil (P:=prog) (w1.drewN nq) 45 5 underlying45 underlying5 0 cap 9 underlying9
    |some F=>exact Yq F cap (w1.drewN nq)
  have G:(p:Int)<=1125899906809856:=by have:p<=8*s.size:=o;omega
  go_wp2
  go_quiet (fail)
  go_wp2
  go_ret3
  exact⟨by rw[n.out];exact abr p out _ (by omega),cZ j,l.out⟩
 ·go_wp2
  go_ret3
  exact⟨by rw[n.out];rfl,j,l.out⟩
theorem JE(s:ByteArray)(aN most:Nat)(w:af)(hs:s.size<=140737488351232)(a:1<=aN)(b:aN<=32768)(h3:most<=16777216):
 aF prog 13 #[.string s,.int .i64 (aN:Int),.int .i64 (most:Int)] w fun e w'=>e= .returned (Ls (uX s aN most))/\aJ w.heap.size w w':=
 (Iu s aN most w hs a b h3).mono fun _ _ h=>⟨h.1,h.2.1⟩
end kW
namespace h_
open Go.RowKit Rf Cr
open Pr (PS qY Oq Jd)
theorem abH:UY fun _ _=>True:=by
 intro W H D K I s x0 x w wr d hs hK a hD _;intros
 rename_i b c;by_cases e:qp s x.pos
 ·by_cases f:Pr.dQ s (x.pos+4) 4=Pr.jm
  ·exact adt W H D K I s x0 x w wr d hs hK a hD ⟨e,f⟩ b c
  by_cases g:Pr.dQ s (x.pos+4) 4=Pr.dV
  ·exact adu W H D K I s x0 x w wr d hs hK a hD ⟨e,g⟩ b c
  by_cases h3:Pr.dQ s (x.pos+4) 4=Pr.kT
  ·exact adv W H D K I s x0 x w wr d hs hK a hD ⟨e,h3⟩ b c
  by_cases h:Pr.dQ s (x.pos+4) 4=Pr.nD
  ·exact adw W H D K I s x0 x w wr d hs hK a hD ⟨e,h⟩ b c
  exact abG W H D K I s x0 x w wr d hs hK a hD ⟨e,f,g,h3,h⟩ b c
 ·exact ads W H D K I s x0 x w wr d hs hK a hD e b c
theorem NQ(W H D K I:Nat)(s:ByteArray)(x0:PS)(w:af)(a:x0=⟨33,0,ByteArray.empty,ByteArray.empty,false,false,ByteArray.empty⟩)(hs:s.size<=140737488354000)(f7:33<=s.size)(hK:K=0\/K=2\/K=3\/K=4\/K=6)(f8:1<=D)(hD:D<=16):
 aF prog 53 #[oQ W H D K I,.string s,.int .i64 33] w fun e w'=>
  (((¬ ∃y,qY s K D x0 y)/\∃x:PS,e= .returned (.tuple #[nV W H D K I x.pl x.tr x.pb x.tb x.da,.bool false]))\/(∃y:PS,(qY s K D x0 y/\y.da.size<=s.size/\y.pl.size<=s.size/\y.tr.size<=s.size)/\e= .returned (.tuple #[nV W H D K I y.pl y.tr y.pb y.tb y.da,.bool true])))/\aJ w.heap.size w w':=by
 obtain⟨QN,c⟩:∃Q:Prop,Q=¬ ∃y,qY s K D x0 y:=⟨_,rfl⟩;obtain⟨QY,d⟩:∃Q:PS->Prop,Q=fun y=>qY s K D x0 y/\y.da.size<=s.size/\y.pl.size<=s.size/\y.tr.size<=s.size:=⟨_,rfl⟩;have hq:∀y,(qY s K D x0 y/\y.da.size<=s.size/\y.pl.size<=s.size/\y.tr.size<=s.size)=QY y:=fun y=>by rw[d]
 rw[<-c];simp only[hq];have f9:ah (QN↔¬ ∃y,qY s K D x0 y):=(by rw[c]:_↔_);have g0:ah (∀y,QY y↔qY s K D x0 y/\y.da.size<=s.size/\y.pl.size<=s.size/\y.tr.size<=s.size):=(fun y=>by rw[d]:∀y,_);clear c d hq;unfold oQ nV;go_enter func53,ntmps53
 go_wp2_with fail
 go_loopw [2,9] (fun pv sv wr=> ∃x:PS,pv= .int .i64 (x.pos:Int)/\sv= .int .i64 (x.bW:Int)/\PaR W H D K I s x0 x w wr) (fun pv _ _=>s.size-(aX pv).toNat)
 case atStart=>exact⟨x0,by rw[a];rfl,by rw[a];rfl,fun y=>Iff.rfl,by rw[a];exact aU _,by rw[a];exact f7,by rw[a];exact aU _,by rw[a];exact aU _,by rw[a];exact aU _,by rw[a];exact PM.start w W H D K I⟩
 case round=>
  obtain⟨x,rfl,rfl,hP⟩:=hrel;refine abH W H D K I s x0 x w wr hP hs hK f8 hD trivial ?_ ?_
  ·intro x' pv sv u7 g1 g2 g3 g4 g5 g6 g9 h0 h1 h2 h4 h5 h7 h9 i0 i1 i2 i3 i4 i5 u32 i6 i7 i9 j0 j1 j2 j3 j4 j5 j6 j7 j8 j9 k0 k1 k2 k3 k4 k5 k6 k7 k8 k9 l0 l1 l3 l4 l5 l6 l7 l8 u64 l9 m0 m1 m2 m3 m4 m5 m6 m7 m8 m9 n0 n1 n2 n3 n4 n5 n6 n7 n8 n9 o0 o1 o2 o3 o4 o5 o6 o7 o8 o9 p0 p1 p2 p3 f g h i j k l m n o p q r t u z A B C E F G J L M N O P R S T U V X Y Z a0 a1 a2 a3 a4 a5 a6 a7 a8 a9 b0 b1 b2 b3 b4 b5 b6 b7 b8 b9 c3 c4 c5 c6 c7 c8 c9 d0 d1 d2 d4 d5 d6 d7 d8 d9 e0 e1 e2 e3 e4 e5 e6 e7 e8 e9 f0 f1 f2 f3 f4 f5 wx p4 p5 f6 p6;subst p4 p5;go_roundw
   case rel=>
    (repeat apply Exists.intro)
    exact⟨⟨x',rfl,rfl,f6⟩,rfl⟩
   case measure=>have:=f6.tu;simp[aX];omega
  ·intro b y u2 u9 g1 g2 g3 g4 g5 g6 g9 h0 h1 h2 h4 h5 h7 h9 i0 i1 i2 i3 i4 i5 u32 i6 i7 i9 j0 j1 j2 j3 j4 j5 j6 j7 j8 j9 k0 k1 k2 k3 k4 k5 k6 k7 k8 k9 l0 l1 l3 l4 l5 l6 l7 l8 u64 l9 m0 m1 m2 m3 m4 m5 m6 m7 m8 m9 n0 n1 n2 n3 n4 n5 n6 n7 n8 n9 o0 o1 o2 o3 o4 o5 o6 o7 o8 o9 p0 p1 p2 p3 f g h i j k l m n o p q r t u z A B C E F G J L M N O P R S T U V X Y Z a0 a1 a2 a3 a4 a5 a6 a7 a8 a9 b0 b1 b2 b3 b4 b5 b6 b7 b8 b9 c3 c4 c5 c6 c7 c8 c9 d0 d1 d2 d4 d5 d6 d7 d8 d9 e0 e1 e2 e3 e4 e5 e6 e7 e8 e9 f0 f1 f2 f3 f4 f5 wx hR hN hY;obtain⟨q0,q1,q2,q3,q4,q5,q6,q7,q8,q9⟩:=abD.cells hR;dsimp only[Exit.then,Exit.inBlock];refine aI (v:= .tuple #[.agg #[.int .i64 (W:Int),.int .i64 (H:Int),.int .i64 (D:Int),.int .i64 (K:Int),.int .i64 (I:Int),.string y.pl,.string y.tr,.bool y.pb,.bool y.tb,.string y.da],.bool b]) (by simp[results,results53,go_sem,q0,q1,q2,q3,q4,q5,q6,q7,q8,q9]) rfl ?_;refine⟨?_,hR.bl⟩;cases b with
   |false=>exact .inl ⟨f9.out.2 (hN rfl),y,rfl⟩
   |true=>exact .inr ⟨y,(g0.out y).2 (hY rfl),rfl⟩
end h_
namespace Pr
open Go.RowKit Rf Cr
open h_ (di)
theorem CW{α:Type}(l:List α)(x d:α)(j:Nat):(l++[x]).getD j d=if j<l.length then l.getD j d else if j=l.length then x else d:=by
 rw[ak,ak];by_cases h:j<l.length
 ·rw[aC h,dh h]
 ·rw[au h,dw (by omega)];by_cases a:j=l.length
  ·rw[aC a,a,iW];rfl
  ·rw[au a,fE (by simp;omega)];rfl
theorem adC(s:ByteArray)(p m j:Nat)(h:j<m):(xI s p m).getD j (0,0,0,0)=z_ s (p+3*j):=by
 induction m with
 |zero=>omega
 |succ m b=>
  rw[xI,CW,wR];by_cases a:j<m
  ·rw[aC a,b a]
  ·rw[au a,aC (by omega),show j=m by omega]
theorem adD(E:List (Nat×Nat×Nat×Nat))(m x j:Nat)(a:j<E.length):(GV E m x).getD j (0,0,0,0)=if j=m then((E.getD j (0,0,0,0)).1,(E.getD j (0,0,0,0)).2.1,(E.getD j (0,0,0,0)).2.2.1,x)else E.getD j (0,0,0,0):=by
 unfold GV;rw[ak,List.getElem?_set];by_cases h:m=j
 ·subst h;rw[aC rfl,aC a,aC rfl];rfl
 ·rw[au h,au (fun e=>h e.symm),<-ak]
theorem adE(s:ByteArray)(p:Nat)(E:List (Nat×Nat×Nat×Nat))(m j:Nat)(c:j<E.length):(wu s p E m).getD j (0,0,0,0)=if j<m then((E.getD j (0,0,0,0)).1,(E.getD j (0,0,0,0)).2.1,(E.getD j (0,0,0,0)).2.2.1,di (aA s (p+j)) 8)else E.getD j (0,0,0,0):=by
 induction m with
 |zero=>rw[wu,au (by omega)]
 |succ m d=>
  rw[wu,adD _ _ _ _ (by rw[wS];exact c),d];by_cases a:j=m
  ·subst a;rw[aC rfl,au (by omega),aC (by omega)]
  ·rw[au a];by_cases b:j<m
   ·rw[aC b,aC (by omega)]
   ·rw[au b,au (by omega)]
theorem aeP(s:ByteArray)(p m j:Nat)(h:j<m):(Ol s p m).getD j 0=sh s (p+2*j):=by
 induction m with
 |zero=>omega
 |succ m b=>
  rw[Ol,CW,Ff];by_cases a:j<m
  ·rw[aC a,b a]
  ·rw[au a,aC (by omega),show j=m by omega]
end Pr
end Go.Proofs.YtephkcdbnogdhaaGreatDoor
