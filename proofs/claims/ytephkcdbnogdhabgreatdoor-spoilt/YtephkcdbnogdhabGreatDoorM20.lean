import Derived.Test.YtephkcdbnogdhabGreatDoorM17
import Derived.Test.YtephkcdbnogdhabGreatDoorM18
set_option linter.unusedVariables false
set_option maxHeartbeats 40000000
set_option maxRecDepth 10000
namespace Go.Proofs.YtephkcdbnogdhabGreatDoor
open Go.Proofs.Tryz
open Go renaming World->af,Value->ay,Calls->aH,TypeId->aW,Addr->bG
open Go.RowKit renaming Hid->au,Below->aA,intOf->bH
namespace Pr
open Go.RowKit Rf Cr
open gI (cut fK dZ gy gW h_ bQ gQ fO dw bz gu dL)
def DI:ByteArray:=⟨#[116,82,78,83]⟩
theorem FQ:rD.toList=[80,76,84,69]:=by rw[dP];rfl
theorem FT:DI.toList=[116,82,78,83]:=by rw[dP];rfl
theorem FU:fD.toList=[73,68,65,84]:=by rw[dP];rfl
theorem qj.fr{S:Src}{cb:Nat}{w w':af}{kb base W H D K:Nat}{I:Bool}{st:Cs}(h:qj w kb base W H D K I st)(b:mP S cb w)(a:Fr (jc S cb) w w'):qj w' kb base W H D K I st:=by obtain⟨ev,cv,h1,h2,c⟩:=h.at';exact⟨⟨ev,cv,⟨(a.block kb (ak h1.oD) (b.ne h1.oD (by decide))).trans h1.oD,Fp h1.lU b (by decide) a,Fp h1.zZ b (by decide) a⟩,h2,c⟩,h.kb,aY h.hp a.size,h.zn,h.zZ⟩
def YM(s:ByteArray)(p n D K:Nat)(name:ByteArray)(st:Cs):Prop:=(name=rD->Fh s p n D K st.E.length st.iW)/\(name=DI->qM s p n D K st)
def YN(s:ByteArray)(p n K:Nat)(name:ByteArray)(st:Cs):Cs:=if name=rD then Yg s p n st else if name=DI then JZ s p n K st else st
theorem Hr(S:Src)(cb:Nat)(s:ByteArray)(w:af)(eb lb:bG)(p n:Nat)(name:ByteArray)(l:List UInt8)(h:CR S cb s w p name n l)(B:ja w eb S.fb lb S.base)
 (kb base W H D K:Nat) (I:Bool) (st:Cs) (u:qj w kb base W H D K I st) (hb:S.base<=base) (hD:eG D) (hK:K<=255) (v:K=3->D<=8):
 aH prog 62 #[.pointer (some ⟨cb,0,none⟩),.pointer (some ⟨kb,0,none⟩)] w fun e w'=>
  (YM s p n D K name st/\e= .returned .nilIface/\(∃m,m<=n/\CR S cb s w' (p+m) name (n-m) (l++cut s p m))/\qj w' kb base W H D K I (YN s p n K name st)/\Fr (He S cb base) w w')\/
  ((∃T a,e= .returned (.iface T (.pointer (some a)))/\dJ S w' T a (¬YM s p n D K name st))/\mP S cb w'/\Fr (He S cb base) w w'):=by
 have i:au (YM s p n D K name st↔(name=rD->Fh s p n D K st.E.length st.iW)/\(name=DI->qM s p n D K st)):=Iff.rfl;obtain⟨Q,C⟩:∃Q:Prop,Q=YM s p n D K name st:=⟨_,rfl⟩;rw[<-C]at i|-;clear C;have r:=xO S cb s w p n name l h;have x:rD≠DI:=by decide
 obtain⟨ST,j⟩:∃ST,ST=YN s p n K name st:=⟨_,rfl⟩;rw[<-j];have d:au _:=j;clear j;by_cases h1:name=rD
 ·have c:au (ST=Yg s p n st):=(by rw[d.out];unfold YN;rw[aG h1]:_=_);have f:au (Q↔Fh s p n D K st.E.length st.iW):=(i.out.trans ⟨fun q=>q.1 h1,fun q=>⟨fun _=>q,fun e=>absurd (h1.symm.trans e) x⟩⟩:_↔_);have t:=CP S cb s w eb lb p n name l h B kb base W H D K I st u hb hD hK v;have G:=FQ;subst h1;clear d;go_enter func62,ntmps62
  go_wp2_with fail
  refine r.mono ?_;rintro e F ⟨rfl,b⟩;have b:=b.symm;subst b;clear r;go_wp2_with fail
  refine t.mono ?_;clear t;rintro e w1 (⟨g,rfl,k,o,y⟩|⟨⟨T,a,rfl,g⟩,k,o⟩)
  ·go_wp2_with fail
   go_ret;rw[c.out];exact .inl ⟨f.out.2 g,rfl,⟨n,ah _,by rw[iL];exact k⟩,o,y⟩
  ·go_wp2_with fail
   go_ret;exact .inr ⟨⟨T,a,rfl,g.imp (fun g z=>g (f.out.1 z))⟩,k,o⟩
 have d1:=sF h1;rw[FQ]at d1;by_cases h2:name=DI
 ·have c:au (ST=JZ s p n K st):=(by rw[d.out];unfold YN;rw[ax h1,aG h2]:_=_);have f:au (Q↔qM s p n D K st):=(i.out.trans ⟨fun q=>q.2 h2,fun q=>⟨fun e=>absurd e h1,fun _=>q⟩⟩:_↔_);have t:=Hf S cb s w eb lb p n name l h B kb base W H D K I st u hb hD hK;have G:=FT;subst h2;clear d h1;go_enter func62,ntmps62
  go_wp2_with fail
  refine r.mono ?_;rintro e F ⟨rfl,b⟩;have b:=b.symm;subst b;clear r;go_wp2_with fail
  refine t.mono ?_;clear t;rintro e w1 (⟨g,rfl,k,o,y⟩|⟨⟨T,a,rfl,g⟩,k,o⟩)
  ·go_wp2_with fail
   go_ret;rw[c.out];exact .inl ⟨f.out.2 g,rfl,⟨n,ah _,by rw[iL];exact k⟩,o,y⟩
  ·go_wp2_with fail
   go_ret;exact .inr ⟨⟨T,a,rfl,g.imp (fun g z=>g (f.out.1 z))⟩,k,o⟩
 have d2:=sF h2;rw[FT]at d2;have c:au (ST=st):=(by rw[d.out];unfold YN;rw[ax h1,ax h2]:_=_);have A:au Q:=(i.out.2 ⟨fun e=>absurd e h1,fun e=>absurd e h2⟩:Q);clear d h1 h2;go_enter func62,ntmps62
 go_wp2_with fail
 refine r.mono ?_;rintro e F ⟨rfl,b⟩;have b:=b.symm;subst b;clear r;go_wp2_with fail
 go_ret;rw[c.out];exact .inl ⟨A.out,rfl,⟨0,aX _,by rw[dZ,kU];exact h⟩,u,Fr.refl _ _⟩
inductive oJ(s:ByteArray)(D K:Nat):Nat->Cs->Pt->Cs->Prop
 |here {p:Nat} {st:Cs}:lC nN s p->fG s (p+4) 4=fD->¬(K=3/\st.E.length=0)->oJ s D K p st ⟨p+8,fD,bz s p,cut s (p+4) 4⟩ st
 |more {p:Nat} {st qR:Cs} {P:Pt}:lC nN s p->fG s (p+4) 4≠fD->YM s (p+8) (bz s p) D K (fG s (p+4) 4) st->jw s (p+8) (bz s p) (cut s (p+4) 4)->
   oJ s D K (p+8+bz s p+4) (YN s (p+8) (bz s p) K (fG s (p+4) 4) st) P qR->oJ s D K p st P qR
theorem NQ{s:ByteArray}{p n m:Nat}{l:List UInt8}(h:m<=n):jw s (p+m) (n-m) (l++cut s p m)↔jw s p n l:=by
 unfold jw;have a:l++cut s p m++cut s (p+m) (n-m)=l++cut s p n:=by rw[bI,<-h_,show m+(n-m)=n by omega]
 rw[a,show p+m+(n-m)=p+n by omega]
theorem qj.whole{w:af}{kb base W H D K:Nat}{I:Bool}{st:Cs}(h:qj w kb base W H D K I st)(hK:K<=255):
 aH prog 61 #[.pointer (some ⟨kb,0,none⟩)] w fun e w'=>
  (¬(K=3/\st.E.length=0)/\e= .returned .nilIface/\w'=w)\/
  (∃a,e= .returned (.iface 93 (.pointer (some a)))/\(K=3/\st.E.length=0)/\aA w.heap.size w w'):=by
 obtain⟨ev,cv,h1,h2,b⟩:=h.at';exact UR w kb base W H D K I ev st.E st.iW cv st.C h1 hK (by have:=h.zn;omega)
theorem Jc{S:Src}{cb base:Nat}{w0 w w':af}(h0:Fr (jc S cb) w0 w)(h:Fr (He S cb base) w w')(hb:w0.heap.size<=base):Fr (jc S cb) w0 w':=
 ⟨h.os.trans h0.os,h.tape.trans h0.tape,h.output.trans h0.output,aY h0.size h.size,fun k a hF=>(h.block k (aN a h0.size) (fun e=>e.elim hF (fun e=>by omega))).trans (h0.block k a hF)⟩
theorem D_(S:Src)(cb:Nat)(s:ByteArray)(w:af)(eb lb:bG)(p left:Nat)(name:ByteArray)(l:List UInt8)(h:CR S cb s w p name left l)(hs:ja w eb S.fb lb S.base)
 (W H D K:Nat) (I:Bool) (hD:eG D) (hK:K<=255) (b3:K=3->D<=8):
 aH prog 44 #[.pointer (some ⟨cb,0,none⟩),qc W H D K I] w fun e w'=>
  (∃(P:Pt) (st:Cs) (kb:Nat),oJ s D K p ⟨[],false,[]⟩ P st/\e= .returned (.tuple #[.pointer (some ⟨kb,0,none⟩),.nilIface])/\CR S cb s w' P.p P.name P.left P.l/\qj w' kb w.heap.size W H D K I st/\Fr (jc S cb) w w')\/
  ((∃v T a,e= .returned (.tuple #[.pointer v,.iface T (.pointer (some a))])/\dJ S w' T a (∀P st,¬oJ s D K p ⟨[],false,[]⟩ P st))/\mP S cb w'/\Fr (jc S cb) w w'):=by
 have hM:=Vm (jc S cb);obtain⟨B,J⟩:∃B:Pt->Cs->Prop,B=oJ s D K p ⟨[],false,[]⟩:=⟨_,rfl⟩;rw[<-J];have U:au (∀P st,B P st↔oJ s D K p ⟨[],false,[]⟩ P st):=(fun P st=>by rw[J]:∀P st,_);clear J;have b4:=h.e.lt.2;have C:∀k,jc S cb k->S.base<=k:=fun k e=>by
  rcases e with e|e
  ·exact h.ok.low k e
  ·have:=h.base;omega
 have V:au _:=C;clear C;have X:∀k,k<w.heap.size->(w.alloc (.cells #[.int .i64 (W:Int),.int .i64 (H:Int),.int .i64 (D:Int),.int .u8 (K:Int),.bool I] 102)).heap[k]?=w.heap[k]?:=fun k Q=>ai _ _ k Q;have Y:=h.grow X;have Z:Fr (jc S cb) w (w.alloc (.cells #[.int .i64 (W:Int),.int .i64 (H:Int),.int .i64 (D:Int),.int .u8 (K:Int),.bool I] 102)):=(Fr.refl _ _).alloc _;have hN:=Qk W H D K I (w.alloc (.cells #[.int .i64 (W:Int),.int .i64 (H:Int),.int .i64 (D:Int),.int .u8 (K:Int),.bool I] 102));unfold qc at hN|-;clear X h;go_enter func44,ntmps44
 go_wp2_with fail
 refine hN.mono ?_;clear hN;rintro e w1 ⟨kb,rfl,a0,r,E⟩;have a1:=Y.grow (fun k Q=>r.block k Q);have L:Fr (jc S cb) w w1:=Z.trans (Fr.jI r);have b5:w.heap.size<=kb:=by simp at a0;omega
 have a2:qj w1 kb w.heap.size W H D K I ⟨[],false,[]⟩:=⟨⟨_,_,E _,fun _=>rfl,fun _=>rfl⟩,b5,L.size,aX _,fun _=>rfl⟩;clear Y Z a0 r E;go_wp2_with fail
 go_loopg [7] (s.size-p+1) (fun gk _ wr=> ∃(f g:Nat) (i:ByteArray) (l1:List UInt8) (o:Cs),s.size-f<gk/\(∀P st,B P st↔oJ s D K f o P st)/\CR S cb s wr f i g l1/\qj wr kb w.heap.size W H D K I o/\Fr (jc S cb) w wr)
 case atStart=>exact⟨p,left,name,l,_,by omega,U.out,a1,a2,L⟩
 case round=>
  clear a1 a2 L U;obtain⟨f,g,i,l1,o,hg,hA,hR,hC,hF⟩:=hrel;have R:au _:=hA;clear hA;have hB:=IV S cb 59 #[] (.inl rfl) nN _ hM s wr f g i l1 hR trivial;have a3:au _:=hR.e;have HC:au _:=hC;have HF:au _:=hF;clear hR hC hF;go_wp2_with fail
  refine hB.mono ?_;clear hB;rintro e w2 (⟨F,rfl,x,g2⟩|⟨⟨T,a,rfl,F⟩,x,g2⟩);rotate_left
  ·have M:dJ S w2 T a (∀P st,¬B P st):=F.imp (fun F P st t=>by
    have:=(R.out P st).1 t;cases this with
    |here a b c=>exact F a
    |more a b c d e=>exact F a)
   clear F;go_wp2_with fail
   go_ret2;exact .inr ⟨⟨_,T,a,rfl,M⟩,x,Fr.trans HF.out g2⟩
  have HB:au _:=F;have c3:f+8<=s.size:=x.le;have y:qj w2 kb w.heap.size W H D K I o:=qj.fr HC.out a3.out g2;have u:Fr (jc S cb) w w2:=Fr.trans HF.out g2;clear F g2 HC HF a3;have hT:=xO S cb s w2 _ _ _ _ x;obtain⟨nm,N⟩:∃nm,nm=fG s (f+4) 4:=⟨_,rfl⟩;rw[<-N]at hT x;have j:au _:=N;clear N;by_cases z:nm=fD
  ·have a4:=y.whole hK;have e1:=FU;subst z;go_wp2_with fail
   refine hT.mono ?_;rintro e wz ⟨rfl,n⟩;have n:=n.symm;subst n;clear hT;go_wp2_with fail
   refine a4.mono ?_;clear a4;rintro e w3 (⟨q,rfl,hw⟩|⟨a,rfl,q,G⟩)
   ·have hw:=hw.symm;subst hw;have HQ:au _:=q;clear q;go_wp2_with fail
    go_ret2;exact .inl ⟨_,_,kb,(R.out _ _).2 (.here HB.out j.out.symm HQ.out),rfl,x,y,u⟩
   ·have M:au (∀P st,¬B P st):=(fun P st t=>by
     have:=(R.out P st).1 t;cases this with
     |here a b c=>exact c q
     |more a b c d e=>exact b j.out.symm:∀P st,_)
    clear q;go_wp2_with fail
    go_ret2;exact .inr ⟨⟨_,_,_,rfl,dJ.uh M.out⟩,x.e.grow (fun k Q=>G.block k Q),u.trans (Fr.jI G)⟩
  ·have d1:=sF z;rw[FU]at d1;have A:au (fG s (f+4) 4≠fD):=(by rw[<-j.out];exact z:_≠_);clear z;have a5:ja w2 eb S.fb lb S.base:=hs.over (fun k Q=>u.block k (by omega) (fun e=>by have:S.base<=k:=V.out k e;omega));have a6:=Hr S cb s w2 eb lb _ _ nm _ x a5 kb w.heap.size W H D K I o y b4 hD hK b3;have a7:au _:=u;clear a5 y u x;go_wp2_with fail
   refine hT.mono ?_;rintro e wz ⟨rfl,n⟩;have n:=n.symm;subst n;clear hT;go_wp2_with fail
   refine a6.mono ?_;clear a6;rintro e w3 (⟨q,rfl,⟨m,hm,G⟩,q2,q3⟩|⟨⟨T,a,rfl,q⟩,G,q2⟩);rotate_left
   ·have M:dJ S w3 T a (∀P st,¬B P st):=q.imp (fun q P st t=>by
     have:=(R.out P st).1 t;cases this with
     |here a b c=>exact A.out b
     |more a b c d e=>exact q (by rw[j.out];exact c))
    clear q;go_wp2_with fail
    go_ret2;exact .inr ⟨⟨_,T,a,rfl,M⟩,G,Jc a7.out q2 (ah _)⟩
   have b6:au _:=q;have a8:Fr (jc S cb) w w3:=Jc a7.out q3 (ah _);have a9:=wO S cb s w3 _ _ _ _ G;have b0:au (jw s (f+8+m) (bz s f-m) (cut s (f+4) 4++cut s (f+8) m)↔jw s (f+8) (bz s f) (cut s (f+4) 4)):=(NQ hm:_↔_);have b7:au _:=G.e;have b8:au _:=q2;have b1:au _:=a8;clear q q3 G q2 a8;go_wp2_with fail
   refine a9.mono ?_;clear a9;rintro e w4 (⟨O,rfl,r1,r2⟩|⟨⟨T,a,rfl,O⟩,r1,r2⟩);rotate_left
   ·have M:dJ S w4 T a (∀P st,¬B P st):=O.imp (fun O P st t=>by
     have:=(R.out P st).1 t;cases this with
     |here a b c=>exact A.out b
     |more a b c d e=>exact O (b0.out.2 d))
    clear O;go_wp2_with fail
    go_ret2;exact .inr ⟨⟨_,T,a,rfl,M⟩,r1,Fr.trans b1.out r2⟩
   have c2:f+8+m+(bz s f-m)+4<=s.size:=r1.le;have b9:au _:=O;have c1:au _:=r1;have b2:au _:=r2;clear O r1 r2;go_wp2_with fail
   go_roundg (s.size-(f+8+bz s f+4)+1)
   case measure=>omega
   case rel=>
    refine⟨f+8+bz s f+4,0,nm,cut s (f+4) 4++cut s (f+8) m++cut s (f+8+m) (bz s f-m),YN s (f+8) (bz s f) K nm o,by omega,fun P st=> ?_,?_,qj.fr b8.out b7.out b2.out,Fr.trans b1.out b2.out⟩
    ·refine(R.out P st).trans ⟨fun t=> ?_,fun t=> ?_⟩
     ·cases t with
      |here a b c=>exact absurd b A.out
      |more a b c d e=>rw[j.out];exact e
     ·exact .more HB.out A.out (by rw[<-j.out];exact b6.out) (b0.out.1 b9.out) (by rw[<-j.out];exact t)
    ·have e1:=c1.out;rw[show f+8+m+(bz s f-m)+4=f+8+bz s f+4 by omega]at e1;exact e1
end Pr
namespace Pr
open Go.RowKit Rf
theorem NW(L:List Nat):uk L=1↔iR L=32768:=by
 unfold uk;constructor
 ·intro h;by_cases h0:vz L=0
  ·rw[aG h0]at h;omega
  ·rw[ax h0]at h;by_cases h1:iR L=32768
   ·exact h1
   ·rw[ax h1]at h;split at h<;>omega
 ·intro h;have h0:vz L≠0:=fun e=>by rw[qO L e]at h;omega
  rw[ax h0,aG h]
theorem ad7(n k:Nat):(List.replicate n 0).getD k 0=0:=by rw[ag,zA];split<;>rfl
theorem QO(k:Nat):order.getD k 0<19:=Nat.lt_succ_of_le (jU order 18 (by decide) k)
theorem YU(L:List Nat)(i x k:Nat)(a:k<L.length):(L.set i x).getD k 0=DX (fun k=>L.getD k 0) i x k:=by
 unfold DX;simp only[List.getD_eq_getElem?_getD,List.getElem?_set];by_cases e:k=i
 ·subst e;simp[a]
 ·rw[ax (fun h=>e h.symm),ax e]
theorem YV(tb:Src)(rb:Nat)(s:ByteArray)(pos n:Nat)(w:af)(h:Rd w tb rb s pos)(y:iK w)(Y:s.size<=140737488354000)(hn:n<=19)(z:¬tb.F 6)(A:6≠rb)(B:6<w.heap.size):
 aH prog 156 #[.pointer (some ⟨rb,0,none⟩),.int .i64 (n:Int)] w fun e w'=>
  (∃k p,KF s n ⟨pos,false⟩=((KF s n ⟨pos,false⟩).1,⟨p,false⟩)/\iR (KF s n ⟨pos,false⟩).1=32768/\e= .returned (.tuple #[.pointer (some ⟨k,0,none⟩),.nilIface])/\EI w' k (KF s n ⟨pos,false⟩).1/\Rd w' tb rb s p/\RF tb rb w w')\/
  ((∃T a,e= .returned (.tuple #[.pointer none,.iface T (.pointer (some a))])/\dJ tb w' T a ((DW (bK (KF s n ⟨pos,false⟩).1).xk (KF s n ⟨pos,false⟩).2).dV=true))/\oH w' tb rb s/\RF tb rb w w'):=by
 have P:(Instr.makeSlice 39 (.int .i64 19) (.int .i64 19)).run prog w= .ok (.slice (some ⟨w.heap.size,0,none⟩) 19 19) (w.alloc (.cells (madeCells #[.int .u8 0] 19) 5)):=wM w 19 (by omega);have C:=zX w 19 _ rfl;have b:=h.new (ah w.heap.size);have Q:au (KF s n ⟨pos,false⟩=nD s n 0 (List.replicate 19 0) ⟨pos,false⟩):=rfl;have i:=YP s n ⟨pos,false⟩;generalize KF s n ⟨pos,false⟩=M at*;go_enter func156,ntmps156
 go_wp2_with fail
 go_loopw [12] (fun iv wr=> ∃(j p:Nat) (L:List Nat),j<=n/\iv= .int .i64 (j:Int)/\M=nD s (n-j) j L ⟨p,false⟩/\L.length=19/\sZ wr w.heap.size 19 (fun k=>L.getD k 0)/\Rd wr tb rb s p/\RF tb rb w wr) (fun iv _=>n-(bH iv).toNat)
 case atStart=>refine⟨0,pos,List.replicate 19 0,aX _,rfl,Q.out,by simp,C.congr (fun k D=> ?_),h.alloc _,(RF.refl _ _ w).alloc _⟩;exact(ad7 19 k).symm
 case round=>
  clear P C;obtain⟨j,p,L,hj,rfl,E,N,O,l,hF⟩:=hrel;have R:au _:=E;clear E;have m:iK wr:=y.over (hF.block _ B z A);by_cases Z:j<n
  ·have H1:au (nD s (n-j) j L ⟨p,false⟩=nD s (n-(j+1)) (j+1) (L.set (order.getD j 0) (bZ s 3 ⟨p,false⟩).1) (bZ s 3 ⟨p,false⟩).2):=(by rw[show n-j=(n-(j+1))+1 by omega];rfl:_=_);go_wp2_with fail
   refine(dR tb rb s p 3 _ l Y (by omega)).mono ?_;rintro e w2 (⟨G,a2,rfl,S,H⟩|⟨⟨T,a,rfl,G⟩,S,H⟩)
   ·have N1:au (bZ s 3 ⟨p,false⟩=(bC s p 3,⟨p+3,false⟩)):=gV s 3 p a2;have a0:bC s p 3<8:=fJ s p 3;have I:sZ w2 w.heap.size 19 (fun k=>L.getD k 0):=O.over (H.block _ O.lt b.2.1 b.2.2);have o:iK w2:=m.over (H.block _ (aN B hF.size) z A);have ho:=o j (by omega);have q:=QO j;generalize bC s p 3=x at*;obtain⟨r,t⟩:∃r,r=order.getD j 0:=⟨_,rfl⟩;rw[<-t]at ho q;have HO:au (r=order.getD j 0):=t;clear t;obtain⟨a5,a6⟩:=I.cn r q;have U:=I.set r x q (x:Int) rfl;go_wp2_with fail
    go_roundw
    case rel=>
     refine⟨j+1,p+3,L.set r x,by omega,by go_num,?_,by simpa using N,U.congr (fun k D=> ?_),S.dY _ _ _ b.1 b.2.1 b.2.2,(hF.trans H).dY _ _ (ah _) _⟩
     ·rw[R.out,H1.out,N1.out,<-HO.out]
     ·rw[YU L r x k (by omega)]
    case measure=>simp[bH];omega
   ·have HB:dJ tb w2 T a ((DW (bK M.1).xk M.2).dV=true):=G.imp (fun G=>Jf _ _ (by rw[R.out,H1.out];exact DJ s _ _ _ _ G));clear G;go_wp2_with fail
    go_ret2;exact .inr ⟨⟨T,a,rfl,HB⟩,S,hF.trans H⟩
  ·have c:au (M=(L,⟨p,false⟩)):=(by rw[R.out,show n-j=0 by omega];rfl:_=_);have u:∀x∈L,x<=15:=by have:=i;rw[c.out]at this;exact this
   have J:jL wr w.heap.size 0 L:=O.bytes L N (fun k _=>rfl);have f:=Ba w.heap.size 0 19 L wr J (by omega) u;rw[N]at f;have V:=O.lt;go_wp2_with fail
   refine f.mono ?_;rintro e w2 ⟨rfl,hw⟩;have hw:=hw.symm;subst hw;by_cases d:uk L=1
   ·have g:=XO w.heap.size 0 19 L wr J V (by omega) u;rw[N]at g;have d1:((uk L:Int)==1)=true:=by rw[d];rfl
    have W:au (iR L=32768):=(NW L).1 d;rw[d];go_wp2_with fail
    refine g.mono ?_;rintro e w3 ⟨⟨k,rfl,g1,g2⟩,v⟩;have K:Rd w3 tb rb s p:=l.grow (fun k D=>v.block k D);have X:RF tb rb w w3:=hF.trans ⟨v.os,v.tape,v.output,v.size,fun k D _ _=>v.block k D⟩;go_wp2_with fail
    go_ret2;exact .inl ⟨k,p,by rw[c.out],by rw[c.out];exact W.out,rfl,by rw[c.out];exact g1,K,X⟩
   ·have d1:((uk L:Int)==1)=false:=by rw[aI];omega
    have W:au (¬iR L=32768):=(fun e=>d ((NW L).2 e):¬_);go_wp2_with fail
    refine(cZ _ _).mono ?_;rintro e w3 ⟨rfl,rfl⟩;go_wp2_with fail
    go_ret2;refine .inr ⟨⟨_,_,rfl,dJ.uh ?_⟩,oH.FZ l _,hF.alloc _⟩;rw[c.out];dsimp only;unfold DW;rw[rU L u,ax W.out]
def Tn(r:(Nat×Nat×dG) ⊕ dG):Prop:=match r with
 | .inl (_,_,st)=>st.dV=true
 | .inr st=>st.dV=true
theorem abx(tb:Src)(rb:Nat)(s:ByteArray)(pos y g cap:Nat)(L:List Nat)(w:af)(h:Rd w tb rb s pos)(z:s.size<=140737488354000)(J:y<=18)(K:L.length<=400)(C:∀x∈L,x<=15)
 (b:0<L.length->w.cell? ⟨g,L.length-1,none⟩=some (.int .u8 ((L.getD (L.length-1) 0:Nat):Int))):
 aH prog 169 #[.pointer (some ⟨rb,0,none⟩),.int .i64 (y:Int),.slice (some ⟨g,0,none⟩) L.length cap] w fun e w'=>
  (∃v k p,jC s L y ⟨pos,false⟩= .inl (v,k,⟨p,false⟩)/\v<=15/\1<=k/\k<=200/\e= .returned (.tuple #[.int .u8 (v:Int),.int .i64 (k:Int),.nilIface])/\Rd w' tb rb s p/\RF tb rb w w')\/
  ((∃x n T a,e= .returned (.tuple #[x,.int .i64 n,.iface T (.pointer (some a))])/\dJ tb w' T a (Tn (jC s L y ⟨pos,false⟩)))/\oH w' tb rb s/\RF tb rb w w'):=by
 by_cases l:y=16
 ·subst l;by_cases h0:L.length=0
  ·have D:((L.length:Int)==0)=true:=by rw[mD];omega
   have d:au (Tn (jC s L 16 ⟨pos,false⟩)):=(by unfold jC;rw[aG rfl,aG h0];rfl:Tn _);clear b;generalize L.length=n at*;subst h0;go_enter func169,ntmps169
   go_wp2_with fail
   refine(cZ _ _).mono ?_;rintro e w1 ⟨rfl,rfl⟩;go_wp2_with fail
   go_ret3
   exact .inr ⟨⟨_,_,_,_,rfl,dJ.uh d.out⟩,oH.FZ h _,(RF.refl _ _ w).alloc _⟩
  ·have E:=b (by omega);have F:L.getD (L.length-1) 0<=15:=jU L 15 C _;have A:(L.length:Int)-1=((L.length-1:Nat):Int):=by omega
   have D:((L.length:Int)==0)=false:=by rw[aI];omega
   have d:au (jC s L 16 ⟨pos,false⟩= .inl (L.getD (L.length-1) 0,3+(bZ s 2 ⟨pos,false⟩).1,(bZ s 2 ⟨pos,false⟩).2)):=(by unfold jC;rw[aG rfl,ax h0]:_=_);have m:(((L.length-1:Nat):Int))<(L.length:Int):=by omega
   clear b;generalize L.getD (L.length-1) 0=v at*;have hp:1<=L.length:=by omega
   obtain⟨B,j⟩:∃B,B=L.length-1:=⟨_,rfl⟩;rw[<-j]at E A m;clear j;go_enter func169,ntmps169
   go_wp2_with fail
   refine(dR tb rb s pos 2 _ h z (by omega)).mono ?_;rintro e w1 (⟨c,o,rfl,f,i⟩|⟨⟨T,a,rfl,c⟩,f,i⟩)
   ·have q:au (bZ s 2 ⟨pos,false⟩=(bC s pos 2,⟨pos+2,false⟩)):=gV s 2 pos o;have r:bC s pos 2<4:=fJ s pos 2;generalize bC s pos 2=x at*;go_wp2_with fail
    go_ret3
    refine .inl ⟨v,3+x,pos+2,by rw[d.out,q.out],F,by omega,by omega,?_,f,i⟩;rw[show((3+x:Nat):Int)=(x:Int)+3 by omega];rfl
   ·go_wp2_with fail
    go_ret3
    exact .inr ⟨⟨_,_,T,a,rfl,c.imp (fun c=>by rw[d.out];exact c)⟩,f,i⟩
 ·have G:((y:Int)==16)=false:=by rw[aI];omega
  clear b;by_cases t:y=17
  ·subst t;have d:au (jC s L 17 ⟨pos,false⟩= .inl (0,3+(bZ s 3 ⟨pos,false⟩).1,(bZ s 3 ⟨pos,false⟩).2)):=(by unfold jC;rw[ax (by omega),aG rfl]:_=_);go_enter func169,ntmps169
   go_wp2_with fail
   refine(dR tb rb s pos 3 _ h z (by omega)).mono ?_;rintro e w1 (⟨c,o,rfl,f,i⟩|⟨⟨T,a,rfl,c⟩,f,i⟩)
   ·have q:au (bZ s 3 ⟨pos,false⟩=(bC s pos 3,⟨pos+3,false⟩)):=gV s 3 pos o;have r:bC s pos 3<8:=fJ s pos 3;generalize bC s pos 3=x at*;go_wp2_with fail
    go_ret3
    refine .inl ⟨0,3+x,pos+3,by rw[d.out,q.out],by omega,by omega,by omega,?_,f,i⟩;rw[show((3+x:Nat):Int)=(x:Int)+3 by omega];rfl
   ·go_wp2_with fail
    go_ret3
    exact .inr ⟨⟨_,_,T,a,rfl,c.imp (fun c=>by rw[d.out];exact c)⟩,f,i⟩
  ·have H:((y:Int)==17)=false:=by rw[aI];omega
   by_cases u:y=18
   ·subst u;have d:au (jC s L 18 ⟨pos,false⟩= .inl (0,11+(bZ s 7 ⟨pos,false⟩).1,(bZ s 7 ⟨pos,false⟩).2)):=(by unfold jC;rw[ax (by omega),ax (by omega),aG rfl]:_=_);go_enter func169,ntmps169
    go_wp2_with fail
    refine(dR tb rb s pos 7 _ h z (by omega)).mono ?_;rintro e w1 (⟨c,o,rfl,f,i⟩|⟨⟨T,a,rfl,c⟩,f,i⟩)
    ·have q:au (bZ s 7 ⟨pos,false⟩=(bC s pos 7,⟨pos+7,false⟩)):=gV s 7 pos o;have r:bC s pos 7<128:=fJ s pos 7;generalize bC s pos 7=x at*;go_wp2_with fail
     go_ret3
     refine .inl ⟨0,11+x,pos+7,by rw[d.out,q.out],by omega,by omega,by omega,?_,f,i⟩;rw[show((11+x:Nat):Int)=(x:Int)+11 by omega];rfl
    ·go_wp2_with fail
     go_ret3
     exact .inr ⟨⟨_,_,T,a,rfl,c.imp (fun c=>by rw[d.out];exact c)⟩,f,i⟩
   ·have I:((y:Int)==18)=false:=by rw[aI];omega
    have d:au (jC s L y ⟨pos,false⟩= .inl (y,1,⟨pos,false⟩)):=(by unfold jC;rw[ax l,ax t,ax u]:_=_);go_enter func169,ntmps169
    go_wp2_with fail
    go_ret3
    exact .inl ⟨y,1,pos,d.out,by omega,by omega,by omega,rfl,h,RF.refl _ _ _⟩
def jJ(L:List Nat):List ay:=L.map fun x=> .int .u8 ((x:Nat):Int)
theorem Hu(L:List Nat)(x:Nat):jJ (L++[x])=jJ L++[.int .u8 ((x:Nat):Int)]:=by simp[jJ]
theorem x_(s:ByteArray)(N:Nat)(cs:List (Nat×List UInt8))(f:Nat)(L:List Nat)(p:Nat)(h:L.length<N)(hb:Tn (jC s L (dX s cs ⟨p,false⟩).1 (dX s cs ⟨p,false⟩).2)):(mG s N cs (f+1) L ⟨p,false⟩).2.dV=true:=by
 cases e:jC s L (dX s cs ⟨p,false⟩).1 (dX s cs ⟨p,false⟩).2 with
 |inl r=>obtain⟨v,k,qR⟩:=r;rw[e]at hb;rw[LD s N cs f L _ h rfl v k qR e,Ij _ _ _ _ _ _ hb];exact hb
 |inr qR=>rw[e]at hb;rw[Pg s N cs f L _ h rfl qR e];exact hb
theorem Hw(s:ByteArray)(N:Nat)(cs:List (Nat×List UInt8))(f:Nat)(L:List Nat)(p:Nat)(h:L.length<N)(hb:(dX s cs ⟨p,false⟩).2.dV=true):(mG s N cs (f+1) L ⟨p,false⟩).2.dV=true:=by apply x_ s N cs f L p h;rw[Jd s cs _ hb];unfold jC;rw[ax (by omega),ax (by omega),ax (by omega)];exact hb
theorem YW{tb:Src}{rb g:Nat}{w wr w2:af}{o:Obj}(a:RF tb rb w wr)(b:(wr.alloc o).grownBy w2 (some g))(h:w.heap.size<=g):RF tb rb w w2:=
 ⟨b.os.trans a.os,b.tape.trans a.tape,b.output.trans a.output,by have:=b.size;have:=a.size;simp at*;omega,fun k c h1 h2=>(b.block k (by have:=a.size;simp;omega) (by intro e;injection e with e;omega)).trans ((alloc_old (by have:=a.size;omega)).trans (a.block k c h1 h2))⟩
theorem YX{tb:Src}{rb g:Nat}{wr w2:af}{o:Obj}{s:ByteArray}{p:Nat}(h:Rd wr tb rb s p)(c:(wr.alloc o).grownBy w2 (some g))(h0:tb.base<=g)(h1:¬tb.F g)(h2:g≠rb):Rd w2 tb rb s p:=by
 have d:=h.GM;refine h.over (fun k a=> ?_) ((c.block _ (by simp;omega) (by intro e;injection e with e;exact h2 e.symm)).trans (alloc_old d.2.1));have b:=d.1 k a;refine(c.block k (by simp;omega) (fun e=> ?_)).trans (alloc_old b);injection e with e
 subst e;rcases a with a|a
 ·exact h1 a
 ·omega
theorem YY(tb:Src)(rb kt:Nat)(s:ByteArray)(pos N:Nat)(m:List Nat)(w:af)(h:Rd w tb rb s pos)(hT:EI w kt m)(a7:m.length=19)(hx:∀x∈m,x<=15)(hK:kN m 16<=32768)(hs:s.size<=140737488354000)(hN:N<=320):
 aH prog 157 #[.pointer (some ⟨rb,0,none⟩),.pointer (some ⟨kt,0,none⟩),.int .i64 (N:Int)] w fun e w'=>
  (∃L p g cap,mG s N (bK m).cs (N+1) [] ⟨pos,false⟩=(L,⟨p,false⟩)/\L.length=N/\(∀x∈L,x<=15)/\e= .returned (.tuple #[.slice (some ⟨g,0,none⟩) N cap,.nilIface])/\w'.ownsRow w.heap.size 5 1 (.slice (some ⟨g,0,none⟩) N cap) N (jJ L)/\Rd w' tb rb s p/\RF tb rb w w')\/
  ((∃T a,e= .returned (.tuple #[.slice none 0 0,.iface T (.pointer (some a))])/\dJ tb w' T a ((mG s N (bK m).cs (N+1) [] ⟨pos,false⟩).2.dV=true\/(mG s N (bK m).cs (N+1) [] ⟨pos,false⟩).1.length≠N))/\oH w' tb rb s/\RF tb rb w w'):=by
 obtain⟨i0,hi,J,K,M⟩:=info_parts MN;have a0:(Instr.makeSlice 39 (.int .i64 0) (.int .i64 (N:Int))).run prog w= .ok (.slice (some ⟨w.heap.size,0,none⟩) 0 N) (w.alloc (.cells (madeCells #[.int .u8 0] N) 5)):=by have h:=run_make (P:=prog) w 39 5 i0 _ underlying39 hi J .i64 .i64 0 (N:Int) (by omega) (by omega) (by rw[M];omega) (by omega);rw[h,K];simp[Value.cells]
 clear hi J K M;have a8:=h.GM;have O:(w.alloc (.cells (madeCells #[.int .u8 0] N) 5)).ownsRow w.heap.size 5 1 (.slice (some ⟨w.heap.size,0,none⟩) 0 N) 0 []:=⟨rfl,.inr ⟨w.heap.size,N,_,rfl,ah _,jE w _ _ rfl,aX _,by unfold maxLen;omega,by rw[oU];omega,by simp⟩⟩;obtain⟨R,B⟩:∃R,R=mG s N (bK m).cs (N+1) [] ⟨pos,false⟩:=⟨_,rfl⟩;rw[<-B];have a1:au _:=B;clear B;go_enter func157,ntmps157
 go_wp2_with fail
 go_loopw [8] (fun v wr=> ∃(f p g cap:Nat) (L:List Nat),R=mG s N (bK m).cs f L ⟨p,false⟩/\N-L.length<f/\L.length<=N/\(∀x∈L,x<=15)/\v= .slice (some ⟨g,0,none⟩) L.length cap/\wr.ownsRow w.heap.size 5 1 v L.length (jJ L)/\Rd wr tb rb s p/\RF tb rb w wr) (fun v _=>match v with| .slice _ n _=>N-n|_=>0)
 case atStart=>exact⟨N+1,pos,w.heap.size,N,[],a1.out,by simp,aX _,by simp,rfl,O,h.alloc _,(RF.refl _ _ w).alloc _⟩
 case round=>
  clear a0 O;obtain⟨f,p,g,cap,L,hR,hf,a9,C,rfl,j,Q,hF⟩:=hrel;have HR:au _:=hR;clear hR;have D:=j.lt g rfl;have u:=h.new D.1;have a2:EI wr kt m:=hT.over h hF;by_cases l:L.length<N
  ·obtain⟨S,a3⟩:∃S,f=S+1:=⟨f-1,by omega⟩;subst a3;go_wp2_with fail
   refine(Uj kt tb rb m s p _ a2 Q hs (by omega) hx hK).mono ?_;rintro e w1 (⟨y,p1,z,rfl,k2,I⟩|⟨⟨T,a,rfl,z⟩,k2,I⟩);rotate_left
   ·have HW:dJ tb w1 T a (R.2.dV=true\/R.1.length≠N):=z.imp (fun z=> .inl (by rw[HR.out];exact Hw s N _ _ L p l z));clear z;go_wp2_with fail
    go_ret2;exact .inr ⟨⟨T,a,rfl,HW⟩,k2,hF.trans I⟩
   have hy:y<19:=by have:=WX s m ⟨p,false⟩ (by omega);rw[z]at this;omega
   have K1:au _:=z;have b:w1.ownsRow w.heap.size 5 1 (.slice (some ⟨g,0,none⟩) L.length cap) L.length (jJ L):=fZ j (fun k U=>by simp[Value.ownBlock]at U;subst U;exact I.block _ D.2 u.2.1 u.2.2)
   have c:0<L.length->w1.cell? ⟨g,L.length-1,none⟩=some (.int .u8 ((L.getD (L.length-1) 0:Nat):Int)):=fun h0=>by rw[b.cellAt (L.length-1) (by omega)];simp[jJ,List.getD_eq_getElem?_getD,List.getElem?_eq_getElem (show L.length-1<L.length by omega)]
   clear z;go_wp2_with fail
   refine(abx tb rb s p1 y g cap L _ k2 hs (by omega) (by omega) C c).mono ?_;rintro e w2 (⟨v,k,p2,E,r2,r3,r4,rfl,r5,r6⟩|⟨⟨x,n,T,a,rfl,E⟩,r3,r4⟩);rotate_left
   ·have HW:dJ tb w2 T a (R.2.dV=true\/R.1.length≠N):=E.imp (fun E=> .inl (by
     rw[HR.out];refine x_ s N _ _ L p l ?_;rw[K1.out];exact E))
    clear c E;go_wp2_with fail
    go_ret2;exact .inr ⟨⟨T,a,rfl,HW⟩,r3,(hF.trans I).trans r4⟩
   have V:au (R=mG s N (bK m).cs S (L++List.replicate k v) ⟨p2,false⟩):=(by rw[HR.out];exact LD s N _ S L _ l rfl v k ⟨p2,false⟩ (by rw[K1.out];exact E):_=_)
   have o:w2.ownsRow w.heap.size 5 1 (.slice (some ⟨g,0,none⟩) L.length cap) L.length (jJ L):=fZ b (fun k U=>by simp[Value.ownBlock]at U;subst U;exact r6.block _ (aN D.2 I.size) u.2.1 u.2.2)
   have F:=(hF.trans I).trans r6;clear c E j b;have b0:(L.length:Int)<=400:=by omega
   have b1:(k:Int)<=200:=by omega
   by_cases b2:k<=N-L.length;rotate_left
   ·have d1:decide ((N:Int)-(L.length:Int)<(k:Int))=true:=aZ (by omega);have HB:au (R.1.length≠N):=(by
     rw[V.out,Ew s N _ _ _ _ (by simp;omega)];simp;omega:_≠_)
    go_wp2_with fail
    refine(cZ _ _).mono ?_;rintro e w3 ⟨rfl,rfl⟩;go_wp2_with fail
    go_ret2;exact .inr ⟨⟨_,_,rfl,dJ.uh (.inr HB.out)⟩,oH.FZ r5 _,F.alloc _⟩
   have d1:decide ((N:Int)-(L.length:Int)<(k:Int))=false:=aS (by omega);go_wp2_with fail
   go_loopw [8,47] (fun vv iv wx=> ∃(i g cap:Nat),i<=k/\iv= .int .i64 (i:Int)/\vv= .slice (some ⟨g,0,none⟩) (L.length+i) cap/\wx.ownsRow w.heap.size 5 1 vv (L.length+i) (jJ (L++List.replicate i v))/\Rd wx tb rb s p2/\RF tb rb w wx) (fun _ iv _=>k-(bH iv).toNat)
   case atStart=>exact⟨0,g,cap,aX _,rfl,rfl,by simpa using o,r5,F⟩
   case round=>
    clear o F r5;obtain⟨i,g3,W,hi,rfl,rfl,d,A,G⟩:=hrel;have X:=d.lt g3 rfl;have q:=h.new X.1;by_cases b3:i<k
    ·have a4:L.length+i<=100000000:=by omega
     have a5:w.heap.size<=wr.heap.size:=G.size;have a6:au (jJ (L++List.replicate i v)++[.int .u8 ((v:Nat):Int)]=jJ (L++List.replicate (i+1) v)):=(by rw[<-Hu,bI,List.replicate_succ']:_=_)
     go_wp2_with (first
      |(at_builtin;refine pK rfl _ _ rfl w.heap.size _ (L.length+i) (jJ (L++List.replicate i v)) ((v:Nat):Int) d rfl rfl a4 a5 ?_;go_must (intro v' w4 r hg hw;obtain⟨g',Y,rfl⟩:=lI.jB r))
      |go_in)
     go_roundw
     case rel=>refine⟨i+1,g',Y,by omega,by go_num,rfl,?_,YX (g:=g3) A hg q.1 q.2.1 q.2.2,YW (g:=g3) G hg X.1⟩;rw[<-a6.out];exact r
     case measure=>simp[bH];omega
    ·have Z:i=k:=by omega
     subst Z;have hlen:(L++List.replicate i v).length=L.length+i:=by simp
     go_wp2_with fail
     go_roundw
     case rel=>
      refine⟨S,p2,g3,W,L++List.replicate i v,V.out,by omega,by omega,?_,by rw[hlen],by rw[hlen];exact d,A,G⟩;intro x t;rcases List.mem_append.1 t with t|t
      ·exact C x t
      ·rw[List.eq_of_mem_replicate t];exact r2
     case measure=>simp;omega
  ·have H:L.length=N:=by omega
   have HB:au (R=(L,⟨p,false⟩)):=(by rw[HR.out];exact Ew s N _ _ L _ l:_=_);go_wp2_with fail
   go_ret2;exact .inl ⟨L,p,g,cap,HB.out,H,C,by rw[<-H];rfl,by rw[<-H];exact j,Q,hF⟩
end Pr
namespace Rf
theorem F_(x:Nat)(L:List Nat):vz (x::L)=(if 0<x then 1 else 0)+vz L:=by
 unfold vz;by_cases h:0<x
 ·simp[h];omega
 ·simp[h]
theorem Gf(x:Nat)(L:List Nat):iR (x::L)=(if 0<x then pw (15-x)else 0)+iR L:=by unfold iR;rw[List.map_cons,List.sum_cons]
theorem Hy(L:List Nat)(h:iR L=0):vz L=0:=by
 induction L with
 |nil=>rfl
 |cons x L b=>
  rw[Gf]at h;have a:¬0<x:=by intro a;rw[aG a]at h;have:=WN (15-x);omega
  rw[ax a]at h;rw[F_,ax a,b (by omega)]
theorem Tq(L:List Nat):∀i,L.getD i 0≠0->0<vz L:=by
 induction L with
 |nil=>intro i h;simp at h
 |cons x L a=>
  intro i h;rw[F_];cases i with
  |zero=>simp at h;rw[aG (by omega)];omega
  |succ i=>have:=a i (by simpa using h);omega
theorem NY(L:List Nat):∀i,vz L=1->L.getD i 0≠0->iR L=pw (15-L.getD i 0):=by
 induction L with
 |nil=>intro i h;cases h
 |cons x L c=>
  intro i h h2;rw[F_]at h;rw[Gf];cases i with
  |zero=>simp at h2;rw[aG (by omega)]at h|-;rw[qO L (by omega)];simp
  |succ i=>
   have b:L.getD i 0≠0:=by simpa using h2
   have d:=Tq L i b;have a:¬0<x:=by intro a;rw[aG a]at h;omega
   rw[ax a]at h|-;have:=c i (by omega) b;simp only[List.getD_cons_succ];omega
theorem adH(x:Nat)(h0:x≠0)(h:x<=15)(e:pw (15-x)=16384):x=1:=by
 by_cases h1:x=1
 ·exact h1
 ·have h2:pw (15-x)<=pw 13:=Ih _ _ (by omega);have a:pw 13=8192:=rfl;omega
end Rf
namespace Pr
open Go.RowKit Rf
theorem KH(L:List Nat):uk L<=3:=by
 unfold uk;split
 ·omega
 ·split
  ·omega
  ·split<;>omega
def Vy(A B:List Nat):Prop:=(uk A=1\/uk A=2)/\A.getD 256 0≠0/\uk B≠0
theorem Vz(a:Nat)(L:List Nat)(r:257<=a)(s:a<=L.length)(e:∀x∈L,x<=15):wu a L=false↔Vy (L.take a) (L.drop a):=by
 have f:∀x∈L.take a,x<=15:=fun x h=>e x (oV h);have o:∀x∈L.drop a,x<=15:=fun x h=>e x (List.mem_of_mem_drop h);have c:L.getD 256 0=(L.take a).getD 256 0:=by rw[ag,ag,dh (by omega)]
 unfold wu Vy ach aci Jv;rw[rU _ f,rU _ o,c];generalize g:L.take a=A at*;generalize i:L.drop a=B at*;have d:A.getD 256 0<=15:=jU A 15 f 256;have t:A.getD 256 0≠0->vz A=1->iR A=16384->A.getD 256 0=1:=fun h1 h2 b=>by have:=NY A 256 h2 h1;exact adH _ h1 d (by omega)
 have p:vz A=0->A.getD 256 0=0:=fun h=>by
  by_cases h0:A.getD 256 0=0
  ·exact h0
  ·have:=Tq A 256 h0;omega
 have q:vz B=0↔iR B=0:=⟨qO B,Hy B⟩;unfold uk;generalize A.getD 256 0=x at*;generalize vz A=j at*;generalize iR A=k at*;generalize vz B=cb at*;generalize iR B=l at*;clear g i f o c e s r;simp only[Bool.or_eq_false_iff,Bool.and_eq_false_iff,beq_eq_false_iff_ne,bne_eq_false_iff_eq,Bool.not_eq_false',Bool.and_eq_true,beq_iff_eq,Bool.or_eq_true,ne_eq];constructor
 ·rintro⟨⟨h1,h2⟩,b⟩;refine⟨?_,h1,?_⟩
  ·by_cases c0:j=0
   ·exact absurd (p c0) h1
   ·rw[ax c0];by_cases c1:k=32768
    ·rw[aG c1];exact .inl rfl
    ·rw[ax c1];rcases h2 with h2|⟨⟨m,_⟩,n⟩
     ·exact absurd h2 c1
     ·rw[aG ⟨n,m⟩];exact .inr rfl
  ·by_cases c0:cb=0
   ·rw[aG c0];omega
   ·rw[ax c0];by_cases c1:l=32768
    ·rw[aG c1];omega
    ·rw[ax c1];rcases b with b|b|⟨m,n⟩
     ·exact absurd b c1
     ·exact absurd (q.2 b) c0
     ·rw[aG ⟨n,m⟩];omega
 ·rintro⟨h1,h2,b⟩;refine⟨⟨h2,?_⟩,?_⟩
  ·by_cases c0:j=0
   ·exact absurd (p c0) h2
   ·rw[ax c0]at h1;by_cases c1:k=32768
    ·exact .inl c1
    ·rw[ax c1]at h1;by_cases c2:j=1/\k=16384
     ·exact .inr ⟨⟨c2.2,t h2 c2.1 c2.2⟩,c2.1⟩
     ·rw[ax c2]at h1;omega
  ·by_cases c0:cb=0
   ·exact .inr (.inl (q.1 c0))
   ·rw[ax c0]at b;by_cases c1:l=32768
    ·exact .inl c1
    ·rw[ax c1]at b;by_cases c2:cb=1/\l=16384
     ·exact .inr (.inr ⟨c2.2,c2.1⟩)
     ·rw[ax c2]at b;omega
theorem Tt(L:List Nat)(a:∀x∈L,x<=15)(h:uk L≠0):kN L 16<=32768:=by
 rw[A_ L a];unfold uk at h;by_cases c0:vz L=0
 ·rw[qO L c0];omega
 ·rw[ax c0]at h;by_cases c1:iR L=32768
  ·omega
  ·rw[ax c1]at h;by_cases c2:vz L=1/\iR L=16384
   ·omega
   ·rw[ax c2]at h;omega
theorem YZ(b o cap f g a:Nat)(A B:List Nat)(w:af)(m:jL w b o A)(h:A.length<=400)(n:257<=A.length)(i:∀x∈A,x<=15)(p:jL w f g B)(j:B.length<=400)(k:∀x∈B,x<=15)(l:Vy A B):
 aH prog 158 #[.slice (some ⟨b,o,none⟩) A.length cap,.slice (some ⟨f,g,none⟩) B.length a] w fun e w'=>e= .returned .nilIface/\w'=w:=by
 obtain⟨h1,h2,r⟩:=l;have s:=m 256 (by omega);have q:=KH B;have c:=Ba b o cap A w m h i;have d:=Ba f g a B w p j k;generalize A.getD 256 0=x at*;generalize uk A=fa at*;generalize uk B=fb at*;have t:((x:Int)==0)=false:=by rw[aI];omega
 have u:((fb:Int)==0)=false:=by rw[aI];omega
 rcases h1 with rfl|rfl
 ·go_enter func158,ntmps158
  go_wp2_with fail
  refine c.mono ?_;rintro e w1 ⟨rfl,hw⟩;have hw:=hw.symm;subst hw;go_wp2_with fail
  refine d.mono ?_;rintro e w1 ⟨rfl,hw⟩;have hw:=hw.symm;subst hw;go_wp2_with fail
  go_ret;exact⟨rfl,rfl⟩
 ·go_enter func158,ntmps158
  go_wp2_with fail
  refine c.mono ?_;rintro e w1 ⟨rfl,hw⟩;have hw:=hw.symm;subst hw;go_wp2_with fail
  refine d.mono ?_;rintro e w1 ⟨rfl,hw⟩;have hw:=hw.symm;subst hw;go_wp2_with fail
  go_ret;exact⟨rfl,rfl⟩
theorem Y_(b o cap j k c:Nat)(A B:List Nat)(w:af)(r:jL w b o A)(l:A.length<=400)(t:257<=A.length)(f:∀x∈A,x<=15)(u:jL w j k B)(m:B.length<=400)(n:∀x∈B,x<=15)(g:¬Vy A B):
 aH prog 158 #[.slice (some ⟨b,o,none⟩) A.length cap,.slice (some ⟨j,k,none⟩) B.length c] w fun e w'=>(∃a,e= .returned (.iface 93 (.pointer (some a))))/\∃o,w'=w.alloc o:=by
 have D:=r 256 (by omega);have s:A.getD 256 0<=15:=jU A 15 f 256;have v:=KH A;have y:=KH B;have d:=Ba b o cap A w r l f;have p:=Ba j k c B w u m n;have z:au (¬((uk A=1\/uk A=2)/\A.getD 256 0≠0/\uk B≠0)):=g;clear g;generalize A.getD 256 0=x at*;generalize uk A=fa at*;generalize uk B=fb at*;by_cases h1:fa=1\/fa=2
 ·have C:(fa=1->((fa:Int)==1)=true)/\True:=⟨fun h=>by subst h;rfl,trivial⟩;by_cases h2:x=0
  ·subst h2;rcases h1 with rfl|rfl
   all_goals
    go_enter func158,ntmps158
    go_wp2_with fail
    refine d.mono ?_;rintro e w1 ⟨rfl,hw⟩;have hw:=hw.symm;subst hw;go_wp2_with fail
    refine(cZ _ _).mono ?_;rintro e w2 ⟨rfl,rfl⟩;go_wp2_with fail
    go_ret;exact⟨⟨_,rfl⟩,_,rfl⟩
  ·have i:fb=0:=by
    by_cases i:fb=0
    ·exact i
    ·exact absurd ⟨h1,h2,i⟩ z.out
   subst i;have E:((x:Int)==0)=false:=by rw[aI];omega
   rcases h1 with rfl|rfl
   all_goals
    go_enter func158,ntmps158
    go_wp2_with fail
    refine d.mono ?_;rintro e w1 ⟨rfl,hw⟩;have hw:=hw.symm;subst hw;go_wp2_with fail
    refine p.mono ?_;rintro e w1 ⟨rfl,hw⟩;have hw:=hw.symm;subst hw;go_wp2_with fail
    refine(cZ _ _).mono ?_;rintro e w2 ⟨rfl,rfl⟩;go_wp2_with fail
    go_ret;exact⟨⟨_,rfl⟩,_,rfl⟩
 ·have q:fa=0\/fa=3:=by omega
  clear h1;rcases q with rfl|rfl
  all_goals
   go_enter func158,ntmps158
   go_wp2_with fail
   refine d.mono ?_;rintro e w1 ⟨rfl,hw⟩;have hw:=hw.symm;subst hw;go_wp2_with fail
   refine(cZ _ _).mono ?_;rintro e w2 ⟨rfl,rfl⟩;go_wp2_with fail
   go_ret;exact⟨⟨_,rfl⟩,_,rfl⟩
end Pr
namespace Pr
open Go.RowKit Rf
theorem QS{w:af}{base g N cap a:Nat}{L:List Nat}(h:w.ownsRow base 5 1 (.slice (some ⟨g,0,none⟩) N cap) N (jJ L))(b:L.length=N)(c:a<=N):jL w g 0 (L.take a):=by intro i hi;simp at hi;rw[fQ,h.cellAt i (by omega)];simp[jJ,List.getD_eq_getElem?_getD,List.getElem?_take_of_lt (show i<a by omega),List.getElem?_eq_getElem (show i<L.length by omega)]
theorem QT{w:af}{base g N cap a:Nat}{L:List Nat}(h:w.ownsRow base 5 1 (.slice (some ⟨g,0,none⟩) N cap) N (jJ L))(b:L.length=N)(c:a<=N):jL w g a (L.drop a):=by intro i hi;simp at hi;rw[h.cellAt (a+i) (by omega)];simp[jJ,List.getD_eq_getElem?_getD,List.getElem?_drop,List.getElem?_eq_getElem (show a+i<L.length by omega)]
theorem Za(tb:Src)(rb:Nat)(s:ByteArray)(pos:Nat)(w:af)(h:Rd w tb rb s pos)(C:iK w)(U:s.size<=140737488354000)(D:¬tb.F 6)(E:6≠rb)(G:6<w.heap.size):
 aH prog 146 #[.pointer (some ⟨rb,0,none⟩)] w fun e w'=>
  (∃S V p k,(∀aO most out,AP s aO most ⟨⟨pos,false⟩,out⟩=iZ s aO most (bK S).cs (bK V).cs (8*s.size+1) ⟨⟨p,false⟩,out⟩)/\Fit S/\Fit V/\S.length<=286/\e= .returned (.tuple #[.pointer (some ⟨k,0,none⟩),.nilIface])/\lM w' k S V/\Rd w' tb rb s p/\RF tb rb w w')\/
  ((∃T a,e= .returned (.tuple #[.pointer none,.iface T (.pointer (some a))])/\dJ tb w' T a (∀aO most out,(AP s aO most ⟨⟨pos,false⟩,out⟩).st.dV=true))/\oH w' tb rb s/\RF tb rb w w'):=by
 go_enter func146,ntmps146
 go_wp2_with fail
 refine(QN tb rb s pos _ h U).mono ?_;rintro e w1 (⟨a,b,n,c1,c2,c3,c4,c5,c6,c7,rfl,c8,c9⟩|⟨⟨T,a,rfl,c1⟩,c3,c4⟩);rotate_left
 ·go_wp2_with fail
  go_ret2;exact .inr ⟨⟨T,a,rfl,c1.imp (fun c1 aO most out=>abu s aO most _ c1)⟩,c3,c4⟩
 have W:au _:=c1;have r:iK w1:=C.over (c9.block _ G D E);have t:=abw s n ⟨pos+14,false⟩;have f:=YP s n ⟨pos+14,false⟩;clear c1;go_wp2_with fail
 refine(YV tb rb s (pos+14) n _ c8 r U c7 D E (aN G c9.size)).mono ?_;rintro e w2 (⟨k,p1,d1,d2,rfl,d3,d4,d5⟩|⟨⟨T,x,rfl,d1⟩,d3,d4⟩);rotate_left
 ·go_wp2_with fail
  go_ret2;exact .inr ⟨⟨T,x,rfl,d1.imp (fun d1 aO most out=>Vs s aO most _ (by dsimp only;rw[W.out];exact d1))⟩,d3,c9.trans d4⟩
 have H:au (∀a b,AO s a b n ⟨pos+14,false⟩=mG s (a+b) (bK (KF s n ⟨pos+14,false⟩).1).cs (a+b+1) [] ⟨p1,false⟩):=fun a b=>by have m:AO s a b n ⟨pos+14,false⟩=mG s (a+b) (bK (KF s n ⟨pos+14,false⟩).1).cs (a+b+1) [] (DW (bK (KF s n ⟨pos+14,false⟩).1).xk (KF s n ⟨pos+14,false⟩).2):=rfl;rw[m,rU _ f];unfold DW;rw[aG d2];have u:=jo Prod.snd d1;dsimp only at u;rw[u]
 have X:kN (KF s n ⟨pos+14,false⟩).1 16<=32768:=by rw[A_ _ f];omega
 clear d1 d2;generalize (KF s n ⟨pos+14,false⟩).1=SM at*;have Y:(a:Int)+(b:Int)=((a+b:Nat):Int):=by omega
 have q:a+b<=320:=by omega
 obtain⟨N,Z⟩:∃N,N=a+b:=⟨_,rfl⟩;rw[<-Z]at Y q;have HN:au (N=a+b):=Z;have I:a<=N:=by omega
 have a5:N-a<=30:=by omega
 clear Z;go_wp2_with fail
 refine(YY tb rb k s p1 N SM _ d4 d3 t f X U q).mono ?_;rintro e w3 (⟨L,p2,g,cap,m,u,e3,rfl,y,e5,e6⟩|⟨⟨T,x,rfl,m⟩,e3,y⟩);rotate_left
 ·go_wp2_with fail
  go_ret2;refine .inr ⟨⟨T,x,rfl,m.imp (fun m aO most out=> ?_)⟩,e3,(c9.trans d5).trans y⟩;rw[Ed];dsimp only;rw[W.out];dsimp only;refine Af _ _ _ _ _ _ _ _ ?_;rw[H.out a b,<-HN.out];exact m
 have HO:au (∀aO most out,AP s aO most ⟨⟨pos,false⟩,out⟩=BR s aO most a b out L ⟨p2,false⟩):=fun aO most out=>by rw[Ed];dsimp only;rw[W.out];dsimp only;rw[H.out a b,<-HN.out,m]
 clear m;have J:(L.take a).length=a:=by simp;omega
 have K:(L.drop a).length=N-a:=by simp;omega
 have j:∀x∈L.take a,x<=15:=fun x hx=>e3 x (oV hx);have l:∀x∈L.drop a,x<=15:=fun x hx=>e3 x (List.mem_of_mem_drop hx);have z:=QS y u I;have A:=QT y u I;have M:=(y.lt g rfl).2;have a3:N<=cap:=by
  rcases y.2 with⟨h,_⟩|⟨g',a4,cur,h,_,_,h2,_⟩
  ·cases h
  ·injection h with _ _ h3;omega
 have O:=(c9.trans d5).trans e6;have HW:au (wu a L=false↔Vy (L.take a) (L.drop a)):=Vz a L (by omega) (by omega) e3;have P:au (L.length=a+b):=(by rw[u];exact HN.out:_=_);clear u y;by_cases c:Vy (L.take a) (L.drop a)
 ·have d:=YZ g 0 cap g a (cap-a) (L.take a) (L.drop a) w3.drew (by exact z) (by omega) (by omega) j (by exact A) (by omega) l c;have Q:=zJ g 0 cap g a (cap-a) (L.take a) (L.drop a) w3.drew.drew (by exact z) (by exact M) (by omega) j (by exact A) (by exact M) (by omega) l;rw[J,K]at d Q;have a0:Fit (L.take a):=⟨by omega,j,Tt _ j (by rcases c.1 with h|h<;>omega),by omega⟩;have a1:Fit (L.drop a):=⟨by omega,l,Tt _ l c.2.2,by omega⟩;have B:au (wu a L=false):=HW.out.2 c;clear c;go_upto_region 10 with fail
  go_cut [10] (fun v wx=>v= .nilIface/\wx=w3.drew)
  case first=>
   go_region_with ((go_at_call 158;refine d.mono ?_;rintro e wz ⟨rfl,rfl⟩))
   all_goals
    go_wp2_with fail
    go_meet
    case rel=>exact⟨rfl,rfl⟩
  case rest=>
   obtain⟨rfl,rfl⟩:=hcut;go_upto_region 13 with fail
   go_cut [2,3] (fun v v3 wx=>(∃k,v= .pointer (some ⟨k,0,none⟩)/\lM wx k (L.take a) (L.drop a))/\v3= .nilIface/\aA w3.heap.size w3 wx)
   case first=>
    go_region_with ((go_at_call 151;refine Q.mono ?_;rintro e wz ⟨⟨kk,rfl,t1,t2⟩,i⟩))
    all_goals
     go_wp2_with fail
     go_meet
     case rel=>exact⟨⟨kk,rfl,t1⟩,rfl,⟨i.os,i.tape,i.output,i.size,i.block⟩⟩
   case rest=>
    obtain⟨⟨kk,rfl,t1⟩,rfl,i⟩:=hcut;have R:Rd wc tb rb s p2:=e5.grow (fun k hk=>i.block k hk);have a2:RF tb rb w wc:=O.trans ⟨i.os,i.tape,i.output,i.size,fun k hk _ _=>i.block k hk⟩;go_wp2_with fail
    go_ret2;exact .inl ⟨L.take a,L.drop a,p2,kk,fun aO most out=>by rw[HO.out,aaD s aO most a b out L _ rfl P.out B.out],a0,a1,by omega,rfl,t1,R,a2⟩
 ·have d:=Y_ g 0 cap g a (cap-a) (L.take a) (L.drop a) w3.drew (by exact z) (by omega) (by omega) j (by exact A) (by omega) l c;rw[J,K]at d;have B:au (wu a L=true):=(by
   cases hw:wu a L with
   |true=>rfl
   |false=>exact absurd (HW.out.1 hw) c:_=_)
  clear c;go_upto_region 10 with fail
  go_cut [10] (fun v wx=>(∃x,v= .iface 93 (.pointer (some x)))/\oH wx tb rb s/\RF tb rb w wx)
  case first=>
   go_region_with ((go_at_call 158;refine d.mono ?_;rintro e wz ⟨⟨x,rfl⟩,o,rfl⟩))
   all_goals
    go_wp2_with fail
    go_meet
    case rel=>exact⟨⟨x,rfl⟩,oH.alloc (oH.drew e5.zC) _,O.drew.alloc _⟩
  case rest=>
   obtain⟨⟨x,rfl⟩,g1,g2⟩:=hcut;go_wp2_with fail
   go_ret2;exact .inr ⟨⟨_,x,rfl,dJ.uh (fun aO most out=>by rw[HO.out,Po s aO most a b out L _ rfl P.out B.out])⟩,g1,g2⟩
def Bj(w:af)(tb:Src)(rb:Nat):Nat:=(match w.cell? ⟨rb,3,none⟩with
 |some (.int _ n)=>8*n.toNat
 |_=>0)-BU w rb-8*tb.z
theorem yc{w:af}{tb:Src}{rb:Nat}{s:ByteArray}{pos:Nat}(h:Rd w tb rb s pos):Bj w tb rb=pos:=by
 obtain⟨c,d,h⟩:=h;have a:=BV h;obtain⟨t,h1,h2,e,f,g,b⟩:=h;have d3:w.cell? ⟨rb,3,none⟩=some (.int .i64 ((t+tb.z:Nat):Int)):=by simpa using(cell_of b 3).1
 unfold Bj;rw[d3,a];simp only[Int.toNat_natCast];omega
theorem QV(y:Nat):(y<256/\iV y=(1,y,0))\/(y=256/\iV y=(2,0,0))\/(257<=y/\y<=285/\iV y=(3,jq y))\/(285<y/\iV y=(0,0,0)):=by
 by_cases h1:y<256
 ·exact .inl ⟨h1,by unfold iV;rw[aG h1]⟩
 ·by_cases h2:y=256
  ·exact .inr (.inl ⟨h2,by unfold iV;rw[ax h1,aG h2]⟩)
  ·by_cases a:y<=285
   ·exact .inr (.inr (.inl ⟨by omega,a,ML y (by omega) a⟩))
   ·exact .inr (.inr (.inr ⟨by omega,by unfold iV;rw[ax h1,ax h2,ax (by omega),ax (by omega),ax (by omega)]⟩))
theorem tJ(S:jy)(A:qN)(s:ByteArray)(aO most O:Nat)(p k:List Nat)(u:US)(w:af)(hP:vP S A.base)(h:UP S w A s aO most u)(hT:lM w O p k)(P:Fit p)(hB:Fit k)(hs:s.size<=140737488354000)(hm:most<=16777216)(V:1<=aO)(W:aO<=32768):
 aH prog 145 #[.pointer (some ⟨A.ub,0,none⟩),.pointer (some ⟨O,0,none⟩)] w fun e w'=>Res S A s aO most w (iZ s aO most (bK p).cs (bK k).cs (8*s.size+1) u) e w':=by
 obtain⟨R,I⟩:∃R,R=iZ s aO most (bK p).cs (bK k).cs (8*s.size+1) u:=⟨_,rfl⟩;rw[<-I];have b6:au _:=I;clear I;go_enter func145,ntmps145
 go_wp2_with fail
 go_loopw [6] (fun _ wr=> ∃(f:Nat) (t:US),R=iZ s aO most (bK p).cs (bK k).cs f t/\8*s.size-t.st.pos<f/\UP S wr A s aO most t/\PE A.base w wr) (fun _ wr=>8*s.size-Bj wr A.tb A.rb)
 case atStart=>exact⟨8*s.size+1,u,b6.out,by omega,h,PE.refl _ _⟩
 case round=>
  obtain⟨f,t,hR,hf,X,l⟩:=hrel;have F:=X.facts.1;obtain⟨⟨J,dV⟩,d⟩:=t;dsimp only at F hf;subst F;obtain⟨r,b7⟩:∃r,f=r+1:=⟨f-1,by omega⟩;subst b7;have Q:au _:=hR;clear hR;obtain⟨Y,kb,t1,t2,t3⟩:=hT.pe l;have b8:lM wr O p k:=hT.pe l;obtain⟨c0,_,_,_⟩:=X.cells;obtain⟨_,Z,f3⟩:=X.facts;dsimp only at Z f3;have G:au (Bj wr A.tb A.rb=J):=yc Z;have a0:wr.cell? ⟨O,0,none⟩=some (.pointer (some ⟨Y,0,none⟩)):=by simpa using(cell_of t1 0).1
  have o1:∀o:Obj,(wr.alloc o).cell? ⟨O,0,none⟩=some (.pointer (some ⟨Y,0,none⟩)):=fun o=>Er.bU a0 o;have o2:∀o:Obj,(wr.alloc o).cell? ⟨A.ub,0,none⟩=some (.pointer (some ⟨A.rb,0,none⟩)):=fun o=>Er.bU c0 o;have i:=Z.new (ah wr.heap.size);have a1:um (wr.alloc (.cells #[.int .u8 0,.int .i64 0,.int .u64 0] 251)).drew Y iV p:=t2.xu (w':=wr.alloc (.cells #[.int .u8 0,.int .i64 0,.int .u64 0] 251)) (fun b hb=>alloc_old hb);have a2:Rd (wr.alloc (.cells #[.int .u8 0,.int .i64 0,.int .u64 0] 251)).drew A.tb A.rb s J:=(Z.alloc _).drew;have a3:(wr.alloc (.cells #[.int .u8 0,.int .i64 0,.int .u64 0] 251)).drew.heap[wr.heap.size]?=some (.cells #[.int .u8 0,.int .i64 0,.int .u64 0] 251 (0,0)):=jE wr _ _ rfl;have a4:RF A.tb A.rb wr (wr.alloc (.cells #[.int .u8 0,.int .i64 0,.int .u64 0] 251)).drew:=((RF.refl _ _ wr).alloc _).drew;have a5:RF A.tb A.rb wr wr.drew:=(RF.refl _ _ wr).drew;clear t1 t3;go_upto_region 1 with fail
  go_cut [5,6] (fun v10 v8 wx=> ∃(m:Nat×Nat×Nat) (v:ay) (b:Nat),v8=v/\v10= .pointer (some ⟨b,0,none⟩)/\qJ wx b m/\qo A.tb A.rb s (bK p).cs J iV wr m v wx)
  case first=>
   go_region_with (first
    |(go_at_call 152;refine(yR Y A.tb A.rb p s J (wr.alloc (.cells #[.int .u8 0,.int .i64 0,.int .u64 0] 251)).drew iV a1 a2 hs P.len P.le P.zn).mono ?_;rintro e w3 ⟨m,v,rfl,x⟩;obtain⟨zz,z0,z1,z2,y0,y1,y2⟩:=Jg x.rf a3 i.2.1 i.2.2;replace x:=qo.from a4 x)
    |(go_at_call 152;refine(yR Y A.tb A.rb p s J _ iV (by exact t2) (by exact Z.drew) hs P.len P.le P.zn).mono ?_;rintro e w3 ⟨m,v,rfl,x⟩;replace x:=qo.from a5 x))
   all_goals
    go_wp2_with fail
    go_meet
    case rel=>first
     |exact⟨m,v,_,rfl,rfl,jE w3 _ _ rfl,x.alloc _⟩
     |exact⟨m,v,_,rfl,rfl,(bF (bF (bF zz 0 _) 1 _) 2 _).trans (by simp),((x.set (ah _) i.1 i.2.1 i.2.2 zz (by decide) 0 _).set (ah _) i.1 i.2.1 i.2.2 (bF zz 0 _) (by decide) 1 _).set (ah _) i.1 i.2.1 i.2.2 (bF (bF zz 0 _) 1 _) (by decide) 2 _⟩
  case rest=>
   obtain⟨lm,v,b,rfl,rfl,a6,b9⟩:=hcut;rcases b9 with⟨y,n,K,a7,rfl,x,g2⟩|⟨c6,⟨T,a,rfl,g0⟩,x,g2⟩;rotate_left
   ·have H:=X.zC x g2;have HW:dJ A.tb wc T a (Stop S R):=g0.imp (fun g0=> .inl (by rw[Q.out,TS s aO most _ _ r _ rfl g0];exact g0));clear g0 a6;go_wp2_with fail
    go_ret;exact .inr ⟨⟨T,a,rfl,HW⟩,H.1,l.trans H.2⟩
   ·have g:au _:=K;have c1:J+1<=n:=by
     have:=TW s (bK p).cs ⟨J,false⟩;rw[K]at this;rcases this with h|h
     ·cases h
     ·exact h
    have a8:au _:=a7;clear K a7;have a9:au _:=QV y;obtain⟨B,q⟩:=X.rd n x g2;have c2:=b8.pe q;have c5:=x.zS;obtain⟨m0,m1,m2⟩:=a6.c;clear a1 a2 a3 a4 a5 o1 o2 a0 c0 t2;rcases a9.out with⟨D,E⟩|⟨D,E⟩|⟨D,b0,E⟩|⟨D,E⟩;all_goals rw[<-a8.out]at E
    ·subst E;have b1:(y:Int)=(((UInt8.ofNat y).toNat:Nat):Int):=by simp;omega
     have z:au (R=iZ s aO most (bK p).cs (bK k).cs r (uO most (UInt8.ofNat y) ⟨⟨n,false⟩,d⟩)):=(by rw[Q.out,TT s aO most _ _ r _ rfl (by rw[g.out]) (by rw[g.out];exact D),g.out]:_=_)
     have L:=QJ S A s aO most ⟨⟨n,false⟩,d⟩ (UInt8.ofNat y) (y:Int) b1 wc hP B hm V W;have b2:au ((uO most (UInt8.ofNat y) ⟨⟨n,false⟩,d⟩).st.pos=n):=AQ most _ _;clear b1;go_wp2_with fail
     refine L.mono ?_;rintro e U (⟨j,rfl,C,M⟩|⟨⟨T,a,rfl,j⟩,C,M⟩)
     ·have N:au (Bj U A.tb A.rb=n):=(by have:=yc C.facts.2.1;rw[this];exact b2.out:_=_);go_wp2_with fail
      go_roundw
      case rel=>exact⟨r,_,z.out,by rw[b2.out];omega,C,l.trans (q.trans M)⟩
      case measure=>rw[N.out,G.out];omega
     ·have HW:dJ A.tb U T a (Stop S R):=j.imp (fun j=>j.mono (fun j=>by rw[z.out,Ii _ _ _ _ _ _ _ j];exact j) (by rw[z.out];exact yQ s aO most _ _ _ _));clear j;go_wp2_with fail
      go_ret;exact .inr ⟨⟨T,a,rfl,HW⟩,C,l.trans (q.trans M)⟩
    ·subst E;go_wp2_with fail
     go_ret;refine .inl ⟨?_,rfl,?_,l.trans q⟩
     ·rw[Q.out,Eu s aO most _ _ r _ rfl (by rw[g.out]) (by rw[g.out];exact D),g.out]
     ·rw[Q.out,Eu s aO most _ _ r _ rfl (by rw[g.out]) (by rw[g.out];exact D),g.out];exact B
    ·have z:au (R=if(jr s aO d.length (bK k).cs y ⟨n,false⟩).stop=true then jH s aO most (bK k).cs y ⟨⟨n,false⟩,d⟩else iZ s aO most (bK p).cs (bK k).cs r (jH s aO most (bK k).cs y ⟨⟨n,false⟩,d⟩)):=(by
      rw[Q.out,NS s aO most _ _ r _ rfl (by rw[g.out]) (by rw[g.out];exact D) (by rw[g.out];exact b0),g.out]:_=_)
     have b3:=Vx S A s aO most O y p k ⟨⟨n,false⟩,d⟩ wc hP B c2 hB hs hm V W D b0;rw[<-a8.out,E]at b3;have b4:au (n<=(jH s aO most (bK k).cs y ⟨⟨n,false⟩,d⟩).st.pos):=(by
      have h1:=Ik s aO d.length (bK k).cs y ⟨n,false⟩;unfold jH;split
      ·exact h1
      ·rw[R_];exact h1:_<=_)
     subst E;go_wp2_with fail
     refine b3.mono ?_;rintro e U (⟨j,rfl,C,M⟩|⟨⟨T,a,rfl,j⟩,C,M⟩)
     ·have b5:¬(jr s aO d.length (bK k).cs y ⟨n,false⟩).stop=true:=fun e=>by
       have h1:=NT s aO d.length (bK k).cs y ⟨n,false⟩ e;have h2:=yP (most:=most) (u:=⟨⟨n,false⟩,d⟩) h1;rw[h2]at j;cases j
      have c3:au (R=iZ s aO most (bK p).cs (bK k).cs r (jH s aO most (bK k).cs y ⟨⟨n,false⟩,d⟩)):=(by rw[z.out,ax b5]:_=_);have hle:=C.facts.2.1.zS;have N:au (Bj U A.tb A.rb=(jH s aO most (bK k).cs y ⟨⟨n,false⟩,d⟩).st.pos):=yc C.facts.2.1;clear b5;go_wp2_with fail
      go_roundw
      case rel=>exact⟨r,_,c3.out,by have:=b4.out;omega,C,l.trans (q.trans M)⟩
      case measure=>rw[N.out,G.out];have:=b4.out;omega
     ·have HW:dJ A.tb U T a (Stop S R):=j.imp (fun j=>by
       rw[z.out];split
       ·exact j
       ·exact j.mono (fun j=>by rw[Ii _ _ _ _ _ _ _ j];exact j) (yQ s aO most _ _ _ _))
      clear j;go_wp2_with fail
      go_ret;exact .inr ⟨⟨T,a,rfl,HW⟩,C,l.trans (q.trans M)⟩
    ·subst E;go_wp2_with fail
     refine(cZ _ _).mono ?_;rintro e U ⟨rfl,rfl⟩;go_wp2_with fail
     go_ret;refine .inr ⟨⟨_,_,rfl,dJ.uh (.inl ?_)⟩,B.ue.alloc _,l.trans (q.trans (PE.alloc _ _ _ B.base))⟩;rw[Q.out,OZ s aO most _ _ r _ rfl (by rw[g.out]) (by rw[g.out];exact D)]
theorem Tu:gU.length=288:=by simp[gU]
theorem Zf:∀x∈gU,x<=15:=by intro x a;simp only[gU,List.mem_map]at a;obtain⟨i,_,rfl⟩:=a;unfold sO;split<;>(try split)<;>omega
theorem Zg:iR gU=32768:=by decide+kernel
theorem QW:iR (List.replicate 32 5)=32768:=by decide+kernel
theorem N_:∀x∈List.replicate 32 5,x<=15:=fun x a=>by rw[List.eq_of_mem_replicate a];omega
theorem Tv:Fit gU:=⟨by rw[Tu];omega,Zf,by rw[A_ _ Zf,Zg];omega,by rw[Tu];omega⟩
theorem Jh:Fit (List.replicate 32 5):=⟨by simp,N_,by rw[A_ _ N_,QW];omega,by simp⟩
theorem UP.fx{S:jy}{w:af}{A:qN}{s:ByteArray}{aO most:Nat}{u:US}(h:UP S w A s aO most u):(w.cell? ⟨A.ub,5,none⟩=some (.pointer none)\/∃a,w.cell? ⟨A.ub,5,none⟩=some (.pointer (some ⟨a,0,none⟩))/\lM w a gU (List.replicate 32 5))/\w.frozen? ⟨A.ub,5,none⟩=false:=by
 obtain⟨l,F,fx,h1,h2,m,n,b,c,o,p,q,d,e,f,g,i,j⟩:=h;have c4:w.cell? ⟨A.ub,5,none⟩=some (.pointer fx):=by simpa using(cell_of b 5).1
 refine⟨?_,(cell_of b 5).2⟩;rcases c with rfl|⟨a,rfl,k⟩
 ·exact .inl c4
 ·exact .inr ⟨a,c4,k⟩
theorem UP.adJ{S:jy}{w:af}{A:qN}{s:ByteArray}{aO most:Nat}{u:US}(h:UP S w A s aO most u)(b:Nat)(a:lM w b gU (List.replicate 32 5)):
 UP S (w.setCell ⟨A.ub,5,none⟩ (.pointer (some ⟨b,0,none⟩))) A s aO most u/\PE A.base w (w.setCell ⟨A.ub,5,none⟩ (.pointer (some ⟨b,0,none⟩)))/\(w.setCell ⟨A.ub,5,none⟩ (.pointer (some ⟨b,0,none⟩))).cell? ⟨A.ub,5,none⟩=some (.pointer (some ⟨b,0,none⟩)):=by
 obtain⟨v,F,fx,h1,h2,x,c,d,C,y,q,z,l,m,g,n,o,i⟩:=h;have r:=bF d 5 (.pointer (some ⟨b,0,none⟩));have j:=h2.types d (by decide) (by decide);have p:A.gb≠A.ub:=fM c.1 d (by decide);have hp:PE A.base w (w.setCell ⟨A.ub,5,none⟩ (.pointer (some ⟨b,0,none⟩))):=⟨rfl,rfl,rfl,by simp,fun k a=>aC 5 _ (by omega),fun k cur T f e t=>aC 5 _ (fun B=>by rw[B,d]at e;simp at e;rw[<-e.2.1]at t;revert t;decide)⟩;refine⟨⟨v,F,some ⟨b,0,none⟩,h1,h2.dY _ _ _ i j.1 j.2,x,⟨(aC 5 _ p).trans c.1,fZ c.2.1 (fun k a=>aC 5 _ (fun e=>iy c.2.1 d (by decide) (e▸a))),by simpa using c.2.2⟩,r.trans (by simp),.inr ⟨b,rfl,a.pe hp⟩,g.iq y (fun k a=>a.elim (fun a=>aC 5 _ (q k a).2.2.2.2.1) (fun a=>hp.low k a)) (by simp),q,z,l.over (hp.low _ (by omega)),m,g,n,o,i⟩,hp,by simpa using(cell_of r 5).1⟩
theorem UP.ad8{S:jy}{w:af}{A:qN}{s:ByteArray}{aO most:Nat}{u:US}(h:UP S w A s aO most u):w.frozen? ⟨A.ub,3,none⟩=false:=by obtain⟨i,F,fx,h1,h2,j,k,a,l,m,n,o,b,c,d,e,f,g⟩:=h;exact(cell_of a 3).2
theorem UP.ac1{S:jy}{w:af}{A:qN}{s:ByteArray}{aO most:Nat}{u:US}(h:UP S w A s aO most u):
 UP S (w.setCell ⟨A.ub,3,none⟩ (.bool true)) ⟨A.tb,A.rb,A.gb,A.ub,true⟩ s aO most u/\PE A.base w (w.setCell ⟨A.ub,3,none⟩ (.bool true)):=by
 obtain⟨r,F,fx,h1,h2,t,b,c,v,x,p,y,j,l,d,m,n,g⟩:=h;have z:=bF c 3 (.bool true);have i:=h2.types c (by decide) (by decide);have o:A.gb≠A.ub:=fM b.1 c (by decide);have hp:PE A.base w (w.setCell ⟨A.ub,3,none⟩ (.bool true)):=⟨rfl,rfl,rfl,by simp,fun k a=>aC 3 _ (by omega),fun k cur T f e q=>aC 3 _ (fun B=>by rw[B,c]at e;simp at e;rw[<-e.2.1]at q;revert q;decide)⟩;exact⟨⟨r,F,fx,h1,h2.dY _ _ _ g i.1 i.2,t,⟨(aC 3 _ o).trans b.1,fZ b.2.1 (fun k a=>aC 3 _ (fun e=>iy b.2.1 c (by decide) (e▸a))),by simpa using b.2.2⟩,z.trans (by simp),v.imp id (fun⟨C,e,D⟩=>⟨C,e,D.pe hp⟩),d.iq x (fun k a=>a.elim (fun a=>aC 3 _ (p k a).2.2.2.2.1) (fun a=>hp.low k a)) (by simp),p,y,j.over (hp.low _ (by omega)),l,d,m,n,g⟩,hp⟩
theorem yg(S:jy)(A:qN)(s:ByteArray)(aO most:Nat)(u:US)(w:af)(r:vP S A.base)(h:UP S w A s aO most u)(t:s.size<=140737488354000)(hm:most<=16777216)(i:1<=aO)(j:aO<=32768):
 aH prog 138 #[.pointer (some ⟨A.ub,0,none⟩)] w fun e w'=>Res S A s aO most w (iZ s aO most (bK gU).cs (bK (List.replicate 32 5)).cs (8*s.size+1) u) e w':=by
 obtain⟨n,o⟩:=h.fx;rcases n with c4|⟨z,c4,B⟩
 ·go_enter func138,ntmps138
  go_wp2_with fail
  refine(JL _).mono ?_;rintro e w1 ⟨⟨k,rfl,x,F⟩,C⟩;obtain⟨l,m⟩:=h.grow C;obtain⟨b,y⟩:=l.fx;obtain⟨p,c,D⟩:=l.adJ k x;have q:=x.pe c;have c41:∃v,w1.cell? ⟨A.ub,5,none⟩=some v:=by
   rcases b with h|⟨_,h,_⟩
   ·exact⟨_,h⟩
   ·exact⟨_,h⟩
  obtain⟨v4,E⟩:=c41;clear c4 o b;go_wp2_with fail
  refine(tJ S A s aO most k gU (List.replicate 32 5) u _ r p q Tv Jh t hm i j).mono ?_;rintro e w3 (⟨d,rfl,f,g⟩|⟨⟨T,a,rfl,d⟩,f,g⟩)
  ·go_wp2_with fail
   go_ret;exact .inl ⟨d,rfl,f,(m.trans c).trans g⟩
  ·go_wp2_with fail
   go_ret;exact .inr ⟨⟨T,a,rfl,d⟩,f,(m.trans c).trans g⟩
 ·go_enter func138,ntmps138
  go_wp2_with fail
  refine(tJ S A s aO most z gU (List.replicate 32 5) u _ r h B Tv Jh t hm i j).mono ?_;rintro e w3 (⟨d,rfl,f,g⟩|⟨⟨T,a,rfl,d⟩,f,g⟩)
  ·go_wp2_with fail
   go_ret;exact .inl ⟨d,rfl,f,g⟩
  ·go_wp2_with fail
   go_ret;exact .inr ⟨⟨T,a,rfl,d⟩,f,g⟩
theorem UP.order{S:jy}{w:af}{A:qN}{s:ByteArray}{aO most:Nat}{u:US}(h:UP S w A s aO most u):iK w/\¬A.tb.F 6/\6≠A.rb/\6<w.heap.size:=by have hb:=h.base;obtain⟨k,F,fx,h1,h2,l,m,n,o,p,q,d,a,b,f,g,i,j⟩:=h;exact⟨a,fun e=>by have:=d.low _ e;have c:7<=A.tb.base:=b;omega,by omega,by omega⟩
theorem Bl(S:jy)(A:qN)(s:ByteArray)(aO most:Nat)(u:US)(w:af)(v:vP S A.base)(h:UP S w A s aO most u)(r:s.size<=140737488354000)(hm:most<=16777216)(i:1<=aO)(j:aO<=32768):
 aH prog 139 #[.pointer (some ⟨A.ub,0,none⟩)] w fun e w'=>Res S A s aO most w (AP s aO most u) e w':=by
 have b:=h.facts.1;obtain⟨⟨pos,dV⟩,out⟩:=u;dsimp only at b;subst b;obtain⟨c0,_,_,_⟩:=h.cells;obtain⟨_,x,_⟩:=h.facts;obtain⟨y,z,B,C⟩:=h.order;go_enter func139,ntmps139
 go_wp2_with fail
 refine(Za A.tb A.rb s pos _ x y r z B C).mono ?_;rintro e w1 (⟨D,E,p,k,d,F,l,t,rfl,G,H,I⟩|⟨⟨T,a,rfl,d⟩,l,t⟩)
 ·obtain⟨m,f⟩:=h.rd p H I;have g:au _:=d aO most out;clear d;go_wp2_with fail
  refine(tJ S A s aO most k D E _ _ v m G F l r hm i j).mono ?_;rintro e w3 (⟨n,rfl,o,q⟩|⟨⟨T,a,rfl,n⟩,o,q⟩)
  ·go_wp2_with fail
   go_ret;exact .inl ⟨by rw[g.out];exact n,rfl,by rw[g.out];exact o,f.trans q⟩
  ·go_wp2_with fail
   go_ret;exact .inr ⟨⟨T,a,rfl,by rw[g.out];exact n⟩,o,f.trans q⟩
 ·have c:=h.zC l t;have g:dJ A.tb w1 T a (Stop S (AP s aO most ⟨⟨pos,false⟩,out⟩)):=d.imp (fun d=> .inl (d aO most out));clear d;go_wp2_with fail
  go_ret;exact .inr ⟨⟨T,a,rfl,g⟩,c.1,c.2⟩
theorem tK(s:ByteArray)(aO most y:Nat)(u:US)(h:u.st.dV=true):(qh s aO most y u).st.dV=true:=by unfold qh;rw[aG h];exact h
theorem KI(S:jy)(A:qN)(s:ByteArray)(aO most:Nat)(u:US)(w:af)(h:UP S w A s aO most u)(hm:most<=16777216):
 aH prog 140 #[.pointer (some ⟨A.ub,0,none⟩),.int .i64 0] w fun e w'=>((A.al=true->most<=u.out.length)/\e= .returned .nilIface/\w'=w)\/((∃T a,e= .returned (.iface T (.pointer (some a)))/\dJ A.tb w' T a (qm A most u))/\UE w' A s/\PE A.base w w'):=FK S A s aO most 0 u w h hm (by omega)
theorem abA(S:jy)(A:qN)(s:ByteArray)(aO most pos:Nat)(out:List UInt8)(w:af)(C:vP S A.base)(h:UP S w A s aO most ⟨⟨pos,false⟩,out⟩)(v:s.size<=140737488354000)(hm:most<=16777216)(p:1<=aO)(q:aO<=32768)(o:bC s pos 1=0):
 aH prog 130 #[.pointer (some ⟨A.ub,0,none⟩)] w fun e w'=>
  ((iI s aO most ⟨⟨pos,false⟩,out⟩).1=0/\pos+3<=8*s.size/\(iI s aO most ⟨⟨pos,false⟩,out⟩).2.st.dV=false/\pos+3<=(iI s aO most ⟨⟨pos,false⟩,out⟩).2.st.pos/\e= .returned (.tuple #[.bool false,.nilIface])/\UP S w' A s aO most (iI s aO most ⟨⟨pos,false⟩,out⟩).2/\PE A.base w w')\/
  ((∃b T a,e= .returned (.tuple #[.bool b,.iface T (.pointer (some a))])/\dJ A.tb w' T a (Stop S (iI s aO most ⟨⟨pos,false⟩,out⟩).2))/\UE w' A s/\PE A.base w w'):=by
 obtain⟨c0,_,_,_⟩:=h.cells;obtain⟨_,r,_⟩:=h.facts;dsimp only at r;have D:=wF A.tb A.rb s pos w r v;have E:=wB s pos;rw[o]at D E;have N:au _:=E;clear o E;go_enter func130,ntmps130
 go_wp2_with fail
 refine D.mono ?_;rintro e w1 (⟨x,K,rfl,F,G⟩|⟨⟨T,a,rfl,x⟩,F,G⟩);rotate_left
 ·have g:=h.zC F G;have m:dJ A.tb w1 T a (Stop S (iI s aO most ⟨⟨pos,false⟩,out⟩).2):=x.imp (fun x=> .inl (tK _ _ _ _ _ (mX s 2 _ x)));clear x;go_wp2_with fail
  go_ret2;exact .inr ⟨⟨_,T,a,rfl,m⟩,g.1,g.2⟩
 obtain⟨n,z⟩:=h.rd _ F G;have L:au (kE s ⟨pos,false⟩=(0,⟨pos+1,false⟩)):=N.out K;clear c0 r D;obtain⟨c0,_,_,_⟩:=n.cells;obtain⟨_,r,_⟩:=n.facts;dsimp only at r;go_wp2_with fail
 refine(dR A.tb A.rb s (pos+1) 2 _ r v (by omega)).mono ?_;rintro e w2 (⟨B,M,rfl,H,I⟩|⟨⟨T,a,rfl,B⟩,H,I⟩);rotate_left
 ·have g:=n.zC H I;have m:dJ A.tb w2 T a (Stop S (iI s aO most ⟨⟨pos,false⟩,out⟩).2):=B.imp (fun B=>(.inl (by
   unfold iI;dsimp only;rw[L.out];exact tK _ _ _ _ _ B)))
  clear B;go_wp2_with fail
  go_ret2;exact .inr ⟨⟨_,T,a,rfl,m⟩,g.1,z.trans g.2⟩
 obtain⟨i,J⟩:=n.rd _ H I;have O:au (bZ s 2 ⟨pos+1,false⟩=(bC s (pos+1) 2,⟨pos+1+2,false⟩)):=gV s 2 (pos+1) M;have P:bC s (pos+1) 2<4:=fJ s (pos+1) 2;generalize bC s (pos+1) 2=y at*;have c:au (iI s aO most ⟨⟨pos,false⟩,out⟩=(0,qh s aO most y ⟨⟨pos+1+2,false⟩,out⟩)):=(by unfold iI;dsimp only;rw[L.out];dsimp only;rw[O.out]:_=_)
 have t:au (pos+1+2<=(qh s aO most y ⟨⟨pos+1+2,false⟩,out⟩).st.pos):=LH s aO most y ⟨⟨pos+1+2,false⟩,out⟩;have u:au (pos+3<=8*s.size):=(by omega:_<=_);have d:=z.trans J;clear c0 r K M;rcases(by omega:y=0\/y=1\/y=2\/y=3)with rfl|rfl|rfl|rfl
 ·have j:au (qh s aO most 0 ⟨⟨pos+1+2,false⟩,out⟩=jA s most ⟨⟨pos+1+2,false⟩,out⟩):=rfl;go_wp2_with fail
  refine(zM S A s aO most _ false _ C i v hm p q).mono ?_;rintro e w3 (⟨f,rfl,k,l⟩|⟨⟨T,a,rfl,f⟩,k,l⟩)
  ·go_wp2_with fail
   go_ret2;exact .inl ⟨by rw[c.out],u.out,by rw[c.out,j.out];exact f,by rw[c.out];have:=t.out;omega,rfl,by rw[c.out,j.out];exact k,d.trans l⟩
  ·have m:dJ A.tb w3 T a (Stop S (iI s aO most ⟨⟨pos,false⟩,out⟩).2):=f.imp (fun f=>by rw[c.out,j.out];exact f.elim id (fun e=>by cases e.1));clear f;go_wp2_with fail
   go_ret2;exact .inr ⟨⟨_,T,a,rfl,m⟩,k,d.trans l⟩
 ·have j:au (qh s aO most 1 ⟨⟨pos+1+2,false⟩,out⟩=iZ s aO most (bK gU).cs (bK (List.replicate 32 5)).cs (8*s.size+1) ⟨⟨pos+1+2,false⟩,out⟩):=rfl;go_wp2_with fail
  refine(yg S A s aO most _ _ C i v hm p q).mono ?_;rintro e w3 (⟨f,rfl,k,l⟩|⟨⟨T,a,rfl,f⟩,k,l⟩)
  ·go_wp2_with fail
   go_ret2;exact .inl ⟨by rw[c.out],u.out,by rw[c.out,j.out];exact f,by rw[c.out];have:=t.out;omega,rfl,by rw[c.out,j.out];exact k,d.trans l⟩
  ·have m:dJ A.tb w3 T a (Stop S (iI s aO most ⟨⟨pos,false⟩,out⟩).2):=f.imp (fun f=>by rw[c.out,j.out];exact f);clear f;go_wp2_with fail
   go_ret2;exact .inr ⟨⟨_,T,a,rfl,m⟩,k,d.trans l⟩
 ·have j:au (qh s aO most 2 ⟨⟨pos+1+2,false⟩,out⟩=AP s aO most ⟨⟨pos+1+2,false⟩,out⟩):=rfl;go_wp2_with fail
  refine(Bl S A s aO most _ _ C i v hm p q).mono ?_;rintro e w3 (⟨f,rfl,k,l⟩|⟨⟨T,a,rfl,f⟩,k,l⟩)
  ·go_wp2_with fail
   go_ret2;exact .inl ⟨by rw[c.out],u.out,by rw[c.out,j.out];exact f,by rw[c.out];have:=t.out;omega,rfl,by rw[c.out,j.out];exact k,d.trans l⟩
  ·have m:dJ A.tb w3 T a (Stop S (iI s aO most ⟨⟨pos,false⟩,out⟩).2):=f.imp (fun f=>by rw[c.out,j.out];exact f);clear f;go_wp2_with fail
   go_ret2;exact .inr ⟨⟨_,T,a,rfl,m⟩,k,d.trans l⟩
 ·go_wp2_with fail
  refine(cZ _ _).mono ?_;rintro e w3 ⟨rfl,rfl⟩;go_wp2_with fail
  go_ret2;exact .inr ⟨⟨_,_,_,rfl,dJ.uh (.inl (by rw[c.out];rfl))⟩,i.ue.alloc _,d.trans (PE.alloc _ _ _ i.base)⟩
theorem abB(S:jy)(A:qN)(s:ByteArray)(aO most pos:Nat)(out:List UInt8)(w:af)(I:vP S A.base)(h:UP S w A s aO most ⟨⟨pos,false⟩,out⟩)(x:s.size<=140737488354000)(hm:most<=16777216)(q:1<=aO)(r:aO<=32768)(p:bC s pos 1=1):
 aH prog 130 #[.pointer (some ⟨A.ub,0,none⟩)] w fun e w'=>
  ((iI s aO most ⟨⟨pos,false⟩,out⟩).1=1/\pos+3<=8*s.size/\(iI s aO most ⟨⟨pos,false⟩,out⟩).2.st.dV=false/\pos+3<=(iI s aO most ⟨⟨pos,false⟩,out⟩).2.st.pos/\e= .returned (.tuple #[.bool true,.nilIface])/\UP S w' A s aO most (iI s aO most ⟨⟨pos,false⟩,out⟩).2/\PE A.base w w'/\(A.al=true->most<=(iI s aO most ⟨⟨pos,false⟩,out⟩).2.out.length))\/
  ((∃b T a,e= .returned (.tuple #[.bool b,.iface T (.pointer (some a))])/\dJ A.tb w' T a (Stop S (iI s aO most ⟨⟨pos,false⟩,out⟩).2\/qm A most (iI s aO most ⟨⟨pos,false⟩,out⟩).2))/\UE w' A s/\PE A.base w w'):=by
 obtain⟨c0,_,_,_⟩:=h.cells;obtain⟨_,t,_⟩:=h.facts;dsimp only at t;have J:=wF A.tb A.rb s pos w t x;have K:=wB s pos;rw[p]at J K;have V:au _:=K;clear p K;go_enter func130,ntmps130
 go_wp2_with fail
 refine J.mono ?_;rintro e w1 (⟨z,Q,rfl,L,M⟩|⟨⟨T,a,rfl,z⟩,L,M⟩);rotate_left
 ·have i:=h.zC L M;have k:dJ A.tb w1 T a (Stop S (iI s aO most ⟨⟨pos,false⟩,out⟩).2\/qm A most (iI s aO most ⟨⟨pos,false⟩,out⟩).2):=z.imp (fun z=> .inl (.inl (tK _ _ _ _ _ (mX s 2 _ z))));clear z;go_wp2_with fail
  go_ret2;exact .inr ⟨⟨_,T,a,rfl,k⟩,i.1,i.2⟩
 obtain⟨o,B⟩:=h.rd _ L M;have R:au (kE s ⟨pos,false⟩=(1,⟨pos+1,false⟩)):=V.out Q;clear c0 t J;obtain⟨c0,_,_,_⟩:=o.cells;obtain⟨_,t,_⟩:=o.facts;dsimp only at t;go_wp2_with fail
 refine(dR A.tb A.rb s (pos+1) 2 _ t x (by omega)).mono ?_;rintro e w2 (⟨C,U,rfl,N,O⟩|⟨⟨T,a,rfl,C⟩,N,O⟩);rotate_left
 ·have i:=o.zC N O;have k:dJ A.tb w2 T a (Stop S (iI s aO most ⟨⟨pos,false⟩,out⟩).2\/qm A most (iI s aO most ⟨⟨pos,false⟩,out⟩).2):=C.imp (fun C=> .inl ((.inl (by
   unfold iI;dsimp only;rw[R.out];exact tK _ _ _ _ _ C))))
  clear C;go_wp2_with fail
  go_ret2;exact .inr ⟨⟨_,T,a,rfl,k⟩,i.1,B.trans i.2⟩
 obtain⟨n,P⟩:=o.rd _ N O;have W:au (bZ s 2 ⟨pos+1,false⟩=(bC s (pos+1) 2,⟨pos+1+2,false⟩)):=gV s 2 (pos+1) U;have X:bC s (pos+1) 2<4:=fJ s (pos+1) 2;generalize bC s (pos+1) 2=y at*;have c:au (iI s aO most ⟨⟨pos,false⟩,out⟩=(1,qh s aO most y ⟨⟨pos+1+2,false⟩,out⟩)):=(by unfold iI;dsimp only;rw[R.out];dsimp only;rw[W.out]:_=_)
 have u:au (pos+1+2<=(qh s aO most y ⟨⟨pos+1+2,false⟩,out⟩).st.pos):=LH s aO most y ⟨⟨pos+1+2,false⟩,out⟩;have v:au (pos+3<=8*s.size):=(by omega:_<=_);have d:=B.trans P;clear c0 t Q U;rcases(by omega:y=0\/y=1\/y=2\/y=3)with rfl|rfl|rfl|rfl
 ·have j:au (qh s aO most 0 ⟨⟨pos+1+2,false⟩,out⟩=jA s most ⟨⟨pos+1+2,false⟩,out⟩):=rfl;go_wp2_with fail
  refine(zM S A s aO most _ true _ I n x hm q r).mono ?_;rintro e w3 (⟨g,rfl,l,m⟩|⟨⟨T,a,rfl,g⟩,l,m⟩)
  ·have D:=KI S A s aO most _ _ l hm;go_wp2_with fail
   refine D.mono ?_;rintro e E (⟨f,rfl,hw⟩|⟨⟨T,a,rfl,f⟩,F,G⟩)
   ·have H:au _:=f;clear f;subst hw;go_wp2_with fail
    go_ret2;exact .inl ⟨by rw[c.out],v.out,by rw[c.out,j.out];exact g,by rw[c.out];have:=u.out;omega,rfl,by rw[c.out,j.out];exact l,d.trans m,by rw[c.out,j.out];exact H.out⟩
   ·have k:dJ A.tb E T a (Stop S (iI s aO most ⟨⟨pos,false⟩,out⟩).2\/qm A most (iI s aO most ⟨⟨pos,false⟩,out⟩).2):=f.imp (fun f=> .inr (by rw[c.out,j.out];exact f));clear f;go_wp2_with fail
    go_ret2;exact .inr ⟨⟨_,T,a,rfl,k⟩,F,(d.trans m).trans G⟩
  ·have k:dJ A.tb w3 T a (Stop S (iI s aO most ⟨⟨pos,false⟩,out⟩).2\/qm A most (iI s aO most ⟨⟨pos,false⟩,out⟩).2):=g.imp (fun g=>by rw[c.out,j.out];exact g.imp id And.right);clear g;go_wp2_with fail
   go_ret2;exact .inr ⟨⟨_,T,a,rfl,k⟩,l,d.trans m⟩
 ·have j:au (qh s aO most 1 ⟨⟨pos+1+2,false⟩,out⟩=iZ s aO most (bK gU).cs (bK (List.replicate 32 5)).cs (8*s.size+1) ⟨⟨pos+1+2,false⟩,out⟩):=rfl;go_wp2_with fail
  refine(yg S A s aO most _ _ I n x hm q r).mono ?_;rintro e w3 (⟨g,rfl,l,m⟩|⟨⟨T,a,rfl,g⟩,l,m⟩)
  ·have D:=KI S A s aO most _ _ l hm;go_wp2_with fail
   refine D.mono ?_;rintro e E (⟨f,rfl,hw⟩|⟨⟨T,a,rfl,f⟩,F,G⟩)
   ·have H:au _:=f;clear f;subst hw;go_wp2_with fail
    go_ret2;exact .inl ⟨by rw[c.out],v.out,by rw[c.out,j.out];exact g,by rw[c.out];have:=u.out;omega,rfl,by rw[c.out,j.out];exact l,d.trans m,by rw[c.out,j.out];exact H.out⟩
   ·have k:dJ A.tb E T a (Stop S (iI s aO most ⟨⟨pos,false⟩,out⟩).2\/qm A most (iI s aO most ⟨⟨pos,false⟩,out⟩).2):=f.imp (fun f=> .inr (by rw[c.out,j.out];exact f));clear f;go_wp2_with fail
    go_ret2;exact .inr ⟨⟨_,T,a,rfl,k⟩,F,(d.trans m).trans G⟩
  ·have k:dJ A.tb w3 T a (Stop S (iI s aO most ⟨⟨pos,false⟩,out⟩).2\/qm A most (iI s aO most ⟨⟨pos,false⟩,out⟩).2):=g.imp (fun g=> .inl (by rw[c.out,j.out];exact g));clear g;go_wp2_with fail
   go_ret2;exact .inr ⟨⟨_,T,a,rfl,k⟩,l,d.trans m⟩
 ·have j:au (qh s aO most 2 ⟨⟨pos+1+2,false⟩,out⟩=AP s aO most ⟨⟨pos+1+2,false⟩,out⟩):=rfl;go_wp2_with fail
  refine(Bl S A s aO most _ _ I n x hm q r).mono ?_;rintro e w3 (⟨g,rfl,l,m⟩|⟨⟨T,a,rfl,g⟩,l,m⟩)
  ·have D:=KI S A s aO most _ _ l hm;go_wp2_with fail
   refine D.mono ?_;rintro e E (⟨f,rfl,hw⟩|⟨⟨T,a,rfl,f⟩,F,G⟩)
   ·have H:au _:=f;clear f;subst hw;go_wp2_with fail
    go_ret2;exact .inl ⟨by rw[c.out],v.out,by rw[c.out,j.out];exact g,by rw[c.out];have:=u.out;omega,rfl,by rw[c.out,j.out];exact l,d.trans m,by rw[c.out,j.out];exact H.out⟩
   ·have k:dJ A.tb E T a (Stop S (iI s aO most ⟨⟨pos,false⟩,out⟩).2\/qm A most (iI s aO most ⟨⟨pos,false⟩,out⟩).2):=f.imp (fun f=> .inr (by rw[c.out,j.out];exact f));clear f;go_wp2_with fail
    go_ret2;exact .inr ⟨⟨_,T,a,rfl,k⟩,F,(d.trans m).trans G⟩
  ·have k:dJ A.tb w3 T a (Stop S (iI s aO most ⟨⟨pos,false⟩,out⟩).2\/qm A most (iI s aO most ⟨⟨pos,false⟩,out⟩).2):=g.imp (fun g=> .inl (by rw[c.out,j.out];exact g));clear g;go_wp2_with fail
   go_ret2;exact .inr ⟨⟨_,T,a,rfl,k⟩,l,d.trans m⟩
 ·go_wp2_with fail
  refine(cZ _ _).mono ?_;rintro e w3 ⟨rfl,rfl⟩;go_wp2_with fail
  go_ret2;exact .inr ⟨⟨_,_,_,rfl,dJ.uh (.inl (.inl (by rw[c.out];rfl)))⟩,n.ue.alloc _,d.trans (PE.alloc _ _ _ n.base)⟩
theorem KJ(S:jy)(A:qN)(s:ByteArray)(aO most:Nat)(u:US)(w:af)(q:vP S A.base)(h:UP S w A s aO most u)(r:s.size<=140737488354000)(hm:most<=16777216)(j:1<=aO)(m:aO<=32768):
 aH prog 130 #[.pointer (some ⟨A.ub,0,none⟩)] w fun e w'=>
  (∃l:Nat,l<=1/\(iI s aO most u).1=l/\u.st.pos+3<=8*s.size/\(iI s aO most u).2.st.dV=false/\u.st.pos+3<=(iI s aO most u).2.st.pos/\e= .returned (.tuple #[.bool (decide (l=1)),.nilIface])/\UP S w' A s aO most (iI s aO most u).2/\PE A.base w w'/\(l=1->A.al=true->most<=(iI s aO most u).2.out.length))\/
  ((∃b T a,e= .returned (.tuple #[.bool b,.iface T (.pointer (some a))])/\dJ A.tb w' T a (Stop S (iI s aO most u).2\/(bC s u.st.pos 1=1/\qm A most (iI s aO most u).2)))/\UE w' A s/\PE A.base w w'):=by
 have c:=h.facts.1;obtain⟨⟨pos,dV⟩,out⟩:=u;dsimp only at c|-;subst c;have v:=fJ s pos 1;rcases(by omega:bC s pos 1=0\/bC s pos 1=1)with h0|h0
 ·refine(abA S A s aO most pos out w q h r hm j m h0).mono ?_;rintro e w' (⟨d,f,g,i,n,o,p⟩|⟨⟨b,T,a,d,f⟩,g,i⟩)
  ·exact .inl ⟨0,by omega,d,f,g,i,n,o,p,fun e=>by cases e⟩
  ·exact .inr ⟨⟨b,T,a,d,f.imp .inl⟩,g,i⟩
 ·refine(abB S A s aO most pos out w q h r hm j m h0).mono ?_;rintro e w' (⟨d,f,g,i,n,o,p,t⟩|⟨⟨b,T,a,d,f⟩,g,i⟩)
  ·exact .inl ⟨1,by omega,d,f,g,i,n,o,p,fun _=>t⟩
  ·exact .inr ⟨⟨b,T,a,d,f.imp (Or.imp id (fun k=>⟨h0,k⟩))⟩,g,i⟩
def ad9(S:jy)(A:qN)(s:ByteArray)(aO most:Nat)(w:af)(U:US)(e:Ending)(w':af):Prop:=
 (U.st.dV=false/\e= .returned .nilIface/\UP S w' A s aO most U/\PE A.base w w'/\(A.al=true->most<=U.out.length))\/
 ((∃T a,e= .returned (.iface T (.pointer (some a)))/\dJ A.tb w' T a (Stop S U\/qm A most U))/\UE w' A s/\PE A.base w w')
theorem abC(s:ByteArray)(aO most:Nat)(u:US)(h:u.st.dV=false)(h1:u.st.pos<=8*s.size)(hb:bC s u.st.pos 1=1):(iI s aO most u).1≠0\/(iI s aO most u).2.st.dV=true:=by
 obtain⟨⟨pos,dV⟩,out⟩:=u;dsimp only at h h1 hb;subst h;by_cases h2:pos<8*s.size
 ·refine .inl ?_;show(kE s ⟨pos,false⟩).1≠0;rw[wB s pos h2,hb];exact Nat.one_ne_zero
 ·refine .inr (tK _ _ _ _ _ (mX s 2 _ ?_));exact Ey s pos h2
theorem yS(unit:ByteArray)(n:Int)(T:aW)(a:bG)(w:af):
 aH prog 38 #[.string unit,.int .i64 n,.iface T (.pointer (some a))] w fun e w'=>e= .returned (.iface 110 (.pointer (some ⟨w.heap.size,0,none⟩)))/\w'=w.alloc (.cells #[.string unit,.int .i64 n,.iface T (.pointer (some a))] 112):=by
 go_enter func38,ntmps38
 go_wp2
 go_ret;exact⟨rfl,rfl⟩
theorem dJ.wW{S:Src}{w:af}{T:aW}{a:bG}{P:Prop}(h:dJ S w T a P)(u m:ay)(b:Nat)(hb:b=w.heap.size):dJ S (w.alloc (.cells #[u,m,.iface T (.pointer (some a))] 112)) 110 ⟨b,0,none⟩ P:=by subst hb;exact h.place u m
theorem H_(S:jy)(A:qN)(s:ByteArray)(aO most:Nat)(u:US)(w:af)(Z:vP S A.base)(h:UP S w A s aO most u)(Q:s.size<=140737488354000)(hm:most<=16777216)(F:1<=aO)(G:aO<=32768):
 aH prog 118 #[.pointer (some ⟨A.ub,0,none⟩)] w fun e w'=>ad9 S A s aO most w (xC s aO most (8*s.size+1) u) e w':=by
 obtain⟨R,k⟩:∃R,R=xC s aO most (8*s.size+1) u:=⟨_,rfl⟩;rw[<-k];have H:au _:=k;clear k;go_enter func118,ntmps118
 go_wp2_with fail
 go_loopw [3] (fun nv wr=> ∃(n:Int) (f:Nat) (t:US),nv= .int .i64 n/\R=xC s aO most f t/\8*s.size-t.st.pos<f/\UP S wr A s aO most t/\PE A.base w wr) (fun _ wr=>8*s.size-Bj wr A.tb A.rb)
 case atStart=>exact⟨0,8*s.size+1,u,rfl,H.out,by omega,h,PE.refl _ _⟩
 case round=>
  obtain⟨n,f,t,rfl,U,hf,r,m⟩:=hrel;have I:au _:=U;clear U;obtain⟨j,J⟩:∃j,f=j+1:=⟨f-1,by omega⟩;subst J;have c:=r.facts.1;have v:au (Bj wr A.tb A.rb=t.st.pos):=yc r.facts.2.1;go_wp2_with fail
  refine(KJ S A s aO most t _ Z r Q hm F G).mono ?_;rintro e w1 (⟨l,i,C,V,D,k5,rfl,E,W,X⟩|⟨⟨b,T,a,rfl,i⟩,V,D⟩)
  ·have K:au _:=X;clear X;have hle:=E.facts.2.1.zS;have L:au (Bj w1 A.tb A.rb=(iI s aO most t).2.st.pos):=yc E.facts.2.1;rcases(by omega:l=0\/l=1)with rfl|rfl
   ·have y:au (R=xC s aO most j (iI s aO most t).2):=(by rw[I.out];exact Jw s aO most j t c C:_=_);clear C;go_wp2_with fail
    go_roundw
    case rel=>exact⟨_,j,_,rfl,y.out,by omega,E,m.trans W⟩
    case measure=>rw[L.out,v.out];omega
   ·have y:au (R=(iI s aO most t).2):=(by rw[I.out];exact AU s aO most j t c (by rw[C];omega):_=_);clear C;go_wp2_with fail
    go_ret;exact .inl ⟨by rw[y.out];exact D,rfl,by rw[y.out];exact E,m.trans W,by rw[y.out];exact K.out (by first|exact trivial|rfl)⟩
  ·obtain⟨o,g,lf,bb,fv,x,p⟩:=V;have c0:w1.cell? ⟨A.ub,0,none⟩=some (.pointer (some ⟨A.rb,0,none⟩)):=by simpa using(cell_of p 0).1
   have Y:dJ A.tb w1 T a (Stop S R\/qm A most R):=i.imp (fun i=>by
    rw[I.out];by_cases M:(iI s aO most t).1=0
    ·rw[Jw s aO most j t c M];rcases i with i|⟨k0,i⟩
     ·exact .inl (i.mono (fun i=>by rw[LJ _ _ _ _ _ i];exact i) (YS s aO most j _))
     ·rcases abC s aO most t c r.facts.2.1.zS k0 with hb|hb
      ·exact absurd M hb
      ·exact .inl (.inl (by rw[LJ _ _ _ _ _ hb];exact hb))
    ·rw[AU s aO most j t c M];exact i.imp id And.right)
   have q:A.base<=w1.heap.size:=aY r.base D.size;clear i;go_wp2_with fail
   refine(Jy A.tb A.rb s _ o Q).mono ?_;rintro e w2 ⟨⟨n2,rfl⟩,nq,d⟩;have N:UE w2 A s:=by rw[d];exact UE.drewN ⟨o,g,lf,bb,fv,x,p⟩ nq
   have O:PE A.base w1 w2:=by rw[d];exact PE.drewN _ _ _
   have P:dJ A.tb w2 T a (Stop S R\/qm A most R):=by rw[d];exact Y.grow (fun _ _=>rfl)
   have z:w2.heap.size=w1.heap.size:=by rw[d];rfl
   have B:au _:=z;clear d z c0 p o Y;go_wp2_with fail
   refine(yS _ _ _ _ _).mono ?_;rintro e w3 ⟨rfl,rfl⟩;go_wp2_with fail
   refine(yS _ _ _ _ _).mono ?_;rintro e w4 ⟨rfl,rfl⟩;go_wp2_with fail
   go_ret;exact .inr ⟨⟨_,_,rfl,(P.wW _ _ _ rfl).wW _ _ _ (by simp)⟩,(N.alloc _).alloc _,m.trans (D.trans (O.trans ((PE.alloc _ _ _ (by rw[B.out];exact q)).trans (PE.alloc _ _ _ (by simp;rw[B.out];omega)))))⟩
theorem QX(T:aW)(a:bG)(w:af):
 aH prog 95 #[.iface T (.pointer (some a))] w fun e w'=>e= .returned (.pointer (some ⟨w.heap.size,0,none⟩))/\w'=w.alloc (.cells #[.iface T (.pointer (some a)),.int .u32 0,.int .u64 0,.int .i64 0] 218):=by
 go_enter func95,ntmps95
 go_wp2
 go_ret;exact⟨rfl,rfl⟩
theorem Zh(rb aO most:Nat)(f:Fn)(bs cs:Array ay)(w:af):
 aH prog 116 #[.pointer (some ⟨rb,0,none⟩),.int .i64 (aO:Int),.int .i64 (most:Int),.func f bs cs] w fun e w'=>e= .returned (.pointer (some ⟨w.heap.size+1,0,none⟩))/\w'=(w.alloc (.cells #[.int .i64 (aO:Int),.slice none 0 0,.int .i64 0] 238)).alloc (.cells #[.pointer (some ⟨rb,0,none⟩),.pointer (some ⟨w.heap.size,0,none⟩),.int .i64 (most:Int),.bool false,.func f bs cs,.pointer none] 225):=by
 go_enter func116,ntmps116
 go_wp2_with fail
 refine(Nv aO _).mono ?_;rintro e w1 ⟨rfl,rfl⟩;go_wp2_with fail
 go_ret;exact⟨by simp,rfl⟩
theorem Rd.first{tb:Src}{s:ByteArray}{w:af}(hS:tb.Ok)(hK:tb.K w s 0)(d:tb.z=0):Rd (w.alloc (.cells #[.iface tb.T (.pointer (some tb.a)),.int .u32 0,.int .u64 0,.int .i64 0] 218)) tb w.heap.size s 0:=by have b:=hS.ke hK;have hb:=hS.hb b;refine⟨0,by omega,0,rfl,aX _,hb,hS.iq hK (fun k c=>alloc_old (c.elim (fun c=>hS.lt b c) (fun c=>by omega))),hS,?_⟩;rw[d];exact(gY w _).1
theorem UP.start{S:jy}(tb:Src)(rb:Nat)(s:ByteArray)(aO most p:Nat)(w:af)(F:Nat->Prop)(f:Fn)(bs cs:Array ay)(h:S.fv= .func f bs cs)(b:S.Ok tb.base)(hK:S.K w [] F)(hF:∀k,F k->tb.base<=k/\¬tb.F k/\k≠rb)(i:Rd w tb rb s p)(m:iK w):
 UP S ((w.alloc (.cells #[.int .i64 (aO:Int),.slice none 0 0,.int .i64 0] 238)).alloc (.cells #[.pointer (some ⟨rb,0,none⟩),.pointer (some ⟨w.heap.size,0,none⟩),.int .i64 (most:Int),.bool false,.func f bs cs,.pointer none] 225)) ⟨tb,rb,w.heap.size,w.heap.size+1,false⟩ s aO most ⟨⟨p,false⟩,[]⟩:=by
 have n:=i.GM;have d:tb.Ok:=by obtain⟨_,_,_,_,_,_,_,o,_⟩:=i;exact o
 have j:=d.ng;have q:w.heap.size+2=((w.alloc (.cells #[.int .i64 (aO:Int),.slice none 0 0,.int .i64 0] 238)).alloc (.cells #[.pointer (some ⟨rb,0,none⟩),.pointer (some ⟨w.heap.size,0,none⟩),.int .i64 (most:Int),.bool false,.func f bs cs,.pointer none] 225)).heap.size:=by simp
 have c:∀k,k<w.heap.size->((w.alloc (.cells #[.int .i64 (aO:Int),.slice none 0 0,.int .i64 0] 238)).alloc (.cells #[.pointer (some ⟨rb,0,none⟩),.pointer (some ⟨w.heap.size,0,none⟩),.int .i64 (most:Int),.bool false,.func f bs cs,.pointer none] 225)).heap[k]?=w.heap[k]?:=fun k a=>by rw[alloc_old (by simp;omega),alloc_old a]
 have r:((w.alloc (.cells #[.int .i64 (aO:Int),.slice none 0 0,.int .i64 0] 238)).alloc (.cells #[.pointer (some ⟨rb,0,none⟩),.pointer (some ⟨w.heap.size,0,none⟩),.int .i64 (most:Int),.bool false,.func f bs cs,.pointer none] 225)).heap[w.heap.size]?=some (.cells #[.int .i64 (aO:Int),.slice none 0 0,.int .i64 0] 238 (0,0)):=by rw[alloc_old (by simp)];exact(gY w _).1
 have l:=(gY (w.alloc (.cells #[.int .i64 (aO:Int),.slice none 0 0,.int .i64 0] 238)) (.cells #[.pointer (some ⟨rb,0,none⟩),.pointer (some ⟨w.heap.size,0,none⟩),.int .i64 (most:Int),.bool false,.func f bs cs,.pointer none] 225)).1;rw[sG]at l;generalize ((w.alloc (.cells #[.int .i64 (aO:Int),.slice none 0 0,.int .i64 0] 238)).alloc (.cells #[.pointer (some ⟨rb,0,none⟩),.pointer (some ⟨w.heap.size,0,none⟩),.int .i64 (most:Int),.bool false,.func f bs cs,.pointer none] 225))=w3 at*;have g:=b.lt hK;refine⟨.slice none 0 0,F,none,rfl,i.grow c,aX _,⟨?_,?_,?_⟩,?_,.inl rfl,b.iq hK (fun k a=>c k (a.elim (fun a=>g k a) (fun a=>by omega))) (by omega),?_,d,m.over (c _ (by omega)),j,b,n.2.2.1,by show tb.base<=w.heap.size;omega,by show tb.base<=w.heap.size+1;omega⟩
 ·show _=some (Obj.cells #[.int .i64 (aO:Int),.slice none 0 0,.int .i64 ((0%aO:Nat):Int)] 238 (0,0));rw[Nat.zero_mod];exact r
 ·show w3.ownsRow tb.base 5 1 _ (min 0 aO) (iC [] aO);have e:iC [] aO=[]:=by simp[iC]
  rw[Nat.zero_min,e];exact eX _ _ _ _
 ·show tb.base<=w3.heap.size;omega
 ·show _=some (Obj.cells #[.pointer (some ⟨rb,0,none⟩),.pointer (some ⟨w.heap.size,0,none⟩),.int .i64 ((most-0:Nat):Int),.bool false,S.fv,.pointer none] 225 (0,0));rw[h];exact l
 ·intro k a;have h1:=hF k a;have h2:=g k a;refine⟨h1.1,h1.2.1,h1.2.2,?_,?_,?_⟩
  ·show k≠w.heap.size;omega
  ·show k≠w.heap.size+1;omega
  ·simp[Value.ownBlock]
open Jo (one DV)
open Ad (oM xB Eh)
def cI(fn:FuncId)(a b:bG)(K:af->List UInt8->(Nat->Prop)->Prop)(stop:List UInt8->Prop):FM:=
 ⟨.func (.func fn) #[] #[.pointer (some a),.pointer (some b)],fn,fun x=> #[x,.pointer (some a),.pointer (some b)],K,stop⟩
theorem adK(fn:FuncId)(v y:bG)(K:af->List UInt8->(Nat->Prop)->Prop)(stop:List UInt8->Prop)(base:Nat)(hI:(cI fn v y K stop).Ok base):vP (Ja (cI fn v y K stop)) base:=by
 intro A s aO most u x w W h B hm C D;subst W;obtain⟨c0,c1,c2,c3⟩:=h.cells;obtain⟨z,F,fx,h1,h2,E,j,m,q,n,p,r,b,c,d,f,g,i⟩:=h;have X:=(cell_of m 2).2;obtain⟨l,G⟩:∃l,l=most-u.out.length:=⟨_,rfl⟩;rw[<-G]at c2 m;have Y:1<=l:=by omega
 have Z:l<=16777216:=by omega
 have HL:au (l=most-u.out.length):=G;clear G c0 c3;have t:A.gb≠A.ub:=fM j.1 m (by decide);have o:z.ownBlock≠some A.ub:=iy j.2.1 m (by decide);have N:jO (w.setCell ⟨A.ub,2,none⟩ (.int .i64 ((l:Int)-1))) A.gb A.base z aO u.out:=⟨(aC 2 _ t).trans j.1,fZ j.2.1 (fun k H=>aC 2 _ (fun e=>o (e▸H))),by simpa using j.2.2⟩;go_enter func143,ntmps143
 go_wp2_with fail
 refine(QB A.gb A.base z aO u.out x _ N C D).mono ?_;rintro e w2 ⟨rfl,a0,O,P,Q⟩;obtain⟨hM,R⟩:=Mid.mk h1 h2 j m q n p r b c d f g i HL.out B O P Q;clear h1 h2 j m q n p r b c d f g i O P Q c1 c2 X N t o;obtain⟨z,F,fx,h1,h2,E,j,m,q,n,p,r,b,c,d,f,g,i⟩:=hM;have a1:w2.cell? ⟨A.ub,4,none⟩=some (.func (.func fn) #[] #[.pointer (some v),.pointer (some y)]):=by simpa [Ja,cI]using(cell_of m 4).1
 have S:=hI.call w2 u.out F x n (by omega) (fun k H=>(p k H).1) (by have:=h2.GM;omega);have a2:∀args w,(callFunc fn args).run prog w= .ok (.enter fn args) w:=hI.body;have I:aH prog fn #[.int .u8 ((x.toNat:Nat):Int),.pointer (some v),.pointer (some y)] w2 _:=S;clear S;go_wp2_with fail
 refine I.mono ?_;rintro e w3 (⟨rfl,F',J,L,b3⟩|⟨T,a,rfl,b0,J,L⟩)
 ·obtain⟨U,M,V⟩:=Mid.fin (F':=F') h1 h2 E j m q n p r b c d f g i (hI.busy n) L;go_wp2_with fail
  go_ret;exact .inl ⟨rfl,V J b3,R.trans M⟩
 ·obtain⟨U,M,V⟩:=Mid.fin (F':=F) h1 h2 E j m q n p r b c d f g i (hI.busy n) L;go_wp2_with fail
  go_ret;exact .inr ⟨⟨T,a,rfl,.inl ⟨b0,J⟩⟩,U,R.trans M⟩
def KC(b:Nat)(fn:FuncId)(K:af->List UInt8->(Nat->Prop)->Prop)(sb pb:Nat)(w:af)(out:List UInt8)(F:Nat->Prop):Prop:=
 ∃a,K w out a/\(F=fun k=>a k\/k=sb\/k=pb)/\w.heap[sb]?=some (.cells #[.int .u32 ((one (oM 1 0 out):Nat):Int)] 77 (0,0))/\
  w.heap[pb]?=some (.cells #[.func (.func fn) #[.pointer (some ⟨b,0,none⟩)] #[]] 197 (0,0))/\¬a sb/\¬a pb/\sb≠pb
def Zi(a:Nat)(fn:FuncId)(K:af->List UInt8->(Nat->Prop)->Prop)(stop:List UInt8->Prop)(sb pb:Nat):FM:=
 cI 117 ⟨sb,0,none⟩ ⟨pb,0,none⟩ (KC a fn K sb pb) stop
theorem Zj(out:List UInt8)(x:UInt8):one (oM 1 0 (out++[x]))=DV (one (oM 1 0 out)) x.toNat:=by have hb:=xB out 1 0 (by omega) (by omega);rw[Eh];unfold DV;rw[Jo.Jq _ hb.1,Jo.Jr _ hb.1];rfl
theorem Oa(i:Nat)(fn:FuncId)(K:af->List UInt8->(Nat->Prop)->Prop)(stop:List UInt8->Prop)(sb pb base:Nat)(hI:(mI i fn K stop).Ok base)(w:af)(out:List UInt8)(c:Nat->Prop)(x:UInt8)(hK:K w out c)(D:out.length<16777216)(hF:∀k,c k->base<=k)(E:base<=sb)(hb:base<=w.heap.size)
 (h1:w.heap[sb]?=some (.cells #[.int .u32 ((one (oM 1 0 out):Nat):Int)] 77 (0,0))) (h2:w.heap[pb]?=some (.cells #[.func (.func fn) #[.pointer (some ⟨i,0,none⟩)] #[]] 197 (0,0))) (p:¬c sb) (y:¬c pb) (z:sb≠pb):
 aH prog 117 #[.int .u8 ((x.toNat:Nat):Int),.pointer (some ⟨sb,0,none⟩),.pointer (some ⟨pb,0,none⟩)] w fun e w'=>
  (e= .returned .nilIface/\∃F',KC i fn K sb pb w' (out++[x]) F'/\Fr (fun k=>c k\/k=sb\/k=pb) w w'/\∀k,F' k->(c k\/k=sb\/k=pb)\/w.heap.size<=k)\/
  (∃T a,e= .returned (.iface T (.pointer (some a)))/\iQ w' T a/\stop (out++[x])/\Fr (fun k=>c k\/k=sb\/k=pb) w w'):=by
 obtain⟨d,j⟩:=xB out 1 0 (by omega) (by omega);have F:au _:=Zj out x;have f:x.toNat<=255:=by have:=x.toNat_lt;omega
 have H1:au (one (oM 1 0 out)%65536<=65520):=(by rw[Jo.Jq _ d];exact d:_<=_);have G:au (one (oM 1 0 out)/65536<=65520):=(by rw[Jo.Jr _ d];exact j:_<=_);clear d j;generalize one (oM 1 0 out)=V at*;have c1:w.cell? ⟨sb,0,none⟩=some (.int .u32 (V:Int)):=by simpa using(cell_of h1 0).1
 have H:=(cell_of h1 0).2;have A:=fun v=>bF h1 0 v;have q:∀v,(w.setCell ⟨sb,0,none⟩ v).heap[pb]?=_:=fun v=>(aC 0 v (rG z)).trans h2;have c2:∀v,(w.setCell ⟨sb,0,none⟩ v).cell? ⟨pb,0,none⟩=some (.func (.func fn) #[.pointer (some ⟨i,0,none⟩)] #[]):=fun v=>by simpa using(cell_of (q v) 0).1
 have B:∀v,K (w.setCell ⟨sb,0,none⟩ v) out c:=fun v=>hI.iq hK (fun k b=>aC 0 v (fun e=>b.elim (fun b=>p (e▸b)) (fun b=>by omega))) (by simp);have I:∀args w,(callFunc fn args).run prog w= .ok (.enter fn args) w:=hI.body;have C:=fun v=>hI.call (w.setCell ⟨sb,0,none⟩ v) out c x (B v) D hF (by simpa using hb);have l:∀v,aH prog fn #[.pointer (some ⟨i,0,none⟩),.int .u8 ((x.toNat:Nat):Int)] (w.setCell ⟨sb,0,none⟩ v) _:=C;clear C;go_enter func117,ntmps117
 go_wp2_with fail
 refine(Jo.Ei V x.toNat _ H1.out G.out f).mono ?_;rintro e M ⟨rfl,g⟩;have g:=g.symm;subst g;go_wp2_with fail
 refine(l _).mono ?_;have m:Fr (fun k=>c k\/k=sb\/k=pb) w (w.setCell ⟨sb,0,none⟩ (.int .u32 ((DV V x.toNat:Nat):Int))):=(Fr.refl (fun k=>c k\/k=sb\/k=pb) w).set sb 0 (.inr (.inl rfl)) _;have n:(w.setCell ⟨sb,0,none⟩ (.int .u32 ((DV V x.toNat:Nat):Int))).heap.size=w.heap.size:=by simp
 have J:au _:=n;have r:=A (.int .u32 ((DV V x.toNat:Nat):Int));have s:=q (.int .u32 ((DV V x.toNat:Nat):Int));clear n c1 H A q c2 B l;generalize (w.setCell ⟨sb,0,none⟩ (.int .u32 ((DV V x.toNat:Nat):Int)))=w1 at*;rintro e w3 (⟨rfl,F',t,o,u⟩|⟨T,a,rfl,L,t,o⟩)
 ·go_wp2_with fail
  go_ret;refine .inl ⟨rfl,(fun k=>F' k\/k=sb\/k=pb),⟨F',t,rfl,?_,?_,?_,?_,z⟩,m.trans (o.mono (fun k b=> .inl b)),fun k b=> ?_⟩
  ·refine(o.block sb (ak r) p).trans (r.trans ?_);rw[F.out];simp
  ·exact(o.block pb (ak s) y).trans s
  ·exact fun e=>(u sb e).elim p (fun h=>by have:=ak r;omega)
  ·exact fun e=>(u pb e).elim y (fun h=>by have:=ak s;omega)
  ·rcases b with b|b
   ·rcases u k b with e|e
    ·exact .inl (.inl e)
    ·exact .inr (by have:=J.out;omega)
   ·exact .inl (.inr b)
 ·go_wp2_with fail
  go_ret;exact .inr ⟨T,a,rfl,L,t,m.trans (o.mono (fun k b=> .inl b))⟩
theorem Tz{d:Nat}{fn:FuncId}{K:af->List UInt8->(Nat->Prop)->Prop}{stop:List UInt8->Prop}{base:Nat}(hI:(mI d fn K stop).Ok base)(sb pb:Nat):(Zi d fn K stop sb pb).Ok base where
 lt:=by
  rintro w out F ⟨b,h0,rfl,h1,h2,_⟩ k a;rcases a with a|rfl|rfl
  ·exact hI.lt h0 k a
  ·exact ak h1
  ·exact ak h2
 iq:=by rintro w w' out F ⟨b,h0,rfl,h1,h2,c⟩ e g;exact⟨b,hI.iq h0 (fun k a=>e k (a.imp .inl id)) g,rfl,(e sb (.inl (.inr (.inl rfl)))).trans h1,(e pb (.inl (.inr (.inr rfl)))).trans h2,c⟩
 busy:=by
  rintro w out F ⟨b,h0,rfl,h1,h2,c⟩ k cur T f a e;rcases a with a|rfl|rfl
  ·exact hI.busy h0 k cur T f a e
  ·rw[h1]at e;simp at e;rw[<-e.2.1];decide
  ·rw[h2]at e;simp at e;rw[<-e.2.1];decide
 body:=fun args w=>pq func117 (by kernel_rfl) (by kernel_rfl) args w
 call:=by rintro w out F x ⟨b,h0,rfl,h1,h2,c,h,i⟩ j hF hb;exact Oa d fn K stop sb pb base hI w out b x h0 j (fun k a=>hF k (.inl a)) (hF sb (.inr (.inl rfl))) hb h1 h2 c h i
theorem ad_{a:Nat}{fn:FuncId}{K:af->List UInt8->(Nat->Prop)->Prop}{stop:List UInt8->Prop}{base:Nat}(hI:(mI a fn K stop).Ok base)(sb pb:Nat):vP (Ja (Zi a fn K stop sb pb)) base:=adK _ _ _ _ _ base (Tz hI sb pb)
theorem adL(c:Nat)(h:c<256):bits BinOp.and IntKind.i64 (c:Int) 15=((c%16:Nat):Int):=by have h:=uA c 15 (by omega) (by omega);have e:c&&&15=c%16:=lF c 4;rw[e]at h;exact h
theorem adM(f:Nat)(h:f<256):bits BinOp.and IntKind.i64 (f:Int) 32=((f/32%2*32:Nat):Int):=by
 have h1:=uA f 32 (by omega) (by omega);have e:f&&&32=f/32%2*32:=by
  have all:∀f:Fin 256,f.val&&&32=f.val/32%2*32:=by decide+kernel
  exact all ⟨f,h⟩
 rw[e]at h1;exact h1
theorem or8(c f:Nat)(a:c<256)(b:f<256):bits BinOp.or IntKind.i64 ((c:Int)*256) (f:Int)=((256*c+f:Nat):Int):=by
 have h:=zU (c*256) f (by omega) (by omega);have e:c*256|||f=256*c+f:=by rw[eP c];exact(jZ (i:=8) (by omega) c).symm
 rw[e]at h;rw[<-h];congr 1
def nH(c f:Nat):Prop:=c%16=8/\c/16<=7/\(256*c+f)%31=0/\f/32%2=0
theorem Zk(tb:Src)(rb:Nat)(s:ByteArray)(w:af)(h:Rd w tb rb s 0)(J:s.size<=140737488354000):
 aH prog 115 #[.pointer (some ⟨rb,0,none⟩)] w fun e w'=>
  ((2<=s.size/\nH (bC s 0 8) (bC s 8 8))/\e= .returned (.tuple #[.int .i64 ((pw (bC s 0 8/16+8):Nat):Int),.nilIface])/\Rd w' tb rb s 16/\RF tb rb w w')\/
  ((∃T a,e= .returned (.tuple #[.int .i64 0,.iface T (.pointer (some a))])/\dJ tb w' T a (¬(2<=s.size/\nH (bC s 0 8) (bC s 8 8))))/\oH w' tb rb s/\RF tb rb w w'):=by
 have K:=fJ s 0 8;have z:=fJ s 8 8;have L:=dR tb rb s 0 8 w h J (by omega);have i:(bZ s 8 ⟨0,false⟩).2.dV=true->¬2<=s.size:=fun hb h2=>by rw[gV s 8 0 (by omega)]at hb;cases hb
 have j:(bZ s 8 ⟨0+8,false⟩).2.dV=true->¬2<=s.size:=fun hb h2=>by rw[gV s 8 (0+8) (by omega)]at hb;cases hb
 have A:au _:=i;have B:au _:=j;clear i j;generalize bC s 0 8=c at*;obtain⟨f,hF⟩:∃f,bC s (0+8) 8=f:=⟨_,rfl⟩;have k:bC s 8 8=f:=hF;rw[k]at z|-;have M:au (bC s (0+8) 8=f):=hF;clear hF k;have l:c<256:=K;have m:f<256:=z;have R:=adL c l;have N:=or8 c f l m;have O:=adM f m;clear K z;go_enter func115,ntmps115
 go_wp2_with fail
 refine L.mono ?_;clear L;rintro e w1 (⟨_,C,rfl,n,g⟩|⟨⟨T,a,rfl,u⟩,n,g⟩);rotate_left
 ·have D:dJ tb w1 T a (¬(2<=s.size/\nH c f)):=u.imp (fun u b=>A.out u b.1);clear u;go_wp2_with fail
  go_ret2;exact .inr ⟨⟨T,a,rfl,D⟩,n,g⟩
 by_cases o:c%16=8;rotate_left
 ·have E:((c:Int)%16 !=8)=true:=by rw[ig];omega
  have d:au (¬(2<=s.size/\nH c f)):=(fun b=>o b.2.1:¬_);clear o C;go_wp2_with fail
  refine(cZ _ _).mono ?_;rintro e w2 ⟨rfl,rfl⟩;go_wp2_with fail
  go_ret2;exact .inr ⟨⟨_,_,rfl,dJ.uh d.out⟩,n.zC.alloc _,g.alloc _⟩
 have E:((c:Int)%16 !=8)=false:=by rw[di];omega
 by_cases v:c/16<=7;rotate_left
 ·have F:decide ((7:Int)<(c:Int)/16)=true:=aZ (by omega);have d:au (¬(2<=s.size/\nH c f)):=(fun b=>v b.2.2.1:¬_);clear o v C;go_wp2_with fail
  refine(cZ _ _).mono ?_;rintro e w2 ⟨rfl,rfl⟩;go_wp2_with fail
  go_ret2;exact .inr ⟨⟨_,_,rfl,dJ.uh d.out⟩,n.zC.alloc _,g.alloc _⟩
 have F:decide ((7:Int)<(c:Int)/16)=false:=aS (by omega);have G:au (c%16=8/\c/16<=7):=⟨o,v⟩;clear o v;go_wp2_with fail
 refine(dR tb rb s (0+8) 8 _ n J (by omega)).mono ?_;rintro e w2 (⟨_,P,rfl,p,q⟩|⟨⟨T,a,rfl,x⟩,p,q⟩);rotate_left
 ·have D:dJ tb w2 T a (¬(2<=s.size/\nH c f)):=x.imp (fun x b=>B.out x b.1);clear x;go_wp2_with fail
  go_ret2;exact .inr ⟨⟨T,a,rfl,D⟩,p,g.trans q⟩
 rw[M.out]at*;have Q:au (2<=s.size):=(by omega:_<=_);clear C P;by_cases r:(256*c+f)%31=0;rotate_left
 ·have t:((256*(c:Int)+(f:Int))%31 !=0)=true:=by rw[ig];omega
  have d:au (¬(2<=s.size/\nH c f)):=(fun b=>r b.2.2.2.1:¬_);clear r;go_wp2_with fail
  refine(cZ _ _).mono ?_;rintro e w3 ⟨rfl,rfl⟩;go_wp2_with fail
  go_ret2;exact .inr ⟨⟨_,_,rfl,dJ.uh d.out⟩,p.zC.alloc _,(g.trans q).alloc _⟩
 have t:((256*(c:Int)+(f:Int))%31 !=0)=false:=by rw[di];omega
 by_cases y:f/32%2=0;rotate_left
 ·have H:((f:Int)/32%2*32 !=0)=true:=by rw[ig];omega
  have d:au (¬(2<=s.size/\nH c f)):=(fun b=>y b.2.2.2.2:¬_);clear r y;go_wp2_with fail
  refine(cZ _ _).mono ?_;rintro e w3 ⟨rfl,rfl⟩;go_wp2_with fail
  go_ret2;exact .inr ⟨⟨_,_,rfl,dJ.uh d.out⟩,p.zC.alloc _,(g.trans q).alloc _⟩
 have H:((f:Int)/32%2*32 !=0)=false:=by rw[di];omega
 have d:au (2<=s.size/\nH c f):=(⟨Q.out,G.out.1,G.out.2,r,y⟩:_/\_);clear r y;have I:=G.out;rcases(by omega:c=8\/c=24\/c=40\/c=56\/c=72\/c=88\/c=104\/c=120)with rfl|rfl|rfl|rfl|rfl|rfl|rfl|rfl
 all_goals
  clear I;simp at N t;go_wp2_with fail
  go_ret2;exact .inl ⟨d.out,rfl,p,g.trans q⟩
end Pr
namespace Pr
open Go.RowKit Rf
def vS(s:ByteArray)(q want:Nat):Prop:=q+4<=s.size/\aF s q=want/16777216%256/\aF s (q+1)=want/65536%256/\aF s (q+2)=want/256%256/\aF s (q+3)=want%256
theorem Bo(s:ByteArray)(q k:Nat)(h:(bZ s 8 ⟨q*8,false⟩).2.dV=true)(b:q<k):¬k<=s.size:=fun a=>by rw[gV s 8 (q*8) (by omega)]at h;cases h
theorem Ob(tb:Src)(rb:Nat)(s:ByteArray)(p q want:Nat)(w:af)(h:Rd w tb rb s p)(v:s.size<=140737488354000)(hw:want<4294967296)(Q:q=(p+7)/8):
 aH prog 119 #[.pointer (some ⟨rb,0,none⟩),.int .u32 (want:Int)] w fun e w'=>
  (vS s q want/\e= .returned .nilIface/\Rd w' tb rb s (8*(q+4))/\RF tb rb w w')\/
  ((∃T a,e= .returned (.iface T (.pointer (some a)))/\dJ tb w' T a (¬vS s q want))/\oH w' tb rb s/\RF tb rb w w'):=by
 have X:au _:=Q;clear Q;go_enter func119,ntmps119
 go_wp2_with fail
 refine(Ir tb rb s p _ h).mono ?_;rintro e w1 ⟨rfl,R,S⟩;rw[<-X.out]at R;go_wp2_with fail
 refine wp_loop_rounds 5 ?_;rw[xx];go_wp2_with fail
 refine(dR tb rb s (q*8) 8 _ R v (by omega)).mono ?_;rintro e w2 (⟨_,z1,rfl,k,c1⟩|⟨⟨T,a,rfl,c⟩,k,l⟩);rotate_left
 ·have m:dJ tb w2 T a (¬vS s q want):=c.imp (fun c d=>Bo s q (q+4) (by rw[show q*8=q*8 by omega];exact c) (by omega) d.1);clear c;go_wp2_with fail
  go_ret;exact .inr ⟨⟨T,a,rfl,m⟩,k,S.trans l⟩
 have E:=S.trans c1;have F:au (bC s (q*8) 8=aF s q):=jV s (q*8) q (by omega);rw[F.out];have G:=bY s q;obtain⟨x,f⟩:∃b,b=aF s q:=⟨_,rfl⟩;rw[<-f]at G|-;have o:au (x=aF s q):=f;clear f;by_cases y:x=want/16777216%256;rotate_left
 ·have d1:((x:Int) !=(want:Int)/16777216)=true:=by rw[ig];omega
  have n:au (¬vS s q want):=(fun d=>y (o.out.trans d.2.1):¬_);clear y;go_wp2_with fail
  refine(cZ _ _).mono ?_;rintro e H ⟨rfl,rfl⟩;go_wp2_with fail
  go_ret;exact .inr ⟨⟨_,_,rfl,dJ.uh n.out⟩,k.zC.alloc _,E.alloc _⟩
 have d1:((x:Int) !=(want:Int)/16777216)=false:=by rw[di];omega
 have Y:au (aF s q=want/16777216%256):=(o.out.symm.trans y:_=_);clear y;go_wp2_with fail
 rw[xx];go_wp2_with fail
 refine(dR tb rb s (q*8+8) 8 _ k v (by omega)).mono ?_;rintro e w3 (⟨_,z2,rfl,l,c2⟩|⟨⟨T,a,rfl,c⟩,k,l⟩);rotate_left
 ·have m:dJ tb w3 T a (¬vS s q want):=c.imp (fun c d=>Bo s (q+1) (q+4) (by rw[show(q+1)*8=q*8+8 by omega];exact c) (by omega) d.1);clear c;go_wp2_with fail
  go_ret;exact .inr ⟨⟨T,a,rfl,m⟩,k,E.trans l⟩
 have I:=E.trans c2;have J:au (bC s (q*8+8) 8=aF s (q+1)):=jV s (q*8+8) (q+1) (by omega);rw[J.out];have K:=bY s (q+1);obtain⟨z,g⟩:∃b,b=aF s (q+1):=⟨_,rfl⟩;rw[<-g]at K|-;have r:au (z=aF s (q+1)):=g;clear g;by_cases A:z=want/65536%256;rotate_left
 ·have d1:((z:Int) !=(want:Int)/65536%256)=true:=by rw[ig];omega
  have n:au (¬vS s q want):=(fun d=>A (r.out.trans d.2.2.1):¬_);clear A;go_wp2_with fail
  refine(cZ _ _).mono ?_;rintro e H ⟨rfl,rfl⟩;go_wp2_with fail
  go_ret;exact .inr ⟨⟨_,_,rfl,dJ.uh n.out⟩,l.zC.alloc _,I.alloc _⟩
 have d2:((z:Int) !=(want:Int)/65536%256)=false:=by rw[di];omega
 have Z:au (aF s (q+1)=want/65536%256):=(r.out.symm.trans A:_=_);clear A;go_wp2_with fail
 rw[xx];go_wp2_with fail
 refine(dR tb rb s (q*8+8+8) 8 _ l v (by omega)).mono ?_;rintro e w4 (⟨_,z3,rfl,U,c3⟩|⟨⟨T,a,rfl,c⟩,k,l⟩);rotate_left
 ·have m:dJ tb w4 T a (¬vS s q want):=c.imp (fun c d=>Bo s (q+2) (q+4) (by rw[show(q+2)*8=q*8+8+8 by omega];exact c) (by omega) d.1);clear c;go_wp2_with fail
  go_ret;exact .inr ⟨⟨T,a,rfl,m⟩,k,I.trans l⟩
 have L:=I.trans c3;have M:au (bC s (q*8+8+8) 8=aF s (q+2)):=jV s (q*8+8+8) (q+2) (by omega);rw[M.out];have N:=bY s (q+2);obtain⟨B,i⟩:∃b,b=aF s (q+2):=⟨_,rfl⟩;rw[<-i]at N|-;have t:au (B=aF s (q+2)):=i;clear i;by_cases e3:B=want/256%256;rotate_left
 ·have d1:((B:Int) !=(want:Int)/256%256)=true:=by rw[ig];omega
  have n:au (¬vS s q want):=(fun d=>e3 (t.out.trans d.2.2.2.1):¬_);clear e3;go_wp2_with fail
  refine(cZ _ _).mono ?_;rintro e H ⟨rfl,rfl⟩;go_wp2_with fail
  go_ret;exact .inr ⟨⟨_,_,rfl,dJ.uh n.out⟩,U.zC.alloc _,L.alloc _⟩
 have d3:((B:Int) !=(want:Int)/256%256)=false:=by rw[di];omega
 have E3:au (aF s (q+2)=want/256%256):=(t.out.symm.trans e3:_=_);clear e3;go_wp2_with fail
 rw[xx];go_wp2_with fail
 refine(dR tb rb s (q*8+8+8+8) 8 _ U v (by omega)).mono ?_;rintro e w5 (⟨_,z4,rfl,V,c4⟩|⟨⟨T,a,rfl,c⟩,k,l⟩);rotate_left
 ·have m:dJ tb w5 T a (¬vS s q want):=c.imp (fun c d=>Bo s (q+3) (q+4) (by rw[show(q+3)*8=q*8+8+8+8 by omega];exact c) (by omega) d.1);clear c;go_wp2_with fail
  go_ret;exact .inr ⟨⟨T,a,rfl,m⟩,k,L.trans l⟩
 have W:=L.trans c4;have O:au (bC s (q*8+8+8+8) 8=aF s (q+3)):=jV s (q*8+8+8+8) (q+3) (by omega);rw[O.out];have P:=bY s (q+3);obtain⟨C,j⟩:∃b,b=aF s (q+3):=⟨_,rfl⟩;rw[<-j]at P|-;have u:au (C=aF s (q+3)):=j;clear j;by_cases D:C=want%256;rotate_left
 ·have d1:((C:Int) !=(want:Int)%256)=true:=by rw[ig];omega
  have n:au (¬vS s q want):=(fun d=>D (u.out.trans d.2.2.2.2):¬_);clear D;go_wp2_with fail
  refine(cZ _ _).mono ?_;rintro e H ⟨rfl,rfl⟩;go_wp2_with fail
  go_ret;exact .inr ⟨⟨_,_,rfl,dJ.uh n.out⟩,V.zC.alloc _,W.alloc _⟩
 have d4:((C:Int) !=(want:Int)%256)=false:=by rw[di];omega
 have E4:au (aF s (q+3)=want%256):=(u.out.symm.trans D:_=_);clear D;go_wp2_with fail
 rw[xx];go_wp2_with fail
 go_ret;refine .inl ⟨⟨by omega,Y.out,Z.out,E3.out,E4.out⟩,rfl,?_,W⟩;rw[show 8*(q+4)=q*8+8+8+8+8 by omega];exact V
open lI (Bq)
open Jo (one)
open Ad (oM)
def wU(s:ByteArray)(size:Nat):US:=Bq (s.extract 2 s.size) (pw (aF s 0/16+8)) size
def Gi(s:ByteArray)(size:Nat):Prop:=(2<=s.size/\nH (aF s 0) (aF s 1))/\(wU s size).st.dV=false/\(wU s size).out.length=size/\vS s (2+((wU s size).st.pos+7)/8) (one (oM 1 0 (wU s size).out))
def WI(s:ByteArray)(size:Nat)(done:ByteArray->Prop):Prop:=(2<=s.size/\nH (aF s 0) (aF s 1))/\(wU s size).st.dV=false/\(wU s size).out.length=size/\vS s (2+((wU s size).st.pos+7)/8) (one (oM 1 0 (wU s size).out))/\2+((wU s size).st.pos+7)/8+4=s.size/\done s
theorem ac2(k:Nat)(h:k<=7):1<=pw (k+8)/\pw (k+8)<=32768:=by rcases(by omega:k=0\/k=1\/k=2\/k=3\/k=4\/k=5\/k=6\/k=7)with rfl|rfl|rfl|rfl|rfl|rfl|rfl|rfl<;>decide
theorem ac3(l:List UInt8):one (oM 1 0 l)<4294967296:=by have:=Ad.xB l 1 0 (by omega) (by omega);unfold one;omega
theorem QY(tb:Src)(rb:Nat)(s:ByteArray)(size:Nat)(w:af)(f:Nat)(fn:FuncId)(K:af->List UInt8->(Nat->Prop)->Prop)(stop:List UInt8->Prop)(hI:(mI f fn K stop).Ok tb.base)(F:Nat->Prop)(hK:K w [] F)(hF:∀k,F k->tb.base<=k/\¬tb.F k/\k≠rb)(O:Rd w tb rb s 0)(hO:iK w)(hz:tb.z=0)(hs:s.size<=140737488354000)(hm:size<=16777216):
 aH prog 96 #[.pointer (some ⟨rb,0,none⟩),.int .i64 (size:Int),.func (.func fn) #[.pointer (some ⟨f,0,none⟩)] #[]] w fun e w'=>
  (Gi s size/\e= .returned .nilIface/\(∃F',K w' (wU s size).out F'/\∀k,F' k->tb.base<=k/\¬tb.F k/\k≠rb)/\Rd w' tb rb s (8*(2+((wU s size).st.pos+7)/8+4))/\PE tb.base w w')\/
  ((∃T a,e= .returned (.iface T (.pointer (some a)))/\dJ tb w' T a (¬Gi s size\/∃p,stop p/\p<+:(wU s size).out))/\oH w' tb rb s/\PE tb.base w w'):=by
 have u:tb.Ok:=by obtain⟨_,_,_,_,_,_,_,h5,_⟩:=O;exact h5
 have d4:=u.ng;have hl:=O.GM;have v:=O.new (ah w.heap.size);have x:=O.alloc (.cells #[.func (.func fn) #[.pointer (some ⟨f,0,none⟩)] #[]] 197);have g:=PE.alloc tb.base w (.cells #[.func (.func fn) #[.pointer (some ⟨f,0,none⟩)] #[]] 197) hl.2.2.2;have R:=(gY w (.cells #[.func (.func fn) #[.pointer (some ⟨f,0,none⟩)] #[]] 197)).1;have d2:(w.alloc (.cells #[.func (.func fn) #[.pointer (some ⟨f,0,none⟩)] #[]] 197)).heap.size=w.heap.size+1:=by simp
 have W:=hI.lt hK;have X:K (w.alloc (.cells #[.func (.func fn) #[.pointer (some ⟨f,0,none⟩)] #[]] 197)) [] F:=hI.iq hK (fun k b=>b.elim (fun b=>alloc_old (W k b)) (fun b=>g.low k b)) (by simp);have b6:=hO.over (g.low _ (by omega));have Y:au (bC s 0 8=aF s 0):=jV s 0 0 rfl;have Z:au (bC s 8 8=aF s 1):=jV s 8 1 rfl;have hH:=Zk tb rb s _ x hs;rw[Y.out,Z.out]at hH;obtain⟨P,y⟩:∃P:Prop,P=(2<=s.size/\nH (aF s 0) (aF s 1)):=⟨_,rfl⟩;rw[<-y]at hH;obtain⟨Q,A⟩:∃Q:Prop,Q=Gi s size:=⟨_,rfl⟩;rw[<-A];have HP:au (P=(2<=s.size/\nH (aF s 0) (aF s 1))):=y;have HQ:au (Q=Gi s size):=A;have HU:au (wU s size=Bq (s.extract 2 s.size) (pw (aF s 0/16+8)) size):=rfl;clear y A O hK hO;generalize wU s size=U at*;go_enter func96,ntmps96
 go_wp2_with fail
 generalize (w.alloc (.cells #[.func (.func fn) #[.pointer (some ⟨f,0,none⟩)] #[]] 197))=w0 at*;refine hH.mono ?_;clear hH;rintro e w1 (⟨a0,rfl,g1,B⟩|⟨⟨T,a,rfl,g0⟩,g1,B⟩);rotate_left
 ·have d:=B.pe x;have HW:dJ tb w1 T a (¬Q\/∃p,stop p/\p<+:U.out):=g0.imp (fun g0=> .inl (fun h=>g0 (by rw[HP.out];rw[HQ.out]at h;exact h.1)));clear g0;go_wp2_with fail
  go_ret;exact .inr ⟨⟨T,a,rfl,HW⟩,g1,g.trans d⟩
 have d:=B.pe x;have a1:au P:=a0;clear a0;have a2:2<=s.size/\nH (aF s 0) (aF s 1):=by rw[<-HP.out];exact a1.out
 obtain⟨a3,d5,b7,_⟩:=a2;have n:=ac2 (aF s 0/16) b7;have C:K w1 [] F:=hI.iq X (fun k b=>b.elim (fun b=>B.block k (hI.lt X k b) (hF k b).2.1 (hF k b).2.2) (fun b=>d.low k b)) B.size;have b8:=b6.over (d.low _ (by omega));have a4:w1.heap[w.heap.size]?=_:=(B.block w.heap.size (by omega) v.2.1 v.2.2).trans R;have d3:w.heap.size+1<=w1.heap.size:=by have:=B.size;omega
 have b9:=g1.new (ah w1.heap.size);have a5:(w1.alloc (.cells #[.int .u32 1] 77)).heap[w1.heap.size]?=some (.cells #[.int .u32 1] 77 (0,0)):=(gY w1 (.cells #[.int .u32 1] 77)).1;have hold:∀k,k<w1.heap.size->(w1.alloc (.cells #[.int .u32 1] 77)).heap[k]?=w1.heap[k]?:=fun k b=>alloc_old b;have o:(w1.alloc (.cells #[.int .u32 1] 77)).heap.size=w1.heap.size+1:=by simp
 have q:PE tb.base w1 (w1.alloc (.cells #[.int .u32 1] 77)):=PE.alloc tb.base w1 _ (by have:=g1.GM;omega);have i:au _:=hold;have c1:au _:=a5;have j:au _:=o;have l:au _:=q;clear hold a5 o q R;go_wp2_with fail
 generalize (w1.alloc (.cells #[.int .u32 1] 77))=w2 at*;have a6:Rd w2 (tb.shift 2 s) rb (s.extract 2 s.size) 0:=Rd.aaO 2 (by omega) a3 (g1.grow i.out);have a7:K w2 [] F:=hI.iq C (fun k b=>b.elim (fun b=>i.out k (hI.lt C k b)) (fun b=>l.out.low k b)) (by have:=j.out;omega);have a8:(Zi f fn K stop w1.heap.size w.heap.size).K w2 [] (fun k=>F k\/k=w1.heap.size\/k=w.heap.size):=⟨F,a7,rfl,c1.out,(i.out _ (by omega)).trans a4,fun e=>by have:=hI.lt C _ e;omega,fun e=>by have:=W _ e;omega,by omega⟩;have a9:=UP.start (S:=Ja (Zi f fn K stop w1.heap.size w.heap.size)) (tb.shift 2 s) rb (s.extract 2 s.size) (pw (aF s 0/16+8)) size 0 w2 _ _ _ _ rfl (Yz (Tz hI _ _)) a8 (fun k b=>by
  rcases b with b|rfl|rfl
  ·exact hF k b
  ·exact b9
  ·exact v) a6 (b8.over (l.out.low _ (by omega)))
 have D:=(PE.alloc tb.base w2 (.cells #[.int .i64 ((pw (aF s 0/16+8):Nat):Int),.slice none 0 0,.int .i64 0] 238) (by have:=j.out;omega)).trans (PE.alloc tb.base _ (.cells #[.pointer (some ⟨rb,0,none⟩),.pointer (some ⟨w2.heap.size,0,none⟩),.int .i64 (size:Int),.bool false,.func (.func 117) #[] #[.pointer (some ⟨w1.heap.size,0,none⟩),.pointer (some ⟨w.heap.size,0,none⟩)],.pointer none] 225) (by have:=j.out;simp;omega));clear a6 a7 a8;refine(Zh _ _ size _ _ _ _).mono ?_;rintro e w3 ⟨rfl,E⟩;rw[<-E]at D;have c:UP (Ja (Zi f fn K stop w1.heap.size w.heap.size)) w3 ⟨tb.shift 2 s,rb,w2.heap.size,w2.heap.size+1,false⟩ (s.extract 2 s.size) (pw (aF s 0/16+8)) size ⟨⟨0,false⟩,[]⟩:=by rw[E];exact a9
 clear a9;clear E;obtain⟨G,b0⟩:=c.ac1;have ca:=c.all;have cf:=c.ad8;dsimp only at ca cf G;have H:=(((g.trans d).trans l.out).trans D).trans b0;go_wp2_with fail
 refine(H_ _ ⟨tb.shift 2 s,rb,w2.heap.size,w2.heap.size+1,true⟩ (s.extract 2 s.size) (pw (aF s 0/16+8)) size ⟨⟨0,false⟩,[]⟩ _ (ad_ hI w1.heap.size w.heap.size) G (by rw[oG];omega) hm n.1 n.2).mono ?_;clear ca cf b0;have c3:au (xC (s.extract 2 s.size) (pw (aF s 0/16+8)) size (8*(s.extract 2 s.size).size+1) ⟨⟨0,false⟩,[]⟩=U):=(HU.out.symm:_=_);rw[c3.out];rintro e w4 (⟨m,rfl,I,q4,q5⟩|⟨⟨T,a,rfl,m⟩,I,q4⟩);rotate_left
 ·have c5:oH w4 tb rb s:=oH.Jz a3 u I.1;have HW:dJ tb w4 T a (¬Q\/∃p,stop p/\p<+:U.out):=dJ.imp (S:=tb) m (fun m=>m.elim (fun m=>m.elim (fun hb=> .inl (fun h=>by rw[HQ.out]at h;have r:=h.2.1;rw[show wU s size=U from HU.out.symm]at r;rw[hb]at r;cases r)) .inr) (fun m=> .inl (fun h=>by rw[HQ.out]at h;have r:=h.2.2.1;rw[show wU s size=U from HU.out.symm]at r;have:=m.2;omega)));clear m I;go_wp2_with fail
  go_ret;exact .inr ⟨⟨T,a,rfl,HW⟩,c5,H.trans q4⟩
 have J:Rd w4 tb rb s (U.st.pos+8*2):=Rd.Jz u I.facts.2.1;have d6:U.out.length<=size:=I.facts.2.2;obtain⟨_,_,c2,_⟩:=I.cells;obtain⟨vr,Fs,fx,h1,h2,h3,h4,h5,h6,⟨F0,k0,b1,k1,k2,k3⟩,h8,_⟩:=I;have c6:au _:=q5 rfl;clear q5;have L:∀k,F0 k->tb.base<=k/\¬tb.F k/\k≠rb:=fun k b=>by have:=h8 k (by rw[b1];exact .inl b);exact⟨this.1,this.2.1,this.2.2.1⟩
 have cs:w4.cell? ⟨w1.heap.size,0,none⟩=some (.int .u32 ((one (oM 1 0 U.out):Nat):Int)):=by simpa using(cell_of k1 0).1
 have b2:=H.trans q4;have c7:au (U.st.dV=false):=m;have HV:au (∀V,V=one (oM 1 0 U.out)->V<4294967296):=fun V N=>by rw[N];exact ac3 _
 clear h1 h2 h3 h4 h5 h6 b1 k1 k2 k3 h8 m q4 H D d g c G;obtain⟨V,N⟩:∃V,V=one (oM 1 0 U.out):=⟨_,rfl⟩;rw[<-N]at cs;have c8:=HV.out V N;have b3:au (V=one (oM 1 0 U.out)):=N;clear N;have b4:au (U.out.length=size):=(by have:=c6.out;omega:_=_);clear c2;go_wp2_with fail
 refine(Ob tb rb s (U.st.pos+8*2) (2+(U.st.pos+7)/8) V _ J hs c8 (by omega)).mono ?_;rintro e w5 (⟨M,rfl,r3,r4⟩|⟨⟨T,a,rfl,M⟩,r3,r4⟩);rotate_left
 ·have c9:=r4.pe J;have HW:dJ tb w5 T a (¬Q\/∃p,stop p/\p<+:U.out):=M.imp (fun M=> .inl (fun h=>by rw[HQ.out]at h;have r:=h.2.2.2;rw[show wU s size=U from HU.out.symm,<-b3.out]at r;exact M r));clear M;go_wp2_with fail
  go_ret;exact .inr ⟨⟨T,a,rfl,HW⟩,r3,b2.trans c9⟩
 have t:=r4.pe J;have b5:au _:=M;clear M;have d0:K w5 U.out F0:=hI.iq k0 (fun k b=>b.elim (fun b=>r4.block k (hI.lt k0 k b) (L k b).2.1 (L k b).2.2) (fun b=>t.low k b)) r4.size;have d1:au Q:=(by rw[HQ.out];unfold Gi;rw[show wU s size=U from HU.out.symm,<-b3.out,<-HP.out];exact⟨a1.out,c7.out,b4.out,b5.out⟩:Q)
 go_wp2_with fail
 go_ret;exact .inl ⟨d1.out,rfl,⟨F0,d0,L⟩,r3,b2.trans t⟩
theorem QZ(tb:Src)(i:tb.Ok)(s:ByteArray)(size:Nat)(w:af)(S:Nat)(fn:FuncId)(K:af->List UInt8->(Nat->Prop)->Prop)(stop:List UInt8->Prop)(hI:(mI S fn K stop).Ok tb.base)(fe:FuncId)(done:ByteArray->Prop)(KD:af->Prop)(O:tb.acp fe done KD)(F:Nat->Prop)(hK:K w [] F)(hF:∀k,F k->tb.base<=k/\¬tb.F k)(V:tb.K w s 0)(hO:iK w)(hz:tb.z=0)(hs:s.size<=140737488354000)(hm:size<=16777216):
 aH prog 68 #[.iface tb.T (.pointer (some tb.a)),.int .i64 (size:Int),.func (.func fn) #[.pointer (some ⟨S,0,none⟩)] #[]] w fun e w'=>
  (WI s size done/\e= .returned .nilIface/\(∃F',K w' (wU s size).out F'/\∀k,F' k->tb.base<=k/\¬tb.F k)/\KD w'/\tb.KE w'/\PE tb.base w w')\/
  ((∃T a,e= .returned (.iface T (.pointer (some a)))/\dJ tb w' T a (¬WI s size done\/∃p,stop p/\p<+:(wU s size).out))/\tb.KE w'/\PE tb.base w w'):=by
 have A:=Rd.first i V hz
 have a7:=i.ng;have W:=i.hb (i.ke V);have q:=PE.alloc tb.base w (.cells #[.iface tb.T (.pointer (some tb.a)),.int .u32 0,.int .u64 0,.int .i64 0] 218) W;have B:=hI.lt hK;have hW:=QY tb w.heap.size s size _ S fn K stop hI F (hI.iq hK (fun k g=>g.elim (fun g=>alloc_old (B k g)) (fun g=>q.low k g)) (by simp)) (fun k g=>⟨(hF k g).1,(hF k g).2,by have:=B k g;omega⟩) A (hO.over (q.low _ (by omega))) hz hs hm;have m:au (WI s size done↔Gi s size/\2+((wU s size).st.pos+7)/8+4=s.size/\done s):=(⟨fun⟨a,b,c,d,e,f⟩=>⟨⟨a,b,c,d⟩,e,f⟩,fun⟨⟨a,b,c,d⟩,e,f⟩=>⟨a,b,c,d,e,f⟩⟩:_↔_);obtain⟨Q,C⟩:∃Q:Prop,Q=WI s size done:=⟨_,rfl⟩;rw[<-C]at m|-;obtain⟨R,D⟩:∃R:Prop,R=Gi s size:=⟨_,rfl⟩;rw[<-D]at m hW;clear C D;generalize wU s size=U at*;obtain⟨t,E⟩:∃t,t=2+(U.st.pos+7)/8+4:=⟨_,rfl⟩;rw[<-E]at hW m;have a8:=O.adt;have a9:=O.body;clear A hK V E;go_enter func68,ntmps68
 go_wp2_with fail
 refine(QX _ _ _).mono ?_;rintro e w1 ⟨rfl,rfl⟩;go_wp2_with fail
 refine hW.mono ?_;clear hW;rintro e w2 (⟨x,rfl,⟨F',G,H⟩,X,q6⟩|⟨⟨T,a,rfl,x⟩,G,H⟩)
 ·have HR:au R:=x;clear x;have I:=X.zC;have Y:=X.no;obtain⟨c,hc,J,h1,h2,h3,L,h5,h6⟩:=X;have Z:J=t:=by omega
  subst Z;have a0:=hI.lt G;have M:=i.hb (i.ke L);have j:∀w',tb.KE w'->Fr tb.F w2 w'->oH w' tb w.heap.size s/\(∃F',K w' U.out F'/\∀k,F' k->tb.base<=k/\¬tb.F k)/\PE tb.base w2 w':=fun w' g P=>by
   have N:PE tb.base w2 w':=P.pe M (fun k g=>i.low k g) (fun k cur T f g e=>by obtain⟨a6,T',f',e1,e2⟩:=i.Sl (i.ke L) g;rw[e]at e1;cases e1;unfold xh;rw[e2];rfl)
   refine⟨?_,⟨F',hI.iq G (fun k g=>g.elim (fun g=>P.block k (a0 k g) (H k g).2.1) (fun g=>N.low k g)) P.size,fun k g=>⟨(H k g).1,(H k g).2.1⟩⟩,N⟩;obtain⟨c,t,v,o,l,r,k4,k5,k6⟩:=I;exact⟨c,t,v,o,l,r,g,k5,(P.block _ (ak k6) Y).trans k6⟩
  have HN:aH prog fe #[.pointer (some tb.a)] w2 fun e w'=>
   (Q/\e= .returned .nilIface/\KD w'/\tb.KE w'/\Fr tb.F w2 w')\/
   (∃T a,e= .returned (.iface T (.pointer (some a)))/\dJ tb w' T a (¬Q)/\tb.KE w'/\Fr tb.F w2 w'):=by
   by_cases hd:J=s.size/\done s
   ·refine(O.ok w2 s (by rw[<-hd.1];exact L) hd.2).mono ?_;rintro e w' (⟨u,o,l,r⟩|⟨T,a,u,o,l,r,k4⟩)
    ·exact .inl ⟨m.out.2 ⟨HR.out,hd⟩,u,o,l,r⟩
    ·exact .inr ⟨T,a,u,.inr ⟨o,l⟩,r,k4⟩
   ·refine(O.dV w2 s J L (by
     rcases bW J s.size with hl|hl
     ·exact .inl hl
     ·have he:J=s.size:=by omega
      exact .inr ⟨he,fun a1=>hd ⟨he,a1⟩⟩)).mono ?_
    rintro e w' ⟨T,a,u,o,l,r⟩;exact .inr ⟨T,a,u,o.imp (fun _ hq=>hd (m.out.1 hq).2),l,r⟩
  clear h6 L I;go_wp2_with fail
  refine HN.mono ?_;clear HN;rintro e w3 (⟨u,rfl,o,l,r⟩|⟨T,a,rfl,o,l,r⟩)
  ·have HQ:au Q:=u;clear u;obtain⟨z1,z2,z3⟩:=j w3 l r;clear j;go_wp2_with fail
   go_ret;exact .inl ⟨HQ.out,rfl,z2,o,l,(q.trans q6).trans z3⟩
  ·obtain⟨z1,z2,z3⟩:=j w3 l r;have a2:tb.base<=w3.heap.size:=i.hb l;have HW:dJ tb w3 T a (¬Q\/∃p,stop p/\p<+:U.out):=o.imp .inl;clear j o;go_wp2_with fail
   refine(Iu tb w.heap.size s _ z1).mono ?_;rintro e w4 ⟨⟨n,rfl⟩,a3⟩;subst a3;go_wp2_with fail
   refine(yS _ _ _ _ _).mono ?_;rintro e w5 ⟨rfl,rfl⟩;go_wp2_with fail
   go_ret;exact .inr ⟨⟨_,_,rfl,HW.wW _ _ _ rfl⟩,i.pg l (fun k g=>alloc_old (g.elim (fun g=>i.lt l g) (fun g=>by omega))),((q.trans q6).trans z3).trans (PE.alloc _ _ _ a2)⟩
 ·have y:tb.KE w2:=by obtain⟨_,_,_,_,_,_,h,_⟩:=G;exact h
  have a4:tb.base<=w2.heap.size:=i.hb y;have HW:dJ tb w2 T a (¬Q\/∃p,stop p/\p<+:U.out):=x.imp (fun x=>x.imp (fun hn hq=>hn (m.out.1 hq).1) id);clear x;go_wp2_with fail
  refine(Iu tb w.heap.size s _ G).mono ?_;rintro e w3 ⟨⟨n,rfl⟩,a5⟩;subst a5;go_wp2_with fail
  refine(yS _ _ _ _ _).mono ?_;rintro e w4 ⟨rfl,rfl⟩;go_wp2_with fail
  go_ret;exact .inr ⟨⟨_,_,rfl,HW.wW _ _ _ rfl⟩,i.pg y (fun k g=>alloc_old (g.elim (fun g=>i.lt y g) (fun g=>by omega))),(q.trans H).trans (PE.alloc _ _ _ a4)⟩
end Pr
namespace Pr
open Go.RowKit Rf Cr
open gI (dL)
theorem BA{α:Type}(l:List α)(x d:α)(j:Nat):(l++[x]).getD j d=if j<l.length then l.getD j d else if j=l.length then x else d:=by
 rw[ag,ag];by_cases h:j<l.length
 ·rw[aG h,dI h]
 ·rw[ax h,fC (by omega)];by_cases h2:j=l.length
  ·rw[aG h2,h2,iL];rfl
  ·rw[ax h2,dD (by simp;omega)];rfl
theorem abH(s:ByteArray)(p m j:Nat)(h:j<m):(wP s p m).getD j (0,0,0,0)=kY s (p+3*j):=by
 induction m with
 |zero=>omega
 |succ m a=>
  rw[wP,BA,vI];by_cases h1:j<m
  ·rw[aG h1,a h1]
  ·rw[ax h1,aG (by omega),show j=m by omega]
theorem abI(E:List (Nat×Nat×Nat×Nat))(m x j:Nat)(a:j<E.length):(Fj E m x).getD j (0,0,0,0)=if j=m then((E.getD j (0,0,0,0)).1,(E.getD j (0,0,0,0)).2.1,(E.getD j (0,0,0,0)).2.2.1,x)else E.getD j (0,0,0,0):=by
 unfold Fj;rw[ag,List.getElem?_set];by_cases h:m=j
 ·subst h;rw[aG rfl,aG a,aG rfl];rfl
 ·rw[ax h,ax (fun e=>h e.symm),<-ag]
theorem abJ(s:ByteArray)(p:Nat)(E:List (Nat×Nat×Nat×Nat))(m j:Nat)(a:j<E.length):(uU s p E m).getD j (0,0,0,0)=if j<m then((E.getD j (0,0,0,0)).1,(E.getD j (0,0,0,0)).2.1,(E.getD j (0,0,0,0)).2.2.1,dL (aF s (p+j)) 8)else E.getD j (0,0,0,0):=by
 induction m with
 |zero=>rw[uU,ax (by omega)]
 |succ m b=>
  rw[uU,abI _ _ _ _ (by rw[vJ];exact a),b];by_cases h1:j=m
  ·subst h1;rw[aG rfl,ax (by omega),aG (by omega)]
  ·rw[ax h1];by_cases h2:j<m
   ·rw[aG h2,aG (by omega)]
   ·rw[ax h2,ax (by omega)]
theorem ac4(s:ByteArray)(p m j:Nat)(h:j<m):(Lr s p m).getD j 0=sh s (p+2*j):=by
 induction m with
 |zero=>omega
 |succ m a=>
  rw[Lr,BA,Ec];by_cases h1:j<m
  ·rw[aG h1,a h1]
  ·rw[ax h1,aG (by omega),show j=m by omega]
structure Ri(K:Nat)(st:Cs)(pl tr:ByteArray)(ted:Bool):Prop where
 lU:K=3->pl.size=3*st.E.length/\∀j,j<st.E.length->st.E.getD j (0,0,0,0)=(dL (aF pl (3*j)) 8,dL (aF pl (3*j+1)) 8,dL (aF pl (3*j+2)) 8,if j<tr.size then dL (aF tr j) 8 else 65535)
 Zo:ted=false->st.C=[]
 zZ:(K=0\/K=2)->ted=true->st.C.length=aT K/\∀j,j<aT K->st.C.getD j 0=256*aF tr (2*j)+aF tr (2*j+1)
theorem Zp(K D:Nat)(st:Cs)(pl tr:ByteArray)(ted:Bool)(h:Ri K st pl tr ted)(hK:K=0\/K=2\/K=3\/K=4\/K=6)(row:List Nat)(i:Nat):VK K D pl tr ted (uo row i (aT K) D)=J_ K D st.E st.C row i:=by
 have a:(K=0\/K=2)->((ted=true/\∀j,j<(uo row i (aT K) D).length->256*aF tr (2*j)+aF tr (2*j+1)=(uo row i (aT K) D).getD j 0)↔uo row i (aT K) D=st.C):=fun d=>by
  constructor
  ·rintro⟨h1,h2⟩;obtain⟨c1,c2⟩:=h.zZ d h1;refine Fv (by rw[pO,c1]) (fun j c=> ?_);rw[<-h2 j c,c2 j (by rw[pO]at c;exact c)]
  ·intro e;have hp:1<=aT K:=by rcases d with rfl|rfl<;>decide
   cases f:ted with
   |false=>have:=h.Zo f;rw[this]at e;have g:=pO row i (aT K) D;rw[e]at g;simp at g;omega
   |true=>obtain⟨c1,c2⟩:=h.zZ d f;refine⟨rfl,fun j c=> ?_⟩;rw[pO]at c;rw[e,c2 j c]
 unfold VK J_ Nb;rcases hK with rfl|rfl|rfl|rfl|rfl
 ·have:=a (.inl rfl);simp only[this];simp
 ·have:=a (.inr rfl);simp only[this];simp
 ·have k:(uo row i (aT 3) D).getD 0 0=oO row i D:=by
   rw[SX row i (aT 3) D 0 (by decide)];show oO row (i*1+0) D=_;rw[Nat.mul_one,cO]
  obtain⟨s1,s2⟩:=h.lU rfl;simp only[if_true,k];by_cases b:oO row i D<st.E.length
  ·rw[ax (by omega),aG b,s2 _ b]
  ·rw[aG (by omega),ax b]
 ·simp
 ·simp
end Pr
namespace Pr
def iF(D:Nat)(X:List Nat)(m:Nat):Nat:=X.getD (m/D) 0/2^(D-1-m%D)%2
theorem yU(D:Nat)(X:List Nat)(m:Nat):iF D X m<=1:=by unfold iF;have:=jR (X.getD (m/D) 0/2^(D-1-m%D)) (show 0<2 by omega);omega
def nO(β:Nat->Nat)(j:Nat):Nat->Nat
 |0=>0
 |r+1=>2*nO β j r+β (8*j+r)
theorem Gq(β:Nat->Nat)(h:∀m,β m<=1)(j r:Nat):nO β j r<2^r:=by
 induction r with
 |zero=>simp[nO]
 |succ r a=>rw[nO,lH];have:=h (8*j+r);omega
def qU(β:Nat->Nat)(T:Nat):List Nat:=(List.range (T/8)).map (fun j=>nO β j 8)++(if T%8=0 then []else [nO β (T/8) (T%8)])
theorem Zx(β:Nat->Nat)(T:Nat):(qU β T).length=(T+7)/8:=by
 unfold qU;split
 ·simp;omega
 ·simp;omega
theorem VW(β:Nat->Nat)(T:Nat)(h:T%8=0):qU β (T+1)=qU β T++[β T]:=by
 have a:(T+1)/8=T/8:=by omega
 have b:(T+1)%8=1:=by omega
 unfold qU;rw[a,b,aG h,ax (by omega),kU];simp only[nO,Nat.mul_zero,Nat.zero_add,Nat.add_zero];rw[show 8*(T/8)=T by omega]
theorem Jj(β:Nat->Nat)(T:Nat)(h:T%8≠0):qU β T=(List.range (T/8)).map (fun j=>nO β j 8)++[nO β (T/8) (T%8)]/\qU β (T+1)=(List.range (T/8)).map (fun j=>nO β j 8)++[2*nO β (T/8) (T%8)+β T]:=by
 refine⟨by unfold qU;rw[ax h],?_⟩;have a:8*(T/8)+T%8=T:=by omega
 by_cases b:T%8=7
 ·unfold qU;rw[show(T+1)/8=T/8+1 by omega,aG (by omega),kU,List.range_succ,List.map_append,List.map_cons,List.map_nil];congr 2
  rw[b]at a;show 2*nO β (T/8) 7+β (8*(T/8)+7)=_;rw[b,a]
 ·unfold qU;rw[show(T+1)/8=T/8 by omega,ax (by omega),show(T+1)%8=T%8+1 by omega];congr 2
  rw[nO,a]
def Am(D:Nat)(X:List Nat)(n:Nat):List Nat:=(List.range n).map fun j=>nO (iF D X) j 8
theorem Oo(D:Nat)(X:List Nat)(n:Nat):(Am D X n).length=n:=by simp[Am]
theorem yV(D:Nat)(X:List Nat)(n j:Nat)(h:j<n):(Am D X n).getD j 0=nO (iF D X) j 8:=by simp[Am,List.getD_eq_getElem?_getD,h]
theorem TD(D:Nat)(X:List Nat)(n:Nat):∀x∈Am D X n,x<=255:=by intro x a;obtain⟨j,_,rfl⟩:=List.mem_map.1 a;have:=Gq (iF D X) (yU D X) j 8;omega
theorem Zy(D:Nat)(X:List Nat)(T:Nat)(h:T%8=0):qU (iF D X) T=Am D X (T/8):=by unfold qU Am;rw[aG h,kU]
theorem Jk(β:Nat->Nat)(j:Nat):nO β j 8=128*β (8*j)+64*β (8*j+1)+32*β (8*j+2)+16*β (8*j+3)+8*β (8*j+4)+4*β (8*j+5)+2*β (8*j+6)+β (8*j+7):=by simp only[nO,Nat.add_zero];omega
theorem Zz(x:Nat)(h:x<65536):128*(x/2^15%2)+64*(x/2^14%2)+32*(x/2^13%2)+16*(x/2^12%2)+8*(x/2^11%2)+4*(x/2^10%2)+2*(x/2^9%2)+x/2^8%2=x/256:=by omega
theorem Oq(x:Nat):128*(x/2^7%2)+64*(x/2^6%2)+32*(x/2^5%2)+16*(x/2^4%2)+8*(x/2^3%2)+4*(x/2^2%2)+2*(x/2^1%2)+x/2^0%2=x%256:=by omega
theorem abT(D:Nat)(X:List Nat)(n i:Nat)(hD:eG D)(hi:i<X.length)(u:∀x∈X,x<2^D)(v:X.length*D<=8*n):oO (Am D X n) i D=X.getD i 0:=by
 have f:X.getD i 0<2^D:=by rw[ag,aB hi];exact u _ (wo hi)
 have hle:(i+1)*D<=8*n:=aY (dM D hi) v;rw[eF,m_]at hle;rcases hD with rfl|rfl|rfl|rfl|rfl
 ·have hb:∀k,iF 1 X k=X.getD k 0%2:=fun k=>by unfold iF;simp[Nat.mod_one]
  have a:∀k,iF 1 X k<=1:=yU 1 X;unfold oO;rw[ax (by omega),yV _ _ _ _ (by omega),Jk,Nat.mul_one];have e:iF 1 X i=X.getD i 0:=by rw[hb];omega
  rw[<-e];generalize l:i/8=j;have h0:=a (8*j);have h1:=a (8*j+1);have h2:=a (8*j+2);have m:=a (8*j+3);have o:=a (8*j+4);have p:=a (8*j+5);have q:=a (8*j+6);have s:=a (8*j+7);rcases(by omega:i=8*j\/i=8*j+1\/i=8*j+2\/i=8*j+3\/i=8*j+4\/i=8*j+5\/i=8*j+6\/i=8*j+7)with b|b|b|b|b|b|b|b<;>rw[b]
  ·rw[show 8*j%8=0 by omega];omega
  ·rw[show(8*j+1)%8=1 by omega];omega
  ·rw[show(8*j+2)%8=2 by omega];omega
  ·rw[show(8*j+3)%8=3 by omega];omega
  ·rw[show(8*j+4)%8=4 by omega];omega
  ·rw[show(8*j+5)%8=5 by omega];omega
  ·rw[show(8*j+6)%8=6 by omega];omega
  ·rw[show(8*j+7)%8=7 by omega];omega
 ·have c:∀k,iF 2 X (2*k)=X.getD k 0/2%2:=fun k=>by unfold iF;rw[show 2*k/2=k by omega,show 2*k%2=0 by omega]
  have d:∀k,iF 2 X (2*k+1)=X.getD k 0%2:=fun k=>by unfold iF;rw[show(2*k+1)/2=k by omega,show(2*k+1)%2=1 by omega];simp
  have a:∀k,iF 2 X k<=1:=yU 2 X;unfold oO;rw[ax (by omega),yV _ _ _ _ (by omega),Jk];have e:2*iF 2 X (2*i)+iF 2 X (2*i+1)=X.getD i 0:=by rw[c,d];omega
  rw[<-e];generalize l:i*2/8=j;have h0:=a (8*j);have h1:=a (8*j+1);have h2:=a (8*j+2);have m:=a (8*j+3);have o:=a (8*j+4);have p:=a (8*j+5);have q:=a (8*j+6);have s:=a (8*j+7);rcases(by omega:i=4*j\/i=4*j+1\/i=4*j+2\/i=4*j+3)with b|b|b|b<;>rw[b]
  ·rw[show 4*j*2%8=0 by omega,show 2*(4*j)+1=8*j+1 by omega,show 2*(4*j)=8*j by omega];omega
  ·rw[show(4*j+1)*2%8=2 by omega,show 2*(4*j+1)+1=8*j+3 by omega,show 2*(4*j+1)=8*j+2 by omega];omega
  ·rw[show(4*j+2)*2%8=4 by omega,show 2*(4*j+2)+1=8*j+5 by omega,show 2*(4*j+2)=8*j+4 by omega];omega
  ·rw[show(4*j+3)*2%8=6 by omega,show 2*(4*j+3)+1=8*j+7 by omega,show 2*(4*j+3)=8*j+6 by omega];omega
 ·have c:∀k,iF 4 X (4*k)=X.getD k 0/8%2:=fun k=>by unfold iF;rw[show 4*k/4=k by omega,show 4*k%4=0 by omega]
  have d:∀k,iF 4 X (4*k+1)=X.getD k 0/4%2:=fun k=>by unfold iF;rw[show(4*k+1)/4=k by omega,show(4*k+1)%4=1 by omega]
  have g:∀k,iF 4 X (4*k+2)=X.getD k 0/2%2:=fun k=>by unfold iF;rw[show(4*k+2)/4=k by omega,show(4*k+2)%4=2 by omega]
  have h:∀k,iF 4 X (4*k+3)=X.getD k 0%2:=fun k=>by unfold iF;rw[show(4*k+3)/4=k by omega,show(4*k+3)%4=3 by omega];simp
  have a:∀k,iF 4 X k<=1:=yU 4 X;unfold oO;rw[ax (by omega),yV _ _ _ _ (by omega),Jk];have e:8*iF 4 X (4*i)+4*iF 4 X (4*i+1)+2*iF 4 X (4*i+2)+iF 4 X (4*i+3)=X.getD i 0:=by rw[c,d,g,h];omega
  rw[<-e];generalize l:i*4/8=j;have h0:=a (8*j);have h1:=a (8*j+1);have h2:=a (8*j+2);have m:=a (8*j+3);have o:=a (8*j+4);have p:=a (8*j+5);have q:=a (8*j+6);have s:=a (8*j+7);rcases(by omega:i=2*j\/i=2*j+1)with b|b<;>rw[b]
  ·rw[show 2*j*4%8=0 by omega,show 4*(2*j)+1=8*j+1 by omega,show 4*(2*j)+2=8*j+2 by omega,show 4*(2*j)+3=8*j+3 by omega,show 4*(2*j)=8*j by omega];omega
  ·rw[show(2*j+1)*4%8=4 by omega,show 4*(2*j+1)+1=8*j+5 by omega,show 4*(2*j+1)+2=8*j+6 by omega,show 4*(2*j+1)+3=8*j+7 by omega,show 4*(2*j+1)=8*j+4 by omega];omega
 ·have hb:∀r,r<8->iF 8 X (8*i+r)=X.getD i 0/2^(7-r)%2:=fun r w=>by unfold iF;rw[show(8*i+r)/8=i by omega,show(8*i+r)%8=r by omega]
  have h0:iF 8 X (8*i)=X.getD i 0/2^7%2:=hb 0 (by omega);unfold oO;rw[ax (by omega),yV _ _ _ _ (by omega),show i*8/8=i by omega,Jk,h0,hb 1 (by omega),hb 2 (by omega),hb 3 (by omega),hb 4 (by omega),hb 5 (by omega),hb 6 (by omega),hb 7 (by omega),show i*8%8=0 by omega];have e:=Oq (X.getD i 0);have y:X.getD i 0%256=X.getD i 0:=gz f;simp only[Nat.reduceSub,Nat.pow_zero,Nat.div_one,Nat.sub_self]at e|-;rw[e,y];exact gz f
 ·have hb:∀r,r<16->iF 16 X (16*i+r)=X.getD i 0/2^(15-r)%2:=fun r w=>by unfold iF;rw[show(16*i+r)/16=i by omega,show(16*i+r)%16=r by omega]
  have h0:iF 16 X (16*i)=X.getD i 0/2^15%2:=hb 0 (by omega);unfold oO;rw[aG rfl,yV _ _ _ _ (by omega),yV _ _ _ _ (by omega),Jk,Jk,show 8*(2*i)=16*i by omega,show 8*(2*i+1)=16*i+8 by omega];simp only[Nat.add_assoc,Nat.reduceAdd];rw[h0,hb 1 (by omega),hb 2 (by omega),hb 3 (by omega),hb 4 (by omega),hb 5 (by omega),hb 6 (by omega),hb 7 (by omega),hb 8 (by omega),hb 9 (by omega),hb 10 (by omega),hb 11 (by omega),hb 12 (by omega),hb 13 (by omega),hb 14 (by omega),hb 15 (by omega)];have e:=Zz (X.getD i 0) f;have t:=Oq (X.getD i 0);simp only[Nat.add_assoc,Nat.reduceSub]at e t|-;rw[e,t];omega
open Go.RowKit Rf
def DR(w:af)(v:ay)(L:List Nat):Prop:=∃la:Option bG,v= .slice la L.length L.length/\∀i,i<L.length->∃g,la=some ⟨g,0,none⟩/\w.cell? ⟨g,i,none⟩=some (.int .u16 ((L.getD i 0:Nat):Int))
theorem DR.nil(w:af):DR w (.slice none 0 0) []:=⟨none,rfl,fun i hi=>by simp at hi⟩
theorem DR.oD{w:af}{gp n:Nat}{L:List Nat}(h:mM w gp L)(a:L.length=n):DR w (.slice (some ⟨gp,0,none⟩) n n) L:=by subst a;refine⟨some ⟨gp,0,none⟩,rfl,fun i hi=>⟨gp,rfl,?_⟩⟩;rw[(cell_of h i).1];simp[dm,hi,List.getD_eq_getElem?_getD]
end Pr
end Go.Proofs.YtephkcdbnogdhabGreatDoor
