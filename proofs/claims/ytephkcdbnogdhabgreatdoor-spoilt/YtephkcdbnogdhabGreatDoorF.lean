import Derived.Test.YtephkcdbnogdhabGreatDoorM35
set_option linter.unusedVariables false
set_option maxHeartbeats 40000000
set_option maxRecDepth 10000
namespace Go.Proofs.YtephkcdbnogdhabGreatDoor
open Go.Proofs.Tryz
open Go renaming World->af,Value->ay,Calls->aH,Addr->bG
open Go.RowKit renaming Below->aA
namespace Kp
open Rf Cr
open Pr
open gI (bQ bz gQ rC)
theorem aff(s:ByteArray):s.data.toList.length=s.size:=by simp
def afk(p:Wk):List UInt8:=qV tX (mg p.W p.H p.D p.K (if p.I=true then 1 else 0))
theorem afV(p:Wk):tZ (if p.oz=[]then []else [(⟨p.oz.toArray⟩:ByteArray)])=p.oz:=by
 by_cases h:p.oz=[]
 ·rw[aG h,h];rfl
 ·rw[ax h];simp[tZ]
theorem afu(ds:List (List UInt8)):tZ (ds.map Dh)=nP ds:=by
 induction ds with
 |nil=>rfl
 |cons d ds a=>rw[List.map_cons,tZ,a,nP];simp[Dh]
theorem afA(p:Wk)(ds:List (List UInt8)):(kC p ds).length=1+(if p.oz=[]then 0 else 1)+ds.length+1:=by unfold kC;by_cases h:p.oz=[]<;>simp[h]<;>omega
end Kp
namespace Kp
open Go.RowKit Rf Cr
open Pr
def aeh(n:Nat):List Int:=List.replicate n 1++[-1]
theorem aeB(n:Nat):(aeh n).length=n+1:=by simp[aeh]
theorem ae1(n i:Nat)(h:i<n):(aeh n).getD i 0=1:=by unfold aeh;rw[ag,dI (by simpa using h),List.getElem?_replicate_of_lt h];rfl
theorem aeL(n:Nat):(aeh n).getD n 0= -1:=by unfold aeh;rw[ag,fC (by simp)];simp
theorem ae2(n i:Nat)(h:i<=n):Far (aeh n) i 0 i:=by
 induction i with
 |zero=>exact Far.start _
 |succ i a=>exact(a (by omega)).more (by rw[aeB];omega) (by rw[ae1 n i h];decide)
theorem aem(n:Nat):nY (aeh n) (n+1)=none:=(ae2 n n (ah _)).fail (by rw[aeB];omega) (by rw[aeL];decide)
theorem aeC{L:List Int}{t u:Nat}(h:nY L t=none)(hu:t<=u):nY L u=none:=by have:=IA L t (u-t) h;rw[show t+(u-t)=u by omega]at this;exact this
theorem ae3(n i:Nat)(h:i<=n)(hi:i<=100):Far (List.replicate n (0:Int)) i i 0:=by
 induction i with
 |zero=>exact Far.start _
 |succ i a=>exact(a (by omega) (by omega)).zero (by simp;omega) (by simp[List.getD_eq_getElem?_getD,List.getElem?_replicate];split<;>rfl) (by omega)
theorem aeS:nY (List.replicate 101 (0:Int)) 1=none:=(ae3 101 100 (by omega) (by omega)).afd (by simp) (by rw[List.getD_eq_getElem?_getD,List.getElem?_replicate_of_lt (by omega)];rfl) (by omega)
theorem aeq(b s:ByteArray)(limit:Int)(sl:ay)(L:List Int)(w:af)(eb fb lb:bG)(W H:Nat)(dQ:List Nat)(t:Nat)(n:CY s limit ⟨0,W,H,dQ⟩)(hD:KT w eb fb lb)(d:gq w w.heap.size sl L)(g:b.size<=140737488354000)(j:s.size<=140737488354000)
 (u:t<b.size) (m:t<s.size) (o:nY L (t+1)=none) (he:∀i,i<t->aF s i=aF b i):
 aH prog 20 #[.string b,.int .i64 limit,sl] w fun e w'=>e= .returned (.tuple #[Aq,.int .i64 4])/\aA w.heap.size w w':=by
 generalize c:(⟨0,W,H,dQ⟩:An)=A at n;cases n with
 |lim h=>cases c
 |large _ _ _ _=>cases c
 |dV _ _ _=>cases c
 |ok h1 h2 p x y=>
  obtain⟨l,rfl⟩:∃l:Nat,limit=l:=⟨limit.toNat,by omega⟩;refine(VZ b l sl L s w eb fb lb hD d (.inr ⟨t,m,u,o,he⟩) g j (by omega) (by omega)).mono ?_;rintro e w' ⟨⟨P1,st,z,P2,f,gp,a,v,q,B,rfl,C,D⟩|⟨⟨⟨a,v⟩,q⟩,rfl⟩|⟨a,rfl⟩|⟨a,rfl⟩,hb⟩
  ·obtain⟨k,r⟩:=q.2;rw[aeC o (by omega)]at r;cases r
  ·omega
  ·rcases a with a|a
   ·exact absurd p.head a
   ·exact absurd ⟨_,_,_,_,p⟩ a.2
  ·exact⟨rfl,hb⟩
theorem aeT(b:ByteArray)(limit:Int)(sl:ay)(n:Nat)(w:af)(eb fb lb:bG)(m:CY b limit ⟨2,0,0,[]⟩)(hD:KT w eb fb lb)(d:gq w w.heap.size sl (aeh n))(g:b.size<=140737488354000)(r:n<b.size):
 aH prog 20 #[.string b,.int .i64 limit,sl] w fun e w'=>(e= .returned (.tuple #[Aq,.int .i64 4])\/(33<=n/\e= .returned (.tuple #[Aq,.int .i64 2])))/\aA w.heap.size w w':=by
 generalize c:(⟨2,0,0,[]⟩:An)=A at m;cases m with
 |lim h=>cases c
 |ok _ _ _ _ _=>cases c
 |dV _ _ _=>cases c
 |large h1 h2 o s=>
  obtain⟨l,rfl⟩:∃l:Nat,limit=l:=⟨limit.toNat,by omega⟩;refine(VZ b l sl (aeh n) b w eb fb lb hD d (.inl rfl) g g (by omega) (by omega)).mono ?_;rintro e w' ⟨⟨P1,st,t,P2,f,gp,a,p,i,u,rfl,v,x⟩|⟨⟨⟨a,p⟩,k,i⟩,rfl⟩|⟨a,rfl⟩|⟨a,rfl⟩,hb⟩
  ·omega
  ·refine⟨.inr ⟨?_,rfl⟩,hb⟩;rcases bW n 33 with q|j
   ·rw[aeC (aem n) (by omega)]at i;cases i
   ·exact j
  ·rcases a with a|a
   ·exact absurd o a
   ·have:=a.1;omega
  ·exact⟨.inl rfl,hb⟩
theorem aew{w:af}{base:Nat}{la:Option bG}{n cap:Nat}{L:List Int}(h:w.ownsRow base 3 1 (.slice la n cap) n (ael L))(hb:∀x∈L,-9223372036854775808<=x/\x<=9223372036854775807)(a:n<=140737488351232):gq w w.heap.size (.slice la n cap) L:=by
 have b:L.length=n:=by have:=h.1;rw[aeZ]at this;omega
 subst b;rcases h.2 with⟨e,h0⟩|⟨g,f,cur,e,j,c,_,_,_,k⟩
 ·exact⟨la,cap,rfl,a,fun i hi=>by omega⟩
 ·injection e with d l e3
  subst d;refine⟨some ⟨g,0,none⟩,cap,rfl,a,fun i hi=>⟨⟨g,0,none⟩,rfl,ak c,?_,?_⟩⟩
  ·rw[Addr.add_mid,fQ,h.cellAt i (by omega)];exact ae8 L i hi
  ·rw[ag,aB hi];exact hb _ (wo hi)
theorem aey(n:Nat):List.replicate (n+1) (1:Int)=List.replicate n 1++[1]:=List.replicate_succ'
theorem aex(n:Nat):∀x∈aeh n,(-9223372036854775808:Int)<=x/\x<=9223372036854775807:=by
 intro x a;rcases List.mem_append.1 a with a|a
 ·rw[(List.mem_replicate.1 a).2];omega
 ·rw[List.mem_singleton.1 a];omega
theorem aeE(w:af)(s:ByteArray)(cap:Nat):Bytes (w.drew.alloc (.cells (bytesRow s cap) 5 ((bytesRow s cap).size,(bytesRow s cap).size+1))) w.heap.size s.data.toList:=fun i hi=>by
 have a:i<s.data.size:=by simpa using hi
 have:=nU w.drew (bytesRow s cap) 5 ((bytesRow s cap).size,(bytesRow s cap).size+1) i;rw[bytesRow_at s cap i a]at this;refine this.trans ?_;simp only[List.getD,Array.getElem?_toList,Array.getElem?_eq_getElem a,Option.getD_some]
theorem aeH(w:af)(s:ByteArray)(cap i:Nat)(hi:i<s.size):(w.drew.alloc (.cells (bytesRow s cap) 5 ((bytesRow s cap).size,(bytesRow s cap).size+1))).frozen? ⟨w.heap.size,i,none⟩=false:=by
 have:=World.frozen?_alloc_mark w.drew (bytesRow s cap) 5 (bytesRow s cap).size ((bytesRow s cap).size+1) i;refine this.trans ?_;have h:i<(bytesRow s cap).size:=by
  have:s.size<=(bytesRow s cap).size:=by unfold bytesRow;simp
  omega
 simp;omega
theorem aeF{w:af}{b:Nat}{l:List UInt8}{i:Nat}(h:Bytes w b l)(hi:i<l.length)(v:Int)(x:UInt8)(c:v=((x.toNat:Nat):Int)):Bytes (w.setCell ⟨b,i,none⟩ (.int .u8 v)) b (l.set i x):=fun j d=>by
 have a:j<l.length:=by simpa using d
 by_cases e:j=i
 ·subst e;rw[World.cell?_setCell_same _ _ _ (h j a),c];simp[List.getD,a]
 ·rw[World.cell?_setCell_other _ _ _ _ (by intro x;injection x;omega),h j a];simp[List.getD,List.getElem?_set_ne (fun x=>e x.symm)]
theorem aeP(a:UInt8):bits BinOp.xor IntKind.u8 ((a.toNat:Nat):Int) 1=(((a^^^1).toNat:Nat):Int):=by have h:=u8_xor_nat a.toNat 1 a.toNat_lt (by omega);rw[UInt8.toNat_xor];exact h
def aez(s:ByteArray)(i:Nat)(x:UInt8):ByteArray:=⟨(s.data.toList.set i x).toArray⟩
theorem aer(s:ByteArray)(i:Nat)(x:UInt8):(aez s i x).size=s.size:=by unfold aez;rw[fF,iH];simp
theorem aeA(s:ByteArray)(i:Nat)(x:UInt8)(j:Nat)(h:j≠i):aF (aez s i x) j=aF s j:=by unfold aez aF;rw[ag,ag,List.getElem?_set_ne (fun e=>h e.symm)]
theorem afB(s:ByteArray)(i:Nat)(x:UInt8)(h:i<s.size):aF (aez s i x) i=x.toNat:=by unfold aez aF;rw[ag,List.getElem?_set_self (by simpa using h)];rfl
theorem aet{wr:af}{ops:Array Oper}{rest:List Oper}{o:Oper}{a:Act}{Q:Exit->Act->af->Prop}(d:o.guard=none)(s x:Operand)
 (i:o.op= .call {callee:= .builtin .append,args:= #[s,x],argTypes:= #[22,22]}) (base:Nat) (v:ay) (n:Nat) (xs:List ay) (z:Int)
 (b:wr.ownsRow base 3 1 v n xs) (k:a.eval s=v) (l:a.eval x= .slice (some ⟨wr.heap.size,0,none⟩) 1 1) (p:n<=20000000000000) (hb:base<=wr.heap.size)
 (h:∀v' w',w'.ownsRow base 3 1 v' (n+1) (xs++[.int .i64 z])->(wr.alloc (.cells #[.int .i64 z] 3)).grownBy w' v.ownBlock->wpList prog ops Q rest (a.put o.dst v') w'):
 wpList prog ops Q (o::rest) a (wr.alloc (.cells #[.int .i64 z] 3)):=by
 obtain⟨m,hi,e,f,g⟩:=info_parts lI.AB;refine wpList_append_own_wide _ d s x 22 i base 3 m (.int .i64 0) 1 8 underlying22 hi e f g rfl (by decide) v n xs k (b.alloc _) ⟨wr.heap.size,0,none⟩ 1 1 [.int .i64 z] l rfl ?_ ?_ ?_ ?_ ?_ ?_
 ·intro j u c;match j,c with
  |0,c=>simp at c;subst c;simp[Addr.add]
 ·intro u hu;simp at hu;subst hu;rfl
 ·unfold maxLen;omega
 ·omega
 ·simp;omega
 ·intro v' w' h1 h2 q;exact h v' w' h1 h2
end Kp
namespace Kp
open Rf Cr
open Pr
open gI (bQ bz gQ)
theorem af9(A B:List ByteArray)(c:ByteArray)(i:Nat)(x:UInt8)(hi:i<c.size):(⟨(tZ (A++aez c i x::B)).toArray⟩:ByteArray)=aez ⟨(tZ (A++c::B)).toArray⟩ ((tZ A).length+i) x:=by
 unfold aez;congr 2
 rw[BI,BI,tZ,tZ];show tZ A++(c.data.toList.set i x++tZ B)=(tZ A++(c.data.toList++tZ B)).set ((tZ A).length+i) x;rw[List.set_append_right _ _ (by omega),Nat.add_sub_cancel_left,List.set_append_left _ _ (by rw[aff];exact hi)]
theorem afv{p:Wk}(h:p.Ok)(ds:List (List UInt8))(b:∀d∈ds,d.length<=2147483647)(A B:List ByteArray)(c:ByteArray)(e:kC p ds=A++c::B)(i:Nat)(x:UInt8)(hi:i<c.size)(l:x.toNat≠aF c i)
 (f:(12<=(tZ A).length+i/\(tZ A).length+i<33)\/∃(a r:List (List UInt8×List UInt8)) (t:List UInt8×List UInt8),p.afi++afh ds++[(rE,[])]=a++t::r/\33+(afe a).length+4<=(tZ A).length+i/\(tZ A).length+i<33+(afe a).length+(qV t.1 t.2).length):
 CY ⟨(tZ (A++aez c i x::B)).toArray⟩ 1048576 ⟨3,0,0,[]⟩:=by
 rw[af9 A B c i x hi];have g:tZ (A++c::B)=p.text ds:=by rw[<-e];exact BJ p ds
 have k:lG ⟨(p.text ds).toArray⟩ 0 (tZ A++(c.data.toList++tZ B)):=by rw[<-g,BI,tZ];exact BD _
 have hb:=k.right.left.2 i (by rw[aff];exact hi);rw[fQ]at hb;have m:(tZ A).length+i<(⟨(p.text ds).toArray⟩:ByteArray).size:=by have:=k.right.left.1;rw[aff]at this;omega
 rw[g];refine h.af8 ds b (q:=(tZ A).length+i) (by rw[aer,fF]) (fun j n=>aeA _ _ _ j n) ?_ f;rw[afB _ _ _ m,hb];exact l
theorem afW{p:Wk}(h:p.Ok)(ds:List (List UInt8))(b:∀d∈ds,d.length<=2147483647)(A B:List ByteArray)(c:ByteArray)(e:kC p ds=A++c::B)(o:A≠[])(a r:List (List UInt8×List UInt8))(t:List UInt8×List UInt8)(ea:p.afi++afh ds++[(rE,[])]=a++t::r)(q:(tZ A).length=33+(afe a).length)(l:lG c 0 (qV t.1 t.2)):
 ∃k,bz c 0=k/\4+k+8<=c.size/\∀(i:Nat) (x:UInt8),4<=i->i<4+k+8->x.toNat≠aF c i->CY ⟨(tZ (A++aez c i x::B)).toArray⟩ 1048576 ⟨3,0,0,[]⟩:=by
 have f:afs (p.afi++afh ds):=h.afE.app (afx b);have g:t∈p.afi++afh ds++[(rE,[])]:=by rw[ea];simp
 have j:isKind t.1/\t.2.length<=2147483647:=by
  rcases List.mem_append.1 g with hm|hm
  ·have:=f t hm;exact⟨this.1,this.2.1⟩
  ·rw[List.mem_singleton.1 hm];exact⟨ZC,by simp⟩
 obtain⟨c1,c2,_⟩:=BC l j.1 j.2;have m:=l.1;rw[l_,j.1.1]at m;refine⟨t.2.length,c2,by omega,fun i x s u n=> ?_⟩;refine afv h ds b A B c e i x (by omega) n (.inr ⟨a,r,t,ea,by omega,?_⟩);rw[l_,j.1.1];omega
theorem afH{A B:List ByteArray}{c:ByteArray}{L:List ByteArray}{k:Nat}(e:L=A++c::B)(a:A.length=k):L.take k=A/\L.getD k ByteArray.empty=c/\L.drop (k+1)=B:=by subst e a;refine⟨by simp,by simp[List.getD_eq_getElem?_getD],?_⟩;rw[List.drop_append,fU (by omega),show A.length+1-A.length=1 by omega];rfl
theorem afX(p:Wk):(tZ [(⟨(zN++afk p).toArray⟩:ByteArray)]).length=33:=by have a:zN.length=8:=rfl;have b:tX.length=4:=rfl;simp only[tZ,List.append_nil,List.length_append,afk,l_,vV,a,b]
theorem afC{p:Wk}(h:p.Ok)(ds:List (List UInt8))(o:∀d∈ds,d.length<=2147483647)(k:Nat)(S:k<(kC p ds).length):
 ∃(c:ByteArray) (b:Nat),(kC p ds).getD k ByteArray.empty=c/\bz c ((if k=0 then 12 else 4)-4)=b/\(if k=0 then 12 else 4)+b+8<=c.size/\
  ∀(i:Nat) (x:UInt8),(if k=0 then 12 else 4)<=i->i<(if k=0 then 12 else 4)+b+8->x.toNat≠aF c i->CY ⟨(tZ ((kC p ds).take k++aez c i x::(kC p ds).drop (k+1))).toArray⟩ 1048576 ⟨3,0,0,[]⟩:=by
 have J:zN.length=8:=rfl;have K:tX.length=4:=rfl
 have key:∀(A B:List ByteArray) (c:ByteArray) (a r:List (List UInt8×List UInt8)) (t:List UInt8×List UInt8),kC p ds=A++c::B->A.length=k->A≠[]->p.afi++afh ds++[(rE,[])]=a++t::r->(tZ A).length=33+(afe a).length->lG c 0 (qV t.1 t.2)->∃(c:ByteArray) (b:Nat),(kC p ds).getD k ByteArray.empty=c/\bz c ((if k=0 then 12 else 4)-4)=b/\(if k=0 then 12 else 4)+b+8<=c.size/\
  ∀(i:Nat) (x:UInt8),(if k=0 then 12 else 4)<=i->i<(if k=0 then 12 else 4)+b+8->x.toNat≠aF c i->CY ⟨(tZ ((kC p ds).take k++aez c i x::(kC p ds).drop (k+1))).toArray⟩ 1048576 ⟨3,0,0,[]⟩:=by
  intro A B c a r t e I q ea C L;have f:k≠0:=by rintro rfl;exact q (List.length_eq_zero_iff.1 I)
  obtain⟨D,E,F⟩:=afH e I;obtain⟨b,M,N,O⟩:=afW h ds o A B c e q a r t ea C L;rw[ax f,D,F];exact⟨c,b,E,M,N,O⟩
 by_cases f:k=0
 ·subst f;have e:kC p ds=[]++(⟨(zN++afk p).toArray⟩:ByteArray)::((if p.oz=[]then []else [⟨p.oz.toArray⟩])++(ds.map Dh++[⟨(qV rE []).toArray⟩])):=rfl;obtain⟨D,E,F⟩:=afH (k:=0) e rfl;have C:lG ⟨(zN++afk p).toArray⟩ 8 (afk p):=by have:=(BD (zN++afk p)).right;exact this
  obtain⟨c1,c2,_⟩:=BC C ZG (by rw[vV];omega);rw[vV]at c2;have U:(⟨(zN++afk p).toArray⟩:ByteArray).size=33:=by rw[fF,aK,J];unfold afk;rw[l_,vV,K]
  rw[aG rfl,D,F];refine⟨_,13,E,c2,by omega,fun i x V W P=> ?_⟩;exact afv h ds o _ _ _ e i x (by omega) P (.inl ⟨by simp only[tZ,List.length_nil];omega,by simp only[tZ,List.length_nil];omega⟩)
 ·have hlen:=afA p ds;obtain⟨T,y⟩:∃T:List ByteArray,T=if p.oz=[]then []else [⟨p.oz.toArray⟩]:=⟨_,rfl⟩
  have s:T.length=if p.oz=[]then 0 else 1:=by rw[y];by_cases n:p.oz=[]<;>simp[n]
  have u:tZ T=afe p.afi:=by rw[y,afV,p.afj]
  have g:kC p ds=[(⟨(zN++afk p).toArray⟩:ByteArray)]++(T++(ds.map Dh++[⟨(qV rE []).toArray⟩])):=by rw[y];rfl
  have l:=afX p;rw[<-s]at hlen;by_cases h1:k-1<T.length
  ·
   have n:¬p.oz=[]:=fun n=>by rw[s,aG n]at h1;omega
   have v:T=[⟨p.oz.toArray⟩]:=by rw[y,ax n]
   have G:k=1:=by rw[v]at h1;simp at h1;omega
   obtain⟨t,r,m⟩:∃t r,p.afi=t::r:=by
    cases H:p.afi with
    |nil=>exact absurd (by rw[<-p.afj,H];rfl) n
    |cons t r=>exact⟨t,r,rfl⟩
   refine key [⟨(zN++afk p).toArray⟩] (ds.map Dh++[⟨(qV rE []).toArray⟩]) ⟨p.oz.toArray⟩ [] (r++afh ds++[(rE,[])]) t (by rw[g,v];rfl) (by rw[G];rfl) (by simp) (by rw[m];simp) (by rw[l];rfl) ?_;have:=BD p.oz;rw[<-p.afj,m,afe]at this;rw[<-p.afj,m,afe];exact this.left
  ·by_cases h2:k-1-T.length<ds.length
   ·
    obtain⟨j,Q⟩:∃j,j=k-1-T.length:=⟨_,rfl⟩;rw[<-Q]at h2;obtain⟨w,d,z,hd,R⟩:∃w d z,ds=w++d::z/\w.length=j:=⟨ds.take j,ds[j],ds.drop (j+1),by rw[<-kX h2,nS],by rw[eH];omega⟩;refine key ([⟨(zN++afk p).toArray⟩]++(T++w.map Dh)) (z.map Dh++[⟨(qV rE []).toArray⟩]) (Dh d) (p.afi++afh w) (afh z++[(rE,[])]) (DL,d) (by rw[g,hd];simp) (by simp;omega) (by simp) (by rw[hd];simp[afh]) ?_ (BD _);rw[BI,aK,l,BI,u,afu,afg,afl]
   ·
    refine key ([⟨(zN++afk p).toArray⟩]++(T++ds.map Dh)) [] ⟨(qV rE []).toArray⟩ (p.afi++afh ds) [] (rE,[]) (by rw[g];simp) (by simp;omega) (by simp) rfl ?_ (BD _);rw[BI,aK,l,BI,u,afu,afg,afl]
theorem afL(L:List ByteArray)(k:Nat)(a:k<L.length):tZ L=tZ (L.take k)++((L.getD k ByteArray.empty).data.toList++tZ (L.drop (k+1))):=by
 have e:L=L.take k++L.getD k ByteArray.empty::L.drop (k+1):=by rw[ag,aB a,Option.getD_some,<-kX a,nS]
 rw[<-tZ,<-BI,<-e]
theorem afY(L:List ByteArray)(k i:Nat)(x:UInt8)(a:k<L.length):(tZ (L.take k++aez (L.getD k ByteArray.empty) i x::L.drop (k+1))).length=(tZ L).length/\(L.getD k ByteArray.empty).size<=(tZ L).length:=by rw[afL L k a,BI,tZ];have h:=aer (L.getD k ByteArray.empty) i x;simp only[List.length_append,aff];omega
end Kp
namespace Kp
open Go.RowKit Rf Cr
open Pr
theorem afm{wr:af}{ops:Array Oper}{rest:List Oper}{o:Oper}{a:Act}{Q:Exit->Act->af->Prop}(e:o.guard=none)(s x:Operand)
 (r:o.op= .call {callee:= .builtin .append,args:= #[s,x],argTypes:= #[28,28]}) (base:Nat) (v:ay) (n:Nat) (xs:List ay) (g p m c:Nat) (L:List ByteArray)
 (b:wr.ownsRow base 9 1 v n xs) (h2:∀j,j<m->wr.cell? ⟨g,p+j,none⟩=some (.string (L.getD j ByteArray.empty))) (A:L.length=m) (t:a.eval s=v) (w:a.eval x= .slice (some ⟨g,p,none⟩) m c) (B:n+m<=1000) (hb:base<=wr.heap.size)
 (h:∀v' w',w'.ownsRow base 9 1 v' (n+m) (xs++nJ L)->wr.grownBy w' v.ownBlock->wpList prog ops Q rest (a.put o.dst v') w'):
 wpList prog ops Q (o::rest) a wr:=by
 obtain⟨y,hi,f,i,k⟩:=info_parts TK;refine wpList_append_own _ e s x 28 r base 9 y (.string ⟨#[]⟩) 1 16 underlying28 hi f i k rfl (by decide) v n xs t b ⟨g,p,none⟩ m c (nJ L) w ?_ ?_ ?_ ?_ ?_ ?_ ?_
 ·rw[aai];omega
 ·intro j u l;have d:j<(nJ L).length:=by
   rcases bW j (nJ L).length with q|q
   ·exact q
   ·rw[dD q]at l;cases l
  rw[aai]at d;rw[<-l,Addr.add_mid,h2 j (by omega)];simp[nJ,d,List.getD_eq_getElem?_getD]
 ·intro u hu;obtain⟨z,_,rfl⟩:=List.mem_map.1 hu;rfl
 ·unfold maxLen;omega
 ·omega
 ·exact hb
 ·intro v' w' h1 h2 C;exact h v' w' h1 h2
theorem afM{w:af}{base g n cap:Nat}{L:List ByteArray}(h:w.ownsRow base 9 1 (.slice (some ⟨g,0,none⟩) n cap) n (nJ L)):L.length=n/\g<w.heap.size/\n<=cap/\∀j,j<n->w.cell? ⟨g,j,none⟩=some (.string (L.getD j ByteArray.empty)):=by
 have a:L.length=n:=by have:=h.1;rw[aai]at this;omega
 refine⟨a,(h.lt g rfl).2,?_,fun j b=> ?_⟩
 ·rcases h.2 with⟨e,h0⟩|⟨c,d,cur,e,_,_,f,_⟩
  ·cases e
  ·injection e with _ _ e3
   omega
 ·rw[h.cellAt j (by omega)];simp[nJ,a,b,List.getD_eq_getElem?_getD]
end Kp
end Go.Proofs.YtephkcdbnogdhabGreatDoor
