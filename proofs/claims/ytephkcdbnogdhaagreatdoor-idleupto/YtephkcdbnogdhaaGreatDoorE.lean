import Derived.Deep.DeepAppendWide
import Derived.Test.YtephkcdbnogdhaaGreatDoorM35
set_option linter.unusedVariables false
set_option maxHeartbeats 40000000
set_option maxRecDepth 10000
namespace Go.Proofs.YtephkcdbnogdhaaGreatDoor
open Go.Proofs.Tryz
open Go renaming World->af,Value->ay,Calls->aH,TypeId->aW,Addr->bG
open Go.RowKit renaming Hid->au,Below->aA,intOf->bH
namespace gI
open Go.RowKit Rf
theorem aeY(n:Nat):madeCells #[.int .i64 0] n=Array.replicate n (Value.int .i64 0):=by
 apply Array.ext
 ·rw[oU];simp
 ·intro i h1 h2;have h:i<n:=by rw[oU]at h1;exact h1
  have e:(madeCells #[.int .i64 0] n)[i]?=some (.int .i64 0):=by simp[madeCells,h];simp[Nat.mod_one]
  rw[xg h1]at e;rw[eu e];simp
end gI
namespace Pr
open Go.RowKit Rf Cr
open gI (cut fK bz gu gQ rC b_ lV zB)
theorem adO.VE{s:ByteArray}{y:PS}{P1:Pt}{st:Cs}{t:jX}{P2:Pt}(h:adO s y P1 st t P2){a:Pt}{qR:Cs}{b:jX}{c:Pt}(g:Way s a qR b c):a=P1/\qR=st/\b=t:=by
 obtain⟨d,e⟩:=h.ahead.VE g.ahead;refine⟨d,e,?_⟩;have:=h.first
 rw[g.first]at this;exact eu this
theorem afb{s:ByteArray}{y:PS}{P1:Pt}{st:Cs}{t:jX}{P2:Pt}(h:adO s y P1 st t P2)(a:¬WI y.da (hSz s) (fun _=>True)):¬Good s:=by rintro⟨b,qR,c,d,hw⟩;obtain⟨rfl,rfl,rfl⟩:=h.VE hw;refine a ?_;rw[h.da];exact abM hw.rows.1 trivial
end Pr
namespace Rf
theorem aei(L:List Int)(n:Int)(j:Nat):(L++[n]).getD j 0=if j<L.length then L.getD j 0 else if j=L.length then n else 0:=by
 simp only[List.getD_eq_getElem?_getD];by_cases h:j<L.length
 ·rw[aG h,dI h]
 ·rw[ax h,fC (by omega)];by_cases h2:j=L.length
  ·rw[aG h2,h2];simp
  ·rw[ax h2,dD (by simp;omega)];rfl
theorem ZO.more{L:List Int}{e:Nat}(h:ZO L e){n:Int}(d:0<n):ZO (L++[n]) 0:=by
 refine⟨by omega,fun k f=> ?_⟩;rw[aK,lq]at f|-;by_cases g:k<=L.length
 ·obtain⟨i,h1,h2,l⟩:=h.run k g;refine⟨i,h1,fun j c=> ?_,.inr ?_⟩
  ·obtain⟨a,b⟩:=h2 j c;exact⟨by omega,by rw[aei,aG a];exact b⟩
  ·rcases l with⟨a,b⟩|⟨a,b⟩
   ·exact⟨by omega,by rw[aei,ax (by omega),aG a];exact d⟩
   ·exact⟨by omega,by rw[aei,aG a];exact b⟩
 ·exact⟨0,by omega,fun j c=>by omega,.inl ⟨by omega,ah _⟩⟩
theorem ZO.zero{L:List Int}{e:Nat}(h:ZO L e)(he:e+1<=100):ZO (L++[0]) (e+1):=by
 refine⟨he,fun k g=> ?_⟩;rw[aK,lq]at g|-;by_cases l:k<=L.length
 ·obtain⟨i,h1,h2,m⟩:=h.run k l;rcases m with⟨a,b⟩|⟨a,b⟩
  ·refine⟨i+1,by omega,fun j f=> ?_,.inl ⟨by omega,by omega⟩⟩;rcases(by omega:j<i\/j=i)with f|rfl
   ·obtain⟨c,d⟩:=h2 j f;exact⟨by omega,by rw[aei,aG c];exact d⟩
   ·exact⟨by omega,by rw[aei,ax (by omega),aG a]⟩
  ·refine⟨i,h1,fun j f=> ?_,.inr ⟨by omega,by rw[aei,aG a];exact b⟩⟩;obtain⟨c,d⟩:=h2 j f;exact⟨by omega,by rw[aei,aG c];exact d⟩
 ·exact⟨0,by omega,fun j f=>by omega,.inl ⟨by omega,by omega⟩⟩
structure Far(L:List Int)(i e sure:Nat):Prop where
 le:e<=i
 zn:e<=100
 pos:nY L sure=some (i-e)
 run:∀j,i-e<=j->j<i->L.getD j 0=0
theorem Far.start(L:List Int):Far L 0 0 0:=⟨by omega,by omega,rfl,fun j _ h=>by omega⟩
theorem Far.ask{L:List Int}{i e sure:Nat}(h:Far L i e sure)(hi:i<L.length):nY L (sure+1)=qA L (100-e+1) i:=by rw[nY,h.pos];show qA L 101 (i-e)=_;have a:=h.le;rw[abX L e (i-e) h.zn (fun j b=>⟨by omega,h.run _ (by omega) (by omega)⟩),show i-e+e=i by omega]
theorem Far.more{L:List Int}{i e sure:Nat}(h:Far L i e sure)(hi:i<L.length)(c:0<L.getD i 0):Far L (i+1) 0 (sure+1):=by refine⟨by omega,by omega,?_,fun j a b=>by omega⟩;rw[h.ask hi,qA,ax (by omega),ax (by omega),ax (by omega)];rfl
theorem Far.zero{L:List Int}{i e sure:Nat}(h:Far L i e sure)(hi:i<L.length)(c:L.getD i 0=0)(he:e+1<=100):Far L (i+1) (e+1) sure:=by
 have f:=h.le;refine⟨by omega,he,by rw[h.pos];congr 1;omega,fun j a b=> ?_⟩;rcases(by omega:j<i\/j=i)with d|rfl
 ·exact h.run j (by omega) d
 ·exact c
theorem Far.fail{L:List Int}{i e sure:Nat}(h:Far L i e sure)(hi:i<L.length)(a:L.getD i 0<0):nY L (sure+1)=none:=by rw[h.ask hi,qA,ax (by omega),aG a]
theorem Far.afd{L:List Int}{i e sure:Nat}(h:Far L i e sure)(hi:i<L.length)(a:L.getD i 0=0)(he:100<e+1):nY L (sure+1)=none:=by
 have:=h.zn;obtain rfl:e=100:=by omega
 rw[h.ask hi,qA,ax (by omega),ax (by omega),aG a];rfl
end Rf
namespace Pr
open Go.RowKit Rf Cr
def ael(L:List Int):List ay:=L.map fun z=> .int .i64 z
theorem aep(L:List Int)(z:Int):ael (L++[z])=ael L++[.int .i64 z]:=by simp[ael]
theorem aeZ(L:List Int):(ael L).length=L.length:=by simp[ael]
theorem ae8(L:List Int)(i:Nat)(h:i<L.length):(ael L)[i]?=some (.int .i64 (L.getD i 0)):=by simp[ael,h,List.getD_eq_getElem?_getD]
theorem aeo{wr:af}{ops:Array Oper}{rest:List Oper}{o:Oper}{a:Act}{Q:Exit->Act->af->Prop}(d:o.guard=none)(s x:Operand)
 (i:o.op= .call {callee:= .builtin .append,args:= #[s,x],argTypes:= #[29,29]}) (base:Nat) (v:ay) (n:Nat) (xs:List ay) (z:Int)
 (b:wr.ownsRow base 3 1 v n xs) (k:a.eval s=v) (l:a.eval x= .slice (some ⟨wr.heap.size,0,none⟩) 1 1) (p:n<=17592186044000) (hb:base<=wr.heap.size)
 (h:∀v' w',w'.ownsRow base 3 1 v' (n+1) (xs++[.int .i64 z])->(wr.alloc (.cells #[.int .i64 z] 3)).grownBy w' v.ownBlock->wpList prog ops Q rest (a.put o.dst v') w'):
 wpList prog ops Q (o::rest) a (wr.alloc (.cells #[.int .i64 z] 3)):=by
 obtain⟨m,hi,e,f,g⟩:=info_parts lI.AB;refine wpList_append_own _ d s x 29 i base 3 m (.int .i64 0) 1 8 underlying29 hi e f g rfl (by decide) v n xs k (b.alloc _) ⟨wr.heap.size,0,none⟩ 1 1 [.int .i64 z] l rfl ?_ ?_ ?_ ?_ ?_ ?_
 ·intro j u c;match j,c with
  |0,c=>simp at c;subst c;simp[Addr.add]
 ·intro u hu;simp at hu;subst hu;rfl
 ·unfold maxLen;omega
 ·omega
 ·simp;omega
 ·intro v' w' h1 h2 q;exact h v' w' h1 h2
theorem aeQ(W:af)(n:Nat)(z:Int)(d:z=(n:Int))(f:n<=17592186044001):(Instr.makeSlice 29 (.int .i64 z) (.int .i64 z)).run prog W= .ok (.slice (some ⟨W.heap.size,0,none⟩) n n) (W.alloc (.cells (Array.replicate n (Value.int .i64 0)) 3)):=by subst d;obtain⟨e,hi,a,b,c⟩:=info_parts lI.AB;have h:=run_make (P:=prog) W 29 3 e _ underlying29 hi a .i64 .i64 (n:Int) (n:Int) (by omega) (by omega) (by rw[c];omega) (by omega);rw[h,b,<-gI.aeY];simp[Value.cells]
theorem aen{w:af}{base e size n:Nat}{v:ay}{xs:List ay}(h:w.ownsRow base e size v n xs):∃a c,v= .slice a n c:=by
 rcases h.2 with⟨rfl,rfl⟩|⟨g,cap,_,rfl,_⟩
 ·exact⟨_,_,rfl⟩
 ·exact⟨_,_,rfl⟩
structure EvS(w wx:af)(i e:Nat)(E:List Int)(ea:Option bG)(ec:Nat):Prop where
 len:E.length=i
 even:ZO E e
 rng:∀x∈E,0<=x/\x<=9223372036854775807
 own:wx.ownsRow w.heap.size 3 1 (.slice ea i ec) i (ael E)
 bl:aA w.heap.size w wx
theorem EvS.start(w:af):EvS w w 0 0 [] none 0:=⟨rfl,ZO.nil,fun x h=>by simp at h,eX _ _ _ _,aV _ _⟩
theorem EvS.next{w wx w2:af}{i e f:Nat}{E:List Int}{ea a:Option bG}{ec b:Nat}(h:EvS w wx i e E ea ec){z:Int}(g:0<=z)(d:z<=9223372036854775807)(he:ZO (E++[z]) f)
 (j:w2.ownsRow w.heap.size 3 1 (.slice a (i+1) b) (i+1) (ael E++[.int .i64 z])) (k:(wx.alloc (.cells #[.int .i64 z] 3)).grownBy w2 (Value.slice ea i ec).ownBlock):EvS w w2 (i+1) f (E++[z]) a b:=by
 refine⟨by rw[aK,h.len];rfl,he,fun x c=> ?_,by rw[aep];exact j,lI.mW h.bl (ah _) h.bl.size h.own k⟩;rcases List.mem_append.1 c with c|c
 ·exact h.rng x c
 ·rw[List.mem_singleton.1 c];exact⟨g,d⟩
end Pr
namespace Kp
open Go.RowKit Rf Cr
open Pr
theorem ae9(b:ByteArray)(w:af)(eb fb lb:bG)(h:CY b 1048576 ⟨3,0,0,[]⟩)(hD:KT w eb fb lb)(f:b.size<=140737488354000):
 aH prog 36 #[.string b] w fun e w'=>e= .returned (.bool true)/\aA w.heap.size w w':=by
 go_enter func36,ntmps36
 go_wp2_with fail
 refine aU (Gt b 1048576 (.slice none 0 0) [] w eb fb lb _ h hD (Le w) Gz f) ?_;rintro e w1 ⟨⟨i,j,rfl,a⟩,c⟩;obtain rfl:j=0:=a.1.symm;have d:au _:=c;clear a c h hD;have g:au (aA w.heap.size w (w1.alloc (.cells #[.int .i64 0,.int .i64 0,.slice i 0 0] 32))):=(d.out.alloc d.out.size _:aA _ _ _);dsimp only;go_wp2_with fail
 go_ret;exact⟨rfl,g.out⟩
end Kp
namespace Su
open Ad Cr
theorem aeK(a b c:Nat)(e:a^^^b=a^^^c):b=c:=by have:=jo (a^^^ ·) e;rwa [<-Nat.xor_assoc,<-Nat.xor_assoc,Nat.xor_self,Nat.zero_xor,Nat.zero_xor]at this
end Su
namespace Pr
open Rf Cr
open gI (dL b_ lV bQ bz gQ manyN rC zB Oh dw)
open Jo (one)
open lI (Bq)
open Ad (oM)
theorem aeR{p:Wk}(h:p.Ok){s:ByteArray}{r:List UInt8}(b:s=⟨(zN++(qV tX (mg p.W p.H p.D p.K (if p.I=true then 1 else 0))++r)).toArray⟩):ZR s p/\lG s 33 r/\33+r.length=s.size:=by
 have a:=BD (zN++(qV tX (mg p.W p.H p.D p.K (if p.I=true then 1 else 0))++r));have hlen:=fF (zN++(qV tX (mg p.W p.H p.D p.K (if p.I=true then 1 else 0))++r));rw[<-b]at a hlen;refine⟨Wi h ?_,?_,?_⟩
 ·rw[<-bI]at a;exact a.left
 ·have:=a.right.right;rw[l_,vV]at this;exact this
 ·have c:zN.length=8:=rfl;have d:tX.length=4:=rfl;rw[hlen];simp only[List.length_append,l_,vV,c,d];omega
def aek(size:Nat)(u x:List UInt8):List UInt8:=[120,1]++(kQ size u.length u++x)
theorem ae0(size most:Nat)(b:1<=size)(a:size<=65535)(u x:List UInt8)(e:x.length=4)(hm:u.length<=most):wU ⟨(aek size u x).toArray⟩ most=⟨⟨8*(kQ size u.length u).length,false⟩,u⟩:=by
 have c:(⟨(aek size u x).toArray⟩:ByteArray).extract 2 (⟨(aek size u x).toArray⟩:ByteArray).size=⟨(kQ size u.length u++x).toArray⟩:=by rw[ab1];rfl
 unfold wU Bq;rw[c];have d:=BD (kQ size u.length u++x);have f:=yY size u.length u;have:=VX ⟨(kQ size u.length u++x).toArray⟩ (pw (aF ⟨(aek size u x).toArray⟩ 0/16+8)) most size b a u.length u 0 [] (8*(⟨(kQ size u.length u++x).toArray⟩:ByteArray).size+1) (by have:1*(u.length+1)<=size*(u.length+1):=dM _ b;omega) d.left (by simpa using hm) (by rw[fF,aK];omega)
 rw[Nat.mul_zero]at this;rw[this,fQ,yD]
theorem ae_(size most:Nat)(f:1<=size)(d:size<=65535)(u x:List UInt8)(g:x.length=4)(hm:u.length=most)(hb:(x.getD 3 0).toNat≠one (oM 1 0 u)%256):¬WI ⟨(aek size u x).toArray⟩ most (fun _=>True):=by
 rintro⟨_,_,_,c,_⟩;rw[ae0 size most f d u x g (by omega)]at c;dsimp only at c;rw[show(8*(kQ size u.length u).length+7)/8=(kQ size u.length u).length by omega]at c;have h:=BD (aek size u x);have h1:=lG.right (a:=[120,1]) (b:=kQ size u.length u++x) h;have h2:=h1.right.2 3 (by omega);have i:=c.2.2.2.2;have e:0+([120,1]:List UInt8).length+(kQ size u.length u).length+3=2+(kQ size u.length u).length+3:=by have:([120,1]:List UInt8).length=2:=rfl;omega
 rw[e,i]at h2;exact hb h2.symm
theorem Wk.Ok.afc{p:Wk}(h:p.Ok)(F:Nat->Nat)(size:Nat)(b:1<=size)(c:size<=65535)(x:List UInt8)(m:x.length=4)(hb:(x.getD 3 0).toNat≠one (oM 1 0 (p.kJ F))%256):
 CY ⟨(p.text [aek size (p.kJ F) x]).toArray⟩ 1048576 ⟨3,0,0,[]⟩:=by
 obtain⟨s,l⟩:∃s:ByteArray,s=⟨(p.text [aek size (p.kJ F) x]).toArray⟩:=⟨_,rfl⟩;rw[<-l];obtain⟨hH,n,o⟩:=aeR h l;have e:=p.CZ F;have f:hSz s=(p.kJ F).length:=by unfold hSz;rw[hH.w,hH.h,hH.d,hH.k,hH.i,e,h.size F]
 have g:∀d∈[aek size (p.kJ F) x],d.length<=2147483647:=fun d hd=>by rw[List.mem_singleton.1 hd];have h1:=yY size (p.kJ F).length (p.kJ F);have h2:=h.zn F;unfold aek;rw[aK,aK];have:([120,1]:List UInt8).length=2:=rfl;omega
 obtain⟨q,pl,a,r⟩:=ZT h [aek size (p.kJ F) x] (by simp) g n o;rw[<-hH.k,<-hH.d]at a;obtain⟨P1,st,t,P2,j⟩:=abN hH.h0 a;refine .dV (by omega) (by omega) (.inr ⟨?_,afb j ?_⟩)
 ·rw[hH.w,hH.h];have:p.W*p.H<=20*20:=bD h.w2 h.h2;omega
 ·dsimp only;rw[List.flatten_cons,List.flatten_nil,kU];exact ae_ size _ b c _ x m f.symm hb
end Pr
open Go.ChangeShapes Go.WideShapes Go.ChangeAt Go.RowKit
set_option maxRecDepth 100000 in
theorem afa{H:Type}{enc:aW×ay->H}{W:af}{base:Nat}{v:ay}{d:DataW H}{ps:List MemPlace}(b:Value.okWide prog W .any base 29 v)(hd:DataW.Trod enc prog W 0 (fun _=>true) true 29 v d ps):
 ∃(la:Option bG) (n cap:Nat) (L:List Int),v= .slice la n cap/\L.length=n/\(∀i,i<n->∃a:bG,la=some a/\a.block<W.heap.size/\W.cell? (a.add i)=some (.int .i64 (L.getD i 0))/\ -9223372036854775808<=L.getD i 0/\L.getD i 0<=9223372036854775807)/\(n=0\/∃el sp:List (DataW H),d= .slice el sp/\el.length=n):=by
 obtain⟨f,m,c,rfl⟩:=okWide_slice underlying29 b;obtain⟨fuel,o⟩:=hd;have g:DataW.trod enc prog W 0 (fun _=>true) true fuel 29 [.slice f m c]=some (d,ps):=o;rcases open_ints underlying29 underlying3 OL g with⟨h0,h1⟩|⟨a,len,cap,zs,h0,_,h,_,j,p,k,hw⟩
 ·injection h0 with h0 _
  exact⟨none,0,0,[],h0,rfl,fun i hi=>absurd hi (Nat.not_lt_zero _),.inl rfl⟩
 ·injection h0 with h0 _
  have l:len<=zs.length:=by rw[j];simp;exact h
  refine⟨some a,len,cap,zs.take len,h0,by simp;omega,fun i hi=>⟨a,rfl,?_,?_⟩,.inr ⟨_,_,jo Prod.fst p,?_⟩⟩
  ·have:=k 0 (by omega);have h2:=World.block_lt_of_cell? W _ this;rw[Pr.wH]at h2;exact h2
  ·have e:(zs.take len).getD i 0=zs.getD i 0:=by
    simp only[List.getD_eq_getElem?_getD];rw[dh hi]
   rw[e];refine⟨k i (by omega),?_⟩;have hm:zs.getD i 0∈zs:=by rw[ag,aB (show i<zs.length by omega)];exact wo _
   exact ug (hw _ hm)
  ·simp[lits];omega
namespace Kp
open Go.RowKit Rf Cr
open Pr
def aeh(n:Nat):List Int:=List.replicate n 1++[-1]
theorem aeB(n:Nat):(aeh n).length=n+1:=by simp[aeh]
theorem ae1(n i:Nat)(h:i<n):(aeh n).getD i 0=1:=by unfold aeh;rw[ag,dI (by simpa using h),List.getElem?_replicate_of_lt h];rfl
theorem aeL(n:Nat):(aeh n).getD n 0= -1:=by unfold aeh;rw[ag,fC (by simp)];simp
theorem ae2(n i:Nat)(h:i<=n):Far (aeh n) i 0 i:=by
 induction i with
 |zero=>exact Far.start _
 |succ i a=>exact(a (by omega)).more (by rw[aeB];omega) (by rw[ae1 n i h];decide)
theorem aem(n:Nat):nY (aeh n) (n+1)=none:=(ae2 n n (ah _)).fail (by rw[aeB];omega) (by rw[aeL];decide)
theorem aeC{L:List Int}{t u:Nat}(h:nY L t=none)(hu:t<=u):nY L u=none:=by have:=IA L t (u-t) h;rw[show t+(u-t)=u by omega]at this;exact this
theorem ae3(n i:Nat)(h:i<=n)(hi:i<=100):Far (List.replicate n (0:Int)) i i 0:=by
 induction i with
 |zero=>exact Far.start _
 |succ i a=>exact(a (by omega) (by omega)).zero (by simp;omega) (by simp[List.getD_eq_getElem?_getD,List.getElem?_replicate];split<;>rfl) (by omega)
theorem aeS:nY (List.replicate 101 (0:Int)) 1=none:=(ae3 101 100 (by omega) (by omega)).afd (by simp) (by rw[List.getD_eq_getElem?_getD,List.getElem?_replicate_of_lt (by omega)];rfl) (by omega)
theorem aeq(b s:ByteArray)(limit:Int)(sl:ay)(L:List Int)(w:af)(eb fb lb:bG)(W H:Nat)(dQ:List Nat)(t:Nat)(n:CY s limit ⟨0,W,H,dQ⟩)(hD:KT w eb fb lb)(d:gq w w.heap.size sl L)(g:b.size<=140737488354000)(j:s.size<=140737488354000)
 (u:t<b.size) (m:t<s.size) (o:nY L (t+1)=none) (he:∀i,i<t->aF s i=aF b i):
 aH prog 16 #[.string b,.int .i64 limit,sl] w fun e w'=>e= .returned (.tuple #[Aq,.int .i64 4])/\aA w.heap.size w w':=by
 generalize c:(⟨0,W,H,dQ⟩:An)=A at n;cases n with
 |lim h=>cases c
 |large _ _ _ _=>cases c
 |dV _ _ _=>cases c
 |ok h1 h2 p x y=>
  obtain⟨l,rfl⟩:∃l:Nat,limit=l:=⟨limit.toNat,by omega⟩;refine(VZ b l sl L s w eb fb lb hD d (.inr ⟨t,m,u,o,he⟩) g j (by omega) (by omega)).mono ?_;rintro e w' ⟨⟨P1,st,z,P2,f,gp,a,v,q,B,rfl,C,D⟩|⟨⟨⟨a,v⟩,q⟩,rfl⟩|⟨a,rfl⟩|⟨a,rfl⟩,hb⟩
  ·obtain⟨k,r⟩:=q.2;rw[aeC o (by omega)]at r;cases r
  ·omega
  ·rcases a with a|a
   ·exact absurd p.head a
   ·exact absurd ⟨_,_,_,_,p⟩ a.2
  ·exact⟨rfl,hb⟩
theorem aeT(b:ByteArray)(limit:Int)(sl:ay)(n:Nat)(w:af)(eb fb lb:bG)(m:CY b limit ⟨2,0,0,[]⟩)(hD:KT w eb fb lb)(d:gq w w.heap.size sl (aeh n))(g:b.size<=140737488354000)(r:n<b.size):
 aH prog 16 #[.string b,.int .i64 limit,sl] w fun e w'=>(e= .returned (.tuple #[Aq,.int .i64 4])\/(33<=n/\e= .returned (.tuple #[Aq,.int .i64 2])))/\aA w.heap.size w w':=by
 generalize c:(⟨2,0,0,[]⟩:An)=A at m;cases m with
 |lim h=>cases c
 |ok _ _ _ _ _=>cases c
 |dV _ _ _=>cases c
 |large h1 h2 o s=>
  obtain⟨l,rfl⟩:∃l:Nat,limit=l:=⟨limit.toNat,by omega⟩;refine(VZ b l sl (aeh n) b w eb fb lb hD d (.inl rfl) g g (by omega) (by omega)).mono ?_;rintro e w' ⟨⟨P1,st,t,P2,f,gp,a,p,i,u,rfl,v,x⟩|⟨⟨⟨a,p⟩,k,i⟩,rfl⟩|⟨a,rfl⟩|⟨a,rfl⟩,hb⟩
  ·omega
  ·refine⟨.inr ⟨?_,rfl⟩,hb⟩;rcases bW n 33 with q|j
   ·rw[aeC (aem n) (by omega)]at i;cases i
   ·exact j
  ·rcases a with a|a
   ·exact absurd o a
   ·have:=a.1;omega
  ·exact⟨.inl rfl,hb⟩
theorem aew{w:af}{base:Nat}{la:Option bG}{n cap:Nat}{L:List Int}(h:w.ownsRow base 3 1 (.slice la n cap) n (ael L))(hb:∀x∈L,-9223372036854775808<=x/\x<=9223372036854775807)(a:n<=140737488351232):gq w w.heap.size (.slice la n cap) L:=by
 have b:L.length=n:=by have:=h.1;rw[aeZ]at this;omega
 subst b;rcases h.2 with⟨e,h0⟩|⟨g,f,cur,e,j,c,_,_,_,k⟩
 ·exact⟨la,cap,rfl,a,fun i hi=>by omega⟩
 ·injection e with d l e3
  subst d;refine⟨some ⟨g,0,none⟩,cap,rfl,a,fun i hi=>⟨⟨g,0,none⟩,rfl,ak c,?_,?_⟩⟩
  ·rw[Addr.add_mid,fQ,h.cellAt i (by omega)];exact ae8 L i hi
  ·rw[ag,aB hi];exact hb _ (wo hi)
theorem aey(n:Nat):List.replicate (n+1) (1:Int)=List.replicate n 1++[1]:=List.replicate_succ'
theorem aex(n:Nat):∀x∈aeh n,(-9223372036854775808:Int)<=x/\x<=9223372036854775807:=by
 intro x a;rcases List.mem_append.1 a with a|a
 ·rw[(List.mem_replicate.1 a).2];omega
 ·rw[List.mem_singleton.1 a];omega
theorem aeD(n:Nat)(w:af)(s:n<=10000000):
 aH prog 32 #[.int .i64 (n:Int)] w fun e w'=> ∃v,e= .returned v/\gq w' w'.heap.size v (aeh n)/\aA w.heap.size w w':=by
 go_enter func32,ntmps32
 go_wp2_with fail
 go_loopw [3,4] (fun q iv wr=> ∃(i c:Nat) (a:Option bG),q= .slice a i c/\iv= .int .i64 (i:Int)/\i<=n/\au (wr.ownsRow w.heap.size 3 1 (.slice a i c) i (ael (List.replicate i 1)))/\au (aA w.heap.size w wr)) (fun _ iv _=>n-(bH iv).toNat)
 case atStart=>exact⟨0,0,none,rfl,rfl,aX _,(eX _ _ _ _:World.ownsRow _ _ _ _ _ _ _),(aV _ _:aA _ _ _)⟩
 case round=>
  obtain⟨i,c,a,rfl,rfl,hi,j,l⟩:=hrel;have d:=l.out.size;by_cases r:i<n
  ·have m:(i:Int)<(n:Int):=by omega
   go_wp2_with (first
    |(at_builtin;refine aeo rfl _ _ rfl w.heap.size _ i _ 1 j.out rfl rfl (by omega) d ?_;intro v' g b h;obtain⟨k,c4,rfl⟩:=aen b))
   have f:au (aA w.heap.size w g):=(lI.mW l.out (ah _) d j.out h:aA _ _ _);have o:au (g.ownsRow w.heap.size 3 1 (.slice k (i+1) c4) (i+1) (ael (List.replicate (i+1) 1))):=(by rw[aey,aep];exact b:World.ownsRow _ _ _ _ _ _ _);clear b h;go_wp2_with fail
   go_roundw
   case rel=>exact⟨i+1,c4,k,by go_num,by go_num,by omega,o,f⟩
   case measure=>simp[bH];omega
  ·have m:¬((i:Int)<(n:Int)):=by omega
   obtain rfl:i=n:=by omega
   go_wp2_with (first
    |(at_builtin;refine aeo rfl _ _ rfl w.heap.size _ i _ (-1) j.out rfl rfl (by omega) d ?_;intro v' g b h;obtain⟨k,c4,rfl⟩:=aen b))
   have f:au (aA w.heap.size w g):=(lI.mW l.out (ah _) d j.out h:aA _ _ _);have p:au (gq g g.heap.size (.slice k (i+1) c4) (aeh i)):=(aew (by unfold aeh;rw[aep];exact b) (aex i) (by omega):gq _ _ _ _);clear b h;go_wp2_with fail
   go_ret;exact⟨_,rfl,p.out,f.out⟩
theorem aeE(w:af)(s:ByteArray)(cap:Nat):Bytes (w.drew.alloc (.cells (bytesRow s cap) 5 ((bytesRow s cap).size,(bytesRow s cap).size+1))) w.heap.size s.data.toList:=fun i hi=>by
 have a:i<s.data.size:=by simpa using hi
 have:=nU w.drew (bytesRow s cap) 5 ((bytesRow s cap).size,(bytesRow s cap).size+1) i;rw[bytesRow_at s cap i a]at this;refine this.trans ?_;simp only[List.getD,Array.getElem?_toList,Array.getElem?_eq_getElem a,Option.getD_some]
theorem aeH(w:af)(s:ByteArray)(cap i:Nat)(hi:i<s.size):(w.drew.alloc (.cells (bytesRow s cap) 5 ((bytesRow s cap).size,(bytesRow s cap).size+1))).frozen? ⟨w.heap.size,i,none⟩=false:=by
 have:=World.frozen?_alloc_mark w.drew (bytesRow s cap) 5 (bytesRow s cap).size ((bytesRow s cap).size+1) i;refine this.trans ?_;have h:i<(bytesRow s cap).size:=by
  have:s.size<=(bytesRow s cap).size:=by unfold bytesRow;simp
  omega
 simp;omega
theorem aeF{w:af}{b:Nat}{l:List UInt8}{i:Nat}(h:Bytes w b l)(hi:i<l.length)(v:Int)(x:UInt8)(c:v=((x.toNat:Nat):Int)):Bytes (w.setCell ⟨b,i,none⟩ (.int .u8 v)) b (l.set i x):=fun j d=>by
 have a:j<l.length:=by simpa using d
 by_cases e:j=i
 ·subst e;rw[World.cell?_setCell_same _ _ _ (h j a),c];simp[List.getD,a]
 ·rw[World.cell?_setCell_other _ _ _ _ (by intro x;injection x;omega),h j a];simp[List.getD,List.getElem?_set_ne (fun x=>e x.symm)]
theorem aeP(a:UInt8):bits BinOp.xor IntKind.u8 ((a.toNat:Nat):Int) 1=(((a^^^1).toNat:Nat):Int):=by have h:=u8_xor_nat a.toNat 1 a.toNat_lt (by omega);rw[UInt8.toNat_xor];exact h
def aez(s:ByteArray)(i:Nat)(x:UInt8):ByteArray:=⟨(s.data.toList.set i x).toArray⟩
theorem aer(s:ByteArray)(i:Nat)(x:UInt8):(aez s i x).size=s.size:=by unfold aez;rw[fF,iH];simp
theorem aeA(s:ByteArray)(i:Nat)(x:UInt8)(j:Nat)(h:j≠i):aF (aez s i x) j=aF s j:=by unfold aez aF;rw[ag,ag,List.getElem?_set_ne (fun e=>h e.symm)]
theorem aet{wr:af}{ops:Array Oper}{rest:List Oper}{o:Oper}{a:Act}{Q:Exit->Act->af->Prop}(d:o.guard=none)(s x:Operand)
 (i:o.op= .call {callee:= .builtin .append,args:= #[s,x],argTypes:= #[29,29]}) (base:Nat) (v:ay) (n:Nat) (xs:List ay) (z:Int)
 (b:wr.ownsRow base 3 1 v n xs) (k:a.eval s=v) (l:a.eval x= .slice (some ⟨wr.heap.size,0,none⟩) 1 1) (p:n<=20000000000000) (hb:base<=wr.heap.size)
 (h:∀v' w',w'.ownsRow base 3 1 v' (n+1) (xs++[.int .i64 z])->(wr.alloc (.cells #[.int .i64 z] 3)).grownBy w' v.ownBlock->wpList prog ops Q rest (a.put o.dst v') w'):
 wpList prog ops Q (o::rest) a (wr.alloc (.cells #[.int .i64 z] 3)):=by
 obtain⟨m,hi,e,f,g⟩:=info_parts lI.AB;refine wpList_append_own_wide _ d s x 29 i base 3 m (.int .i64 0) 1 8 underlying29 hi e f g rfl (by decide) v n xs k (b.alloc _) ⟨wr.heap.size,0,none⟩ 1 1 [.int .i64 z] l rfl ?_ ?_ ?_ ?_ ?_ ?_
 ·intro j u c;match j,c with
  |0,c=>simp at c;subst c;simp[Addr.add]
 ·intro u hu;simp at hu;subst hu;rfl
 ·unfold maxLen;omega
 ·omega
 ·simp;omega
 ·intro v' w' h1 h2 q;exact h v' w' h1 h2
end Kp
namespace Pr
open Rf Cr
open gI (bQ bz gQ rC lets dw)
end Pr
namespace Pr
open Rf Cr
open gI (bQ gQ)
open Jo (one)
open Ad (oM)
def Wk.hd(p:Wk):List UInt8:=zN++(qV tX (mg p.W p.H p.D p.K (if p.I=true then 1 else 0))++p.oz)
theorem Wk.aeu(p:Wk)(A:List UInt8):p.text [A]=p.hd++(qV DL A++qV rE []):=by unfold Wk.text Wk.hd nP nP;simp
def aej(size:Nat)(u:List UInt8):List UInt8:=[120,1]++(kQ size u.length u++[UInt8.ofNat (one (oM 1 0 u)/16777216),UInt8.ofNat (one (oM 1 0 u)/65536),UInt8.ofNat (one (oM 1 0 u)/256)])
theorem aes(size:Nat)(u:List UInt8):nR size u=aej size u++[UInt8.ofNat (one (oM 1 0 u))]:=by unfold nR aej bQ;simp
def aeJ(u:List UInt8):List UInt8:=[UInt8.ofNat (one (oM 1 0 u)/16777216),UInt8.ofNat (one (oM 1 0 u)/65536),UInt8.ofNat (one (oM 1 0 u)/256),UInt8.ofNat (one (oM 1 0 u))^^^128]
theorem aev(size:Nat)(u:List UInt8):aek size u (aeJ u)=aej size u++[UInt8.ofNat (one (oM 1 0 u))^^^128]:=by unfold aek aej aeJ;simp
theorem aeM(u:List UInt8):((aeJ u).getD 3 0).toNat≠one (oM 1 0 u)%256:=by
 show(UInt8.ofNat (one (oM 1 0 u))^^^128).toNat≠_;have h:(UInt8.ofNat (one (oM 1 0 u))).toNat=one (oM 1 0 u)%256:=by rw[dB]
 rw[<-h];intro e;have a:UInt8.ofNat (one (oM 1 0 u))^^^128=UInt8.ofNat (one (oM 1 0 u)):=UInt8.toNat_inj.1 e;revert a;generalize UInt8.ofNat (one (oM 1 0 u))=b;intro a;have e3:b.toNat^^^128=b.toNat^^^0:=by have:=jo UInt8.toNat a;rw[UInt8.toNat_xor]at this;rw[Nat.xor_zero];exact this
 have:=Su.aeK _ _ _ e3;omega
theorem ae5(P a b:List UInt8)(i:Nat)(h:i<P.length):aF ⟨(P++a).toArray⟩ i=aF ⟨(P++b).toArray⟩ i:=by rw[jg,jg,ag,ag,dI h,dI h]
theorem aeN(p:Wk)(size:Nat)(u:List UInt8)(i:Nat)(h:i<p.hd.length+8+(aej size u).length):aF ⟨(p.text [nR size u]).toArray⟩ i=aF ⟨(p.text [aek size u (aeJ u)]).toArray⟩ i:=by
 have e:∀(b:UInt8) (r:List UInt8),p.hd++(bQ (aej size u++[b]).length++(DL++((aej size u++[b])++r)))=(p.hd++(bQ ((aej size u).length+1)++(DL++aej size u)))++([b]++r):=fun b r=>by simp
 have a:(p.hd++(bQ ((aej size u).length+1)++(DL++aej size u))).length=p.hd.length+8+(aej size u).length:=by simp only[List.length_append,qK];have:DL.length=4:=rfl;omega
 rw[p.aeu,p.aeu,aes,aev];unfold qV;have f:∀(b:UInt8) (k z:List UInt8),p.hd++((bQ (aej size u++[b]).length++(DL++((aej size u++[b])++k)))++z)=p.hd++(bQ (aej size u++[b]).length++(DL++((aej size u++[b])++(k++z)))):=fun b k z=>by simp
 rw[f,f,e,e];exact ae5 _ _ _ i (by rw[a];exact h)
theorem aeW(p:Wk)(size:Nat)(u:List UInt8):(p.text [nR size u]).length=p.hd.length+8+(aej size u).length+1+4+12/\(p.text [aek size u (aeJ u)]).length=p.hd.length+8+(aej size u).length+1+4+12:=by rw[p.aeu,p.aeu,aes,aev];have a:DL.length=4:=rfl;have b:rE.length=4:=rfl;simp only[List.length_append,l_,a,b,List.length_cons,List.length_nil];omega
end Pr
end Go.Proofs.YtephkcdbnogdhaaGreatDoor
