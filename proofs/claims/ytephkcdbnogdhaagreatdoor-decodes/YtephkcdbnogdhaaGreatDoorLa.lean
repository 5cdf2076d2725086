import Derived.Test.YtephkcdbnogdhaaGreatDoorM35
set_option linter.unusedVariables false
set_option maxHeartbeats 40000000
set_option maxRecDepth 10000
namespace Go.Proofs.YtephkcdbnogdhaaGreatDoor
open Go.Proofs.Tryz
open Go renaming World->af,Value->ay,Calls->aF,TypeId->aY,Addr->bP
open Go.RowKit renaming Hid->ah,Below->aJ,intOf->aX
namespace Pr
open Go.RowKit Rf Cr
def sV(L:List Int):List ay:=L.map fun z=> .int .i64 z
theorem YT(L:List Int)(z:Int):sV (L++[z])=sV L++[.int .i64 z]:=by simp[sV]
theorem pz(L:List Int):(sV L).length=L.length:=by simp[sV]
theorem Og(L:List Int)(i:Nat)(h:i<L.length):(sV L)[i]?=some (.int .i64 (L.getD i 0)):=by simp[sV,h,List.getD_eq_getElem?_getD]
theorem vU{wr:af}{ops:Array Oper}{rest:List Oper}{o:Oper}{a:Act}{Q:Exit->Act->af->Prop}(d:o.guard=none)(s x:Operand)
 (i:o.op= .call {callee:= .builtin .append,args:= #[s,x],argTypes:= #[29,29]}) (base:Nat) (v:ay) (n:Nat) (xs:List ay) (z:Int)
 (b:wr.ownsRow base 3 1 v n xs) (hs:a.eval s=v) (hx:a.eval x= .slice (some ⟨wr.heap.size,0,none⟩) 1 1) (p:n<=17592186044000) (hb:base<=wr.heap.size)
 (h:∀v' w',w'.ownsRow base 3 1 v' (n+1) (xs++[.int .i64 z])->(wr.alloc (.cells #[.int .i64 z] 3)).grownBy w' v.ownBlock->wpList prog ops Q rest (a.put o.dst v') w'):
 wpList prog ops Q (o::rest) a (wr.alloc (.cells #[.int .i64 z] 3)):=by
 obtain⟨k,hi,e,f,g⟩:=info_parts kW.tZ;refine xY _ d s x 29 i base 3 k (.int .i64 0) 1 8 underlying29 hi e f g rfl (by decide) v n xs hs (b.alloc _) ⟨wr.heap.size,0,none⟩ 1 1 [.int .i64 z] hx rfl ?_ ?_ ?_ ?_ ?_ ?_
 ·intro j u c;match j,c with
  |0,c=>simp at c;subst c;simp[Addr.add]
 ·intro u hu;simp at hu;subst hu;rfl
 ·unfold maxLen;omega
 ·omega
 ·simp;omega
 ·intro v' w' l m h3;exact h v' w' l m
theorem YU(W:af)(n:Nat)(z:Int)(d:z=(n:Int))(f:n<=17592186044001):(Instr.makeSlice 29 (.int .i64 z) (.int .i64 z)).run prog W= .ok (.slice (some ⟨W.heap.size,0,none⟩) n n) (W.alloc (.cells (Array.replicate n (Value.int .i64 0)) 3)):=by subst d;obtain⟨e,hi,a,b,c⟩:=info_parts kW.tZ;have h:=run_make (P:=prog) W 29 3 e _ underlying29 hi a .i64 .i64 (n:Int) (n:Int) (by omega) (by omega) (by rw[c];omega) (by omega);rw[h,b,<-h_.Rq];simp[Value.cells]
structure EvS(w wx:af)(i e:Nat)(E:List Int)(ea:Option bP)(ec:Nat):Prop where
 len:E.length=i
 even:Dc E e
 rng:∀x∈E,0<=x/\x<=9223372036854775807
 own:wx.ownsRow w.heap.size 3 1 (.slice ea i ec) i (sV E)
 bl:aJ w.heap.size w wx
theorem EvS.start(w:af):EvS w w 0 0 [] none 0:=⟨rfl,Dc.nil,fun x h=>by simp at h,eX _ _ _ _,aP _ _⟩
theorem EvS.next{w wx w2:af}{i e d:Nat}{E:List Int}{ea a:Option bP}{ec b:Nat}(h:EvS w wx i e E ea ec){z:Int}(f:0<=z)(c:z<=9223372036854775807)(he:Dc (E++[z]) d)
 (g:w2.ownsRow w.heap.size 3 1 (.slice a (i+1) b) (i+1) (sV E++[.int .i64 z])) (j:(wx.alloc (.cells #[.int .i64 z] 3)).grownBy w2 (Value.slice ea i ec).ownBlock):EvS w w2 (i+1) d (E++[z]) a b:=by
 refine⟨by rw[bQ,h.len];rfl,he,fun x hx=> ?_,by rw[YT];exact g,kW.pW h.bl (ag _) h.bl.size h.own j⟩;rcases List.mem_append.1 hx with hx|hx
 ·exact h.rng x hx
 ·rw[List.mem_singleton.1 hx];exact⟨f,c⟩
theorem JK{P:Program}{ops:Array Oper}{rest:List Oper}{o:Oper}{a:Act}{w:af}{Q:Exit->Act->af->Prop}(f:o.guard=none)(d s:Operand)(g j:aY)
 (l:o.op= .call {callee:= .builtin .copy,args:= #[d,s],argTypes:= #[g,j]}) (elem:aY) (hu:P.underlying g=some (.slice elem)) (i:((P.info? elem).map (·.size)).isSome=true)
 (k:bP) (b c:Nat) (hd:a.eval d= .slice (some k) b c) (hs:a.eval s= .slice none 0 0)
 (h:wpList P ops Q rest (a.put o.dst (goInt 0)) w):wpList P ops Q (o::rest) a w:=by
 have e:=run_copy_nil (P:=P) w g j o.type elem k b c hu i;refine wpList_plain f fun K hK=> ?_;unfold Oper.wp;simp[execOp,l,resolve,invoke,builtin,hd,hs,e,Result.andThen];exact hK _ _ h
theorem aeX:(prog.info? 3).map (fun i=>i.size)=some 1:=by kernel_rfl
theorem aeY(E:List Int)(i:Nat)(h:E.length=i)(z:ay):(sV E++[Value.int .i64 0]).toArray.setIfInBounds i z=(sV E++[z]).toArray:=by
 have a:(sV E).length=i:=by rw[pz,h]
 simp only[List.setIfInBounds_toArray];rw[List.set_append_right _ _ (by omega),a,iW];rfl
theorem adR(E:List Int)(i:Nat)(h:E.length=i):((Array.replicate (i+1) (Value.int .i64 0)).toList.take 0++sV E++(Array.replicate (i+1) (Value.int .i64 0)).toList.drop (0+(sV E).length)).toArray=(sV E++[Value.int .i64 0]).toArray:=by rw[pz,h];simp[List.replicate_succ']
theorem World.ownsRow.aeh{w:af}{base i ec:Nat}{ea:Option bP}{xs:List ay}(h:w.ownsRow base 3 1 (.slice ea i ec) i xs):(ea=none/\i=0/\ec=0)\/∃b,ea=some ⟨b,0,none⟩/\∀j v,xs[j]?=some v->w.cell? ((⟨b,0,none⟩:bP).add j)=some v:=by
 rcases h.2 with⟨e,f⟩|⟨g,cap,cur,e,_⟩
 ·injection e with a c d
  exact .inl ⟨a,c,d⟩
 ·injection e with a c d
  subst a;exact .inr ⟨g,rfl,h.cells rfl⟩
structure LM(w wx:af)(ib i:Nat)(E:List Int)(ea:Option bP)(ec:Nat)(z:Int):Prop where
 YZ:wx.heap[ib]?=some (.cells (sV E++[Value.int .i64 z]).toArray 3 (0,0))
 own:wx.ownsRow w.heap.size 3 1 (.slice ea i ec) i (sV E)
 bl:aJ w.heap.size w wx
 ge:w.heap.size<=ib
theorem LM.iU{w wx w2:af}{ib i:Nat}{E:List Int}{ea:Option bP}{ec:Nat}{z:Int}(h:LM w wx ib i E ea ec z)(hb:aJ wx.heap.size wx w2):LM w w2 ib i E ea ec z:=
 ⟨(hb.block _ (ai h.YZ)).trans h.YZ,h_.zT h.own hb,h.bl.trans (hb.mono h.bl.size),h.ge⟩
theorem LM.alloc{w wx:af}{ib i:Nat}{E:List Int}{ea:Option bP}{ec:Nat}{z:Int}(h:LM w wx ib i E ea ec z)(o:Obj):LM w (wx.alloc o) ib i E ea ec z:=h.iU ((aP _ _).alloc (ag _) _)
theorem LM.scr{w wx:af}{ib i:Nat}{E:List Int}{ea:Option bP}{ec:Nat}{z:Int}(h:LM w wx ib i E ea ec z)(b:E.length=i)(d:∀x∈E,0<=x/\x<=9223372036854775807)(hi:i<=140737488351232)(c:Nat):qf wx wx.heap.size (.slice (some ⟨ib,0,none⟩) i c) E:=by
 refine⟨some ⟨ib,0,none⟩,c,by rw[b],by omega,fun j a=>⟨⟨ib,0,none⟩,rfl,ai h.YZ,?_,?_⟩⟩
 ·have e:(⟨ib,0,none⟩:bP).add j=⟨ib,j,none⟩:=by unfold Addr.add;split<;>simp_all
  rw[e,(cell_of h.YZ j).1];simp only[List.getElem?_toArray];rw[dh (by rw[pz];exact a),Og E j a]
 ·have hm:E.getD j 0∈E:=by
   rw[ak,aG a];exact xm a
  have:=d _ hm;omega
theorem JI.over{w w':af}{eb fb lb:bP}(h:JI w eb fb lb)(hb:aJ w.heap.size w w'):JI w' eb fb lb:=by have a:=h.ng;refine⟨?_,h.Vy.over (fun k b=>hb.block k (by omega)),xB h.tab a (fun k b=>hb.block k b),h.ord.over (hb.block _ (by omega)),fun i hi=>(aV (hb.block _ (by omega))).trans (h.sml i hi),aK a hb.size⟩;have hs:=h.qL.over (fun k b=>hb.block k b);have c:=hb.size;exact⟨hs.en,hs.fa,hs.la,hs.ef,hs.el,hs.fl,hs.be,hs.bf,hs.bl,⟨bu hs.lt.1 c,bu hs.lt.2.1 c,bu hs.lt.2.2 c⟩,aK hs.ng c⟩
theorem LM.cells{w wx:af}{ib i:Nat}{E:List Int}{ea:Option bP}{ec:Nat}{z:Int}(h:LM w wx ib i E ea ec z)(d:E.length=i)(j:Nat)(f:j<i):wx.cell? ⟨ib,j,none⟩=some (.int .i64 (E.getD j 0))/\∃a,ea=some ⟨a,0,none⟩/\wx.cell? ⟨a,j,none⟩=some (.int .i64 (E.getD j 0)):=by
 refine⟨?_,?_⟩
 ·rw[(cell_of h.YZ j).1];simp only[List.getElem?_toArray];rw[dh (by rw[pz];omega),Og E j (by omega)]
 ·rcases World.ownsRow.aeh h.own with⟨_,g,_⟩|⟨a,e,b⟩
  ·omega
  ·refine⟨a,e,?_⟩;have:=b j _ (Og E j (by omega));have c:(⟨a,0,none⟩:bP).add j=⟨a,j,none⟩:=by unfold Addr.add;split<;>simp_all
   rw[c]at this;exact this
theorem LM.last{w wx:af}{ib i:Nat}{E:List Int}{ea:Option bP}{ec:Nat}{z:Int}(h:LM w wx ib i E ea ec z)(a:E.length=i):wx.cell? ⟨ib,i,none⟩=some (.int .i64 z):=by rw[(cell_of h.YZ i).1];simp only[List.getElem?_toArray];rw[dw (by rw[pz,a];exact ag _),pz,a,iW];rfl
structure L2(w wx:af)(ib i:Nat)(E:List Int)(ea:Option bP)(ec:Nat)(x0:Nat)(aW aH:Int)(l2:Option bP)(n:Nat)(ap:List Nat):Prop where
 lm:LM w wx ib i E ea ec 4660
 xb:wx.heap[x0]?=some (.cells #[.int .i64 aW,.int .i64 aH,.slice l2 n n] 32 (0,0))
 xi:d_ 0 wx l2 n ap
theorem L2.iU{w wx w2:af}{ib i:Nat}{E:List Int}{ea:Option bP}{ec x0:Nat}{aW aH:Int}{l2:Option bP}{n:Nat}{ap:List Nat}(h:L2 w wx ib i E ea ec x0 aW aH l2 n ap)(hb:aJ wx.heap.size wx w2):L2 w w2 ib i E ea ec x0 aW aH l2 n ap:=
 ⟨h.lm.iU hb,(hb.block _ (ai h.xb)).trans h.xb,h.xi.below hb⟩
theorem L2.over{w f c wx w2:af}{ib i:Nat}{E:List Int}{ea:Option bP}{ec x0:Nat}{aW aH:Int}{m l2:Option bP}{n:Nat}{ap:List Nat}(h:L2 w wx ib i E ea ec x0 aW aH l2 n ap)
 (hF:Fr (fun k=>(Value.slice m n n).ownBlock=some k) wx w2) (o:LM w f ib i E ea ec 4660) (t:d_ f.heap.size c m n ap) (hx:c.heap.size<=x0) (u:∀gp,l2=some ⟨gp,0,none⟩->c.heap.size<=gp):L2 w w2 ib i E ea ec x0 aW aH l2 n ap:=by
 have p:∀k,(Value.slice m n n).ownBlock=some k->f.heap.size<=k/\k<c.heap.size:=fun k e=>by
  obtain⟨_,⟨rfl,_⟩|⟨gp,rfl,hp,v⟩⟩:=t
  ·cases e
  ·obtain rfl:gp=k:=by simpa [Value.ownBlock]using e
   exact⟨v,ai hp⟩
 have a:∀j,j<wx.heap.size->(j<f.heap.size\/c.heap.size<=j)->w2.heap[j]?=wx.heap[j]?:=fun j x y=>hF.block j x (fun e=>by have:=p j e;omega);have A:=o.bl.size;have q:=h.lm.bl.size;refine⟨⟨(a ib (ai h.lm.YZ) (.inl (ai o.YZ))).trans h.lm.YZ,⟨h.lm.own.1,h.lm.own.2.imp id ?_⟩,⟨hF.os.trans h.lm.bl.os,hF.tape.trans h.lm.bl.tape,hF.output.trans h.lm.bl.output,aK q hF.size,fun k p=>(a k (by omega) (.inl (by omega))).trans (h.lm.bl.block k p)⟩,h.lm.ge⟩,(a x0 (ai h.xb) (.inr hx)).trans h.xb,h.xi.iU (fun gp e=> ?_)⟩
 ·rintro⟨g,d,cur,r,l,s,z⟩;refine⟨g,d,cur,r,l,(a g (ai s) (.inl ?_)).trans s,z⟩;exact(o.own.lt g (by rw[r];rfl)).2
 ·obtain⟨_,⟨rfl,_⟩|⟨b,l,hp,_⟩⟩:=h.xi
  ·cases e
  ·rw[l]at e;obtain rfl:b=gp:=by simpa using e
   exact a b (ai hp) (.inr (u b l))
theorem WC(w:af):qf w w.heap.size (.slice none 0 0) []:=⟨none,0,rfl,by simp,fun i hi=>by simp at hi⟩
theorem RQ(t:Nat):∃k,jJ [] t=some k:=IX Dc.nil.aeg t
theorem d_.own{base n:Nat}{w:af}{la:Option bP}{L:List Nat}(h:d_ base w la n L):(la=none/\n=0)\/∃gp,la=some ⟨gp,0,none⟩/\iC w gp L:=h.2.imp id (fun⟨gp,a,b,_⟩=>⟨gp,a,b⟩)
theorem ab1{B n:Nat}{w wx w2 b:af}{a:Option bP}{L:List Nat}(hb:aJ B w wx)(hF:Fr (fun k=>(Value.slice a n n).ownBlock=some k) wx w2)(c:d_ B b a n L)(f:B<=wx.heap.size):aJ B w w2:=by
 refine⟨hF.os.trans hb.os,hF.tape.trans hb.tape,hF.output.trans hb.output,aK hb.size hF.size,fun k d=>(hF.block k (by omega) (fun e=> ?_)).trans (hb.block k d)⟩;obtain⟨_,⟨rfl,_⟩|⟨gp,rfl,_,g⟩⟩:=c
 ·cases e
 ·obtain rfl:gp=k:=by simpa [Value.ownBlock]using e
  omega
theorem Oh(b other:ByteArray)(bM:Int)(la:Option bP)(n cap:Nat)(L:List Int)(w:af)(eb fb lb:bP)(hD:JI w eb fb lb)(hL:L.length=n)(f3:qf w w.heap.size (.slice la n cap) L)(hb:b.size<=140737488351232)(ho:other.size<=140737488351232)(hn:n<=17592186044000):
 aF prog 5 #[.string b,.int .i64 bM,.slice la n cap,.string other] w fun e w'=>e= .returned (.bool true)/\aJ w.heap.size w w':=by
 have k4:ah _:=hD;have HC:ah (∀i,i<n->∃a:bP,la=some a/\a.block<w.heap.size/\w.cell? (a.add i)=some (.int .i64 (L.getD i 0))/\ -9223372036854775808<=L.getD i 0/\L.getD i 0<=9223372036854775807):=(by
  obtain⟨r2,r0,e,_,h⟩:=f3;injection e with e1 e2 e3
  subst e1;intro i hi;exact h i (by rw[hL];exact hi):∀i,_)
 clear hD f3;go_enter func5,ntmps5
 go_wp2_with fail
 go_loopw [9,10,11] (fun ev cv iv wx=> ∃(i e:Nat) (E:List Int) (ea:Option bP) (ec:Nat),ev= .slice ea i ec/\cv= .int .i64 (e:Int)/\iv= .int .i64 (i:Int)/\i<=n/\EvS w wx i e E ea ec) (fun _ _ iv _=>n-(aX iv).toNat)
 case atStart=>exact⟨0,0,[],none,0,rfl,rfl,rfl,aU _,EvS.start w⟩
 case round=>
  obtain⟨i,e,E,ea,ec,rfl,rfl,rfl,hi,hE⟩:=hrel;by_cases o6:i<n
  ·obtain⟨a,rfl,ha,hc,r3,r4⟩:=HC.out i o6;have r5:wr.cell? (a.add i)=some (.int .i64 (L.getD i 0)):=(xA (a:=a.add i) (hE.bl.block _ (by rw[Cf];exact ha))).trans hc;have t:ah _:=hE;have d7:w.heap.size<=wr.heap.size:=hE.bl.size;have r1:=hE.even.Di;clear hc hE;generalize L.getD i 0=z at*;rcases(by omega:z<0\/(z=0/\e+1<=100)\/(z=0/\100<e+1)\/0<z)with hz|⟨hz,he⟩|⟨hz,he⟩|hz
   ·have o7:(z==0)=false:=by rw[ax];omega
    have M:ah _:=t.out.even.more (n:=1) (by omega)
    go_wp2_with (first
     |(at_builtin;refine vU rfl _ _ rfl w.heap.size _ i (sV E) 1 t.out.own rfl rfl (by omega) d7 ?_;intro v' w2 f hg;obtain⟨i9,N,rfl⟩:=kW.kX f))
    go_roundw
    case rel=>exact⟨i+1,0,E++[1],_,_,rfl,rfl,by go_num,by omega,t.out.next (by omega) (by omega) M.out f hg⟩
    case measure=>simp[aX];omega
   ·subst hz;have k5:¬(100<(e:Int)+1):=by omega
    have M:ah _:=t.out.even.zero he
    go_wp2_with (first
     |(at_builtin;refine vU rfl _ _ rfl w.heap.size _ i (sV E) 0 t.out.own rfl rfl (by omega) d7 ?_;intro v' w2 f hg;obtain⟨i9,N,rfl⟩:=kW.kX f))
    go_roundw
    case rel=>exact⟨i+1,e+1,E++[0],_,_,rfl,by go_num,by go_num,by omega,t.out.next (by omega) (by omega) M.out f hg⟩
    case measure=>simp[aX];omega
   ·subst hz;have k5:100<(e:Int)+1:=by omega
    have M:ah _:=t.out.even.more (n:=1) (by omega)
    go_wp2_with (first
     |(at_builtin;refine vU rfl _ _ rfl w.heap.size _ i (sV E) 1 t.out.own rfl rfl (by omega) d7 ?_;intro v' w2 f hg;obtain⟨i9,N,rfl⟩:=kW.kX f))
    go_roundw
    case rel=>exact⟨i+1,0,E++[1],_,_,rfl,rfl,by go_num,by omega,t.out.next (by omega) (by omega) M.out f hg⟩
    case measure=>simp[aX];omega
   ·have o7:(z==0)=false:=by rw[ax];omega
    have r6:¬z<0:=by omega
    have k5:¬(100<(e:Int)):=by omega
    have M:ah _:=t.out.even.more (n:=z) hz
    go_wp2_with (first
     |(at_builtin;refine vU rfl _ _ rfl w.heap.size _ i (sV E) z t.out.own rfl rfl (by omega) d7 ?_;intro v' w2 f hg;obtain⟨i9,N,rfl⟩:=kW.kX f))
    go_roundw
    case rel=>exact⟨i+1,0,E++[z],_,_,rfl,rfl,by go_num,by omega,t.out.next (by omega) (by omega) M.out f hg⟩
    case measure=>simp[aX];omega
  ·have o8:i=n:=by omega
   subst o8;have t:ah _:=hE;have o9:ah _:=hE.even.aeg;clear hE;generalize wr=w1 at*;have p0:=fun W'=>YU W' (i+1) ((i:Int)+1) (by omega) (by omega);go_upto_region 15 with fail
   clear p0;obtain⟨ib,a9⟩:∃ib,ib=w1.heap.size:=⟨_,rfl⟩;have d8:ah (w.heap.size<=ib):=(by rw[a9];exact t.out.bl.size:_<=_);have O:ah ((w1.alloc (.cells (Array.replicate (i+1) (Value.int .i64 0)) 3)).heap[ib]?=some (.cells (Array.replicate (i+1) (Value.int .i64 0)) 3 (0,0))):=(by rw[a9];exact aO w1 _:_=_);have a6:ah ((w1.alloc (.cells (Array.replicate (i+1) (Value.int .i64 0)) 3)).ownsRow w.heap.size 3 1 (.slice ea i ec) i (sV E)):=(t.out.own.alloc _:World.ownsRow _ _ _ _ _ _ _);have b0:ah (aJ w.heap.size w (w1.alloc (.cells (Array.replicate (i+1) (Value.int .i64 0)) 3))):=(t.out.bl.alloc t.out.bl.size _:aJ _ _ _);have k6:ah (∀k,(Value.slice ea i ec).ownBlock=some k->k<ib):=(fun k hk=>by rw[a9];exact(t.out.own.lt k hk).2:∀k,_);have u:ah (E.length=i):=(t.out.len:_=_);have p1:ah _:=t.out.rng;rw[<-a9];clear a9 t;revert O a6 b0;generalize w1.alloc _=w2;intro O a6 b0;go_cut [62] (fun v wx=>LM w wx ib i E ea ec 0)
   case first=>
    rcases World.ownsRow.aeh a6.out with⟨rfl,rfl,rfl⟩|⟨eg,rfl,b1⟩
    ·have p2:ah (E=[]):=(gG u.out:_=_)
     go_wp2_with (first
      |(refine JK (by rfl) _ _ _ _ (by rfl) 3 underlying29 (by kernel_rfl) ⟨ib,0,none⟩ (0+1) (0+1) (by rfl) (by rfl) ?_))
     go_meet
     case rel=>exact⟨by rw[O.out,p2.out];rfl,a6.out,b0.out,d8.out⟩
    ·have p3:ah _:=b1;clear b1
     go_wp2_with (first
      |(refine h_.Az (by rfl) _ _ _ _ (by rfl) 3 underlying29 aeX ib 0 ⟨eg,0,none⟩ (i+1) (i+1) i ec (by rfl) (by rfl) (Array.replicate (i+1) (Value.int .i64 0)) 3 O.out (sV E) (by rw[pz,u.out];exact(qx (Nat.le_succ i)).symm) p3.out (by rw[pz,u.out];simp) (fun v hv=>by obtain⟨z,_,rfl⟩:=List.mem_map.1 hv;rfl) ?_))
     go_meet
     case rel=>
      have b2:(w2.setRow ib (sV E++[Value.int .i64 0]).toArray).ownsRow w.heap.size 3 1 (.slice (some ⟨eg,0,none⟩) i ec) i (sV E):=by
       have h:=a6.out;refine⟨h.1,h.2.imp id ?_⟩;rintro⟨g,b3,cur,h1,h2,h3,h4⟩;have j0:g≠ib:=fun e=>by have:=k6.out g (by rw[h1];rfl);omega
       exact⟨g,b3,cur,h1,h2,(sO _ ib g _ j0).trans h3,h4⟩
      have f4:aJ w.heap.size w (w2.setRow ib (sV E++[Value.int .i64 0]).toArray):=by have h:=b0.out;have h5:=d8.out;exact⟨h.os,h.tape,h.output,by rw[setRow_size];exact h.size,fun k hk=>(sO _ ib k _ (by omega)).trans (h.block k hk)⟩
      have e:=adR E i u.out;simp only[List.take_zero,List.nil_append]at e
      first
       |exact(by rw[e];exact⟨setRow_heap _ ib _ _ _ _ O.out,b2,f4,d8.out⟩)
       |(simp only[List.take_zero,List.nil_append,e];exact⟨setRow_heap _ ib _ _ _ _ O.out,b2,f4,d8.out⟩)
   case rest=>
    have d9:ah _:=hcut;clear hcut O a6 b0;generalize wc=w3 at*;have P:ah (LM w (w3.setCell ⟨ib,i,none⟩ (.int .i64 4660)) ib i E ea ec 4660):=(by
     have h:=d9.out;have h5:=h.ge;refine⟨(bG h.YZ i _).trans (by rw[aeY E i u.out]),?_,dW h.bl ib i h5 _,h5⟩;refine⟨h.own.1,h.own.2.imp id ?_⟩;rintro⟨g,b3,cur,h1,h2,h3,h4⟩;have j0:g≠ib:=fun e=>by have:=k6.out g (by rw[h1];rfl);omega
     exact⟨g,b3,cur,h1,h2,(aB i _ j0).trans h3,h4⟩:LM _ _ _ _ _ _ _ _)
    have c0:w3.cell? ⟨ib,i,none⟩=some (.int .i64 0):=by rw[(cell_of d9.out.YZ i).1];simp only[List.getElem?_toArray];rw[dw (by rw[pz,u.out];exact ag _),pz,u.out,iW];rfl
    have f0:=(cell_of d9.out.YZ i).2;clear d9;go_upto_region 17 with fail
    clear c0 f0;revert P;generalize w3.setCell _ _=w4;intro P;obtain⟨A,hA⟩:=wC.ex b bM;obtain⟨C,hC⟩:=wC.ex other bM;have HA:ah _:=hA;have j1:ah _:=hC;have p4:ah _:=k4.out.over P.out.bl;have k7:ah _:=IY b bM _ E w4 eb fb lb A hA p4.out (P.out.scr u.out p1.out (by omega) (i+1)) (IX o9.out) (by omega);clear hA hC;go_wp2_with fail
    refine bz k7.out ?_;rintro e5 w5 ⟨⟨l1,d,rfl,f5⟩,k8⟩;have e0:ah (d_ w4.heap.size w5 l1 d A.dM):=(f5:d_ _ _ _ _ _);have p5:ah _:=P.out.iU k8;have k9:ah _:=P.out;clear f5 k8 P k7;obtain⟨ae,aW,aH,ap⟩:=A;dsimp only at*;have j2:ap.length=d:=e0.out.1;have j3:ah (ap.length<=4194304):=(wC.len HA.out:_<=_);go_upto_region 18 with fail
    obtain⟨a0,l0⟩:∃a0,a0=w5.heap.size:=⟨_,rfl⟩;have a7:ah _:=aO w5 (.cells #[.int .i64 (aW:Int),.int .i64 (aH:Int),.slice l1 d d] 32);have e4:ah _:=p5.out.alloc (.cells #[.int .i64 (aW:Int),.int .i64 (aH:Int),.slice l1 d d] 32);have e6:ah _:=d_.below e0.out ((aP w5.heap.size w5).alloc (ag _) (.cells #[.int .i64 (aW:Int),.int .i64 (aH:Int),.slice l1 d d] 32));have B:ah (w5.heap.size<(w5.alloc (.cells #[.int .i64 (aW:Int),.int .i64 (aH:Int),.slice l1 d d] 32)).heap.size):=(by simp:_<_);rw[<-l0]at a7|-;clear l0;revert a7 e4 e6 B;generalize w5.alloc _=w6;intro a7 e4 e6 B;have l6:ah _:=IZ b bM w6 _ HA.out hb;go_wp2_with fail
    refine bz l6.out ?_;rintro e7 w7 ⟨⟨l2,n2,rfl,b4⟩,b5⟩;have l7:ap.length=n2:=b4.1;obtain rfl:d=n2:=j2.symm.trans l7;have l8:ah (d_ w6.heap.size w7 l2 d ap):=(b4:d_ _ _ _ _ _);have l9:ah _:=e4.out.iU b5;have j4:ah _:=(b5.block _ (ai a7.out)).trans a7.out;have m0:ah _:=d_.below e6.out b5;have f6:ah (w6.heap.size<=w7.heap.size):=(b5.size:_<=_);clear b4 b5 l6 e4 a7 e6 l7;go_upto_region 19 with fail
    obtain⟨x0,m1⟩:∃x0,x0=w7.heap.size:=⟨_,rfl⟩;have D:ah _:=aO w7 (.cells #[.int .i64 (aW:Int),.int .i64 (aH:Int),.slice l2 d d] 32);have b6:aJ w7.heap.size w7 (w7.alloc (.cells #[.int .i64 (aW:Int),.int .i64 (aH:Int),.slice l2 d d] 32)):=(aP w7.heap.size w7).alloc (ag _) _;have e8:ah _:=l9.out.iU b6;have F:ah _:=(b6.block _ (ai j4.out)).trans j4.out;have b7:ah _:=d_.below m0.out b6;have Q:ah _:=d_.below l8.out b6;have m2:ah (w5.heap.size<=x0):=(by have:=B.out;have:=f6.out;omega:_<=_);rw[<-m1]at D|-;clear m1 b6 l9 j4 m0 l8;revert D e8 F b7 Q;generalize w7.alloc _=w8;intro D e8 F b7 Q;have m3:ah _:=zU (aW:Int) (aH:Int) (.slice l1 d d) (.slice l2 d d) ap w8 (d_.dM b7.out) (d_.dM Q.out) (by have:=j3.out;omega);have p6:w8.cell? ⟨a0,0,none⟩=some (.int .i64 (aW:Int)):=by simpa using(cell_of F.out 0).1
    have p7:w8.cell? ⟨a0,1,none⟩=some (.int .i64 (aH:Int)):=by simpa using(cell_of F.out 1).1
    have j5:w8.cell? ⟨a0,2,none⟩=some (.slice l1 d d):=by simpa using(cell_of F.out 2).1
    have j6:w8.cell? ⟨x0,0,none⟩=some (.int .i64 (aW:Int)):=by simpa using(cell_of D.out 0).1
    have j7:w8.cell? ⟨x0,1,none⟩=some (.int .i64 (aH:Int)):=by simpa using(cell_of D.out 1).1
    have j8:w8.cell? ⟨x0,2,none⟩=some (.slice l2 d d):=by simpa using(cell_of D.out 2).1
    go_wp2_with fail
    refine bz m3.out ?_;rintro e9 w9 ⟨rfl,f1⟩;have j9:ah (L2 w w9 ib i E ea ec x0 (aW:Int) (aH:Int) l2 d ap):=(L2.iU ⟨e8.out,D.out,⟨Q.out.1,Q.out.2.imp id (fun⟨gp,h1,h2,h3⟩=>⟨gp,h1,h2,aU _⟩)⟩⟩ f1:L2 _ _ _ _ _ _ _ _ _ _ _ _ _);have m4:ah (∀gp,l2=some ⟨gp,0,none⟩->w5.heap.size<=gp):=(fun gp e=>by
     obtain⟨_,⟨h1,_⟩|⟨p8,h1,_,h3⟩⟩:=Q.out
     ·rw[h1]at e;cases e
     ·rw[h1]at e;obtain rfl:p8=gp:=by simpa using e
      have:=B.out;omega:∀gp,_)
    have k0:ah _:=(f1.block _ (ai F.out)).trans F.out;have m5:ah _:=d_.below b7.out f1;clear f1 m3 e8 D F b7 Q p6 p7 j5 j6 j7 j8;go_wp2_with fail
    go_loopw [19] (fun jv wx=> ∃j:Nat,jv= .int .i64 (j:Int)/\j<=i/\aJ w9.heap.size w9 wx) (fun jv _=>i-(aX jv).toNat)
    case atStart=>exact⟨0,rfl,aU _,aP _ _⟩
    case round=>
     obtain⟨j,rfl,hj,R⟩:=hrel;by_cases p9:j<i
     ·obtain⟨c1,eg,rfl,c2⟩:=LM.cells (j9.out.iU R).lm u.out j p9;generalize E.getD j 0=zj at*;have q0:ah _:=R;clear R;go_wp2_with fail
      go_quiet (fail)
      go_wp2_with fail
      go_roundw
      case rel=>exact⟨j+1,by go_num,by omega,kW.cZ q0.out⟩
      case measure=>simp[aX];omega
     ·have f7:ah _:=j9.out.iU R;have f8:ah _:=(R.block _ (ai k0.out)).trans k0.out;have f9:ah (d_ w4.heap.size wr l1 d ap):=(d_.below m5.out R:d_ _ _ _ _ _);clear R j9 k0 m5;generalize wr=m6 at*;have m7:ah _:=WA l1 ap d 4660 m6 (d_.own f9.out) j2 (by have:=j3.out;omega) (by omega);have j5:m6.cell? ⟨a0,2,none⟩=some (.slice l1 d d):=by simpa using(cell_of f8.out 2).1
      go_wp2_with fail
      refine bz m7.out ?_;rintro r7 c ⟨v1,rfl,U,g0⟩;have b8:ah _:=L2.over f7.out g0 k9.out e0.out m2.out m4.out;have m8:ah (pV c v1 4660):=(U:pV _ _ _);have g1:ah _:=k4.out.over b8.out.lm.bl;clear U g0 m7 f7 f8 f9 j5 k9 e0 m4 m2 B f6;have m9:ah _:=IY other bM (.slice none 0 0) [] c eb fb lb C j1.out g1.out (WC c) RQ (by omega);go_wp2_with fail
      refine bz m9.out ?_;rintro r8 q ⟨⟨l3,l,rfl,g2⟩,g3⟩;have g4:ah (d_ c.heap.size q l3 l C.dM):=(g2:d_ _ _ _ _ _);clear g2 m9;obtain⟨ce,cW,cH,cp⟩:=C;dsimp only at*;have n0:cp.length=l:=g4.out.1;have n6:ah (cp.length<=4194304):=(wC.len j1.out:_<=_);have b9:ah _:=g3;clear g3;go_upto_region 29 with fail
      obtain⟨c0,n7⟩:∃c0,c0=q.heap.size:=⟨_,rfl⟩;have x:ah _:=aO q (.cells #[.int .i64 (cW:Int),.int .i64 (cH:Int),.slice l3 l l] 32);have c3:aJ q.heap.size q (q.alloc (.cells #[.int .i64 (cW:Int),.int .i64 (cH:Int),.slice l3 l l] 32)):=(aP q.heap.size q).alloc (ag _) _;have V:ah (d_ c.heap.size (q.alloc (.cells #[.int .i64 (cW:Int),.int .i64 (cH:Int),.slice l3 l l] 32)) l3 l cp):=(d_.below g4.out c3:d_ _ _ _ _ _);have G:ah (aJ c.heap.size c (q.alloc (.cells #[.int .i64 (cW:Int),.int .i64 (cH:Int),.slice l3 l l] 32))):=(b9.out.trans (c3.mono b9.out.size):aJ _ _ _);rw[<-n7]at x|-;clear n7 c3 b9;revert x V G;generalize q.alloc _=k1;intro x V G;have n8:ah _:=IZ other bM k1 _ j1.out ho;go_wp2_with fail
      refine bz n8.out ?_;rintro r9 m ⟨⟨l4,n4,rfl,c4⟩,W⟩;have n9:cp.length=n4:=c4.1;obtain rfl:l=n4:=n0.symm.trans n9;have g5:ah (d_ k1.heap.size m l4 l cp):=(c4:d_ _ _ _ _ _);have c5:ah _:=(W.block _ (ai x.out)).trans x.out;have g6:ah (d_ c.heap.size m l3 l cp):=(d_.below V.out W:d_ _ _ _ _ _);have c6:ah (aJ c.heap.size c m):=(G.out.trans (W.mono G.out.size):aJ _ _ _);clear c4 W n8 x V G n9;go_upto_region 30 with fail
      obtain⟨y0,o0⟩:∃y0,y0=m.heap.size:=⟨_,rfl⟩;have r:ah _:=aO m (.cells #[.int .i64 (cW:Int),.int .i64 (cH:Int),.slice l4 l l] 32);have H:aJ m.heap.size m (m.alloc (.cells #[.int .i64 (cW:Int),.int .i64 (cH:Int),.slice l4 l l] 32)):=(aP m.heap.size m).alloc (ag _) _;have p:ah _:=(H.block _ (ai c5.out)).trans c5.out;have I:ah (d_ c.heap.size (m.alloc (.cells #[.int .i64 (cW:Int),.int .i64 (cH:Int),.slice l4 l l] 32)) l3 l cp):=(d_.below g6.out H:d_ _ _ _ _ _);have X:ah (d_ k1.heap.size (m.alloc (.cells #[.int .i64 (cW:Int),.int .i64 (cH:Int),.slice l4 l l] 32)) l4 l cp):=(d_.below g5.out H:d_ _ _ _ _ _);have J:ah (aJ c.heap.size c (m.alloc (.cells #[.int .i64 (cW:Int),.int .i64 (cH:Int),.slice l4 l l] 32))):=(c6.out.trans (H.mono c6.out.size):aJ _ _ _);rw[<-o0]at r|-;clear o0 H c5 g6 g5 c6;revert r p I X J;generalize m.alloc _=S;intro r p I X J;have g9:ah _:=zU (cW:Int) (cH:Int) (.slice l3 l l) (.slice l4 l l) cp S (d_.dM I.out) (d_.dM X.out) (by have:=n6.out;omega);have q1:S.cell? ⟨c0,0,none⟩=some (.int .i64 (cW:Int)):=by simpa using(cell_of p.out 0).1
      have q2:S.cell? ⟨c0,1,none⟩=some (.int .i64 (cH:Int)):=by simpa using(cell_of p.out 1).1
      have k2:S.cell? ⟨c0,2,none⟩=some (.slice l3 l l):=by simpa using(cell_of p.out 2).1
      have q3:S.cell? ⟨y0,0,none⟩=some (.int .i64 (cW:Int)):=by simpa using(cell_of r.out 0).1
      have q4:S.cell? ⟨y0,1,none⟩=some (.int .i64 (cH:Int)):=by simpa using(cell_of r.out 1).1
      have q5:S.cell? ⟨y0,2,none⟩=some (.slice l4 l l):=by simpa using(cell_of r.out 2).1
      go_wp2_with fail
      refine bz g9.out ?_;rintro s0 f2 ⟨rfl,Y⟩;have h0:ah _:=(Y.block _ (ai p.out)).trans p.out;have c7:ah (d_ c.heap.size f2 l3 l cp):=(d_.below I.out Y:d_ _ _ _ _ _);have c8:ah (aJ c.heap.size c f2):=(J.out.trans (Y.mono J.out.size):aJ _ _ _);clear Y g9 r p I X J q1 q2 k2 q3 q4 q5;have o1:ah _:=WA l3 cp l 4661 f2 (d_.own c7.out) n0 (by have:=n6.out;omega) (by omega);have k2:f2.cell? ⟨c0,2,none⟩=some (.slice l3 l l):=by simpa using(cell_of h0.out 2).1
      go_wp2_with fail
      refine bz o1.out ?_;rintro s3 a8 ⟨v2,rfl,Z,h7⟩;have h9:ah (pV a8 v2 4661):=(Z:pV _ _ _);have a1:ah (aJ c.heap.size c a8):=(ab1 c8.out h7 c7.out c8.out.size:aJ _ _ _);clear Z h7 o1 h0 c7 c8 k2;have o2:ah _:=IY b bM (.slice none 0 0) [] a8 eb fb lb _ HA.out (g1.out.over a1.out) (WC a8) RQ (by omega);go_wp2_with fail
      refine bz o2.out ?_;rintro s4 o ⟨⟨l5,n5,rfl,c9⟩,d1⟩;have o3:ap.length=n5:=c9.1;obtain rfl:d=n5:=j2.symm.trans o3;have i0:ah (d_ a8.heap.size o l5 d ap):=(c9:d_ _ _ _ _ _);have d2:ah (aJ c.heap.size c o):=(a1.out.trans (d1.mono a1.out.size):aJ _ _ _);have i1:ah (pV o v2 4661):=(h9.out.below d1:pV _ _ _);clear c9 d1 o2 h9 a1 o3;go_upto_region 33 with fail
      obtain⟨d0,o4⟩:∃d0,d0=o.heap.size:=⟨_,rfl⟩;have s:ah _:=aO o (.cells #[.int .i64 (aW:Int),.int .i64 (aH:Int),.slice l5 d d] 32);have a2:aJ o.heap.size o (o.alloc (.cells #[.int .i64 (aW:Int),.int .i64 (aH:Int),.slice l5 d d] 32)):=(aP o.heap.size o).alloc (ag _) _;have a3:ah (d_ a8.heap.size (o.alloc (.cells #[.int .i64 (aW:Int),.int .i64 (aH:Int),.slice l5 d d] 32)) l5 d ap):=(d_.below i0.out a2:d_ _ _ _ _ _);have y:ah (aJ c.heap.size c (o.alloc (.cells #[.int .i64 (aW:Int),.int .i64 (aH:Int),.slice l5 d d] 32))):=(d2.out.trans (a2.mono d2.out.size):aJ _ _ _);have a4:ah (pV (o.alloc (.cells #[.int .i64 (aW:Int),.int .i64 (aH:Int),.slice l5 d d] 32)) v2 4661):=(i1.out.below a2:pV _ _ _);rw[<-o4]at s|-;clear o4 a2 i0 d2 i1;revert s a3 y a4;generalize o.alloc _=T;intro s a3 y a4;have K:ah _:=b8.out.iU y.out;have i2:ah _:=zU (aW:Int) (aH:Int) (.slice l5 d d) (.slice l2 d d) ap T (d_.dM a3.out) (d_.dM K.out.xi) (by have:=j3.out;omega);have q6:T.cell? ⟨d0,0,none⟩=some (.int .i64 (aW:Int)):=by simpa using(cell_of s.out 0).1
      have q7:T.cell? ⟨d0,1,none⟩=some (.int .i64 (aH:Int)):=by simpa using(cell_of s.out 1).1
      have q8:T.cell? ⟨d0,2,none⟩=some (.slice l5 d d):=by simpa using(cell_of s.out 2).1
      have j6:T.cell? ⟨x0,0,none⟩=some (.int .i64 (aW:Int)):=by simpa using(cell_of K.out.xb 0).1
      have j7:T.cell? ⟨x0,1,none⟩=some (.int .i64 (aH:Int)):=by simpa using(cell_of K.out.xb 1).1
      have j8:T.cell? ⟨x0,2,none⟩=some (.slice l2 d d):=by simpa using(cell_of K.out.xb 2).1
      go_wp2_with fail
      refine bz i2.out ?_;rintro s5 k3 ⟨rfl,d4⟩;have a5:ah (aJ c.heap.size c k3):=(y.out.trans (d4.mono y.out.size):aJ _ _ _);have i3:ah (pV k3 v2 4661):=(a4.out.below d4:pV _ _ _);clear d4 i2 s a3 y a4 K q6 q7 q8 j6 j7 j8;have i4:ah _:=RP v1 4660 k3 (m8.out.below a5.out) (by omega);go_wp2_with fail
      refine bz i4.out ?_;rintro s6 o5 ⟨rfl,d5⟩;have d6:ah (aJ c.heap.size c o5):=(a5.out.trans (d5.mono a5.out.size):aJ _ _ _);have i5:ah _:=RP v2 4661 o5 (i3.out.below d5) (by omega);clear d5 i4 a5 i3;go_wp2_with fail
      refine bz i5.out ?_;rintro s7 q9 ⟨rfl,i6⟩;have i7:ah _:=b8.out.iU (d6.out.trans (i6.mono d6.out.size));clear i6 i5 d6;have s8:q9.cell? ⟨ib,i,none⟩=some (.int .i64 4660):=LM.last i7.out.lm u.out;go_wp2_with fail
      go_ret;exact⟨rfl,i7.out.lm.bl⟩
end Pr
end Go.Proofs.YtephkcdbnogdhaaGreatDoor
