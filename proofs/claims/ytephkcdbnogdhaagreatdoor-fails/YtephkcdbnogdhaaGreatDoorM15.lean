import Derived.Test.YtephkcdbnogdhaaGreatDoorM13
set_option linter.unusedVariables false
set_option maxHeartbeats 40000000
set_option maxRecDepth 10000
namespace Go.Proofs.YtephkcdbnogdhaaGreatDoor
open Go.Proofs.Tryz
open Go renaming World->af,Value->ay,Calls->aF,TypeId->aY,Addr->bP
open Go.RowKit renaming Hid->ah,intOf->aX
namespace kW
open Go.RowKit Rf
def lD(w:af)(g:Nat)(L:List Nat):Prop:=w.heap[g]?=some (.cells (jW L).toArray 3 (0,0))
theorem lD.cell{w:af}{g:Nat}{L:List Nat}(h:lD w g L)(i:Nat)(hi:i<L.length):w.cell? ⟨g,i,none⟩=some (.int .i64 ((L.getD i 0:Nat):Int)):=by rw[iR h];simp[jW,List.getD,List.getElem?_eq_getElem hi]
theorem lD.free{w:af}{g:Nat}{L:List Nat}(h:lD w g L)(o:Nat):w.frozen? ⟨g,o,none⟩=false:=by simp[World.frozen?,show w.heap[g]?=_ from h]
theorem lD.over{w w':af}{g:Nat}{L:List Nat}(h:lD w g L)(e:w'.heap[g]?=w.heap[g]?):lD w' g L:=e.trans h
theorem lD.set{w:af}{g:Nat}{L:List Nat}(h:lD w g L)(i x:Nat)(v:ay)(a:v= .int .i64 (x:Int)):lD (w.setCell ⟨g,i,none⟩ v) g (L.set i x):=by subst a;unfold lD at*;simp only[World.setCell,Array.getElem?_modify,h,if_true];simp[jW,List.map_set]
theorem lD.at{w:af}{g n:Nat}{L:List Nat}(h:lD w g L)(a:L.length=n):jZ w (.slice (some ⟨g,0,none⟩) n n) L:=by subst a;exact⟨g,0,L.length,_,rfl,ag _,h,fun i hi=>by simp[jW,List.getD,List.getElem?_eq_getElem hi]⟩
def CQ(w w':af):Prop:=w.heap.size<=w'.heap.size/\∀(k:Nat) (cur:Array ay) (T:aY) (f:Nat×Nat),w.heap[k]?=some (Obj.cells cur T f)->T≠3->w'.heap[k]?=w.heap[k]?
theorem sZ.same{w w':af}{base rb ub aN most:Nat}{s:ByteArray}{u:US}(h:sZ w base rb ub s aN most u)(e:CQ w w'):sZ w' base rb ub s aN most u:=by
 obtain⟨c,f,i,h3,j,k,v,h6,l⟩:=h;refine⟨c.over (e.2 rb _ _ _ c.1 (by decide)),f,i,h3,aK j e.1,k,v,(e.2 ub _ _ _ h6 (by decide)).trans h6,?_⟩;obtain⟨a,b⟩:=l;refine⟨a,?_⟩;rcases b with b|⟨g,cap,cur,m,n,d,r⟩
 ·exact .inl b
 ·exact .inr ⟨g,cap,cur,m,n,(e.2 g _ _ _ d (by decide)).trans d,r⟩
theorem dD.same{w w':af}{v:ay}{cs:List (Nat×List UInt8)}(h:dD w v cs)(e:CQ w w'):dD w' v cs:=dD.over h fun k cur a=>e.2 k cur _ _ a (by decide)
theorem abm{w:af}{g:Nat}{cur:Array ay}{f:Nat×Nat}(h:w.heap[g]?=some (Obj.cells cur 3 f))(o:Nat)(x:ay):CQ w (w.setCell ⟨g,o,none⟩ x):=by refine⟨by simp,fun k c T i e b=>iy w ⟨g,o,none⟩ x k ?_⟩;intro d;have a:k=g:=d;subst a;rw[h]at e;simp at e;exact b e.2.1.symm
theorem Iq(w:af)(o:Obj):CQ w (w.alloc o):=⟨by simp,fun k _ _ _ e _=>aj w o k (Array.getElem?_eq_some_iff.1 e).1⟩
theorem xQ{w w':af}{nN:Obj}{a n:Nat}{v:ay}{xs:List ay}(b:w.ownsRow a 3 1 v n xs)(h:(w.alloc nN).grownBy w' v.ownBlock):CQ w w':=by
 refine⟨qC h,fun k cur T f e j=> ?_⟩;have i:=(Array.getElem?_eq_some_iff.1 e).1;refine(h.block k (by simp;exact Nat.lt_succ_of_lt i) ?_).trans (aj w nN k i);intro c;rcases b.2 with⟨d,_⟩|⟨g,cap,m,d,_,l,_⟩
 ·rw[d]at c;simp[Value.ownBlock]at c
 ·rw[d]at c;simp[Value.ownBlock]at c;subst c;rw[l]at e;simp at e;exact j e.2.1.symm
theorem nO.next{base rb ub:Nat}{u v w:af}(h:nO base rb ub u v)(hb:base<=u.heap.size)(os:w.os=v.os)(tape:w.tape=v.tape)(output:w.output=v.output)(size:v.heap.size<=w.heap.size)
 (e:∀k,k<u.heap.size->w.heap[k]?=v.heap[k]?):nO base rb ub u w:=
 ⟨os.trans h.os,tape.trans h.tape,output.trans h.output,aK h.size size,fun k c a b=>(e k (by omega)).trans (h.low k c a b),
  fun k cur T f c d a b=>(e k (Array.getElem?_eq_some_iff.1 c).1).trans (h.other k cur T f c d a b)⟩
theorem nO.alloc{base rb ub:Nat}{u v:af}(h:nO base rb ub u v)(hb:base<=u.heap.size)(o:Obj):nO base rb ub u (v.alloc o):=
 h.next hb rfl rfl rfl (by simp) (fun k a=>aj v o k (bu a h.size))
theorem nO.eF{base rb ub g:Nat}{u v:af}(h:nO base rb ub u v)(hb:base<=u.heap.size)(a:u.heap.size<=g)(o:Nat)(x:ay):nO base rb ub u (v.setCell ⟨g,o,none⟩ x):=
 h.next hb rfl rfl rfl (by simp) (fun k b=>iy v ⟨g,o,none⟩ x k (by show k≠g;omega))
theorem nO.app{base rb ub a n:Nat}{u v w:af}{nN:Obj}{vv:ay}{xs:List ay}(h:nO base rb ub u v)(hb:base<=u.heap.size)(f:u.heap.size<=a)(b:v.ownsRow a 3 1 vv n xs)(c:(v.alloc nN).grownBy w vv.ownBlock):nO base rb ub u w:=
 h.next hb c.os c.tape c.output (qC c) (fun k d=>(c.block k (by simp;exact Nat.lt_succ_of_lt (bu d h.size)) (fun e=>by have:=(b.lt k e.symm).1;omega)).trans (aj v nN k (bu d h.size)))
theorem pg{w:af}{base e n:Nat}{v:ay}{xs:List ay}(h:w.ownsRow base e 1 v n xs):∃b cap,v= .slice b n cap/\(0<n->∃g,b=some ⟨g,0,none⟩/\n<=cap/\∀i,i<n->w.cell? ⟨g,i,none⟩=xs[i]?):=by
 rcases h.2 with⟨rfl,rfl⟩|⟨g,cap,cur,rfl,_,c,d,_,_,a⟩
 ·exact⟨none,0,rfl,fun h=>by omega⟩
 ·refine⟨some ⟨g,0,none⟩,cap,rfl,fun _=>⟨g,rfl,d,fun i hi=> ?_⟩⟩;rw[iR c,<-a,mO,aC (by omega),kE]
theorem Ir{w w':af}{base n:Nat}{e:aY}{v:ay}{xs:List ay}(h:w.ownsRow base e 1 v n xs)(hs:∀(k:Nat) (cur:Array ay),w.heap[k]?=some (Obj.cells cur e (0,0))->w'.heap[k]?=w.heap[k]?):w'.ownsRow base e 1 v n xs:=by
 obtain⟨a,b⟩:=h;refine⟨a,?_⟩;rcases b with b|⟨g,cap,cur,d,f,c,r⟩
 ·exact .inl b
 ·exact .inr ⟨g,cap,cur,d,f,(hs g cur c).trans c,r⟩
theorem w_{w w':af}{base a rb ub aN most n:Nat}{s:ByteArray}{u:US}{v:ay}{xs:List ay}(h:w.ownsRow base 3 1 v n xs)(b:kH rb w w')(c:sZ w a rb ub s aN most u):w'.ownsRow base 3 1 v n xs:=
 Ir h fun k cur e=>b.block k (c.ne e (by decide) (by decide)).1
theorem abn{w:af}{base g n cap m:Nat}{M:List Nat}(h:w.ownsRow base 3 1 (.slice (some ⟨g,0,none⟩) n cap) M.length (jW M))(hm:m=M.length-1)(f:0<M.length):w.cell? ⟨g,m,none⟩=some (.int .i64 ((M.getD (M.length-1) 0:Nat):Int)):=by
 rcases h.2 with⟨e,_⟩|⟨i,c,cur,e,_,d,j,_,_,a⟩
 ·cases e
 ·cases e;subst hm;have b:M.length-1<M.length:=by omega
  rw[iR d];have e:(cur.toList.take (M.length*1))[M.length-1]?=(jW M)[M.length-1]?:=by rw[a]
  rw[mO,aC (by omega),kE]at e;rw[e];simp[jW,List.getD,List.getElem?_eq_getElem b]
theorem Yn{w:af}{base g n cap:Nat}{M:List Nat}(h:w.ownsRow base 3 1 (.slice (some ⟨g,0,none⟩) n cap) M.length (jW M))(a:Nat)(k:a<=M.length):jZ w (.slice (some ⟨g,0,none⟩) a cap) (M.take a):=by
 rcases h.2 with⟨e,_⟩|⟨l,d,cur,e,_,j,m,_,_,b⟩
 ·cases e
 ·cases e;have f:(M.take a).length=a:=by rw[jl];omega
  refine⟨g,0,cap,cur,by rw[f],by rw[f];omega,j,fun i hi=> ?_⟩;have c:i<M.length:=by omega
  have e:(cur.toList.take (M.length*1))[i]?=(jW M)[i]?:=by rw[b]
  rw[mO,aC (by omega),kE]at e;rw[fF,e];have h3:i<a:=by omega
  simp[jW,List.getD,h3,List.getElem?_eq_getElem c]
theorem Yo{w:af}{base g n cap:Nat}{M:List Nat}(h:w.ownsRow base 3 1 (.slice (some ⟨g,0,none⟩) n cap) M.length (jW M))(a:Nat)(k:a<=M.length):jZ w (.slice (some ⟨g,a,none⟩) (M.length-a) (cap-a)) (M.drop a):=by
 rcases h.2 with⟨e,_⟩|⟨l,d,cur,e,_,j,m,_,_,b⟩
 ·cases e
 ·cases e;have f:(M.drop a).length=M.length-a:=iI;refine⟨g,a,cap-a,cur,by rw[f],by rw[f];omega,j,fun i hi=> ?_⟩;have c:a+i<M.length:=by omega
  have e:(cur.toList.take (M.length*1))[a+i]?=(jW M)[a+i]?:=by rw[b]
  rw[mO,aC (by omega),kE]at e;rw[e];simp[jW,List.getD,List.getElem?_drop,List.getElem?_eq_getElem c]
theorem abo{w:af}{base g n cap:Nat}{M:List Nat}(h:w.ownsRow base 3 1 (.slice (some ⟨g,0,none⟩) n cap) M.length (jW M))(i:Nat)(hi:i<M.length):w.cell? ⟨g,i,none⟩=some (.int .i64 ((M.getD i 0:Nat):Int)):=by
 rcases h.2 with⟨e,_⟩|⟨d,b,cur,e,_,c,f,_,_,a⟩
 ·cases e
 ·cases e;rw[iR c];have e:(cur.toList.take (M.length*1))[i]?=(jW M)[i]?:=by rw[a]
  rw[mO,aC (by omega),kE]at e;rw[e];simp[jW,List.getD,List.getElem?_eq_getElem hi]
def Rk(w:af)(b N:Nat)(v:ay):Nat:=match w.cell? ⟨b,2,none⟩with
 |some (.bool true)=>0
 |_=>match v with
  | .slice _ n _=>N-n+1
  |_=>N+1
theorem xg{w:af}{b N:Nat}{v:ay}{s:ByteArray}{st:bZ}(h:je w b s st)(hb:st.dA=true):Rk w b N v=0:=by unfold Rk;rw[h.c2,hb]
theorem qQ{w:af}{b N:Nat}{a:Option bP}{n cap:Nat}{s:ByteArray}{st:bZ}(h:je w b s st)(hb:st.dA=false):Rk w b N (.slice a n cap)=N-n+1:=by unfold Rk;rw[h.c2,hb]
def zq:Array ay:=(jW (List.replicate 19 0)).toArray
theorem aeI:madeCells #[.int .i64 0] 19=zq:=by apply Array.toList_inj.1;rw[toList_madeCells_one];rfl
theorem abp(k:Nat):order.getD k 0<19:=gU order 18 (by decide) k|>Nat.lt_succ_of_le
theorem Rl:(#[.int .i64 16,.int .i64 17,.int .i64 18,.int .i64 0,.int .i64 8,.int .i64 7,.int .i64 9,.int .i64 6,.int .i64 10,.int .i64 5,.int .i64 11,.int .i64 4,.int .i64 12,.int .i64 3,.int .i64 13,.int .i64 2,.int .i64 14,.int .i64 1,.int .i64 15]:Array ay)=(jW order).toArray:=by rfl
theorem adn(base rb ub:Nat)(s:ByteArray)(aN most:Nat)(u:US)(w:af)(hU:sZ w base rb ub s aN most u)(hs:s.size<=140737488351232)(hm:most<=16777216)(m3:aN<=32768):
 aF prog 84 #[.pointer (some ⟨ub,0,none⟩)] w fun e w'=>e= .returned (.tuple #[])/\sZ w' base rb ub s aN most (yx s aN most u)/\nO base rb ub w w':=by
 have q5:=hU.u0;go_enter func84,ntmps84
 go_wp2_with fail
 refine(gu rb s u.st 5 _ rfl _ hU.1 hs (by omega)).mono ?_;rintro e w1 ⟨rfl,m4,i4⟩;have i5:=hU.row i4 _ m4;have m5:nO base rb ub w w1:=i4.vw (base:=base) (ub:=ub);have u7:(bI s 5 u.st).1<32:=oG s 5 u.st;go_wp2_with fail
 refine(gu rb s _ 5 _ rfl _ i5.1 hs (by omega)).mono ?_;rintro e w2 ⟨rfl,m6,i6⟩;have i7:=i5.row i6 _ m6;have m7:=m5.trans (i6.vw (base:=base) (ub:=ub));have u9:(bI s 5 (bI s 5 u.st).2).1<32:=oG s 5 _;go_wp2_with fail
 refine(gu rb s _ 4 _ rfl _ i7.1 hs (by omega)).mono ?_;rintro e w3 ⟨rfl,m8,i9⟩;have b6:=i7.row i9 _ m8;have j0:=m7.trans (i9.vw (base:=base) (ub:=ub));have q6:(bI s 4 (bI s 5 (bI s 5 u.st).2).2).1<16:=oG s 4 _;have HT:ah (yx s aN most u=zY s aN most ((bI s 5 u.st).1+257) ((bI s 5 (bI s 5 u.st).2).1+1) u.out (yc s ((bI s 5 u.st).1+257) ((bI s 5 (bI s 5 u.st).2).1+1) ((bI s 4 (bI s 5 (bI s 5 u.st).2).2).1+4) (uM ((bI s 5 u.st).1+257) ((bI s 5 (bI s 5 u.st).2).1+1) (bI s 4 (bI s 5 (bI s 5 u.st).2).2).2)).1 (yc s ((bI s 5 u.st).1+257) ((bI s 5 (bI s 5 u.st).2).1+1) ((bI s 4 (bI s 5 (bI s 5 u.st).2).2).1+4) (uM ((bI s 5 u.st).1+257) ((bI s 5 (bI s 5 u.st).2).1+1) (bI s 4 (bI s 5 (bI s 5 u.st).2).2).2)).2):=(rfl:_=_);clear i5 i7 m5 m7 m4 m6 m8 i4 i6 i9 q5;generalize bI s 4 (bI s 5 (bI s 5 u.st).2).2=R3 at*;generalize (bI s 5 (bI s 5 u.st).2).1=b0 at*;generalize (bI s 5 u.st).1=a0 at*;obtain⟨n0,c8⟩:=R3;simp only at b6 q6;obtain⟨T,j1⟩:∃T,T=yx s aN most u:=⟨_,rfl⟩;have d8:ah _:=j1;rw[<-j1]at HT;clear j1;generalize u.out=out at*;have q7:=b6.1.c2;have q8:=b6.1.free 2;obtain⟨fb,n1⟩:∃fb:Bool,fb=decide (286<a0+257\/30<b0+1):=⟨_,rfl⟩;have c9:ah _:=n1;clear n1;go_upto_region 4 with fail
 go_cut [40] (fun v wx=>v= .bool fb/\wx=w3)
 case first=>
  as_aux_lemma=>
   by_cases v3:286<a0+257
   ·go_wp2
    go_meet
    case rel=>exact⟨by rw[c9.out];exact gY Value.bool (by rw[uB];simp;omega),rfl⟩
   ·by_cases v5:30<b0+1
    ·go_wp2
     go_meet
     case rel=>exact⟨by rw[c9.out];exact gY Value.bool (by rw[uB];simp;omega),rfl⟩
    ·go_wp2
     go_meet
     case rel=>exact⟨by rw[c9.out];exact gY Value.bool (by rw[uB];simp;omega),rfl⟩
 case rest=>
  obtain⟨rfl,Q⟩:=hcut;have Q:=Q.symm;subst Q;go_upto_if 40 with fail
  go_cut [] (fun wx=>sZ wx base rb ub s aN most ⟨uM (a0+257) (b0+1) c8,out⟩/\nO base rb ub w wx)
  case first=>
   as_aux_lemma=>
    cases fb
    ·have H:ah (uM (a0+257) (b0+1) c8=c8):=au (of_decide_eq_false c9.out.symm);go_wp2
     go_meet
     case rel=>exact⟨by rw[H.out];exact b6,j0⟩
    ·have H:ah (uM (a0+257) (b0+1) c8=⟨c8.pos,true⟩):=aC (nS c9.out.symm);go_wp2
     go_meet
     case rel=>exact⟨by rw[H.out];exact b6.row ((kH.refl rb w3).setCell 2 _) _ (b6.1.vk true),j0.set rb 2 (.inl rfl) _⟩
  case rest=>
   obtain⟨n2,j2⟩:=hcut;clear b6 j0 q7 q8 c9;generalize uM (a0+257) (b0+1) c8=d9 at*;obtain⟨i0,hi,n3,n4,n5⟩:=info_parts tZ;have q9:∀wx:af,(Instr.makeSlice 29 (.int .i64 19) (.int .i64 19)).run prog wx= .ok (.slice (some ⟨wx.heap.size,0,none⟩) 19 19) (wx.alloc (.cells zq 3)):=fun wx=>by have h:=run_make (P:=prog) wx 29 3 i0 _ underlying29 hi n3 .i64 .i64 19 19 (by omega) (by omega) (by rw[n5];omega) (by omega);rw[n4]at h;rw[<-aeI];simpa [Value.cells]using h
   clear hi n3 n4 n5;have b7:base<=w.heap.size:=hU.2.2.2.2.1;go_upto_region 8 with fail
   have n6:=(j2.alloc b7 (.cells #[.int .i64 16,.int .i64 17,.int .i64 18,.int .i64 0,.int .i64 8,.int .i64 7,.int .i64 9,.int .i64 6,.int .i64 10,.int .i64 5,.int .i64 11,.int .i64 4,.int .i64 12,.int .i64 3,.int .i64 13,.int .i64 2,.int .i64 14,.int .i64 1,.int .i64 15] 3)).alloc b7 (.cells zq 3);have n7:=(n2.same (Iq _ (.cells #[.int .i64 16,.int .i64 17,.int .i64 18,.int .i64 0,.int .i64 8,.int .i64 7,.int .i64 9,.int .i64 6,.int .i64 10,.int .i64 5,.int .i64 11,.int .i64 4,.int .i64 12,.int .i64 3,.int .i64 13,.int .i64 2,.int .i64 14,.int .i64 1,.int .i64 15] 3))).same (Iq _ (.cells zq 3));have n8:lD ((wc.alloc (.cells #[.int .i64 16,.int .i64 17,.int .i64 18,.int .i64 0,.int .i64 8,.int .i64 7,.int .i64 9,.int .i64 6,.int .i64 10,.int .i64 5,.int .i64 11,.int .i64 4,.int .i64 12,.int .i64 3,.int .i64 13,.int .i64 2,.int .i64 14,.int .i64 1,.int .i64 15] 3)).alloc (.cells zq 3)) wc.heap.size order:=by unfold lD;rw[aj _ _ _ (by simp),<-Rl];exact(dR wc _).1
   have j3:lD ((wc.alloc (.cells #[.int .i64 16,.int .i64 17,.int .i64 18,.int .i64 0,.int .i64 8,.int .i64 7,.int .i64 9,.int .i64 6,.int .i64 10,.int .i64 5,.int .i64 11,.int .i64 4,.int .i64 12,.int .i64 3,.int .i64 13,.int .i64 2,.int .i64 14,.int .i64 1,.int .i64 15] 3)).alloc (.cells zq 3)) (wc.heap.size+1) (List.replicate 19 0):=by have h:=(dR (wc.alloc (.cells #[.int .i64 16,.int .i64 17,.int .i64 18,.int .i64 0,.int .i64 8,.int .i64 7,.int .i64 9,.int .i64 6,.int .i64 10,.int .i64 5,.int .i64 11,.int .i64 4,.int .i64 12,.int .i64 3,.int .i64 13,.int .i64 2,.int .i64 14,.int .i64 1,.int .i64 15] 3)) (.cells zq 3)).1;rw[qh]at h;exact h
   have j4:w.heap.size<=wc.heap.size:=j2.size;clear q9 n2 j2;generalize (wc.alloc (.cells #[.int .i64 16,.int .i64 17,.int .i64 18,.int .i64 0,.int .i64 8,.int .i64 7,.int .i64 9,.int .i64 6,.int .i64 10,.int .i64 5,.int .i64 11,.int .i64 4,.int .i64 12,.int .i64 3,.int .i64 13,.int .i64 2,.int .i64 14,.int .i64 1,.int .i64 15] 3)).alloc (.cells zq 3)=wO at*;generalize wc.heap.size=gO at*;have g5:(List.replicate 19 (0:Nat)).length=19:=mJ;have g6:∀x∈List.replicate 19 (0:Nat),x<=15:=fun x hx=>by rw[gX hx];omega
   obtain⟨e0,j5⟩:∃z,z=List.replicate 19 (0:Nat):=⟨_,rfl⟩;rw[<-j5]at g5 g6 j3;have r0:ah _:=j5;clear j5;go_wp2
   go_loopw [8] (fun i wr=> ∃(k j:Nat) (L:List Nat) (t:bZ),k+j=n0+4/\lX s (n0+4) 0 e0 d9=lX s j k L t/\L.length=19/\i= .int .i64 k/\sZ wr base rb ub s aN most ⟨t,out⟩/\nO base rb ub w wr/\lD wr gO order/\lD wr (gO+1) L) (fun i _=>n0+4-(aX i).toNat)
   case atStart=>exact⟨0,n0+4,e0,d9,by omega,rfl,g5,rfl,n7,n6,n8,j3⟩
   case round=>
    obtain⟨k,j,L,t,n9,hS,e1,rfl,b8,j6,f8,d0⟩:=hrel;have t8:k<=19:=by omega
    cases j with
    |zero=>
     have o0:¬k<n0+4:=by omega
     have HS:ah (lX s (n0+4) 0 e0 d9=(L,t)):=hS;have h0:∀x∈L,x<=15:=by have h:=Kr s (n0+4) 0 e0 d9 g6;rw[HS.out]at h;exact h
     have o1:ah (T=zY s aN most (a0+257) (b0+1) out (gV s (a0+257+(b0+1)) (bJ L).cs (a0+257+(b0+1)+1) [] (yu (bJ L).nZ t)).1 (gV s (a0+257+(b0+1)) (bJ L).cs (a0+257+(b0+1)+1) [] (yu (bJ L).nZ t)).2):=(by rw[HT.out];unfold yc;rw[<-r0.out,HS.out]:_=_);clear hS n9;go_wp2_with fail
     refine(wH L _ _ (d0.at e1) (by omega) (gU L 15 h0)).mono ?_;rintro e w6 ⟨vc,rfl,j7,j8⟩;have b9:=b8.below j8;have k0:=j6.trans (mY (rb:=rb) (ub:=ub) b8.2.2.2.2.1 j8);have r1:=AB L (by omega);have r2:∀st,(cu s (bJ L).cs st).1<19:=fun st=>by have:=OZ s L st (by omega);omega
     clear f8 d0 b8 j6 j8 HS h0 e1 o0;generalize (bJ L).cs=cs at*;generalize (bJ L).nZ=mu at*;have r3:=b9.1.c2;have r4:=b9.1.free 2;go_upto_if 65 with fail
     go_cut [] (fun wx=>sZ wx base rb ub s aN most ⟨yu mu t,out⟩/\nO base rb ub w wx/\dD wx vc cs)
     case first=>
      as_aux_lemma=>
       by_cases f9:mu=32768
       ·have H:ah (yu mu t=t):=aC f9;have r5:((mu:Int) !=32768)=false:=by rw[bn];omega
        clear f9;go_wp2
        go_meet
        case rel=>exact⟨by rw[H.out];exact b9,k0,j7⟩
       ·have H:ah (yu mu t=⟨t.pos,true⟩):=au f9;have r5:((mu:Int) !=32768)=true:=by rw[dG];omega
        have d1:nO base rb ub w6 (w6.setCell ⟨rb,2,none⟩ (.bool true)):=(nO.refl base rb ub w6).set rb 2 (.inl rfl) _;clear f9;go_wp2
        go_meet
        case rel=>exact⟨by rw[H.out];exact b9.row ((kH.refl rb w6).setCell 2 _) _ (b9.1.vk true),k0.trans d1,dD.vw j7 b9 d1⟩
     case rest=>
      obtain⟨o2,d1,o3⟩:=hcut;clear b9 k0 j7 r3 r4 HT n7 n6 n8 j3;generalize yu mu t=G at*;have v7:a0+257+(b0+1)<=320:=by omega
      obtain⟨N,hN⟩:∃N,N=a0+257+(b0+1):=⟨_,rfl⟩;have v8:N<=320:=by omega
      have v9:((a0:Int)+257+((b0:Int)+1))=(N:Int):=by omega
      have a3:ah (T=zY s aN most (a0+257) (b0+1) out (gV s N cs (N+1) [] G).1 (gV s N cs (N+1) [] G).2):=(by rw[o1.out,hN]:_=_);have HN:ah _:=hN;clear hN o1;obtain⟨d,k1⟩:∃b,b=wc.heap.size:=⟨_,rfl⟩;have g0:w.heap.size<=d:=by rw[k1];exact d1.size
      have r6:d<=wc.heap.size:=Nat.le_of_eq k1;clear k1;go_wp2_with fail
      go_loopw [11] (fun v wr=> ∃(f:Nat) (M:List Nat) (t:bZ),gV s N cs (N+1) [] G=gV s N cs f M t/\(t.dA=true\/N-M.length<f)/\(∀x∈M,x<=15)/\M.length<=460/\wr.ownsRow d 3 1 v M.length (jW M)/\sZ wr base rb ub s aN most ⟨t,out⟩/\nO base rb ub w wr/\dD wr vc cs/\d<=wr.heap.size) (fun v wr=>Rk wr rb N v)
      case atStart=>exact⟨N+1,[],G,rfl,.inr (by simp),(by intro x hx;cases hx),by simp,eX _ _ _ _,o2,d1,o3,r6⟩
      case round=>
       obtain⟨f,M,t7,hF,e2,S,r7,a2,A,d2,o4,r8⟩:=hrel;obtain⟨ao,cap,rfl,g1⟩:=pg a2;have r9:=A.1.c2;obtain⟨tp,tb⟩:=t7;by_cases k2:M.length<N
       ·cases tb
        ·have o5:(M.length:Int)<(N:Int):=by omega
         obtain⟨f,rfl⟩:∃g,f=g+1:=⟨f-1,by have h9:N-M.length<f:=(by simpa using e2);omega⟩;have t9:N-M.length<f+1:=by simpa using e2
         have HF:ah _:=hF;clear hF e2;go_wp2_with fail
         refine(AP rb s ⟨tp,false⟩ cs vc _ A.1 hs o4 r1).mono ?_;rintro e w8 ⟨rfl,o6,e3⟩;have e4:nO base rb ub _ w8:=e3.vw (base:=base) (ub:=ub);have q:=A.row e3 _ o6;have a4:=dD.vw o4 A e4;have a5:=d2.trans e4;have B:=w_ a2 e3 A;have a6:d<=w8.heap.size:=by rw[e3.size];exact r8
         have o7:=r2 ⟨tp,false⟩;have HG:ah (∀v k m_,jb s M (cu s cs ⟨tp,false⟩).1 (cu s cs ⟨tp,false⟩).2= .inl (v,k,m_)->gV s N cs (N+1) [] G=gV s N cs f (M++List.replicate k v) m_):=fun v k m_ e=>HF.out.trans (F_ s N cs f M ⟨tp,false⟩ k2 rfl v k m_ e);have HR:ah (∀m_,jb s M (cu s cs ⟨tp,false⟩).1 (cu s cs ⟨tp,false⟩).2= .inr m_->gV s N cs (N+1) [] G=(M,m_)):=fun m_ e=>HF.out.trans (Gf s N cs f M ⟨tp,false⟩ k2 rfl m_ e);clear HF e4 o6 e3 o3 o2 d1;generalize cu s cs ⟨tp,false⟩=z at*;obtain⟨y,l⟩:=z;simp only at o7 q;by_cases h1:y=16
         ·as_aux_lemma=>
           subst h1;by_cases k3:M.length=0
           ·have HB:ah (gV s N cs (N+1) [] G=(M,⟨(bI s 2 l).2.pos,true⟩)):=HR.out _ (by unfold jb;rw[aC rfl,aC k3]);have o8:((M.length:Int)==0)=true:=by rw[iV];omega
            clear HG HR;go_wp2_with fail
            refine(gu rb s l 2 _ rfl _ q.1 hs (by omega)).mono ?_;rintro e wn ⟨rfl,U,n⟩;have p:nO base rb ub _ wn:=n.vw (base:=base) (ub:=ub);have I:=q.row n _ U;have c3:=dD.vw a4 q p;have c4:=a5.trans p;have D:=w_ B n q;have c5:d<=wn.heap.size:=by rw[n.size];exact a6
            have w4:=I.1.c2;have w5:=I.1.free 2;have k4:kH rb wn (wn.setCell ⟨rb,2,none⟩ (.bool true)):=(kH.refl rb wn).setCell 2 _;have h4:nO base rb ub wn (wn.setCell ⟨rb,2,none⟩ (.bool true)):=k4.vw (base:=base) (ub:=ub);have r:=I.row k4 _ (I.1.vk true);have R:=dD.vw c3 I h4;have c:=w_ D k4 I;have s0:ah _:=k3;clear U n p B q a5 a4 a6 k3;go_wp2
            go_roundw
            case rel=>exact⟨f,M,⟨(bI s 2 l).2.pos,true⟩,by rw[HB.out,zC _ _ _ _ _ _ rfl],.inl rfl,S,r7,(by have h9:=c;rw[s0.out]at h9|-;exact h9),r,c4.trans h4,R,by simpa using c5⟩
            case measure=>rw[qQ A.1 rfl,xg r.1 rfl];omega
           ·have g2:0<M.length:=by omega
            obtain⟨g9,rfl,k5,k6⟩:=g1 g2;have b2:ah (gV s N cs (N+1) [] G=gV s N cs f (M++List.replicate (3+(bI s 2 l).1) (M.getD (M.length-1) 0)) (bI s 2 l).2):=HG.out _ (3+(bI s 2 l).1) (bI s 2 l).2 (by unfold jb;rw[aC rfl,au (by omega)]);clear HG HR;have o9:M.getD (M.length-1) 0<=15:=gU M 15 S _;go_wp2_with fail
            refine(gu rb s l 2 _ rfl _ q.1 hs (by omega)).mono ?_;rintro e wn ⟨rfl,U,n⟩;have p:nO base rb ub _ wn:=n.vw (base:=base) (ub:=ub);have I:=q.row n _ U;have c3:=dD.vw a4 q p;have c4:=a5.trans p;have D:=w_ B n q;have c5:d<=wn.heap.size:=by rw[n.size];exact a6
            have e5:(bI s 2 l).1<4:=oG s 2 l;obtain⟨m9,p0⟩:∃m,m=M.length-1:=⟨_,rfl⟩;have u3:wn.cell? ⟨g9,m9,none⟩=some (.int .i64 ((M.getD (M.length-1) 0:Nat):Int)):=abn D p0 g2;have w7:((M.length:Int)-1)=(m9:Int):=by omega
            have u4:m9<M.length:=by omega
            have o8:((M.length:Int)==0)=false:=by rw[ax];omega
            clear U n p B q a5 a4 a6 p0 k6 g1;generalize M.getD (M.length-1) 0=lv at*;have s3:lv<=15:=o9;generalize bI s 2 l=X at*;obtain⟨xv,O⟩:=X;simp only at e5 I;obtain⟨E,b3⟩:∃E,E=3+xv:=⟨_,rfl⟩;have h5:(3+(xv:Int))=(E:Int):=by omega
            have HK:ah (gV s N cs (N+1) [] G=gV s N cs f (M++List.replicate E lv) O):=(by rw[b3];exact b2.out:_=_);clear b3 b2;go_wp2_with fail
            go_loopw [11,15] (fun v i wr=> ∃k j:Nat,k+j=E/\i= .int .i64 k/\wr.ownsRow d 3 1 v (M.length+k) (jW (M++List.replicate k lv))/\sZ wr base rb ub s aN most ⟨O,out⟩/\nO base rb ub w wr/\dD wr vc cs/\d<=wr.heap.size) (fun _ i _=>E-(aX i).toNat)
            case atStart=>exact⟨0,E,by omega,rfl,by simpa using D,I,c4,c3,c5⟩
            case round=>
             obtain⟨V,j9,W,rfl,c,r,Y,R,J⟩:=hrel;by_cases k7:V<E
             ·go_wp2_with (first
               |(at_builtin;refine rH rfl _ _ rfl d _ (M.length+V) (jW (M++List.replicate V lv)) _ c rfl rfl (by omega) J ?_;intro v' w9 C K)
               |go_in)
              have Am:=xQ c K;go_roundw
              case rel=>exact⟨V+1,j9-1,by omega,by go_num,(by rw[yG,<-bV,nJ];exact C),r.same Am,Y.app b7 g0 c K,dD.same R Am,aK J (qC K)⟩
              case measure=>simp[aX];omega
             ·have Z:E=V:=by omega
              subst Z;obtain⟨k8,e6,rfl,_⟩:=pg c;have HQ:ah (∀x∈M++List.replicate (E) lv,x<=15):=fun x hx=>by
               rcases List.mem_append.1 hx with hx|hx
               ·exact S x hx
               ·rw[gX hx];exact s3
              clear W;go_wp2
              go_roundw
              case rel=>exact⟨f,M++List.replicate (E) lv,O,HK.out,.inr (by simp;omega),HQ.out,by simp;omega,by simpa using c,r,Y,R,J⟩
              case measure=>
               rw[qQ A.1 rfl];cases F:(O).dA with
               |true=>rw[xg r.1 F];omega
               |false=>rw[qQ r.1 F];omega
         ·have s4:((y:Int)==16)=false:=by rw[ax];omega
          by_cases h7:y=17
          ·as_aux_lemma=>
            subst h7;have b2:ah (gV s N cs (N+1) [] G=gV s N cs f (M++List.replicate (3+(bI s 3 l).1) 0) (bI s 3 l).2):=HG.out 0 (3+(bI s 3 l).1) (bI s 3 l).2 (rfl);clear HG HR;go_wp2_with fail
            refine(gu rb s l 3 _ rfl _ q.1 hs (by omega)).mono ?_;rintro e wn ⟨rfl,U,n⟩;have p:nO base rb ub _ wn:=n.vw (base:=base) (ub:=ub);have I:=q.row n _ U;have c3:=dD.vw a4 q p;have c4:=a5.trans p;have D:=w_ B n q;have c5:d<=wn.heap.size:=by rw[n.size];exact a6
            have e5:(bI s 3 l).1<8:=oG s 3 l;clear U n p B q a5 a4 a6;generalize bI s 3 l=X at*;obtain⟨xv,O⟩:=X;simp only at e5 I;obtain⟨E,b3⟩:∃E,E=3+xv:=⟨_,rfl⟩;have h5:(3+(xv:Int))=(E:Int):=by omega
            have HK:ah (gV s N cs (N+1) [] G=gV s N cs f (M++List.replicate E 0) O):=(by rw[b3];exact b2.out:_=_);clear b3 b2;go_wp2_with fail
            go_loopw [11,15] (fun v i wr=> ∃k j:Nat,k+j=E/\i= .int .i64 k/\wr.ownsRow d 3 1 v (M.length+k) (jW (M++List.replicate k 0))/\sZ wr base rb ub s aN most ⟨O,out⟩/\nO base rb ub w wr/\dD wr vc cs/\d<=wr.heap.size) (fun _ i _=>E-(aX i).toNat)
            case atStart=>exact⟨0,E,by omega,rfl,by simpa using D,I,c4,c3,c5⟩
            case round=>
             obtain⟨V,j9,W,rfl,c,r,Y,R,J⟩:=hrel;by_cases k7:V<E
             ·go_wp2_with (first
               |(at_builtin;refine rH rfl _ _ rfl d _ (M.length+V) (jW (M++List.replicate V 0)) _ c rfl rfl (by omega) J ?_;intro v' w9 C K)
               |go_in)
              have Am:=xQ c K;go_roundw
              case rel=>exact⟨V+1,j9-1,by omega,by go_num,(by rw[yG,<-bV,nJ];exact C),r.same Am,Y.app b7 g0 c K,dD.same R Am,aK J (qC K)⟩
              case measure=>simp[aX];omega
             ·have Z:E=V:=by omega
              subst Z;obtain⟨k8,e6,rfl,_⟩:=pg c;have HQ:ah (∀x∈M++List.replicate (E) 0,x<=15):=fun x hx=>by
               rcases List.mem_append.1 hx with hx|hx
               ·exact S x hx
               ·rw[gX hx];exact by omega
              clear W;go_wp2
              go_roundw
              case rel=>exact⟨f,M++List.replicate (E) 0,O,HK.out,.inr (by simp;omega),HQ.out,by simp;omega,by simpa using c,r,Y,R,J⟩
              case measure=>
               rw[qQ A.1 rfl];cases F:(O).dA with
               |true=>rw[xg r.1 F];omega
               |false=>rw[qQ r.1 F];omega
          ·have s5:((y:Int)==17)=false:=by rw[ax];omega
           by_cases i1:y=18
           ·as_aux_lemma=>
             subst i1;have b2:ah (gV s N cs (N+1) [] G=gV s N cs f (M++List.replicate (11+(bI s 7 l).1) 0) (bI s 7 l).2):=HG.out 0 (11+(bI s 7 l).1) (bI s 7 l).2 (rfl);clear HG HR;go_wp2_with fail
             refine(gu rb s l 7 _ rfl _ q.1 hs (by omega)).mono ?_;rintro e wn ⟨rfl,U,n⟩;have p:nO base rb ub _ wn:=n.vw (base:=base) (ub:=ub);have I:=q.row n _ U;have c3:=dD.vw a4 q p;have c4:=a5.trans p;have D:=w_ B n q;have c5:d<=wn.heap.size:=by rw[n.size];exact a6
             have e5:(bI s 7 l).1<128:=oG s 7 l;clear U n p B q a5 a4 a6;generalize bI s 7 l=X at*;obtain⟨xv,O⟩:=X;simp only at e5 I;obtain⟨E,b3⟩:∃E,E=11+xv:=⟨_,rfl⟩;have h5:(11+(xv:Int))=(E:Int):=by omega
             have HK:ah (gV s N cs (N+1) [] G=gV s N cs f (M++List.replicate E 0) O):=(by rw[b3];exact b2.out:_=_);clear b3 b2;go_wp2_with fail
             go_loopw [11,15] (fun v i wr=> ∃k j:Nat,k+j=E/\i= .int .i64 k/\wr.ownsRow d 3 1 v (M.length+k) (jW (M++List.replicate k 0))/\sZ wr base rb ub s aN most ⟨O,out⟩/\nO base rb ub w wr/\dD wr vc cs/\d<=wr.heap.size) (fun _ i _=>E-(aX i).toNat)
             case atStart=>exact⟨0,E,by omega,rfl,by simpa using D,I,c4,c3,c5⟩
             case round=>
              obtain⟨V,j9,W,rfl,c,r,Y,R,J⟩:=hrel;by_cases k7:V<E
              ·go_wp2_with (first
                |(at_builtin;refine rH rfl _ _ rfl d _ (M.length+V) (jW (M++List.replicate V 0)) _ c rfl rfl (by omega) J ?_;intro v' w9 C K)
                |go_in)
               have Am:=xQ c K;go_roundw
               case rel=>exact⟨V+1,j9-1,by omega,by go_num,(by rw[yG,<-bV,nJ];exact C),r.same Am,Y.app b7 g0 c K,dD.same R Am,aK J (qC K)⟩
               case measure=>simp[aX];omega
              ·have Z:E=V:=by omega
               subst Z;obtain⟨k8,e6,rfl,_⟩:=pg c;have HQ:ah (∀x∈M++List.replicate (E) 0,x<=15):=fun x hx=>by
                rcases List.mem_append.1 hx with hx|hx
                ·exact S x hx
                ·rw[gX hx];exact by omega
               clear W;go_wp2
               go_roundw
               case rel=>exact⟨f,M++List.replicate (E) 0,O,HK.out,.inr (by simp;omega),HQ.out,by simp;omega,by simpa using c,r,Y,R,J⟩
               case measure=>
                rw[qQ A.1 rfl];cases F:(O).dA with
                |true=>rw[xg r.1 F];omega
                |false=>rw[qQ r.1 F];omega
           ·as_aux_lemma=>
             have s6:((y:Int)==18)=false:=by rw[ax];omega
             have HK:ah (gV s N cs (N+1) [] G=gV s N cs f (M++List.replicate 1 y) l):=HG.out y 1 l (by unfold jb;rw[au h1,au h7,au i1]);clear HG HR;go_wp2_with fail
             go_loopw [11,15] (fun v i wr=> ∃k j:Nat,k+j=1/\i= .int .i64 k/\wr.ownsRow d 3 1 v (M.length+k) (jW (M++List.replicate k y))/\sZ wr base rb ub s aN most ⟨l,out⟩/\nO base rb ub w wr/\dD wr vc cs/\d<=wr.heap.size) (fun _ i _=>1-(aX i).toNat)
             case atStart=>exact⟨0,1,by omega,rfl,by simpa using B,q,a5,a4,a6⟩
             case round=>
              obtain⟨V,j9,W,rfl,c,r,Y,R,J⟩:=hrel;by_cases k7:V<1
              ·go_wp2_with (first
                |(at_builtin;refine rH rfl _ _ rfl d _ (M.length+V) (jW (M++List.replicate V y)) _ c rfl rfl (by omega) J ?_;intro v' w9 C K)
                |go_in)
               have Am:=xQ c K;go_roundw
               case rel=>exact⟨V+1,j9-1,by omega,by go_num,(by rw[yG,<-bV,nJ];exact C),r.same Am,Y.app b7 g0 c K,dD.same R Am,aK J (qC K)⟩
               case measure=>simp[aX];omega
              ·have Z:1=V:=by omega
               subst Z;obtain⟨k8,e6,rfl,_⟩:=pg c;have HQ:ah (∀x∈M++List.replicate (1) y,x<=15):=fun x hx=>by
                rcases List.mem_append.1 hx with hx|hx
                ·exact S x hx
                ·rw[gX hx];exact by omega
               clear W;go_wp2
               go_roundw
               case rel=>exact⟨f,M++List.replicate (1) y,l,HK.out,.inr (by simp;omega),HQ.out,by simp;omega,by simpa using c,r,Y,R,J⟩
               case measure=>
                rw[qQ A.1 rfl];cases F:(l).dA with
                |true=>rw[xg r.1 F];omega
                |false=>rw[qQ r.1 F];omega
        ·have HL:ah (gV s N cs (N+1) [] G=(M,⟨tp,true⟩)):=hF.trans (zC s N cs f M _ rfl);have e7:ah (T=⟨⟨tp,true⟩,out⟩):=(by rw[a3.out,HL.out];exact BU s aN most _ _ out M ⟨tp,true⟩ (Or.inl rfl):_=_);have o5:(M.length:Int)<(N:Int):=by omega
         have p1:=A.1.free 2;clear hF e2 HL a3;go_wp2
         refine aI (results_none rfl _ _ _) rfl ?_;exact⟨rfl,by rw[<-d8.out,e7.out];exact A.row ((kH.refl rb wr).setCell 2 _) _ (A.1.vk true),d2.set rb 2 (.inl rfl) _⟩
       ·have HL:ah (gV s N cs (N+1) [] G=(M,⟨tp,tb⟩)):=hF.trans (AQ s N cs f M _ k2);have o5:¬(M.length:Int)<(N:Int):=by omega
        have p1:=A.1.free 2;clear hF e2;cases tb
        ·by_cases g3:M.length=N
         ·have g2:0<M.length:=by omega
          obtain⟨g9,rfl,k5,_⟩:=g1 g2;obtain⟨a,ha⟩:∃a,a=a0+257:=⟨_,rfl⟩;have x1:((a0:Int)+257)=(a:Int):=by omega
          have HA:ah _:=ha;have l0:=Yn a2 a (by omega);have p2:=Yo a2 a (by omega);have p3:=gU _ 15 (fun x hx=>S x (List.mem_of_mem_take hx):∀x∈M.take a,x<=15);have p4:=gU _ 15 (fun x hx=>S x (List.mem_of_mem_drop hx):∀x∈M.drop a,x<=15);have e8:(M.take a).length<=400:=by rw[jl];omega
          have l1:(M.drop a).length<=400:=by rw[iI];omega
          have u5:((M.length:Int) !=(N:Int))=false:=by rw[bn];omega
          have p5:ah _:=g3;clear g3 ha g1;go_wp2_with fail
          refine(wH (M.take a) _ _ l0 e8 p3).mono ?_;rintro e wA ⟨va,rfl,s7,d4⟩;have l3:=A.below d4;have p6:=d2.trans (mY (rb:=rb) (ub:=ub) A.2.2.2.2.1 d4);have i2:=jZ.below l0 d4;have e9:=jZ.below p2 d4;have f0:=Ir a2 (fun k cur e=>d4.block k (rJ e));clear l0 p2 a2 A d2 d4 s7 r9 p1;go_wp2_with fail
          refine(wH (M.drop a) _ _ e9 l1 p4).mono ?_;rintro e wB ⟨vb,rfl,s8,d5⟩;have f1:=l3.below d5;have p7:=p6.trans (mY (rb:=rb) (ub:=ub) l3.2.2.2.2.1 d5);have c6:=jZ.below i2 d5;have i3:=jZ.below e9 d5;have f2:=Ir f0 (fun k cur e=>d5.block k (rJ e));have u6:=abo f2 256 (by have:=HA.out;omega);have HW:ah (rO a M=(M.getD 256 0==0||((bJ (M.take a)).nZ !=32768&& !(((bJ (M.take a)).nZ==16384&&M.getD 256 0==1)&&sD (M.take a)))||((bJ (M.drop a)).nZ !=32768&& !((bJ (M.drop a)).nZ==0||((bJ (M.drop a)).nZ==16384&&sD (M.drop a)))))):=(rfl:_=_);have f3:ah (rO a M=true->T=⟨⟨tp,true⟩,out⟩):=fun h=>by rw[a3.out,HL.out];exact Gg s aN most _ _ out M ⟨tp,false⟩ rfl (by rw[p5.out,HN.out]) (by rw[<-HA.out];exact h)
          have f4:ah (rO a M=false->T=gm s aN most (bJ (M.take a)).cs (bJ (M.drop a)).cs (8*s.size+1) ⟨⟨tp,false⟩,out⟩):=fun h=>by rw[a3.out,HL.out];have h2:=Vw s aN most (a0+257) (b0+1) out M ⟨tp,false⟩ rfl (by rw[p5.out,HN.out]) (by rw[<-HA.out];exact h);rw[<-HA.out]at h2;rw[<-HA.out];exact h2
          obtain⟨wg,j4⟩:∃b,b=rO a M:=⟨_,rfl⟩;rw[<-j4]at HW f3 f4;clear j4 a3 HL f0 i2 e9 l3 p6 s8 d5 f2;generalize (bJ (M.take a)).nZ=x at*;generalize (bJ (M.drop a)).nZ=y at*;generalize M.getD 256 0=v6 at*;obtain⟨sx,l4⟩:∃b,b=sD (M.take a):=⟨_,rfl⟩;obtain⟨sy,f5⟩:∃b,b=sD (M.drop a):=⟨_,rfl⟩;rw[<-l4,<-f5]at HW;have l5:ah _:=l4;have s9:ah _:=f5;clear l4 f5;obtain⟨lo,l6⟩:∃b:Bool,b=(x==16384&&v6==1):=⟨_,rfl⟩;obtain⟨no,l7⟩:∃b:Bool,b=(y==0||(y==16384&&sy)):=⟨_,rfl⟩;rw[<-l6,<-l7]at HW;have d6:ah _:=l6;have d7:ah _:=l7;clear l6 l7;have x2:=f1.1.c2;have x3:=f1.1.free 2;go_upto_region 40 with fail
          go_cut [20] (fun v wx=>v= .bool lo/\wx=wB)
          case first=>
           as_aux_lemma=>
            by_cases hx:x=16384
            ·have l8:((x:Int)==16384)=true:=by rw[iV];omega
             by_cases hv:v6=1
             ·have l9:((v6:Int)==1)=true:=by rw[iV];omega
              have H:ah (lo=true):=(by rw[d6.out,hx,hv];rfl:_=_);clear hx hv;go_wp2
              go_meet
              case rel=>exact⟨by rw[H.out],rfl⟩
             ·have l9:((v6:Int)==1)=false:=by rw[ax];omega
              have H:ah (lo=false):=(by rw[d6.out,beq_eq_false_iff_ne.2 hv,Bool.and_false]:_=_);clear hx hv;go_wp2
              go_meet
              case rel=>exact⟨by rw[H.out],rfl⟩
            ·have l8:((x:Int)==16384)=false:=by rw[ax];omega
             have H:ah (lo=false):=(by rw[d6.out,beq_eq_false_iff_ne.2 hx,Bool.false_and]:_=_);clear hx;go_wp2
             go_meet
             case rel=>exact⟨by rw[H.out],rfl⟩
          case rest=>
           obtain⟨rfl,a1⟩:=hcut;have a1:=a1.symm;subst a1;go_upto_region 41 with fail
           go_cut [21] (fun v wx=>v= .bool no/\wx=wB)
           case first=>
            as_aux_lemma=>
             by_cases f6:y=0
             ·have f7:((y:Int)==0)=true:=by rw[iV];omega
              have H:ah (no=true):=(by rw[d7.out,f6];rfl:_=_);clear f6;go_wp2
              go_meet
              case rel=>exact⟨by rw[H.out],rfl⟩
             ·have f7:((y:Int)==0)=false:=by rw[ax];omega
              by_cases g4:y=16384
              ·have t0:((y:Int)==16384)=true:=by rw[iV];omega
               have H:ah (no=sy):=(by rw[d7.out,g4];simp:_=_);clear f6 g4;go_wp2_with (go_at_call 120;refine(sK (M.drop a) _ _ i3 l1).mono ?_;rw[<-s9.out];rintro e wz ⟨rfl,rfl⟩)
               go_meet
               case rel=>exact⟨by rw[H.out],rfl⟩
              ·have t0:((y:Int)==16384)=false:=by rw[ax];omega
               have H:ah (no=false):=(by rw[d7.out,beq_eq_false_iff_ne.2 f6,beq_eq_false_iff_ne.2 g4];rfl:_=_);clear f6 g4;go_wp2
               go_meet
               case rel=>exact⟨by rw[H.out],rfl⟩
           case rest=>
            obtain⟨rfl,a1⟩:=hcut;have a1:=a1.symm;subst a1;go_upto_region 42 with fail
            go_cut [197] (fun v wx=>v= .bool wg/\wx=wB)
            case first=>
             as_aux_lemma=>
              have b4:ah (v6=0->wg=true):=fun h=>by rw[HW.out,h];rfl
              have a7:ah (v6≠0->(x=32768\/(lo=true/\sx=true))->wg=(y !=32768&& !no)):=fun h h2=>by
               rw[HW.out,beq_eq_false_iff_ne.2 h];rcases h2 with h2|⟨h2,h3⟩
               ·rw[h2];rfl
               ·rw[h2,h3];simp
              have Q:ah (v6≠0->x≠32768->(lo=false\/sx=false)->wg=true):=fun h h2 h3=>by rw[HW.out,beq_eq_false_iff_ne.2 h,bne_iff_ne.2 h2];rcases h3 with h3|h3<;>rw[h3]<;>simp
              have a8:ah (y=32768->(y !=32768&& !no)=false):=fun h=>by rw[h];rfl
              have a9:ah (y≠32768->(y !=32768&& !no)= !no):=fun h=>by rw[bne_iff_ne.2 h];rfl
              clear HW d6 d7 f3 f4;by_cases hv:v6=0
              ·have l9:((v6:Int)==0)=true:=by rw[iV];omega
               have H:ah _:=b4.out hv;clear hv b4 a7 Q a8 a9;go_wp2
               go_meet
               case rel=>exact⟨by rw[H.out],rfl⟩
              ·have l9:((v6:Int)==0)=false:=by rw[ax];omega
               by_cases hx:x=32768
               ·have l8:((x:Int) !=32768)=false:=by rw[bn];omega
                have H:ah _:=a7.out hv (Or.inl hx);by_cases hy:y=32768
                ·have f7:((y:Int) !=32768)=false:=by rw[bn];omega
                 have HJ:ah (wg=false):=H.out.trans (a8.out hy);clear hv hx hy b4 a7 Q a8 a9 H;go_wp2
                 go_meet
                 case rel=>exact⟨by rw[HJ.out],rfl⟩
                ·have f7:((y:Int) !=32768)=true:=by rw[dG];omega
                 have HJ:ah (wg= !no):=H.out.trans (a9.out hy);clear hv hx hy b4 a7 Q a8 a9 H;go_wp2
                 go_meet
                 case rel=>exact⟨by rw[HJ.out],rfl⟩
               ·have l8:((x:Int) !=32768)=true:=by rw[dG];omega
                cases lo
                ·have HJ:ah (wg=true):=Q.out hv hx (Or.inl rfl);clear hv hx b4 a7 Q a8 a9;go_wp2
                 go_meet
                 case rel=>exact⟨by rw[HJ.out],rfl⟩
                ·cases sx
                 ·have HJ:ah (wg=true):=Q.out hv hx (Or.inr rfl);clear hv hx b4 a7 Q a8 a9;go_wp2_with (go_at_call 120;refine(sK (M.take a) _ _ c6 e8).mono ?_;rw[<-l5.out];rintro e wz ⟨rfl,rfl⟩)
                  go_meet
                  case rel=>exact⟨by rw[HJ.out],rfl⟩
                 ·have H:ah _:=a7.out hv (Or.inr ⟨rfl,rfl⟩);by_cases hy:y=32768
                  ·have f7:((y:Int) !=32768)=false:=by rw[bn];omega
                   have HJ:ah (wg=false):=H.out.trans (a8.out hy);clear hv hx hy b4 a7 Q a8 a9 H;go_wp2_with (go_at_call 120;refine(sK (M.take a) _ _ c6 e8).mono ?_;rw[<-l5.out];rintro e wz ⟨rfl,rfl⟩)
                   go_meet
                   case rel=>exact⟨by rw[HJ.out],rfl⟩
                  ·have f7:((y:Int) !=32768)=true:=by rw[dG];omega
                   have HJ:ah (wg= !no):=H.out.trans (a9.out hy);clear hv hx hy b4 a7 Q a8 a9 H;go_wp2_with (go_at_call 120;refine(sK (M.take a) _ _ c6 e8).mono ?_;rw[<-l5.out];rintro e wz ⟨rfl,rfl⟩)
                   go_meet
                   case rel=>exact⟨by rw[HJ.out],rfl⟩
            case rest=>
             obtain⟨rfl,a1⟩:=hcut;have a1:=a1.symm;subst a1;cases wg
             ·have HZ:ah _:=f4.out rfl;clear f3 f4 HW d6 d7;go_wp2_with fail
              go_region_with (go_at_call 81;refine(zo base rb ub s aN most ⟨⟨tp,false⟩,out⟩ (M.take a) (M.drop a) _ _ _ (by exact f1) hs hm m3 (by exact c6) (by exact i3) e8 l1 p3 p4).mono ?_;rintro e wz ⟨rfl,m0,b5⟩)
              all_goals
               have p8:nO base rb ub wB wz:=⟨b5.os,b5.tape,b5.output,b5.size,b5.low,b5.other⟩;go_wp2
               go_end0
               exact⟨rfl,by rw[<-d8.out,HZ.out];exact m0,p7.trans p8⟩
             ·have HZ:ah _:=f3.out rfl;clear f3 f4 HW d6 d7;go_wp2
              refine aI (results_none rfl _ _ _) rfl ?_;exact⟨rfl,by rw[<-d8.out,HZ.out];exact f1.row ((kH.refl rb wB).setCell 2 _) _ (f1.1.vk true),p7.set rb 2 (.inl rfl) _⟩
         ·have e7:ah (T=⟨⟨tp,true⟩,out⟩):=(by rw[a3.out,HL.out];exact BU s aN most _ _ out M ⟨tp,false⟩ (Or.inr (by rw[<-HN.out];exact g3)):_=_);have x4:((M.length:Int) !=(N:Int))=true:=by rw[dG];omega
          clear HL a3 g3;go_wp2
          refine aI (results_none rfl _ _ _) rfl ?_;exact⟨rfl,by rw[<-d8.out,e7.out];exact A.row ((kH.refl rb wr).setCell 2 _) _ (A.1.vk true),d2.set rb 2 (.inl rfl) _⟩
        ·have e7:ah (T=⟨⟨tp,true⟩,out⟩):=(by rw[a3.out,HL.out];exact BU s aN most _ _ out M ⟨tp,true⟩ (Or.inl rfl):_=_);clear HL a3;go_wp2
         refine aI (results_none rfl _ _ _) rfl ?_;exact⟨rfl,by rw[<-d8.out,e7.out];exact A.row ((kH.refl rb wr).setCell 2 _) _ (A.1.vk true),d2.set rb 2 (.inl rfl) _⟩
    |succ j=>
     as_aux_lemma=>
      have o0:k<n0+4:=by omega
      have p9:k<order.length:=by show k<19;omega
      have HS:ah (lX s (n0+4) 0 e0 d9=lX s j (k+1) (L.set (order.getD k 0) (bI s 3 t).1) (bI s 3 t).2/\k+1+j=n0+4):=(⟨hS,by omega⟩:_/\_);have t1:=f8.cell k p9;have x5:=abp k;have t2:=d0.cell (order.getD k 0) (by omega);have t3:=d0.free (order.getD k 0);have q0:=b8.ne f8 (by decide) (by decide);have m1:=b8.ne d0 (by decide) (by decide);clear hS n9;generalize q1:order.getD k 0=o at*;clear q1;go_wp2_with fail
      go_region_with (go_at_call 79;refine(gu rb s t 3 _ rfl _ (by exact b8.1) hs (by omega)).mono ?_;rintro e wz ⟨rfl,q2,b1⟩;have t4:=(World.cell?_of_block (a:=⟨gO,k,none⟩) (b1.block gO q0.1)).trans t1;have t5:=(World.cell?_of_block (a:=⟨gO+1,o,none⟩) (b1.block (gO+1) m1.1)).trans t2;have t6:=(World.frozen?_of_block (a:=⟨gO+1,o,none⟩) (b1.block (gO+1) m1.1)).trans t3)
      all_goals
       have c7:kH rb wr wz:=⟨b1.os,b1.tape,b1.output,b1.size,b1.block⟩;have m2:=d0.over (c7.block _ m1.1);have m0:=(b8.row c7 _ q2).same (abm m2 o (.int .i64 (((bI s 3 t).1:Nat):Int)));have b5:=(j6.trans (c7.vw (base:=base) (ub:=ub))).eF b7 (show w.heap.size<=gO+1 by omega) o (.int .i64 (((bI s 3 t).1:Nat):Int));have q3:=(f8.over (c7.block _ q0.1)).over (iy wz ⟨gO+1,o,none⟩ (.int .i64 (((bI s 3 t).1:Nat):Int)) gO (by show gO≠gO+1;omega));have q4:=m2.set o (bI s 3 t).1 (.int .i64 (((bI s 3 t).1:Nat):Int)) rfl;clear t4 t5 t6 q2 b1 m2;go_wp2
       go_roundw
       case rel=>exact⟨k+1,j,_,_,HS.out.2,HS.out.1,by simpa using e1,by go_num,m0,b5,q3,q4⟩
       case measure=>simp[aX];omega
end kW
end Go.Proofs.YtephkcdbnogdhaaGreatDoor
