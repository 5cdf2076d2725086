import Derived.Test.YtephkcdbnogdhaaGreatDoorM25
set_option linter.unusedVariables false
set_option maxHeartbeats 40000000
set_option maxRecDepth 10000
namespace Go.Proofs.YtephkcdbnogdhaaGreatDoor
open Go.Proofs.Tryz
open Go renaming World->af,Value->ay,Calls->aF
open Go.RowKit renaming Hid->ah,Below->aJ
namespace Pr
open Go.RowKit Rf Cr
theorem XZ{w w3 c:af}{rb bits pt y told m at' f d g7 g8:Nat}{pv i a b v7 v8:ay}{Z:List Nat}(h:w.heap[rb]?=some (dN bits pv i pt y told m a b at' f))(j:aJ w.heap.size w w3)(n:aJ w3.heap.size w3 c)(hK:g7≠g8/\w3.heap.size<=g7/\w3.heap.size<=g8/\jL c g7 Z/\jL c g8 Z):
 g7≠g8/\w.heap.size<=g7/\w.heap.size<=g8/\
  (((((c.setCell ⟨rb,6,none⟩ (.int .i64 (d:Int))).setCell ⟨rb,7,none⟩ v7).setCell ⟨rb,8,none⟩ v8).setCell ⟨rb,9,none⟩ (.int .i64 0)).setCell ⟨rb,10,none⟩ (.int .u8 0)).heap[rb]?=some (dN bits pv i pt y told d v7 v8 0 0)/\
  jL (((((c.setCell ⟨rb,6,none⟩ (.int .i64 (d:Int))).setCell ⟨rb,7,none⟩ v7).setCell ⟨rb,8,none⟩ v8).setCell ⟨rb,9,none⟩ (.int .i64 0)).setCell ⟨rb,10,none⟩ (.int .u8 0)) g7 Z/\
  jL (((((c.setCell ⟨rb,6,none⟩ (.int .i64 (d:Int))).setCell ⟨rb,7,none⟩ v7).setCell ⟨rb,8,none⟩ v8).setCell ⟨rb,9,none⟩ (.int .i64 0)).setCell ⟨rb,10,none⟩ (.int .u8 0)) g8 Z/\
  Fr (fun k=>k=rb) w (((((c.setCell ⟨rb,6,none⟩ (.int .i64 (d:Int))).setCell ⟨rb,7,none⟩ v7).setCell ⟨rb,8,none⟩ v8).setCell ⟨rb,9,none⟩ (.int .i64 0)).setCell ⟨rb,10,none⟩ (.int .u8 0)):=by
 obtain⟨o,t,h3,p,q⟩:=hK;have hs:=j.size;have r:=ai h;have l:c.heap[rb]?=some (dN bits pv i pt y told m a b at' f):=((n.block rb (by omega)).trans (j.block rb r)).trans h;have e:g7≠rb:=by omega
 have g:g8≠rb:=by omega
 have s:Fr (fun k=>k=rb) w c:=(Fr.kJ j).trans (Fr.kJ n);refine⟨o,by omega,by omega,?_,?_,?_,s.trans (rC.trans (rC.trans (rC.trans (rC.trans rC))))⟩
 ·exact(bG (bG (bG (bG (rV l 6 _) 7 _) 8 _) 9 _) 10 _).trans (by simp[dN])
 ·exact p.over ((aB _ _ e).trans ((aB _ _ e).trans ((aB _ _ e).trans ((aB _ _ e).trans (aB _ _ e)))))
 ·exact q.over ((aB _ _ g).trans ((aB _ _ g).trans ((aB _ _ g).trans ((aB _ _ g).trans (aB _ _ g)))))
theorem Js(rb bits pt y told S at' f base:Nat)(pv T a b:ay)(ps:List lC)(t:lC)(w:af)(h:w.heap[rb]?=some (dN bits pv T pt y told S a b at' f))(hp:w.ownsRow base 301 6 pv ps.length (dn ps))(U:ps[pt]?=some t)(hl:ps.length<=100)(hb:bits<=64)(hW:t.W<=1048576):
 aF prog 188 #[.pointer (some ⟨rb,0,none⟩)] w fun e w'=>e= .returned (.tuple #[])/\∃g7 g8,g7≠g8/\w.heap.size<=g7/\w.heap.size<=g8/\
  w'.heap[rb]?=some (dN bits pv T pt y told (aQ bits) (.slice (some ⟨g7,0,none⟩) (aQ bits+bY bits t.W) (aQ bits+bY bits t.W)) (.slice (some ⟨g8,0,none⟩) (aQ bits+bY bits t.W) (aQ bits+bY bits t.W)) 0 0)/\jL w' g7 (List.replicate (aQ bits+bY bits t.W) 0)/\jL w' g8 (List.replicate (aQ bits+bY bits t.W) 0)/\Fr (fun k=>k=rb) w w':=by
 have a5:pt<ps.length:=(List.getElem?_eq_some_iff.1 U).1;obtain⟨g,cap,rfl,V,n⟩:=jR hp pt t U;have D:=ai h;have J:=n 0 (by omega);have K:=n 1 (by omega);have L:=n 2 (by omega);have M:=n 3 (by omega);have N:=n 4 (by omega);have O:=n 5 (by omega);have a8:g≠rb:=fun e=>by
  rcases hp.2 with⟨P,_⟩|⟨p,a6,cur,P,_,hg,_⟩
  ·simp at P
  ·simp at P;rw[<-P.1,e,h]at hg;simp[dN]at hg
 obtain⟨X,z,ty,A,q,Y⟩:=t;have Z:q<=1048576:=hW;simp only[fD]at J K L M N O;simp at J K L M N O;have c0:w.cell? ⟨rb,0,none⟩=some (.int .i64 (bits:Int)):=by simpa [dN]using(cell_of h 0).1
 have c1:w.cell? ⟨rb,1,none⟩=some (.slice (some ⟨g,0,none⟩) ps.length cap):=by simpa [dN]using(cell_of h 1).1
 have c3:w.cell? ⟨rb,3,none⟩=some (.int .i64 (pt:Int)):=by simpa [dN]using(cell_of h 3).1
 have hs:bY bits q<=900000000:=by have:q*bits<=1048576*64:=bT hW hb;unfold bY;omega
 have B:=fun w' (r:rb<w'.heap.size) (cc:w'.cell? ⟨rb,0,none⟩=some (.int .i64 (bits:Int)))=>EG rb bits X z ty A q Y w' r cc hb (by omega);have u:=fun w'=>PT (bY bits q) (aQ bits) w' hs (by unfold aQ;omega);unfold yX at B;have v:∀w',rb<w'.heap.size->w'.cell? ⟨rb,0,none⟩=some (.int .i64 (bits:Int))->aF prog 190 #[.pointer (some ⟨rb,0,none⟩),.agg #[.int .i64 (X:Int),.int .i64 (z:Int),.int .i64 (ty:Int),.int .i64 (A:Int),.int .i64 (q:Int),.int .i64 (Y:Int)]] w' fun e j=>e= .returned (.int .i64 ((bY bits q:Nat):Int))/\aJ w'.heap.size w' j:=B;have v1:IntKind.i64.wrap ((bits:Int)/8)=(bits:Int)/8:=by rw[bK];omega
 have a7:(if 1<IntKind.i64.wrap ((bits:Int)/8)then IntKind.i64.wrap ((bits:Int)/8)else 1)=(aQ bits:Int):=by rw[v1];unfold aQ;split<;>omega
 clear v1;dsimp only;generalize a0:bY bits q=R at*;generalize uJ:aQ bits=d at*;generalize ps.length=m at*;have a1:ah _:=v;have E:ah _:=u;have HB:ah _:=h;clear B v u n hp U a0 uJ h;have a9:(pt:Int)<(m:Int):=by omega
 have x:ah (∀w',aF prog 215 #[.int .i64 (R:Int),.int .i64 (d:Int)] w' fun e j=> ∃g p,e= .returned (.agg #[.int .i64 (d:Int),.slice (some ⟨g,0,none⟩) (d+R) (d+R),.slice (some ⟨p,0,none⟩) (d+R) (d+R),.int .i64 0,.int .u8 0])/\g≠p/\w'.heap.size<=g/\w'.heap.size<=p/\jL j g (List.replicate (d+R) 0)/\jL j p (List.replicate (d+R) 0)/\aJ w'.heap.size w' j):=E;clear E;have F:ah (∀w',aF prog 215 #[.int .i64 (R:Int),.int .i64 (d:Int)] w' fun e j=> ∃g p,e= .returned (.agg #[.int .i64 (d:Int),.slice (some ⟨g,0,none⟩) (d+R) (d+R),.slice (some ⟨p,0,none⟩) (d+R) (d+R),.int .i64 0,.int .u8 0])/\ah (g≠p/\w'.heap.size<=g/\w'.heap.size<=p/\jL j g (List.replicate (d+R) 0)/\jL j p (List.replicate (d+R) 0))/\aJ w'.heap.size w' j):=(fun w'=>(x.out w').mono (fun e j ⟨g,p,h1,h2,h3,h4,h5,h6,h7⟩=>⟨g,p,h1,⟨h2,h3,h4,h5,h6⟩,h7⟩):∀w',_);clear x;go_enter func188,ntmps188
 go_wp2_with fail
 go_quiet (fail)
 go_wp2_with fail
 obtain⟨l,c⟩:∃l,l=w.drewN nq:=⟨_,rfl⟩;rw[<-c];have k0:l.cell? ⟨rb,0,none⟩=some (.int .i64 (bits:Int)):=by rw[c];exact c0
 have k1:l.cell? ⟨rb,1,none⟩=some (.slice (some ⟨g,0,none⟩) m cap):=by rw[c];exact c1
 have k3:l.cell? ⟨rb,3,none⟩=some (.int .i64 (pt:Int)):=by rw[c];exact c3
 have r0:l.cell? ⟨g,pt*6,none⟩=some (.int .i64 (X:Int)):=by rw[c];exact J
 have r1:l.cell? ⟨g,pt*6+1,none⟩=some (.int .i64 (z:Int)):=by rw[c];exact K
 have r2:l.cell? ⟨g,pt*6+2,none⟩=some (.int .i64 (ty:Int)):=by rw[c];exact L
 have r3:l.cell? ⟨g,pt*6+3,none⟩=some (.int .i64 (A:Int)):=by rw[c];exact M
 have r4:l.cell? ⟨g,pt*6+4,none⟩=some (.int .i64 (q:Int)):=by rw[c];exact N
 have r5:l.cell? ⟨g,pt*6+5,none⟩=some (.int .i64 (Y:Int)):=by rw[c];exact O
 have z1:rb<l.heap.size:=by rw[c];exact D
 have G:ah _:=c;clear c c0 c1 c3 J K L M N O D V;have a2:ah (l.heap[rb]?=some (dN bits (.slice (some ⟨g,0,none⟩) m cap) T pt y told S a b at' f)):=(by rw[G.out];exact HB.out:_=_);have H:ah (∀w':af,(∀k,k<l.heap.size->w'.heap[k]?=l.heap[k]?)->l.heap.size<=w'.heap.size->w'.cell? ⟨rb,0,none⟩=some (.int .i64 (bits:Int))/\(∀i,w'.frozen? ⟨rb,i,none⟩=false)/\w'.cell? ⟨rb,6,none⟩=some (.int .i64 (S:Int))/\w'.cell? ⟨rb,7,none⟩=some a/\w'.cell? ⟨rb,8,none⟩=some b/\w'.cell? ⟨rb,9,none⟩=some (.int .i64 (at':Int))/\w'.cell? ⟨rb,10,none⟩=some (.int .u8 (f:Int))):=(fun w' e C=>by have r:=(e rb z1).trans a2.out;exact⟨by simpa [dN]using(cell_of r 0).1,fun i=>(cell_of r i).2,by simpa [dN]using(cell_of r 6).1,by simpa [dN]using(cell_of r 7).1,by simpa [dN]using(cell_of r 8).1,by simpa [dN]using(cell_of r 9).1,by simpa [dN]using(cell_of r 10).1⟩:∀w',_)
 clear hb hW Z hs hl
 go_region_with (first
  |(go_at_call 190;refine(a1.out (World.drew l) z1 k0).mono ?_;rintro e w3 ⟨rfl,o⟩;obtain⟨x0,xf,x6,x7,x8,x9,a3⟩:=H.out w3 (fun k Q=>o.block k Q) o.size)
  |(go_at_call 215;refine(F.out _).mono ?_;rintro e w4 ⟨g7,g8,rfl,HK,s⟩;obtain⟨y0,yf,y6,y7,y8,y9,a4⟩:=H.out w4 (fun k Q=>(s.block k (bu Q o.size)).trans (o.block k Q)) (aK o.size s.size)))
 all_goals
  have hA:aJ w.heap.size w w3:=by have C:=o;rw[G.out]at C;exact⟨C.os,C.tape,C.output,C.size,C.block⟩
  have I:ah _:=XZ (d:=d) (v7:= .slice (some ⟨g7,0,none⟩) (d+R) (d+R)) (v8:= .slice (some ⟨g8,0,none⟩) (d+R) (d+R)) HB.out hA s HK.out;clear x0 xf x6 x7 x8 x9 a3 y0 yf y6 y7 y8 y9 a4 hA o s HK;go_wp2_with fail
  go_end0
  exact⟨rfl,g7,g8,I.out⟩
theorem QH:y_:=Js
end Pr
end Go.Proofs.YtephkcdbnogdhaaGreatDoor
