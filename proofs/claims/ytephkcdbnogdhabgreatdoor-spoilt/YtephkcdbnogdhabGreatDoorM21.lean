import Derived.Test.YtephkcdbnogdhabGreatDoorM18
set_option linter.unusedVariables false
set_option maxHeartbeats 40000000
set_option maxRecDepth 10000
namespace Go.Proofs.YtephkcdbnogdhabGreatDoor
open Go.Proofs.Tryz
open Go renaming World->af,Value->ay,Calls->aH
open Go.RowKit renaming Hid->au,Below->aA
namespace Pr
open Go.RowKit Rf Cr
theorem Vl{w w3 c:af}{rb bits pt y told m at' f d g7 g8:Nat}{pv i a b v7 v8:ay}{Z:List Nat}(h:w.heap[rb]?=some (dH bits pv i pt y told m a b at' f))(j:aA w.heap.size w w3)(n:aA w3.heap.size w3 c)(hK:g7≠g8/\w3.heap.size<=g7/\w3.heap.size<=g8/\jb c g7 Z/\jb c g8 Z):
 g7≠g8/\w.heap.size<=g7/\w.heap.size<=g8/\
  (((((c.setCell ⟨rb,6,none⟩ (.int .i64 (d:Int))).setCell ⟨rb,7,none⟩ v7).setCell ⟨rb,8,none⟩ v8).setCell ⟨rb,9,none⟩ (.int .i64 0)).setCell ⟨rb,10,none⟩ (.int .u8 0)).heap[rb]?=some (dH bits pv i pt y told d v7 v8 0 0)/\
  jb (((((c.setCell ⟨rb,6,none⟩ (.int .i64 (d:Int))).setCell ⟨rb,7,none⟩ v7).setCell ⟨rb,8,none⟩ v8).setCell ⟨rb,9,none⟩ (.int .i64 0)).setCell ⟨rb,10,none⟩ (.int .u8 0)) g7 Z/\
  jb (((((c.setCell ⟨rb,6,none⟩ (.int .i64 (d:Int))).setCell ⟨rb,7,none⟩ v7).setCell ⟨rb,8,none⟩ v8).setCell ⟨rb,9,none⟩ (.int .i64 0)).setCell ⟨rb,10,none⟩ (.int .u8 0)) g8 Z/\
  Fr (fun k=>k=rb) w (((((c.setCell ⟨rb,6,none⟩ (.int .i64 (d:Int))).setCell ⟨rb,7,none⟩ v7).setCell ⟨rb,8,none⟩ v8).setCell ⟨rb,9,none⟩ (.int .i64 0)).setCell ⟨rb,10,none⟩ (.int .u8 0)):=by
 obtain⟨h1,h2,s,o,p⟩:=hK;have t:=j.size;have q:=ak h;have l:c.heap[rb]?=some (dH bits pv i pt y told m a b at' f):=((n.block rb (by omega)).trans (j.block rb q)).trans h;have e:g7≠rb:=by omega
 have g:g8≠rb:=by omega
 have r:Fr (fun k=>k=rb) w c:=(Fr.jI j).trans (Fr.jI n);refine⟨h1,by omega,by omega,?_,?_,?_,r.trans (ql.trans (ql.trans (ql.trans (ql.trans ql))))⟩
 ·exact(bF (bF (bF (bF (qG l 6 _) 7 _) 8 _) 9 _) 10 _).trans (by simp[dH])
 ·exact o.over ((aC _ _ e).trans ((aC _ _ e).trans ((aC _ _ e).trans ((aC _ _ e).trans (aC _ _ e)))))
 ·exact p.over ((aC _ _ g).trans ((aC _ _ g).trans ((aC _ _ g).trans ((aC _ _ g).trans (aC _ _ g)))))
theorem Hq(rb bits pt y told S at' f base:Nat)(pv T a b:ay)(ps:List jX)(t:jX)(w:af)(h:w.heap[rb]?=some (dH bits pv T pt y told S a b at' f))(hp:w.ownsRow base 188 6 pv ps.length (bV ps))(U:ps[pt]?=some t)(hl:ps.length<=100)(hb:bits<=64)(hW:t.W<=1048576):
 aH prog 93 #[.pointer (some ⟨rb,0,none⟩)] w fun e w'=>e= .returned (.tuple #[])/\∃g7 g8,g7≠g8/\w.heap.size<=g7/\w.heap.size<=g8/\
  w'.heap[rb]?=some (dH bits pv T pt y told (aJ bits) (.slice (some ⟨g7,0,none⟩) (aJ bits+bJ bits t.W) (aJ bits+bJ bits t.W)) (.slice (some ⟨g8,0,none⟩) (aJ bits+bJ bits t.W) (aJ bits+bJ bits t.W)) 0 0)/\jb w' g7 (List.replicate (aJ bits+bJ bits t.W) 0)/\jb w' g8 (List.replicate (aJ bits+bJ bits t.W) 0)/\Fr (fun k=>k=rb) w w':=by
 have a6:pt<ps.length:=(List.getElem?_eq_some_iff.1 U).1;obtain⟨g,cap,rfl,V,n⟩:=jf hp pt t U;have D:=ak h;have J:=n 0 (by omega);have K:=n 1 (by omega);have L:=n 2 (by omega);have M:=n 3 (by omega);have N:=n 4 (by omega);have O:=n 5 (by omega);have a9:g≠rb:=fun e=>by
  rcases hp.2 with⟨P,_⟩|⟨p,a7,cur,P,_,hg,_⟩
  ·simp at P
  ·simp at P;rw[<-P.1,e,h]at hg;simp[dH]at hg
 obtain⟨X,z,ty,A,q,Y⟩:=t;have Z:q<=1048576:=hW;simp only[lQ]at J K L M N O;simp at J K L M N O;have c0:w.cell? ⟨rb,0,none⟩=some (.int .i64 (bits:Int)):=by simpa [dH]using(cell_of h 0).1
 have c1:w.cell? ⟨rb,1,none⟩=some (.slice (some ⟨g,0,none⟩) ps.length cap):=by simpa [dH]using(cell_of h 1).1
 have c3:w.cell? ⟨rb,3,none⟩=some (.int .i64 (pt:Int)):=by simpa [dH]using(cell_of h 3).1
 have hs:bJ bits q<=900000000:=by have:q*bits<=1048576*64:=bD hW hb;unfold bJ;omega
 have B:=fun w' (r:rb<w'.heap.size) (cc:w'.cell? ⟨rb,0,none⟩=some (.int .i64 (bits:Int)))=>Dz rb bits X z ty A q Y w' r cc hb (by omega);have u:=fun w'=>MP (bJ bits q) (aJ bits) w' hs (by unfold aJ;omega);unfold xQ at B;have v:∀w',rb<w'.heap.size->w'.cell? ⟨rb,0,none⟩=some (.int .i64 (bits:Int))->aH prog 98 #[.pointer (some ⟨rb,0,none⟩),.agg #[.int .i64 (X:Int),.int .i64 (z:Int),.int .i64 (ty:Int),.int .i64 (A:Int),.int .i64 (q:Int),.int .i64 (Y:Int)]] w' fun e j=>e= .returned (.int .i64 ((bJ bits q:Nat):Int))/\aA w'.heap.size w' j:=B;have v1:IntKind.i64.wrap ((bits:Int)/8)=(bits:Int)/8:=by rw[eY];omega
 have a8:(if 1<IntKind.i64.wrap ((bits:Int)/8)then IntKind.i64.wrap ((bits:Int)/8)else 1)=(aJ bits:Int):=by rw[v1];unfold aJ;split<;>omega
 clear v1;dsimp only;generalize a0:bJ bits q=R at*;generalize a1:aJ bits=d at*;generalize ps.length=m at*;have a2:au _:=v;have E:au _:=u;have HB:au _:=h;clear B v u n hp U a0 a1 h;have b0:(pt:Int)<(m:Int):=by omega
 have x:au (∀w',aH prog 112 #[.int .i64 (R:Int),.int .i64 (d:Int)] w' fun e j=> ∃g p,e= .returned (.agg #[.int .i64 (d:Int),.slice (some ⟨g,0,none⟩) (d+R) (d+R),.slice (some ⟨p,0,none⟩) (d+R) (d+R),.int .i64 0,.int .u8 0])/\g≠p/\w'.heap.size<=g/\w'.heap.size<=p/\jb j g (List.replicate (d+R) 0)/\jb j p (List.replicate (d+R) 0)/\aA w'.heap.size w' j):=E;clear E;have F:au (∀w',aH prog 112 #[.int .i64 (R:Int),.int .i64 (d:Int)] w' fun e j=> ∃g p,e= .returned (.agg #[.int .i64 (d:Int),.slice (some ⟨g,0,none⟩) (d+R) (d+R),.slice (some ⟨p,0,none⟩) (d+R) (d+R),.int .i64 0,.int .u8 0])/\au (g≠p/\w'.heap.size<=g/\w'.heap.size<=p/\jb j g (List.replicate (d+R) 0)/\jb j p (List.replicate (d+R) 0))/\aA w'.heap.size w' j):=(fun w'=>(x.out w').mono (fun e j ⟨g,p,h1,h2,h3,h4,h5,h6,h7⟩=>⟨g,p,h1,⟨h2,h3,h4,h5,h6⟩,h7⟩):∀w',_);clear x;go_enter func93,ntmps93
 go_wp2_with fail
 go_quiet (fail)
 go_wp2_with fail
 obtain⟨l,c⟩:∃l,l=w.drewN nq:=⟨_,rfl⟩;rw[<-c];have k0:l.cell? ⟨rb,0,none⟩=some (.int .i64 (bits:Int)):=by rw[c];exact c0
 have k1:l.cell? ⟨rb,1,none⟩=some (.slice (some ⟨g,0,none⟩) m cap):=by rw[c];exact c1
 have k3:l.cell? ⟨rb,3,none⟩=some (.int .i64 (pt:Int)):=by rw[c];exact c3
 have r0:l.cell? ⟨g,pt*6,none⟩=some (.int .i64 (X:Int)):=by rw[c];exact J
 have r1:l.cell? ⟨g,pt*6+1,none⟩=some (.int .i64 (z:Int)):=by rw[c];exact K
 have r2:l.cell? ⟨g,pt*6+2,none⟩=some (.int .i64 (ty:Int)):=by rw[c];exact L
 have r3:l.cell? ⟨g,pt*6+3,none⟩=some (.int .i64 (A:Int)):=by rw[c];exact M
 have r4:l.cell? ⟨g,pt*6+4,none⟩=some (.int .i64 (q:Int)):=by rw[c];exact N
 have r5:l.cell? ⟨g,pt*6+5,none⟩=some (.int .i64 (Y:Int)):=by rw[c];exact O
 have z1:rb<l.heap.size:=by rw[c];exact D
 have G:au _:=c;clear c c0 c1 c3 J K L M N O D V;have a3:au (l.heap[rb]?=some (dH bits (.slice (some ⟨g,0,none⟩) m cap) T pt y told S a b at' f)):=(by rw[G.out];exact HB.out:_=_);have H:au (∀w':af,(∀k,k<l.heap.size->w'.heap[k]?=l.heap[k]?)->l.heap.size<=w'.heap.size->w'.cell? ⟨rb,0,none⟩=some (.int .i64 (bits:Int))/\(∀i,w'.frozen? ⟨rb,i,none⟩=false)/\w'.cell? ⟨rb,6,none⟩=some (.int .i64 (S:Int))/\w'.cell? ⟨rb,7,none⟩=some a/\w'.cell? ⟨rb,8,none⟩=some b/\w'.cell? ⟨rb,9,none⟩=some (.int .i64 (at':Int))/\w'.cell? ⟨rb,10,none⟩=some (.int .u8 (f:Int))):=(fun w' e C=>by have r:=(e rb z1).trans a3.out;exact⟨by simpa [dH]using(cell_of r 0).1,fun i=>(cell_of r i).2,by simpa [dH]using(cell_of r 6).1,by simpa [dH]using(cell_of r 7).1,by simpa [dH]using(cell_of r 8).1,by simpa [dH]using(cell_of r 9).1,by simpa [dH]using(cell_of r 10).1⟩:∀w',_)
 clear hb hW Z hs hl
 go_region_with (first
  |(go_at_call 98;refine(a2.out (World.drew l) z1 k0).mono ?_;rintro e w3 ⟨rfl,o⟩;obtain⟨x0,xf,x6,x7,x8,x9,a4⟩:=H.out w3 (fun k Q=>o.block k Q) o.size)
  |(go_at_call 112;refine(F.out _).mono ?_;rintro e w4 ⟨g7,g8,rfl,HK,s⟩;obtain⟨y0,yf,y6,y7,y8,y9,a5⟩:=H.out w4 (fun k Q=>(s.block k (aN Q o.size)).trans (o.block k Q)) (aY o.size s.size)))
 all_goals
  have hA:aA w.heap.size w w3:=by have C:=o;rw[G.out]at C;exact⟨C.os,C.tape,C.output,C.size,C.block⟩
  have I:au _:=Vl (d:=d) (v7:= .slice (some ⟨g7,0,none⟩) (d+R) (d+R)) (v8:= .slice (some ⟨g8,0,none⟩) (d+R) (d+R)) HB.out hA s HK.out;clear x0 xf x6 x7 x8 x9 a4 y0 yf y6 y7 y8 y9 a5 hA o s HK;go_wp2_with fail
  go_end0
  exact⟨rfl,g7,g8,I.out⟩
theorem NK:xX:=Hq
end Pr
end Go.Proofs.YtephkcdbnogdhabGreatDoor
