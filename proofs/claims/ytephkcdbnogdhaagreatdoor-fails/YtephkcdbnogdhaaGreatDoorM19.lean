import Derived.Lib.Builder
import Derived.Lib.UnsafeStr
import Derived.Test.YtephkcdbnogdhaaGreatDoorM10
import Derived.Test.YtephkcdbnogdhaaGreatDoorM16
set_option linter.unusedVariables false
set_option maxHeartbeats 40000000
set_option maxRecDepth 10000
namespace Go.Proofs.YtephkcdbnogdhaaGreatDoor
open Go.Proofs.Tryz
open Go renaming World->af,Value->ay,Calls->aF,TypeId->aY,Addr->bP
open Go.RowKit renaming Hid->ah,Below->aJ,intOf->aX
namespace Pr
open Go.RowKit Rf
theorem vF.iU{w w':af}{k:Nat}{f:Nat->Nat×Nat×Nat}{L:List Nat}(h:vF w k f L)(e:∀b,b<w.heap.size->w'.heap[b]?=w.heap[b]?):vF w' k f L:=by obtain⟨vb,g,⟨cur,a,b⟩,c,d⟩:=h;exact⟨vb,g,⟨cur,(e k (ai a)).trans a,b⟩,(e vb (ai c)).trans c,d⟩
def mX(w:af)(k:Nat)(A B:List Nat):Prop:=∃a kb,w.heap[k]?=some (.cells #[.pointer (some ⟨a,0,none⟩),.pointer (some ⟨kb,0,none⟩)] 318 (0,0))/\vF w a jF A/\vF w kb lZ B
theorem mX.iU{w w':af}{k:Nat}{A B:List Nat}(h:mX w k A B)(e:∀b,b<w.heap.size->w'.heap[b]?=w.heap[b]?):mX w' k A B:=by obtain⟨c,kb,a,d,h3⟩:=h;exact⟨c,kb,(e k (ai a)).trans a,d.iU e,h3.iU e⟩
theorem Aq(b o cap f h a:Nat)(A B:List Nat)(w:af)(r:kM w b o A)(hb:b<w.heap.size)(i:A.length<=400)(j:∀x∈A,x<=15)(s:kM w f h B)(l:f<w.heap.size)(m:B.length<=400)(n:∀x∈B,x<=15):
 aF prog 197 #[.slice (some ⟨b,o,none⟩) A.length cap,.slice (some ⟨f,h,none⟩) B.length a] w fun e w'=>(∃k,e= .returned (.pointer (some ⟨k,0,none⟩))/\mX w' k A B/\w.heap.size<=k)/\aJ w.heap.size w w':=by
 go_enter func197,ntmps197
 go_wp2_with fail
 refine(aac b o cap A _ r hb i j).mono ?_;rintro e w1 ⟨⟨t,rfl,p,u⟩,c⟩;have v:=c.size;go_wp2_with fail
 refine(aad f h a B _ (s.over (c.block f l)) (by omega) m n).mono ?_;rintro e w2 ⟨⟨y,rfl,q,z⟩,d⟩;have C:=d.size;have g:=p.iU (fun b hb=>d.block b hb);go_wp2_with fail
 go_ret;refine⟨⟨_,rfl,⟨t,y,jY _ _ _ rfl,g.iU (fun b hb=>alloc_old hb),q.iU (fun b hb=>alloc_old hb)⟩,by omega⟩,?_⟩;exact(c.trans (d.mono (by omega))).alloc (by omega) _
def uP(w:af)(b N:Nat)(f:Nat->Nat):Prop:=∃cur,w.heap[b]?=some (.cells cur 5 (0,0))/\cur.size=N/\∀n,n<N->cur[n]?=some (.int .u8 ((f n:Nat):Int))
theorem uP.cn{w:af}{b N:Nat}{f:Nat->Nat}(h:uP w b N f)(n:Nat)(c:n<N):w.cell? ⟨b,n,none⟩=some (.int .u8 ((f n:Nat):Int))/\w.frozen? ⟨b,n,none⟩=false:=by obtain⟨cur,a,d,h3⟩:=h;exact⟨by rw[(cell_of a _).1,h3 n c],(cell_of a n).2⟩
theorem uP.lt{w:af}{b N:Nat}{f:Nat->Nat}(h:uP w b N f):b<w.heap.size:=by obtain⟨cur,a,_⟩:=h;exact ai a
theorem uP.over{w w':af}{b N:Nat}{f:Nat->Nat}(h:uP w b N f)(e:w'.heap[b]?=w.heap[b]?):uP w' b N f:=by obtain⟨cur,a,c⟩:=h;exact⟨cur,e.trans a,c⟩
theorem uP.congr{w:af}{b N:Nat}{f g:Nat->Nat}(h:uP w b N f)(e:∀n,n<N->f n=g n):uP w b N g:=by obtain⟨cur,c,d,h3⟩:=h;exact⟨cur,c,d,fun n a=>by rw[h3 n a,e n a]⟩
theorem uP.set{w:af}{b N:Nat}{f:Nat->Nat}(h:uP w b N f)(n x:Nat)(g:n<N)(X:Int)(a:X=(x:Int)):uP (w.setCell ⟨b,n,none⟩ (.int .u8 X)) b N (EU f n x):=by
 obtain⟨cur,c,d,h3⟩:=h;subst a;refine⟨_,bG c _ _,by simpa using d,?_⟩;intro m hm;by_cases e:m=n
 ·subst e;rw[dY (by omega)];simp[EU]
 ·rw[bC (by omega),h3 m hm];simp[EU,e]
theorem uP.bytes{w:af}{b N:Nat}{f:Nat->Nat}(h:uP w b N f)(L:List Nat)(a:L.length=N)(e:∀n,n<N->f n=L.getD n 0):kM w b 0 L:=by intro i hi;rw[fF,(h.cn i (by omega)).1,e i (by omega)]
theorem PN:(prog.info? 5).map (fun i=>(i.zero,i.size,i.bytes))=some (some (.int .u8 0),1,1):=by kernel_rfl
theorem KO(n j:Nat)(h:j<n):(madeCells #[.int .u8 0] n)[j]?=some (.int .u8 ((0:Nat):Int)):=by simp[madeCells,h];simp[Nat.mod_one]
theorem A_(W:af)(n:Nat)(e:n<=1000):(Instr.makeSlice 45 (.int .i64 (n:Int)) (.int .i64 (n:Int))).run prog W= .ok (.slice (some ⟨W.heap.size,0,none⟩) n n) (W.alloc (.cells (madeCells #[.int .u8 0] n) 5)):=by obtain⟨d,hi,a,b,c⟩:=info_parts PN;have h:=run_make (P:=prog) W 45 5 d _ underlying45 hi a .i64 .i64 (n:Int) (n:Int) (by omega) (by omega) (by rw[c];omega) (by omega);rw[h,b];simp[Value.cells]
theorem Ba(W:af)(n b:Nat)(hb:b=W.heap.size):uP (W.alloc (.cells (madeCells #[.int .u8 0] n) 5)) b n (fun _=>0):=
 ⟨_,jY W _ _ hb,og _ _,fun j a=>KO n j a⟩
theorem KP(f:Nat->Nat)(j:Nat):∀n,EU (fun n=>if n<j then f n else 0) j (f j) n=if n<j+1 then f n else 0:=by
 intro n;unfold EU;by_cases e:n=j
 ·subst e;rw[aC rfl,aC (by omega)]
 ·rw[au e];dsimp only;by_cases h:n<j
  ·rw[aC h,aC (by omega)]
  ·rw[au h,au (by omega)]
theorem Nh(w:af):
 aF prog 171 #[] w fun e w'=>(∃k,e= .returned (.pointer (some ⟨k,0,none⟩))/\mX w' k fH (List.replicate 32 5)/\w.heap.size<=k)/\aJ w.heap.size w w':=by
 have l:(Instr.makeSlice 45 (.int .i64 288) (.int .i64 288)).run prog w= .ok (.slice (some ⟨w.heap.size,0,none⟩) 288 288) (w.alloc (.cells (madeCells #[.int .u8 0] 288) 5)):=A_ w 288 (by omega);have b:=Ba w 288 _ rfl;go_enter func171,ntmps171
 go_wp2_with fail
 go_loopw [8] (fun m wr=> ∃j:Nat,j<=288/\m= .int .i64 (j:Int)/\uP wr w.heap.size 288 (fun n=>if n<j then rP n else 0)/\aJ w.heap.size w wr/\wr.heap.size=w.heap.size+1) (fun m _=>288-(aX m).toNat)
 case atStart=>exact⟨0,by omega,rfl,b.congr (fun n _=>by simp),(aP _ _).alloc (ag _) _,by simp⟩
 case round=>
  clear l b;obtain⟨j,z,rfl,d,f,g⟩:=hrel;by_cases q:j<288
  ·obtain⟨c1,c2⟩:=d.cn j q;have t:ah _:=KP rP j;have s:ah (rP j=if 144<=j/\j<256 then 9 else if 256<=j/\j<280 then 7 else 8):=rfl;have a:∀(x:Nat),rP j=x->uP (wr.setCell ⟨w.heap.size,j,none⟩ (.int .u8 (x:Int))) w.heap.size 288 (fun n=>if n<j+1 then rP n else 0):=fun x hx=>
    (d.set j (rP j) q _ (by rw[hx])).congr (fun n _=>t.out n)
   by_cases E:j<144
   ·have A:decide ((j:Int)<144)=true:=aZ (by omega);go_wp2_with fail
    go_roundw
    case rel=>exact⟨j+1,by omega,by go_num,a 8 (by rw[s.out,au (by omega),au (by omega)]),f.setCell (ag _) _,by simpa using g⟩
    case measure=>simp[aX];omega
   ·have A:decide ((j:Int)<144)=false:=aS (by omega);by_cases F:j<256
    ·have B:decide ((j:Int)<256)=true:=aZ (by omega);go_wp2_with fail
     go_roundw
     case rel=>exact⟨j+1,by omega,by go_num,a 9 (by rw[s.out,aC (by omega)]),f.setCell (ag _) _,by simpa using g⟩
     case measure=>simp[aX];omega
    ·have B:decide ((j:Int)<256)=false:=aS (by omega);by_cases h3:j<280
     ·have d3:decide ((j:Int)<280)=true:=aZ (by omega);go_wp2_with fail
      go_roundw
      case rel=>exact⟨j+1,by omega,by go_num,a 7 (by rw[s.out,au (by omega),aC (by omega)]),f.setCell (ag _) _,by simpa using g⟩
      case measure=>simp[aX];omega
     ·have d3:decide ((j:Int)<280)=false:=aS (by omega);go_wp2_with fail
      go_roundw
      case rel=>exact⟨j+1,by omega,by go_num,a 8 (by rw[s.out,au (by omega),au (by omega)]),f.setCell (ag _) _,by simpa using g⟩
      case measure=>simp[aX];omega
  ·have o:j=288:=by omega
   subst o;have l:(Instr.makeSlice 45 (.int .i64 32) (.int .i64 32)).run prog wr= .ok (.slice (some ⟨wr.heap.size,0,none⟩) 32 32) (wr.alloc (.cells (madeCells #[.int .u8 0] 32) 5)):=A_ wr 32 (by omega);have b:=Ba wr 32 (w.heap.size+1) g.symm;have c:uP (wr.alloc (.cells (madeCells #[.int .u8 0] 32) 5)) w.heap.size 288 rP:=(d.congr (fun n p=>aC p)).over (alloc_old d.lt);have r:aJ w.heap.size w (wr.alloc (.cells (madeCells #[.int .u8 0] 32) 5)):=f.alloc (by omega) _;go_wp2_with fail
   go_loopw [36] (fun m wx=> ∃j:Nat,j<=32/\m= .int .i64 (j:Int)/\uP wx (w.heap.size+1) 32 (fun n=>if n<j then 5 else 0)/\uP wx w.heap.size 288 rP/\aJ w.heap.size w wx/\wx.heap.size=w.heap.size+2) (fun m _=>32-(aX m).toNat)
   case atStart=>exact⟨0,by omega,rfl,b.congr (fun n _=>by simp),c,r,by simp;omega⟩
   case round=>
    clear l b d c r f g;obtain⟨j,z,rfl,d,c,f,g⟩:=hrel;by_cases h:j<32
    ·obtain⟨c1,c2⟩:=d.cn j h;have t:ah _:=KP (fun _=>5) j;go_wp2_with fail
     go_roundw
     case rel=>exact⟨j+1,by omega,by go_num,(d.set j 5 h _ rfl).congr (fun n _=>t.out n),c.over (aB _ _ (by omega)),f.setCell (show w.heap.size<=w.heap.size+1 by omega) _,by simpa using g⟩
     case measure=>simp[aX];omega
    ·have o:j=32:=by omega
     subst o;have C:kM wr w.heap.size 0 fH:=c.bytes fH (by simp[fH]) (fun n p=>by simp[fH,List.getD_eq_getElem?_getD,p]);have hD:kM wr (w.heap.size+1) 0 (List.replicate 32 5):=d.bytes _ (by simp) (fun n p=>by rw[aC p,ak,nU,aC p];rfl)
     have hlen:fH.length=288:=by simp[fH]
     have u:(List.replicate 32 5).length=32:=by simp
     have v:∀x∈fH,x<=15:=by intro x hx;simp only[fH,List.mem_map]at hx;obtain⟨i,_,rfl⟩:=hx;unfold rP;split<;>(try split)<;>omega
     go_wp2_with fail
     refine(Aq w.heap.size 0 288 (w.heap.size+1) 0 32 fH (List.replicate 32 5) _ C (by omega) (by omega) v hD (by omega) (by omega) (fun x hx=>by rw[gX hx];omega)).mono ?_;rintro e w2 ⟨⟨k,rfl,D,G⟩,y⟩;go_wp2_with fail
     go_ret;exact⟨⟨k,rfl,D,by omega⟩,f.trans (y.mono (by omega))⟩
def XC(L:List Nat):List ay:=L.map fun(x:Nat)=> .int .u8 ((x:Nat):Int)
def jL(w:af)(g:Nat)(L:List Nat):Prop:=w.heap[g]?=some (.cells (XC L).toArray 5 (0,0))
theorem jL.cell{w:af}{g:Nat}{L:List Nat}(h:jL w g L)(i:Nat)(hi:i<L.length):w.cell? ⟨g,i,none⟩=some (.int .u8 ((L.getD i 0:Nat):Int))/\w.frozen? ⟨g,i,none⟩=false:=by refine⟨(cell_of h i).1.trans ?_,(cell_of h i).2⟩;simp[XC,List.getD,List.getElem?_eq_getElem hi]
theorem jL.set{w:af}{g:Nat}{L:List Nat}(h:jL w g L)(i x:Nat):jL (w.setCell ⟨g,i,none⟩ (.int .u8 (x:Int))) g (L.set i x):=by refine(bG h i _).trans ?_;simp[XC,List.map_set]
theorem jL.over{w w':af}{g:Nat}{L:List Nat}(h:jL w g L)(e:w'.heap[g]?=w.heap[g]?):jL w' g L:=e.trans h
theorem TL(n:Nat):madeCells #[.int .u8 0] n=(XC (List.replicate n 0)).toArray:=by
 apply Array.ext
 ·rw[og];simp[XC]
 ·intro i a b;have h:i<n:=by rw[og]at a;exact a
  have:=KO n i h;rw[xZ a]at this;have e:=dB this;rw[e];simp[XC]
theorem aae(W:af)(n:Nat)(e:n<=1000000000):(Instr.makeSlice 45 (.int .i64 (n:Int)) (.int .i64 (n:Int))).run prog W= .ok (.slice (some ⟨W.heap.size,0,none⟩) n n) (W.alloc (.cells (XC (List.replicate n 0)).toArray 5)):=by obtain⟨d,hi,a,b,c⟩:=info_parts PN;have h:=run_make (P:=prog) W 45 5 d _ underlying45 hi a .i64 .i64 (n:Int) (n:Int) (by omega) (by omega) (by rw[c];omega) (by omega);rw[h,b,<-TL];simp[Value.cells]
theorem zK(rb d n cap t g7:Nat)(w:af)(h:w.cell? ⟨rb,6,none⟩=some (.int .i64 (d:Int)))(i:w.cell? ⟨rb,7,none⟩=some (.slice (some ⟨g7,0,none⟩) n cap))(j:w.cell? ⟨rb,9,none⟩=some (.int .i64 (t:Int)))(b:d<=t)(c:t<=n)(f:n<=cap)(g:d<cap)(k:cap<=1000000000):
 aF prog 219 #[.pointer (some ⟨rb,6,none⟩)] w fun e w'=>e= .returned (.slice (some ⟨g7,d,none⟩) (t-d) (cap-d))/\∃nq,w'=w.drewN nq:=by
 go_enter func219,ntmps219
 go_wp2_with fail
 have a:¬cap=d:=by omega
 go_region
 all_goals
  go_wp2_with fail
  all_goals
   go_ret
   first
    |exact⟨rfl,1,rfl⟩
    |exact⟨by rw[show t-d=0 by omega];rfl,1,rfl⟩
theorem KQ(w:af)(o a:Obj)(L:List Nat):jL (((w.alloc o).alloc (.cells (XC L).toArray 5)).alloc a).drew (w.heap.size+1) L:=by show(((w.alloc o).alloc (.cells (XC L).toArray 5)).alloc a).heap[w.heap.size+1]?=_;rw[aj _ _ _ (by simp)];have:=aO (w.alloc o) (.cells (XC L).toArray 5);simpa using this
theorem PO(w:af)(o a:Obj)(L:List Nat):jL (((w.alloc o).alloc a).alloc (.cells (XC L).toArray 5)).drew (w.heap.size+1+1) L:=by show(((w.alloc o).alloc a).alloc (.cells (XC L).toArray 5)).heap[w.heap.size+1+1]?=_;have:=aO ((w.alloc o).alloc a) (.cells (XC L).toArray 5);simpa using this
theorem Below.PR{B:Nat}{w w':af}(h:aJ B w w'):aJ B w w'.drew:=⟨h.os,h.tape,h.output,h.size,h.block⟩
theorem PT(size d:Nat)(w:af)(hs:size<=900000000)(hd:d<=100):
 aF prog 215 #[.int .i64 (size:Int),.int .i64 (d:Int)] w fun e w'=> ∃g a,e= .returned (.agg #[.int .i64 (d:Int),.slice (some ⟨g,0,none⟩) (d+size) (d+size),.slice (some ⟨a,0,none⟩) (d+size) (d+size),.int .i64 0,.int .u8 0])/\g≠a/\w.heap.size<=g/\w.heap.size<=a/\jL w' g (List.replicate (d+size) 0)/\jL w' a (List.replicate (d+size) 0)/\aJ w.heap.size w w':=by
 obtain⟨N,b⟩:∃N,N=d+size:=⟨_,rfl⟩;have c:(d:Int)+(size:Int)=(N:Int):=by omega
 have f:=fun W=>aae W N (by omega);rw[<-b];clear b;go_enter func215,ntmps215
 go_wp2_with fail
 go_region
 all_goals
  go_wp2_with fail
  refine aI (v:=Value.agg #[.int .i64 (d:Int),_,_,.int .i64 0,.int .u8 0]) (by simp[results,results215,go_sem];exact⟨rfl,rfl⟩) rfl ?_;refine⟨_,_,rfl,by omega,by omega,by omega,?_,?_,?_⟩
  ·first
    |exact KQ _ _ _ _
    |exact PO _ _ _ _
  ·first
    |exact KQ _ _ _ _
    |exact PO _ _ _ _
  ·exact Below.PR ((((aP w.heap.size w).alloc (ag _) _).alloc (by simp) _).alloc (by simp;omega) _)
open kW (byteCells jw OD)
theorem Nq{w:af}{base:Nat}{v v':ay}{n:Nat}{xs:List ay}{z:Int}{w':af}(ty:aY)(f:w.ownsRow base 5 1 v n xs)(a:bP)(c:Nat)(hx:w.cell? a=some (.int .u8 z))(D:n<=100000000)
 (q:(Builtin.append_ #[45,45] ty #[v,.slice (some a) 1 c]).run prog w= .ok v' w'):∀k,v'.ownBlock=some k->v.ownBlock=some k\/w.heap.size<=k:=by
 obtain⟨r,hi,l,h,m⟩:=info_parts PN;have e:∀j u,[Value.int .u8 z][j]?=some u->w.cell? (a.add j)=some u:=by
  intro j u p;match j,p with
  |0,p=>simp at p;subst p;simpa [Addr.add]using hx
 rcases f.2 with⟨rfl,rfl⟩|⟨g,cap,cur,rfl,x,y,A,B,C,s⟩
 ·obtain⟨v2,w2,d,t,_⟩:=run_append_own (P:=prog) w w.heap.size 45 ty 5 r (.int .u8 0) 1 1 underlying45 hi l h m rfl (by decide) (.slice none 0 0) 0 [] (eX _ _ _ _) a 1 c [.int .u8 z] rfl e (by intro u hu;simp at hu;subst hu;rfl) (by unfold maxLen;omega) (by omega) (ag _);rw[q]at d;obtain⟨rfl,rfl⟩:v'=v2/\w'=w2:=by injection d with a b;exact⟨a,b⟩
  intro k o;exact .inr (t.lt k o).1
 ·by_cases i:n+1<=cap
  ·have d:=run_append_room (P:=prog) w 45 ty 5 r underlying45 hi g n cap cur y a 1 c [.int .u8 z] (by rw[h];rfl) e (by intro u hu;simp at hu;subst hu;rfl) i (by rw[h];simp;omega);rw[q]at d;obtain⟨rfl,_⟩:v'=_/\w'=_:=by injection d with a b;exact⟨a,b⟩
   intro k o;exact .inl o
  ·have d:=run_append_grow (P:=prog) w 45 ty 5 r (.int .u8 0) underlying45 hi l ⟨g,0,none⟩ n cap xs (by rw[h];exact f.1) (f.cells (g:=g) rfl) a 1 c [.int .u8 z] (by rw[h];rfl) e (by omega) (by omega) (growslice_fits (by omega) (by rw[m];omega));rw[q]at d;obtain⟨rfl,_⟩:v'=_/\w'=_:=by injection d with a b;exact⟨a,b⟩
   intro k o;simp[Value.ownBlock]at o;exact .inr (by omega)
theorem xG{wr:af}{ops:Array Oper}{rest:List Oper}{o:Oper}{a:Act}{Q:Exit->Act->af->Prop}(f:o.guard=none)(s x:Operand)
 (p:o.op= .call {callee:= .builtin .append,args:= #[s,x],argTypes:= #[45,45]}) (base:Nat) (v:ay) (n:Nat) (xs:List ay) (z:Int)
 (b:wr.ownsRow base 5 1 v n xs) (hs:a.eval s=v) (hx:a.eval x= .slice (some ⟨wr.heap.size,0,none⟩) 1 1) (q:n<=100000000) (hb:base<=wr.heap.size)
 (h:∀v' w',w'.ownsRow base 5 1 v' (n+1) (xs++[.int .u8 z])->(wr.alloc (.cells #[.int .u8 z] 5)).grownBy w' v.ownBlock->(∀k,v'.ownBlock=some k->v.ownBlock=some k\/wr.heap.size<=k)->wpList prog ops Q rest (a.put o.dst v') w'):
 wpList prog ops Q (o::rest) a (wr.alloc (.cells #[.int .u8 z] 5)):=by
 obtain⟨r,hi,g,i,l⟩:=info_parts PN;have c:(wr.alloc (.cells #[.int .u8 z] 5)).cell? ⟨wr.heap.size,0,none⟩=some (.int .u8 z):=by simp
 have d:∀j u,[Value.int .u8 z][j]?=some u->(wr.alloc (.cells #[.int .u8 z] 5)).cell? ((⟨wr.heap.size,0,none⟩:bP).add j)=some u:=by
  intro j u e;match j,e with
  |0,e=>simp at e;subst e;simp[Addr.add]
 obtain⟨v',w',m,t,h3,y⟩:=run_append_own (P:=prog) (wr.alloc (.cells #[.int .u8 z] 5)) base 45 o.type 5 r (.int .u8 0) 1 1 underlying45 hi g i l rfl (by decide) v n xs (b.alloc _) ⟨wr.heap.size,0,none⟩ 1 1 [.int .u8 z] rfl d (by intro u hu;simp at hu;subst hu;rfl) (by unfold maxLen;omega) (by omega) (by simp;omega);have hw:=Nq o.type (b.alloc (.cells #[.int .u8 z] 5)) ⟨wr.heap.size,0,none⟩ 1 c q m;refine wpList_plain f fun K hK=> ?_;unfold Oper.wp execOp;simp only[p,resolve,invoke,builtin,Sem.run_bind,Sem.run_pure,Result.andThen_ok,List.map_toArray,List.map_cons,List.map_nil,hs,hx,m];exact hK _ _ (h v' w' t h3 (fun k w=>(hw k w).imp id (fun h=>by simp at h;omega)))
end Pr
namespace Pr
open Go.RowKit Rf
open kW (byteCells jw)
theorem gW{w w':af}{base:Nat}{v:ay}{n:Nat}{xs:List ay}(h:w.ownsRow base 5 1 v n xs)(e:∀k,v.ownBlock=some k->w'.heap[k]?=w.heap[k]?):w'.ownsRow base 5 1 v n xs:=by
 refine⟨h.1,?_⟩;rcases h.2 with h|⟨g,cap,cur,rfl,a,b,c⟩
 ·exact .inl h
 ·exact .inr ⟨g,cap,cur,rfl,a,(e g rfl).trans b,c⟩
theorem jA{w:af}{base:Nat}{v:ay}{n:Nat}{xs:List ay}(h:w.ownsRow base 5 1 v n xs){k:Nat}{cur:Array ay}{T:aY}{f:Nat×Nat}(a:w.heap[k]?=some (.cells cur T f))(c:T≠5):v.ownBlock≠some k:=by
 rcases h.2 with⟨rfl,_⟩|⟨g,cap,d,rfl,_,b,_⟩
 ·simp[Value.ownBlock]
 ·intro e;simp[Value.ownBlock]at e;subst e;rw[b]at a;simp at a;exact c a.2.1.symm
def Ht(n aN j:Nat):Nat:=n-1-(n-1-j)%aN
def iO(out:List UInt8)(aN:Nat):List ay:=(List.range (min out.length aN)).map fun j=> .int .u8 (((out.getD (Ht out.length aN j) 0).toNat:Nat):Int)
theorem Jr(out:List UInt8)(aN:Nat):(iO out aN).length=min out.length aN:=by simp[iO]
theorem Ar(out:List UInt8)(aN:Nat)(h:out.length<=aN):iO out aN=byteCells out:=by
 apply List.ext_getElem?;intro j;unfold iO byteCells;by_cases a:j<out.length
 ·have e:Ht out.length aN j=j:=by unfold Ht;rw[iH (by omega)];omega
  rw[jr,List.getElem?_range (by omega),jr,aG a];simp[e,List.getD,List.getElem?_eq_getElem a]
 ·rw[fE (by simp;omega),fE (by simp;omega)]
theorem aaM(n aN j:Nat)(hw:1<=aN)(b:j<aN)(g:aN<=n):Ht (n+1) aN j=if j=n%aN then n else Ht n aN j:=by
 unfold Ht;rw[show n+1-1-j=n-j by omega,show n+1-1=n by omega];by_cases e:j=n%aN
 ·rw[aC e];have c:(n-j)%aN=0:=by
   have a:=Nat.div_add_mod n aN;have h3:n-j=aN*(n/aN):=by omega
   rw[h3];exact Nat.mul_mod_right _ _
  omega
 ·rw[au e];have c:(n-j)%aN≠0:=by
   intro h;apply e;have a:=Nat.div_add_mod (n-j) aN;rw[h]at a;have h3:n=j+aN*((n-j)/aN):=by omega
   rw[h3,Nat.add_mul_mod_self_left,iH b]
  have d:(n-j-1)%aN=(n-j)%aN-1:=by
   have f:n-j=(n-j-1)+1:=by omega
   have h6:(n-j)%aN=((n-j-1)%aN+1)%aN:=by rw[f];simp[Nat.add_mod]
   have i:=oP (n-j-1) (show 0<aN by omega);by_cases h8:(n-j-1)%aN+1=aN
   ·rw[h8,Nat.mod_self]at h6;omega
   ·rw[iH (show(n-j-1)%aN+1<aN by omega)]at h6;omega
  rw[show n-1-j=n-j-1 by omega,d];have k:=oP (n-j) (show 0<aN by omega);omega
theorem Hu(out:List UInt8)(x:UInt8)(aN:Nat)(hw:1<=aN)(h:aN<=out.length):iO (out++[x]) aN=(iO out aN).set (out.length%aN) (.int .u8 ((x.toNat:Nat):Int)):=by
 apply List.ext_getElem?;intro j;have hm:=oP out.length (show 0<aN by omega);unfold iO;by_cases b:j<aN
 ·rw[jr,List.getElem?_range (by simp;omega),List.getElem?_set];have e:=aaM out.length aN j hw b h;rw[bQ,kD];simp only[Option.map_some,e];by_cases a:j=out.length%aN
  ·rw[aC a,aC a.symm,aC (by simp;omega)];simp
  ·rw[au a,au (fun h=>a h.symm),jr,List.getElem?_range (by omega)];have hi:Ht out.length aN j<out.length:=by unfold Ht;omega
   simp[List.getD,List.getElem?_append_left hi]
 ·rw[fE (by simp;omega),fE (by simp;omega)]
def atR(n aN d:Nat):Nat:=if d<=n%aN then n%aN-d else n%aN+min n aN-d
theorem XX(out:List UInt8)(aN d:Nat)(hw:1<=aN)(j:1<=d)(k:d<=min out.length aN):(iO out aN)[atR out.length aN d]?=some (.int .u8 (((out.getD (out.length-d) 0).toNat:Nat):Int))/\atR out.length aN d<min out.length aN:=by
 have hm:=oP out.length (show 0<aN by omega);have hd:=Nat.div_add_mod out.length aN;generalize b:out.length=n at*;have key:atR n aN d<min n aN/\Ht n aN (atR n aN d)=n-d:=by
  by_cases c:n<aN
  ·have e:n%aN=n:=iH c;unfold atR Ht;rw[e,aC (by omega)];refine⟨by omega,?_⟩;rw[show n-1-(n-d)=d-1 by omega,iH (by omega)];omega
  ·have f:atR n aN d<aN:=by unfold atR;split<;>omega
   refine⟨by omega,?_⟩;unfold Ht;have e:(n-1-atR n aN d)%aN=d-1:=by
    unfold atR;generalize n/aN=q at*;split
    ·rename_i hle;rw[show n-1-(n%aN-d)=d-1+aN*q by omega,Nat.add_mul_mod_self_left,iH (by omega)]
    ·rename_i hle;have l:1<=q:=by
      rcases Nat.eq_zero_or_pos q with a|a
      ·subst a;omega
      ·exact a
     have g:aN*q=aN+aN*(q-1):=by
      have h:q=(q-1)+1:=by omega
      have i:aN*((q-1)+1)=aN*(q-1)+aN:=Nat.mul_succ aN (q-1);rw[<-h]at i;omega
     rw[show n-1-(n%aN+min n aN-d)=d-1+aN*(q-1)by omega,Nat.add_mul_mod_self_left,iH (by omega)]
   rw[e];omega
 refine⟨?_,key.1⟩;unfold iO;rw[jr,List.getElem?_range (by rw[b];exact key.1)];simp only[Option.map_some,b,key.2]
def kR(w:af)(gb base:Nat)(v:ay)(aN:Nat)(out:List UInt8):Prop:=w.heap[gb]?=some (.cells #[.int .i64 (aN:Int),v,.int .i64 ((out.length%aN:Nat):Int)] 231 (0,0))/\w.ownsRow base 5 1 v (min out.length aN) (iO out aN)/\base<=w.heap.size
theorem QA(aN:Nat)(w:af):
 aF prog 104 #[.int .i64 (aN:Int)] w fun e w'=>e= .returned (.pointer (some ⟨w.heap.size,0,none⟩))/\w'=w.alloc (.cells #[.int .i64 (aN:Int),.slice none 0 0,.int .i64 0] 231):=by
 go_enter func104,ntmps104
 go_wp2
 go_ret;exact⟨rfl,rfl⟩
theorem XY(gb base:Nat)(v:ay)(aN d:Nat)(out:List UInt8)(w:af)(h:kR w gb base v aN out)(hw:1<=aN)(c:aN<=32768)(k:1<=d)(hd:d<=1000000)(l:¬d<=min out.length aN):
 aF prog 227 #[.pointer (some ⟨gb,0,none⟩),.int .i64 (d:Int)] w fun e w'=>e= .returned (.tuple #[.int .u8 0,.bool false])/\w'=w:=by
 obtain⟨hb,a,b⟩:=h;have c1:w.cell? ⟨gb,1,none⟩=some v:=by simpa using(cell_of hb 1).1
 have m:decide ((d:Int)<1)=false:=aS (by omega);generalize min out.length aN=f at*;rcases a.2 with⟨rfl,i⟩|⟨g,cap,cur,rfl,i⟩
 ·have j:decide ((0:Int)<(d:Int))=true:=aZ (by omega);go_enter func227,ntmps227
  go_wp2
  go_ret2;exact⟨rfl,rfl⟩
 ·have j:decide ((f:Int)<(d:Int))=true:=aZ (by omega);go_enter func227,ntmps227
  go_wp2
  go_ret2;exact⟨rfl,rfl⟩
theorem Lc(gb base:Nat)(v:ay)(aN d:Nat)(out:List UInt8)(w:af)(h:kR w gb base v aN out)(hw:1<=aN)(l:aN<=32768)(m:1<=d)(n:d<=min out.length aN):
 aF prog 227 #[.pointer (some ⟨gb,0,none⟩),.int .i64 (d:Int)] w fun e w'=>e= .returned (.tuple #[.int .u8 (((out.getD (out.length-d) 0).toNat:Nat):Int),.bool true])/\w'=w:=by
 obtain⟨hb,a,c⟩:=h;have c1:w.cell? ⟨gb,1,none⟩=some v:=by simpa using(cell_of hb 1).1
 have c2:w.cell? ⟨gb,2,none⟩=some (.int .i64 ((out.length%aN:Nat):Int)):=by simpa using(cell_of hb 2).1
 have x:decide ((d:Int)<1)=false:=aS (by omega);have o:min out.length aN<=32768:=by omega
 obtain⟨f,q⟩:=XX out aN d hw m n;have j:out.length%aN<=32768:=by have:=oP out.length (show 0<aN by omega);omega
 obtain⟨g,cap,rfl⟩:∃g cap,v= .slice (some ⟨g,0,none⟩) (min out.length aN) cap:=by
  rcases a.2 with⟨_,r⟩|⟨g,cap,cur,rfl,r⟩
  ·omega
  ·exact⟨g,cap,rfl⟩
 have i:w.cell? ⟨g,atR out.length aN d,none⟩=_:=(a.cellAt _ (by omega)).trans f;have k:ah (atR out.length aN d=if d<=out.length%aN then out.length%aN-d else out.length%aN+min out.length aN-d):=rfl;generalize atR out.length aN d=p at*;generalize min out.length aN=s at*;generalize out.length%aN=b at*;generalize ((out.getD (out.length-d) 0).toNat:Nat)=t at*;by_cases hle:d<=b
 ·have hp:(b:Int)-(d:Int)=(p:Int):=by have:=k.out;rw[aC hle]at this;omega
  go_enter func227,ntmps227
  go_wp2
  go_ret2;exact⟨rfl,rfl⟩
 ·have hp:(b:Int)-(d:Int)+(s:Int)=(p:Int):=by have:=k.out;rw[au hle]at this;omega
  have u:(b:Int)-(d:Int)<0:=by omega
  go_enter func227,ntmps227
  go_wp2
  go_ret2;exact⟨rfl,rfl⟩
end Pr
end Go.Proofs.YtephkcdbnogdhaaGreatDoor
