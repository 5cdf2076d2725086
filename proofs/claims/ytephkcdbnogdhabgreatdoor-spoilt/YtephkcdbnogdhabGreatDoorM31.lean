import Derived.Test.YtephkcdbnogdhabGreatDoorM29
import Derived.Test.YtephkcdbnogdhabGreatDoorM30
set_option linter.unusedVariables false
set_option maxHeartbeats 40000000
set_option maxRecDepth 10000
namespace Go.Proofs.YtephkcdbnogdhabGreatDoor
open Go.Proofs.Tryz
open Go renaming World->af,Value->ay,Calls->aH,Addr->bG
open Go.RowKit renaming Hid->au,Below->aA,intOf->bH
namespace Kp
open Go.RowKit Rf Cr
open Pr
open gI (bQ gQ fO)
theorem aaf(E:List Nat)(i:Nat)(h:i<E.length):BF (E.take (i+1))=BF (E.take i)++[UInt8.ofNat (E.getD i 0/65536),UInt8.ofNat (E.getD i 0/256),UInt8.ofNat (E.getD i 0)]:=by rw[dN h,abV,ag,aB h];rfl
theorem Rx(e:Nat)(he:e<16777216)(w:af):
 (convert 39 9 (.slice (some ⟨w.heap.size,0,none⟩) 3 3)).run prog (w.alloc (.cells #[.int .u8 ((e:Int)/65536),.int .u8 ((e:Int)/256%256),.int .u8 ((e:Int)%256)] 5))= .ok (.string ⟨#[UInt8.ofNat (e/65536),UInt8.ofNat (e/256),UInt8.ofNat e]⟩) (w.alloc (.cells #[.int .u8 ((e:Int)/65536),.int .u8 ((e:Int)/256%256),.int .u8 ((e:Int)%256)] 5)):=by
 refine Oz _ _ 3 3 [UInt8.ofNat (e/65536),UInt8.ofNat (e/256),UInt8.ofNat e] rfl (fun i hi=> ?_);have hi:i<3:=hi;refine(nU w _ 5 (0,0) i).trans ?_;rcases(by omega:i=0\/i=1\/i=2)with rfl|rfl|rfl
 ·show some (Value.int .u8 ((e:Int)/65536))=some (.int .u8 (((UInt8.ofNat (e/65536)).toNat:Nat):Int));rw[dB,show((e:Int)/65536:Int)=((e/65536%2^8:Nat):Int)by omega]
 ·show some (Value.int .u8 ((e:Int)/256%256))=some (.int .u8 (((UInt8.ofNat (e/256)).toNat:Nat):Int));rw[dB,show((e:Int)/256%256:Int)=((e/256%2^8:Nat):Int)by omega]
 ·show some (Value.int .u8 ((e:Int)%256))=some (.int .u8 (((UInt8.ofNat e).toNat:Nat):Int));rw[dB,show((e:Int)%256:Int)=((e%2^8:Nat):Int)by omega]
theorem yC(z:Int)(n:Nat)(a:z=((n%256:Nat):Int))(w:af):
 (convert 39 9 (.slice (some ⟨w.heap.size,0,none⟩) 1 1)).run prog (w.alloc (.cells #[.int .u8 z] 5))= .ok (.string ⟨#[UInt8.ofNat n]⟩) (w.alloc (.cells #[.int .u8 z] 5)):=by
 refine Oz _ _ 1 1 [UInt8.ofNat n] rfl (fun i hi=> ?_);have hi:i<1:=hi;refine(nU w _ 5 (0,0) i).trans ?_;obtain rfl:i=0:=by omega
 show some (Value.int .u8 z)=some (.int .u8 (((UInt8.ofNat n).toNat:Nat):Int));rw[dB,a]
theorem aag(C:List Nat)(i:Nat)(h:i<C.length):(C.take (i+1)).map UInt8.ofNat=(C.take i).map UInt8.ofNat++[UInt8.ofNat (C.getD i 0)]:=by rw[dN h,List.map_append,ag,aB h];rfl
theorem aah(C:List Nat)(i:Nat)(h:i<C.length):Ox (C.take (i+1))=Ox (C.take i)++[UInt8.ofNat (C.getD i 0/256),UInt8.ofNat (C.getD i 0)]:=by rw[dN h,abW,ag,aB h];rfl
theorem Ry(p:Wk)(ev cv sv:ay)(w:af)(hp:p.Ok)(hE:ji w w.heap.size ev p.E)(hC:ji w w.heap.size cv p.C)(h3:uu sv)(hT:Ci w)(a7:4<w.heap.size)(J:∀e∈p.E,e<16777216)(b6:p.E.length<=256):
 aH prog 17 #[pW p.W p.H p.K p.D p.I ev cv sv] w fun e w'=>e= .returned (.string ⟨p.oz.toArray⟩)/\aA w.heap.size w w':=by
 obtain⟨a3,n3,c3,rfl⟩:=h3;obtain⟨a1,c1,rfl,_,a8⟩:=hE.at';obtain⟨a2,c2,rfl,_,a9⟩:=hC.at';have b7:p.C.length<=256:=by
  by_cases g:p.K=3
  ·have:=(hp.e3 g).2.2.2.2.2;omega
  ·by_cases k:p.K=0\/p.K=2
   ·rcases hp.c0 k with e|⟨e,_⟩
    ·rw[e];simp
    ·rw[e];rcases k with k|k<;>rw[k]<;>decide
   ·have:=hp.c4 (by have:=hp.kinds;omega);rw[this];simp
 have L:∀c∈p.C,c<65536:=by
  intro c hc;by_cases g:p.K=3
  ·have:=(hp.e3 g).2.2.2.2.1 c hc;omega
  ·by_cases k:p.K=0\/p.K=2
   ·rcases hp.c0 k with e|⟨_,e⟩
    ·rw[e]at hc;cases hc
    ·exact aN (e c hc) hp.pow
   ·have:=hp.c4 (by have:=hp.kinds;omega);rw[this]at hc;cases hc
 obtain⟨V,hV⟩:∃V,V=(⟨p.oz.toArray⟩:ByteArray):=⟨_,rfl⟩;rw[<-hV];have b8:au _:=a8;have b9:au _:=a9;have b0:au _:=J;have b1:au _:=L;have j:au (Ci w/\4<w.heap.size):=(⟨hT,a7⟩:_/\_);have HV:au _:=hV;clear hE hC a8 a9 J L hT a7 hV;unfold pW;obtain⟨nE,N⟩:∃n,n=p.E.length:=⟨_,rfl⟩;obtain⟨y,O⟩:∃n,n=p.C.length:=⟨_,rfl⟩;have z:au _:=N;have o:au _:=O;rw[<-N]at b6|-;rw[<-O]at b7|-;clear N O;clear hp;go_enter func17,ntmps17
 go_upto_region 2 with fail
 have l:au _:=aP w (.cells #[.int .i64 (p.W:Int),.int .i64 (p.H:Int),.int .i64 (p.K:Int),.int .i64 (p.D:Int),.bool p.I,.slice a1 nE c1,.slice a2 y c2,.slice a3 n3 c3] 26);have A:au (aA w.heap.size w (w.alloc (.cells #[.int .i64 (p.W:Int),.int .i64 (p.H:Int),.int .i64 (p.K:Int),.int .i64 (p.D:Int),.bool p.I,.slice a1 nE c1,.slice a2 y c2,.slice a3 n3 c3] 26))):=((aV _ _).alloc (ah _) _:aA _ _ _);obtain⟨bx,P⟩:∃bx,bx=w.heap.size:=⟨_,rfl⟩;rw[<-P]at l;have Q:au _:=ak l.out;rw[show(⟨w.heap.size,0,none⟩:bG)=⟨bx,0,none⟩by rw[P]];revert l A Q;generalize w.alloc _=w0;intro A l Q;have q:au (∀wx,aA w0.heap.size w0 wx->wx.cell? ⟨bx,2,none⟩=some (.int .i64 (p.K:Int))/\wx.cell? ⟨bx,5,none⟩=some (.slice a1 nE c1)/\wx.cell? ⟨bx,6,none⟩=some (.slice a2 y c2)):=(fun wx hb=>by have h:=(hb.block _ Q.out).trans l.out;exact⟨by simpa using(cell_of h 2).1,by simpa using(cell_of h 5).1,by simpa using(cell_of h 6).1⟩:∀wx,_)
 have m:au (∀wx,aA w0.heap.size w0 wx->aA w.heap.size w wx):=(fun wx hb=>A.out.trans (hb.mono A.out.size):∀wx,_);obtain⟨M,R⟩:∃M:ByteArray,M=⟨(if p.K=3 then qV yt (BF p.E)else []).toArray⟩:=⟨_,rfl⟩;have B:au _:=R;have d3:M.size<=1000:=by
  rw[R,fF];split
  ·rw[l_,qP];have h1:yt.length=4:=rfl;have h2:=z.out;omega
  ·simp
 clear R l P;obtain⟨x2,x5,x6⟩:=q.out w0 (aV _ _);go_upto_if 11 with fail
 go_cut [3]from 4 to 37 (fun v wx=>v= .string M/\au (aA w0.heap.size w0 wx))
 case first=>
  by_cases g:p.K=3
  ·have S:((p.K:Int)==3)=true:=by rw[mD];omega
   have c5:au _:=g;clear g;have T:au (∀(s:ByteArray) (wx:af),s.size<=1000000->aA w.heap.size w wx->aH prog 19 #[.string ⟨#[80,76,84,69]⟩,.string s] wx fun e w'=>e= .returned (.string ⟨(qV yt s.data.toList).toArray⟩)/\aA wx.heap.size wx w'):=(fun s wx hs hb=>vX ⟨#[80,76,84,69]⟩ s wx (Dc j.out.1 j.out.2 hb) (aN j.out.2 hb.size) rfl hs:∀s wx,_);go_wp2_with fail
   go_loopw [4,5] (fun sv iv wr=> ∃(s:ByteArray) (i:Nat),sv= .string s/\iv= .int .i64 (i:Int)/\i<=nE/\au (s.data.toList=BF (p.E.take i))/\au (aA w0.heap.size w0 wr)) (fun _ iv _=>nE-(bH iv).toNat)
   case atStart=>exact⟨⟨#[]⟩,0,rfl,rfl,aX _,(rfl:_=_),(aV _ _:aA _ _ _)⟩
   case round=>
    obtain⟨s,i,rfl,rfl,hi,U,r⟩:=hrel;obtain⟨y2,y5,y6⟩:=q.out wr r.out;have c6:s.size<=768:=by
     have e:s.size=s.data.toList.length:=by simp
     rw[e,U.out,qP];have:(p.E.take i).length<=i:=by simp;omega
     omega
    by_cases t:i<nE
    ·obtain⟨a,rfl,Y,b⟩:=b8.out i (by rw[<-z.out];exact t);have a0:wr.cell? (a.add i)=some (.int .i64 ((p.E.getD i 0:Nat):Int)):=(qB (a:=a.add i) ((m.out wr r.out).block _ (by rw[wH];exact Y))).trans b;have b2:p.E.getD i 0<16777216:=nT b0.out (by omega) i;have c7:au ((s++(⟨#[UInt8.ofNat (p.E.getD i 0/65536),UInt8.ofNat (p.E.getD i 0/256),UInt8.ofNat (p.E.getD i 0)]⟩:ByteArray)).data.toList=BF (p.E.take (i+1))):=(by rw[oK,U.out,aaf p.E i (by rw[<-z.out];exact t)]:_=_);have c8:=Rx (p.E.getD i 0) b2 wr;have d6:(⟨#[UInt8.ofNat (p.E.getD i 0/65536),UInt8.ofNat (p.E.getD i 0/256),UInt8.ofNat (p.E.getD i 0)]⟩:ByteArray).size=3:=rfl;generalize (⟨#[UInt8.ofNat (p.E.getD i 0/65536),UInt8.ofNat (p.E.getD i 0/256),UInt8.ofNat (p.E.getD i 0)]⟩:ByteArray)=X at*;generalize p.E.getD i 0=e at*;have f:au (aA w0.heap.size w0 (wr.alloc (.cells #[.int .u8 ((e:Int)/65536),.int .u8 ((e:Int)/256%256),.int .u8 ((e:Int)%256)] 5))):=(r.out.alloc r.out.size _:aA _ _ _);clear b;go_wp2_with fail
     go_roundw
     case rel=>exact⟨s++X,i+1,rfl,by go_num,by omega,c7,f⟩
     case measure=>simp[bH];omega
    ·have a4:au (s.data.toList=BF p.E):=(by
      have e:i=p.E.length:=by have:=z.out;omega
      have:=U.out;rw[e,List.take_length]at this;exact this:_=_)
     have a5:au (M=⟨(qV yt s.data.toList).toArray⟩):=(by rw[B.out,aG c5.out,a4.out]:_=_);have F:au _:=T.out s wr (by omega) (m.out wr r.out);rw[<-a5.out]at F;go_wp2_with fail
     refine aU F.out ?_;rintro e w1 ⟨rfl,u⟩;have a6:au (aA w0.heap.size w0 w1):=(r.out.trans (u.mono r.out.size):aA _ _ _);clear u;go_wp2_with fail
     go_meet
     case rel=>exact⟨rfl,a6⟩
  ·have S:((p.K:Int)==3)=false:=by rw[aI];omega
   have a5:au (M=⟨#[]⟩):=(by rw[B.out,ax g]:_=_);go_wp2_with fail
   go_meet
   case rel=>exact⟨by rw[a5.out],(aV _ _:aA _ _ _)⟩
 case rest=>
  obtain⟨rfl,r⟩:=hcut;obtain⟨y2,y5,y6⟩:=q.out wc r.out;clear x2 x5 x6;by_cases c0:y=0
  ·have c9:((y:Int)==0)=true:=by rw[mD];omega
   have HE:au (M=V):=(by have e:p.C=[]:=gm (by have:=o.out;omega);rw[HV.out,B.out];unfold Wk.oz;rw[aG e,kU]:_=_)
   have d0:au _:=m.out wc r.out;clear c0;go_wp2_with fail
   go_ret;exact⟨jo (fun x=>Ending.returned (Value.string x)) HE.out,d0.out⟩
  ·have c9:((y:Int)==0)=false:=by rw[aI];omega
   have d1:au (p.C≠[]):=(fun e=>c0 (by rw[o.out,e];rfl):_≠_);have T:au (∀(s:ByteArray) (wx:af),s.size<=1000000->aA w.heap.size w wx->aH prog 19 #[.string ⟨#[116,82,78,83]⟩,.string s] wx fun e w'=>e= .returned (.string ⟨(qV uM s.data.toList).toArray⟩)/\aA wx.heap.size wx w'):=(fun s wx hs hb=>vX ⟨#[116,82,78,83]⟩ s wx (Dc j.out.1 j.out.2 hb) (aN j.out.2 hb.size) rfl hs:∀s wx,_);clear c0;go_wp2_with fail
   go_loopw [7,8] (fun sv iv wr=> ∃(s:ByteArray) (i:Nat),sv= .string s/\iv= .int .i64 (i:Int)/\i<=y/\s.size<=2*i/\au (s.data.toList=if p.K=3 then(p.C.take i).map UInt8.ofNat else Ox (p.C.take i))/\au (aA w0.heap.size w0 wr)) (fun _ iv _=>y-(bH iv).toNat)
   case atStart=>exact⟨⟨#[]⟩,0,rfl,rfl,aX _,ah _,(by rw[Az];split<;>rfl:_=_),r⟩
   case round=>
    obtain⟨s,i,rfl,rfl,hi,c6,U,d⟩:=hrel;obtain⟨z2,z5,z6⟩:=q.out wr d.out;clear y2 y5 y6;by_cases t:i<y
    ·obtain⟨a,rfl,Y,b⟩:=b9.out i (by rw[<-o.out];exact t);have G:au (∀wx,aA w0.heap.size w0 wx->wx.cell? (a.add i)=some (.int .i64 ((p.C.getD i 0:Nat):Int))):=(fun wx hb=>(qB (a:=a.add i) ((m.out wx hb).block _ (by rw[wH];exact Y))).trans b:∀wx,_);have d4:p.C.getD i 0<65536:=nT b1.out (by omega) i;have b3:i<p.C.length:=by rw[<-o.out];exact t
     have T3:=aag p.C i b3;have T2:=aah p.C i b3;have a0:=G.out wr d.out;by_cases g:p.K=3
     ·have HN:au ((s++(⟨#[UInt8.ofNat (p.C.getD i 0)]⟩:ByteArray)).data.toList=if p.K=3 then(p.C.take (i+1)).map UInt8.ofNat else Ox (p.C.take (i+1))):=(by rw[oK,U.out,aG g,aG g,T3]:_=_);have S:((p.K:Int) !=3)=false:=by rw[di];omega
      have c8:=yC ((p.C.getD i 0:Int)%256) (p.C.getD i 0) (by omega) wr;have hX:(⟨#[UInt8.ofNat (p.C.getD i 0)]⟩:ByteArray).size=1:=rfl;clear g T3 T2 b G;generalize (⟨#[UInt8.ofNat (p.C.getD i 0)]⟩:ByteArray)=X at*;generalize p.C.getD i 0=e at*;have f:au (aA w0.heap.size w0 (wr.alloc (.cells #[.int .u8 ((e:Int)%256)] 5))):=(d.out.alloc d.out.size _:aA _ _ _);go_wp2_with fail
      go_roundw
      case rel=>exact⟨s++X,i+1,rfl,by go_num,by omega,by rw[gX];omega,HN,f⟩
      case measure=>simp[bH];omega
     ·have HN:au ((s++(⟨#[UInt8.ofNat (p.C.getD i 0/256)]⟩:ByteArray)++(⟨#[UInt8.ofNat (p.C.getD i 0)]⟩:ByteArray)).data.toList=if p.K=3 then(p.C.take (i+1)).map UInt8.ofNat else Ox (p.C.take (i+1))):=(by rw[oK,oK,U.out,ax g,ax g,T2,bI];rfl:_=_);have S:((p.K:Int) !=3)=true:=by rw[ig];omega
      have d5:=yC ((p.C.getD i 0:Int)/256) (p.C.getD i 0/256) (by omega) wr;have b4:=yC ((p.C.getD i 0:Int)%256) (p.C.getD i 0) (by omega) (wr.alloc (.cells #[.int .u8 ((p.C.getD i 0:Int)/256)] 5));rw[show(wr.alloc (.cells #[.int .u8 ((p.C.getD i 0:Int)/256)] 5)).heap.size=wr.heap.size+1 by simp]at b4;have f:au (aA w0.heap.size w0 (wr.alloc (.cells #[.int .u8 ((p.C.getD i 0:Int)/256)] 5))):=(d.out.alloc d.out.size _:aA _ _ _);obtain⟨v2,v5,v6⟩:=q.out _ f.out;have b5:=G.out _ f.out;have hX:(⟨#[UInt8.ofNat (p.C.getD i 0)]⟩:ByteArray).size=1:=rfl;have d7:(⟨#[UInt8.ofNat (p.C.getD i 0/256)]⟩:ByteArray).size=1:=rfl;have d2:au (aA w0.heap.size w0 ((wr.alloc (.cells #[.int .u8 ((p.C.getD i 0:Int)/256)] 5)).alloc (.cells #[.int .u8 ((p.C.getD i 0:Int)%256)] 5))):=(f.out.alloc f.out.size _:aA _ _ _);clear g T3 T2 b G;generalize (⟨#[UInt8.ofNat (p.C.getD i 0)]⟩:ByteArray)=X at*;generalize (⟨#[UInt8.ofNat (p.C.getD i 0/256)]⟩:ByteArray)=X2 at*;generalize p.C.getD i 0=e at*;go_wp2_with fail
      go_roundw
      case rel=>exact⟨s++X2++X,i+1,rfl,by go_num,by omega,by rw[gX,gX];omega,HN,d2⟩
      case measure=>simp[bH];omega
    ·have a4:au (s.data.toList=p.tr):=(by
      have e:i=p.C.length:=by have:=o.out;omega
      have:=U.out;rw[e,List.take_length]at this;rw[this];rfl:_=_)
     have HE:au (M++⟨(qV uM s.data.toList).toArray⟩=V):=(by rw[HV.out,B.out,a4.out];unfold Wk.oz;rw[ax d1.out];apply gK;simp:_=_)
     have d8:(⟨(qV uM s.data.toList).toArray⟩:ByteArray).size<=1000:=by
      rw[fF,l_];have h1:uM.length=4:=rfl;have h2:s.data.toList.length=s.size:=by simp
      omega
     have F:au _:=T.out s wr (by omega) (m.out wr d.out);generalize (⟨(qV uM s.data.toList).toArray⟩:ByteArray)=Z at*;go_wp2_with fail
     refine aU F.out ?_;rintro e w1 ⟨rfl,u⟩;have a6:au (aA w.heap.size w w1):=(m.out w1 (d.out.trans (u.mono d.out.size)):aA _ _ _);clear u;go_wp2_with fail
     go_ret;exact⟨jo (fun x=>Ending.returned (Value.string x)) HE.out,a6.out⟩
theorem TK:(prog.info? 9).map (fun i=>(i.zero,i.size,i.bytes))=some (some (.string ⟨#[]⟩),1,16):=by kernel_rfl
def nJ(L:List ByteArray):List ay:=L.map fun s=> .string s
theorem Df(L:List ByteArray)(s:ByteArray):nJ (L++[s])=nJ L++[.string s]:=by simp[nJ]
theorem aai(L:List ByteArray):(nJ L).length=L.length:=by simp[nJ]
theorem t_{wr:af}{ops:Array Oper}{rest:List Oper}{o:Oper}{a:Act}{Q:Exit->Act->af->Prop}(d:o.guard=none)(s x:Operand)
 (i:o.op= .call {callee:= .builtin .append,args:= #[s,x],argTypes:= #[28,28]}) (base:Nat) (v:ay) (n:Nat) (xs:List ay) (z:ByteArray)
 (b:wr.ownsRow base 9 1 v n xs) (k:a.eval s=v) (l:a.eval x= .slice (some ⟨wr.heap.size,0,none⟩) 1 1) (p:n<=1000) (hb:base<=wr.heap.size)
 (h:∀v' w',w'.ownsRow base 9 1 v' (n+1) (xs++[.string z])->(wr.alloc (.cells #[.string z] 9)).grownBy w' v.ownBlock->wpList prog ops Q rest (a.put o.dst v') w'):
 wpList prog ops Q (o::rest) a (wr.alloc (.cells #[.string z] 9)):=by
 obtain⟨m,hi,e,f,g⟩:=info_parts TK;refine wpList_append_own _ d s x 28 i base 9 m (.string ⟨#[]⟩) 1 16 underlying28 hi e f g rfl (by decide) v n xs k (b.alloc _) ⟨wr.heap.size,0,none⟩ 1 1 [.string z] l rfl ?_ ?_ ?_ ?_ ?_ ?_
 ·intro j u c;match j,c with
  |0,c=>simp at c;subst c;simp[Addr.add]
 ·intro u hu;simp at hu;subst hu;rfl
 ·unfold maxLen;omega
 ·omega
 ·simp;omega
 ·intro v' w' h1 h2 q;exact h v' w' h1 h2
def mO:List Int->List UInt8->List (List UInt8)
 | [],s=>[s]
 |z::l,s=>s.take (pk z 40).toNat::mO l (s.drop (pk z 40).toNat)
theorem Rz(l:List Int):∀s,(mO l s).flatten=s:=by
 induction l with
 |nil=>intro s;simp[mO]
 |cons z l a=>intro s;rw[mO,List.flatten_cons,a,nS]
theorem OC(l:List Int)(s:List UInt8):mO l s≠[]:=by cases l<;>simp[mO]
def Dh(d:List UInt8):ByteArray:=⟨(qV DL d).toArray⟩
theorem Wq{L:List Int}{i:Nat}(h:i<L.length):L.drop i=L.getD i 0::L.drop (i+1):=by rw[kX h,ag,aB h];rfl
theorem RD(H:ByteArray)(pv:ay)(P:List Int)(w:af)(hP:gq w w.heap.size pv P)(R:H.size<=1000000)(hT:Ci w)(I:4<w.heap.size):
 aH prog 18 #[.string H,pv] w fun e w'=> ∃v,e= .returned v/\w'.ownsRow w.heap.size 9 1 v (mO (P.take 20) H.data.toList).length (nJ ((mO (P.take 20) H.data.toList).map Dh))/\aA w.heap.size w w':=by
 obtain⟨la,cap,rfl,_,hc⟩:=hP;obtain⟨n,S⟩:∃n,n=P.length:=⟨_,rfl⟩;obtain⟨x,A⟩:∃x,x=mO (P.take 20) H.data.toList:=⟨_,rfl⟩;rw[<-A];have T:au _:=hc;have U:au _:=S;have B:au (Ci w/\4<w.heap.size):=(⟨hT,I⟩:_/\_);have HL:au _:=A;rw[<-S];clear hc hT I A S;have J:au (∀(s:ByteArray) (wx:af),s.size<=1000000->aA w.heap.size w wx->aH prog 19 #[.string ⟨#[73,68,65,84]⟩,.string s] wx fun e w'=>e= .returned (.string (Dh s.data.toList))/\aA wx.heap.size wx w'):=(fun s wx R hb=>vX ⟨#[73,68,65,84]⟩ s wx (Dc B.out.1 B.out.2 hb) (aN B.out.2 hb.size) rfl R:∀s wx,_);go_enter func18,ntmps18
 go_wp2_with fail
 go_loopw [0,5,6] (fun sv ov iv wr=> ∃(s:ByteArray) (V:Option bG) (W i:Nat) (D:List (List UInt8)),sv= .string s/\ov= .slice V i W/\iv= .int .i64 (i:Int)/\i<=20/\i<=n/\s.size<=1000000/\au (D.length=i/\x=D++mO ((P.take 20).drop i) s.data.toList)/\au (wr.ownsRow w.heap.size 9 1 (.slice V i W) i (nJ (D.map Dh)))/\au (aA w.heap.size w wr)) (fun _ _ iv _=>20-(bH iv).toNat)
 case atStart=>exact⟨H,none,0,0,[],rfl,rfl,rfl,by omega,by omega,R,(⟨rfl,by rw[HL.out];rfl⟩:_/\_),(eX _ _ _ _:World.ownsRow _ _ _ _ _ _ _),(aV _ _:aA _ _ _)⟩
 case round=>
  obtain⟨s,V,W,i,D,rfl,rfl,rfl,b1,b2,X,HD,Y,t⟩:=hrel;by_cases K:i<n/\i<20
  ·obtain⟨h1,h2⟩:=K;obtain⟨a,rfl,a0,o,a1,a2⟩:=T.out i (by rw[<-U.out];exact h1);have a3:wr.cell? (a.add i)=some (.int .i64 (P.getD i 0)):=(qB (a:=a.add i) (t.out.block _ (by rw[wH];exact a0))).trans o;have a4:=rF (P.getD i 0) 40 (by omega);obtain⟨m,hm⟩:∃m:Nat,pk (P.getD i 0) 40=(m:Int):=⟨(pk (P.getD i 0) 40).toNat,by omega⟩;have L:au (∀w':af,aH prog 10 #[.int .i64 (P.getD i 0),.int .i64 40] w' fun e w2=>e= .returned (.int .i64 (m:Int))/\w2=w'):=(fun w'=>by rw[<-hm];exact BG _ _ w' a1 a2 (by omega) (by omega):∀w',_);obtain⟨k,O⟩:∃k,k=min m s.size:=⟨_,rfl⟩;have C:s.data.toList.take m=(s.extract 0 k).data.toList/\s.data.toList.drop m=(s.extract k s.size).data.toList:=by
    rw[gI.uF,gI.uF];unfold gI.cut;have hl:s.data.toList.length=s.size:=by simp
    constructor
    ·rw[uZ,Nat.sub_zero,O];rcases Nat.le_total m s.size with h|h
     ·rw[sH h]
     ·rw[Nat.min_eq_right h,dn (by omega),dn (by omega)]
    ·rw[dn (by simp),O];rcases Nat.le_total m s.size with h|h
     ·rw[sH h]
     ·rw[Nat.min_eq_right h,fU (by omega),fU (by omega)]
   have u:au ((D++[(s.extract 0 k).data.toList]).length=i+1/\x=(D++[(s.extract 0 k).data.toList])++mO ((P.take 20).drop (i+1)) (s.extract k s.size).data.toList):=(by
    obtain⟨g1,Q⟩:=HD.out;refine⟨by rw[aK,g1];rfl,?_⟩;have a5:i<(P.take 20).length:=by rw[eH];have:=U.out;omega
    have e:(P.take 20).getD i 0=P.getD i 0:=by rw[ag,dh h2,<-ag]
    rw[Q,Wq a5,mO,e,hm,show((m:Int)).toNat=m from rfl,C.1,C.2,bI];rfl:_/\_)
   have a6:(s.extract 0 k).size=k:=by simp;omega
   have a7:(s.extract k s.size).size=s.size-k:=by simp
   have p:au _:=fun(wx:af) (hb:aA w.heap.size w wx)=>J.out (s.extract 0 k) wx (by omega) hb;have M:(Dh (s.extract 0 k).data.toList).size<=2000000:=by
    unfold Dh;rw[fF,l_];have e1:DL.length=4:=rfl;have e2:(s.extract 0 k).data.toList.length=(s.extract 0 k).size:=by simp
    omega
   have E:au ((D++[(s.extract 0 k).data.toList]).map Dh=D.map Dh++[Dh (s.extract 0 k).data.toList]):=(by simp:_=_);generalize Dh (s.extract 0 k).data.toList=Z at*;generalize P.getD i 0=z at*;clear o hm a4 C;by_cases b3:(s.size:Int)<(m:Int)
   ·obtain rfl:k=s.size:=by omega
    clear O;have a8:s.extract 0 s.size=s:=by apply gK;simp
    rw[a8]at p E u a6;have a9:s.extract s.size s.size=ByteArray.empty:=by apply gK;simp
    rw[a9]at u a7;go_wp2_with (first|(go_at_call 10;refine aU (L.out _) ?_;rintro e w9 ⟨rfl,F⟩;subst F))
    refine aU (p.out _ t.out) ?_;rintro e w1 ⟨rfl,c⟩;have d:au _:=jS Y.out c;have f:au (aA w.heap.size w w1):=(t.out.trans (c.mono t.out.size):aA _ _ _);have g:=f.out.size;clear c
    go_wp2_with (first
     |(at_builtin;refine t_ rfl _ _ rfl w.heap.size _ i (nJ (D.map Dh)) Z d.out rfl rfl (by omega) g ?_;intro v' w2 b y;obtain⟨j,l,rfl⟩:=lI.jB b))
    have q:au _:=lI.mW f.out (ah _) g d.out y;have r:au (w2.ownsRow w.heap.size 9 1 (.slice (some ⟨j,0,none⟩) (i+1) l) (i+1) (nJ ((D++[s.data.toList]).map Dh))):=(by rw[E.out,Df];exact b:World.ownsRow _ _ _ _ _ _ _);clear b y;go_wp2_with fail
    go_roundw
    case rel=>exact⟨ByteArray.empty,some ⟨j,0,none⟩,l,i+1,D++[s.data.toList],rfl,rfl,by go_num,by omega,by omega,by omega,u,r,q⟩
    case measure=>simp[bH];omega
   ·obtain rfl:k=m:=by omega
    clear O;go_wp2_with (first|(go_at_call 10;refine aU (L.out _) ?_;rintro e w9 ⟨rfl,F⟩;subst F))
    refine aU (p.out _ t.out) ?_;rintro e w1 ⟨rfl,c⟩;have d:au _:=jS Y.out c;have f:au (aA w.heap.size w w1):=(t.out.trans (c.mono t.out.size):aA _ _ _);have g:=f.out.size;clear c
    go_wp2_with (first
     |(at_builtin;refine t_ rfl _ _ rfl w.heap.size _ i (nJ (D.map Dh)) Z d.out rfl rfl (by omega) g ?_;intro v' w2 b y;obtain⟨j,l,rfl⟩:=lI.jB b))
    have q:au _:=lI.mW f.out (ah _) g d.out y;have r:au (w2.ownsRow w.heap.size 9 1 (.slice (some ⟨j,0,none⟩) (i+1) l) (i+1) (nJ ((D++[(s.extract 0 k).data.toList]).map Dh))):=(by rw[E.out,Df];exact b:World.ownsRow _ _ _ _ _ _ _);clear b y;go_wp2_with fail
    go_roundw
    case rel=>exact⟨s.extract k s.size,some ⟨j,0,none⟩,l,i+1,D++[(s.extract 0 k).data.toList],rfl,rfl,by go_num,by omega,by omega,by omega,u,r,q⟩
    case measure=>simp[bH];omega
  ·have HE:au (mO ((P.take 20).drop i) s.data.toList=[s.data.toList]):=(by
    rw[fU (by rw[eH];have:=U.out;omega)];rfl:_=_)
   have N:au (x.length=i+1/\x.map Dh=D.map Dh++[Dh s.data.toList]):=(by obtain⟨g1,Q⟩:=HD.out;rw[HE.out]at Q;rw[Q];exact⟨by rw[aK,g1];rfl,by simp⟩:_/\_)
   have p:au _:=J.out s wr X t.out;have M:(Dh s.data.toList).size<=2000000:=by
    unfold Dh;rw[fF,l_];have e1:DL.length=4:=rfl;have e2:s.data.toList.length=s.size:=by simp
    omega
   generalize Dh s.data.toList=Z at*;have b0:¬((i:Int)<(n:Int))\/¬((i:Int)<20):=by omega
   clear K;go_upto_region 3 with fail
   go_cut [15]from 8 to 38 (fun v wx=>v= .bool false/\wx=wr)
   case first=>
    by_cases h1:(i:Int)<(n:Int)
    ·have h2:¬((i:Int)<20):=b0.resolve_left (fun h=>h h1);go_wp2_with fail
     go_meet
     case rel=>exact⟨rfl,rfl⟩
    ·go_wp2_with fail
     go_meet
     case rel=>exact⟨rfl,rfl⟩
   case rest=>
    obtain⟨rfl,G⟩:=hcut;have G:=G.symm;subst G;go_wp2_with fail
    refine aU p.out ?_;rintro e w1 ⟨rfl,c⟩;have d:au _:=jS Y.out c;have f:au (aA w.heap.size w w1):=(t.out.trans (c.mono t.out.size):aA _ _ _);have g:=f.out.size;clear c
    go_wp2_with (first
     |(at_builtin;refine t_ rfl _ _ rfl w.heap.size _ i (nJ (D.map Dh)) Z d.out rfl rfl (by omega) g ?_;intro v' w2 b y;obtain⟨j,l,rfl⟩:=lI.jB b))
    have q:au _:=lI.mW f.out (ah _) g d.out y;have r:au (w2.ownsRow w.heap.size 9 1 (.slice (some ⟨j,0,none⟩) (i+1) l) x.length (nJ (x.map Dh))):=(by rw[N.out.1,N.out.2,Df];exact b:World.ownsRow _ _ _ _ _ _ _);clear b y;go_wp2_with fail
    go_ret;exact⟨_,rfl,r.out,q.out⟩
end Kp
namespace Kp
open Go.RowKit Rf Cr
open Pr
def uw(w:af)(v:ay)(L:List Nat):Prop:=∃(la:Option bG) (cap:Nat),v= .slice la L.length cap/\∀i,i<L.length->∃g,la=some ⟨g,0,none⟩/\w.cell? ⟨g,i,none⟩=some (.int .u16 ((L.getD i 0:Nat):Int))
theorem uw.below{w w':af}{v:ay}{L:List Nat}(h:uw w v L)(hb:aA w.heap.size w w'):uw w' v L:=by obtain⟨la,cap,e,b⟩:=h;refine⟨la,cap,e,fun i hi=> ?_⟩;obtain⟨g,c,a⟩:=b i hi;exact⟨g,c,(hb.cell (World.block_lt_of_cell? w ⟨g,i,none⟩ a)).trans a⟩
theorem Jm(W H:Int)(s1 s2:ay)(L:List Nat)(w:af)(h1:DR w s1 L)(h2:uw w s2 L)(G:L.length<=100000000):
 aH prog 21 #[.agg #[.int .i64 W,.int .i64 H,s1],.agg #[.int .i64 W,.int .i64 H,s2]] w fun e w'=>e= .returned (.bool true)/\aA w.heap.size w w':=by
 obtain⟨la,rfl,g⟩:=h1;obtain⟨lb,c,rfl,h⟩:=h2;have s:au _:=g;have t:au _:=h;clear g h;have j:au (∀(o:Obj) (m:Obj),aA w.heap.size w ((w.alloc o).alloc m)):=(fun o m=>((aV w.heap.size w).alloc (ah _) o).alloc (by simp) m:∀o m,aA _ _ _);generalize u:L.length=n at*;clear u;go_enter func21,ntmps21
 go_upto_region 1 with fail
 have z:=j.out (.cells #[.int .i64 W,.int .i64 H,.slice la n n] 35) (.cells #[.int .i64 W,.int .i64 H,.slice lb n c] 35);have p:((w.alloc (.cells #[.int .i64 W,.int .i64 H,.slice la n n] 35)).alloc (.cells #[.int .i64 W,.int .i64 H,.slice lb n c] 35)).heap[w.heap.size]?=_:=(xy _ _ (by simp)).trans (aP w _);have q:((w.alloc (.cells #[.int .i64 W,.int .i64 H,.slice la n n] 35)).alloc (.cells #[.int .i64 W,.int .i64 H,.slice lb n c] 35)).heap[w.heap.size+1]?=some (.cells #[.int .i64 W,.int .i64 H,.slice lb n c] 35 (0,0)):=by have:=aP (w.alloc (.cells #[.int .i64 W,.int .i64 H,.slice la n n] 35)) (.cells #[.int .i64 W,.int .i64 H,.slice lb n c] 35);rw[sG]at this;exact this
 have k:au _:=z;have a:au _:=p;have b:au _:=q;clear z p q j;revert k a b;generalize (w.alloc _).alloc _=w1;intro k a b;have p:w1.cell? ⟨w.heap.size,0,none⟩=some (.int .i64 W):=by simpa using(cell_of a.out 0).1
 have y:w1.cell? ⟨w.heap.size,1,none⟩=some (.int .i64 H):=by simpa using(cell_of a.out 1).1
 have v:w1.cell? ⟨w.heap.size,2,none⟩=some (.slice la n n):=by simpa using(cell_of a.out 2).1
 have q:w1.cell? ⟨w.heap.size+1,0,none⟩=some (.int .i64 W):=by simpa using(cell_of b.out 0).1
 have A:w1.cell? ⟨w.heap.size+1,1,none⟩=some (.int .i64 H):=by simpa using(cell_of b.out 1).1
 have x:w1.cell? ⟨w.heap.size+1,2,none⟩=some (.slice lb n c):=by simpa using(cell_of b.out 2).1
 go_wp2_with fail
 clear p y v q A x;go_loopw [5] (fun iv wx=> ∃i:Nat,iv= .int .i64 (i:Int)/\i<=n/\aA w1.heap.size w1 wx) (fun iv _=>n-(bH iv).toNat)
 case atStart=>exact⟨0,rfl,aX _,aV _ _⟩
 case round=>
  obtain⟨i,rfl,hi,hb⟩:=hrel;have r:w.heap.size<=w1.heap.size:=kD k.out;have v:wr.cell? ⟨w.heap.size,2,none⟩=some (.slice la n n):=by rw[hb.cell (ak a.out)];simpa using(cell_of a.out 2).1
  have x:wr.cell? ⟨w.heap.size+1,2,none⟩=some (.slice lb n c):=by rw[hb.cell (ak b.out)];simpa using(cell_of b.out 2).1
  by_cases l:i<n
  ·obtain⟨B,C,c1⟩:=s.out i l;obtain⟨D,E,c2⟩:=t.out i l;subst C E;have d:aA w.heap.size w wr:=jd k.out (hb.mono r);have d1:=(d.cell (World.block_lt_of_cell? w ⟨B,i,none⟩ c1)).trans c1;have d2:=(d.cell (World.block_lt_of_cell? w ⟨D,i,none⟩ c2)).trans c2;have f:au _:=hb;clear hb d c1 c2 r;go_wp2_with fail
   go_quiet (fail)
   go_wp2_with fail
   go_roundw
   case rel=>exact⟨i+1,by go_num,by omega,lI.lJ f.out⟩
   case measure=>simp[bH];omega
  ·have f:au _:=hb;have F:au _:=r;clear hb r;go_wp2_with fail
   go_ret;exact⟨rfl,jd k.out (Below.mono f.out F.out)⟩
theorem aaj(b:ByteArray)(W H:Nat)(dQ:List Nat)(iv:ay)(w:af)(eb fb lb:bG)(I:CY b 1048576 ⟨0,W,H,dQ⟩)(hD:KT w eb fb lb)(y:b.size<=140737488354000)(hI:uw w iv dQ)(z:dQ.length<=4194304):
 aH prog 7 #[.string b,.agg #[.int .i64 (W:Int),.int .i64 (H:Int),iv]] w fun e w'=>e= .returned (.bool true)/\aA w.heap.size w w':=by
 obtain⟨la,cap,A⟩:∃la cap,iv= .slice la dQ.length cap:=by obtain⟨la,cap,h,_⟩:=id hI;exact⟨la,cap,h⟩
 subst A;obtain⟨n,B⟩:∃n,n=dQ.length:=⟨_,rfl⟩;rw[<-B]at hI z|-;have C:au (uw w (.slice la n cap) dQ):=(hI:uw _ _ _);have J:au _:=I;have q:au _:=hD;have r:au _:=B;clear I hD hI B;go_enter func7,ntmps7
 go_wp2_with fail
 have o:au _:=aP w (.cells #[.int .i64 (W:Int),.int .i64 (H:Int),.slice la n cap] 35);have a:au (aA w.heap.size w (w.alloc (.cells #[.int .i64 (W:Int),.int .i64 (H:Int),.slice la n cap] 35))):=((aV _ _).alloc (ah _) _:aA _ _ _);obtain⟨s,t⟩:∃s,s=w.heap.size:=⟨_,rfl⟩;rw[<-t]at o|-;revert a o;generalize w.alloc _=w0;intro a o;refine aU (Gt b 1048576 (.slice none 0 0) [] w0 eb fb lb _ J.out (q.out.over a.out) (Le w0) Gz y) ?_;rintro e w1 ⟨⟨p,K,rfl,g⟩,j⟩;dsimp only at g|-;have k:au (aA w.heap.size w w1):=(a.out.trans (j.mono a.out.size):aA _ _ _);have l:au _:=(j.block _ (ak o.out)).trans o.out;have D:au _:=g;have E:n=K:=by have:=g.1;have h2:=r.out;omega
 subst E;have F:au (uw w1 (.slice la n cap) dQ):=(uw.below C.out k.out:uw _ _ _);clear g j o a t q J;go_upto_region 2 with fail
 have c:au _:=aP w1 (.cells #[.int .i64 (W:Int),.int .i64 (H:Int),.slice p n n] 35);have d:aA w1.heap.size w1 (w1.alloc (.cells #[.int .i64 (W:Int),.int .i64 (H:Int),.slice p n n] 35)):=(aV w1.heap.size w1).alloc (ah _) _;have f:au _:=(d.block _ (ak l.out)).trans l.out;have m:au _:=Jm (W:Int) (H:Int) (.slice p n n) (.slice la n cap) dQ (w1.alloc (.cells #[.int .i64 (W:Int),.int .i64 (H:Int),.slice p n n] 35)) (vW.dQ (vW.below D.out d)) (uw.below F.out d) (by have:=r.out;omega);have i:au (aA w.heap.size w (w1.alloc (.cells #[.int .i64 (W:Int),.int .i64 (H:Int),.slice p n n] 35))):=(k.out.trans (d.mono k.out.size):aA _ _ _);obtain⟨u,v⟩:∃u,u=w1.heap.size:=⟨_,rfl⟩;rw[<-v]at c|-;clear d l;revert i m f c;generalize w1.alloc _=w2;intro f m i c;have L:w2.cell? ⟨s,0,none⟩=some (.int .i64 (W:Int)):=by simpa using(cell_of f.out 0).1
 have M:w2.cell? ⟨s,1,none⟩=some (.int .i64 (H:Int)):=by simpa using(cell_of f.out 1).1
 have N:w2.cell? ⟨s,2,none⟩=some (.slice la n cap):=by simpa using(cell_of f.out 2).1
 have O:w2.cell? ⟨u,0,none⟩=some (.int .i64 (W:Int)):=by simpa using(cell_of c.out 0).1
 have P:w2.cell? ⟨u,1,none⟩=some (.int .i64 (H:Int)):=by simpa using(cell_of c.out 1).1
 have Q:w2.cell? ⟨u,2,none⟩=some (.slice p n n):=by simpa using(cell_of c.out 2).1
 clear v;go_wp2_with fail
 refine aU m.out ?_;rintro e w3 ⟨rfl,x⟩;have G:au (aA w.heap.size w w3):=(i.out.trans (x.mono i.out.size):aA _ _ _);clear x L M N O P Q;go_wp2_with fail
 go_ret;exact⟨rfl,G.out⟩
theorem ae9(b:ByteArray)(w:af)(eb fb lb:bG)(h:CY b 1048576 ⟨3,0,0,[]⟩)(hD:KT w eb fb lb)(f:b.size<=140737488354000):
 aH prog 9 #[.string b] w fun e w'=>e= .returned (.bool true)/\aA w.heap.size w w':=by
 go_enter func9,ntmps9
 go_wp2_with fail
 refine aU (Gt b 1048576 (.slice none 0 0) [] w eb fb lb _ h hD (Le w) Gz f) ?_;rintro e w1 ⟨⟨i,j,rfl,a⟩,c⟩;obtain rfl:j=0:=a.1.symm;have d:au _:=c;clear a c h hD;have g:au (aA w.heap.size w (w1.alloc (.cells #[.int .i64 0,.int .i64 0,.slice i 0 0] 35))):=(d.out.alloc d.out.size _:aA _ _ _);dsimp only;go_wp2_with fail
 go_ret;exact⟨rfl,g.out⟩
end Kp
end Go.Proofs.YtephkcdbnogdhabGreatDoor
