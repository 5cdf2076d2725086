import Derived.Test.YtephkcdbnogdhaaGreatDoorM26
set_option linter.unusedVariables false
set_option maxHeartbeats 40000000
set_option maxRecDepth 10000
namespace Go.Proofs.YtephkcdbnogdhaaGreatDoor
open Go.Proofs.Tryz
open Go renaming World->af,Value->ay,Calls->aF
open Go.RowKit renaming Hid->ah,Below->aJ,intOf->aX
namespace kW
open Go.RowKit Rf
def Wv(c f:Nat):Prop:=c%16=8/\c/16<=7/\(256*c+f)%31=0/\f/32%2=0
theorem YY(s:ByteArray)(n:Int)(w:af)(h:n<0\/16777216<n):
 aF prog 15 #[.string s,.int .i64 n] w fun e w'=>e= .returned (.tuple #[.string ⟨#[]⟩,.int .i64 1])/\w'=w:=by
 by_cases a:n<0
 ·go_enter func15,ntmps15
  go_wp2
  go_ret2;exact⟨rfl,rfl⟩
 ·have b:16777216<n:=by omega
  go_enter func15,ntmps15
  go_wp2
  go_ret2;exact⟨rfl,rfl⟩
theorem NW(s:ByteArray)(n:Nat)(w:af)(a:n<=16777216)(h:s.size<2):
 aF prog 15 #[.string s,.int .i64 (n:Int)] w fun e w'=>e= .returned (.tuple #[.string ⟨#[]⟩,.int .i64 3])/\w'=w:=by
 go_enter func15,ntmps15
 go_wp2
 go_ret2;exact⟨rfl,rfl⟩
theorem RG(s:ByteArray)(n:Nat)(w:af)(t:n<=16777216)(u:¬s.size<2)(c f:Nat)(k:(s[0]'(by omega)).toNat=c)(l:(s[1]'(by omega)).toNat=f)(h:¬Wv c f):
 aF prog 15 #[.string s,.int .i64 (n:Int)] w fun e w'=>e= .returned (.tuple #[.string ⟨#[]⟩,.int .i64 3])/\w'=w:=by
 have m:c<=255:=by rw[<-k];have:=(s[0]'(by omega)).toNat_lt;omega
 have o:f<=255:=by rw[<-l];have:=(s[1]'(by omega)).toNat_lt;omega
 have p:0<s.size:=by omega
 by_cases a:c%16=8
 ·have d:((c:Int)%16 !=8)=false:=by rw[bn];omega
  by_cases b:c/16<=7
  ·have g:¬(7:Int)<(c:Int)/16:=by omega
   by_cases i:(256*c+f)%31=0
   ·have j:((256*(c:Int)+(f:Int))%31 !=0)=false:=by rw[bn];omega
    have q:f/32%2≠0:=fun e=>h ⟨a,b,i,e⟩;have r:((f:Int)/32%2 !=0)=true:=by rw[dG];omega
    clear h a b i q;go_enter func15,ntmps15
    go_wp2
    go_ret2;exact⟨rfl,rfl⟩
   ·have j:((256*(c:Int)+(f:Int))%31 !=0)=true:=by rw[dG];omega
    clear h a b i;go_enter func15,ntmps15
    go_wp2
    go_ret2;exact⟨rfl,rfl⟩
  ·have g:(7:Int)<(c:Int)/16:=by omega
   clear h a b;go_enter func15,ntmps15
   go_wp2
   go_ret2;exact⟨rfl,rfl⟩
 ·have d:((c:Int)%16 !=8)=true:=by rw[dG];omega
  clear h a;go_enter func15,ntmps15
  go_wp2
  go_ret2;exact⟨rfl,rfl⟩
def rF(s:ByteArray):Nat->Nat->Nat->Bool
 |0,_,_=>true
 |j+1,i,a=>if aA s (s.size-1-i)=a%256 then rF s j (i+1) (a/256)else false
def adA(l:List UInt8):Nat:=65536*(Ad.wF 1 0 l).2+(Ad.wF 1 0 l).1
def NY(s:ByteArray)(n:Nat)(U:US):Bool:= !U.st.dA&&decide (U.out.length=n)&&decide (2+(U.st.pos+7)/8+4=s.size)&&rF s 4 0 (adA U.out)
def JG(b:Bool)(out:List UInt8):ay:=if b then .tuple #[.string ⟨out.toArray⟩,.int .i64 0]else .tuple #[.string ⟨#[]⟩,.int .i64 3]
theorem aeS(l:List UInt8):adA l<4294967296:=by have:=Ad.Ea l 1 0 (by omega) (by omega);unfold adA;omega
theorem afu(k:Nat)(h:k<=7):1<=pw (k+8)/\pw (k+8)<=32768:=by rcases(by omega:k=0\/k=1\/k=2\/k=3\/k=4\/k=5\/k=6\/k=7)with rfl|rfl|rfl|rfl|rfl|rfl|rfl|rfl<;>decide
theorem abS(c:Nat)(h:c/16<=7):IntKind.i64.wrap (IntKind.i64.wrap ((c:Int)/16)+8)=((c/16+8:Nat):Int):=by
 have a:IntKind.i64.wrap ((c:Int)/16)=(c:Int)/16:=by rw[bK];omega
 have b:IntKind.i64.wrap ((c:Int)/16+8)=(c:Int)/16+8:=by rw[bK];omega
 rw[a,b];omega
theorem RH(s:ByteArray)(j i a:Nat)(h:aA s (s.size-1-i)≠a%256):rF s (j+1) i a=false:=by unfold rF;rw[au h]
theorem LH(s:ByteArray)(j i a:Nat)(h:aA s (s.size-1-i)=a%256):rF s (j+1) i a=rF s j (i+1) (a/256):=by rw[rF,aC h]
theorem YL(s:ByteArray)(j:Nat)(h:j<s.size):aA s j=(s[j]'h).toNat:=by unfold aA;simp[h];rfl
theorem LJ(s:ByteArray)(n:Nat)(w:af)(hs:s.size<=140737488351232)(hn:n<=16777216)(h2:¬s.size<2)(c f:Nat)(U:(s[0]'(by omega)).toNat=c)(W:(s[1]'(by omega)).toNat=f)(h:Wv c f)
 (o:ByteArray) (u m:Nat) (V:ay)
 (hI:∀w',aF prog 13 #[.string (s.extract 2 s.size),.int .i64 ((pw (c/16+8):Nat):Int),.int .i64 (n:Int)] w' fun e w2=>e= .returned (.tuple #[.string o,.int .i64 (u:Int),.int .i64 (m:Int)])/\aJ w'.heap.size w' w2/\u<=140737488351232/\o.size<=100000000)
 (K:V=JG (decide (m=0)&&decide (o.size=n)&&decide (2+u+4=s.size)&&rF s 4 0 (adA o.data.toList)) o.data.toList):
 aF prog 15 #[.string s,.int .i64 (n:Int)] w fun e w'=>e= .returned V/\aJ w.heap.size w w':=by
 have X:c<=255:=by rw[<-U];have:=(s[0]'(by omega)).toNat_lt;omega
 have Y:f<=255:=by rw[<-W];have:=(s[1]'(by omega)).toNat_lt;omega
 have Z:0<s.size:=by omega
 obtain⟨k1,L,k3,k4⟩:=h;have x:((c:Int)%16 !=8)=false:=by rw[bn];omega
 have y:¬(7:Int)<(c:Int)/16:=by omega
 have z:((256*(c:Int)+(f:Int))%31 !=0)=false:=by rw[bn];omega
 have A:((f:Int)/32%2 !=0)=false:=by rw[bn];omega
 have g:ah _:=K;have i:ah _:=L;clear K k1 k3 k4 L;have M:ah (IntKind.i64.wrap (IntKind.i64.wrap ((c:Int)/16)+8)=((c/16+8:Nat):Int)):=abS c i.out;go_enter func15,ntmps15
 go_upto_region 9 with fail
 go_cut [8,9,10] (fun v8 v9 v10 wx=>v8= .string o/\v9= .int .i64 (u:Int)/\v10= .int .i64 (m:Int)/\aJ w.heap.size w wx/\u<=140737488351232/\o.size<=100000000)
 case first=>
  as_aux_lemma=>
   go_region_with (first|(go_at_call 46;refine(uo (c/16+8) _ M.out _ (by have:=i.out;omega)).mono ?_;rintro e w3 ⟨rfl,rfl⟩)|(go_at_call 13;refine(hI _).mono ?_;rintro e w3 ⟨rfl,hb,B,C⟩))
   all_goals
    go_wp2_with fail
    go_meet
    case rel=>exact⟨rfl,rfl,rfl,⟨hb.os,hb.tape,hb.output,hb.size,hb.block⟩,B,C⟩
 case rest=>
  obtain⟨rfl,rfl,rfl,hb,hu,ho⟩:=hcut;clear hI M i x y z A;by_cases D:m=0
  ·subst D;by_cases p:o.size=n
   ·have E:((o.size:Int) !=(n:Int))=false:=by rw[bn];omega
    by_cases v:2+u+4=s.size
    ·have F:(2+(u:Int)+4 !=(s.size:Int))=false:=by rw[bn];omega
     have N:ah (V=JG (rF s 4 0 (adA o.data.toList)) o.data.toList):=(by rw[g.out];simp[p,v]:_=_);have q:ah (65536*(Ad.wF 1 0 o.data.toList).2+(Ad.wF 1 0 o.data.toList).1=adA o.data.toList):=rfl;have O:ah (adA o.data.toList<4294967296):=aeS o.data.toList;have a1:6<=s.size:=by omega
     clear g p v;go_wp2_with fail
     refine(YX.adK o _ (by unfold maxLen;omega)).mono ?_;rintro e w1 ⟨rfl,rfl⟩;rw[q.out];have G:=O.out;clear q O;generalize adA o.data.toList=H at*;have HO:ah ((⟨o.data.toList.toArray⟩:ByteArray)=o):=(by cases o;simp:_=_);generalize o.data.toList=ol at*;go_wp2_with fail
     go_loop [11,12] (fun av I=> ∃(k a:Nat),k<=4/\I= .int .i64 (k:Int)/\av= .int .i64 (a:Int)/\a<4294967296/\rF s 4 0 H=rF s (4-k) k a) (fun _ I=>4-(aX I).toNat)
     case atStart=>exact⟨0,H,by omega,rfl,rfl,G,rfl⟩
     case round=>
      obtain⟨k,a,hk,rfl,rfl,ha,P⟩:=hrel;have l:ah _:=P;clear P;by_cases a2:k<4
      ·obtain⟨j,Q⟩:∃j,j=s.size-1-k:=⟨_,rfl⟩;have b:j<s.size:=by omega
       have a3:(s.size:Int)-1-(k:Int)=(j:Int):=by omega
       have R:ah _:=Q;clear Q;have S:ah (aA s j=(s[j]'b).toNat):=YL s j b;have a4:(s[j]'b).toNat<=255:=by have:=(s[j]'b).toNat_lt;omega
       obtain⟨r,T⟩:∃r,4-k=r+1:=⟨3-k,by omega⟩;have J:ah _:=T;clear T;by_cases hx:(s[j]'b).toNat=a%256
       ·have t:(((s[j]'b).toNat:Int) !=(a:Int)%256)=false:=by rw[bn];omega
        have d:ah (rF s 4 0 H=rF s (4-(k+1)) (k+1) (a/256)):=(by rw[l.out,J.out,LH s r k a (by rw[<-R.out,S.out];exact hx)];congr 1;have:=J.out;omega:_=_);clear hx;go_wp2_with fail
        go_round
        case rel=>exact⟨k+1,a/256,by omega,by go_num,by go_num,by omega,d.out⟩
        case measure=>simp[aX];omega
       ·have t:(((s[j]'b).toNat:Int) !=(a:Int)%256)=true:=by rw[dG];omega
        have d:ah (V= .tuple #[.string ⟨#[]⟩,.int .i64 3]):=(by rw[N.out,l.out,J.out,RH s r k a (by rw[<-R.out,S.out];exact hx)];rfl:_=_);clear hx;go_wp2_with fail
        go_ret2;exact⟨(gY Ending.returned d.out).symm,hb⟩
      ·have d:ah (V= .tuple #[.string o,.int .i64 0]):=(by rw[N.out,l.out,show 4-k=0 by omega];unfold JG rF;rw[aC rfl,HO.out]:_=_);go_wp2_with fail
       go_ret2;exact⟨(gY Ending.returned d.out).symm,hb⟩
    ·have F:(2+(u:Int)+4 !=(s.size:Int))=true:=by rw[dG];omega
     have d:ah (V= .tuple #[.string ⟨#[]⟩,.int .i64 3]):=(by rw[g.out];simp[v,JG]:_=_);clear g p v;go_wp2_with fail
     go_ret2;exact⟨(gY Ending.returned d.out).symm,hb⟩
   ·have E:((o.size:Int) !=(n:Int))=true:=by rw[dG];omega
    have d:ah (V= .tuple #[.string ⟨#[]⟩,.int .i64 3]):=(by rw[g.out];simp[p,JG]:_=_);clear g p;go_wp2_with fail
    go_ret2;exact⟨(gY Ending.returned d.out).symm,hb⟩
  ·have a5:((m:Int) !=0)=true:=by rw[dG];omega
   have d:ah (V= .tuple #[.string ⟨#[]⟩,.int .i64 3]):=(by rw[g.out];simp[D,JG]:_=_);clear g D;go_wp2_with fail
   go_ret2;exact⟨(gY Ending.returned d.out).symm,hb⟩
theorem NZ(s:ByteArray)(n:Nat)(w:af)(hs:s.size<=140737488351232)(b:n<=16777216)(k:¬s.size<2)(c f:Nat)(l:(s[0]'(by omega)).toNat=c)(m:(s[1]'(by omega)).toNat=f)(h:Wv c f):
 aF prog 15 #[.string s,.int .i64 (n:Int)] w fun e w'=>e= .returned (JG (NY s n (uX (s.extract 2 s.size) (pw (c/16+8)) n)) (uX (s.extract 2 s.size) (pw (c/16+8)) n).out)/\aJ w.heap.size w w':=by
 have hp:=afu (c/16) h.2.1;have a:(s.extract 2 s.size).size<=140737488351232:=by rw[ByteArray.size_extract];omega
 generalize d:uX (s.extract 2 s.size) (pw (c/16+8)) n=U;by_cases hb:U.st.dA=true
 ·refine LJ s n w hs b k c f l m h ⟨#[]⟩ 0 3 _ (fun w'=> ?_) ?_
  ·refine(JE _ _ n w' a hp.1 hp.2 b).mono ?_;rintro e w2 ⟨rfl,g⟩;exact⟨by rw[d];unfold Ls;rw[aC hb];rfl,g,by omega,by decide⟩
  ·have i:NY s n U=false:=by unfold NY;rw[hb];rfl
   rw[i];rfl
 ·have j:U.st.dA=false:=by simpa using hb
  refine LJ s n w hs b k c f l m h ⟨U.out.toArray⟩ ((U.st.pos+7)/8) 0 _ (fun w'=> ?_) ?_
  ·refine(Iu _ _ n w' a hp.1 hp.2 b).mono ?_;rintro e w2 ⟨rfl,g,h3,o⟩;rw[d]at h3 o;exact⟨by rw[d];unfold Ls;rw[au hb];rfl,g,by omega,by show U.out.toArray.size<=_;rw[List.size_toArray];omega⟩
  ·have i:NY s n U=(decide ((0:Nat)=0)&&decide ((⟨U.out.toArray⟩:ByteArray).size=n)&&decide (2+(U.st.pos+7)/8+4=s.size)&&rF s 4 0 (adA U.out)):=by
    unfold NY;rw[j];rfl
   rw[i]
end kW
end Go.Proofs.YtephkcdbnogdhaaGreatDoor
