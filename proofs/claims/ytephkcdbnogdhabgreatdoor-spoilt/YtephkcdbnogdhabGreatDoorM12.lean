import Derived.Test.YtephkcdbnogdhabGreatDoorM3
import Derived.Test.YtephkcdbnogdhabGreatDoorM5
import Derived.Test.YtephkcdbnogdhabGreatDoorM10
set_option linter.unusedVariables false
set_option maxHeartbeats 40000000
set_option maxRecDepth 10000
namespace Go.Proofs.YtephkcdbnogdhabGreatDoor
open Go.Proofs.Tryz
open Go renaming World->af,Value->ay,Calls->aH,Addr->bG
open Go.RowKit renaming Hid->au,Below->aA
namespace Pr
open Go.RowKit Rf
open gI (oN iD qx)
theorem EU(a b:Int)(w:af)(h0: -2000<=a)(h1:a<=2000)(h2: -2000<=b)(f:b<=2000):
 aH prog 147 #[.int .i64 a,.int .i64 b] w fun e w'=>e= .returned (.int .i64 (oN a b))/\w'=w:=by
 obtain⟨V,c⟩:∃V,V=oN a b:=⟨_,rfl⟩;rw[<-c];have d:au _:=c;clear c;go_enter func147,ntmps147
 go_wp2_with fail
 all_goals
  go_ret;refine⟨bP ?_,rfl⟩;rw[d.out];unfold oN;split<;>omega
theorem MK(l a c:Nat)(w:af)(t:l<=255)(u:a<=255)(v:c<=255):
 aH prog 141 #[.int .i64 (l:Int),.int .i64 (a:Int),.int .i64 (c:Int)] w fun e w'=>e= .returned (.int .u8 ((iD 4 l a c:Nat):Int))/\w'=w:=by
 have k:oN ((l:Int)+a-c) l=oN a c:=by unfold oN;split<;>split<;>omega
 have m:oN ((l:Int)+a-c) a=oN l c:=by unfold oN;split<;>split<;>omega
 have n:oN ((l:Int)+a-c) c=oN ((l:Int)+a) (2*(c:Int)):=by unfold oN;split<;>split<;>omega
 have b:iD 4 l a c=if oN a c<=oN l c/\oN a c<=oN ((l:Int)+a) (2*(c:Int))then l else if oN l c<=oN ((l:Int)+a) (2*(c:Int))then a else c:=by show(if _ then l else _)=_;rw[k,m,n];first|rfl|simp
 obtain⟨V,o⟩:∃V,V=iD 4 l a c:=⟨_,rfl⟩;rw[<-o]at b|-;clear o;have d:=EU (a:Int) (c:Int) w (by omega) (by omega) (by omega) (by omega);have f:=EU (l:Int) (c:Int) w (by omega) (by omega) (by omega) (by omega);have D3:=EU ((l:Int)+a) (2*(c:Int)) w (by omega) (by omega) (by omega) (by omega);clear k m n;generalize oN (a:Int) c=p at*;generalize oN (l:Int) c=g at*;generalize oN ((l:Int)+a) (2*(c:Int))=i at*;have j:au _:=b;clear b;by_cases q:p<=g
 ·by_cases r:p<=i
  ·go_enter func141,ntmps141
   go_wp2_with fail
   refine d.mono ?_;rintro e w1 ⟨rfl,hw⟩;have hw:=hw.symm;subst hw;go_wp2_with fail
   refine f.mono ?_;rintro e w1 ⟨rfl,hw⟩;have hw:=hw.symm;subst hw;go_wp2_with fail
   refine D3.mono ?_;rintro e w1 ⟨rfl,hw⟩;have hw:=hw.symm;subst hw;go_wp2_with fail
   go_ret;refine⟨bP ?_,rfl⟩;rw[j.out,aG ⟨q,r⟩]
  ·have s:¬g<=i:=by omega
   go_enter func141,ntmps141
   go_wp2_with fail
   refine d.mono ?_;rintro e w1 ⟨rfl,hw⟩;have hw:=hw.symm;subst hw;go_wp2_with fail
   refine f.mono ?_;rintro e w1 ⟨rfl,hw⟩;have hw:=hw.symm;subst hw;go_wp2_with fail
   refine D3.mono ?_;rintro e w1 ⟨rfl,hw⟩;have hw:=hw.symm;subst hw;go_wp2_with fail
   go_ret;refine⟨bP ?_,rfl⟩;rw[j.out,ax (fun h=>by omega)];rw[ax (by omega)]
 ·by_cases s:g<=i
  all_goals
   go_enter func141,ntmps141
   go_wp2_with fail
   refine d.mono ?_;rintro e w1 ⟨rfl,hw⟩;have hw:=hw.symm;subst hw;go_wp2_with fail
   refine f.mono ?_;rintro e w1 ⟨rfl,hw⟩;have hw:=hw.symm;subst hw;go_wp2_with fail
   refine D3.mono ?_;rintro e w1 ⟨rfl,hw⟩;have hw:=hw.symm;subst hw;go_wp2_with fail
   go_ret;refine⟨bP ?_,rfl⟩;rw[j.out,ax (fun h=>by omega)];first|rw[aG (by omega)]|rw[ax (by omega)]
theorem UH(f l a c:Nat)(w:af)(q:f<=255)(h:l<=255)(i:a<=255)(j:c<=255):
 aH prog 133 #[.int .u8 (f:Int),.int .u8 (l:Int),.int .u8 (a:Int),.int .u8 (c:Int)] w fun e w'=>e= .returned (.int .u8 ((iD f l a c:Nat):Int))/\w'=w:=by
 have d:=MK l a c w h i j;have b:iD 3 l a c=(l+a)/2:=rfl;rcases(by omega:f=1\/f=2\/f=3\/f=4\/(f≠1/\f≠2/\f≠3/\f≠4))with rfl|rfl|rfl|rfl|⟨k,m,n,o⟩
 ·go_enter func133,ntmps133
  go_wp2_with fail
  go_ret;exact⟨rfl,rfl⟩
 ·go_enter func133,ntmps133
  go_wp2_with fail
  go_ret;exact⟨rfl,rfl⟩
 ·have p:au _:=b;clear b;go_enter func133,ntmps133
  go_wp2_with fail
  go_ret;refine⟨bP ?_,rfl⟩;rw[p.out];omega
 ·clear b;generalize iD 4 l a c=V at*;go_enter func133,ntmps133
  go_wp2_with fail
  refine d.mono ?_;rintro e w1 ⟨rfl,hw⟩;have hw:=hw.symm;subst hw;go_wp2_with fail
  go_ret;exact⟨rfl,rfl⟩
 ·have g:iD f l a c=0:=by unfold iD;rw[ax k,ax m,ax n,ax o]
  rw[g];have d1:((f:Int)==1)=false:=by rw[aI];omega
  have d2:((f:Int)==2)=false:=by rw[aI];omega
  have d3:((f:Int)==3)=false:=by rw[aI];omega
  have d4:((f:Int)==4)=false:=by rw[aI];omega
  clear g b d;go_enter func133,ntmps133
  go_wp2_with fail
  go_ret;exact⟨rfl,rfl⟩
def cu(e f t:Nat):Nat:=if e<=f then 0 else(e-f-1)/t+1
theorem jD(e f t:Nat)(w:af)(he:e<=4294967296)(d:f<=8)(c:t=1\/t=2\/t=4\/t=8):
 aH prog 111 #[.int .i64 (e:Int),.int .i64 (f:Int),.int .i64 (t:Int)] w fun x w'=>x= .returned (.int .i64 ((cu e f t:Nat):Int))/\w'=w:=by
 obtain⟨V,b⟩:∃V,V=cu e f t:=⟨_,rfl⟩;rw[<-b];have a:au _:=b;clear b;by_cases h:e<=f
 ·have h0:cu e f t=0:=by unfold cu;rw[aG h]
  rw[h0]at a;rw[a.out];go_enter func111,ntmps111
  go_wp2_with fail
  go_ret;exact⟨rfl,rfl⟩
 ·have h0:cu e f t=(e-f-1)/t+1:=by unfold cu;rw[ax h]
  rw[h0]at a;clear h0;rcases c with rfl|rfl|rfl|rfl
  all_goals
   go_enter func111,ntmps111
   go_wp2_with fail
   go_ret;refine⟨bP ?_,rfl⟩;rw[a.out];omega
theorem zI(W H D K:Nat)(I:Bool)(w:af)(hD:D<=16)(hK:K<=255):
 aH prog 91 #[qc W H D K I] w fun e w'=>e= .returned (.int .i64 ((D*aT K:Nat):Int))/\aA w.heap.size w w':=by
 have a:aT K<=4:=by unfold aT;(repeat' split)<;>omega
 have hS:=fun w'=>Be K w' hK;have hm:D*aT K<=16*4:=bD hD a;unfold qc;generalize aT K=n at*;have hmul:(D:Int)*(n:Int)=((D*n:Nat):Int):=by rw[jK]
 generalize D*n=M at*;go_enter func91,ntmps91
 go_wp2_with fail
 go_quiet ((go_at_call 110;exact iP (hS _)))
 go_wp2_with fail
 go_ret;exact⟨rfl,lI.lJ ((aV _ _).alloc (ah _) _)⟩
end Pr
namespace Pr
open Go.RowKit Rf
open gI (iD qx)
theorem EX{w:af}{g i j:Nat}{v x:ay}(h:w.cell? ⟨g,i,none⟩=some x)(c:i≠j):(w.setCell ⟨g,j,none⟩ v).cell? ⟨g,i,none⟩=some x:=by have:=World.cell?_setCell_other (w:=w) (a:=⟨g,j,none⟩) (b:=⟨g,i,none⟩) (v:=v) (fun e=>c (by cases e;rfl));rw[this];exact h
theorem P_(rb b:Nat)(w:af)(c:w.cell? ⟨rb,9,none⟩=some (.int .i64 0))(hb:b<=255)(d:4<b):
 aH prog 120 #[.pointer (some ⟨rb,6,none⟩),.int .u8 (b:Int)] w fun e w'=> ∃a,e= .returned (.iface 93 (.pointer (some a)))/\aA w.heap.size w w':=by
 go_enter func120,ntmps120
 go_wp2_with fail
 refine(cZ _ _).mono ?_;rintro e w1 ⟨rfl,rfl⟩;go_wp2_with fail
 go_ret;exact⟨_,rfl,(aV w.heap.size w).alloc (ah _) _⟩
theorem EY(rb d b:Nat)(fv:ay)(w:af)(c:w.cell? ⟨rb,6,none⟩=some (.int .i64 (d:Int)))(f:w.cell? ⟨rb,9,none⟩=some (.int .i64 0))(a:w.cell? ⟨rb,10,none⟩=some fv)(g:∀i,w.frozen? ⟨rb,i,none⟩=false)(h:b<=4):
 aH prog 120 #[.pointer (some ⟨rb,6,none⟩),.int .u8 (b:Int)] w fun e w'=>e= .returned .nilIface/\w'=(w.setCell ⟨rb,10,none⟩ (.int .u8 (b:Int))).setCell ⟨rb,9,none⟩ (.int .i64 (d:Int)):=by
 go_enter func120,ntmps120
 go_wp2_with fail
 go_ret;exact⟨rfl,rfl⟩
theorem JG(rb d n cap g t l f b g7 g8 x y z:Nat)(u:ay)(w:af)(c6:w.cell? ⟨rb,6,none⟩=some (.int .i64 (d:Int)))(c7:w.cell? ⟨rb,7,none⟩=some (.slice (some ⟨g7,0,none⟩) n cap))(c8:w.cell? ⟨rb,8,none⟩=some (.slice (some ⟨g8,0,none⟩) n g))(c9:w.cell? ⟨rb,9,none⟩=some (.int .i64 (t:Int)))(c10:w.cell? ⟨rb,10,none⟩=some (.int .u8 (f:Int)))
 (A:∀i,w.frozen? ⟨rb,i,none⟩=false) (G:1<=d) (o:t=l+d) (H:t<n) (W:n<=1000000000) (B:w.cell? ⟨g7,l,none⟩=some (.int .u8 (x:Int))) (C:w.cell? ⟨g8,t,none⟩=some (.int .u8 (y:Int))) (D:w.cell? ⟨g8,l,none⟩=some (.int .u8 (z:Int)))
 (bf:f<=255) (X:b<=255) (I:x<=255) (p:y<=255) (J:z<=255) (E:w.cell? ⟨g7,t,none⟩=some u) (h:w.frozen? ⟨g7,t,none⟩=false) (m:rb≠g7) (F:g8≠g7):
 aH prog 120 #[.pointer (some ⟨rb,6,none⟩),.int .u8 (b:Int)] w fun e w'=>e= .returned .nilIface/\∃nq,w'=((w.setCell ⟨g7,t,none⟩ (.int .u8 (((b+iD f x y z)%256:Nat):Int))).setCell ⟨rb,9,none⟩ (.int .i64 ((t+1:Nat):Int))).drewN nq:=by
 have K:=fun w'=>UH f x y z w' bf I p J
 generalize iD f x y z=q at*;obtain⟨V,r⟩:∃V,V=(b+q)%256:=⟨_,rfl⟩;rw[<-r];have L:au _:=r;clear r;have M:IntKind.u8.wrap ((b:Int)+(q:Int))=(V:Int):=by rw[IntKind.wrap_u8,L.out];omega
 have N:(t:Int)-(d:Int)=(l:Int):=by omega
 have Y:((t:Int)==0)=false:=by rw[aI];omega
 have O:l<n:=by omega
 have j:l≠t:=by omega
 clear o;go_enter func120,ntmps120
 go_wp2_with fail
 go_quiet (fail)
 go_wp2_with fail
 obtain⟨c,a⟩:∃c,c=w.drewN nq:=⟨_,rfl⟩;rw[<-a];have P:c.cell? ⟨rb,7,none⟩=some (.slice (some ⟨g7,0,none⟩) n cap):=by rw[a];exact c7
 have Q:c.cell? ⟨rb,8,none⟩=some (.slice (some ⟨g8,0,none⟩) n g):=by rw[a];exact c8
 have R:c.cell? ⟨rb,9,none⟩=some (.int .i64 (t:Int)):=by rw[a];exact c9
 have s:c.cell? ⟨rb,10,none⟩=some (.int .u8 (f:Int)):=by rw[a];exact c10
 have S:c.cell? ⟨g7,l,none⟩=some (.int .u8 (x:Int)):=by rw[a];exact B
 have T:c.cell? ⟨g8,t,none⟩=some (.int .u8 (y:Int)):=by rw[a];exact C
 have U:c.cell? ⟨g8,l,none⟩=some (.int .u8 (z:Int)):=by rw[a];exact D
 have Z:c.cell? ⟨g7,t,none⟩=some u:=by rw[a];exact E
 have kf:c.frozen? ⟨g7,t,none⟩=false:=by rw[a];exact h
 have kr:∀i,c.frozen? ⟨rb,i,none⟩=false:=fun i=>by rw[a];exact A i
 have k:au _:=a;have hS:∀v,(c.setCell ⟨g7,t,none⟩ v).cell? ⟨rb,7,none⟩=some (.slice (some ⟨g7,0,none⟩) n cap)/\(c.setCell ⟨g7,t,none⟩ v).cell? ⟨rb,8,none⟩=some (.slice (some ⟨g8,0,none⟩) n g)/\(c.setCell ⟨g7,t,none⟩ v).cell? ⟨rb,9,none⟩=some (.int .i64 (t:Int))/\(c.setCell ⟨g7,t,none⟩ v).cell? ⟨rb,10,none⟩=some (.int .u8 (f:Int))/\(c.setCell ⟨g7,t,none⟩ v).cell? ⟨g7,l,none⟩=some (.int .u8 (x:Int))/\(c.setCell ⟨g7,t,none⟩ v).cell? ⟨g8,t,none⟩=some (.int .u8 (y:Int))/\(c.setCell ⟨g7,t,none⟩ v).cell? ⟨g8,l,none⟩=some (.int .u8 (z:Int)):=fun v=>⟨(aQ (aC _ _ m)).trans P,(aQ (aC _ _ m)).trans Q,(aQ (aC _ _ m)).trans R,(aQ (aC _ _ m)).trans s,EX S j,(aQ (aC _ _ F)).trans T,(aQ (aC _ _ F)).trans U⟩
 clear a c6 c7 c8 c9 c10 B C D E h A j
 go_region_held3 (fun w'=>w'.cell? ⟨rb,7,none⟩=some (.slice (some ⟨g7,0,none⟩) n cap)/\w'.cell? ⟨rb,8,none⟩=some (.slice (some ⟨g8,0,none⟩) n g)/\w'.cell? ⟨rb,9,none⟩=some (.int .i64 (t:Int))/\w'.cell? ⟨rb,10,none⟩=some (.int .u8 (f:Int))/\w'.cell? ⟨g7,l,none⟩=some (.int .u8 (x:Int))/\w'.cell? ⟨g8,t,none⟩=some (.int .u8 (y:Int))/\w'.cell? ⟨g8,l,none⟩=some (.int .u8 (z:Int))) (first|go_keep|exact hS _) (first
  |(go_at_call 133;refine(K _).mono ?_;rintro e w3 ⟨rfl,rfl⟩))
 all_goals
  go_wp2_with fail
  go_ret
  first
   |(refine⟨rfl,nq+1,?_⟩;rw[k.out];rfl)
   |(refine⟨rfl,nq+1,?_⟩;rw[k.out,Int.natCast_add];rfl)
end Pr
namespace Pr
open Go.RowKit Rf
theorem uS(rb t n cap:Nat)(la:Option bG)(w:af)(a:w.cell? ⟨rb,9,none⟩=some (.int .i64 (t:Int)))(b:w.cell? ⟨rb,7,none⟩=some (.slice la n cap)):
 aH prog 122 #[.pointer (some ⟨rb,6,none⟩)] w fun e w'=>e= .returned (.bool (decide (t=n)))/\∃nq,w'=w.drewN nq:=by
 by_cases h:t=n
 ·have hd:decide (t=n)=true:=aZ h;rw[hd];clear hd;subst h;go_enter func122,ntmps122
  go_wp2_with fail
  go_quiet (fail)
  go_wp2_with fail
  go_ret;exact⟨by first|rfl|simp,_,rfl⟩
 ·have hd:decide (t=n)=false:=aS h;rw[hd];clear hd;have h2:((t:Int)==(n:Int))=false:=by rw[aI];omega
  go_enter func122,ntmps122
  go_wp2_with fail
  go_quiet (fail)
  go_wp2_with fail
  go_ret;exact⟨by first|rfl|simp[h2]|(simp;omega),_,rfl⟩
theorem JM(rb n cap a:Nat)(la lb:Option bG)(t:Int)(w:af)(b:w.cell? ⟨rb,7,none⟩=some (.slice la n cap))(c:w.cell? ⟨rb,8,none⟩=some (.slice lb n a))(d:w.cell? ⟨rb,9,none⟩=some (.int .i64 t))(f:∀i,w.frozen? ⟨rb,i,none⟩=false):
 aH prog 134 #[.pointer (some ⟨rb,6,none⟩)] w fun e w'=>e= .returned (.tuple #[])/\∃nq,w'=(((w.setCell ⟨rb,7,none⟩ (.slice lb n a)).setCell ⟨rb,8,none⟩ (.slice la n cap)).setCell ⟨rb,9,none⟩ (.int .i64 0)).drewN nq:=by
 go_enter func134,ntmps134
 go_wp2_with fail
 go_region
 all_goals
  go_wp2_with fail
  go_end0
  first
   |exact⟨rfl,1,rfl⟩
   |exact⟨rfl,_,rfl⟩
end Pr
namespace lI
open Go.RowKit Rf
end lI
namespace gI
open Go.RowKit Rf
theorem Rj(I:Nat)(hI:I<=1):(b_ I).length<=7/\∀q∈b_ I,q.1<=8/\1<=q.2.1/\q.2.1<=8/\q.2.2.1<=8/\1<=q.2.2.2/\q.2.2.2<=8:=by
 rcases(by omega:I=0\/I=1)with rfl|rfl
 ·refine⟨by decide,fun q a=> ?_⟩;simp[b_]at a;subst a;decide
 ·refine⟨by decide,fun q a=> ?_⟩;simp[b_]at a;rcases a with rfl|rfl|rfl|rfl|rfl|rfl|rfl<;>decide
end gI
end Go.Proofs.YtephkcdbnogdhabGreatDoor
