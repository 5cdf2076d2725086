import Derived.Test.YtephkcdbnogdhabGreatDoorM27
set_option linter.unusedVariables false
set_option maxHeartbeats 40000000
set_option maxRecDepth 10000
namespace Go.Proofs.YtephkcdbnogdhabGreatDoor
open Go.Proofs.Tryz
open Go renaming World->af,Value->ay,Calls->aH
open Go.RowKit renaming Hid->au,Below->aA
namespace Kp
open Go.RowKit Rf Cr
open Pr
open gI (bQ gQ fO)
theorem Dc{w w':af}(a:Ci w)(hb:4<w.heap.size)(h:aA w.heap.size w w'):Ci w':=fun i hi=>(h.cell (p:=⟨4,i,none⟩) hb).trans (a i hi)
theorem Wp(D K I:Nat)(hD:D<=255)(hK:K<=255)(hI:I<=255)(w:af)(b:Nat)(h:w.heap[b]?=some (.cells #[.int .u8 (D:Int),.int .u8 (K:Int),.int .u8 0,.int .u8 0,.int .u8 (I:Int)] 5 (0,0))):
 (convert 39 9 (.slice (some ⟨b,0,none⟩) 5 5)).run prog w= .ok (.string ⟨#[UInt8.ofNat D,UInt8.ofNat K,0,0,UInt8.ofNat I]⟩) w:=by
 refine Oz _ _ 5 5 [UInt8.ofNat D,UInt8.ofNat K,0,0,UInt8.ofNat I] rfl (fun i hi=> ?_);have hi:i<5:=hi;refine(cell_of h i).1.trans ?_;rcases(by omega:i=0\/i=1\/i=2\/i=3\/i=4)with rfl|rfl|rfl|rfl|rfl
 ·show some (Value.int .u8 (D:Int))=some (.int .u8 (((UInt8.ofNat D).toNat:Nat):Int));rw[dB,show(D:Int)=((D%2^8:Nat):Int)by omega]
 ·show some (Value.int .u8 (K:Int))=some (.int .u8 (((UInt8.ofNat K).toNat:Nat):Int));rw[dB,show(K:Int)=((K%2^8:Nat):Int)by omega]
 ·rfl
 ·rfl
 ·show some (Value.int .u8 (I:Int))=some (.int .u8 (((UInt8.ofNat I).toNat:Nat):Int));rw[dB,show(I:Int)=((I%2^8:Nat):Int)by omega]
theorem aae(D K J:Nat)(z:Int)(f:z=(J:Int))(hD:D<=255)(hK:K<=255)(g:J<=255):
 (∀(w:af) (a:Obj),(convert 39 9 (.slice (some ⟨w.heap.size+1,0,none⟩) 5 5)).run prog ((w.alloc a).alloc (.cells #[.int .u8 (IntKind.u8.wrap (D:Int)),.int .u8 (IntKind.u8.wrap (K:Int)),.int .u8 0,.int .u8 0,.int .u8 z] 5)).drew= .ok (.string ⟨#[UInt8.ofNat D,UInt8.ofNat K,0,0,UInt8.ofNat J]⟩) ((w.alloc a).alloc (.cells #[.int .u8 (IntKind.u8.wrap (D:Int)),.int .u8 (IntKind.u8.wrap (K:Int)),.int .u8 0,.int .u8 0,.int .u8 z] 5)).drew)/\
 (∀(w:af) (a o:Obj),(convert 39 9 (.slice (some ⟨w.heap.size+1+1,0,none⟩) 5 5)).run prog (((w.alloc a).alloc o).alloc (.cells #[.int .u8 (IntKind.u8.wrap (D:Int)),.int .u8 (IntKind.u8.wrap (K:Int)),.int .u8 0,.int .u8 0,.int .u8 z] 5)).drew= .ok (.string ⟨#[UInt8.ofNat D,UInt8.ofNat K,0,0,UInt8.ofNat J]⟩) (((w.alloc a).alloc o).alloc (.cells #[.int .u8 (IntKind.u8.wrap (D:Int)),.int .u8 (IntKind.u8.wrap (K:Int)),.int .u8 0,.int .u8 0,.int .u8 z] 5)).drew)/\
 (∀(w:af) (a o d:Obj),(convert 39 9 (.slice (some ⟨w.heap.size+1+1+1,0,none⟩) 5 5)).run prog ((((w.alloc a).alloc o).alloc d).alloc (.cells #[.int .u8 (IntKind.u8.wrap (D:Int)),.int .u8 (IntKind.u8.wrap (K:Int)),.int .u8 0,.int .u8 0,.int .u8 z] 5)).drew= .ok (.string ⟨#[UInt8.ofNat D,UInt8.ofNat K,0,0,UInt8.ofNat J]⟩) ((((w.alloc a).alloc o).alloc d).alloc (.cells #[.int .u8 (IntKind.u8.wrap (D:Int)),.int .u8 (IntKind.u8.wrap (K:Int)),.int .u8 0,.int .u8 0,.int .u8 z] 5)).drew)/\
 (∀(w:af) (a o:Obj),(convert 39 9 (.slice (some ⟨w.heap.size+1,0,none⟩) 5 5)).run prog (((w.alloc a).alloc (.cells #[.int .u8 (IntKind.u8.wrap (D:Int)),.int .u8 (IntKind.u8.wrap (K:Int)),.int .u8 0,.int .u8 0,.int .u8 z] 5)).alloc o).drew= .ok (.string ⟨#[UInt8.ofNat D,UInt8.ofNat K,0,0,UInt8.ofNat J]⟩) (((w.alloc a).alloc (.cells #[.int .u8 (IntKind.u8.wrap (D:Int)),.int .u8 (IntKind.u8.wrap (K:Int)),.int .u8 0,.int .u8 0,.int .u8 z] 5)).alloc o).drew)/\
 (∀(w:af) (a o d:Obj),(convert 39 9 (.slice (some ⟨w.heap.size+1,0,none⟩) 5 5)).run prog ((((w.alloc a).alloc (.cells #[.int .u8 (IntKind.u8.wrap (D:Int)),.int .u8 (IntKind.u8.wrap (K:Int)),.int .u8 0,.int .u8 0,.int .u8 z] 5)).alloc o).alloc d).drew= .ok (.string ⟨#[UInt8.ofNat D,UInt8.ofNat K,0,0,UInt8.ofNat J]⟩) ((((w.alloc a).alloc (.cells #[.int .u8 (IntKind.u8.wrap (D:Int)),.int .u8 (IntKind.u8.wrap (K:Int)),.int .u8 0,.int .u8 0,.int .u8 z] 5)).alloc o).alloc d).drew)/\
 (∀(w:af) (a o d:Obj),(convert 39 9 (.slice (some ⟨w.heap.size+1+1,0,none⟩) 5 5)).run prog ((((w.alloc a).alloc o).alloc (.cells #[.int .u8 (IntKind.u8.wrap (D:Int)),.int .u8 (IntKind.u8.wrap (K:Int)),.int .u8 0,.int .u8 0,.int .u8 z] 5)).alloc d).drew= .ok (.string ⟨#[UInt8.ofNat D,UInt8.ofNat K,0,0,UInt8.ofNat J]⟩) ((((w.alloc a).alloc o).alloc (.cells #[.int .u8 (IntKind.u8.wrap (D:Int)),.int .u8 (IntKind.u8.wrap (K:Int)),.int .u8 0,.int .u8 0,.int .u8 z] 5)).alloc d).drew):=by
 subst f;have i:IntKind.u8.wrap (D:Int)=(D:Int):=by show(D:Int)%256=D;omega
 have j:IntKind.u8.wrap (K:Int)=(K:Int):=by show(K:Int)%256=K;omega
 rw[i,j];have go:∀(u:af) (b:Nat),u.heap[b]?=some (.cells #[.int .u8 (D:Int),.int .u8 (K:Int),.int .u8 0,.int .u8 0,.int .u8 (J:Int)] 5 (0,0))->_:=fun u b h=>Wp D K J hD hK g u.drew b h;have e:∀(u:af) (o:Obj) (n:Nat),n=u.heap.size->(u.alloc o).heap[n]?=some o:=fun u o n h=>by rw[h];exact aP u o
 have c:∀(u:af) (o:Obj),(u.alloc o).heap.size=u.heap.size+1:=fun u o=>by simp
 refine⟨fun w a=>go _ _ ?_,fun w a o=>go _ _ ?_,fun w a o d=>go _ _ ?_,fun w a o=>go _ _ ?_,fun w a o d=>go _ _ ?_,fun w a o d=>go _ _ ?_⟩
 ·exact e _ _ _ (by rw[c])
 ·exact e _ _ _ (by rw[c,c])
 ·exact e _ _ _ (by rw[c,c,c])
 ·exact(xy _ _ (by rw[c,c];omega)).trans (e _ _ _ (by rw[c]))
 ·exact(xy _ _ (by rw[c,c,c];omega)).trans ((xy _ _ (by rw[c,c];omega)).trans (e _ _ _ (by rw[c])))
 ·exact(xy _ _ (by rw[c,c,c];omega)).trans (e _ _ _ (by rw[c,c]))
theorem Rw(W H K D:Nat)(I:Bool)(ev cv u:ay)(w:af)(h1:uu ev)(h2:uu cv)(G:uu u)(v:Ci w)(d:4<w.heap.size)(hW:W<=20)(hH:H<=20)(hK:K<=6)(hD:D<=16):
 aH prog 16 #[pW W H K D I ev cv u] w fun e w'=>e= .returned (.string ⟨(zN++qV tX (mg W H D K (if I=true then 1 else 0))).toArray⟩)/\aA w.heap.size w w':=by
 obtain⟨x,y,c1,rfl⟩:=h1;obtain⟨A,B,c2,rfl⟩:=h2;obtain⟨C,E,c3,rfl⟩:=G;obtain⟨J,g⟩:∃J:Nat,J=if I=true then 1 else 0:=⟨_,rfl⟩
 have L:J<=1:=by rw[g];split<;>omega
 rw[<-g];have h:au _:=fun(w':af)=>KW W w' (by omega);have i:au _:=fun(w':af)=>KW H w' (by omega);have c:∀z:Int,z=(J:Int)->_:=fun z M=>aae D K J z M (by omega) (by omega) (by omega);have k:(⟨(bQ W).toArray⟩:ByteArray).size=4:=rfl;have l:(⟨(bQ H).toArray⟩:ByteArray).size=4:=rfl;have m:(⟨#[UInt8.ofNat D,UInt8.ofNat K,0,0,UInt8.ofNat J]⟩:ByteArray).size=5:=rfl;have j:au (∀wx,aA w.heap.size w wx->aH prog 19 #[.string ⟨#[73,72,68,82]⟩,.string ((⟨(bQ W).toArray⟩:ByteArray)++(⟨(bQ H).toArray⟩:ByteArray)++(⟨#[UInt8.ofNat D,UInt8.ofNat K,0,0,UInt8.ofNat J]⟩:ByteArray))] wx fun e w'=>e= .returned (.string ⟨(qV tX (mg W H D K J)).toArray⟩)/\aA wx.heap.size wx w'):=(fun wx hb=>by
  have:=vX ⟨#[73,72,68,82]⟩ ((⟨(bQ W).toArray⟩:ByteArray)++(⟨(bQ H).toArray⟩:ByteArray)++(⟨#[UInt8.ofNat D,UInt8.ofNat K,0,0,UInt8.ofNat J]⟩:ByteArray)) wx (Dc v d hb) (aN d hb.size) rfl (by rw[gX,gX,k,l,m];omega);have e:((⟨(bQ W).toArray⟩:ByteArray)++(⟨(bQ H).toArray⟩:ByteArray)++(⟨#[UInt8.ofNat D,UInt8.ofNat K,0,0,UInt8.ofNat J]⟩:ByteArray)).data.toList=mg W H D K J:=by simp[mg]
  rw[e]at this;exact this:∀wx,_)
 have N:(⟨(qV tX (mg W H D K J)).toArray⟩:ByteArray).size=25:=by rw[fF,l_,vV];rfl
 have F:au ((⟨(zN++qV tX (mg W H D K J)).toArray⟩:ByteArray)=(⟨#[137,80,78,71,13,10,26,10]⟩:ByteArray)++⟨(qV tX (mg W H D K J)).toArray⟩):=(by apply gK;simp[zN]:_=_)
 rw[F.out];clear F v d;generalize (⟨(qV tX (mg W H D K J)).toArray⟩:ByteArray)=Z at*;generalize (⟨(bQ W).toArray⟩:ByteArray)=O at*;generalize (⟨(bQ H).toArray⟩:ByteArray)=P at*;generalize (⟨#[UInt8.ofNat D,UInt8.ofNat K,0,0,UInt8.ofNat J]⟩:ByteArray)=Q at*;unfold pW;unfold acB at*;go_enter func16,ntmps16
 cases I with
 |false=>
  obtain⟨n,o,p,q,r,s⟩:=c 0 (by rw[g];rfl);clear c g;go_upto_region 4 with fail
  have b:au (aA w.heap.size w (w.alloc (.cells #[.int .i64 (W:Int),.int .i64 (H:Int),.int .i64 (K:Int),.int .i64 (D:Int),.bool false,.slice x y c1,.slice A B c2,.slice C E c3] 26))):=((aV _ _).alloc (ah _) _:aA _ _ _)
  go_region_held (fun w'=>w'.cell? ⟨w.heap.size,0,none⟩=some (.int .i64 (W:Int))/\w'.cell? ⟨w.heap.size,1,none⟩=some (.int .i64 (H:Int))/\w'.cell? ⟨w.heap.size,2,none⟩=some (.int .i64 (K:Int))/\w'.cell? ⟨w.heap.size,3,none⟩=some (.int .i64 (D:Int)))
   (first|go_keep|(go_split_ands;refine⟨?_,?_,?_,?_⟩<;>(rw[a.cell (by simp<;>omega)];assumption))) (first
   |(go_at_call 26;go_must ((first|(with_reducible refine aU (h.out _) ?_)|(with_reducible refine aU (i.out _) ?_));rintro e w' ⟨rfl,rfl⟩))
   |(go_at_call 19;go_must (refine aU (j.out _ (by repeat first|exact b.out|refine Below.alloc ?_ (by simp<;>omega) _|refine Below.Bf ?_)) ?_;rintro e t ⟨rfl,a⟩)))
  all_goals
   have f:au (aA w.heap.size w t):=(jd (by repeat first|exact b.out|refine Below.alloc ?_ (by simp<;>omega) _|refine Below.Bf ?_) (a.mono (by simp<;>omega)):aA _ _ _);clear a;go_wp2_with fail
   go_ret;exact⟨rfl,f.out⟩
 |true=>
  obtain⟨n,o,p,q,r,s⟩:=c 1 (by rw[g];rfl);clear c g;go_upto_region 4 with fail
  have b:au (aA w.heap.size w (w.alloc (.cells #[.int .i64 (W:Int),.int .i64 (H:Int),.int .i64 (K:Int),.int .i64 (D:Int),.bool true,.slice x y c1,.slice A B c2,.slice C E c3] 26))):=((aV _ _).alloc (ah _) _:aA _ _ _)
  go_region_held (fun w'=>w'.cell? ⟨w.heap.size,0,none⟩=some (.int .i64 (W:Int))/\w'.cell? ⟨w.heap.size,1,none⟩=some (.int .i64 (H:Int))/\w'.cell? ⟨w.heap.size,2,none⟩=some (.int .i64 (K:Int))/\w'.cell? ⟨w.heap.size,3,none⟩=some (.int .i64 (D:Int)))
   (first|go_keep|(go_split_ands;refine⟨?_,?_,?_,?_⟩<;>(rw[a.cell (by simp<;>omega)];assumption))) (first
   |(go_at_call 26;go_must ((first|(with_reducible refine aU (h.out _) ?_)|(with_reducible refine aU (i.out _) ?_));rintro e w' ⟨rfl,rfl⟩))
   |(go_at_call 19;go_must (refine aU (j.out _ (by repeat first|exact b.out|refine Below.alloc ?_ (by simp<;>omega) _|refine Below.Bf ?_)) ?_;rintro e t ⟨rfl,a⟩)))
  all_goals
   have f:au (aA w.heap.size w t):=(jd (by repeat first|exact b.out|refine Below.alloc ?_ (by simp<;>omega) _|refine Below.Bf ?_) (a.mono (by simp<;>omega)):aA _ _ _);clear a;go_wp2_with fail
   go_ret;exact⟨rfl,f.out⟩
end Kp
end Go.Proofs.YtephkcdbnogdhabGreatDoor
