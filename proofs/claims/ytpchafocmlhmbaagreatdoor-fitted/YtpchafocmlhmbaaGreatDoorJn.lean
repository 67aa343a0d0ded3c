/- Two lists one Kiw the other (slices.Concat). -/
import Derived.Test.YtpchafocmlhmbaaGreatDoorJm
import Derived.Lib.AppendZeros
set_option maxHeartbeats 1000000
set_option maxRecDepth 100000
namespace Go.Proofs.YtpchafocmlhmbaaGreatDoor
open Go.RowKit Go.Shelf Go.Maps Tryz
attribute [local go_sem] Oc0
theorem Kts (b o j:Nat):(⟨b,o,none⟩:Addr).add j=⟨b,o+j,none⟩:=by unfold Addr.add;split<;>simp_all
theorem Kug (w:World)(n cap:Nat)(e:TypeId)(z:Value)(D:n≤cap)(y:cap≤maxLen):Jo (w.alloc (.cells (Builtin.zeroCells #[z] n++Builtin.zeroCells #[z] (cap-n)) e)).drew w.heap.size e (.slice (some ⟨w.heap.size,0,none⟩) 0 cap) []:=by
 refine⟨rfl,.inr ⟨w.heap.size,cap,_,rfl,Oa2 _,heap_alloc_new w _,Ob7 _,y,?_,by simp⟩⟩;simp[Builtin.zeroCells];omega
theorem Kwl (n:Nat)(R:1≤n)(hn:n≤4000)(w:World):Calls prog 232 #[.slice none 0 0,.int .i64 (n:Nat)] w fun e w'=>Below w.heap.size w w'∧∃ sv,e=.returned sv∧Jo w' w.heap.size 40 sv []:=by
 obtain⟨i,hi,O,K,D⟩:=info_parts Jps;have hr:=fun y=>Lib.run_append_nil_zeros (P:=prog) y 72 3 72 40 i (.slice none 0 0) .i64 .i64 underlying72 underlying3 hi O n (by omega) (by rw[K];omega) (by omega) (by rw[D];omega);have j1:¬ ((n:Int)<0):=by omega
 have j2:(n:Int)>0:=by omega
 have E:=fun y=>grownCap_ge y n 0 40;have H:=fun y=>grownCap_le_maxLen y n 0 40 (by unfold maxLen;omega);go_enter func232,ntmps232
 go_wp2_with (at_builtin;refine Lib.wpList_append_run _ rfl _ _ _ _ rfl _ _ rfl rfl _ _ (hr _) ?_)
 go_ret
 exact⟨Jj (Jc (Oa5 _ _) _),_,rfl,Kug w n (grownCap w n 0 40) 40 (.slice none 0 0) (E w) (H w)⟩
theorem Kvi (g c1 c2 bE:Nat)(b1 H b2 K:Nat)(y D:List Value)(w:World)(bc:w.cell? ⟨g,0,none⟩=some (.slice (some ⟨b1,H,none⟩) y.length c1))(bf:w.cell? ⟨g,1,none⟩=some (.slice (some ⟨b2,K,none⟩) D.length c2))
  (br:∀ j u,y[j]?=some u→w.cell? ⟨b1,H+j,none⟩=some u) (bx:∀ j u,D[j]?=some u→w.cell? ⟨b2,K+j,none⟩=some u) (U:∀ u∈y++D,u.oneCell'=true) (hl:1≤y.length) (bN:y.length≤1000) (bO:D.length≤1000) :
  Calls prog 195 #[.slice (some ⟨g,0,none⟩) 2 bE] w fun e w'=>Below w.heap.size w w'∧∃ sv,e=.returned sv∧Jo w' w.heap.size 40 sv (y++D):=by
 have O:Hid ((∀ j u,y[j]?=some u→w.cell? ⟨b1,H+j,none⟩=some u)∧(∀ j u,D[j]?=some u→w.cell? ⟨b2,K+j,none⟩=some u)∧(∀ u∈y,u.oneCell'=true)∧∀ u∈D,u.oneCell'=true):=⟨br,bx,fun u E=>U u (List.mem_append_left _ E),fun u E=>U u (List.mem_append_right _ E)⟩;have bj:=Kwl (y.length+D.length) (by omega) (by omega);clear br bx U;go_enter func195,ntmps195
 go_upto_region 3 with fail
 go_loopw [3,11] (fun s i wr=>Hid (w=wr)∧((i=.int .i64 0∧s=.int .i64 0)∨(i=.int .i64 1∧s=.int .i64 (y.length:Nat))∨(i=.int .i64 2∧s=.int .i64 ((y.length+D.length:Nat):Int)))) (fun _ i _=>2-(intOf i).toNat)
 case atStart=>exact⟨rfl,.inl ⟨rfl,rfl⟩⟩
 case round=>
  obtain⟨X,bG⟩:=hrel;have X:w=wr:=X.out;subst X;obtain⟨rfl,rfl⟩|⟨rfl,rfl⟩|⟨rfl,rfl⟩:=bG
  ·have j1:¬ ((y.length:Int)<0):=(by omega);go_wp2;go_roundw
   case rel=>refine⟨(trivial:True),?_⟩;simp
   case measure=>simp[intOf]
  ·have j1:¬ ((y.length:Int)+(D.length:Int)<0):=(by omega);have j2:IntKind.i64.wrap ((y.length:Int)+(D.length:Int))=(y.length:Int)+(D.length:Int):=by rw[Od4];omega
   go_wp2;go_roundw
   case rel=>refine⟨(trivial:True),?_⟩;simp
   case measure=>simp[intOf]
  go_upto_region 11 with(go_at_call 232;go_must (refine(bj _).mono ?_);rintro e ba ⟨bi,bJ,rfl,bn⟩)
  have bz:Hid _:=bc;have bA:Hid _:=bf;clear bc bf;have bC:Hid (Below w.heap.size w ba∧Jo ba w.heap.size 40 bJ []):=⟨bi,bn⟩;clear bi bn bj;have bB:Hid (∀ R,Below w.heap.size w R→R.cell? ⟨g,0,none⟩=some (.slice (some ⟨b1,H,none⟩) y.length c1)∧R.cell? ⟨g,1,none⟩=some (.slice (some ⟨b2,K,none⟩) D.length c2)):=fun R bh=>⟨Ja bh bz.out,Ja bh bA.out⟩;go_loopw [6,27] (fun sv i wr=>∃ k:Nat,k≤2∧i=.int .i64 (k:Nat)∧Hid (Below w.heap.size w wr∧Jo wr w.heap.size 40 sv (if k=0 then []else if k=1 then y else y++D))) (fun _ i _=>2-(intOf i).toNat)
  case atStart=>exact⟨0,by omega,rfl,bC.out⟩
  case round=>
   obtain⟨k,bM,rfl,hI⟩:=hrel;obtain⟨bK,bL⟩:=bB.out _ hI.out.1;have bH:k=0∨k=1∨k=2:=(by omega);rcases bH with rfl|rfl|rfl
   ·go_wp2_with (at_builtin;go_must (refine Ul (by rfl) _ _ 72 40 _ 24 Jps (by rfl) (by decide) (by kernel_rfl) (by rfl) w.heap.size _ _ (by rfl) hI.out.2 ⟨b1,H,none⟩ c1 y (by rfl) (fun j u E=>by rw[Kts];exact Ja hI.out.1 (O.out.1 j u E)) (O.out.2.2.1) (by simp;omega) (by have:=hI.out.1.size;omega) ?_);intro sv' bD Y Z bI)
    go_roundw
    case rel=>exact⟨1,by omega,rfl,Jy hI.out.1 Z fun g e=>(Je hI.out.2 e).1,by simpa using Y⟩
    case measure=>simp[intOf]
   ·go_wp2_with (at_builtin;go_must (refine Ul (by rfl) _ _ 72 40 _ 24 Jps (by rfl) (by decide) (by kernel_rfl) (by rfl) w.heap.size _ _ (by rfl) hI.out.2 ⟨b2,K,none⟩ c2 D (by rfl) (fun j u E=>by rw[Kts];exact Ja hI.out.1 (O.out.2.1 j u E)) (O.out.2.2.2) (by simp;omega) (by have:=hI.out.1.size;omega) ?_);intro sv' bD Y Z bI)
    go_roundw
    case rel=>exact⟨2,by omega,rfl,Jy hI.out.1 Z fun g e=>(Je hI.out.2 e).1,by simpa using Y⟩
    case measure=>simp[intOf]
   go_wp2;go_ret
   exact⟨hI.out.1,_,rfl,by simpa using hI.out.2⟩
theorem Kwn (n:Nat)(R:1≤n)(hn:n≤4000)(w:World):Calls prog 215 #[.slice none 0 0,.int .i64 (n:Nat)] w fun e w'=>Below w.heap.size w w'∧∃ sv,e=.returned sv∧Jo w' w.heap.size 3 sv []:=by
 obtain⟨i,hi,O,K,D⟩:=info_parts Kp4;have hr:=fun y=>Lib.run_append_nil_zeros (P:=prog) y 22 3 22 3 i (.int .i64 0) .i64 .i64 underlying22 underlying3 hi O n (by omega) (by rw[K];omega) (by omega) (by rw[D];omega);have j1:¬ ((n:Int)<0):=by omega
 have j2:(n:Int)>0:=by omega
 have E:=fun y=>grownCap_ge y n 0 3;have H:=fun y=>grownCap_le_maxLen y n 0 3 (by unfold maxLen;omega);go_enter func215,ntmps215
 go_wp2_with (at_builtin;refine Lib.wpList_append_run _ rfl _ _ _ _ rfl _ _ rfl rfl _ _ (hr _) ?_)
 go_ret
 exact⟨Jj (Jc (Oa5 _ _) _),_,rfl,Kug w n (grownCap w n 0 3) 3 (.int .i64 0) (E w) (H w)⟩
theorem Kvj (g c1 c2 bE:Nat)(b1 H b2 K:Nat)(y D:List Value)(w:World)(bc:w.cell? ⟨g,0,none⟩=some (.slice (some ⟨b1,H,none⟩) y.length c1))(bf:w.cell? ⟨g,1,none⟩=some (.slice (some ⟨b2,K,none⟩) D.length c2))
  (br:∀ j u,y[j]?=some u→w.cell? ⟨b1,H+j,none⟩=some u) (bx:∀ j u,D[j]?=some u→w.cell? ⟨b2,K+j,none⟩=some u) (U:∀ u∈y++D,u.oneCell'=true) (hl:1≤y.length) (bN:y.length≤1000) (bO:D.length≤1000) :
  Calls prog 172 #[.slice (some ⟨g,0,none⟩) 2 bE] w fun e w'=>Below w.heap.size w w'∧∃ sv,e=.returned sv∧Jo w' w.heap.size 3 sv (y++D):=by
 have O:Hid ((∀ j u,y[j]?=some u→w.cell? ⟨b1,H+j,none⟩=some u)∧(∀ j u,D[j]?=some u→w.cell? ⟨b2,K+j,none⟩=some u)∧(∀ u∈y,u.oneCell'=true)∧∀ u∈D,u.oneCell'=true):=⟨br,bx,fun u E=>U u (List.mem_append_left _ E),fun u E=>U u (List.mem_append_right _ E)⟩;have bj:=Kwn (y.length+D.length) (by omega) (by omega);clear br bx U;go_enter func172,ntmps172
 go_upto_region 3 with fail
 go_loopw [3,11] (fun s i wr=>Hid (w=wr)∧((i=.int .i64 0∧s=.int .i64 0)∨(i=.int .i64 1∧s=.int .i64 (y.length:Nat))∨(i=.int .i64 2∧s=.int .i64 ((y.length+D.length:Nat):Int)))) (fun _ i _=>2-(intOf i).toNat)
 case atStart=>exact⟨rfl,.inl ⟨rfl,rfl⟩⟩
 case round=>
  obtain⟨X,bG⟩:=hrel;have X:w=wr:=X.out;subst X;obtain⟨rfl,rfl⟩|⟨rfl,rfl⟩|⟨rfl,rfl⟩:=bG
  ·have j1:¬ ((y.length:Int)<0):=(by omega);go_wp2;go_roundw
   case rel=>refine⟨(trivial:True),?_⟩;simp
   case measure=>simp[intOf]
  ·have j1:¬ ((y.length:Int)+(D.length:Int)<0):=(by omega);have j2:IntKind.i64.wrap ((y.length:Int)+(D.length:Int))=(y.length:Int)+(D.length:Int):=by rw[Od4];omega
   go_wp2;go_roundw
   case rel=>refine⟨(trivial:True),?_⟩;simp
   case measure=>simp[intOf]
  go_upto_region 11 with(go_at_call 215;go_must (refine(bj _).mono ?_);rintro e ba ⟨bi,bJ,rfl,bn⟩)
  have bz:Hid _:=bc;have bA:Hid _:=bf;clear bc bf;have bC:Hid (Below w.heap.size w ba∧Jo ba w.heap.size 3 bJ []):=⟨bi,bn⟩;clear bi bn bj;have bB:Hid (∀ R,Below w.heap.size w R→R.cell? ⟨g,0,none⟩=some (.slice (some ⟨b1,H,none⟩) y.length c1)∧R.cell? ⟨g,1,none⟩=some (.slice (some ⟨b2,K,none⟩) D.length c2)):=fun R bh=>⟨Ja bh bz.out,Ja bh bA.out⟩;go_loopw [6,27] (fun sv i wr=>∃ k:Nat,k≤2∧i=.int .i64 (k:Nat)∧Hid (Below w.heap.size w wr∧Jo wr w.heap.size 3 sv (if k=0 then []else if k=1 then y else y++D))) (fun _ i _=>2-(intOf i).toNat)
  case atStart=>exact⟨0,by omega,rfl,bC.out⟩
  case round=>
   obtain⟨k,bM,rfl,hI⟩:=hrel;obtain⟨bK,bL⟩:=bB.out _ hI.out.1;have bH:k=0∨k=1∨k=2:=(by omega);rcases bH with rfl|rfl|rfl
   ·go_wp2_with (at_builtin;go_must (refine Ks (by rfl) _ _ 22 3 _ 8 Kp4 (by rfl) (by decide) (by kernel_rfl) (by rfl) w.heap.size _ _ (by rfl) hI.out.2 ⟨b1,H,none⟩ c1 y (by rfl) (fun j u E=>by rw[Kts];exact Ja hI.out.1 (O.out.1 j u E)) (O.out.2.2.1) (by simp;omega) (by have:=hI.out.1.size;omega) ?_);intro sv' bD Y Z bI)
    go_roundw
    case rel=>exact⟨1,by omega,rfl,Jy hI.out.1 Z fun g e=>(Je hI.out.2 e).1,by simpa using Y⟩
    case measure=>simp[intOf]
   ·go_wp2_with (at_builtin;go_must (refine Ks (by rfl) _ _ 22 3 _ 8 Kp4 (by rfl) (by decide) (by kernel_rfl) (by rfl) w.heap.size _ _ (by rfl) hI.out.2 ⟨b2,K,none⟩ c2 D (by rfl) (fun j u E=>by rw[Kts];exact Ja hI.out.1 (O.out.2.1 j u E)) (O.out.2.2.2) (by simp;omega) (by have:=hI.out.1.size;omega) ?_);intro sv' bD Y Z bI)
    go_roundw
    case rel=>exact⟨2,by omega,rfl,Jy hI.out.1 Z fun g e=>(Je hI.out.2 e).1,by simpa using Y⟩
    case measure=>simp[intOf]
   go_wp2;go_ret
   exact⟨hI.out.1,_,rfl,by simpa using hI.out.2⟩
end Go.Proofs.YtpchafocmlhmbaaGreatDoor
