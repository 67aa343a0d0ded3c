/- How many bits a number below 2^64 needs: math/bits.Len64, by Go's own text. -/
import Derived.Test.YtcaocabmioafcaaGreatDoorKa
import Derived.Deep.RegionLaw
import Derived.Deep.AppendLies
import Derived.Deep.DrawnRows
import Derived.Deep.DeepMust
import Derived.Lib.AppendStr
import Derived.Deep.MidRow
import Derived.Test.YtcaocabmioafcaaGreatDoorEr
import Derived.Deep.LoopGhost
import Derived.Lib.BufferWrite
import Derived.Lib.LazyBuf
import Derived.Deep.RegionHeld3
import Derived.Deep.DeepCutAuto
import Derived.Deep.RegionWith
set_option maxHeartbeats 2000000
set_option maxRecDepth 100000
namespace Go.Proofs.YtcaocabmioafcaaGreatDoor
section
open Go.RowKit Tryz
theorem Je4 (n m x:Nat)(A:x<256)(H:m≤56)(h:bitLen n=m+bitLen x):wrap64 ((m:Int)+wrap64 ((bitLen (x % 256):Nat):Int))=((bitLen n:Nat):Int):=by
 rw[Oi5 A,h]
 have:=bitLen_le8 x A
 generalize bitLen x=b at *
 unfold wrap64
 omega
theorem Kcl (n:Nat)(A:n<256):wrap64 (wrap64 ((bitLen (n % 256):Nat):Int))=((bitLen n:Nat):Int):=by
 rw[Oi5 A]
 have:=bitLen_le8 n A
 generalize bitLen n=b at *
 unfold wrap64
 omega
theorem bl8 (x:Nat)(h:256≤x):bitLen x=8+bitLen (x / 256):=bitLen_shift x 8 (by omega)
theorem Kig (x:Nat)(h:65536≤x):bitLen x=16+bitLen (x / 65536):=bitLen_shift x 16 (by omega)
theorem Kin (x:Nat)(h:4294967296≤x):bitLen x=32+bitLen (x / 4294967296):=bitLen_shift x 32 (by omega)
theorem Jy4 (n:Nat)(w:World)(N:n<18446744073709551616) :
  Calls prog 223 #[.int .u64 n] w fun e w'=>e=.returned (.int .i64 (bitLen n:Nat))∧w'=w:=by
 have R:Hid (n<18446744073709551616):=N
 clear N
 go_enter func223,ntmps223
 generalize M:ByteArray.mk _=T
 have U:T.size=256:=by rw[←M];decide +kernel
 have all:∀ j:Fin 256,(T[j.val]?).map UInt8.toNat=some (bitLen j.val):=by rw[←M];decide +kernel
 have X:∀ (i:Nat) (h:i<T.size),T[i].toNat=bitLen i:=by
  intro i h
  have:=all ⟨i,by rw[U]at h;exact h⟩
  simpa [h] using this
 clear M all
 by_cases c1:4294967296≤n
 ·have O:decide ((4294967296:Int)≤(n:Int))=true:=by simp;omega
  have b1:=Kin n c1
  have K:Hid (bitLen n=32+bitLen (n / 4294967296)):=b1
  clear b1
  by_cases c2:65536≤n / 4294967296
  ·have L:decide ((65536:Int)≤(n:Int) / 4294967296)=true:=by simp;omega
   have I:Hid (bitLen (n / 4294967296)=16+bitLen (n / 4294967296 / 65536)):=Kig _ c2
   by_cases c3:256≤n / 4294967296 / 65536
   ·have H:decide ((256:Int)≤(n:Int) / 4294967296 / 65536)=true:=by simp;omega
    have A:Hid (bitLen (n / 4294967296 / 65536)=8+bitLen (n / 4294967296 / 65536 / 256)):=bl8 _ c3
    clear c1 c2 c3
    go_wp
    go_ret
    exact⟨Yp (Je4 n 56 _ (by have:=R.out;omega) (by omega) (by rw[K.out,I.out,A.out];omega)),rfl⟩
   have H:decide ((256:Int)≤(n:Int) / 4294967296 / 65536)=false:=by simp;omega
   have A:Hid (n / 4294967296 / 65536<256):=by show _<_;omega
   clear c1 c2 c3
   go_wp
   go_ret
   exact⟨Yp (Je4 n 48 _ A.out (by omega) (by rw[K.out,I.out];omega)),rfl⟩
  have L:decide ((65536:Int)≤(n:Int) / 4294967296)=false:=by simp;omega
  by_cases c3:256≤n / 4294967296
  ·have H:decide ((256:Int)≤(n:Int) / 4294967296)=true:=by simp;omega
   have A:Hid (bitLen (n / 4294967296)=8+bitLen (n / 4294967296 / 256)):=bl8 _ c3
   have J:Hid (n / 4294967296 / 256<256):=by show _<_;omega
   clear c1 c2 c3
   go_wp
   go_ret
   exact⟨Yp (Je4 n 40 _ J.out (by omega) (by rw[K.out,A.out];omega)),rfl⟩
  have H:decide ((256:Int)≤(n:Int) / 4294967296)=false:=by simp;omega
  have A:Hid (n / 4294967296<256):=by show _<_;omega
  clear c1 c2 c3
  go_wp
  go_ret
  exact⟨Yp (Je4 n 32 _ A.out (by omega) K.out),rfl⟩
 have O:decide ((4294967296:Int)≤(n:Int))=false:=by simp;omega
 by_cases c2:65536≤n
 ·have L:decide ((65536:Int)≤(n:Int))=true:=by simp;omega
  have I:Hid (bitLen n=16+bitLen (n / 65536)):=Kig _ c2
  by_cases c3:256≤n / 65536
  ·have H:decide ((256:Int)≤(n:Int) / 65536)=true:=by simp;omega
   have A:Hid (bitLen (n / 65536)=8+bitLen (n / 65536 / 256)):=bl8 _ c3
   have J:Hid (n / 65536 / 256<256):=by show _<_;omega
   clear c1 c2 c3
   go_wp
   go_ret
   exact⟨Yp (Je4 n 24 _ J.out (by omega) (by rw[I.out,A.out];omega)),rfl⟩
  have H:decide ((256:Int)≤(n:Int) / 65536)=false:=by simp;omega
  have A:Hid (n / 65536<256):=by show _<_;omega
  clear c1 c2 c3
  go_wp
  go_ret
  exact⟨Yp (Je4 n 16 _ A.out (by omega) I.out),rfl⟩
 have L:decide ((65536:Int)≤(n:Int))=false:=by simp;omega
 by_cases c3:256≤n
 ·have H:decide ((256:Int)≤(n:Int))=true:=by simp;omega
  have A:Hid (bitLen n=8+bitLen (n / 256)):=bl8 _ c3
  have J:Hid (n / 256<256):=by show _<_;omega
  clear c1 c2 c3
  go_wp
  go_ret
  exact⟨Yp (Je4 n 8 _ J.out (by omega) A.out),rfl⟩
 have H:decide ((256:Int)≤(n:Int))=false:=by simp;omega
 have A:Hid (n<256):=by show _<_;omega
 clear c1 c2 c3
 go_wp
 go_ret
 exact⟨Yp (Kcl n A.out),rfl⟩
end
section
open Go.RowKit Tryz
def WAt (w:World)(B g:Nat)(t:Int)(bs:List UInt8):Prop:=
 B≤g∧∃ sv,w.heap[g]?=some (.cells #[.int .i64 t,sv] 292 (0,0))∧Jo w B 5 sv (bs.map bv)∧sv.ownBlock≠some g
def Ya (w:World)(g k:Nat):Prop:=k<w.heap.size∧k≠g∧∀ sv,w.cell? ⟨g,1,none⟩=some sv→sv.ownBlock≠some k
structure Ky (w w':World) (g:Nat):Prop where
 os:w'.os=w.os
 tape:w'.tape=w.tape
 output:w'.output=w.output
 size:w.heap.size≤w'.heap.size
 block:∀ k,Ya w g k→w'.heap[k]?=w.heap[k]?∧Ya w' g k
theorem Ky.refl (w:World)(g:Nat):Ky w w g:=⟨rfl,rfl,rfl,Oa2 _,fun _ h=>⟨rfl,h⟩⟩
theorem Ky.trans {a b c:World}{g:Nat}(h:Ky a b g)(k:Ky b c g):Ky a c g:=
 ⟨k.os.trans h.os,k.tape.trans h.tape,k.output.trans h.output,Ob2 h.size k.size,fun i hi=>⟨((k.block i (h.block i hi).2).1).trans (h.block i hi).1,(k.block i (h.block i hi).2).2⟩⟩
theorem Ky.of_below {w w':World}{g:Nat}(A:Below w.heap.size w w')(H:g<w.heap.size):Ky w w' g:=
 ⟨A.os,A.tape,A.output,A.size,fun k hk=>⟨A.block k hk.1,by have:=A.size;have:=hk.1;omega,hk.2.1,fun sv hs=>hk.2.2 sv (by rw[←hs];exact(Oc3 (w:=w) (A.block g H)).symm)⟩⟩
theorem WAt.lt {w:World}{B g:Nat}{t:Int}{bs:List UInt8}(h:WAt w B g t bs):g<w.heap.size:=by
 obtain⟨_,sv,H,_⟩:=h
 rcases Oc1 g w.heap.size with A|A
 ·exact A
 simp[Array.getElem?_eq_none A]at H
theorem WAt.below {w w':World}{B g:Nat}{t:Int}{bs:List UInt8}(h:WAt w B g t bs)(A:Below w.heap.size w w'):WAt w' B g t bs:=by
 have J:=h.lt
 obtain⟨H,sv,I,L,K⟩:=h
 exact⟨H,sv,by rw[A.block g J];exact I,L.below A,K⟩
theorem WAt.cells {w:World}{B g:Nat}{t:Int}{bs:List UInt8}(h:WAt w B g t bs) :
  ∃ sv,w.cell? ⟨g,0,none⟩=some (.int .i64 t)∧w.cell? ⟨g,1,none⟩=some sv∧w.frozen? ⟨g,1,none⟩=false∧Jo w B 5 sv (bs.map bv)∧sv.ownBlock≠some g:=by
 obtain⟨_,sv,A,I,H⟩:=h
 exact⟨sv,by simp[World.cell?,A],by simp[World.cell?,A],by simp[World.frozen?,A],I,H⟩
theorem WAt.apart {w:World}{B g:Nat}{t:Int}{bs:List UInt8}(h:WAt w B g t bs){k:Nat}(hk:k<B)(H:k<w.heap.size):Ya w g k:=by
 obtain⟨sv,_,A,_,I,_⟩:=h.cells
 have J:=h.1
 refine⟨H,by omega,fun sv' hs e=>?_⟩
 rw[A]at hs
 cases hs
 have:=(Je I e).1
 omega
theorem WAt.step {w wa w1:World}{B g:Nat}{t:Int}{bs bs':List UInt8}{sv sv':Value}(h:WAt w B g t bs)(K:w.cell? ⟨g,1,none⟩=some sv)(A:Below w.heap.size w wa)
  (H:wa.grownBy w1 sv.ownBlock) (bf:Jo w1 B 5 sv' (bs'.map bv)) (hw:sv'.ownBlock=sv.ownBlock∨sv'.ownBlock=some wa.heap.size) :
  WAt (w1.setCell ⟨g,1,none⟩ sv') B g t bs'∧Ky w (w1.setCell ⟨g,1,none⟩ sv') g:=by
 have bc:=h.lt
 obtain⟨Y,I,L,bi,N⟩:=h
 have X:I=sv:=by simpa [World.cell?,L] using K
 subst X
 have bk:=A.size
 have ba:wa.heap[g]?=some (.cells #[.int .i64 t,I] 292 (0,0)):=by rw[A.block g bc];exact L
 have Z:w1.heap[g]?=some (.cells #[.int .i64 t,I] 292 (0,0)):=by rw[H.block g (by omega) (Oc5 N)];exact ba
 have O:sv'.ownBlock≠some g:=by
  rcases hw with e|e
  ·rw[e];exact N
  rw[e];intro J;simp at J;omega
 have U:(w1.setCell ⟨g,1,none⟩ sv').heap[g]?=some (.cells #[.int .i64 t,sv'] 292 (0,0)):=by
  simp[World.setCell,Array.getElem?_modify,Z]
 have R:∀ k,k≠g→(w1.setCell ⟨g,1,none⟩ sv').heap[k]?=w1.heap[k]?:=fun k hk=>Oa4 _ _ _ _ hk
 have bj:(w1.setCell ⟨g,1,none⟩ sv').heap.size=w1.heap.size:=by simp[World.setCell]
 have bh:=H.size
 refine⟨⟨Y,sv',U,?_,O⟩,⟨H.os.trans A.os,H.tape.trans A.tape,H.output.trans A.output,by omega,?_⟩⟩
 ·exact Jl bf fun k hk=>R k fun e=>O (by rw[hk,e])
 intro k hk
 have M:=hk.2.2 I K
 have bb:=hk.1
 refine⟨?_,by omega,hk.2.1,fun s hs=>?_⟩
 ·rw[R k hk.2.1,H.block k (by omega) (Oc5 M),A.block k bb]
 have:s=sv':=by
  have e:(w1.setCell ⟨g,1,none⟩ sv').cell? ⟨g,1,none⟩=some sv':=by simp[World.cell?,U]
  rw[e]at hs;exact(Oj6 hs).symm
 subst this
 rcases hw with e|e
 ·rw[e];exact M
 rw[e];intro J;simp at J;omega
theorem Zk {w w':World}{g:Nat}{a:Option Addr}{vs:List V}(h:Jv w a vs)(hk:Ky w w' g)(A:∀ b o,a=some ⟨b,o,none⟩→Ya w g b):Jv w' a vs:=
 h.of_block hk.size fun b o H _=>(hk.block b (A b o H)).1
theorem Jwe {w w':World}{g:Nat}{a:Option Addr}{vs:List Value}(h:Uh w a vs)(hk:Ky w w' g)(A:∀ b o,a=some ⟨b,o,none⟩→Ya w g b):Uh w' a vs:=
 h.of_block hk.size fun b o H _=>(hk.block b (A b o H)).1
theorem Jde {w w':World}{g:Nat}{a:Option Addr}(hk:Ky w w' g)(A:∀ b o,a=some ⟨b,o,none⟩→Ya w g b):∀ b o,a=some ⟨b,o,none⟩→Ya w' g b:=
 fun b o H=>(hk.block b (A b o H)).2
theorem Jc2 {w w':World}{B g:Nat}{t:Int}{bs:List UInt8}(h:WAt w B g t bs)(H:Below w.heap.size w w'){k:Nat}(hk:w.heap.size≤k)(I:k<w'.heap.size):Ya w' g k:=by
 have J:=h.lt
 obtain⟨sv,_,A,_,K,_⟩:=h.cells
 refine⟨I,by omega,fun s hs e=>?_⟩
 have:w'.cell? ⟨g,1,none⟩=some sv:=by rw[Oc3 (w:=w) (H.block g J)];exact A
 rw[this]at hs
 cases hs
 have:=(Je K e).2
 omega
theorem Ua (w:World)(v:Value)(e:TypeId):∀ (j:Nat) (u:Value),[v][j]?=some u→(w.alloc (.cells #[v] e)).cell? ((⟨w.heap.size,0,none⟩:Addr).add j)=some u:=by
 intro j u A
 cases j with
 |zero=>simp at A;subst A;simp[Addr.add]
 |succ j=>simp at A
theorem Jnf (w:World)(o:Obj)(b i:Nat)(h:b<w.heap.size):(w.alloc o).cell? ⟨b,i,none⟩=w.cell? ⟨b,i,none⟩:=
 Oc3 (Oa9 w o b h)
theorem Jh9 (w:World)(o:Obj)(b i:Nat)(h:b<w.heap.size):(w.alloc o).frozen? ⟨b,i,none⟩=w.frozen? ⟨b,i,none⟩:=
 Ol7 (Oa9 w o b h)
theorem Kgh (n:Int):Value.int .u8 (n % 256)=bv (low n):=by
 unfold bv low
 congr 1
 simp
 omega
end
section
open Go.RowKit Tryz
theorem Zq (B g:Nat)(t n:Int)(bs:List UInt8)(w:World)(h:WAt w B g t bs)(L:bs.length≤100000) :
  Calls prog 188 #[.pointer (some ⟨g,0,none⟩),.int .i64 n] w fun e w'=>e=.returned (.tuple #[])∧WAt w' B g t (bs++[low n])∧Ky w w' g:=by
 have U:=h.lt
 have R:=h.1
 obtain⟨sv,c0,c1,c2,M,I⟩:=h.cells
 have X:(bs.map bv).length≤100000:=by simpa using L
 go_enter func188,ntmps188
 go_wp2_with (at_builtin;go_must (refine Ks (by rfl) _ _ 137 5 _ 1 Jfa (by rfl) (by decide) (by kernel_rfl) (by rfl) B sv _ (by rfl) (M.alloc _) ⟨w.heap.size,0,none⟩ 1 [.int .u8 (n % 256)] (by rfl) (by exact Ua _ _ _) (by intro u J;simp at J;subst J;rfl) (by simp only[List.length_cons,List.length_nil];omega) (by simp;omega) ?_);intro sv' w1 A H K;obtain⟨N,O,rfl,_⟩:=A.cells;have k1:=H.cell_far ⟨g,1,none⟩ (by simp;omega) (Oc5 I);have Y:=H.frozen_far ⟨g,1,none⟩ (by simp;omega) (Oc5 I))
 go_end0
 rw[Kgh]at A
 have:=h.step (bs':=bs++[low n]) c1 ((Oa5 _ _).alloc (Oa2 _) _) H (by simpa using A) K
 simp only[Oa8,Oa6,List.length_cons,List.length_nil]at this
 exact⟨rfl,this⟩
theorem Jka (B g:Nat)(t n:Int)(bs:List UInt8)(w:World)(h:WAt w B g t bs)(bu:bs.length≤100000) :
  Calls prog 225 #[.pointer (some ⟨g,0,none⟩),.int .i64 n] w fun e w'=>e=.returned (.tuple #[])∧WAt w' B g t (bs++le8 (u64 n))∧Ky w w' g:=by
 have M:IntKind.u64.wrap n=(u64 n:Int):=by rw[Oh5];unfold u64;omega
 have bB:=Jp3 n
 generalize u64 n=A at *
 go_enter func225,ntmps225
 go_wp2
 go_loopw [5] (fun i wr=>∃ k:Nat,k≤8∧i=.int .i64 k∧WAt wr B g t (bs++(List.range k).map fun i=>UInt8.ofNat (A / 256 ^ i % 256))∧Ky w wr g) (fun i _=>8-(intOf i).toNat)
 case atStart=>exact⟨0,by omega,rfl,by simpa using h,Ky.refl _ _⟩
 case round=>
  obtain⟨k,hk,rfl,hw,O⟩:=hrel
  by_cases bz:k<8
  ·have N:=hw.lt
   have br:=hw.1
   obtain⟨sv,c0,c1,c2,bi,R⟩:=hw.cells
   generalize I:bs++((List.range k).map fun i=>UInt8.ofNat (A / 256 ^ i % 256))=H at *
   have bx:(H.map bv).length≤100010:=by rw[←I];simp;omega
   have X:Hid _:=I
   clear I
   obtain⟨c,bc⟩:∃ c:Nat,c=8*k:=⟨_,rfl⟩
   have bC:IntKind.i64.wrap (8*(k:Int))=(c:Int):=by rw[Od4];omega
   obtain⟨q,K⟩:∃ q:Nat,q=A / 256 ^ k % 256:=⟨_,rfl⟩
   have bD:IntKind.u8.wrap ((A:Int) / 2 ^ min c 64)=(q:Int):=by
    have e:min c 64=8*k:=by omega
    have Z:((2:Int) ^ (8*k))=((256 ^ k:Nat):Int):=by
     rw[Int.natCast_pow,Int.pow_mul];rfl
    rw[e,K,Z,IntKind.wrap_u8]
    omega
   have Y:Hid (Value.int .u8 (q:Int)=bv (UInt8.ofNat (A / 256 ^ k % 256))):=by
    show Value.int .u8 (q:Int)=_
    rw[K];unfold bv;congr 1;simp
   clear bc K
   obtain⟨bn,bf,bj,bk,bl⟩:=info_parts Jfa
   go_wp2_with fail
   go_region_law
    ((refine step_append_lies _ (by rfl) _ _ _ (by rfl) B 5 bn _ 1 1 (by kernel_rfl) bf bj bk bl rfl (by omega) sv (H.map bv).length (H.map bv) (by rfl) ((World.ownsRow.drew (bi.alloc _)))
       ⟨wr.heap.size,0,none⟩ 1 1 [.int .u8 (q:Int)] (by rfl) (by rfl) (by exact Ua wr _ 5) (by intro u M;simp at M;subst M;rfl)
       (by omega) (by unfold maxLen;omega) (by omega) (by simp;omega) (wr.heap.size+1) (by simp) ?_;intro ba cap w1 U J bb bA;have k1:w1.cell? ⟨g,1,none⟩=some sv:=(by rw[J.cell_far _ (by simp;omega) (Oc5 R)];exact(Jnf wr _ g 1 N).trans c1);have bE:w1.frozen? ⟨g,1,none⟩=false:=(by rw[J.frozen_far _ (by simp;omega) (Oc5 R)];exact(Jh9 wr _ g 1 N).trans c2)))
   all_goals
    go_wp2
    go_roundw
    case rel=>
     rw[Y.out]at U
     have L:=hw.step (bs':=H++[UInt8.ofNat (A / 256 ^ k % 256)]) (sv':=.slice (some ⟨ba,0,none⟩) ((List.map bv H).length+1) cap) c1 (((Oa5 _ _).alloc (Oa2 _) _).drew) J (by simpa [Jo] using U)
      (by
        rcases bb with e|e
        ·exact .inl e.symm
        right;simp[Value.ownBlock,e])
     simp only[Oa6]at L
     refine⟨k+1,by omega,by go_num,?_,O.trans L.2⟩
     rw[Oj7,Ob8,←Od8,X.out]
     exact L.1
    case measure=>simp[intOf];omega
  have bh:k=8:=by omega
  subst bh
  go_wp2
  go_end0
  exact⟨rfl,hw,O⟩
end
section
open Go.RowKit Tryz
theorem Jo.form {w:World}{B:Nat}{e:TypeId}{sv:Value}{xs:List Value}(h:Jo w B e sv xs):∃ a ln c,sv=.slice a ln c:=by
 obtain⟨a,c,A,_⟩:=h.cells
 exact⟨a,_,c,A⟩
theorem Jsr (s:ByteArray):Lib.strCells s=s.toList.map bv:=by
 rw[Og4];rfl
theorem Jlc (w:World)(B:Nat)(ty:TypeId)(sv:Value)(bs:List UInt8)(H:Jo w B 5 sv (bs.map bv))(Y:bs≠[])(s:ByteArray)(bh:bs.length+s.size≤1000000)(R:B≤w.heap.size) :
  ∃ sv' w',(Builtin.append_ #[137,9] ty #[sv,.string s]).run prog w=.ok sv' w'∧Jo w' B 5 sv' ((bs++s.toList).map bv)∧w.grownBy w' sv.ownBlock∧(sv'.ownBlock=sv.ownBlock∨sv'.ownBlock=some w.heap.size):=by
 obtain⟨i,hi,L,J,K⟩:=info_parts Jfa
 have X:(bs.map bv).length=bs.length:=by simp
 obtain⟨ba,w',I,N,O,_⟩:=Lib.run_append_own_string (P:=prog) w B 137 9 ty 5 i (by kernel_rfl) (by kernel_rfl) hi L J K sv _ _ H s (by unfold maxLen;omega) (by omega) R
 refine⟨ba,w',I,?_,O,?_⟩
 ·unfold Jo
  rw[Ob8,←Jsr,Oa8,Lib.strCells_length]
  exact N
 rcases H.2 with⟨_,h0⟩|⟨g,cap,M,rfl,bb,U,bi,bc,bf,bj⟩
 ·rw[X]at h0;exact absurd (Od3.1 h0) Y
 by_cases Z:(bs.map bv).length+s.size≤cap
 ·have A:=Lib.run_append_room_string (P:=prog) w 137 9 ty 5 i (by kernel_rfl) (by kernel_rfl) hi J g (bs.map bv).length cap M U s Z (by omega)
  rw[I]at A
  injection A with e1 _
  subst e1
  exact .inl rfl
 have A:=Lib.run_append_grow_string (P:=prog) w 137 9 ty 5 i _ (by kernel_rfl) (by kernel_rfl) hi L ⟨g,0,none⟩ (bs.map bv).length cap (bs.map bv) (by rw[J,Nat.mul_one]) (World.ownsRow.cells H (g:=g) rfl) s (by omega) (by omega) (by rw[K];exact growslice_fits (by omega) (by omega))
 rw[I]at A
 injection A with e1 _
 subst e1
 exact .inr rfl
theorem Jks {H:Array Oper}{o:Oper}{a:Act}{w:World}{A:Act→World→Prop}{Q:Exit→Act→World→Prop}{E:Prop}(M:o.guard=none)(sl x:Operand)
  (R:o.op=.call {callee:=.builtin .append,args:=#[sl,x],argTypes:=#[137,9]})
  (B:Nat) (sv:Value) (bs:List UInt8) (hs:a.eval sl=sv) (U:Jo w B 5 sv (bs.map bv)) (O:bs≠[]) (s:ByteArray) (Y:a.eval x=.string s) (N:bs.length+s.size≤1000000) (L:B≤w.heap.size)
  (h:∀ sv' w',Jo w' B 5 sv' ((bs++s.toList).map bv)→w.grownBy w' sv.ownBlock→(sv'.ownBlock=sv.ownBlock∨sv'.ownBlock=some w.heap.size)→A (a.put o.dst sv') w') :
  if Region.wanted o (yielded H a.tmps)=true then Oper.wp prog o a w A Q else E:=by
 have hw:Region.wanted o (yielded H a.tmps)=true:=by simp[Region.wanted,M]
 rw[if_pos hw]
 obtain⟨Z,w',X,I,J,K⟩:=Jlc w B o.type sv bs U O s N L
 unfold Oper.wp execOp
 simp only[R,resolve,invoke,builtin,Og8,Sem.run_pure,Result.andThen_ok,List.map_toArray,Oe4,Oi4,hs,Y,X]
 exact h Z w' I J K
end
section
open Go.RowKit Tryz
theorem Khe (H n b A:Nat)(L:H<256)(R:n<18446744073709551616) :
  bits BinOp.or IntKind.u8 (H:Int) (bits BinOp.and IntKind.u64 ((n:Int) / 2 ^ b) 1 % 256*2 ^ (A % 8) % 256)=((H ||| ((if n.testBit b then 1 else 0) <<< (A % 8)):Nat):Int):=by
 have I:((n:Int) / 2 ^ b)=((n / 2 ^ b:Nat):Int):=by simp
 have N:n / 2 ^ b<18446744073709551616:=Nat.lt_of_le_of_lt (Oo6 _ _) R
 have J:bits BinOp.and IntKind.u64 ((n / 2 ^ b:Nat):Int) 1=((n / 2 ^ b % 2:Nat):Int):=by
  have:=u64_and_nat (n / 2 ^ b) 1 N (by decide)
  rw[Nat.and_one_is_mod]at this
  exact this
 have K:n.testBit b=decide (n / 2 ^ b % 2=1):=On1
 rw[I,J,K]
 have O:n / 2 ^ b % 2<2:=Ol0 _ (by decide)
 have M:A % 8<8:=Ol0 _ (by decide)
 generalize n / 2 ^ b % 2=m at *
 generalize A % 8=c at *
 have U:∀ (m:Fin 2) (c:Fin 8),((m.val:Int) % (256:Int)*(2:Int) ^ c.val % (256:Int))=(((if decide (m.val=1)=true then 1 else 0) <<< c.val:Nat):Int)∧((if decide (m.val=1)=true then 1 else 0) <<< c.val:Nat)<256:=by decide
 have k:=U ⟨m,O⟩ ⟨c,M⟩
 simp only at k
 rw[k.1]
 exact u8_or_nat H _ L k.2
theorem Jd4 (B g:Nat)(t:Int)(bs:List UInt8)(H:Nat)(a:Option Addr)(cap:Nat)(J:List Nat)(w:World)(h:WAt w B g t bs)(ck:bs.length≤50000)(cC:H≤64)(cu:J.length≤64)(cA:∀ n∈J,n<18446744073709551616)(cD:Uh w a (J.map uv))(cG:∀ b o,a=some ⟨b,o,none⟩→Ya w g b) :
  Calls prog 189 #[.pointer (some ⟨g,0,none⟩),.int .i64 H,.slice a J.length cap] w fun e w'=>e=.returned (.tuple #[])∧WAt w' B g t (bs++Kk (Ue H J))∧Ky w w' g:=by
 have cK:H*J.length≤64*64:=Ol5 cC cu
 obtain⟨W,hW⟩:∃ W:Nat,W=H*J.length:=⟨_,rfl⟩
 have ca:(H:Int)*(J.length:Int)=(W:Int):=by rw[hW];simp
 obtain⟨K,bK⟩:∃ K:Nat,K=(W+7) / 8:=⟨_,rfl⟩
 have cv:((W:Int)+7) / 8=(K:Int):=by omega
 have bB:=Jal H J
 generalize bA:Ue H J=A at *
 have cn:∀ W,(Instr.makeSlice 137 (.int .i64 (K:Int)) (.int .i64 (K:Int))).run prog W=.ok (.slice (some ⟨W.heap.size,0,none⟩) K K) (W.alloc (.cells (madeCells #[.int .u8 0] K) 5)):=
  fun W=>run_make_row' 137 5 (.int .u8 0) 1 (by kernel_rfl) Jfa rfl .i64 .i64 K (by omega) (by omega) W
 have R:Hid (A.length=W):=by show _=_;rw[bB,hW]
 have bQ:Hid (Ue H J=A):=bA
 have bk:Hid (W=H*J.length):=hW
 have Y:Hid (K=(W+7) / 8):=bK
 have cF:W≤4096:=by omega
 have cJ:K≤600:=by omega
 clear bA bB hW bK
 go_enter func189,ntmps189
 go_wp2_with (go_at_call 218;refine(Jif _ _ (by omega) (by omega)).mono ?_;rintro e w' ⟨rfl,cL⟩;subst w')
 clear cn ca cv
 go_loopw [7,19] (fun at_ i wr=>∃ k:Nat,k≤J.length∧i=.int .i64 k∧at_=.int .i64 ((H*k:Nat):Int)∧wr.rowIs w.heap.size 5 K (fun j=>.int .u8 (Jag (A.take (H*k)) j:Nat))∧Below w.heap.size w wr) (fun _ i _=>J.length-(intOf i).toNat)
 case atStart=>
  refine⟨0,by omega,rfl,rfl,(Ol3 _ _ _ _).congr fun j _=>?_,(Oa5 _ _).alloc (Oa2 _) _⟩
  simp[Jvq]
 case round=>
  obtain⟨k,hk,rfl,rfl,L,M⟩:=hrel
  by_cases U:k<J.length
  ·obtain⟨b1,o1,rfl,cb,bf⟩:=(cD.below M).at (i:=k) (by simpa using U)
   rw[Od9]at bf
   unfold uv at bf
   have bP:Hid (∀ b,b<H→A[H*k+b]?=some (J[k].testBit b)):=by
    intro b bD
    rw[←bQ.out];exact Jms H J k b U bD
   have bM:J[k]<18446744073709551616:=cA _ (Ob3 U)
   have bR:Hid (J[k]<18446744073709551616):=bM
   clear bM
   generalize J[k]=n at *
   have cH:H*k+H≤W:=by
    rw[bk.out,←Nat.mul_succ];exact Nat.mul_le_mul_left _ U
   generalize bx:H*k=N at *
   have bi:Hid (H*k=N):=bx
   clear bx
   go_wp2
   go_loopw [7,24] (fun at_ i bO=>∃ b:Nat,b≤H∧i=.int .i64 b∧at_=.int .i64 ((N+b:Nat):Int)∧bO.rowIs w.heap.size 5 K (fun j=>.int .u8 (Jag (A.take (N+b)) j:Nat))∧Below w.heap.size w bO) (fun _ i _=>H-(intOf i).toNat)
   case atStart=>exact⟨0,by omega,rfl,rfl,L,M⟩
   case round=>
    clear L M bf cb
    obtain⟨b,bD,rfl,rfl,L,M⟩:=hrel
    by_cases cl:b<H
    ·have bE:=bP.out b cl
     generalize bu:N+b=I at *
     have bY:I<W:=by omega
     have bh:Hid (N+b=I):=bu
     clear bu
     have cz:I / 8<K:=by rw[Y.out];omega
     have c1:=L.cell cz
     have c2:=L.frozen (I / 8)
     have bG:=Ji4 (A.take I) (I / 8)
     have bN:∀ j,Jag (A.take (I+1)) j=if j=I / 8 then Jag (A.take I) j ||| ((if n.testBit b then 1 else 0) <<< (I % 8))else Jag (A.take I) j:=by
      intro j
      have bz:I<A.length:=by rw[R.out];exact bY
      have cc:A[I]=n.testBit b:=by rw[Oa3 bz]at bE;exact Oj6 bE
      rw[Jss A I j bz,cc]
     have bS:Hid _:=bN
     clear bN
     generalize bC:Jag (A.take I) (I / 8)=bn at c1 bG
     have bT:Hid (Jag (A.take I) (I / 8)=bn):=bC
     clear bC
     go_wp2
     go_region
     go_wp2
     go_roundw
     case rel=>
      refine⟨b+1,by omega,by go_num,?_,(L.set (I / 8) _).congr fun j O=>?_,(M.setCell (p:=⟨w.heap.size,I / 8,none⟩) (Oa2 _) _).drew⟩
      ·have:=bh.out
       rw[←this];go_num
      rw[←On5,bh.out,bS.out j]
      by_cases e:j=I / 8
      ·rw[if_pos e,if_pos e,Khe bn n b I bG bR.out,e,bT.out]
      rw[if_neg e,if_neg e]
     case measure=>simp[intOf];omega
    have cf:b=H:=by omega
    subst cf
    go_wp2
    go_roundw
    case rel=>
     refine⟨k+1,by omega,by go_num,?_,?_,M⟩
     ·have:=bi.out
      rw[Nat.mul_succ,this]
     rw[Nat.mul_succ,bi.out];exact L
    case measure=>simp[intOf];omega
  have cj:k=J.length:=by omega
  subst cj
  have bH:A.take (H*J.length)=A:=Oc8 (by rw[R.out,bk.out];exact Oa2 _)
  rw[bH]at L
  clear bH
  have X:=h.below M
  have bI:=X.lt
  have cE:=X.1
  obtain⟨sv,c0,c1,c2,cy,bL⟩:=X.cells
  have cI:(bs.map bv).length≤50000:=by simpa using ck
  have bb:((Kk A).map bv).length=K:=by rw[Oa6,Qb,R.out,←Y.out]
  have bj:Hid (((Kk A).map bv).length=K):=bb
  have cx:∀ j u,((Kk A).map bv)[j]?=some u→wr.cell? ((⟨w.heap.size,0,none⟩:Addr).add j)=some u:=by
   intro j u O
   have bJ:j<K:=by
    rw[←bb]
    rcases Oc1 j ((Kk A).map bv).length with Z|Z
    ·exact Z
    rw[Ob4 Z]at O;simp at O
   rw[Addr.add_mid,Od0,L.cell bJ]
   have ci:j<(A.length+7) / 8:=by rw[R.out,←Y.out];exact bJ
   simp[Kk,ci,bv]at O
   rw[←O]
   have:=Ji4 A j
   congr 2
   omega
  clear bb
  have bW:∀ u∈(Kk A).map bv,u.oneCell'=true:=by
   intro u cB
   obtain⟨x,_,rfl⟩:=Of0.1 cB
   rfl
  generalize bZ:(Kk A).map bv=bl at *
  go_wp2_with (at_builtin;go_must (refine Ks (by rfl) _ _ 137 5 _ 1 Jfa (by rfl) (by decide) (by kernel_rfl) (by rfl) B sv _ (by rfl) cy ⟨w.heap.size,0,none⟩ K bl (by rw[bj.out];rfl) cx bW (by rw[bj.out];omega) (by omega) ?_);intro sv' w1 br ba bX;obtain⟨bU,bV,rfl,_⟩:=br.cells;have k1:=ba.cell_far ⟨g,1,none⟩ bI (Oc5 bL);have cM:=ba.frozen_far ⟨g,1,none⟩ bI (Oc5 bL))
  go_end0
  have bc:=X.step (bs':=bs++Kk A) (sv':=.slice bU (List.map bv bs++bl).length bV) c1 (Oa5 _ _) ba (by rw[Ob8,bZ];exact br) bX
  simp only[Oa8,Oa6]at bc
  exact⟨rfl,bc.1,(Ky.of_below M h.lt).trans bc.2⟩
end
section
open Go.RowKit Tryz
def enc (k n:Int)(s:ByteArray):List UInt8:=
 if k=1 then le8 (u64 n)else if k=2 then [low n]else if k=3 then low s.size::s.toList else []
def Ksq (k:Int)(s:ByteArray):Prop:=k=1∨k=2∨(k=3∧s.size≤40)
theorem Kc5 (k n:Int)(s:ByteArray)(h:Ksq k s):(enc k n s).length≤41:=by
 rcases h with h|h|⟨h,hs⟩
 ·unfold enc;rw[if_pos h,Jc4];omega
 ·unfold enc;rw[if_neg (by omega),if_pos h];simp
 unfold enc;rw[if_neg (by omega),if_neg (by omega),if_pos h,Og4,List.length_cons,Array.length_toList];exact Nat.succ_le_succ hs
theorem Jwu (B g:Nat)(t n:Int)(s:ByteArray)(bs:List UInt8)(w:World)(h:WAt w B g t bs)(H:bs.length≤50000) :
  Calls prog 219 #[.pointer (some ⟨g,0,none⟩),.agg #[.int .i64 1,.int .i64 n,.string s]] w fun e w'=>e=.returned (.tuple #[])∧WAt w' B g t (bs++le8 (u64 n))∧Ky w w' g:=by
 have A:=h.lt
 go_enter func219,ntmps219
 go_wp2_with (go_at_call 225;refine(Jka B g t _ bs _ (h.below ((Oa5 _ _).alloc (Oa2 _) _)) (by omega)).mono ?_;rintro e w' ⟨rfl,hw,hk⟩)
 go_end0
 exact⟨rfl,hw,(Ky.of_below ((Oa5 _ _).alloc (Oa2 _) _) A).trans hk⟩
theorem Jrq (B g:Nat)(t n:Int)(s:ByteArray)(bs:List UInt8)(w:World)(h:WAt w B g t bs)(H:bs.length≤50000) :
  Calls prog 219 #[.pointer (some ⟨g,0,none⟩),.agg #[.int .i64 2,.int .i64 n,.string s]] w fun e w'=>e=.returned (.tuple #[])∧WAt w' B g t (bs++[low n])∧Ky w w' g:=by
 have A:=h.lt
 go_enter func219,ntmps219
 go_wp2_with (go_at_call 188;refine(Zq B g t _ bs _ (h.below ((Oa5 _ _).alloc (Oa2 _) _)) (by omega)).mono ?_;rintro e w' ⟨rfl,hw,hk⟩)
 go_end0
 exact⟨rfl,hw,(Ky.of_below ((Oa5 _ _).alloc (Oa2 _) _) A).trans hk⟩
theorem Jsb (B g:Nat)(t n:Int)(s:ByteArray)(bs:List UInt8)(w:World)(h:WAt w B g t bs)(ba:bs.length≤50000)(hs:s.size≤40) :
  Calls prog 219 #[.pointer (some ⟨g,0,none⟩),.agg #[.int .i64 3,.int .i64 n,.string s]] w fun e w'=>e=.returned (.tuple #[])∧WAt w' B g t (bs++low s.size::s.toList)∧Ky w w' g:=by
 have U:=h.lt
 have A:=h.below ((Oa5 _ _).alloc (Oa2 _) (.cells #[.int .i64 3,.int .i64 n,.string s] 55))
 have O:Ya (w.alloc (.cells #[.int .i64 3,.int .i64 n,.string s] 55)) g w.heap.size:=Jc2 h ((Oa5 _ _).alloc (Oa2 _) _) (Oa2 _) (by simp)
 go_enter func219,ntmps219
 go_wp2_with (go_at_call 188;refine(Zq B g t _ bs _ A (by omega)).mono ?_;rintro e w' ⟨rfl,hw,hk⟩)
 have I:=hw.lt
 have Y:=hw.1
 obtain⟨sv,c0,c1,c2,X,J⟩:=hw.cells
 obtain⟨R,Z⟩:=hk.block _ O
 have c3:w'.cell? ⟨w.heap.size,2,none⟩=some (.string s):=by rw[Oc3 (w:=w.alloc _) R];simp
 have bb:w.heap.size≠g:=by omega
 go_region_law
  ((
   refine Jks (by rfl) _ _ (by rfl) B sv (bs++[low s.size]) (by rfl) (by exact X) (by simp) s (by rfl) (by simp;omega) (by simp;omega) ?_
   intro sv' w1 H A N
   obtain⟨L,ln,M,rfl⟩:=H.form
   have k1:w1.cell? ⟨g,1,none⟩=some sv:=(by rw[A.cell_far _ (by simpa using I) (Oc5 J)];exact c1)
   have bc:w1.frozen? ⟨g,1,none⟩=false:=(by rw[A.frozen_far _ (by simpa using I) (Oc5 J)];exact c2)))
 all_goals
  go_wp2
  go_end0
  have K:=hw.step (bs':=bs++low s.size::s.toList) (sv':=.slice L ln M) c1 ((Oa5 _ _).drew) A (by simpa using H) N
  exact⟨rfl,K.1,((Ky.of_below ((Oa5 _ _).alloc (Oa2 _) _) U).trans hk).trans K.2⟩
theorem Jl0 (B g:Nat)(t:Int)(v:V)(bs:List UInt8)(w:World)(h:WAt w B g t bs)(A:bs.length≤50000)(H:Ksq v.k v.s) :
  Calls prog 219 #[.pointer (some ⟨g,0,none⟩),v.val] w fun e w'=>e=.returned (.tuple #[])∧WAt w' B g t (bs++enc v.k v.n v.s)∧Ky w w' g:=by
 obtain⟨k,n,s⟩:=v
 rcases H with hk|hk|⟨hk,hs⟩
 ·simp only at hk
  subst hk
  exact Jwu B g t n s bs w h A
 ·simp only at hk
  subst hk
  exact Jrq B g t n s bs w h A
 simp only at hk hs
 subst hk
 exact Jsb B g t n s bs w h A hs
def Yv (vs:List V):List UInt8:=vs.flatMap fun v=>enc v.k v.n v.s
theorem Jgg (vs:List V)(h:∀ v∈vs,Ksq v.k v.s):(Yv vs).length≤41*vs.length:=by
 induction vs with
 |nil=>simp[Yv]
 |cons v vs H=>
  have I:=Kc5 v.k v.n v.s (h v (Of4))
  have J:=H fun u A=>h u (Og1 _ A)
  unfold Yv at *
  rw[Og7,Oa8,List.length_cons]
  omega
theorem Jjz (vs:List V)(v:V):Yv (vs++[v])=Yv vs++enc v.k v.n v.s:=by simp[Yv]
theorem Jk4 (B g:Nat)(t:Int)(a:Option Addr)(cap:Nat)(xs:List V)(bs:List UInt8)(w:World)(h:WAt w B g t bs)(bj:bs.length≤10000)(bk:xs.length≤64)(K:∀ v∈xs,Ksq v.k v.s)(bf:Jv w a xs)(U:∀ b o,a=some ⟨b,o,none⟩→Ya w g b) :
  Calls prog 190 #[.pointer (some ⟨g,0,none⟩),.slice a xs.length cap] w fun e w'=>e=.returned (.tuple #[])∧WAt w' B g t (bs++Yv xs)∧Ky w w' g:=by
 go_enter func190,ntmps190
 go_wp2
 go_loopw [8] (fun i wr=>∃ k:Nat,k≤xs.length∧i=.int .i64 k∧WAt wr B g t (bs++Yv (xs.take k))∧Ky w wr g) (fun i _=>xs.length-(intOf i).toNat)
 case atStart=>exact⟨0,by omega,rfl,by simpa [Yv] using h,Ky.refl _ _⟩
 case round=>
  obtain⟨k,hk,rfl,hw,A⟩:=hrel
  by_cases H:k<xs.length
  ·have bh:=Zk bf A U
   obtain⟨b1,o1,rfl,bi,bl,bn,br⟩:=bh.at H
   have I:=Jjz (xs.take k) xs[k]
   rw[←Oc4 H]at I
   have Y:=Jgg (xs.take k) fun v bb=>K v (Om9 bb)
   have Z:(xs.take k).length≤k:=List.length_take_le _ _
   have L:=K _ (Ob3 H)
   have O:Hid _:=I
   have N:Hid (Ksq xs[k].k xs[k].s):=L
   have ba:(bs++Yv (xs.take k)).length≤50000:=by rw[Oa8];omega
   clear I L Y Z
   generalize J:bs++Yv (xs.take k)=R at *
   have M:Hid _:=J
   clear J
   go_wp2_with (go_at_call 219;refine(Jl0 B g t xs[k] R _ (hw.below ((Oa5 _ _).alloc (Oa2 _) _)) ba N.out).mono ?_;rintro e w' ⟨rfl,bc,X⟩)
   go_roundw
   case rel=>
    refine⟨k+1,by omega,by go_num,?_,(A.trans (Ky.of_below ((Oa5 _ _).alloc (Oa2 _) _) hw.lt)).trans X⟩
    rw[O.out,←Od8,M.out];exact bc
   case measure=>simp[intOf];omega
  go_wp2
  go_end0
  have e:xs.take k=xs:=Oc8 (by omega)
  rw[e]at hw
  exact⟨rfl,hw,A⟩
end
section
open Go.RowKit
def Qt (v:V):Nat:=if v.k=0 then 0 else 1
theorem Jv6 (A:List Nat)(h:∀ n∈A,n≤1):Ue 1 A=A.map fun n=>n==1:=by
 induction A with
 |nil=>rfl
 |cons n A I=>
  have e:Ue 1 (n::A)=[n.testBit 0]++Ue 1 A:=by simp[Ue,List.range_succ]
  rw[e,I fun m H=>h m (Og1 _ H)]
  have J:=h n Of4
  have:n.testBit 0=(n==1):=by
   rw[Nat.testBit_zero]
   have:n=0∨n=1:=by omega
   rcases this with rfl|rfl<;>rfl
  rw[this];rfl
theorem Jrg (xs:List V):Ue 1 (xs.map Qt)=xs.map fun v=>v.k != 0:=by
 rw[Jv6 _ (by intro n A;obtain⟨v,_,rfl⟩:=Of0.1 A;unfold Qt;split<;>omega),Oi6]
 apply Oj9
 intro v _
 simp only[Function.comp,Qt]
 by_cases h:v.k=0<;>simp[h]
def Kz (t A:Int)(xs:List V):List UInt8:=[low t,low A,low xs.length]++Kk (xs.map fun v=>v.k != 0)
theorem Jg0 (B g:Nat)(t bc:Int)(a:Option Addr)(cap:Nat)(xs:List V)(w:World)(h:WAt w B g t [])(M:xs.length≤64)(bE:Jv w a xs)(bk:xs≠[]→∀ b o,a=some ⟨b,o,none⟩→Ya w g b) :
  Calls Tryz.prog 161 #[.pointer (some ⟨g,0,none⟩),.int .i64 bc,.slice a xs.length cap] w fun e w'=>e=.returned (.tuple #[])∧WAt w' B g t (Kz t bc xs)∧Ky w w' g:=by
 have bB:∀ W,(Instr.makeSlice 332 (.int .i64 (xs.length:Int)) (.int .i64 (xs.length:Int))).run Tryz.prog W=.ok (.slice (some ⟨W.heap.size,0,none⟩) xs.length xs.length) (W.alloc (.cells (madeCells #[.int .u64 0] xs.length) 300)):=
  fun W=>run_make_row' 332 300 (.int .u64 0) 8 (by kernel_rfl) Jiq rfl .i64 .i64 xs.length (by omega) (by omega) W
 obtain⟨bL,c0,_,_,_,_⟩:=h.cells
 go_enter Tryz.func161,Tryz.ntmps161
 go_wp2_with fail
 refine(Zq B g t _ _ _ h (by simp)).mono ?_
 rintro e w1 ⟨rfl,bf,Y⟩
 go_wp2_with fail
 refine(Zq B g t _ _ _ bf (by simp)).mono ?_
 rintro e bM ⟨rfl,bh,Z⟩
 go_wp2_with fail
 refine(Zq B g t _ _ _ bh (by simp)).mono ?_
 rintro e H ⟨rfl,N,ba⟩
 go_wp2_with fail
 clear bB
 have hk:=(Y.trans Z).trans ba
 have bG:Jv H a xs:=by
  by_cases bb:xs=[]
  ·exact .inl bb
  exact Zk bE hk (bk bb)
 clear Y Z ba bf bh c0
 go_loopw [27] (fun i wr=>∃ k:Nat,k≤xs.length∧i=.int .i64 k∧wr.rowIs H.heap.size 300 xs.length (fun j=>uv (if j<k then (xs.map Qt)[j]?.getD 0 else 0))∧Below H.heap.size H wr) (fun i _=>xs.length-(intOf i).toNat)
 case atStart=>exact⟨0,by omega,rfl,Ol3 _ _ _ _,(Oa5 _ _).alloc (Oa2 _) _⟩
 case round=>
  obtain⟨k,bK,rfl,A,I⟩:=hrel
  by_cases L:k<xs.length
  ·obtain⟨b1,o1,rfl,bJ,bO,bP,bQ⟩:=(bG.below I).at L
   have c1:=A.cell L
   have c2:=A.frozen k
   have c3:=A.lt
   have X:(xs.map Qt)[k]?.getD 0=Qt xs[k]:=by simp[L]
   have O:Hid _:=X
   clear X
   by_cases h0:xs[k].k=0
   ·have bj:(xs[k].k != 0)=false:=by simp[h0]
    have J:Hid (xs[k].k=0):=h0
    clear h0
    go_wp2
    go_roundw
    case rel=>
     refine⟨k+1,by omega,by go_num,(A.alloc _).congr fun j bu=>?_,Jc I _⟩
     by_cases e:j=k
     ·subst e
      simp only[Oe3,if_false,On2,if_true]
      rw[O.out]
      simp[Qt,J.out]
     have K:(j<k+1)=(j<k):=by rw[eq_iff_iff];omega
     simp only[K]
    case measure=>simp[intOf];omega
   have bj:(xs[k].k != 0)=true:=by simp[h0]
   have J:Hid (¬ xs[k].k=0):=h0
   clear h0
   go_wp2
   go_roundw
   case rel=>
    refine⟨k+1,by omega,by go_num,((A.set k _).alloc _).congr fun j bu=>?_,Jc (I.setCell (p:=⟨H.heap.size,k,none⟩) (Oa2 _) _) _⟩
    by_cases e:j=k
    ·subst e
     simp only[if_true,On2]
     rw[O.out]
     simp[Qt,J.out,uv]
    have K:(j<k+1)=(j<k):=by rw[eq_iff_iff];omega
    simp only[e,K,if_false]
   case measure=>simp[intOf];omega
  have bz:k=xs.length:=by omega
  subst bz
  have bC:Jo wr H.heap.size 300 (.slice (some ⟨H.heap.size,0,none⟩) xs.length xs.length) ((xs.map Qt).map uv):=
   Jhx A (Oa2 _) (by unfold maxLen;omega) _ (by simp) (by
    intro i hi
    have br:i<xs.length:=by simpa using hi
    simp[br])
  obtain⟨bH,bI,R,bl⟩:=bC.cells
  simp only[Oa6]at R
  injection R with e5 e6 e7
  subst e5
  subst e7
  have bn:(xs.map Qt).length=xs.length:=by simp
  have bD:=N.below I
  have bA:=A.lt
  go_wp2_with fail
  rw[←bn]
  refine(Jd4 B g t _ 1 _ _ (xs.map Qt) _ bD (by simp) (by omega) (by simpa using M) (by
   intro n M;obtain⟨v,_,rfl⟩:=Of0.1 M;unfold Qt;split<;>omega) bl (by
   intro b o U
   simp at U
   obtain⟨rfl,rfl⟩:=U
   exact Jc2 N I (Oa2 _) bA)).mono ?_
  rintro e bN ⟨rfl,bi,bx⟩
  go_wp2_with fail
  go_end0
  refine⟨rfl,?_,(hk.trans (Ky.of_below I N.lt)).trans bx⟩
  rw[Jrg]at bi
  exact bi
end
section
open Go.RowKit
def Jdx (v:V)(c:Nat):List V→List UInt8
 |[]=>low c::enc v.k v.n v.s
 |u::l=>if u.beq v then Jdx v (c+1) l else (low c::enc v.k v.n v.s)++Jdx u 1 l
def Yc:List V→List UInt8
 |[]=>[]
 |v::l=>Jdx v 1 l
theorem Jw2 (l:List V):∀ (v:V) (c:Nat),Jdx v c l=(low ((c+Qe v l:Nat):Int)::enc v.k v.n v.s)++Yc (l.drop (Qe v l)):=by
 induction l with
 |nil=>intro v c;simp[Jdx,Qe,Yc]
 |cons u l A=>
  intro v c
  by_cases e:u.beq v=true
  ·simp only[Jdx,Qe,e,if_true,List.drop_succ_cons]
   rw[A v (c+1)]
   have:c+1+Qe v l=c+(Qe v l+1):=by omega
   rw[this]
  simp only[Jdx,Qe,e,if_false,Ol9]
  simp[Yc]
theorem Je9 (v:V)(l:List V):Yc (v::l)=(low ((Qe v (v::l):Nat):Int)::enc v.k v.n v.s)++Yc ((v::l).drop (Qe v (v::l))):=by
 have e:Qe v (v::l)=Qe v l+1:=by simp[Qe,(V.beq_iff v v).2 rfl]
 rw[e,List.drop_succ_cons]
 show Jdx v 1 l=_
 rw[Jw2]
 have:1+Qe v l=Qe v l+1:=by omega
 rw[this]
theorem Jgc:Yc []=[]:=rfl
def Kgl:Value→Nat|.slice _ n _=>n|_=>0
theorem Jhn (v:V)(l:List V):1≤Qe v (v::l):=by simp[Qe,(V.beq_iff v v).2 rfl]
theorem Jzg {w:World}{b o:Nat}{vs:List V}(h:Jv w (some ⟨b,o,none⟩) vs)(m:Nat):Jv w (some ⟨b,o+m*3,none⟩) (vs.drop m):=by
 rcases h with h|⟨J,K,e,H,h⟩
 ·subst h;exact .inl (by simp)
 simp at e
 obtain⟨rfl,rfl⟩:=e
 refine .inr ⟨b,o+m*3,rfl,H,fun i v I=>?_⟩
 have:=h (m+i) v (by simpa using I)
 have A:o+m*3+i*3=o+(m+i)*3:=by omega
 rw[A];exact this
theorem Jng:∀ (n:Nat)(xs:List V),xs.length≤n→(∀ v∈xs,Ksq v.k v.s)→(Yc xs).length≤42*xs.length:=by
 intro n
 induction n with
 |zero=>intro xs h _;have:xs=[]:=Od3.1 (by omega);subst this;simp[Yc]
 |succ n J=>
  intro xs h A
  cases xs with
  |nil=>simp[Yc]
  |cons v l=>
   rw[Je9]
   have K:=Kc5 v.k v.n v.s (A v Of4)
   have L:=Jhn v l
   have H:=J ((v::l).drop (Qe v (v::l))) (by rw[Of7];simp at h ⊢;omega) (fun u I=>A u (Oh7 I))
   rw[Oa8,List.length_cons]
   rw[Of7]at H
   have M:=Jjn v (v::l)
   omega
theorem Jz0 (B g:Nat)(t:Int)(a:Option Addr)(cap:Nat)(xs:List V)(bs:List UInt8)(w:World)(h:WAt w B g t bs)(bX:bs.length≤10000)(bZ:xs.length≤64)(bD:xs.length≤cap)(bj:∀ v∈xs,Ksq v.k v.s)(bP:Jv w a xs)(bB:∀ b o,a=some ⟨b,o,none⟩→Ya w g b) :
  Calls Tryz.prog 192 #[.pointer (some ⟨g,0,none⟩),.slice a xs.length cap] w fun e w'=>e=.returned (.tuple #[])∧WAt w' B g t (bs++Yc xs)∧Ky w w' g:=by
 go_enter Tryz.func192,Tryz.ntmps192
 go_wp2
 go_loopw [1] (fun sl wr=>∃ (rest:List V) (done:List UInt8) (I:Option Addr) (H:Nat),sl=.slice I rest.length H∧rest.length≤xs.length∧rest.length≤H∧Hid (∀ v∈rest,Ksq v.k v.s)∧Hid (bs++Yc xs=done++Yc rest)∧Jv wr I rest∧(∀ b o,I=some ⟨b,o,none⟩→Ya wr g b)∧WAt wr B g t done∧Ky w wr g) (fun sl _=>Kgl sl)
 case atStart=>exact⟨xs,bs,a,cap,rfl,Oa2 _,bD,bj,rfl,bP,bB,h,Ky.refl _ _⟩
 case round=>
  obtain⟨rest,done,I,H,rfl,cb,ca,bi,O,J,bc,hw,bn⟩:=hrel
  cases rest with
  |nil=>
   go_wp2
   go_end0
   have:=O.out
   rw[Jgc,Od7]at this
   rw[this]
   exact⟨rfl,hw,bn⟩
  |cons v l=>
   have bK:=Jhn v l
   have bI:=Jjn v (v::l)
   have bJ:(v::l).length≤64:=by omega
   have bk:Ksq v.k v.s:=bi.out v Of4
   obtain⟨b2,o2,rfl,bU,Y,Z,ba⟩:=J.at (i:=0) (by simp)
   simp only[List.getElem_cons_zero,Oo9,Nat.add_zero]at Y Z ba
   have bf:=bc b2 o2 rfl
   have br:=Je9 v l
   have bb:Hid _:=br
   have bu:Hid (Ksq v.k v.s):=bk
   have bW:done.length≤20000:=by
    have bA:=congrArg List.length O.out
    rw[Oa8,Oa8]at bA
    have bT:=Jng _ xs (Oa2 _) bj
    omega
   clear br bk
   have bV:(0:Int)<((v::l).length:Int):=by rw[List.length_cons];omega
   have X:=Jnq (some ⟨b2,o2,none⟩) H v l wr bJ J
   have bz:Hid (Jv wr (some ⟨b2,o2,none⟩) (v::l)):=J
   generalize L:v::l=A at *
   have bY:0<A.length:=by rw[←L];simp
   have bS:Hid (v::l=A):=L
   clear L J
   obtain⟨q,U⟩:∃ q:Nat,q=Qe v A:=⟨_,rfl⟩
   rw[←U]at X bK bI bb
   have bR:Hid (q=Qe v A):=U
   clear U
   have bx:Hid (Calls Tryz.prog 220 #[.slice (some ⟨b2,o2,none⟩) A.length H] wr fun e w'=>e=.returned (.int .i64 (q:Nat))∧Below wr.heap.size wr w'):=X
   clear X
   go_wp2_with fail
   refine bx.out.mono ?_
   rintro e w1 ⟨rfl,bh⟩
   have bM:=hw.below bh
   go_wp2_with fail
   refine(Zq B g t _ _ _ bM (by omega)).mono ?_
   rintro e K ⟨rfl,bN,bG⟩
   have bl:Ky wr K g:=(Ky.of_below bh hw.lt).trans bG
   have M:=(bl.block b2 bf).1
   have cf:K.cell? ⟨b2,o2,none⟩=some (.int .i64 v.k):=by rw[Oc3 (w:=wr) M];exact Y
   have ci:K.cell? ⟨b2,o2+1,none⟩=some (.int .i64 v.n):=by rw[Oc3 (w:=wr) M];exact Z
   have cj:K.cell? ⟨b2,o2+2,none⟩=some (.string v.s):=by rw[Oc3 (w:=wr) M];exact ba
   clear Y Z ba
   go_wp2_with fail
   refine(Jl0 B g t v _ _ bN (by rw[Oa8,List.length_cons,List.length_nil];omega) bu.out).mono ?_
   rintro e cc ⟨rfl,bO,bH⟩
   have R:=bl.trans bH
   go_wp2
   go_roundw
   case rel=>
    have bQ:=Zk bz.out R bc
    have bE:bs++Yc xs=(done++[low (q:Int)]++enc v.k v.n v.s)++Yc (A.drop q):=by rw[O.out,bb.out];simp
    refine⟨A.drop q,done++[low (q:Int)]++enc v.k v.n v.s,_,H-q,by rw[Of7],by rw[Of7];omega,by rw[Of7];omega,fun u bL=>bi.out u (Oh7 bL),bE,?_,?_,bO,bn.trans R⟩
    ·by_cases e:H=q
     ·have:A.drop q=[]:=List.drop_eq_nil_iff.2 (by omega)
      rw[this];exact Jv.nil _ _
     rw[if_neg e];exact Jzg bQ q
    intro b o N
    have bC:b=b2:=by
     split at N<;>simp at N<;>exact N.1.symm
    subst bC
    exact(R.block _ bf).2
   case measure=>simp[Kgl];omega
theorem Jn3 (l:List V):∀ (d:List V) (v:V),v∈d→v∈Ym d l:=by
 induction l with
 |nil=>intro d v h;exact h
 |cons u l A=>
  intro d v h
  simp only[Ym]
  refine A _ v ?_
  split
  ·exact h
  exact List.mem_append_left _ h
theorem Jr9 (l:List V):∀ (d:List V) (v:V),v∈l→v∈Ym d l:=by
 induction l with
 |nil=>intro d v h;simp at h
 |cons u l H=>
  intro d v h
  simp only[Ym]
  rcases Of1.1 h with rfl|h
  ·refine Jn3 l _ v ?_
   split
   ·rename_i A
    have:=Jnx d v A
    rw[←this];exact Ob3 A
   exact List.mem_append_right _ (by simp)
  exact H _ v h
theorem Jfh (l:List V)(v:V)(h:v∈l):Qc l v<l.length:=by
 induction l with
 |nil=>simp at h
 |cons u l H=>
  by_cases e:u.beq v=true
  ·simp[Qc,e]
  have A:u≠v:=(V.beq_false u v).1 (by simpa using e)
  have:v∈l:=by rcases Of1.1 h with rfl|h;exact absurd rfl A;exact h
  simp[Qc,e];exact H this
theorem Jlj (l:List V):∀ (d:List V) (v:V),v∈Ym d l→v∈d∨v∈l:=by
 induction l with
 |nil=>intro d v h;exact .inl h
 |cons u l A=>
  intro d v h
  simp only[Ym]at h
  rcases A _ v h with h|h
  ·split at h
   ·exact .inl h
   rcases Od2.1 h with h|h
   ·exact .inl h
   right;simp at h;subst h;exact Of4
  exact .inr (Og1 _ h)
def Jds (xs:List V):List UInt8:=(low (Ym [] xs).length::Yv (Ym [] xs))++Kk (Ue 4 (xs.map (Qc (Ym [] xs))))
theorem Kfc (d:List V)(v:V)(h:Qc d v<d.length):idx d v=(Qc d v:Int):=by unfold idx;rw[if_pos h]
theorem Jki (B g:Nat)(t:Int)(a:Option Addr)(cap:Nat)(xs:List V)(bs:List UInt8)(w:World)(h:WAt w B g t bs)(ck:bs.length≤1000)(R:xs.length≤64)(bO:∀ v∈xs,Ksq v.k v.s)(bD:Jv w a xs)(bJ:∀ b o,a=some ⟨b,o,none⟩→Ya w g b) :
  Calls Tryz.prog 191 #[.pointer (some ⟨g,0,none⟩),.slice a xs.length cap] w fun e w'=>e=.returned (.tuple #[])∧WAt w' B g t (bs++Jds xs)∧Ky w w' g:=by
 have bV:∀ W,(Instr.makeSlice 332 (.int .i64 (xs.length:Int)) (.int .i64 (xs.length:Int))).run Tryz.prog W=.ok (.slice (some ⟨W.heap.size,0,none⟩) xs.length xs.length) (W.alloc (.cells (madeCells #[.int .u64 0] xs.length) 300)):=
  fun W=>run_make_row' 332 300 (.int .u64 0) 8 (by kernel_rfl) Jiq rfl .i64 .i64 xs.length (by omega) (by omega) W
 have bW:=Jk0 xs []
 have bb:∀ v∈Ym [] xs,Ksq v.k v.s:=fun v L=>by
  rcases Jlj xs [] v L with h|h
  ·simp at h
  exact bO v h
 have bz:∀ v∈xs,Qc (Ym [] xs) v<(Ym [] xs).length:=fun v L=>Jfh _ _ (Jr9 xs [] v L)
 have bl:Jds xs=(low (Ym [] xs).length::Yv (Ym [] xs))++Kk (Ue 4 (xs.map (Qc (Ym [] xs)))):=rfl
 have bE:Hid _:=bl
 clear bl
 go_enter Tryz.func191,Tryz.ntmps191
 go_wp2_with fail
 refine(Jd8 a cap xs w R bD).mono ?_
 rintro e w1 ⟨sv,rfl,J,I⟩
 obtain⟨U,bj,rfl,bA⟩:=J.vals
 have Y:∀ b o,U=some ⟨b,o,none⟩→Ya w1 g b:=by
  intro b o M
  subst M
  have:=Je J (g:=b) rfl
  exact Jc2 h I this.1 this.2
 generalize Ym [] xs=d at *
 have bL:d.length≤64:=by simp at bW;omega
 have bB:=h.below I
 clear J
 go_wp2_with fail
 refine(Zq B g t _ _ _ bB (by omega)).mono ?_
 rintro e cn ⟨rfl,bC,N⟩
 have bh:=Zk bA N Y
 have Z:=Jde N Y
 go_wp2_with fail
 refine(Jk4 B g t U bj d _ _ bC (by rw[Oa8,List.length_cons,List.length_nil];omega) bL bb bh Z).mono ?_
 rintro e A ⟨rfl,bi,bc⟩
 have bu:=N.trans bc
 have hk:=(Ky.of_below I h.lt).trans bu
 have bX:=Zk bh bc Z
 have cb:=Zk bD hk bJ
 have bS:=Jgg d bb
 have bT:(bs++[low d.length]++Yv d).length≤50000:=by simp only[Oa8,List.length_cons,List.length_nil];omega
 clear bA bh Y Z bB bC N bc I bu bb bS
 have bM:d.length≤maxLen:=by unfold maxLen;omega
 go_wp2_with fail
 clear bV
 go_loopw [22] (fun i wr=>∃ k:Nat,k≤xs.length∧i=.int .i64 k∧wr.rowIs A.heap.size 300 xs.length (fun j=>uv (if j<k then (xs.map (Qc d))[j]?.getD 0 else 0))∧Below A.heap.size A wr) (fun i _=>xs.length-(intOf i).toNat)
 case atStart=>exact⟨0,by omega,rfl,Ol3 _ _ _ _,(Oa5 _ _).alloc (Oa2 _) _⟩
 case round=>
  obtain⟨k,cj,rfl,K,H⟩:=hrel
  by_cases O:k<xs.length
  ·obtain⟨b1,o1,rfl,I,cv,cx,cy⟩:=(cb.below H).at O
   have c3:=K.lt
   have bx:=bz _ (Ob3 O)
   have br:=Kfc d xs[k] bx
   have bn:(xs.map (Qc d))[k]?.getD 0=Qc d xs[k]:=by simp[O]
   have bG:Hid _:=bn
   have bH:Hid (idx d xs[k]=(Qc d xs[k]:Int)):=br
   have bY:=(bX.below H).below ((Oa5 _ _).alloc (Oa2 _) (.cells #[.int .i64 xs[k].k,.int .i64 xs[k].n,.string xs[k].s] 55))
   have cl:Qc d xs[k]≤64:=by omega
   clear bn br bx
   go_wp2_with fail
   refine(Joy U bj d xs[k] _ bM bY).mono ?_
   rintro e w4 ⟨rfl,X⟩
   rw[bH.out]
   obtain⟨ba,bN⟩:=Kx X
   have bf:w4.rowIs A.heap.size 300 xs.length (fun j=>uv (if j<k then (xs.map (Qc d))[j]?.getD 0 else 0)):=(K.alloc _).of_block (X.block _ (K.alloc _).lt)
   have c1:=bf.cell O
   have c2:=bf.frozen k
   clear ba bN
   generalize Qc d xs[k]=P at *
   go_wp2
   go_roundw
   case rel=>
    refine⟨k+1,by omega,by go_num,(bf.set k _).congr fun j ci=>?_,(Jb H (Qx X)).setCell (p:=⟨A.heap.size,k,none⟩) (Oa2 _) _⟩
    by_cases e:j=k
    ·subst e
     simp only[if_true,On2]
     rw[bG.out]
     rfl
    have bI:(j<k+1)=(j<k):=by rw[eq_iff_iff];omega
    simp only[e,bI,if_false]
   case measure=>simp[intOf];omega
  have bR:k=xs.length:=by omega
  subst bR
  have J:Jo wr A.heap.size 300 (.slice (some ⟨A.heap.size,0,none⟩) xs.length xs.length) ((xs.map (Qc d)).map uv):=
   Jhx K (Oa2 _) (by unfold maxLen;omega) _ (by simp) (by
    intro i hi
    have bP:i<xs.length:=by simpa using hi
    simp[bP])
  obtain⟨cc,cf,bk,ba⟩:=J.cells
  simp only[Oa6]at bk
  injection bk with e5 e6 e7
  subst e5
  subst e7
  have bK:(xs.map (Qc d)).length=xs.length:=by simp
  have bZ:=bi.below H
  have bU:=K.lt
  go_wp2_with fail
  rw[←bK]
  refine(Jd4 B g t _ 4 _ _ (xs.map (Qc d)) _ bZ bT (by omega) (by simpa using R) (by
   intro n R;obtain⟨v,L,rfl⟩:=Of0.1 R;have:=bz v L;omega) ba (by
   intro b o M
   simp at M
   obtain⟨rfl,rfl⟩:=M
   exact Jc2 bi H (Oa2 _) bU)).mono ?_
  rintro e cu ⟨rfl,ca,bQ⟩
  go_wp2_with fail
  go_end0
  refine⟨rfl,?_,(hk.trans (Ky.of_below H bi.lt)).trans bQ⟩
  rw[bE.out]
  simpa using ca
end
section
open Go.RowKit
def Jei:List V→List UInt8
 |[]=>[]
 |v::l=>
  le8 (u64 (Jn v.n (v::l)))++[low (bitLen (Yz (dif v.n (Jn v.n (v::l))) (Uv l (Jn v.n (v::l)))):Nat)]
   ++ Kk (Ue (bitLen (Yz (dif v.n (Jn v.n (v::l))) (Uv l (Jn v.n (v::l))))) (Uv (v::l) (Jn v.n (v::l))))
def Zz (t:Int)(xs:List V):List UInt8:=if t=2 then Kk (Ue 1 (Uv xs 0))else Jei xs
theorem Jkx (xs:List V)(q:Int):∀ n∈Uv xs q,n<18446744073709551616:=by
 intro n A
 obtain⟨v,_,rfl⟩:=Of0.1 A
 exact Jp3 _
theorem Jf7 (n:Nat)(h:n<18446744073709551616):bitLen n≤64:=by
 unfold bitLen
 split
 ·omega
 rename_i h0
 have:=(Nat.log2_lt h0).2 (show n<2 ^ 64 from h)
 omega
theorem Jq7 (B g:Nat)(t:Int)(a:Option Addr)(cap:Nat)(xs:List V)(bs:List UInt8)(w:World)(h:WAt w B g t bs)(bY:bs.length≤1000)(H:xs.length≤64)(R:Jv w a xs) :
  Calls Tryz.prog 193 #[.pointer (some ⟨g,0,none⟩),.slice a xs.length cap] w fun e w'=>e=.returned (.tuple #[])∧WAt w' B g t (bs++Zz t xs)∧Ky w w' g:=by
 obtain⟨cj,c0,_,_,_,_⟩:=h.cells
 unfold Zz
 by_cases bk:t=2
 ·subst bk
  rw[if_pos rfl]
  go_enter Tryz.func193,Tryz.ntmps193
  go_wp2_with fail
  refine(Jff a cap xs 0 w H R).mono ?_
  rintro e w1 ⟨sv,rfl,L,I⟩
  have bc:=fun b Z=>Je L (g:=b) Z
  obtain⟨bW,bX,rfl,bJ⟩:=L.cells
  rw[Oa6]
  have bP:=Jkx xs 0
  have N:(Uv xs 0).length≤64:=by simpa [Uv] using H
  generalize K:Uv xs 0=J at *
  have bD:Hid (Uv xs 0=J):=K
  clear K
  go_wp2_with fail
  refine(Jd4 B g 2 _ 1 _ _ J _ (h.below I) (by omega) (by omega) N bP bJ (by
   intro b o bf
   subst bf
   have:=bc b rfl
   exact Jc2 h I this.1 this.2)).mono ?_
  rintro e bA ⟨rfl,bQ,bL⟩
  go_wp2_with fail
  exact bodyPost_ret (v:=.tuple #[]) (by simp[results,Tryz.results193,go_sem]) rfl ⟨rfl,by rw[bD.out];exact bQ,(Ky.of_below I h.lt).trans bL⟩
 rw[if_neg bk]
 have ca:(t==2)=false:=by simp[bk]
 cases xs with
 |nil=>
  go_enter Tryz.func193,Tryz.ntmps193
  go_wp2
  exact bodyPost_ret (v:=.tuple #[]) (by simp[results,Tryz.results193,go_sem]) rfl ⟨rfl,by simpa [Jei] using h,Ky.refl _ _⟩
 |cons v l=>
  have bz:Jei (v::l)=le8 (u64 (Jn v.n (v::l)))++[low (bitLen (Yz (dif v.n (Jn v.n (v::l))) (Uv l (Jn v.n (v::l)))):Nat)]
   ++ Kk (Ue (bitLen (Yz (dif v.n (Jn v.n (v::l))) (Uv l (Jn v.n (v::l))))) (Uv (v::l) (Jn v.n (v::l)))):=rfl
  have bj:=Jkt a cap v l w H R
  generalize Jn v.n (v::l)=q at *
  have U:Hid _:=bz
  clear bz
  have bh:=fun W bG bH=>Jff a cap (v::l) q W bG bH
  have K:Uv (v::l) q=dif v.n q::Uv l q:=rfl
  have O:=Jkx (v::l) q
  rw[K]at U O
  have N:(dif v.n q::Uv l q).length≤64:=by simpa [Uv] using H
  have bx:Yz (dif v.n q) (Uv l q)<18446744073709551616:=Jk2 _ _ _ (O _ Of4) fun n H=>O n (Og1 _ H)
  have bI:=Jf7 _ bx
  have M:∃ A:List V,A=v::l:=⟨_,rfl⟩
  obtain⟨A,M⟩:=M
  have bZ:((A.length:Int)==0)=false:=by rw[M];simp;omega
  rw[←M]at R H bj bh K U ⊢
  clear M
  have bE:Hid (Calls Tryz.prog 222 #[.slice a A.length cap] w fun e w'=>e=.returned (.int .i64 q)∧Below w.heap.size w w'):=bj
  clear bj
  generalize dif v.n q=Y at *
  generalize Uv l q=J at *
  have bC:Hid (∀ W,A.length≤64→Jv W a A→Calls Tryz.prog 221 #[.slice a A.length cap,.int .i64 q] W fun e w'=>∃ sv,e=.returned sv∧Jo w' W.heap.size 300 sv ((Uv A q).map uv)∧Below W.heap.size W w'):=bh
  clear bh
  go_enter Tryz.func193,Tryz.ntmps193
  go_wp2_with fail
  refine bE.out.mono ?_
  rintro e w1 ⟨rfl,I⟩
  go_wp2_with fail
  refine(bC.out w1 H (R.below I)).mono ?_
  rintro e bA ⟨sv,rfl,L,br⟩
  have bc:=fun b Z=>Je L (g:=b) Z
  rw[K]at L
  obtain⟨X,bl,rfl,bu⟩:=L.cells
  rw[Oa6]
  go_wp2_with fail
  refine(Kf3 X bl Y J bA N bu).mono ?_
  rintro e bB ⟨rfl,bb⟩
  unfold uv
  go_wp2_with fail
  refine(Jy4 _ bB bx).mono ?_
  rintro e w4 ⟨rfl,cb⟩
  subst w4
  have ba:=Jb I (Jb br bb)
  have bR:=h.below ba
  have bK:=bu.below bb
  generalize bitLen (Yz Y J)=bV at *
  go_wp2_with fail
  refine(Jka B g t q _ _ bR (by omega)).mono ?_
  rintro e ck ⟨rfl,bS,bM⟩
  go_wp2_with fail
  refine(Zq B g t _ _ _ bS (by rw[Oa8,Jc4];omega)).mono ?_
  rintro e cl ⟨rfl,bT,bN⟩
  have bi:=bM.trans bN
  have bn:∀ b o,X=some ⟨b,o,none⟩→Ya bB g b:=by
   intro b o bf
   subst bf
   have:=bc b rfl
   have cc:=I.size
   have cf:=br.size
   have ci:=bb.size
   exact Jc2 h ba (by omega) (by omega)
  go_wp2_with fail
  refine(Jd4 B g t _ bV X bl (Y::J) _ bT (by simp only[Oa8,Jc4,List.length_cons,List.length_nil];omega) bI N O (Jwe bK bi bn) (Jde bi bn)).mono ?_
  rintro e cn ⟨rfl,bU,bO⟩
  go_wp2_with fail
  go_end0
  refine⟨rfl,?_,((Ky.of_below ba h.lt).trans bi).trans bO⟩
  rw[U.out]
  simpa using bU
theorem Jgs (g:Nat)(w:World) :
  Calls Tryz.prog 162 #[.pointer (some ⟨g,0,none⟩)] w fun e w'=>e=.returned (.agg #[.func (.func 190) #[.pointer (some ⟨g,0,none⟩)] #[],.func (.func 191) #[.pointer (some ⟨g,0,none⟩)] #[],.func (.func 192) #[.pointer (some ⟨g,0,none⟩)] #[],.func (.func 193) #[.pointer (some ⟨g,0,none⟩)] #[]])∧Below w.heap.size w w':=by
 have hone:∀ (W:World) (a:Addr) f x c,(store a (.func f x c)).run Tryz.prog W=match W.cell? a with
   | some _ => if W.frozen? a then .halt (.unsupported (.unsafePointer "a write to bytes that a string shares")) W else .ok () (W.setCell a (.func f x c))
   |none=>match W.farStore Tryz.prog a (.func f x c) (Mode.plain==.atomic)with
    |.ok (w',_)=>.ok () w'
    |.error h=>.halt h W:=fun W a f x c=>run_store Tryz.prog W a (.func f x c) .plain rfl
 go_enter Tryz.func162,Tryz.ntmps162
 go_wp2
 exact bodyPost_ret (v:=.agg #[.func (.func 190) #[.pointer (some ⟨g,0,none⟩)] #[],.func (.func 191) #[.pointer (some ⟨g,0,none⟩)] #[],.func (.func 192) #[.pointer (some ⟨g,0,none⟩)] #[],.func (.func 193) #[.pointer (some ⟨g,0,none⟩)] #[]]) (by simp[results,Tryz.results162,go_sem]) rfl ⟨rfl,(Oa5 _ _).alloc (Oa2 _) _⟩
end
section
open Go.RowKit Go.Extern.Stop Go.Stop Go.Extern Tryz
theorem Kbo (v:Value)(a t:Addr)(w:World)(h:∃ k,Zg w k v a)(A:∃ c t,w.heap[a.block]?=some (.cells c t (0,0)))(I:∃ c u,w.heap[t.block]?=some (.cells c u (0,0)))(r:Bool)(L:r=true↔a=t) :
  Calls prog 136 #[v,.iface 528 (.pointer (some t)),.bool true] w fun e w'=>e=.returned (.bool r)∧w'=w:=by
 obtain⟨br,bD,A⟩:=A
 obtain⟨ct,bE,I⟩:=I
 obtain⟨i,hi,J⟩:=Oe9.1 Khh
 obtain⟨j,K,X⟩:=Oe9.1 Kha
 have R:Hid ((binOp .eql 108 (.iface 528 (.pointer (some a))) (.iface 528 (.pointer (some t)))).run prog w=.ok (.bool r) w):=by
  show _=_
  by_cases H:a=t
  ·rw[L.2 H];subst H
   exact run_eql_iface_ptr_same (P:=prog) w a underlying108 underlying528 hi J K
  have:r=false:=by cases r with
   |false=>rfl
   |true=>exact absurd (L.1 rfl) H
  rw[this]
  exact run_eql_iface_ptr_other (P:=prog) w underlying108 underlying528 hi J K (by rw[X];decide) H A I
 have O:Hid (∃ k,Zg w k v a):=h
 obtain⟨bG,bI,rfl⟩:∃ ty x,v=.iface ty x:=by obtain⟨_,bb⟩:=h;exact bb.iface
 clear h L A I hi J K X
 go_enter func136,ntmps136
 go_wp2_with fail
 obtain⟨k0,Y⟩:=O.out
 go_loopg [0] k0 (fun k ev wr=>wr=w∧Zg w k ev a)
 case atStart=>exact⟨rfl,Y⟩
 case round=>
  obtain⟨bf,N⟩:=hrel
  subst bf
  clear O Y
  rcases gk with _|n
  ·have bh:_=Value.iface 528 (.pointer (some a)):=N
   subst bh
   clear N
   have bi:=Kcw
   have bk:=Jmp
   have bH:=Jhb
   have bz:=R.out
   cases r with
   |true=>
    go_wp2_with fail
    go_ret
    exact⟨rfl,rfl⟩
   |false=>
    go_wp2_with fail
    go_ret
    exact⟨rfl,rfl⟩
  obtain⟨ty,bC,bl,b,v,hW,bc,U,M⟩:=N
  subst bc
  have Z:Hid (Zg wr n v a):=M
  have ba:Hid (Calls prog bl #[.pointer (some ⟨b,0,none⟩)] wr fun e w'=>e=.returned v∧w'=wr):=hW.walk b v _ U
  obtain⟨bj,bn,rfl⟩:=M.iface
  have bi:=hW.noIs
  have bk:=hW.unwrap
  have bB:=hW.meth
  have bu:=hW.enter
  have bx:=hW.eql
  have bA:=run_eql_held_nil (P:=prog) wr 108 bj bn (by kernel_rfl)
  clear hW U M R
  go_wp2_with fail
  refine ba.out.mono ?_
  rintro e w' ⟨rfl,rfl⟩
  go_wp2_with fail
  go_roundg n
  case measure=>exact On2 n
  case rel=>exact⟨by first|trivial|rfl,Z.out⟩
theorem Jci (v:Value)(a t:Addr)(w:World)(h:∃ k,Zg w k v a)(H:∃ c t,w.heap[a.block]?=some (.cells c t (0,0)))(J:∃ c u,w.heap[t.block]?=some (.cells c u (0,0)))(r:Bool)(I:r=true↔a=t) :
  Calls prog 100 #[v,.iface 528 (.pointer (some t))] w fun e w'=>e=.returned (.bool r)∧w'=w:=by
 have N:=@run_callFunc_extern prog 135 _ Extern.ReflectliteType.typeOf func135 (by kernel_rfl) (by kernel_rfl) (by kernel_rfl) (by kernel_rfl)
 have M:=Kcb
 have R:=Jld
 have L:=Jpv
 have O:=Jhv
 have A:=Kbo v a t w h H J r I
 obtain⟨ty,x,rfl⟩:∃ ty x,v=.iface ty x:=by obtain⟨_,A⟩:=h;exact A.iface
 have K:Hid (Calls prog 136 #[.iface ty x,.iface 528 (.pointer (some t)),.bool true] w fun e w'=>e=.returned (.bool r)∧w'=w):=A
 clear A I H J h
 go_enter func100,ntmps100
 go_wp2_with fail
 refine K.out.mono ?_
 rintro e w' ⟨rfl,rfl⟩
 go_wp2_with fail
 go_ret
 exact⟨rfl,rfl⟩
end
section
def Jlv (s:Nat)(b:UInt8):Nat:=((s ^^^ b.toNat)*1099511628211) % 18446744073709551616
def Khr (l:List UInt8):Nat:=l.foldl Jlv 14695981039346656037
def le7 (u:Nat):List UInt8:=(List.range 7).map fun i=>UInt8.ofNat (u / 256 ^ i % 256)
def Jm7 (l:List UInt8):List UInt8:=le7 (Khr l)
def Jfo (A:List UInt8):List UInt8:=A++List.replicate (56-A.length) 0++[UInt8.ofNat A.length]
def Jdm (A:List UInt8):List UInt8:=Jfo A++Jm7 (Jfo A)
def Jd2 (p:List UInt8):Option (List UInt8):=
 if 56<(p.getD 56 0).toNat∨p.drop 57≠Jm7 (p.take 57)then none else some (p.take (p.getD 56 0).toNat)
theorem Jcc {A:List UInt8}(h:A.length≤56):(Jfo A).length=57:=by
 simp[Jfo];omega
theorem Jhq (u:Nat):(le7 u).length=7:=by simp[le7]
theorem Kjo (l:List UInt8):(Jm7 l).length=7:=Jhq _
theorem Kwq {A:List UInt8}(h:A.length≤56):(Jdm A).length=64:=by
 simp[Jdm,Jcc h,Kjo]
theorem Jwh {A:List UInt8}(h:A.length≤56):(Jdm A).take 57=Jfo A:=by
 rw[Jdm,List.take_append_of_le_length (by rw[Jcc h];exact Oa2 _),Oc8 (by rw[Jcc h];exact Oa2 _)]
theorem Jwp {A:List UInt8}(h:A.length≤56):(Jdm A).drop 57=Jm7 (Jfo A):=by
 rw[Jdm,List.drop_append,Jcc h]
 simp[List.drop_of_length_le,Jcc h]
theorem Kbq {A:List UInt8}(h:A.length≤56):((Jdm A).getD 56 0).toNat=A.length:=by
 have e:(Jdm A).getD 56 0=UInt8.ofNat A.length:=by
  rw[Jdm,Oa0,Ob0 (by rw[Jcc h];omega),Jfo,Ob6 (by simp;omega)]
  have:56-(A++List.replicate (56-A.length) (0:UInt8)).length=0:=by simp;omega
  rw[this];rfl
 rw[e]
 simp
 omega
theorem Jxe {A:List UInt8}(h:A.length≤56):Jd2 (Jdm A)=some A:=by
 unfold Jd2
 rw[Kbq h,Jwh h,Jwp h,if_neg (by simp;omega)]
 congr 1
 rw[Jdm,Jfo,Od8,Od8,List.take_left]
theorem Kuf (s:Nat)(b:UInt8):Jlv s b % 72057594037927936=(((s % 72057594037927936) ^^^ b.toNat)*1099511628211) % 72057594037927936:=by
 have I:b.toNat<256:=b.toNat_lt
 unfold Jlv
 rw[Nat.mod_mod_of_dvd _ (by decide:(72057594037927936:Nat) ∣ 18446744073709551616),Nat.mul_mod]
 have A:=@Nat.xor_mod_two_pow s b.toNat 56
 have H:(2 ^ 56:Nat)=72057594037927936:=by decide
 rw[H,Oi5 (a:=b.toNat) (by omega)]at A
 rw[A]
theorem Ky2 {x y:Nat}(h:x*1099511628211 % 72057594037927936=y*1099511628211 % 72057594037927936):x % 72057594037927936=y % 72057594037927936:=by
 have A:∀ z:Nat,z % 72057594037927936=(z*1099511628211 % 72057594037927936)*42309584051148155 % 72057594037927936:=by
  intro z
  rw[Nat.mod_mul_mod,Nat.mul_assoc,Nat.mul_mod]
  have:(1099511628211*42309584051148155) % 72057594037927936=1:=by decide
  rw[this];simp
 rw[A x,A y,h]
theorem Kuc {s:Nat}(hs:s<72057594037927936)(b:UInt8):s ^^^ b.toNat<72057594037927936:=by
 have A:b.toNat<256:=b.toNat_lt
 exact Oo8 (n:=56) hs (by omega)
theorem Ky3 {a b c:Nat}(h:a ^^^ c=b ^^^ c):a=b:=by
 have:=congrArg (· ^^^ c) h
 simpa [Nat.xor_assoc] using this
theorem Kyw {s t:Nat}(b:UInt8)(h:Jlv s b % 72057594037927936=Jlv t b % 72057594037927936):s % 72057594037927936=t % 72057594037927936:=by
 rw[Kuf,Kuf]at h
 have:=Ky2 h
 rw[Oi5 (Kuc (Ol0 _ (by decide)) b),Oi5 (Kuc (Ol0 _ (by decide)) b)]at this
 exact Ky3 this
theorem Kzs {s:Nat}{a b:UInt8}(h:Jlv s a % 72057594037927936=Jlv s b % 72057594037927936):a=b:=by
 rw[Kuf,Kuf]at h
 have:=Ky2 h
 rw[Oi5 (Kuc (Ol0 _ (by decide)) a),Oi5 (Kuc (Ol0 _ (by decide)) b)]at this
 rw[Nat.xor_comm,Nat.xor_comm _ b.toNat]at this
 exact UInt8.toNat_inj.1 (Ky3 this)
theorem Kvj:∀ (l:List UInt8){s t:Nat},l.foldl Jlv s % 72057594037927936=l.foldl Jlv t % 72057594037927936→s % 72057594037927936=t % 72057594037927936
 |[],_,_,h=>h
 |b::l,_,_,h=>Kyw b (Kvj l h)
theorem Kyj (l:List UInt8)(i:Nat)(hi:i<l.length)(b:UInt8)(I:b≠l[i]):Khr (l.set i b) % 72057594037927936≠Khr l % 72057594037927936:=by
 intro h
 have A:l.set i b=l.take i++b::l.drop (i+1):=by rw[On0,if_pos hi]
 have H:l=l.take i++l[i]::l.drop (i+1):=by simp
 unfold Khr at h
 rw[A]at h
 conv at h=>rhs;rw[H]
 rw[Ol1,Ol1,List.foldl_cons,List.foldl_cons]at h
 exact I (Kzs (Kvj _ h))
theorem Qbt {x y:Nat}(h:le7 x=le7 y):x % 72057594037927936=y % 72057594037927936:=by
 have g:∀ i,i<7→x / 256 ^ i % 256=y / 256 ^ i % 256:=by
  intro i hi
  have:=congrArg (fun l=>(l.getD i 0).toNat) h
  simp[le7,List.getD_eq_getElem?_getD,hi]at this
  omega
 have A:=g 0 (by omega)
 have g1:=g 1 (by omega)
 have g2:=g 2 (by omega)
 have H:=g 3 (by omega)
 have I:=g 4 (by omega)
 have J:=g 5 (by omega)
 have K:=g 6 (by omega)
 simp at A g1 g2 H I J K
 omega
theorem Kwi {A:List UInt8}(h:A.length≤56)(i:Nat)(hi:i<64)(b:UInt8)(L:b≠(Jdm A).getD i 0):Jd2 ((Jdm A).set i b)=none:=by
 have N:=Kwq h
 have J:b≠(Jdm A)[i]:=by simpa [Oa0,N,hi] using L
 unfold Jd2
 rw[if_pos]
 right
 intro I
 rcases Oc1 i 57 with H|H
 ·rw[List.drop_set_of_lt H,List.take_set,Jwp h,Jwh h]at I
  have M:b≠(Jfo A)[i]'(by rw[Jcc h];omega):=by
   have:(Jdm A)[i]=(Jfo A)[i]'(by rw[Jcc h];omega):=by simp[Jdm,List.getElem_append_left,Jcc h,H]
   rw[←this];exact J
  exact Kyj _ i (by rw[Jcc h];omega) b M (Qbt I.symm)
 rw[List.take_set_of_le H,Jwh h,List.drop_set,if_neg (by omega),Jwp h]at I
 have O:=Kjo (Jfo A)
 have:(Jdm A)[i]=(Jm7 (Jfo A))[i-57]'(by omega):=by simp[Jdm,List.getElem_append_right,Jcc h,H]
 rw[this]at J
 apply J
 have K:=congrArg (fun l=>l.getD (i-57) 0) I
 simp[List.getD_eq_getElem?_getD,O,show i-57<7 by omega]at K
 exact K
end
section
open Go.RowKit Tryz
def Jdp (w:World)(b:Nat)(p:List UInt8):Prop:=p.length=64∧w.rowIs b 363 64 (fun j=>bv (p.getD j 0))
theorem Jdp.of_block {w w':World}{b:Nat}{p:List UInt8}(h:Jdp w b p)(e:w'.heap[b]?=w.heap[b]?):Jdp w' b p:=⟨h.1,h.2.of_block e⟩
theorem Jdp.below {w w':World}{b:Nat}{p:List UInt8}(h:Jdp w b p)(A:Below w.heap.size w w'):Jdp w' b p:=h.of_block (A.block _ h.2.lt)
theorem Kgb (x y:Nat)(I:x<18446744073709551616)(J:y<18446744073709551616):bits .xor .u64 (x:Int) (y:Int)=((x ^^^ y:Nat):Int):=by
 have L:x ^^^ y<18446744073709551616:=Oo8 (n:=64) I J
 have K:(BitVec.ofInt 64 (x:Int) ^^^ BitVec.ofInt 64 (y:Int)).toNat=x ^^^ y:=by
  rw[BitVec.toNat_xor,Ok6,Ok6]
  have A:((x:Int) % ((2 ^ 64:Nat):Int)).toNat=x:=by omega
  have H:((y:Int) % ((2 ^ 64:Nat):Int)).toNat=y:=by omega
  rw[A,H]
 show IntKind.u64.wrap ((BitVec.ofInt 64 (x:Int) ^^^ BitVec.ofInt 64 (y:Int)).toNat:Nat)=_
 rw[K,Oh5]
 omega
theorem Jze (p:List UInt8)(k:Nat)(hk:k<p.length)(s:Nat):(p.take (k+1)).foldl Jlv s=Jlv ((p.take k).foldl Jlv s) (p.getD k 0):=by
 rw[Oc4 hk,Ol1,List.foldl_cons,List.foldl_nil]
 congr 1
 simp[hk]
theorem Jsn (b:Nat)(p:List UInt8)(w:World)(h:Jdp w b p) :
  Calls prog 226 #[.pointer (some ⟨b,0,none⟩)] w fun e w'=>e=.returned (.string (Qw (Jm7 (p.take 57))))∧Below w.heap.size w w':=by
 go_enter func226,ntmps226
 go_wp2
 go_loopw [3,12] (fun s i wr=>∃ k z:Nat,k≤57∧i=.int .i64 k∧s=.int .u64 z∧z<18446744073709551616∧Hid (z=(p.take k).foldl Jlv 14695981039346656037)∧(∃ m,wr=w.drewN m)) (fun _ i _=>57-(intOf i).toNat)
 case atStart=>exact⟨0,14695981039346656037,by omega,rfl,rfl,by decide,rfl,0,rfl⟩
 case round=>
  rename_i s i
  obtain⟨k,z,hk,rfl,rfl,O,HZ,m,rfl⟩:=hrel
  by_cases N:k<57
  ·obtain⟨n,ba,J⟩:∃ n:Nat,n<256∧Hid (n=(p.getD k 0).toNat):=⟨_,(p.getD k 0).toNat_lt,rfl⟩
   have U:w.cell? ⟨b,k,none⟩=some (.int .u8 (n:Nat)):=by rw[h.2.cell (i:=k) (by omega),J.out];rfl
   have bb:=Kgb z n O (by omega)
   have bc:z ^^^ n<18446744073709551616:=Oo8 (n:=64) O (by omega)
   have R:Hid (Jlv z (p.getD k 0)=((z ^^^ n)*1099511628211) % 18446744073709551616):=by show Jlv _ _=_;rw[J.out];rfl
   generalize z ^^^ n=x at *
   go_wp2
   go_roundw
   case rel=>
    refine⟨k+1,(x*1099511628211) % 18446744073709551616,by omega,by go_num,?_,by omega,?_,m,rfl⟩
    ·have e:((x*1099511628211 % 18446744073709551616:Nat):Int)=(x:Int)*1099511628211 % 18446744073709551616:=by omega
     rw[Oh5,e]
    exact(R.out.symm.trans (by rw[HZ.out])).trans (Jze p k (by rw[h.1];omega) _).symm
   case measure=>simp[intOf];omega
  obtain rfl:k=57:=by omega
  go_wp2
  go_loopw [22] (fun i wr=>∃ k:Nat,k≤7∧i=.int .i64 k∧wr.rowIs w.heap.size 431 7 (fun j=>bv (if j<k then (le7 z).getD j 0 else 0))∧Below w.heap.size w wr) (fun i _=>7-(intOf i).toNat)
  case atStart=>
   refine⟨0,by omega,rfl,World.rowIs_alloc _ _ _ _ ?_,(Jp (Oa5 _ w) m).alloc (Oa2 _) _⟩
   intro i hi
   match i,hi with
   |0,_=>rfl
   |1,_=>rfl
   |2,_=>rfl
   |3,_=>rfl
   |4,_=>rfl
   |5,_=>rfl
   |6,_=>rfl
  case round=>
   rename_i i
   obtain⟨k,hk,rfl,H,K⟩:=hrel
   by_cases N:k<7
   ·have U:=H.cell (i:=k) (by omega)
    have Z:=H.frozen k
    go_wp2
    go_roundw
    case rel=>
     refine⟨k+1,by omega,by go_num,(H.set k _).congr fun j A=>?_,K.setCell (p:=⟨w.heap.size,k,none⟩) (Oa2 _) _⟩
     by_cases M:j=k
     ·subst M
      have X:(2:Int) ^ (8*j)=((256 ^ j:Nat):Int):=by
       have:(256:Nat) ^ j=2 ^ (8*j):=by rw[Nat.pow_mul]
       rw[this]
       simp
      simp[le7,N,bv,X]
     have:(j<k+1)=(j<k):=by rw[eq_iff_iff];omega
     simp[M,this]
    case measure=>simp[intOf];omega
   obtain rfl:k=7:=by omega
   have Y:(convert 137 9 (.slice (some ⟨w.heap.size,0,none⟩) 7 7)).run prog wr=.ok (.string (Qw (le7 z))) wr:=by
    have:=Jc6 wr ⟨w.heap.size,0,none⟩ 7 (le7 z) (fun j u A=>?_)
    ·rwa [Jhq]at this
    have L:j<7:=by
     rcases Oc1 j 7 with I|I
     ·exact I
     ·rw[Ob4 (by simp[Jhq];exact I)]at A;simp at A
    have:=H.cell (i:=j) L
    rw[Addr.add_mid]
    simp only[Od0]
    rw[this]
    simp[L,Jhq]at A ⊢
    exact A
   go_wp2
   go_ret
   refine⟨?_,K⟩
   show Ending.returned (Value.string (Qw (le7 z)))=_
   rw[show Jm7 (p.take 57)=le7 z by unfold Jm7 Khr;rw[←HZ.out]]
theorem Kgi (w:World):(Go.sizeOf 5).run prog w=.ok 1 w:=by kernel_rfl
theorem Kju (l:List UInt8):(Qw l).data.toList=l:=by simp[Qw]
theorem Kkt (w:World)(C:Array Value)(A:C=Array.replicate 64 (.int .u8 0)):(w.alloc (.cells C 363)).rowIs w.heap.size 363 64 (fun _=>bv 0):=by
 subst A
 refine World.rowIs_alloc _ _ _ _ fun i hi=>?_
 simp at hi
 rw[Array.getElem?_replicate,if_pos hi]
 rfl
theorem Kkm (A:List UInt8)(H:A.length≤56)(j:Nat)(K:j<64) :
  (if j=56 then Value.int .u8 ((A.length:Nat):Int)else if 0≤j∧j<0+(A.map fun x=>Value.int .u8 (x.toNat:Int)).length then (A.map fun x=>Value.int .u8 (x.toNat:Int))[j-0]?.getD default else bv 0)=bv ((Jfo A++List.replicate 7 0).getD j 0):=by
 by_cases J:j=56
 ·subst J
  have e:(Jfo A++List.replicate 7 0).getD 56 0=UInt8.ofNat A.length:=by
   rw[Oa0,Ob0 (by rw[Jcc H];omega),Jfo,Ob6 (by simp;omega)]
   have:56-(A++List.replicate (56-A.length) (0:UInt8)).length=0:=by simp;omega
   rw[this];rfl
  rw[if_pos rfl,e]
  simp[bv]
  omega
 rw[if_neg J]
 by_cases I:j<A.length
 ·rw[if_pos (by simp;omega)]
  have e:(Jfo A++List.replicate 7 0).getD j 0=A[j]:=by
   rw[Oa0,Ob0 (by rw[Jcc H];omega),Jfo,Od8,Ob0 I]
   simp[I]
  rw[e]
  simp[I,bv]
 rw[if_neg (by simp;omega)]
 have e:(Jfo A++List.replicate 7 0).getD j 0=0:=by
  rw[Oa0]
  rcases Oc1 j 57 with h|h
  ·rw[Ob0 (by rw[Jcc H];omega),Jfo,Ob0 (by simp;omega),Ob6 (by omega),Of3]
   split<;>rfl
  rw[Ob6 (by rw[Jcc H];omega),Of3]
  split<;>rfl
 rw[e]
theorem Kki (bd A:List UInt8)(H:bd.length=57)(hs:A.length=7)(j:Nat)(I:j<64) :
  (if 57≤j∧j<57+(A.map fun x=>Value.int .u8 (x.toNat:Int)).length then (A.map fun x=>Value.int .u8 (x.toNat:Int))[j-57]?.getD default else bv ((bd++List.replicate 7 0).getD j 0))=bv ((bd++A).getD j 0):=by
 by_cases h:57≤j
 ·rw[if_pos (by simp[hs];omega),Oa0,Ob6 (by omega),H]
  simp[show j-57<A.length by omega,bv]
 rw[if_neg (by simp;omega),Oa0,Oa0,Ob0 (by omega),Ob0 (by omega)]
theorem Kkp (A:List UInt8)(I:A.length≤56)(w:World) :
  Calls prog 195 #[.string (Qw A)] w fun e w'=>e=.returned (.pointer (some ⟨w.heap.size,0,none⟩))∧Jdp w' w.heap.size (Jdm A)∧Below w.heap.size w w':=by
 have bA:=Jb2 A
 go_enter func195,ntmps195
 go_upto_region 2 with fail
 generalize O:World.alloc w (Obj.cells _ 363)=J
 have K:J.rowIs w.heap.size 363 64 (fun _=>bv 0):=by rw[←O];exact Kkt w _ rfl
 have Y:Below w.heap.size w J:=by rw[←O];exact(Oa5 _ w).alloc (Oa2 _) _
 clear O
 have bn:=run_copy_string (P:=prog) J 137 9 3 5 w.heap.size 0 64 64 (Qw A) underlying137 Kgi (by omega)
  (fun j H=>by rw[Od0,K.cell (by omega)];rfl) (fun j H=>by rw[Od0];exact K.frozen j)
 have L:=rowIs_setCells ((Qw A).data.toList.map fun x=>Value.int .u8 (x.toNat:Int)) 0 _ _ K
 have Z:=below_setCells (Oa2 w.heap.size) ((Qw A).data.toList.map fun x=>Value.int .u8 (x.toNat:Int)) 0 _ Y
 generalize J.setCells w.heap.size 0 ((Qw A).data.toList.map fun x=>Value.int .u8 (x.toNat:Int))=bi at *
 have bj:=L.cell (i:=56) (by omega)
 have bk:=L.frozen 56
 go_upto_region 4 with fail
 have bf:=L.set 56 (.int .u8 ((A.length:Nat):Int))
 have ba:=Z.setCell (p:=⟨w.heap.size,56,none⟩) (Oa2 _) (.int .u8 ((A.length:Nat):Int))
 generalize bi.setCell ⟨w.heap.size,56,none⟩ (.int .u8 ((A.length:Nat):Int))=X at *
 have bc:Jdp X w.heap.size (Jfo A++List.replicate 7 0):=by
  refine⟨by simp[Jcc I],bf.congr fun j H=>?_⟩
  rw[Kju]
  exact Kkm A I j H
 clear bn L Z bj bk bf K Y
 have bu:(Jfo A++List.replicate 7 0).take 57=Jfo A:=by
  rw[List.take_append_of_le_length (by rw[Jcc I];exact Oa2 _),Oc8 (by rw[Jcc I];exact Oa2 _)]
 have bh:=Jsn w.heap.size _ X.drew (bc.of_block rfl)
 rw[bu]at bh
 have M:=Kjo (Jfo A)
 have U:Hid (Jdm A=Jfo A++Jm7 (Jfo A)):=rfl
 generalize Jm7 (Jfo A)=N at *
 go_region_with (first|(go_at_call 226;refine bh.mono ?_;rintro e bx ⟨rfl,bb⟩;have R:=(bc.below (Jw bb)).2;have bz:=run_copy_string (P:=prog) bx 137 9 3 5 w.heap.size 57 7 7 (Qw N) underlying137 Kgi (by rw[Jb2,M];omega) (fun j H=>by rw[Jb2,M]at H;rw[R.cell (by omega)];rfl) (fun j H=>R.frozen _)))
 have br:=rowIs_setCells ((Qw N).data.toList.map fun x=>Value.int .u8 (x.toNat:Int)) 57 _ _ R
 have bl:=below_setCells (Oa2 w.heap.size) ((Qw N).data.toList.map fun x=>Value.int .u8 (x.toNat:Int)) 57 _ (ba.trans ((Jw bb).mono ba.size))
 go_wp2
 go_ret
 refine⟨rfl,⟨by rw[U.out];simp[Jcc I,M],br.congr fun j H=>?_⟩,bl⟩
 rw[Kju,U.out]
 exact Kki (Jfo A) N (Jcc I) M j H
theorem Jjh (b:Nat)(p:List UInt8)(W:World)(h:Jdp W b p)(A n c:Nat)(L:A+n≤64) :
  (convert 137 9 (.slice (some ⟨b,A,none⟩) n c)).run prog W=.ok (.string (Qw ((p.drop A).take n))) W:=by
 have K:((p.drop A).take n).length=n:=by rw[Oc7,Of7,h.1];omega
 have:=Jc6 W ⟨b,A,none⟩ c ((p.drop A).take n) (fun j u H=>?_)
 ·rwa [K]at this
 have J:j<n:=by
  rcases Oc1 j n with I|I
  ·exact I
  ·rw[Ob4 (by simp;omega)]at H;simp at H
 rw[Addr.add_mid,h.2.cell (i:=A+j) (by omega)]
 rw[Ob1,Oh3 J,Oh9]at H
 rw[Oa0]
 cases hq:p[A+j]? with
 |none=>rw[hq]at H;simp at H
 |some x=>rw[hq]at H;simpa using H
theorem Jtg:prog.elem 363=5:=by kernel_rfl
theorem Jp0:prog.underlying 363=some (.array (prog.arrayLen 363) (prog.elem 363)):=by kernel_rfl
theorem Jmr:prog.arrayLen 363=64:=by kernel_rfl
theorem Jt5 (b n:Nat)(W:World)(A:n≤64):(Instr.sliceAt 363 (.pointer (some ⟨b,0,none⟩)) none (some (.int .i64 (n:Int))) none).run prog W=.ok (.slice (some ⟨b,0,none⟩) n 64) W:=by
 have h:=run_sliceAt_array_h (P:=prog) W 363 ⟨b,0,none⟩ Jp0 .i64 (n:Int) (by omega) (by rw[Jmr];omega)
 rw[Jtg,Kgi,Jmr]at h
 rw[h]
 simp[Result.andThen,slicedAt,Addr.add]
theorem Ke1 (b:Nat)(p:List UInt8)(w:World)(h:Jdp w b p) :
  Calls prog 196 #[.pointer (some ⟨b,0,none⟩)] w fun e w'=>e=.returned (.tuple #[.string (Qw ((Jd2 p).getD [])),.bool (Jd2 p).isSome])∧Below w.heap.size w w':=by
 obtain⟨n,bk,ba⟩:∃ n:Nat,n<256∧Hid (n=(p.getD 56 0).toNat):=⟨_,(p.getD 56 0).toNat_lt,rfl⟩
 have bi:w.cell? ⟨b,56,none⟩=some (.int .u8 (n:Nat)):=by rw[h.2.cell (i:=56) (by omega),ba.out];rfl
 have J:Hid (Jd2 p=if 56<n∨p.drop 57≠Jm7 (p.take 57)then none else some (p.take n)):=by show Jd2 p=_;unfold Jd2;rw[ba.out]
 generalize Jd2 p=U at *
 have bh:=Jsn b p w.drew (h.of_block rfl)
 have O:(p.drop 57).take 7=p.drop 57:=Oc8 (by rw[Of7,h.1];omega)
 have bc:=Jjh b p w.drew (h.of_block rfl) 57 7 7 (by omega)
 rw[O]at bc
 by_cases bb:56<n
 ·have:U=none:=by rw[J.out,if_pos (.inl bb)]
  subst this
  have bf:decide ((56:Int)<(n:Int))=true:=by simp;omega
  go_enter func196,ntmps196
  go_wp2_with fail
  go_quiet (fail)
  go_wp2
  go_ret2
  exact⟨rfl,Jp (Oa5 _ _) _⟩
 have Z:Hid (∀ W,Jdp W b p→(convert 137 9 (.slice (some ⟨b,57,none⟩) 7 7)).run prog W=.ok (.string (Qw (p.drop 57))) W):=fun W hW=>by
  have:=Jjh b p W hW 57 7 7 (by omega)
  rwa [O]at this
 have Y:Hid (∀ W,Jdp W b p→(convert 137 9 (.slice (some ⟨b,0,none⟩) n 64)).run prog W=.ok (.string (Qw (p.take n))) W):=fun W hW=>by
  have:=Jjh b p W hW 0 n 64 (by omega)
  rwa [List.drop_zero]at this
 have N:Hid (∀ W,Jdp W b p→Calls prog 226 #[.pointer (some ⟨b,0,none⟩)] W fun e w'=>e=.returned (.string (Qw (Jm7 (p.take 57))))∧Below W.heap.size W w'):=fun W hW=>Jsn b p W hW
 have bf:decide ((56:Int)<(n:Int))=false:=by simp;omega
 clear bh bc O
 by_cases I:p.drop 57=Jm7 (p.take 57)
 ·have:U=some (p.take n):=by rw[J.out,if_neg (by intro H;rcases H with H|H;exact bb H;exact H I)]
  subst this
  rw[←I]at N
  clear J I
  generalize p.drop 57=X at *
  generalize p.take n=br at *
  go_enter func196,ntmps196
  go_wp2_with fail
  go_region_held3 (fun A=>Jdp A b p∧(convert 137 9 (.slice (some ⟨b,57,none⟩) 7 7)).run prog A=.ok (.string (Qw X)) A)
   (first|(go_split_ands;refine⟨?_,Z.out _ ?_⟩<;>(first|exact h|exact h.of_block rfl|exact M|(have R:Jdp _ b p:=by assumption;exact R.of_block rfl)|assumption)))
   (first|(go_at_call 226;refine(N.out _ (by first|assumption|(go_split_ands;assumption))).mono ?_;rintro e L ⟨rfl,K⟩;have M:Jdp L b p:=Jdp.below (w:=w.drew) (h.of_block rfl) K))
  have bj:=Y.out L M
  have bn:=Jt5 b n L (by omega)
  go_wp2
  go_ret2
  exact⟨rfl,Jw K⟩
 have:U=none:=by rw[J.out,if_pos (.inr I)]
 subst this
 have bl:((Qw (p.drop 57)).toList==(Qw (Jm7 (p.take 57))).toList)=false:=by
  rw[beq_eq_false_iff_ne]
  exact fun H=>I (Kfv (by rw[←Zf (Qw (p.drop 57)),H,Zf]))
 clear J I Y
 generalize p.drop 57=X at *
 generalize Jm7 (p.take 57)=bu at *
 go_enter func196,ntmps196
 go_wp2_with fail
 go_region_held3 (fun A=>Jdp A b p∧(convert 137 9 (.slice (some ⟨b,57,none⟩) 7 7)).run prog A=.ok (.string (Qw X)) A)
  (first|(go_split_ands;refine⟨?_,Z.out _ ?_⟩<;>(first|exact h|exact h.of_block rfl|exact M|(have R:Jdp _ b p:=by assumption;exact R.of_block rfl)|assumption)))
  (first|(go_at_call 226;refine(N.out _ (by first|assumption|(go_split_ands;assumption))).mono ?_;rintro e L ⟨rfl,K⟩;have M:Jdp L b p:=Jdp.below (w:=w.drew) (h.of_block rfl) K))
 go_wp2
 go_ret2
 exact⟨rfl,Jw K⟩
end
end Go.Proofs.YtcaocabmioafcaaGreatDoor
