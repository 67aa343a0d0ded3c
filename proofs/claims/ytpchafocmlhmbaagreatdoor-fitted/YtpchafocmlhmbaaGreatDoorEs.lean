/- How many bits a number below 2^64 needs: math/bits.Len64, by Go's own text. -/
import Derived.Deep.RegionLaw
import Derived.Deep.AppendLies
import Derived.Deep.DrawnRows
import Derived.Test.YtpchafocmlhmbaaGreatDoorEr
set_option maxHeartbeats 1000000
set_option maxRecDepth 100000
namespace Go.Proofs.YtpchafocmlhmbaaGreatDoor
section
open Go.RowKit Tryz
end
section
open Go.RowKit Tryz
def WAt (w:World)(B g:Nat)(t:Int)(bs:List UInt8):Prop:=
 B≤g∧∃ sv,w.heap[g]?=some (.cells #[.int .i64 t,sv] 200 (0,0))∧Jo w B 5 sv (bs.map bv)∧sv.ownBlock≠some g
def Ya (w:World)(g k:Nat):Prop:=k<w.heap.size∧k≠g∧∀ sv,w.cell? ⟨g,1,none⟩=some sv→sv.ownBlock≠some k
structure Ky (w w':World) (g:Nat):Prop where
 os:w'.os=w.os
 tape:w'.tape=w.tape
 output:w'.output=w.output
 size:w.heap.size≤w'.heap.size
 block:∀ k,Ya w g k→w'.heap[k]?=w.heap[k]?∧Ya w' g k
theorem Ky.refl (w:World)(g:Nat):Ky w w g:=⟨rfl,rfl,rfl,Oa2 _,fun _ h=>⟨rfl,h⟩⟩
theorem Ky.trans {a b c:World}{g:Nat}(h:Ky a b g)(k:Ky b c g):Ky a c g:=
 ⟨k.os.trans h.os,k.tape.trans h.tape,k.output.trans h.output,Ob2 h.size k.size,fun i hi=>⟨((k.block i (h.block i hi).2).1).trans (h.block i hi).1,(k.block i (h.block i hi).2).2⟩⟩
theorem Ky.of_below {w w':World}{g:Nat}(y:Below w.heap.size w w')(E:g<w.heap.size):Ky w w' g:=
 ⟨y.os,y.tape,y.output,y.size,fun k D=>⟨y.block k D.1,by have:=y.size;have:=D.1;omega,D.2.1,fun sv hs=>D.2.2 sv (by rw[←hs];exact(Oc3 (w:=w) (y.block g E)).symm)⟩⟩
theorem WAt.lt {w:World}{B g:Nat}{t:Int}{bs:List UInt8}(h:WAt w B g t bs):g<w.heap.size:=by
 obtain⟨_,sv,D,_⟩:=h;rcases Oc1 g w.heap.size with y|y
 ·exact y
 simp[Array.getElem?_eq_none y]at D
theorem WAt.below {w w':World}{B g:Nat}{t:Int}{bs:List UInt8}(h:WAt w B g t bs)(y:Below w.heap.size w w'):WAt w' B g t bs:=by
 have hl:=h.lt;obtain⟨D,sv,E,H,hn⟩:=h;exact⟨D,sv,by rw[y.block g hl];exact E,H.below y,hn⟩
theorem WAt.cells {w:World}{B g:Nat}{t:Int}{bs:List UInt8}(h:WAt w B g t bs) :
  ∃ sv,w.cell? ⟨g,0,none⟩=some (.int .i64 t)∧w.cell? ⟨g,1,none⟩=some sv∧w.frozen? ⟨g,1,none⟩=false∧Jo w B 5 sv (bs.map bv)∧sv.ownBlock≠some g:=by
 obtain⟨_,sv,y,D,hn⟩:=h;exact⟨sv,by simp[World.cell?,y],by simp[World.cell?,y],by simp[World.frozen?,y],D,hn⟩
theorem WAt.apart {w:World}{B g:Nat}{t:Int}{bs:List UInt8}(h:WAt w B g t bs){k:Nat}(H:k<B)(hl:k<w.heap.size):Ya w g k:=by
 obtain⟨sv,_,y,_,D,_⟩:=h.cells;have E:=h.1;refine⟨hl,by omega,fun sv' hs e=>?_⟩;rw[y]at hs;cases hs
 have:=(Je D e).1;omega
theorem WAt.step {w K w1:World}{B g:Nat}{t:Int}{bs bs':List UInt8}{sv sv':Value}(h:WAt w B g t bs)(R:w.cell? ⟨g,1,none⟩=some sv)(D:Below w.heap.size w K)
  (E:K.grownBy w1 sv.ownBlock) (br:Jo w1 B 5 sv' (bs'.map bv)) (bc:sv'.ownBlock=sv.ownBlock∨sv'.ownBlock=some K.heap.size) :
  WAt (w1.setCell ⟨g,1,none⟩ sv') B g t bs'∧Ky w (w1.setCell ⟨g,1,none⟩ sv') g:=by
 have hl:=h.lt;obtain⟨bh,H,U,bz,hn⟩:=h;have bf:H=sv:=by simpa [World.cell?,U] using R
 subst bf;have bB:=D.size;have bj:K.heap[g]?=some (.cells #[.int .i64 t,H] 200 (0,0)):=by rw[D.block g hl];exact U
 have bi:w1.heap[g]?=some (.cells #[.int .i64 t,H] 200 (0,0)):=by rw[E.block g (by omega) (Oc5 hn)];exact bj
 have Y:sv'.ownBlock≠some g:=by
  rcases bc with e|e
  ·rw[e];exact hn
  rw[e];intro O;simp at O;omega
 have ba:(w1.setCell ⟨g,1,none⟩ sv').heap[g]?=some (.cells #[.int .i64 t,sv'] 200 (0,0)):=by
  simp[World.setCell,Array.getElem?_modify,bi]
 have Z:∀ k,k≠g→(w1.setCell ⟨g,1,none⟩ sv').heap[k]?=w1.heap[k]?:=fun k y=>Oa4 _ _ _ _ y;have bA:(w1.setCell ⟨g,1,none⟩ sv').heap.size=w1.heap.size:=by simp[World.setCell]
 have bx:=E.size;refine⟨⟨bh,sv',ba,?_,Y⟩,⟨E.os.trans D.os,E.tape.trans D.tape,E.output.trans D.output,by omega,?_⟩⟩
 ·exact Jl br fun k y=>Z k fun e=>Y (by rw[y,e])
 intro k y;have X:=y.2.2 H R;have bn:=y.1;refine⟨?_,by omega,y.2.1,fun s hs=>?_⟩
 ·rw[Z k y.2.1,E.block k (by omega) (Oc5 X),D.block k bn]
 have:s=sv':=by
  have e:(w1.setCell ⟨g,1,none⟩ sv').cell? ⟨g,1,none⟩=some sv':=by simp[World.cell?,ba]
  rw[e]at hs;exact(Oj6 hs).symm
 subst this;rcases bc with e|e
 ·rw[e];exact X
 rw[e];intro O;simp at O;omega
theorem Zk {w w':World}{g:Nat}{a:Option Addr}{vs:List V}(h:Jv w a vs)(y:Ky w w' g)(D:∀ b o,a=some ⟨b,o,none⟩→Ya w g b):Jv w' a vs:=
 h.of_block y.size fun b o E _=>(y.block b (D b o E)).1
theorem Jde {w w':World}{g:Nat}{a:Option Addr}(E:Ky w w' g)(y:∀ b o,a=some ⟨b,o,none⟩→Ya w g b):∀ b o,a=some ⟨b,o,none⟩→Ya w' g b:=
 fun b o D=>(E.block b (y b o D)).2
theorem Jc2 {w w':World}{B g:Nat}{t:Int}{bs:List UInt8}(h:WAt w B g t bs)(D:Below w.heap.size w w'){k:Nat}(K:w.heap.size≤k)(E:k<w'.heap.size):Ya w' g k:=by
 have hl:=h.lt;obtain⟨sv,_,y,_,H,_⟩:=h.cells;refine⟨E,by omega,fun s hs e=>?_⟩;have:w'.cell? ⟨g,1,none⟩=some sv:=by rw[Oc3 (w:=w) (D.block g hl)];exact y
 rw[this]at hs;cases hs
 have:=(Je H e).2;omega
theorem Ua (w:World)(v:Value)(e:TypeId):∀ (j:Nat) (u:Value),[v][j]?=some u→(w.alloc (.cells #[v] e)).cell? ((⟨w.heap.size,0,none⟩:Addr).add j)=some u:=by
 intro j u y;cases j with
 |zero=>simp at y;subst y;simp[Addr.add]
 |succ j=>simp at y
theorem Jnf (w:World)(o:Obj)(b i:Nat)(h:b<w.heap.size):(w.alloc o).cell? ⟨b,i,none⟩=w.cell? ⟨b,i,none⟩:=
 Oc3 (Oa9 w o b h)
theorem Jh9 (w:World)(o:Obj)(b i:Nat)(h:b<w.heap.size):(w.alloc o).frozen? ⟨b,i,none⟩=w.frozen? ⟨b,i,none⟩:=
 Ol7 (Oa9 w o b h)
theorem Kgh (n:Int):Value.int .u8 (n % 256)=bv (low n):=by
 unfold bv low;congr 1
 simp;omega
end
section
open Go.RowKit Tryz
theorem Zq (B g:Nat)(t n:Int)(bs:List UInt8)(w:World)(h:WAt w B g t bs)(hl:bs.length≤100000) :
  Calls prog 119 #[.pointer (some ⟨g,0,none⟩),.int .i64 n] w fun e w'=>e=.returned (.tuple #[])∧WAt w' B g t (bs++[low n])∧Ky w w' g:=by
 have X:=h.lt;have U:=h.1;obtain⟨sv,c0,c1,c2,K,hn⟩:=h.cells;have Y:(bs.map bv).length≤100000:=by simpa using hl
 go_enter func119,ntmps119
 go_wp2_with (at_builtin;go_must (refine Ks (by rfl) _ _ 198 5 _ 1 Jfa (by rfl) (by decide) (by kernel_rfl) (by rfl) B sv _ (by rfl) (K.alloc _) ⟨w.heap.size,0,none⟩ 1 [.int .u8 (n % 256)] (by rfl) (by exact Ua _ _ _) (by intro u E;simp at E;subst E;rfl) (by simp only[List.length_cons,List.length_nil];omega) (by simp;omega) ?_);intro sv' w1 y D H;obtain⟨O,R,rfl,_⟩:=y.cells;have Z:=D.cell_far ⟨g,1,none⟩ (by simp;omega) (Oc5 hn);have ba:=D.frozen_far ⟨g,1,none⟩ (by simp;omega) (Oc5 hn))
 go_end0
 rw[Kgh]at y;have:=h.step (bs':=bs++[low n]) c1 ((Oa5 _ _).alloc (Oa2 _) _) D (by simpa using y) H;simp only[Oa8,Oa6,List.length_cons,List.length_nil]at this;exact⟨rfl,this⟩
theorem Jka (B g:Nat)(t n:Int)(bs:List UInt8)(w:World)(h:WAt w B g t bs)(hl:bs.length≤100000) :
  Calls prog 169 #[.pointer (some ⟨g,0,none⟩),.int .i64 n] w fun e w'=>e=.returned (.tuple #[])∧WAt w' B g t (bs++le8 (u64 n))∧Ky w w' g:=by
 have R:IntKind.u64.wrap n=(u64 n:Int):=by rw[Oh5];unfold u64;omega
 have bI:=Jp3 n;generalize u64 n=y at *;go_enter func169,ntmps169
 go_wp2;go_loopw [5] (fun i wr=>∃ k:Nat,k≤8∧i=.int .i64 k∧WAt wr B g t (bs++(List.range k).map fun i=>UInt8.ofNat (y / 256 ^ i % 256))∧Ky w wr g) (fun i _=>8-(intOf i).toNat)
 case atStart=>exact⟨0,by omega,rfl,by simpa using h,Ky.refl _ _⟩
 case round=>
  obtain⟨k,bD,rfl,D,X⟩:=hrel;by_cases bG:k<8
  ·have U:=D.lt;have bC:=D.1;obtain⟨sv,c0,c1,c2,br,hn⟩:=D.cells;generalize E:bs++((List.range k).map fun i=>UInt8.ofNat (y / 256 ^ i % 256))=bk at *;have bE:(bk.map bv).length≤100010:=by rw[←E];simp;omega
   have Z:Hid _:=E;clear E;obtain⟨c,bi⟩:∃ c:Nat,c=8*k:=⟨_,rfl⟩;have bJ:IntKind.i64.wrap (8*(k:Int))=(c:Int):=by rw[Od4];omega
   obtain⟨q,K⟩:∃ q:Nat,q=y / 256 ^ k % 256:=⟨_,rfl⟩;have bK:IntKind.u8.wrap ((y:Int) / 2 ^ min c 64)=(q:Int):=by
    have e:min c 64=8*k:=(by omega);have bc:((2:Int) ^ (8*k))=((256 ^ k:Nat):Int):=by
     rw[Int.natCast_pow,Int.pow_mul];rfl
    rw[e,K,bc,IntKind.wrap_u8];omega
   have ba:Hid (Value.int .u8 (q:Int)=bv (UInt8.ofNat (y / 256 ^ k % 256))):=by
    show Value.int .u8 (q:Int)=_;rw[K];unfold bv;congr 1;simp
   clear bi K;obtain⟨bB,bj,bx,bz,bA⟩:=info_parts Jfa;go_wp2_with fail
   go_region_law
    ((refine step_append_lies _ (by rfl) _ _ _ (by rfl) B 5 bB _ 1 1 (by kernel_rfl) bj bx bz bA rfl (by omega) sv (bk.map bv).length (bk.map bv) (by rfl) ((World.ownsRow.drew (br.alloc _)))
       ⟨wr.heap.size,0,none⟩ 1 1 [.int .u8 (q:Int)] (by rfl) (by rfl) (by exact Ua wr _ 5) (by intro u R;simp at R;subst R;rfl)
       (by omega) (by unfold maxLen;omega) (by omega) (by simp;omega) (wr.heap.size+1) (by simp) ?_;intro bf cap w1 Y H bh bH;have bL:w1.cell? ⟨g,1,none⟩=some sv:=(by rw[H.cell_far _ (by simp;omega) (Oc5 hn)];exact(Jnf wr _ g 1 U).trans c1);have bM:w1.frozen? ⟨g,1,none⟩=false:=(by rw[H.frozen_far _ (by simp;omega) (Oc5 hn)];exact(Jh9 wr _ g 1 U).trans c2)))
   all_goals
    go_wp2;go_roundw
    case rel=>
     rw[ba.out]at Y;have O:=D.step (bs':=bk++[UInt8.ofNat (y / 256 ^ k % 256)]) (sv':=.slice (some ⟨bf,0,none⟩) ((List.map bv bk).length+1) cap) c1 (((Oa5 _ _).alloc (Oa2 _) _).drew) H (by simpa [Jo] using Y)
      (by
        rcases bh with e|e
        ·exact .inl e.symm
        right;simp[Value.ownBlock,e])
     simp only[Oa6]at O;refine⟨k+1,by omega,by go_num,?_,X.trans O.2⟩;rw[Oj7,Ob8,←Od8,Z.out];exact O.1
    case measure=>simp[intOf];omega
  have bn:k=8:=by omega
  subst bn;go_wp2;go_end0
  exact⟨rfl,D,X⟩
end
section
open Go.RowKit Tryz
theorem Jo.form {w:World}{B:Nat}{e:TypeId}{sv:Value}{xs:List Value}(h:Jo w B e sv xs):∃ a ln c,sv=.slice a ln c:=by
 obtain⟨a,c,y,_⟩:=h.cells;exact⟨a,_,c,y⟩
theorem Jsr (s:ByteArray):Lib.strCells s=s.toList.map bv:=by
 rw[Og4];rfl
theorem Jlc (w:World)(B:Nat)(ty:TypeId)(sv:Value)(bs:List UInt8)(D:Jo w B 5 sv (bs.map bv))(Z:bs≠[])(s:ByteArray)(bi:bs.length+s.size≤1000000)(X:B≤w.heap.size) :
  ∃ sv' w',(Builtin.append_ #[198,9] ty #[sv,.string s]).run prog w=.ok sv' w'∧Jo w' B 5 sv' ((bs++s.toList).map bv)∧w.grownBy w' sv.ownBlock∧(sv'.ownBlock=sv.ownBlock∨sv'.ownBlock=some w.heap.size):=by
 obtain⟨i,hi,K,E,H⟩:=info_parts Jfa;have hl:(bs.map bv).length=bs.length:=by simp
 obtain⟨v',w',hr,R,U,_⟩:=Lib.run_append_own_string (P:=prog) w B 198 9 ty 5 i (by kernel_rfl) (by kernel_rfl) hi K E H sv _ _ D s (by unfold maxLen;omega) (by omega) X;refine⟨v',w',hr,?_,U,?_⟩
 ·unfold Jo;rw[Ob8,←Jsr,Oa8,Lib.strCells_length];exact R
 rcases D.2 with⟨_,h0⟩|⟨g,cap,O,rfl,bc,Y,bj,bf,bh,bn⟩
 ·rw[hl]at h0;exact absurd (Od3.1 h0) Z
 by_cases ba:(bs.map bv).length+s.size≤cap
 ·have y:=Lib.run_append_room_string (P:=prog) w 198 9 ty 5 i (by kernel_rfl) (by kernel_rfl) hi E g (bs.map bv).length cap O Y s ba (by omega);rw[hr]at y;injection y with e1 _;subst e1;exact .inl rfl
 have y:=Lib.run_append_grow_string (P:=prog) w 198 9 ty 5 i _ (by kernel_rfl) (by kernel_rfl) hi K ⟨g,0,none⟩ (bs.map bv).length cap (bs.map bv) (by rw[E,Nat.mul_one]) (World.ownsRow.cells D (g:=g) rfl) s (by omega) (by omega) (by rw[H];exact growslice_fits (by omega) (by omega));rw[hr]at y;injection y with e1 _;subst e1;exact .inr rfl
theorem Jks {D:Array Oper}{o:Oper}{a:Act}{w:World}{y:Act→World→Prop}{Q:Exit→Act→World→Prop}{E:Prop}(U:o.guard=none)(sl x:Operand)
  (Z:o.op=.call {callee:=.builtin .append,args:=#[sl,x],argTypes:=#[198,9]})
  (B:Nat) (sv:Value) (bs:List UInt8) (hs:a.eval sl=sv) (ba:Jo w B 5 sv (bs.map bv)) (Y:bs≠[]) (s:ByteArray) (bf:a.eval x=.string s) (X:bs.length+s.size≤1000000) (R:B≤w.heap.size)
  (h:∀ sv' w',Jo w' B 5 sv' ((bs++s.toList).map bv)→w.grownBy w' sv.ownBlock→(sv'.ownBlock=sv.ownBlock∨sv'.ownBlock=some w.heap.size)→y (a.put o.dst sv') w') :
  if Region.wanted o (yielded D a.tmps)=true then Oper.wp prog o a w y Q else E:=by
 have bc:Region.wanted o (yielded D a.tmps)=true:=by simp[Region.wanted,U]
 rw[if_pos bc];obtain⟨v',w',hr,H,K,O⟩:=Jlc w B o.type sv bs ba Y s X R;unfold Oper.wp execOp;simp only[Z,resolve,invoke,builtin,Sem.run_bind,Sem.run_pure,Result.andThen_ok,List.map_toArray,Oe4,Oi4,hs,bf,hr];exact h v' w' H K O
end
section
open Go.RowKit Tryz
theorem Khe (y n b A:Nat)(K:y<256)(hn:n<18446744073709551616) :
  bits BinOp.or IntKind.u8 (y:Int) (bits BinOp.and IntKind.u64 ((n:Int) / 2 ^ b) 1 % 256*2 ^ (A % 8) % 256)=((y ||| ((if n.testBit b then 1 else 0) <<< (A % 8)):Nat):Int):=by
 have D:((n:Int) / 2 ^ b)=((n / 2 ^ b:Nat):Int):=by simp
 have R:n / 2 ^ b<18446744073709551616:=Nat.lt_of_le_of_lt (Oo6 _ _) hn;have E:bits BinOp.and IntKind.u64 ((n / 2 ^ b:Nat):Int) 1=((n / 2 ^ b % 2:Nat):Int):=by
  have:=u64_and_nat (n / 2 ^ b) 1 R (by decide);rw[Nat.and_one_is_mod]at this;exact this
 have H:n.testBit b=decide (n / 2 ^ b % 2=1):=On1;rw[D,E,H];have U:n / 2 ^ b % 2<2:=Ol0 _ (by decide);have O:A % 8<8:=Ol0 _ (by decide);generalize n / 2 ^ b % 2=m at *;generalize A % 8=c at *;have X:∀ (m:Fin 2) (c:Fin 8),((m.val:Int) % (256:Int)*(2:Int) ^ c.val % (256:Int))=(((if decide (m.val=1)=true then 1 else 0) <<< c.val:Nat):Int)∧((if decide (m.val=1)=true then 1 else 0) <<< c.val:Nat)<256:=by decide
 have k:=X ⟨m,U⟩ ⟨c,O⟩;simp only at k;rw[k.1];exact u8_or_nat y _ K k.2
theorem Jd4 (B g:Nat)(t:Int)(bs:List UInt8)(y:Nat)(a:Option Addr)(cap:Nat)(ns:List Nat)(w:World)(h:WAt w B g t bs)(hl:bs.length≤50000)(cF:y≤64)(hn:ns.length≤64)(cD:∀ n∈ns,n<18446744073709551616)(cG:Uh w a (ns.map uv))(cJ:∀ b o,a=some ⟨b,o,none⟩→Ya w g b) :
  Calls prog 120 #[.pointer (some ⟨g,0,none⟩),.int .i64 y,.slice a ns.length cap] w fun e w'=>e=.returned (.tuple #[])∧WAt w' B g t (bs++Kk (Ue y ns))∧Ky w w' g:=by
 have cP:y*ns.length≤64*64:=Ol5 cF hn;obtain⟨W,U⟩:∃ W:Nat,W=y*ns.length:=⟨_,rfl⟩;have ch:(y:Int)*(ns.length:Int)=(W:Int):=by rw[U];simp
 obtain⟨D,bO⟩:∃ D:Nat,D=(W+7) / 8:=⟨_,rfl⟩;have cz:((W:Int)+7) / 8=(D:Int):=by omega
 have bG:=Jal y ns;generalize hL:Ue y ns=L at *;have cy:∀ W,(Instr.makeSlice 198 (.int .i64 (D:Int)) (.int .i64 (D:Int))).run prog W=.ok (.slice (some ⟨W.heap.size,0,none⟩) D D) (W.alloc (.cells (madeCells #[.int .u8 0] D) 5)):=
  fun W=>run_make_row' 198 5 (.int .u8 0) 1 (by kernel_rfl) Jfa rfl .i64 .i64 D (by omega) (by omega) W
 have R:Hid (L.length=W):=by show _=_;rw[bG,U]
 have bU:Hid (Ue y ns=L):=hL;have bx:Hid (W=y*ns.length):=U;have Z:Hid (D=(W+7) / 8):=bO;have cI:W≤4096:=by omega
 have cO:D≤600:=by omega
 clear hL bG U bO;go_enter func120,ntmps120
 go_wp2_with (go_at_call 162;refine(Jif _ _ (by omega) (by omega)).mono ?_;rintro e w' ⟨rfl,cQ⟩;subst w')
 clear cy ch cz;go_loopw [7,19] (fun at_ i wr=>∃ k:Nat,k≤ns.length∧i=.int .i64 k∧at_=.int .i64 ((y*k:Nat):Int)∧wr.rowIs w.heap.size 5 D (fun j=>.int .u8 (Jag (L.take (y*k)) j:Nat))∧Below w.heap.size w wr) (fun _ i _=>ns.length-(intOf i).toNat)
 case atStart=>
  refine⟨0,by omega,rfl,rfl,(Ol3 _ _ _ _).congr fun j _=>?_,(Oa5 _ _).alloc (Oa2 _) _⟩;simp[Jvq]
 case round=>
  obtain⟨k,cK,rfl,rfl,E,H⟩:=hrel;by_cases X:k<ns.length
  ·obtain⟨b1,cU,rfl,ci,bi⟩:=(cG.below H).at (i:=k) (by simpa using X);rw[Od9]at bi;unfold uv at bi;have bT:Hid (∀ b,b<y→L[y*k+b]?=some (ns[k].testBit b)):=by
    intro b bI;rw[←bU.out];exact Jms y ns k b X bI
   have bQ:ns[k]<18446744073709551616:=cD _ (Ob3 X);have bV:Hid (ns[k]<18446744073709551616):=bQ;clear bQ;generalize ns[k]=n at *;have cM:y*k+y≤W:=by
    rw[bx.out,←Nat.mul_succ];exact Nat.mul_le_mul_left _ X
   generalize bD:y*k=K at *;have bn:Hid (y*k=K):=bD;clear bD;go_wp2;go_loopw [7,24] (fun at_ i bS=>∃ b:Nat,b≤y∧i=.int .i64 b∧at_=.int .i64 ((K+b:Nat):Int)∧bS.rowIs w.heap.size 5 D (fun j=>.int .u8 (Jag (L.take (K+b)) j:Nat))∧Below w.heap.size w bS) (fun _ i _=>y-(intOf i).toNat)
   case atStart=>exact⟨0,by omega,rfl,rfl,E,H⟩
   case round=>
    clear E H bi ci;obtain⟨b,bI,rfl,rfl,E,H⟩:=hrel;by_cases cx:b<y
    ·have bJ:=bT.out b cx;generalize bC:K+b=A at *;have cc:A<W:=(by omega);have bj:Hid (K+b=A):=bC;clear bC;have cC:A / 8<D:=by rw[Z.out];omega
     have c1:=E.cell cC;have c2:=E.frozen (A / 8);have bK:=Ji4 (L.take A) (A / 8);have bR:∀ j,Jag (L.take (A+1)) j=if j=A / 8 then Jag (L.take A) j ||| ((if n.testBit b then 1 else 0) <<< (A % 8))else Jag (L.take A) j:=by
      intro j;have bE:A<L.length:=by rw[R.out];exact cc
      have cj:L[A]=n.testBit b:=by rw[Oa3 bE]at bJ;exact Oj6 bJ
      rw[Jss L A j bE,cj]
     have bW:Hid _:=bR;clear bR;generalize bH:Jag (L.take A) (A / 8)=bA at c1 bK;have bX:Hid (Jag (L.take A) (A / 8)=bA):=bH;clear bH;go_wp2;go_region
     go_wp2;go_roundw
     case rel=>
      refine⟨b+1,by omega,by go_num,?_,(E.set (A / 8) _).congr fun j O=>?_,(H.setCell (p:=⟨w.heap.size,A / 8,none⟩) (Oa2 _) _).drew⟩
      ·have:=bj.out;rw[←this];go_num
      rw[←On5,bj.out,bW.out j];by_cases e:j=A / 8
      ·rw[if_pos e,if_pos e,Khe bA n b A bK bV.out,e,bX.out]
      rw[if_neg e,if_neg e]
     case measure=>simp[intOf];omega
    have cn:b=y:=(by omega);subst cn;go_wp2;go_roundw
    case rel=>
     refine⟨k+1,by omega,by go_num,?_,?_,H⟩
     ·have:=bn.out;rw[Nat.mul_succ,this]
     rw[Nat.mul_succ,bn.out];exact E
    case measure=>simp[intOf];omega
  have cv:k=ns.length:=by omega
  subst cv;have bL:L.take (y*ns.length)=L:=Oc8 (by rw[R.out,bx.out];exact Oa2 _);rw[bL]at E;clear bL;have Y:=h.below H;have bM:=Y.lt;have cH:=Y.1;obtain⟨sv,c0,c1,c2,cB,bP⟩:=Y.cells;have cN:(bs.map bv).length≤50000:=by simpa using hl
  have bf:((Kk L).map bv).length=D:=by rw[Oa6,Qb,R.out,←Z.out]
  have br:Hid (((Kk L).map bv).length=D):=bf;have cA:∀ j u,((Kk L).map bv)[j]?=some u→wr.cell? ((⟨w.heap.size,0,none⟩:Addr).add j)=some u:=by
   intro j u O;have bN:j<D:=by
    rw[←bf];rcases Oc1 j ((Kk L).map bv).length with ba|ba
    ·exact ba
    rw[Ob4 ba]at O;simp at O
   rw[Addr.add_mid,Od0,E.cell bN];have cu:j<(L.length+7) / 8:=by rw[R.out,←Z.out];exact bN
   simp[Kk,cu,bv]at O;rw[←O];have:=Ji4 L j;congr 2
   omega
  clear bf;have ca:∀ u∈(Kk L).map bv,u.oneCell'=true:=by
   intro u cE;obtain⟨x,_,rfl⟩:=Of0.1 cE;rfl
  generalize cf:(Kk L).map bv=bz at *;go_wp2_with (at_builtin;go_must (refine Ks (by rfl) _ _ 198 5 _ 1 Jfa (by rfl) (by decide) (by kernel_rfl) (by rfl) B sv _ (by rfl) cB ⟨w.heap.size,0,none⟩ D bz (by rw[br.out];rfl) cA ca (by rw[br.out];omega) (by omega) ?_);intro sv' w1 bB bc cb;obtain⟨bY,bZ,rfl,_⟩:=bB.cells;have cS:=bc.cell_far ⟨g,1,none⟩ bM (Oc5 bP);have cT:=bc.frozen_far ⟨g,1,none⟩ bM (Oc5 bP))
  go_end0
  have bh:=Y.step (bs':=bs++Kk L) (sv':=.slice bY (List.map bv bs++bz).length bZ) c1 (Oa5 _ _) bc (by rw[Ob8,cf];exact bB) cb;simp only[Oa8,Oa6]at bh;exact⟨rfl,bh.1,(Ky.of_below H h.lt).trans bh.2⟩
end
section
open Go.RowKit Tryz
def enc (k n:Int)(s:ByteArray):List UInt8:=
 if k=1 then le8 (u64 n)else if k=2 then [low n]else if k=3 then low s.size::s.toList else []
def good (k:Int)(s:ByteArray):Prop:=k=1∨k=2∨(k=3∧s.size≤40)
theorem Kc5 (k n:Int)(s:ByteArray)(h:good k s):(enc k n s).length≤41:=by
 rcases h with h|h|⟨h,hs⟩
 ·unfold enc;rw[if_pos h,Jc4];omega
 ·unfold enc;rw[if_neg (by omega),if_pos h];simp
 unfold enc;rw[if_neg (by omega),if_neg (by omega),if_pos h,Og4,List.length_cons,Array.length_toList];exact Nat.succ_le_succ hs
theorem Jwu (B g:Nat)(t n:Int)(s:ByteArray)(bs:List UInt8)(w:World)(h:WAt w B g t bs)(hl:bs.length≤50000) :
  Calls prog 163 #[.pointer (some ⟨g,0,none⟩),.agg #[.int .i64 1,.int .i64 n,.string s]] w fun e w'=>e=.returned (.tuple #[])∧WAt w' B g t (bs++le8 (u64 n))∧Ky w w' g:=by
 have y:=h.lt;go_enter func163,ntmps163
 go_wp2_with (go_at_call 169;refine(Jka B g t _ bs _ (h.below ((Oa5 _ _).alloc (Oa2 _) _)) (by omega)).mono ?_;rintro e w' ⟨rfl,E,D⟩)
 go_end0
 exact⟨rfl,E,(Ky.of_below ((Oa5 _ _).alloc (Oa2 _) _) y).trans D⟩
theorem Jrq (B g:Nat)(t n:Int)(s:ByteArray)(bs:List UInt8)(w:World)(h:WAt w B g t bs)(hl:bs.length≤50000) :
  Calls prog 163 #[.pointer (some ⟨g,0,none⟩),.agg #[.int .i64 2,.int .i64 n,.string s]] w fun e w'=>e=.returned (.tuple #[])∧WAt w' B g t (bs++[low n])∧Ky w w' g:=by
 have y:=h.lt;go_enter func163,ntmps163
 go_wp2_with (go_at_call 119;refine(Zq B g t _ bs _ (h.below ((Oa5 _ _).alloc (Oa2 _) _)) (by omega)).mono ?_;rintro e w' ⟨rfl,E,D⟩)
 go_end0
 exact⟨rfl,E,(Ky.of_below ((Oa5 _ _).alloc (Oa2 _) _) y).trans D⟩
theorem Jsb (B g:Nat)(t n:Int)(s:ByteArray)(bs:List UInt8)(w:World)(h:WAt w B g t bs)(hl:bs.length≤50000)(hs:s.size≤40) :
  Calls prog 163 #[.pointer (some ⟨g,0,none⟩),.agg #[.int .i64 3,.int .i64 n,.string s]] w fun e w'=>e=.returned (.tuple #[])∧WAt w' B g t (bs++low s.size::s.toList)∧Ky w w' g:=by
 have ba:=h.lt;have y:=h.below ((Oa5 _ _).alloc (Oa2 _) (.cells #[.int .i64 3,.int .i64 n,.string s] 39));have Y:Ya (w.alloc (.cells #[.int .i64 3,.int .i64 n,.string s] 39)) g w.heap.size:=Jc2 h ((Oa5 _ _).alloc (Oa2 _) _) (Oa2 _) (by simp);go_enter func163,ntmps163
 go_wp2_with (go_at_call 119;refine(Zq B g t _ bs _ y (by omega)).mono ?_;rintro e w' ⟨rfl,D,K⟩)
 have H:=D.lt;have bf:=D.1;obtain⟨sv,c0,c1,c2,bc,hn⟩:=D.cells;obtain⟨Z,bh⟩:=K.block _ Y;have c3:w'.cell? ⟨w.heap.size,2,none⟩=some (.string s):=by rw[Oc3 (w:=w.alloc _) Z];simp
 have bi:w.heap.size≠g:=by omega
 go_region_law
  ((
   refine Jks (by rfl) _ _ (by rfl) B sv (bs++[low s.size]) (by rfl) (by exact bc) (by simp) s (by rfl) (by simp;omega) (by simp;omega) ?_;intro sv' w1 E y X;obtain⟨R,ln,U,rfl⟩:=E.form;have bj:w1.cell? ⟨g,1,none⟩=some sv:=(by rw[y.cell_far _ (by simpa using H) (Oc5 hn)];exact c1);have bn:w1.frozen? ⟨g,1,none⟩=false:=(by rw[y.frozen_far _ (by simpa using H) (Oc5 hn)];exact c2)))
 all_goals
  go_wp2;go_end0
  have O:=D.step (bs':=bs++low s.size::s.toList) (sv':=.slice R ln U) c1 ((Oa5 _ _).drew) y (by simpa using E) X;exact⟨rfl,O.1,((Ky.of_below ((Oa5 _ _).alloc (Oa2 _) _) ba).trans K).trans O.2⟩
theorem Jl0 (B g:Nat)(t:Int)(v:V)(bs:List UInt8)(w:World)(h:WAt w B g t bs)(hl:bs.length≤50000)(D:good v.k v.s) :
  Calls prog 163 #[.pointer (some ⟨g,0,none⟩),v.val] w fun e w'=>e=.returned (.tuple #[])∧WAt w' B g t (bs++enc v.k v.n v.s)∧Ky w w' g:=by
 obtain⟨k,n,s⟩:=v;rcases D with y|y|⟨y,hs⟩
 ·simp only at y;subst y;exact Jwu B g t n s bs w h hl
 ·simp only at y;subst y;exact Jrq B g t n s bs w h hl
 simp only at y hs;subst y;exact Jsb B g t n s bs w h hl hs
def Yv (vs:List V):List UInt8:=vs.flatMap fun v=>enc v.k v.n v.s
theorem Jgg (vs:List V)(h:∀ v∈vs,good v.k v.s):(Yv vs).length≤41*vs.length:=by
 induction vs with
 |nil=>simp[Yv]
 |cons v vs D=>
  have E:=Kc5 v.k v.n v.s (h v (Of4));have H:=D fun u y=>h u (Og1 _ y);unfold Yv at *;rw[Og7,Oa8,List.length_cons];omega
theorem Jjz (vs:List V)(v:V):Yv (vs++[v])=Yv vs++enc v.k v.n v.s:=by simp[Yv]
theorem Jk4 (B g:Nat)(t:Int)(a:Option Addr)(cap:Nat)(xs:List V)(bs:List UInt8)(w:World)(h:WAt w B g t bs)(hl:bs.length≤10000)(hn:xs.length≤64)(O:∀ v∈xs,good v.k v.s)(bn:Jv w a xs)(Z:∀ b o,a=some ⟨b,o,none⟩→Ya w g b) :
  Calls prog 121 #[.pointer (some ⟨g,0,none⟩),.slice a xs.length cap] w fun e w'=>e=.returned (.tuple #[])∧WAt w' B g t (bs++Yv xs)∧Ky w w' g:=by
 go_enter func121,ntmps121
 go_wp2;go_loopw [8] (fun i wr=>∃ k:Nat,k≤xs.length∧i=.int .i64 k∧WAt wr B g t (bs++Yv (xs.take k))∧Ky w wr g) (fun i _=>xs.length-(intOf i).toNat)
 case atStart=>exact⟨0,by omega,rfl,by simpa [Yv] using h,Ky.refl _ _⟩
 case round=>
  obtain⟨k,bz,rfl,y,D⟩:=hrel;by_cases E:k<xs.length
  ·have br:=Zk bn D Z;obtain⟨b1,bA,rfl,bx,bB,bC,bD⟩:=br.at E;have H:=Jjz (xs.take k) xs[k];rw[←Oc4 E]at H;have bc:=Jgg (xs.take k) fun v bi=>O v (Om9 bi);have bf:(xs.take k).length≤k:=List.length_take_le _ _;have R:=O _ (Ob3 E);have Y:Hid _:=H;have X:Hid (good xs[k].k xs[k].s):=R;have bh:(bs++Yv (xs.take k)).length≤50000:=by rw[Oa8];omega
   clear H R bc bf;generalize K:bs++Yv (xs.take k)=bk at *;have U:Hid _:=K;clear K;go_wp2_with (go_at_call 163;refine(Jl0 B g t xs[k] bk _ (y.below ((Oa5 _ _).alloc (Oa2 _) _)) bh X.out).mono ?_;rintro e w' ⟨rfl,bj,ba⟩)
   go_roundw
   case rel=>
    refine⟨k+1,by omega,by go_num,?_,(D.trans (Ky.of_below ((Oa5 _ _).alloc (Oa2 _) _) y.lt)).trans ba⟩;rw[Y.out,←Od8,U.out];exact bj
   case measure=>simp[intOf];omega
  go_wp2;go_end0
  have e:xs.take k=xs:=Oc8 (by omega);rw[e]at y;exact⟨rfl,y,D⟩
end
section
open Go.RowKit
def Qt (v:V):Nat:=if v.k=0 then 0 else 1
theorem Jv6 (ns:List Nat)(h:∀ n∈ns,n≤1):Ue 1 ns=ns.map fun n=>n==1:=by
 induction ns with
 |nil=>rfl
 |cons n ns D=>
  have e:Ue 1 (n::ns)=[n.testBit 0]++Ue 1 ns:=by simp[Ue,List.range_succ]
  rw[e,D fun m y=>h m (Og1 _ y)];have hn:=h n Of4;have:n.testBit 0=(n==1):=by
   rw[Nat.testBit_zero];have:n=0∨n=1:=(by omega);rcases this with rfl|rfl<;>rfl
  rw[this];rfl
theorem Jrg (xs:List V):Ue 1 (xs.map Qt)=xs.map fun v=>v.k != 0:=by
 rw[Jv6 _ (by intro n hn;obtain⟨v,_,rfl⟩:=Of0.1 hn;unfold Qt;split<;>omega),Oi6];apply Oj9;intro v _;simp only[Function.comp,Qt];by_cases h:v.k=0<;>simp[h]
def Kz (t y:Int)(xs:List V):List UInt8:=[low t,low y,low xs.length]++Kk (xs.map fun v=>v.k != 0)
theorem Jg0 (B g:Nat)(t bj:Int)(a:Option Addr)(cap:Nat)(xs:List V)(w:World)(h:WAt w B g t [])(hn:xs.length≤64)(bM:Jv w a xs)(bA:xs≠[]→∀ b o,a=some ⟨b,o,none⟩→Ya w g b) :
  Calls Tryz.prog 91 #[.pointer (some ⟨g,0,none⟩),.int .i64 bj,.slice a xs.length cap] w fun e w'=>e=.returned (.tuple #[])∧WAt w' B g t (Kz t bj xs)∧Ky w w' g:=by
 have bJ:∀ W,(Instr.makeSlice 243 (.int .i64 (xs.length:Int)) (.int .i64 (xs.length:Int))).run Tryz.prog W=.ok (.slice (some ⟨W.heap.size,0,none⟩) xs.length xs.length) (W.alloc (.cells (madeCells #[.int .u64 0] xs.length) 244)):=
  fun W=>run_make_row' 243 244 (.int .u64 0) 8 (by kernel_rfl) Jiq rfl .i64 .i64 xs.length (by omega) (by omega) W
 obtain⟨bT,c0,_,_,_,_⟩:=h.cells;go_enter Tryz.func91,Tryz.ntmps91
 go_wp2_with fail
 refine(Zq B g t _ _ _ h (by simp)).mono ?_;rintro e w1 ⟨rfl,bn,bc⟩;go_wp2_with fail
 refine(Zq B g t _ _ _ bn (by simp)).mono ?_;rintro e bU ⟨rfl,br,bf⟩;go_wp2_with fail
 refine(Zq B g t _ _ _ br (by simp)).mono ?_;rintro e D ⟨rfl,R,bh⟩;go_wp2_with fail
 clear bJ;have ba:=(bc.trans bf).trans bh;have bN:Jv D a xs:=by
  by_cases bi:xs=[]
  ·exact .inl bi
  exact Zk bM ba (bA bi)
 clear bc bf bh bn br c0;go_loopw [27] (fun i wr=>∃ k:Nat,k≤xs.length∧i=.int .i64 k∧wr.rowIs D.heap.size 244 xs.length (fun j=>uv (if j<k then (xs.map Qt)[j]?.getD 0 else 0))∧Below D.heap.size D wr) (fun i _=>xs.length-(intOf i).toNat)
 case atStart=>exact⟨0,by omega,rfl,Ol3 _ _ _ _,(Oa5 _ _).alloc (Oa2 _) _⟩
 case round=>
  obtain⟨k,bR,rfl,y,E⟩:=hrel;by_cases O:k<xs.length
  ·obtain⟨b1,bS,rfl,bQ,bW,bX,bY⟩:=(bN.below E).at O;have c1:=y.cell O;have c2:=y.frozen k;have c3:=y.lt;have Z:(xs.map Qt)[k]?.getD 0=Qt xs[k]:=(by simp[O]);have U:Hid _:=Z;clear Z;by_cases h0:xs[k].k=0
   ·have bz:(xs[k].k != 0)=false:=(by simp[h0]);have H:Hid (xs[k].k=0):=h0;clear h0;go_wp2;go_roundw
    case rel=>
     refine⟨k+1,by omega,by go_num,(y.alloc _).congr fun j bE=>?_,Jc E _⟩;by_cases e:j=k
     ·subst e;simp only[Oe3,if_false,On2,if_true];rw[U.out];simp[Qt,H.out]
     have K:(j<k+1)=(j<k):=by rw[eq_iff_iff];omega
     simp only[K]
    case measure=>simp[intOf];omega
   have bz:(xs[k].k != 0)=true:=(by simp[h0]);have H:Hid (¬ xs[k].k=0):=h0;clear h0;go_wp2;go_roundw
   case rel=>
    refine⟨k+1,by omega,by go_num,((y.set k _).alloc _).congr fun j bE=>?_,Jc (E.setCell (p:=⟨D.heap.size,k,none⟩) (Oa2 _) _) _⟩;by_cases e:j=k
    ·subst e;simp only[if_true,On2];rw[U.out];simp[Qt,H.out,uv]
    have K:(j<k+1)=(j<k):=by rw[eq_iff_iff];omega
    simp only[e,K,if_false]
   case measure=>simp[intOf];omega
  have bH:k=xs.length:=by omega
  subst bH;have bK:Jo wr D.heap.size 244 (.slice (some ⟨D.heap.size,0,none⟩) xs.length xs.length) ((xs.map Qt).map uv):=
   Jhx y (Oa2 _) (by unfold maxLen;omega) _ (by simp) (by
    intro i hi;have bD:i<xs.length:=by simpa using hi
    simp[bD])
  obtain⟨bO,bP,X,bB⟩:=bK.cells;simp only[Oa6]at X;injection X with e5 e6 e7;subst e5;subst e7;have bC:(xs.map Qt).length=xs.length:=by simp
  have bL:=R.below E;have bI:=y.lt;go_wp2_with fail
  rw[←bC];refine(Jd4 B g t _ 1 _ _ (xs.map Qt) _ bL (by simp) (by omega) (by simpa using hn) (by
   intro n hn;obtain⟨v,_,rfl⟩:=Of0.1 hn;unfold Qt;split<;>omega) bB (by
   intro b o Y;simp at Y;obtain⟨rfl,rfl⟩:=Y;exact Jc2 R E (Oa2 _) bI)).mono ?_
  rintro e bV ⟨rfl,bx,bG⟩;go_wp2_with fail
  go_end0
  refine⟨rfl,?_,(ba.trans (Ky.of_below E R.lt)).trans bG⟩;rw[Jrg]at bx;exact bx
end
section
open Go.RowKit
def Jdx (v:V)(c:Nat):List V→List UInt8
 |[]=>low c::enc v.k v.n v.s
 |u::l=>if u.beq v then Jdx v (c+1) l else (low c::enc v.k v.n v.s)++Jdx u 1 l
def Yc:List V→List UInt8
 |[]=>[]
 |v::l=>Jdx v 1 l
theorem Jw2 (l:List V):∀ (v:V) (c:Nat),Jdx v c l=(low ((c+Qe v l:Nat):Int)::enc v.k v.n v.s)++Yc (l.drop (Qe v l)):=by
 induction l with
 |nil=>intro v c;simp[Jdx,Qe,Yc]
 |cons u l y=>
  intro v c;by_cases e:u.beq v=true
  ·simp only[Jdx,Qe,e,if_true,List.drop_succ_cons];rw[y v (c+1)];have:c+1+Qe v l=c+(Qe v l+1):=(by omega);rw[this]
  simp only[Jdx,Qe,e,if_false,Ol9];simp[Yc]
theorem Je9 (v:V)(l:List V):Yc (v::l)=(low ((Qe v (v::l):Nat):Int)::enc v.k v.n v.s)++Yc ((v::l).drop (Qe v (v::l))):=by
 have e:Qe v (v::l)=Qe v l+1:=by simp[Qe,(V.beq_iff v v).2 rfl]
 rw[e,List.drop_succ_cons];show Jdx v 1 l=_;rw[Jw2];have:1+Qe v l=Qe v l+1:=by omega
 rw[this]
theorem Jhn (v:V)(l:List V):1≤Qe v (v::l):=by simp[Qe,(V.beq_iff v v).2 rfl]
theorem Jng:∀ (n:Nat)(xs:List V),xs.length≤n→(∀ v∈xs,good v.k v.s)→(Yc xs).length≤42*xs.length:=by
 intro n;induction n with
 |zero=>intro xs h _;have:xs=[]:=Od3.1 (by omega);subst this;simp[Yc]
 |succ n H=>
  intro xs h y;cases xs with
  |nil=>simp[Yc]
  |cons v l=>
   rw[Je9];have K:=Kc5 v.k v.n v.s (y v Of4);have O:=Jhn v l;have D:=H ((v::l).drop (Qe v (v::l))) (by rw[Of7];simp at h ⊢;omega) (fun u E=>y u (Oh7 E));rw[Oa8,List.length_cons];rw[Of7]at D;have R:=Jjn v (v::l);omega
theorem Jlj (l:List V):∀ (d:List V) (v:V),v∈Ym d l→v∈d∨v∈l:=by
 induction l with
 |nil=>intro d v h;exact .inl h
 |cons u l y=>
  intro d v h;simp only[Ym]at h;rcases y _ v h with h|h
  ·split at h
   ·exact .inl h
   rcases Od2.1 h with h|h
   ·exact .inl h
   right;simp at h;subst h;exact Of4
  exact .inr (Og1 _ h)
def Jds (xs:List V):List UInt8:=(low (Ym [] xs).length::Yv (Ym [] xs))++Kk (Ue 4 (xs.map (Qc (Ym [] xs))))
end
section
open Go.RowKit
def Jei:List V→List UInt8
 |[]=>[]
 |v::l=>
  le8 (u64 (Jn v.n (v::l)))++[low (bitLen (Yz (dif v.n (Jn v.n (v::l))) (Uv l (Jn v.n (v::l)))):Nat)]
   ++ Kk (Ue (bitLen (Yz (dif v.n (Jn v.n (v::l))) (Uv l (Jn v.n (v::l))))) (Uv (v::l) (Jn v.n (v::l))))
def Zz (t:Int)(xs:List V):List UInt8:=if t=2 then Kk (Ue 1 (Uv xs 0))else Jei xs
theorem Jkx (xs:List V)(q:Int):∀ n∈Uv xs q,n<18446744073709551616:=by
 intro n hn;obtain⟨v,_,rfl⟩:=Of0.1 hn;exact Jp3 _
theorem Jf7 (n:Nat)(h:n<18446744073709551616):bitLen n≤64:=by
 unfold bitLen;split
 ·omega
 rename_i h0
 have:=(Nat.log2_lt h0).2 (show n<2 ^ 64 from h);omega
theorem Jgs (g:Nat)(w:World) :
  Calls Tryz.prog 92 #[.pointer (some ⟨g,0,none⟩)] w fun e w'=>e=.returned (.agg #[.func (.func 121) #[.pointer (some ⟨g,0,none⟩)] #[],.func (.func 122) #[.pointer (some ⟨g,0,none⟩)] #[],.func (.func 123) #[.pointer (some ⟨g,0,none⟩)] #[],.func (.func 124) #[.pointer (some ⟨g,0,none⟩)] #[]])∧Below w.heap.size w w':=by
 have hone:∀ (W:World) (a:Addr) f x c,(store a (.func f x c)).run Tryz.prog W=match W.cell? a with
   | some _ => if W.frozen? a then .halt (.unsupported (.unsafePointer "a write to bytes that a string shares")) W else .ok () (W.setCell a (.func f x c))
   |none=>match W.farStore Tryz.prog a (.func f x c) (Mode.plain==.atomic)with
    |.ok (w',_)=>.ok () w'
    |.error h=>.halt h W:=fun W a f x c=>run_store Tryz.prog W a (.func f x c) .plain rfl
 go_enter Tryz.func92,Tryz.ntmps92
 go_wp2;exact bodyPost_ret (v:=.agg #[.func (.func 121) #[.pointer (some ⟨g,0,none⟩)] #[],.func (.func 122) #[.pointer (some ⟨g,0,none⟩)] #[],.func (.func 123) #[.pointer (some ⟨g,0,none⟩)] #[],.func (.func 124) #[.pointer (some ⟨g,0,none⟩)] #[]]) (by simp[results,Tryz.results92,go_sem]) rfl ⟨rfl,(Oa5 _ _).alloc (Oa2 _) _⟩
end
section
open Go.RowKit Go.Extern.Stop Go.Stop Go.Extern
end
end Go.Proofs.YtpchafocmlhmbaaGreatDoor
