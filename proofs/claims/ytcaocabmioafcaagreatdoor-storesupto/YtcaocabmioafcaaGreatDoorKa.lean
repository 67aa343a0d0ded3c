/- Plain facts on values of three fields (V), on the cells in which they lie, and on worlds of which the elder part stands. Nothing is said of the program but the layout of its types. -/
import Derived.Test.YtcaocabmioafcaaGreatDoorProg
import Derived.WalkKit
import Derived.WalkSpells
import Derived.WalkLawsBesides
import Derived.BigQuiet
import Derived.Deep.QuietTactic
import Derived.Maps.AppendAt
import Derived.Deep.Light
import Derived.Deep.LoopGhost
import Derived.Deep.RegionWith
import Derived.Deep.OwnRows
import Derived.OrdersHeld
import Derived.Deep.RegionHeld
set_option maxHeartbeats 400000
set_option maxRecDepth 20000
namespace Go.Proofs.YtcaocabmioafcaaGreatDoor
section
open Go.RowKit
abbrev Oa0:=@List.getD_eq_getElem?_getD
abbrev Oa1:=@List.setIfInBounds_toArray
abbrev Oa2:=@Nat.le_refl
abbrev Oa3:=@List.getElem?_eq_getElem
abbrev Oa4:=@Go.RowKit.Below.heap_setCell
abbrev Oa5:=@Go.RowKit.Below.refl
abbrev Oa6:=@List.length_map
abbrev Oa7:=@Go.World.size_alloc
abbrev Oa8:=@List.length_append
abbrev Oa9:=@Go.RowKit.Below.heap_alloc
abbrev Ob0:=@List.getElem?_append_left
abbrev Ob1:=@List.getElem?_map
abbrev Ob2:=@Nat.le_trans
abbrev Ob3:=@List.getElem_mem
abbrev Ob4:=@List.getElem?_eq_none
abbrev Ob5:=@Go.World.cell?_setCell_other
abbrev Ob6:=@List.getElem?_append_right
abbrev Ob7:=@Nat.zero_le
abbrev Ob8:=@List.map_append
abbrev Ob9:=@List.getElem?_eq_some_iff
abbrev Oc0:=@Go.Oper.semAt_some
abbrev Oc1:=@Nat.lt_or_ge
abbrev Oc2:=@Nat.lt_of_lt_of_le
abbrev Oc3:=@Go.World.cell?_of_block
abbrev Oc4:=@List.take_succ_eq_append_getElem
abbrev Oc5:=@Ne.symm
abbrev Oc6:=@List.mem_singleton
abbrev Oc7:=@List.length_take
abbrev Oc8:=@List.take_of_length_le
abbrev Oc9:=@Option.some.injEq
abbrev Od0:=@Nat.zero_add
abbrev Od1:=@List.getElem?_set_ne
abbrev Od2:=@List.mem_append
abbrev Od3:=@List.length_eq_zero_iff
abbrev Od4:=@Go.IntKind.wrap_i64
abbrev Od5:=@List.getElem_of_mem
abbrev Od6:=@List.length_replicate
abbrev Od7:=@List.append_nil
abbrev Od8:=@List.append_assoc
abbrev Od9:=@List.getElem_map
abbrev Oe0:=@Nat.not_lt_zero
abbrev Oe1:=@Nat.sub_self
abbrev Oe2:=@Array.getElem?_eq_some_iff
abbrev Oe3:=@Nat.lt_irrefl
abbrev Oe4:=@List.map_cons
abbrev Oe5:=@Go.World.cell?_alloc_lt
abbrev Oe6:=@Array.getElem?_toList
abbrev Oe7:=@List.getElem?_take
abbrev Oe8:=@List.flatMap_append
abbrev Oe9:=@Option.map_eq_some_iff
abbrev Of0:=@List.mem_map
abbrev Of1:=@List.mem_cons
abbrev Of2:=@List.take_length
abbrev Of3:=@List.getElem?_replicate
abbrev Of4:=@List.mem_cons_self
abbrev Of5:=@Nat.succ_mul
abbrev Of6:=@List.mem_of_getElem?
abbrev Of7:=@List.length_drop
abbrev Of8:=@List.length_set
abbrev Of9:=@Go.World.var?_cell
abbrev Og0:=@List.nodup_cons
abbrev Og1:=@List.mem_cons_of_mem
abbrev Og3:=@Go.DataW.trod_int
abbrev Og4:=@Go.ByteArray.toList_eq
abbrev Og5:=@Bool.and_eq_true
abbrev Og7:=@List.flatMap_cons
abbrev Og8:=@Go.Sem.run_bind
abbrev Og9:=@Array.getElem?_eq_none
abbrev Oh0:=@List.getElem?_set_self
abbrev Oh1:=@Go.MapKept.heap_alloc
abbrev Oh2:=@Go.Addr.mk.injEq
abbrev Oh3:=@List.getElem?_take_of_lt
abbrev Oh4:=@List.ext_getElem
abbrev Oh5:=@Go.IntKind.wrap_u64
abbrev Oh6:=@List.getElem?_range
abbrev Oh7:=@List.mem_of_mem_drop
abbrev Oh8:=@List.getElem?_mapIdx
abbrev Oh9:=@List.getElem?_drop
abbrev Oi0:=@List.not_mem_nil
abbrev Oi1:=@List.drop_eq_getElem_cons
abbrev Oi3:=@Array.getElem?_modify
abbrev Oi4:=@List.map_nil
abbrev Oi5:=@Nat.mod_eq_of_lt
abbrev Oi6:=@List.map_map
abbrev Oi7:=@List.take_add_one
abbrev Oi8:=@List.ext_getElem?
abbrev Oi9:=@List.length_pos_iff
abbrev Oj1:=@Nat.min_eq_left
abbrev Oj2:=@Nat.eq_zero_or_pos
abbrev Oj3:=@Prod.mk.injEq
abbrev Oj4:=@List.mem_range
abbrev Oj6:=@Option.some.inj
abbrev Oj7:=@List.range_succ
abbrev Oj8:=@List.length_zipWith
abbrev Oj9:=@List.map_congr_left
abbrev Ok0:=@Array.toList_setIfInBounds
abbrev Ok3:=@List.take_append_drop
abbrev Ok4:=@List.set_append_right
abbrev Ok5:=@List.getElem?_zipWith
abbrev Ok6:=@BitVec.toNat_ofInt
abbrev Ok9:=@Array.replicate_succ
abbrev Ol0:=@Nat.mod_lt
abbrev Ol1:=@List.foldl_append
abbrev Ol2:=@List.append_toArray
abbrev Ol3:=@Go.World.rowIs_made
abbrev Ol4:=@Nat.min_eq_right
abbrev Ol5:=@Nat.mul_le_mul
abbrev Ol7:=@Go.World.frozen?_of_block
abbrev Ol8:=@List.drop_of_length_le
abbrev Ol9:=@Bool.false_eq_true
abbrev Om0:=@List.mem_filter
abbrev Om3:=@List.size_toArray
abbrev Om4:=@List.push_toArray
abbrev Om5:=@ByteArray.ext_iff
abbrev Om8:=@Nat.mul_le_mul_right
abbrev Om9:=@List.mem_of_mem_take
abbrev On0:=@List.set_eq_take_append_cons_drop
abbrev On1:=@Nat.testBit_eq_decide_div_mod_eq
abbrev On2:=@Nat.lt_succ_self
abbrev On3:=@List.countP_cons
abbrev On4:=@Nat.le_mul_of_pos_right
abbrev On5:=@Nat.add_assoc
abbrev On7:=@Bool.eq_iff_iff
abbrev On9:=@Go.World.frozen?_setCell
abbrev Oo1:=@Bool.not_eq_true
abbrev Oo2:=@Nat.shiftLeft_eq
abbrev Oo3:=@Go.World.cell?_spot
abbrev Oo5:=@List.zipWith_append
abbrev Oo6:=@Nat.div_le_self
abbrev Oo8:=@Nat.xor_lt_two_pow
abbrev Oo9:=@Nat.zero_mul
abbrev Op0:=@List.map_set
abbrev Op2:=@List.getElem?_set
abbrev Op3:=@List.nodup_append
abbrev Op4:=@Go.DataW.trod_string
abbrev Op5:=@List.mem_flatMap
theorem tk {P:Program}{J:Region.Mode}{A:Array Oper}{Q:Exit→Act→World→Prop}{S:World→Prop}{H:Oper}{fuel:Nat}{I:Array Bool}{a:Act}{w:World}(i:Nat)(v:Value)(hi:A[i]?=some H)(L:S w)
  (O:∀ w,S w→(execOp a.eval H).run P w=.ok (.value v) w) (h:wpAnyH P J A Q S fuel (I.setIfInBounds i true) (a.put H.dst v) w)
  (N:(Region.ready J A I).contains i=true:=by kernel_rfl) (M:Region.free J A I i=true:=by kernel_rfl) (hs:Region.noSelect A=true:=by kernel_rfl)
  (K:∀ c a w,Q (.panic c) (a.put H.dst v) w→Q (.panic c) a w:=by exact fun _ _ _ h=>h) (hw:Region.wanted H (yielded A a.tmps)=true:=by rfl):wpAnyH P J A Q S (fuel+1) I a w:=
 wpAnyH_take hi hs M N K (.inl ⟨hw,O⟩) L h
theorem Kn {P:Program}{J:Region.Mode}{A:Array Oper}{Q:Exit→Act→World→Prop}{S:World→Prop}{H:Oper}{fuel:Nat}{I:Array Bool}{a:Act}{w:World}{v:Value}(i:Nat)(hi:A[i]?=some H)(L:S w)
  (h:wpAnyH P J A Q S fuel (I.setIfInBounds i true) (a.put H.dst v) w)
  (O:(Region.ready J A I).contains i=true:=by kernel_rfl) (N:Region.free J A I i=true:=by kernel_rfl) (hs:Region.noSelect A=true:=by kernel_rfl)
  (R:∀ w,S w→(execOp a.eval H).run P w=.ok (.value v) w:=by intro w M;(try dsimp only at M);go_simp;try rfl)
  (K:∀ c a w,Q (.panic c) (a.put H.dst v) w→Q (.panic c) a w:=by exact fun _ _ _ h=>h) (hw:Region.wanted H (yielded A a.tmps)=true:=by rfl):wpAnyH P J A Q S (fuel+1) I a w:=
 wpAnyH_take hi hs N O K (.inl ⟨hw,R⟩) L h
theorem tkn {p q:Prop}(h:q)(e:p=q:=by conv=>lhs;simp only[Act.put,List.getElem_toArray,List.getElem_cons_zero,List.getElem_cons_succ,Oa1,List.set_cons_zero,List.set_cons_succ]):p:=e▸h
theorem tkr {P:Program}{J:Region.Mode}{A:Array Oper}{Q:Exit→Act→World→Prop}{S:World→Prop}{o:Oper}{fuel:Nat}{I:Array Bool}{a:Act}{w:World}(i:Nat)(K:A[i]?=some o)
  (h:∀ H:Act→World→Prop,Shut (∀ a w,S w→(S w→wpAnyH P J A Q S fuel (I.setIfInBounds i true) a w)→H a w)→if Region.wanted o (yielded A a.tmps)=true then Oper.wp P o a w H Q else H (a.put o.dst undef) w)
  (L:Region.ready J A I=[i]:=by kernel_rfl):wpAnyH P J A Q S (fuel+1) I a w:=wpAnyH_ready L (by simp) (AllReadyH.cons K h AllReadyH.nil)
structure V where
 k:Int
 n:Int
 s:ByteArray
theorem V.ext' {v u:V}(A:v.k=u.k)(H:v.n=u.n)(I:v.s=u.s):v=u:=by cases v;cases u;simp_all
def veq (k n:Int)(s:ByteArray)(A H:Int)(I:ByteArray):Bool:=k==A&&(n==H&&s==I)
def V.beq (v u:V):Bool:=veq v.k v.n v.s u.k u.n u.s
theorem Kaq (a b:ByteArray):(a==b)=true↔a=b:=by
 rw[beq_toListBytes,beq_iff_eq,Og4,Og4]
 constructor
 ·intro h
  obtain⟨⟨x⟩⟩:=a
  obtain⟨⟨y⟩⟩:=b
  simp at h
  rw[h]
 rintro rfl;rfl
theorem V.beq_iff (v u:V):v.beq u=true↔v=u:=by
 unfold V.beq veq
 rw[Og5,Og5,beq_iff_eq,beq_iff_eq,Kaq]
 constructor
 ·intro h;exact V.ext' h.1 h.2.1 h.2.2
 rintro rfl;exact⟨rfl,rfl,rfl⟩
theorem V.beq_false (v u:V):v.beq u=false↔v≠u:=by
 rw[←Oo1,V.beq_iff]
def V.cells (v:V):List Value:=[.int .i64 v.k,.int .i64 v.n,.string v.s]
abbrev V.val (v:V):Value:=.agg #[.int .i64 v.k,.int .i64 v.n,.string v.s]
def VAt (w:World)(b o:Nat)(v:V):Prop:=
 w.cell? ⟨b,o,none⟩=some (.int .i64 v.k)∧w.cell? ⟨b,o+1,none⟩=some (.int .i64 v.n)∧w.cell? ⟨b,o+2,none⟩=some (.string v.s)
def Jv (w:World)(a:Option Addr)(vs:List V):Prop:=
 vs=[]∨∃ b o,a=some ⟨b,o,none⟩∧b<w.heap.size∧∀ i v,vs[i]?=some v→VAt w b (o+i*3) v
theorem VAt.of_block {w w':World}{b o:Nat}{v:V}(h:VAt w b o v)(e:w'.heap[b]?=w.heap[b]?):VAt w' b o v:=by
 obtain⟨A,H,I⟩:=h
 exact⟨by rw[Oc3 (w:=w) e];exact A,by rw[Oc3 (w:=w) e];exact H,by rw[Oc3 (w:=w) e];exact I⟩
theorem Jm {w:World}{a:Addr}{v:Value}(h:w.cell? a=some v):a.block<w.heap.size:=by
 rcases Oc1 a.block w.heap.size with A|A
 ·exact A
 simp[World.cell?,Array.getElem?_eq_none A]at h
theorem Jv.nil (w:World)(a:Option Addr):Jv w a []:=.inl rfl
theorem Jv.of_block {w w':World}{a:Option Addr}{vs:List V}(h:Jv w a vs)(hs:w.heap.size≤w'.heap.size)
  (e:∀ b o,a=some ⟨b,o,none⟩→b<w.heap.size→w'.heap[b]?=w.heap[b]?):Jv w' a vs:=by
 rcases h with h|⟨b,o,A,H,h⟩
 ·exact .inl h
 exact .inr ⟨b,o,A,by omega,fun i v I=>(h i v I).of_block (e b o A H)⟩
theorem Jv.below {w w':World}{a:Option Addr}{vs:List V}(h:Jv w a vs)(A:Below w.heap.size w w'):Jv w' a vs:=
 h.of_block A.size fun b _ _ H=>A.block b H
theorem Jv.at {w:World}{a:Option Addr}{vs:List V}(h:Jv w a vs){i:Nat}(hi:i<vs.length) :
  ∃ b o,a=some ⟨b,o,none⟩∧b<w.heap.size∧VAt w b (o+i*3) vs[i]:=by
 rcases h with h|⟨b,o,A,H,h⟩
 ·subst h;simp at hi
 exact⟨b,o,A,H,h i vs[i] (by simp[hi])⟩
theorem Jp {B:Nat}{a w:World}(h:Below B a w)(n:Nat):Below B a (w.drewN n):=⟨h.os,h.tape,h.output,h.size,h.block⟩
theorem Kep (w:World)(o:Obj):w.heap.size≤(w.alloc o).heap.size:=by simp
theorem Qx {w w':World}{o:Obj}(h:Below (w.alloc o).heap.size (w.alloc o) w'):Below w.heap.size w w':=
 ((Oa5 _ _).alloc (Oa2 _) _).trans (h.mono (Kep _ _))
theorem Kx {w w':World}(h:Below w.heap.size w w'):(∀ b o,b<w.heap.size→w'.cell? ⟨b,o,none⟩=w.cell? ⟨b,o,none⟩)∧(∀ b o,b<w.heap.size→w'.frozen? ⟨b,o,none⟩=w.frozen? ⟨b,o,none⟩):=
 ⟨fun _ _ A=>h.cell (p:=⟨_,_,none⟩) A,fun _ _ A=>h.frozen (p:=⟨_,_,none⟩) A⟩
theorem Jb {w wr w':World}(h:Below w.heap.size w wr)(k:Below wr.heap.size wr w'):Below w.heap.size w w':=h.trans (k.mono h.size)
theorem Jc {w wr:World}(h:Below w.heap.size w wr)(o:Obj):Below w.heap.size w (wr.alloc o):=h.alloc h.size o
theorem Jw {B:Nat}{a w:World}(h:Below B a.drew w):Below B a w:=⟨h.os,h.tape,h.output,h.size,h.block⟩
theorem Um {B:Nat}{a w:World}{b:Nat}(h:Below B a w)(A:B≤b)(H I J K L:Value) :
  Below B a (((((w.setCell ⟨b,0,none⟩ H).setCell ⟨b,1,none⟩ I).setCell ⟨b,2,none⟩ J).setCell ⟨b,3,none⟩ K).setCell ⟨b,4,none⟩ L):=
 ((((h.setCell (p:=⟨b,0,none⟩) A H).setCell (p:=⟨b,1,none⟩) A I).setCell (p:=⟨b,2,none⟩) A J).setCell (p:=⟨b,3,none⟩) A K).setCell (p:=⟨b,4,none⟩) A L
theorem Qr {a b:Bool}(h:a=b):Ending.returned (.bool a)=.returned (.bool b):=by rw[h]
theorem Yp {k:IntKind}{a b:Int}(h:a=b):Ending.returned (.int k a)=.returned (.int k b):=by rw[h]
theorem Jow:(Tryz.prog.info? 55).map (fun i=>(i.zero,i.size,i.bytes))=some (some (.agg #[.int .i64 0,.int .i64 0,.string ⟨#[]⟩]),3,32):=by kernel_rfl
theorem Jfa:(Tryz.prog.info? 5).map (fun i=>(i.zero,i.size,i.bytes))=some (some (.int .u8 0),1,1):=by kernel_rfl
theorem Jiq:(Tryz.prog.info? 300).map (fun i=>(i.zero,i.size,i.bytes))=some (some (.int .u64 0),1,8):=by kernel_rfl
theorem Ktf:(Tryz.prog.info? 4).map (fun i=>(i.zero,i.size,i.bytes))=some (some (.bool false),1,1):=by kernel_rfl
theorem Jpo {w:World}{base:Nat}{sv:Value}{n:Nat}{vs:List V}(h:w.ownsRow base 55 3 sv n (vs.flatMap V.cells)) :
  n=vs.length∧∃ a cap,sv=.slice a vs.length cap∧Jv w a vs:=by
 obtain⟨R,h⟩:=h
 have ba:(vs.flatMap V.cells).length=vs.length*3:=by
  clear R h
  induction vs with
  |nil=>rfl
  |cons v vs L=>simp[V.cells]at L ⊢;omega
 have U:n=vs.length:=by omega
 subst U
 refine⟨rfl,?_⟩
 rcases h with⟨K,h0⟩|⟨g,cap,Y,K,_,M,_,_,_,O⟩
 ·have:vs=[]:=Od3.1 h0
  subst this
  exact⟨none,0,K,.inl rfl⟩
 refine⟨some ⟨g,0,none⟩,cap,K,.inr ⟨g,0,rfl,?_,?_⟩⟩
 ·rcases Oc1 g w.heap.size with A|A
  ·exact A
  simp[Array.getElem?_eq_none A]at M
 intro i v hi
 have Z:i<vs.length:=by
  rcases Oc1 i vs.length with A|A
  ·exact A
  simp[List.getElem?_eq_none A]at hi
 have X:∀ (H:List V) (i:Nat) (v:V),H[i]?=some v→(H.flatMap V.cells)[i*3]?=some (.int .i64 v.k)∧(H.flatMap V.cells)[i*3+1]?=some (.int .i64 v.n)∧(H.flatMap V.cells)[i*3+2]?=some (.string v.s):=by
  intro H
  induction H with
  |nil=>intro i v h;simp at h
  |cons u H L=>
   intro i v h
   cases i with
   |zero=>simp at h;subst h;simp[V.cells]
   |succ i=>
    have:=L i v (by simpa using h)
    have N:(i+1)*3=i*3+3:=by omega
    simp only[Og7,V.cells,N]
    simpa using this
 obtain⟨k1,I,J⟩:=X vs i v hi
 rw[←O]at k1 I J
 rw[Oh3 (by omega)]at k1 I J
 simp only[Oe6]at k1 I J
 unfold VAt
 simp only[World.cell?,M,Od0]
 simp[k1,I,J]
theorem Kfm : (Tryz.prog.fieldsOf 55).toList.map (fun f => (f.name, f.type, f.offset)) = [("Kind", 3, 0), ("N", 2, 1), ("S", 9, 2)] := by kernel_rfl
theorem Kg8:Tryz.prog.underlying 55=some (.struct (Tryz.prog.fieldsOf 55)):=by kernel_rfl
theorem Kiq:Tryz.prog.stoodInHeld 55=false:=by kernel_rfl
theorem Jdy (w:World)(k n A H:Int)(s I:ByteArray) :
  (Op.equal 55 (.agg #[.int .i64 k,.int .i64 n,.string s]) (.agg #[.int .i64 A,.int .i64 H,.string I])).run Tryz.prog w=.ok (veq k n s A H I) w:=by
 rw[Op.equal,Op.maxDepth,run_equalIn_struct w 9999 55 _ _ Kg8 Kiq]
 have h:=Kfm
 generalize (Tryz.prog.fieldsOf 55).toList=J at h
 rcases J with _|⟨bc,_|⟨bf,_|⟨bh,_|⟨bi,J⟩⟩⟩⟩
 ·simp at h
 ·simp at h
 ·simp at h
 ·simp at h
  obtain⟨⟨N,O,R⟩,⟨U,X,Y⟩,Z,ba,bb⟩:=h
  simp[Op.eqFields,N,O,R,U,X,Y,Z,ba,bb,part,sizeOf,go_sem]
  simp only[veq,beq_toListBytes]
  by_cases K:k=A<;>by_cases L:n=H<;>by_cases M:s.toList=I.toList<;>simp[K,L,M]
 simp at h
theorem Jcx (w:World)(k n A H:Int)(s I:ByteArray) :
  (binOp .eql 55 (.agg #[.int .i64 k,.int .i64 n,.string s]) (.agg #[.int .i64 A,.int .i64 H,.string I])).run Tryz.prog w=.ok (.bool (veq k n s A H I)) w:=by
 simp[binOp,Jdy]
theorem Jph (w:World)(k n A H:Int)(s I:ByteArray) :
  (binOp .neq 55 (.agg #[.int .i64 k,.int .i64 n,.string s]) (.agg #[.int .i64 A,.int .i64 H,.string I])).run Tryz.prog w=.ok (.bool (!veq k n s A H I)) w:=by
 simp[binOp,Jdy]
end
section
def Qw (l:List UInt8):ByteArray:=⟨l.toArray⟩
theorem Kr1 (a b:List UInt8):Qw a++Qw b=Qw (a++b):=by
 unfold Qw
 rw[Om5]
 simp
theorem Kfv {a b:List UInt8}(h:Qw a=Qw b):a=b:=by
 unfold Qw at h
 have:=congrArg (fun x:ByteArray=>x.data.toList) h
 simpa using this
theorem Zf (s:ByteArray):Qw s.toList=s:=by
 rw[Og4];rfl
theorem Jb2 (l:List UInt8):(Qw l).size=l.length:=by simp[Qw,ByteArray.size]
def hi (l:List Bool)(i:Nat):Nat→Nat
 |0=>0
 |m+1=>2*hi l i m+(if l.getD (i+(7-m)) false then 1 else 0)
theorem Kh5 (l:List Bool)(i:Nat):∀ m,hi l i m<2 ^ m:=by
 intro m
 induction m with
 |zero=>simp[hi]
 |succ m A=>simp only[hi];rw[Nat.pow_succ];split<;>omega
theorem Jwg (l:List Bool)(i:Nat):∀ m,m≤8→∀ t,(hi l i m).testBit t=(decide (t<m)&&l.getD (i+(8-m)+t) false):=by
 intro m
 induction m with
 |zero=>intro _ t;simp[hi]
 |succ m H=>
  intro I t
  simp only[hi]
  cases t with
  |zero=>
   rw[Nat.testBit_zero]
   have e:i+(8-(m+1))+0=i+(7-m):=by omega
   rw[e]
   cases h:l.getD (i+(7-m)) false
   ·simp
   simp
  |succ t=>
   rw[Nat.testBit_succ]
   have e:(2*hi l i m+(if l.getD (i+(7-m)) false=true then 1 else 0)) / 2=hi l i m:=by split<;>omega
   rw[e,H (by omega) t]
   have A:i+(8-(m+1))+(t+1)=i+(8-m)+t:=by omega
   rw[A]
   simp
def Jag (l:List Bool)(j:Nat):Nat:=hi l (8*j) 8
theorem Ji4 (l:List Bool)(j:Nat):Jag l j<256:=Kh5 l (8*j) 8
theorem Yx (l:List Bool)(j t:Nat):(Jag l j).testBit t=(decide (t<8)&&l.getD (8*j+t) false):=by
 unfold Jag;rw[Jwg l (8*j) 8 (Oa2 _) t];simp
theorem Jvq (j:Nat):Jag [] j=0:=by
 apply Nat.eq_of_testBit_eq
 intro t
 rw[Yx];simp
theorem Jss (l:List Bool)(n j:Nat)(X:n<l.length) :
  Jag (l.take (n+1)) j=if j=n / 8 then Jag (l.take n) j ||| ((if l[n]then 1 else 0) <<< (n % 8))else Jag (l.take n) j:=by
 have H:∀ m x,(l.take m).getD x false=(decide (x<m)&&l.getD x false):=by
  intro m x
  simp only[Oa0,Oe7]
  by_cases h:x<m<;>simp[h]
 have N:l.getD n false=l[n]:=by simp[X]
 apply Nat.eq_of_testBit_eq
 intro t
 by_cases L:j=n / 8
 ·subst L
  rw[if_pos rfl,Nat.testBit_or,Yx,Yx,H,H,Nat.testBit_shiftLeft]
  by_cases I:t<8
  ·by_cases U:8*(n / 8)+t=n
   ·have Y:t=n % 8:=by omega
    have A:n % 8≤t:=by omega
    have O:t-n % 8=0:=by omega
    rw[U,N,O]
    cases l[n]<;>simp[A]<;>omega
   by_cases M:8*(n / 8)+t<n
   ·have A:¬ n % 8≤t:=by omega
    simp[I,M,A];intro;omega
   have A:¬ (t-n % 8=0):=by omega
   have J:((if l[n]=true then 1 else 0:Nat)).testBit (t-n % 8)=false:=by
    cases l[n]
    ·simp
    obtain⟨q,K⟩:=Nat.exists_eq_succ_of_ne_zero A
    rw[K]
    simp[Nat.testBit_succ]
   rw[J]
   have R:¬ (8*(n / 8)+t<n+1):=by omega
   simp[M,R]
  have A:¬ (t-n % 8=0):=by omega
  have J:((if l[n]=true then 1 else 0:Nat)).testBit (t-n % 8)=false:=by
   cases l[n]
   ·simp
   obtain⟨q,K⟩:=Nat.exists_eq_succ_of_ne_zero A
   rw[K]
   simp[Nat.testBit_succ]
  rw[J]
  simp[I]
 rw[if_neg L,Yx,Yx,H,H]
 by_cases I:t<8
 ·have:decide (8*j+t<n+1)=decide (8*j+t<n):=by
   rw[decide_eq_decide];omega
  rw[this]
 simp[I]
def Kk (l:List Bool):List UInt8:=(List.range ((l.length+7) / 8)).map fun j=>UInt8.ofNat (Jag l j)
theorem Qb (l:List Bool):(Kk l).length=(l.length+7) / 8:=by simp[Kk]
def low (n:Int):UInt8:=UInt8.ofNat (n % 256).toNat
def le8 (u:Nat):List UInt8:=(List.range 8).map fun i=>UInt8.ofNat (u / 256 ^ i % 256)
theorem Jc4 (u:Nat):(le8 u).length=8:=by simp[le8]
def u64 (n:Int):Nat:=(n % 18446744073709551616).toNat
theorem Jp3 (n:Int):u64 n<18446744073709551616:=by unfold u64;omega
def Ue (H:Nat)(A:List Nat):List Bool:=A.flatMap fun n=>(List.range H).map fun b=>n.testBit b
theorem Jal (H:Nat)(A:List Nat):(Ue H A).length=H*A.length:=by
 induction A with
 |nil=>simp[Ue]
 |cons n A I=>
  unfold Ue at *
  rw[Og7,Oa8,I]
  simp[Nat.mul_add];omega
theorem Kuq (A:Nat)(H:List Nat)(n:Nat):Ue A (H++[n])=Ue A H++(List.range A).map fun b=>n.testBit b:=by
 simp[Ue]
theorem Jms (A:Nat):∀ (H:List Nat) (i b:Nat) (hi:i<H.length),b<A→(Ue A H)[A*i+b]?=some (H[i].testBit b):=by
 intro H
 induction H with
 |nil=>intro i b hi;simp at hi
 |cons n H J=>
  intro i b hi I
  have e:Ue A (n::H)=((List.range A).map fun b=>n.testBit b)++Ue A H:=by simp[Ue]
  rw[e]
  cases i with
  |zero=>
   simp only[Nat.mul_zero,Od0]
   rw[Ob0 (by simpa using I)]
   simp[I]
  |succ i=>
   rw[Ob6 (by simp[Nat.mul_add];omega)]
   have:A*(i+1)+b-((List.range A).map fun b=>n.testBit b).length=A*i+b:=by simp[Nat.mul_add];omega
   rw[this]
   simpa using J i b (by simpa using hi) I
end
section
open Go.RowKit
attribute [local go_sem] Jdy
def way (typ A:Int):Bool:=decide (1≤typ∧typ≤3∧0≤A∧A≤3∧¬ (typ=3∧A=3))
def okK (k n:Int)(s:ByteArray):Bool:=
 decide ((k=1∧s.toList.isEmpty=true)∨(k=2∧(n=0∨n=1)∧s.toList.isEmpty=true)∨(k=3∧n=0∧s.size≤40))
def okB (typ k n:Int)(s:ByteArray):Bool:=decide ((k=0∧n=0∧s.toList.isEmpty=true)∨(k=typ∧okK k n s=true))
theorem Jlh (t:Int)(w:World) :
  Calls Tryz.prog 155 #[.int .i64 t] w fun e w'=>e=.returned (.bool (decide (1≤t∧t≤3)))∧w'=w:=by
 go_enter Tryz.func155,Tryz.ntmps155
 go_wp2
 all_goals
  go_ret
  exact⟨Qr (by rw[On7];simp at *;omega),rfl⟩
theorem Ja3 (t h:Int)(w:World) :
  Calls Tryz.prog 126 #[.int .i64 t,.int .i64 h] w fun e w'=>e=.returned (.bool (way t h))∧w'=w:=by
 unfold way
 go_enter Tryz.func126,Tryz.ntmps126
 go_wp2_with (go_at_call 155;refine(Jlh _ _).mono ?_;rintro e w' ⟨rfl,rfl⟩)
 all_goals
  go_ret
  exact⟨Qr (by rw[On7];simp at *;omega),rfl⟩
theorem Ku5 (t h:Int)(w:World) :
  Calls Tryz.prog 94 #[.int .i64 t,.int .i64 h] w fun e w'=>e=.returned (.bool (way t h))∧w'=w:=by
 unfold way
 go_enter Tryz.func94,Tryz.ntmps94
 go_wp2
 all_goals
  go_ret
  exact⟨Qr (by rw[On7];simp at *;omega),rfl⟩
theorem Jif (n:Int)(w:World)(h0:0≤n)(A:n≤100000) :
  Calls Tryz.prog 218 #[.int .i64 n] w fun e w'=>e=.returned (.int .i64 ((n+7) / 8))∧w'=w:=by
 go_enter Tryz.func218,Tryz.ntmps218
 go_wp2
 go_ret
 exact⟨rfl,rfl⟩
theorem Jq8 (k n:Int)(s:ByteArray)(w:World) :
  Calls Tryz.prog 186 #[.agg #[.int .i64 k,.int .i64 n,.string s]] w fun e w'=>e=.returned (.bool (okK k n s))∧Below w.heap.size w w':=by
 go_enter Tryz.func186,Tryz.ntmps186
 go_wp2
 all_goals
  go_ret
  refine⟨Qr ?_,(Oa5 _ _).alloc (Oa2 _) _⟩
  go_light
  unfold okK
  generalize s.toList.isEmpty=e at *
  generalize s.size=m at *
  rw[On7]
  cases e<;>(try simp at *)<;>(try omega)
theorem Jmd (k n:Int)(s:ByteArray)(t:Int)(w:World) :
  Calls Tryz.prog 156 #[.agg #[.int .i64 k,.int .i64 n,.string s],.int .i64 t] w fun e w'=>e=.returned (.bool (okB t k n s))∧Below w.heap.size w w':=by
 by_cases h0:k=0
 ·go_enter Tryz.func156,Tryz.ntmps156
  go_wp2
  all_goals
   go_ret
   refine⟨Qr ?_,(Oa5 _ _).alloc (Oa2 _) _⟩
   go_light
   unfold okB okK
   generalize s.size=m at *
   rw[On7]
   cases hs:s.toList<;>(try simp[hs]at *)<;>(try omega)
 by_cases A:k=t
 ·subst A
  go_enter Tryz.func156,Tryz.ntmps156
  go_wp2_with (go_at_call 186;refine(Jq8 _ _ _ _).mono ?_;rintro e w' ⟨rfl,H⟩)
  all_goals
   go_ret
   refine⟨Qr ?_,Qx H⟩
   go_light
   unfold okB
   cases okK k n s<;>(try simp at *)<;>(try omega)
 have I:(k==t)=false:=by simp[A]
 go_enter Tryz.func156,Tryz.ntmps156
 go_wp2
 all_goals
  go_ret
  refine⟨Qr ?_,(Oa5 _ _).alloc (Oa2 _) _⟩
  go_light
  unfold okB okK
  generalize s.toList.isEmpty=e at *
  generalize s.size=m at *
  rw[On7]
  cases e<;>(try simp at *)<;>(try omega)
theorem Ksn (n:Int)(w:World) :
  Calls Tryz.prog 32 #[.int .i64 n] w fun e w'=>e=.returned (.agg #[.int .i64 (-7),.int .i64 n,.string ⟨#[109,97,114,107]⟩])∧Below w.heap.size w w':=by
 go_enter Tryz.func32,Tryz.ntmps32
 go_wp2
 exact bodyPost_ret (v:=.agg #[.int .i64 (-7),.int .i64 n,.string ⟨#[109,97,114,107]⟩]) (by simp[results,Tryz.results32,go_sem]) rfl ⟨rfl,(Oa5 _ _).alloc (Oa2 _) _⟩
abbrev fault (c:Int):Value:=.agg #[.int .i64 c,.int .i64 (-1),.int .i64 (-1),.int .i64 (-1),.int .i64 (-1)]
theorem Kse (n:Int)(w:World) :
  Calls Tryz.prog 42 #[.int .i64 n] w fun e w'=>e=.returned (fault n)∧Below w.heap.size w w':=by
 go_enter Tryz.func42,Tryz.ntmps42
 go_wp2
 exact bodyPost_ret (v:=fault n) (by simp[results,Tryz.results42,go_sem]) rfl ⟨rfl,(Oa5 _ _).alloc (Oa2 _) _⟩
theorem Kta (w:World) :
  Calls Tryz.prog 44 #[] w fun e w'=>e=.returned (fault 0)∧Below w.heap.size w w':=by
 go_enter Tryz.func44,Tryz.ntmps44
 go_wp2_with (go_at_call 42;refine(Kse _ _).mono ?_;rintro e w' ⟨rfl,A⟩;obtain⟨H,I⟩:=Kx A)
 exact bodyPost_ret (v:=fault 0) (by simp[results,Tryz.results44,go_sem,H]) rfl ⟨rfl,Um (Qx A) (Oa2 _) _ _ _ _ _⟩
theorem Kwt (k n:Int)(s:ByteArray)(t:Int)(w:World) :
  Calls Tryz.prog 95 #[.agg #[.int .i64 k,.int .i64 n,.string s],.int .i64 t] w fun e w'=>e=.returned (.bool (okB t k n s))∧Below w.heap.size w w':=by
 go_enter Tryz.func95,Tryz.ntmps95
 go_wp2
 all_goals
  go_ret
  refine⟨Qr ?_,(Oa5 _ _).alloc (Oa2 _) _⟩
  go_light
  unfold okB okK
  generalize s.size=m at *
  rw[On7]
  cases hs:s.toList<;>(try simp[hs]at *)<;>(try omega)
end
section
open Go.RowKit
def Qc:List V→V→Nat
 |[],_=>0
 |u::l,v=>if u.beq v then 0 else Qc l v+1
theorem Qao (l:List V)(v:V):Qc l v≤l.length:=by
 induction l with
 |nil=>simp[Qc]
 |cons u l A=>unfold Qc;split<;>simp;omega
theorem Kd8 (l:List V)(v:V):∀ (k:Nat) (hk:k<l.length),(∀ j (I:j<k),l[j]'(by omega)≠v)→l[k]=v→Qc l v=k:=by
 induction l with
 |nil=>intro k hk;simp at hk
 |cons u l J=>
  intro k hk H A
  cases k with
  |zero=>simp at A;simp[Qc,(V.beq_iff u v).2 A]
  |succ k=>
   have h0:=H 0 (by omega)
   simp at h0
   simp only[Qc,(V.beq_false u v).2 h0,Ol9,if_false]
   simp at A
   rw[J k (by simpa using hk) (fun j I=>by have:=H (j+1) (by omega);simpa using this) A]
theorem Jxs (l:List V)(v:V)(h:∀ j (A:j<l.length),l[j]≠v):Qc l v=l.length:=by
 induction l with
 |nil=>rfl
 |cons u l H=>
  have h0:=h 0 (by simp)
  simp at h0
  simp only[Qc,(V.beq_false u v).2 h0,Ol9,if_false]
  rw[H fun j A=>by have:=h (j+1) (by simpa using A);simpa using this]
  rfl
theorem Jnx (l:List V)(v:V)(h:Qc l v<l.length):l[Qc l v]=v:=by
 induction l with
 |nil=>simp at h
 |cons u l H=>
  by_cases e:u.beq v=true
  ·have:Qc (u::l) v=0:=by simp[Qc,e]
   simp[this];exact(V.beq_iff u v).1 e
  have A:Qc (u::l) v=Qc l v+1:=by simp[Qc,e]
  simp only[A]at h ⊢
  simp at h ⊢
  exact H h
theorem Jhz (v u:V)(h:v=u):∀ w,(binOp .eql 55 v.val u.val).run Tryz.prog w=.ok (.bool true) w:=fun w=>by
 rw[Jcx];exact congrArg (fun b=>Result.ok (Value.bool b) w) ((V.beq_iff v u).2 h)
theorem Jh8 (v u:V)(h:v≠u):∀ w,(binOp .eql 55 v.val u.val).run Tryz.prog w=.ok (.bool false) w:=fun w=>by
 rw[Jcx];exact congrArg (fun b=>Result.ok (Value.bool b) w) ((V.beq_false v u).2 h)
theorem Jql (v u:V)(h:v=u):∀ w,(binOp .neq 55 v.val u.val).run Tryz.prog w=.ok (.bool false) w:=fun w=>by
 rw[Jph];exact congrArg (fun b=>Result.ok (Value.bool (!b)) w) ((V.beq_iff v u).2 h)
theorem Jqe (v u:V)(h:v≠u):∀ w,(binOp .neq 55 v.val u.val).run Tryz.prog w=.ok (.bool true) w:=fun w=>by
 rw[Jph];exact congrArg (fun b=>Result.ok (Value.bool (!b)) w) ((V.beq_false v u).2 h)
theorem Ka6 (xs A:List V)(H:xs.length=A.length)(h:∀ j (J:j<xs.length),xs[j]=A[j]'(H▸J)):xs=A:=
 Oh4 H fun i I _=>h i I
theorem Ktv (a N:Option Addr)(cap U:Nat)(xs A:List V)(w:World)(ba:xs.length≤maxLen)(bc:Jv w a xs)(bf:Jv w N A)(b:Bool)(R:b=true↔xs=A) :
  Calls Tryz.prog 79 #[.slice a xs.length cap,.slice N A.length U] w fun e w'=>e=.returned (.bool b)∧Below w.heap.size w w':=by
 unfold maxLen at ba
 have K:Hid (b=true↔xs=A):=R
 clear R
 by_cases J:xs.length=A.length
 ·have M:Hid (xs.length=A.length):=J
  have X:((xs.length:Int) != (A.length:Int))=false:=by simp[J]
  clear J
  go_enter Tryz.func79,Tryz.ntmps79
  go_wp2
  go_loopw [5] (fun i wr=>∃ k:Nat,k≤xs.length∧i=.int .i64 k∧(∃ m,wr=w.drewN m)∧Hid (∀ j (H:j<xs.length),j<k→xs[j]=A[j]'(M.out▸H))) (fun i _=>xs.length-(intOf i).toNat)
  case atStart=>exact⟨0,Ob7 _,rfl,⟨0,rfl⟩,fun j _ H=>absurd H (Oe0 _)⟩
  case round=>
   obtain⟨k,hk,rfl,⟨m,rfl⟩,O⟩:=hrel
   by_cases Y:k<xs.length
   ·have Z:k<A.length:=by have:=M.out;omega
    obtain⟨b1,o1,rfl,_,bi,bj,bk⟩:=bc.at Y
    obtain⟨b2,o2,rfl,_,bl,bn,br⟩:=bf.at Z
    by_cases I:xs[k]=A[k]
    ·have bb:=Jql _ _ I
     have L:Hid (xs[k]=A[k]):=I
     clear I
     go_wp2
     go_quiet (fail)
     go_wp2
     go_roundw
     case rel=>
      refine⟨k+1,by omega,by go_num,⟨_,rfl⟩,fun j H bh=>?_⟩
      by_cases e:j=k
      ·subst e;exact L.out
      exact O.out j H (by omega)
     case measure=>simp[intOf];omega
    have bb:=Jqe _ _ I
    have L:Hid (¬ xs[k]=A[k]):=I
    clear I
    go_wp2
    go_quiet (fail)
    go_wp2
    go_ret
    refine⟨Qr ?_,?_⟩
    ·cases b
     ·rfl
     exact absurd (by rw[List.getElem_of_eq (K.out.1 rfl)]) L.out
    exact Jp (Jp (Oa5 _ _) _) _
   go_wp2
   go_ret
   refine⟨Qr (K.out.2 (Ka6 xs A M.out fun j H=>O.out j H (by omega))).symm,?_⟩
   exact Jp (Oa5 _ _) _
 have X:((xs.length:Int) != (A.length:Int))=true:=by simp;omega
 go_enter Tryz.func79,Tryz.ntmps79
 go_wp2
 go_ret
 refine⟨Qr ?_,Oa5 _ _⟩
 cases b
 ·rfl
 exact absurd (congrArg List.length (K.out.1 rfl)) J
theorem Kt3 (a:Option Addr)(cap:Nat)(xs:List V)(v:V)(w:World)(L:xs.length≤maxLen)(N:Jv w a xs) :
  Calls Tryz.prog 132 #[.slice a xs.length cap,v.val] w fun e w'=>e=.returned (.int .i64 (Qc xs v))∧Below w.heap.size w w':=by
 unfold maxLen at L
 go_enter Tryz.func132,Tryz.ntmps132
 go_wp2
 have O:(w.alloc (.cells #[.int .i64 v.k,.int .i64 v.n,.string v.s] 55)).cell? ⟨w.heap.size,0,none⟩=some (.int .i64 v.k):=by simp
 go_loopw [5] (fun i wr=>∃ k:Nat,k≤xs.length∧i=.int .i64 k∧(∃ m,wr=(w.alloc (.cells #[.int .i64 v.k,.int .i64 v.n,.string v.s] 55)).drewN m)∧Hid (∀ j (A:j<xs.length),j<k→xs[j]≠v)) (fun i _=>xs.length-(intOf i).toNat)
 case atStart=>exact⟨0,Ob7 _,rfl,⟨0,rfl⟩,fun j _ A=>absurd A (Oe0 _)⟩
 case round=>
  obtain⟨k,hk,rfl,⟨m,rfl⟩,J⟩:=hrel
  by_cases K:k<xs.length
  ·obtain⟨b1,o1,rfl,R,X,Y,Z⟩:=N.at K
   by_cases H:xs[k]=v
   ·have M:=Jhz _ _ H
    have I:Hid (xs[k]=v):=H
    clear H
    go_wp2
    go_quiet (fail)
    go_wp2
    go_ret
    refine⟨Yp ?_,?_⟩
    ·rw[Kd8 xs v k K (fun j A=>J.out j (by omega) A) I.out]
    exact Jp (Jp ((Oa5 _ _).alloc (Oa2 _) _) _) _
   have M:=Jh8 _ _ H
   have I:Hid (¬ xs[k]=v):=H
   clear H
   go_wp2
   go_quiet (fail)
   go_wp2
   go_roundw
   case rel=>
    refine⟨k+1,by omega,by go_num,⟨_,rfl⟩,fun j A U=>?_⟩
    by_cases e:j=k
    ·subst e;exact I.out
    exact J.out j A (by omega)
   case measure=>simp[intOf];omega
  go_wp2
  go_ret
  refine⟨Yp ?_,Jp ((Oa5 _ _).alloc (Oa2 _) _) _⟩
  rw[Jxs xs v fun j A=>J.out j A (by omega)]
def idx (xs:List V)(v:V):Int:=if Qc xs v<xs.length then Qc xs v else -1
theorem Joy (a:Option Addr)(cap:Nat)(xs:List V)(v:V)(w:World)(L:xs.length≤maxLen)(O:Jv w a xs) :
  Calls Tryz.prog 217 #[.slice a xs.length cap,v.val] w fun e w'=>e=.returned (.int .i64 (idx xs v))∧Below w.heap.size w w':=by
 unfold maxLen at L
 go_enter Tryz.func217,Tryz.ntmps217
 go_wp2
 go_loopw [8] (fun i wr=>∃ k:Nat,k≤xs.length∧i=.int .i64 k∧(∃ m,wr=(w.alloc (.cells #[.int .i64 v.k,.int .i64 v.n,.string v.s] 55)).drewN m)∧Hid (∀ j (A:j<xs.length),j<k→xs[j]≠v)) (fun i _=>xs.length-(intOf i).toNat)
 case atStart=>exact⟨0,Ob7 _,rfl,⟨0,rfl⟩,fun j _ A=>absurd A (Oe0 _)⟩
 case round=>
  obtain⟨k,hk,rfl,⟨m,rfl⟩,J⟩:=hrel
  by_cases K:k<xs.length
  ·obtain⟨b1,o1,rfl,R,X,Y,Z⟩:=O.at K
   by_cases H:v=xs[k]
   ·have N:=Jhz _ _ H
    have I:Hid (v=xs[k]):=H
    clear H
    go_wp2
    go_quiet (fail)
    go_wp2
    go_ret
    refine⟨Yp ?_,?_⟩
    ·have M:=Kd8 xs v k K (fun j A=>J.out j (by omega) A) I.out.symm
     unfold idx;rw[M,if_pos K]
    exact Jp (Jp ((Oa5 _ _).alloc (Oa2 _) _) _) _
   have N:=Jh8 _ _ H
   have I:Hid (¬ v=xs[k]):=H
   clear H
   go_wp2
   go_quiet (fail)
   go_wp2
   go_roundw
   case rel=>
    refine⟨k+1,by omega,by go_num,⟨_,rfl⟩,fun j A U=>?_⟩
    by_cases e:j=k
    ·subst e;exact fun h=>I.out h.symm
    exact J.out j A (by omega)
   case measure=>simp[intOf];omega
  go_wp2
  go_ret
  refine⟨Yp ?_,Jp ((Oa5 _ _).alloc (Oa2 _) _) _⟩
  unfold idx;rw[Jxs xs v fun j A=>J.out j A (by omega),if_neg (Oe3 _)]
theorem Ju6 (xs:List V)(v:V):decide (0≤idx xs v)=decide (Qc xs v<xs.length):=by
 unfold idx;split<;>simp[*]<;>omega
theorem Jis (a:Option Addr)(cap:Nat)(xs:List V)(v:V)(w:World)(I:xs.length≤maxLen)(J:Jv w a xs)(b:Bool)(A:b=decide (Qc xs v<xs.length)) :
  Calls Tryz.prog 187 #[.slice a xs.length cap,v.val] w fun e w'=>e=.returned (.bool b)∧Below w.heap.size w w':=by
 have H:Hid (b=decide (0≤idx xs v)):=by rw[Ju6];exact A
 clear A
 go_enter Tryz.func187,Tryz.ntmps187
 go_wp2_with (go_at_call 217;refine(Joy _ _ _ _ _ I (J.below ((Oa5 _ _).alloc (Oa2 _) _))).mono ?_;rintro e w' ⟨rfl,A⟩)
 go_ret
 exact⟨Qr (by rw[H.out]),Qx A⟩
theorem Zl (t:Int)(a:Option Addr)(cap:Nat)(xs:List V)(w:World)(O:xs.length≤maxLen)(R:Jv w a xs)(b:Bool)(H:b=true↔xs.length≤64∧∀ j (A:j<xs.length),okB t xs[j].k xs[j].n xs[j].s=true) :
  Calls Tryz.prog 158 #[.int .i64 t,.slice a xs.length cap] w fun e w'=>e=.returned (.bool b)∧Below w.heap.size w w':=by
 unfold maxLen at O
 have I:=H
 replace I:Hid _:=I
 clear H
 by_cases M:xs.length≤64
 ·go_enter Tryz.func158,Tryz.ntmps158
  go_wp2
  go_loopw [12] (fun i wr=>∃ k:Nat,k≤xs.length∧i=.int .i64 k∧Below w.heap.size w wr∧Hid (∀ j (A:j<xs.length),j<k→okB t xs[j].k xs[j].n xs[j].s=true)) (fun i _=>xs.length-(intOf i).toNat)
  case atStart=>exact⟨0,Ob7 _,rfl,Oa5 _ _,fun j _ A=>absurd A (Oe0 _)⟩
  case round=>
   obtain⟨k,hk,rfl,J,L⟩:=hrel
   by_cases N:k<xs.length
   ·obtain⟨b1,o1,rfl,U,Y,Z,ba⟩:=(R.below J).at N
    cases ho:okB t xs[k].k xs[k].n xs[k].s
    ·have K:Hid (okB t xs[k].k xs[k].n xs[k].s=false):=ho
     go_wp2_with (go_at_call 156;refine(Jmd _ _ _ _ _).mono ?_;rintro e w' ⟨rfl,H⟩)
     go_ret
     refine⟨Qr ?_,Jb J (Qx H)⟩
     cases b
     ·rfl
     have:=(I.out.1 rfl).2 k N
     rw[K.out]at this
     exact absurd this (by decide)
    have K:Hid (okB t xs[k].k xs[k].n xs[k].s=true):=ho
    go_wp2_with (go_at_call 156;refine(Jmd _ _ _ _ _).mono ?_;rintro e w' ⟨rfl,H⟩)
    go_roundw
    case rel=>
     refine⟨k+1,by omega,by go_num,Jb J (Qx H),fun j A X=>?_⟩
     by_cases e:j=k
     ·subst e;exact K.out
     exact L.out j A (by omega)
    case measure=>simp[intOf];omega
   go_wp2
   go_ret
   refine⟨Qr (I.out.2 ⟨M,fun j A=>L.out j A (by omega)⟩).symm,J⟩
 go_enter Tryz.func158,Tryz.ntmps158
 go_wp2
 go_ret
 refine⟨Qr ?_,Oa5 _ _⟩
 cases b
 ·rfl
 exact absurd (I.out.1 rfl).1 M
end
section
open Go.RowKit
def Yt (w:World)(B:Nat)(sv:Value)(vs:List V):Prop:=w.ownsRow B 55 3 sv vs.length (vs.flatMap V.cells)
def Jo (w:World)(B:Nat)(e:TypeId)(sv:Value)(xs:List Value):Prop:=w.ownsRow B e 1 sv xs.length xs
theorem Je {w:World}{B:Nat}{e:TypeId}{z n:Nat}{sv:Value}{xs:List Value}(h:w.ownsRow B e z sv n xs){g:Nat}(H:sv.ownBlock=some g):B≤g∧g<w.heap.size:=by
 rcases h.2 with⟨I,_⟩|⟨J,cap,M,I,K,L,_⟩
 ·subst I;simp[Value.ownBlock]at H
 subst I
 simp[Value.ownBlock]at H
 subst H
 refine⟨K,?_⟩
 rcases Oc1 J w.heap.size with A|A
 ·exact A
 simp[Array.getElem?_eq_none A]at L
theorem Jl {w w':World}{B:Nat}{e:TypeId}{z n:Nat}{sv:Value}{xs:List Value}(h:w.ownsRow B e z sv n xs)(I:∀ g,sv.ownBlock=some g→w'.heap[g]?=w.heap[g]?):w'.ownsRow B e z sv n xs:=by
 refine⟨h.1,?_⟩
 rcases h.2 with h|⟨g,cap,H,A,J,K,rest⟩
 ·exact .inl h
 exact .inr ⟨g,cap,H,A,J,by rw[I g (by subst A;rfl)];exact K,rest⟩
theorem Jaw {w w':World}{B:Nat}{e:TypeId}{z n:Nat}{sv:Value}{xs:List Value}(h:w.ownsRow B e z sv n xs)(A:Below w.heap.size w w'):w'.ownsRow B e z sv n xs:=
 Jl h fun g H=>A.block g (Je h H).2
theorem Jgl {w:World}{B A:Nat}{e:TypeId}{z n:Nat}{sv:Value}{xs:List Value}(h:w.ownsRow B e z sv n xs)(J:A≤B):w.ownsRow A e z sv n xs:=by
 refine⟨h.1,?_⟩
 rcases h.2 with h|⟨g,cap,H,I,K,rest⟩
 ·exact .inl h
 exact .inr ⟨g,cap,H,I,by omega,rest⟩
theorem Jbm {w:World}{B:Nat}{e:TypeId}{z n:Nat}{sv:Value}{xs:List Value}(h:w.ownsRow B e z sv n xs)(o:Obj):(w.alloc o).ownsRow B e z sv n xs:=
 Jaw h ((Oa5 _ _).alloc (Oa2 _) _)
theorem Yt.below {w w':World}{B:Nat}{sv:Value}{vs:List V}(h:Yt w B sv vs)(A:Below w.heap.size w w'):Yt w' B sv vs:=Jaw h A
theorem Yt.alloc {w:World}{B:Nat}{sv:Value}{vs:List V}(h:Yt w B sv vs)(o:Obj):Yt (w.alloc o) B sv vs:=Jbm h o
theorem Yt.mono {w:World}{B A:Nat}{sv:Value}{vs:List V}(h:Yt w B sv vs)(H:A≤B):Yt w A sv vs:=Jgl h H
theorem Yt.nil (w:World)(B:Nat):Yt w B (.slice none 0 0) []:=⟨rfl,.inl ⟨rfl,rfl⟩⟩
theorem Yt.vals {w:World}{B:Nat}{sv:Value}{vs:List V}(h:Yt w B sv vs):∃ a cap,sv=.slice a vs.length cap∧Jv w a vs:=(Jpo h).2
theorem Jo.below {w w':World}{B:Nat}{e:TypeId}{sv:Value}{xs:List Value}(h:Jo w B e sv xs)(A:Below w.heap.size w w'):Jo w' B e sv xs:=Jaw h A
theorem Jo.alloc {w:World}{B:Nat}{e:TypeId}{sv:Value}{xs:List Value}(h:Jo w B e sv xs)(o:Obj):Jo (w.alloc o) B e sv xs:=Jbm h o
theorem Jo.nil (w:World)(B:Nat)(e:TypeId):Jo w B e (.slice none 0 0) []:=⟨rfl,.inl ⟨rfl,rfl⟩⟩
theorem Jy {w wr w':World}{sv:Value}(h:Below w.heap.size w wr)(A:wr.grownBy w' sv.ownBlock)(H:∀ k,sv.ownBlock=some k→w.heap.size≤k):Below w.heap.size w w':=
 h.grown A h.size H
theorem Jcj {w:World}{K:Array Oper}{rest:List Oper}{o:Oper}{a:Act}{Q:Exit→Act→World→Prop}(R:o.guard=none)(s x:Operand)
  (U:o.op=.call {callee:=.builtin .append,args:=#[s,x],argTypes:=#[56,56]})
  (B:Nat) (sv:Value) (vs:List V) (hs:a.eval s=sv) (X:Yt w B sv vs)
  (g c:Nat) (v:V) (ba:a.eval x=.slice (some ⟨g,0,none⟩) 1 c) (Z:VAt w g 0 v) (bf:vs.length≤1000000) (N:B≤w.heap.size)
  (h:∀ sv' w',Yt w' B sv' (vs++[v])→w.grownBy w' sv.ownBlock→(sv'.ownBlock=sv.ownBlock∨sv'.ownBlock=some w.heap.size)→wpList Tryz.prog K Q rest (a.put o.dst sv') w') :
  wpList Tryz.prog K Q (o::rest) a w:=by
 obtain⟨i,hi,bb,Y,O⟩:=info_parts Jow
 refine wpList_append_own_at w R s x 56 U B 55 i _ 3 32 (by kernel_rfl) hi bb Y O rfl (by decide) sv vs.length (vs.flatMap V.cells) hs X ⟨g,0,none⟩ 1 c v.cells ba rfl ?_ ?_ ?_ ?_ N ?_
 ·intro j u A
  obtain⟨H,I,L⟩:=Z
  match j,A with
  |0,A=>simp[V.cells]at A;subst A;simpa [Addr.add] using H
  |1,A=>simp[V.cells]at A;subst A;simpa [Addr.add] using I
  |2,A=>simp[V.cells]at A;subst A;simpa [Addr.add] using L
  |j+3,A=>simp[V.cells]at A
 ·intro u J
  simp[V.cells]at J
  rcases J with rfl|rfl|rfl<;>rfl
 ·unfold maxLen;omega
 ·omega
 intro bc w' H I _ M
 refine h bc w' ?_ I M
 unfold Yt
 simpa [V.cells] using H
theorem Ks {w:World}{K:Array Oper}{rest:List Oper}{o:Oper}{a:Act}{Q:Exit→Act→World→Prop}(U:o.guard=none)(s x:Operand)(t e:TypeId)(z:Value)(H:Nat)
  (X:(Tryz.prog.info? e).map (fun i=>(i.zero,i.size,i.bytes))=some (some z,1,H)) (bj:z.cells.size=1) (R:H≤16) (bc:Tryz.prog.underlying t=some (.slice e))
  (Z:o.op=.call {callee:=.builtin .append,args:=#[s,x],argTypes:=#[t,t]})
  (B:Nat) (sv:Value) (xs:List Value) (hs:a.eval s=sv) (ba:Jo w B e sv xs)
  (I:Addr) (c:Nat) (A:List Value) (bh:a.eval x=.slice (some I) A.length c) (bf:∀ j u,A[j]?=some u→w.cell? (I.add j)=some u) (J:∀ u∈A,u.oneCell'=true) (Y:xs.length+A.length≤1000000) (N:B≤w.heap.size)
  (h:∀ sv' w',Jo w' B e sv' (xs++A)→w.grownBy w' sv.ownBlock→(sv'.ownBlock=sv.ownBlock∨sv'.ownBlock=some w.heap.size)→wpList Tryz.prog K Q rest (a.put o.dst sv') w') :
  wpList Tryz.prog K Q (o::rest) a w:=by
 obtain⟨i,hi,bi,bb,O⟩:=info_parts X
 refine wpList_append_own_at w U s x t Z B e i _ 1 H bc hi bi bb O bj (by decide) sv xs.length xs hs ba I A.length c A bh (by simp) bf J ?_ ?_ N ?_
 ·unfold maxLen;omega
 ·have:(xs.length+A.length)*H≤1000000*16:=Ol5 Y R
  omega
 intro bk w' J L _ M
 refine h bk w' ?_ L M
 unfold Jo
 simpa using J
def Uh (w:World)(a:Option Addr)(xs:List Value):Prop:=
 xs=[]∨∃ b o,a=some ⟨b,o,none⟩∧b<w.heap.size∧∀ i v,xs[i]?=some v→w.cell? ⟨b,o+i,none⟩=some v
theorem Uh.of_block {w w':World}{a:Option Addr}{xs:List Value}(h:Uh w a xs)(hs:w.heap.size≤w'.heap.size)
  (e:∀ b o,a=some ⟨b,o,none⟩→b<w.heap.size→w'.heap[b]?=w.heap[b]?):Uh w' a xs:=by
 rcases h with h|⟨b,o,A,H,h⟩
 ·exact .inl h
 exact .inr ⟨b,o,A,by omega,fun i v I=>by rw[Oc3 (w:=w) (e b o A H)];exact h i v I⟩
theorem Uh.below {w w':World}{a:Option Addr}{xs:List Value}(h:Uh w a xs)(A:Below w.heap.size w w'):Uh w' a xs:=
 h.of_block A.size fun b _ _ H=>A.block b H
theorem Uh.at {w:World}{a:Option Addr}{xs:List Value}(h:Uh w a xs){i:Nat}(hi:i<xs.length) :
  ∃ b o,a=some ⟨b,o,none⟩∧b<w.heap.size∧w.cell? ⟨b,o+i,none⟩=some xs[i]:=by
 rcases h with h|⟨b,o,A,H,h⟩
 ·subst h;simp at hi
 exact⟨b,o,A,H,h i xs[i] (by simp[hi])⟩
theorem Jo.cells {w:World}{B:Nat}{e:TypeId}{sv:Value}{xs:List Value}(h:Jo w B e sv xs):∃ a cap,sv=.slice a xs.length cap∧Uh w a xs:=by
 obtain⟨M,h⟩:=h
 rcases h with⟨H,h0⟩|⟨g,cap,L,H,_,I,_,_,_,J⟩
 ·have:xs=[]:=Od3.1 h0
  subst this
  exact⟨none,0,H,.inl rfl⟩
 refine⟨some ⟨g,0,none⟩,cap,H,.inr ⟨g,0,rfl,?_,?_⟩⟩
 ·rcases Oc1 g w.heap.size with A|A
  ·exact A
  simp[Array.getElem?_eq_none A]at I
 intro i v hi
 rw[←J]at hi
 have K:i<xs.length*1:=by
  rcases Oc1 i (xs.length*1)with A|A
  ·exact A
  rw[List.getElem?_take_eq_none A]at hi;simp at hi
 rw[Oh3 K]at hi
 simp only[Oe6]at hi
 simp[World.cell?,I,hi]
def bv (b:UInt8):Value:=.int .u8 (b.toNat:Int)
theorem Jt0 (l:List UInt8):∀ s:ByteArray,(l.map fun b=>(b.toNat:Int)).foldl (fun r n=>r.push (UInt8.ofNat n.toNat)) s=s++Qw l:=by
 induction l with
 |nil=>intro s;unfold Qw;rw[Om5];simp
 |cons b l A=>
  intro s
  simp only[Oe4,List.foldl_cons]
  rw[A]
  have:UInt8.ofNat (Int.toNat (b.toNat:Int))=b:=by simp
  rw[this]
  unfold Qw
  rw[Om5]
  simp[ByteArray.push]
theorem Jc6 (w:World)(A:Addr)(c:Nat)(l:List UInt8)(h:∀ j u,(l.map bv)[j]?=some u→w.cell? (A.add j)=some u) :
  (convert 137 9 (.slice (some A) l.length c)).run Tryz.prog w=.ok (.string (Qw l)) w:=by
 rw[run_convert_bytes_string w 137 9 5 _ _ _ (by kernel_rfl) (by kernel_rfl) (by kernel_rfl)]
 have H:=run_loadCells_list (P:=Tryz.prog) (w:=w) A (l.map bv) h
 rw[Oa6]at H
 rw[run_bytesToString w A l.length c (l.map fun b=>(b.toNat:Int)) (by rw[H,Oi6];rfl)]
 rw[Jt0]
 have:ByteArray.empty++Qw l=Qw l:=by unfold Qw;rw[Om5];simp
 rw[this]
theorem Kx2 (n:Int):bits .and .i64 n 255=n % 256:=by
 have A:(BitVec.ofInt 64 255).toNat=2 ^ 8-1:=by decide
 have H:(BitVec.ofInt 64 n &&& BitVec.ofInt 64 255).toNat=(n % ((2 ^ 64:Nat):Int)).toNat % 2 ^ 8:=by
  rw[BitVec.toNat_and,Ok6,A,Nat.and_two_pow_sub_one_eq_mod]
 show IntKind.i64.wrap ((BitVec.ofInt 64 n &&& BitVec.ofInt 64 255).toNat:Nat)=n % 256
 rw[H,Od4]
 omega
end
section
open Go.RowKit
def Jz (xs:List V):List V:=xs.filter fun v=>v.k != 0
theorem Zy (xs:List V):(Jz xs).length≤xs.length:=List.length_filter_le _ _
theorem Jsh (xs:List V)(v:V):Jz (xs++[v])=if v.k=0 then Jz xs else Jz xs++[v]:=by
 unfold Jz
 rw[List.filter_append]
 by_cases h:v.k=0<;>simp[h]
theorem Jec (xs:List V)(k:Nat)(h:k<xs.length):xs.take (k+1)=xs.take k++[xs[k]]:=Oc4 h
theorem Yr (a:Option Addr)(cap:Nat)(xs:List V)(w:World)(ba:xs.length≤64)(R:Jv w a xs) :
  Calls Tryz.prog 159 #[.slice a xs.length cap] w fun e w'=>∃ sv,e=.returned sv∧Yt w' w.heap.size sv (Jz xs)∧Below w.heap.size w w':=by
 go_enter Tryz.func159,Tryz.ntmps159
 go_wp2
 go_loopw [3,8] (fun sv i wr=>∃ k:Nat,k≤xs.length∧i=.int .i64 k∧Yt wr w.heap.size sv (Jz (xs.take k))∧Below w.heap.size w wr) (fun _ i _=>xs.length-(intOf i).toNat)
 case atStart=>exact⟨0,Ob7 _,rfl,Yt.nil _ _,Oa5 _ _⟩
 case round=>
  rename_i sv i
  obtain⟨k,hk,rfl,I,H⟩:=hrel
  by_cases K:k<xs.length
  ·obtain⟨b1,o1,rfl,X,bb,bc,bf⟩:=(R.below H).at K
   have A:=Jsh (xs.take k) xs[k]
   rw[←Jec xs k K]at A
   have Y:=Zy (xs.take k)
   have Z:(xs.take k).length≤k:=List.length_take_le _ _
   by_cases h0:xs[k].k=0
   ·rw[if_pos h0]at A
    have J:Hid _:=A
    clear A
    have M:(xs[k].k != 0)=false:=by simp[h0]
    have L:Hid (xs[k].k=0):=h0
    clear h0
    go_wp2
    go_roundw
    case rel=>exact⟨k+1,by omega,by go_num,by rw[J.out];exact I.alloc _,Jc H _⟩
    case measure=>simp[intOf];omega
   rw[if_neg h0]at A
   have J:Hid _:=A
   clear A
   have M:(xs[k].k != 0)=true:=by simp[h0]
   have L:Hid (¬ xs[k].k=0):=h0
   clear h0
   go_wp2_with (at_builtin;refine Jcj (by rfl) _ _ (by rfl) w.heap.size _ _ (by rfl) ((I.alloc _).alloc _) _ _ xs[k] (by rfl) (by refine⟨?_,?_,?_⟩<;>simp) (by omega) (by simp;have:=H.size;omega) ?_;intro sv' w1 N O U)
   go_roundw
   case rel=>
    refine⟨k+1,by omega,by go_num,by rw[J.out];exact N,?_⟩
    exact Jy (Jc (Jc H _) _) O fun k hk=>(Je I hk).1
   case measure=>simp[intOf];omega
  go_wp2
  go_ret
  have e:xs.take k=xs:=Oc8 (by omega)
  rw[e]at I
  exact⟨_,rfl,I,H⟩
def Ym:List V→List V→List V
 |d,[]=>d
 |d,v::l=>Ym (if Qc d v<d.length then d else d++[v]) l
theorem Jzn (l:List V)(v:V):∀ d,Ym d (l++[v])=if Qc (Ym d l) v<(Ym d l).length then Ym d l else Ym d l++[v]:=by
 induction l with
 |nil=>intro d;rfl
 |cons u l A=>intro d;simp only[List.cons_append,Ym];exact A _
theorem Jk0 (l:List V):∀ d,(Ym d l).length≤d.length+l.length:=by
 induction l with
 |nil=>intro d;simp[Ym]
 |cons u l A=>
  intro d
  simp only[Ym]
  refine Ob2 (A _) ?_
  split<;>simp<;>omega
theorem Jd8 (a:Option Addr)(cap:Nat)(xs:List V)(w:World)(bk:xs.length≤64)(Z:Jv w a xs) :
  Calls Tryz.prog 160 #[.slice a xs.length cap] w fun e w'=>∃ sv,e=.returned sv∧Yt w' w.heap.size sv (Ym [] xs)∧Below w.heap.size w w':=by
 go_enter Tryz.func160,Tryz.ntmps160
 go_wp2
 go_loopw [3,8] (fun sv i wr=>∃ k:Nat,k≤xs.length∧i=.int .i64 k∧Yt wr w.heap.size sv (Ym [] (xs.take k))∧Below w.heap.size w wr) (fun _ i _=>xs.length-(intOf i).toNat)
 case atStart=>exact⟨0,Ob7 _,rfl,Yt.nil _ _,Oa5 _ _⟩
 case round=>
  rename_i sv i
  obtain⟨k,hk,rfl,I,J⟩:=hrel
  by_cases R:k<xs.length
  ·obtain⟨b1,o1,rfl,bf,bl,bn,br⟩:=(Z.below J).at R
   have H:=Jzn (xs.take k) xs[k] []
   rw[←Jec xs k R]at H
   have M:=Jk0 (xs.take k) []
   have O:(xs.take k).length≤k:=List.length_take_le _ _
   generalize Ym [] (xs.take k)=d at *
   have bi:d.length≤64:=by simp at M;omega
   have N:d.length≤maxLen:=by unfold maxLen;omega
   obtain⟨ba,bb,rfl,U⟩:=I.vals
   by_cases h0:Qc d xs[k]<d.length
   ·rw[if_pos h0]at H
    have L:Hid _:=H
    have K:Hid (true=decide (Qc d xs[k]<d.length)):=by simp[Hid,h0]
    clear H h0 M O
    go_wp2_with (go_at_call 187;refine(Jis _ _ _ xs[k] _ N (U.below ((Oa5 _ _).alloc (Oa2 _) _)) true K.out).mono ?_;rintro e w' ⟨rfl,A⟩)
    go_roundw
    case rel=>
     refine⟨k+1,by omega,by go_num,?_,Jb J (Qx A)⟩
     rw[L.out];exact I.below (Qx A)
    case measure=>simp[intOf];omega
   rw[if_neg h0]at H
   have L:Hid _:=H
   have K:Hid (false=decide (Qc d xs[k]<d.length)):=by simp[Hid];omega
   clear H h0 M O
   go_wp2_with (first
    |(go_at_call 187;refine(Jis _ _ _ xs[k] _ N (U.below ((Oa5 _ _).alloc (Oa2 _) _)) false K.out).mono ?_;rintro e w' ⟨rfl,A⟩;obtain⟨bh,bj⟩:=Kx A)
    |(at_builtin;refine Jcj (by rfl) _ _ (by rfl) w.heap.size _ _ (by rfl) ((I.below (Qx A)).alloc _) _ _ xs[k] (by rfl) (by refine⟨?_,?_,?_⟩<;>simp) (by omega) (by simp;have:=J.size;have:=(Qx A).size;omega) ?_;intro sv' w1 X Y bc))
   go_roundw
   case rel=>
    refine⟨k+1,by omega,by go_num,by rw[L.out];exact X,?_⟩
    exact Jy (Jc (Jb J (Qx A)) _) Y fun k hk=>(Je I hk).1
   case measure=>simp[intOf];omega
  go_wp2
  go_ret
  have e:xs.take k=xs:=Oc8 (by omega)
  rw[e]at I
  exact⟨_,rfl,I,J⟩
theorem Ktq (a:Option Addr)(cap:Nat)(xs:List V)(w:World)(bk:xs.length≤64)(Z:Jv w a xs) :
  Calls Tryz.prog 96 #[.slice a xs.length cap] w fun e w'=>∃ sv,e=.returned sv∧Yt w' w.heap.size sv (Ym [] xs)∧Below w.heap.size w w':=by
 go_enter Tryz.func96,Tryz.ntmps96
 go_wp2
 go_loopw [3,4] (fun sv i wr=>∃ k:Nat,k≤xs.length∧i=.int .i64 k∧Yt wr w.heap.size sv (Ym [] (xs.take k))∧Below w.heap.size w wr) (fun _ i _=>xs.length-(intOf i).toNat)
 case atStart=>exact⟨0,Ob7 _,rfl,Yt.nil _ _,Oa5 _ _⟩
 case round=>
  rename_i sv i
  obtain⟨k,hk,rfl,I,J⟩:=hrel
  by_cases O:k<xs.length
  ·obtain⟨b1,o1,rfl,bf,bn,br,bu⟩:=(Z.below J).at O
   have H:=Jzn (xs.take k) xs[k] []
   rw[←Jec xs k O]at H
   have L:=Jk0 (xs.take k) []
   have N:(xs.take k).length≤k:=List.length_take_le _ _
   generalize Ym [] (xs.take k)=d at *
   have bi:d.length≤64:=by simp at L;omega
   have M:d.length≤maxLen:=by unfold maxLen;omega
   obtain⟨ba,bb,rfl,R⟩:=I.vals
   have bl:=Qao d xs[k]
   by_cases h0:Qc d xs[k]<d.length
   ·rw[if_pos h0]at H
    have K:Hid _:=H
    have U:((Qc d xs[k]:Int)==(d.length:Int))=false:=by simp;omega
    clear H L N
    go_wp2_with (go_at_call 132;refine(Kt3 _ _ _ xs[k] _ M R).mono ?_;rintro e w' ⟨rfl,A⟩)
    go_roundw
    case rel=>
     refine⟨k+1,by omega,by go_num,?_,Jb J A⟩
     rw[K.out];exact I.below A
    case measure=>simp[intOf];omega
   rw[if_neg h0]at H
   have K:Hid _:=H
   have U:((Qc d xs[k]:Int)==(d.length:Int))=true:=by simp;omega
   clear H h0 L N
   go_wp2_with (first
    |(go_at_call 132;refine(Kt3 _ _ _ xs[k] _ M R).mono ?_;rintro e w' ⟨rfl,A⟩;obtain⟨bh,bj⟩:=Kx A)
    |(at_builtin;refine Jcj (by rfl) _ _ (by rfl) w.heap.size _ _ (by rfl) ((I.below A).alloc _) _ _ xs[k] (by rfl) (by refine⟨?_,?_,?_⟩<;>simp) (by omega) (by simp;have:=J.size;have:=A.size;omega) ?_;intro sv' w1 X Y bc))
   go_roundw
   case rel=>
    refine⟨k+1,by omega,by go_num,by rw[K.out];exact X,?_⟩
    exact Jy (Jc (Jb J A) _) Y fun k hk=>(Je I hk).1
   case measure=>simp[intOf];omega
  go_wp2
  go_ret
  have e:xs.take k=xs:=Oc8 (by omega)
  rw[e]at I
  exact⟨_,rfl,I,J⟩
end
section
open Go.RowKit
theorem Kwl (m:Int)(h0:0≤m)(I:m<256)(W:World)(g c:Nat)(H:W.cell? ⟨g,0,none⟩=some (.int .u8 m)) :
  (convert 137 9 (.slice (some ⟨g,0,none⟩) 1 c)).run Tryz.prog W=.ok (.string (Qw [UInt8.ofNat m.toNat])) W:=by
 refine Jc6 W ⟨g,0,none⟩ c [UInt8.ofNat m.toNat] ?_
 intro j u A
 match j,A with
 |0,A=>
  simp[bv]at A
  subst A
  have:m.toNat % 256=m.toNat:=by omega
  simp only[Addr.add,if_pos]
  rw[H]
  congr 2
  omega
 |j+1,A=>simp at A
theorem Kr3 (n:Int)(w:World) :
  Calls Tryz.prog 97 #[.int .i64 n] w fun e w'=>e=.returned (.string (Qw [low n]))∧Below w.heap.size w w':=by
 have A:=Kx2 n
 have H:n % 256 % 256=n % 256:=by omega
 have I:=Kwl (n % 256) (by omega) (by omega) (w.alloc (.cells #[.int .u8 (n % 256)] 5)) w.heap.size 1 (by simp)
 go_enter Tryz.func97,Tryz.ntmps97
 go_wp2
 go_ret
 exact⟨rfl,(Oa5 _ _).alloc (Oa2 _) _⟩
theorem Ksv (b:UInt8):(Qw [b]).size=1:=by rw[Jb2];rfl
theorem Qay (b:UInt8)(s:ByteArray):Qw (b::s.toList)=Qw [b]++s:=by
 rw[←Zf s,Kr1,Zf];rfl
theorem Qag (u k:Nat):(List.range (k+1)).map (fun i=>UInt8.ofNat (u / 256 ^ i % 256))=(List.range k).map (fun i=>UInt8.ofNat (u / 256 ^ i % 256))++[low ((u / 256 ^ k:Nat) % 256)]:=by
 rw[Oj7,Ob8]
 simp only[Oe4,Oi4,low]
 congr 3
 omega
theorem Kv2 (n:Int)(w:World) :
  Calls Tryz.prog 164 #[.int .i64 n] w fun e w'=>e=.returned (.string (Qw (le8 (u64 n))))∧Below w.heap.size w w':=by
 have J:IntKind.u64.wrap n=(u64 n:Int):=by rw[Oh5];unfold u64;omega
 have Y:=Jp3 n
 generalize u64 n=A at *
 have M:Hid (IntKind.u64.wrap n=(A:Int)):=J
 clear J
 go_enter Tryz.func164,Tryz.ntmps164
 go_wp2
 go_loopw [3,4,5] (fun s u i wr=>∃ k:Nat,k≤8∧i=.int .i64 k∧(∃ z:Nat,z<2^64∧u=.int .u64 z∧Hid (z=A / 256 ^ k))∧s=.string (Qw ((List.range k).map fun i=>UInt8.ofNat (A / 256 ^ i % 256)))∧Below w.heap.size w wr) (fun _ _ i _=>8-(intOf i).toNat)
 case atStart=>exact⟨0,by omega,rfl,⟨A,by omega,by rw[M.out],by simp[Hid]⟩,rfl,Oa5 _ _⟩
 case round=>
  obtain⟨k,hk,rfl,⟨z,Z,rfl,K⟩,rfl,H⟩:=hrel
  by_cases R:k<8
  ·have I:=Qag A k
   have L:Hid _:=I
   clear I
   have U:(Qw ((List.range k).map (fun i=>UInt8.ofNat (A / 256 ^ i % 256)))).size≤8:=by rw[Jb2];simp;omega
   have X:=Ksv
   generalize (List.range k).map (fun i=>UInt8.ofNat (A / 256 ^ i % 256))=l at *
   go_wp2_with (go_at_call 97;refine(Kr3 _ _).mono ?_;rintro e w' ⟨rfl,N⟩)
   go_roundw
   case rel=>
    refine⟨k+1,by omega,by go_num,⟨z / 256,by omega,by go_num,?_⟩,?_,Jb H N⟩
    ·show z / 256=A / 256 ^ (k+1)
     rw[K.out,Nat.pow_succ,Nat.div_div_eq_div_mul]
    rw[L.out,←Kr1,←K.out]
   case measure=>simp[intOf];omega
  have O:k=8:=by omega
  subst O
  go_wp2
  go_ret
  exact⟨rfl,H⟩
theorem Ksh (a:Option Addr)(cap:Nat)(l:List Bool)(w:World)(bi:l.length≤100000)(ba:Uh w a (l.map Value.bool)) :
  Calls Tryz.prog 98 #[.slice a l.length cap] w fun e w'=>e=.returned (.string (Qw (Kk l)))∧Below w.heap.size w w':=by
 go_enter Tryz.func98,Tryz.ntmps98
 go_wp2
 go_loopw [3,4] (fun s i wr=>∃ j:Nat,j≤(l.length+7) / 8∧i=.int .i64 (8*j:Nat)∧s=.string (Qw ((List.range j).map fun j=>UInt8.ofNat (Jag l j)))∧Below w.heap.size w wr) (fun _ i _=>l.length+8-(intOf i).toNat)
 case atStart=>exact⟨0,by omega,rfl,rfl,Oa5 _ _⟩
 case round=>
  obtain⟨j,bf,rfl,rfl,J⟩:=hrel
  by_cases bh:8*j<l.length
  ·go_wp2
   go_loop [5,6] (fun b k=>∃ t:Nat,t≤8∧k=.int .i64 ((t:Int)-1)∧b=.int .i64 (hi l (8*j) (8-t))) (fun _ k=>(intOf k+1).toNat)
   case atStart=>exact⟨8,by omega,rfl,rfl⟩
   case round=>
    obtain⟨t,bn,rfl,rfl⟩:=hrel
    have X:=Kh5 l (8*j) (8-t)
    cases t with
    |succ q=>
     have O:((q+1:Nat):Int)-1=(q:Int):=by omega
     have L:8-(q+1)=7-q:=by omega
     have bj:2 ^ (7-q)≤128:=by
      have:2 ^ (7-q)≤2 ^ 7:=Nat.pow_le_pow_right (by decide) (by omega)
      omega
     have A:hi l (8*j) (8-q)=2*hi l (8*j) (7-q)+(if l.getD (8*j+q) false then 1 else 0):=by
      have R:8-q=(7-q)+1:=by omega
      have U:7-(7-q)=q:=by omega
      rw[R,hi,U]
     rw[L]at X
     rw[O,L]
     generalize hi l (8*j) (7-q)=N at *
     by_cases M:8*j+q<l.length
     ·obtain⟨b1,o1,rfl,bc,K⟩:=(ba.below J).at (i:=8*j+q) (by simpa using M)
      rw[Od9]at K
      have H:l.getD (8*j+q) false=l[8*j+q]:=by simp[M]
      cases hbit:l[8*j+q]
      ·rw[hbit]at K H
       rw[H]at A
       have I:Hid _:=A
       clear A H hbit
       go_wp2
       go_round
       case rel=>exact⟨q,by omega,by go_num,by rw[I.out];go_num⟩
       case measure=>simp[intOf];omega
      rw[hbit]at K H
      rw[H]at A
      have I:Hid _:=A
      clear A H hbit
      go_wp2
      go_round
      case rel=>exact⟨q,by omega,by go_num,by rw[I.out];go_num⟩
      case measure=>simp[intOf];omega
     have H:l.getD (8*j+q) false=false:=by rw[Oa0,Ob4 (by omega)];rfl
     rw[H]at A
     have I:Hid _:=A
     clear A H
     go_wp2
     go_round
     case rel=>exact⟨q,by omega,by go_num,by rw[I.out];go_num⟩
     case measure=>simp[intOf];omega
    |zero=>
     have A:(List.range (j+1)).map (fun j=>UInt8.ofNat (Jag l j))=(List.range j).map (fun j=>UInt8.ofNat (Jag l j))++[low (hi l (8*j) 8:Nat)]:=by
      rw[Oj7,Ob8]
      have:=Ji4 l j
      unfold Jag at this
      have e:(((hi l (8*j) 8:Nat):Int) % 256).toNat=hi l (8*j) 8:=by omega
      simp only[Oe4,Oi4,low,e]
      rfl
     have I:Hid _:=A
     clear A
     have bk:(Qw ((List.range j).map (fun j=>UInt8.ofNat (Jag l j)))).size≤100000:=by rw[Jb2];simp;omega
     have bl:=Ksv
     generalize (List.range j).map (fun j=>UInt8.ofNat (Jag l j))=bb at *
     simp only[Nat.sub_zero]at *
     generalize hi l (8*j) 8=N at *
     go_wp2_with (go_at_call 97;refine(Kr3 _ _).mono ?_;rintro e w' ⟨rfl,Y⟩)
     go_roundw
     case rel=>exact⟨j+1,by omega,by go_num,by rw[I.out,←Kr1],Jb J Y⟩
     case measure=>simp[intOf];omega
  have Z:j=(l.length+7) / 8:=by omega
  subst Z
  go_wp2
  go_ret
  exact⟨rfl,J⟩
theorem Kwn (n:Int)(s:ByteArray)(w:World) :
  Calls Tryz.prog 133 #[.agg #[.int .i64 1,.int .i64 n,.string s]] w fun e w'=>e=.returned (.string (Qw (le8 (u64 n))))∧Below w.heap.size w w':=by
 go_enter Tryz.func133,Tryz.ntmps133
 go_wp2_with (go_at_call 164;refine(Kv2 _ _).mono ?_;rintro e w' ⟨rfl,A⟩)
 go_ret
 exact⟨rfl,Qx A⟩
theorem Kvq (n:Int)(s:ByteArray)(w:World) :
  Calls Tryz.prog 133 #[.agg #[.int .i64 2,.int .i64 n,.string s]] w fun e w'=>e=.returned (.string (Qw [low n]))∧Below w.heap.size w w':=by
 go_enter Tryz.func133,Tryz.ntmps133
 go_wp2_with (go_at_call 97;refine(Kr3 _ _).mono ?_;rintro e w' ⟨rfl,A⟩)
 go_ret
 exact⟨rfl,Qx A⟩
theorem Kvt (n:Int)(s:ByteArray)(w:World)(hs:s.size≤40) :
  Calls Tryz.prog 133 #[.agg #[.int .i64 3,.int .i64 n,.string s]] w fun e w'=>e=.returned (.string (Qw (low s.size::s.toList)))∧Below w.heap.size w w':=by
 go_enter Tryz.func133,Tryz.ntmps133
 have J:=Ksv
 go_wp2
 go_region_with (first|(go_at_call 97;refine(Kr3 _ _).mono ?_;rintro e w' ⟨rfl,A⟩;obtain⟨H,I⟩:=Kx A))
 all_goals go_wp2
 all_goals
  go_ret
  refine⟨?_,Qx (Jw A)⟩
  rw[Qay];rfl
end
section
open Go.RowKit
def Qe (v:V):List V→Nat
 |[]=>0
 |u::l=>if u.beq v then Qe v l+1 else 0
theorem Jjn (v:V)(l:List V):Qe v l≤l.length:=by
 induction l with
 |nil=>simp[Qe]
 |cons u l A=>unfold Qe;split<;>simp;omega
theorem Jog (v:V)(l:List V):∀ (k:Nat) (_:k≤l.length),(∀ j (H:j<k),l[j]'(by omega)=v)→(∀ h:k<l.length,l[k]≠v)→Qe v l=k:=by
 induction l with
 |nil=>intro k hk _ _;simp at hk;simp[Qe,hk]
 |cons u l I=>
  intro k hk hs A
  cases k with
  |zero=>have:=A (by simp);simp at this;simp[Qe,(V.beq_false u v).2 this]
  |succ k=>
   have h0:=hs 0 (by omega)
   simp at h0
   simp only[Qe,(V.beq_iff u v).2 h0,if_true]
   rw[I k (by simpa using hk) (fun j H=>by have:=hs (j+1) (by omega);simpa using this) (fun h=>by have:=A (by simpa using h);simpa using this)]
theorem Jnq (a:Option Addr)(cap:Nat)(v:V)(l:List V)(w:World)(bi:(v::l).length≤64)(R:Jv w a (v::l)) :
  Calls Tryz.prog 220 #[.slice a (v::l).length cap] w fun e w'=>e=.returned (.int .i64 (Qe v (v::l)))∧Below w.heap.size w w':=by
 generalize L:v::l=xs at *
 have h0:0<xs.length:=by rw[←L];simp
 have O:xs[0]=v:=by subst L;rfl
 have J:Hid (xs[0]=v):=O
 clear O L
 obtain⟨b1,o1,rfl,bb,X,Y,Z⟩:=R.at h0
 rw[Oo9,Nat.add_zero]at X Y Z
 go_enter Tryz.func220,Tryz.ntmps220
 go_wp2
 go_loopw [3] (fun i wr=>∃ k:Nat,1≤k∧k≤xs.length∧i=.int .i64 k∧(∃ m,wr=w.drewN m)∧Hid (∀ j (A:j<xs.length),j<k→xs[j]=v)) (fun i _=>xs.length-(intOf i).toNat)
 case atStart=>
  refine⟨1,by omega,by omega,rfl,⟨0,rfl⟩,fun j A ba=>?_⟩
  have:j=0:=by omega
  subst this;exact J.out
 case round=>
  obtain⟨k,bh,hk,rfl,⟨m,rfl⟩,K⟩:=hrel
  by_cases N:k<xs.length
  ·obtain⟨b2,o2,M,_,bj,bk,bl⟩:=R.at N
   simp at M
   obtain⟨rfl,rfl⟩:=M
   by_cases H:xs[k]=xs[0]
   ·have U:=Jhz _ _ H
    have I:Hid (xs[k]=xs[0]):=H
    clear H
    go_wp2
    go_quiet (fail)
    go_wp2
    go_roundw
    case rel=>
     refine⟨k+1,by omega,by omega,by go_num,⟨_,rfl⟩,fun j A bf=>?_⟩
     by_cases e:j=k
     ·subst e;exact I.out.trans J.out
     exact K.out j A (by omega)
    case measure=>simp[intOf];omega
   have U:=Jh8 _ _ H
   have I:Hid (¬ xs[k]=xs[0]):=H
   clear H
   go_wp2
   go_quiet (fail)
   go_wp2
   go_ret
   refine⟨Yp ?_,Jp (Jp (Oa5 _ _) _) _⟩
   rw[Jog v xs k (by omega) (fun j A=>K.out j (by omega) A) (fun _ h=>I.out (h.trans J.out.symm))]
  have bc:decide ((k:Int)<(xs.length:Int))=false:=by simp;omega
  go_wp2
  go_quiet (fail)
  go_wp2
  go_ret
  refine⟨Yp ?_,Jp (Jp (Oa5 _ _) _) _⟩
  rw[Jog v xs k (by omega) (fun j A=>K.out j (by omega) A) (fun h=>absurd h N)]
def Jn:Int→List V→Int
 |m,[]=>m
 |m,v::l=>Jn (if v.n<m then v.n else m) l
theorem Jli (l:List V)(v:V):∀ m,Jn m (l++[v])=if v.n<Jn m l then v.n else Jn m l:=by
 induction l with
 |nil=>intro m;rfl
 |cons u l A=>intro m;simp only[List.cons_append,Jn];exact A _
theorem Jkt (a:Option Addr)(cap:Nat)(v:V)(l:List V)(w:World)(Z:(v::l).length≤64)(N:Jv w a (v::l)) :
  Calls Tryz.prog 222 #[.slice a (v::l).length cap] w fun e w'=>e=.returned (.int .i64 (Jn v.n (v::l)))∧Below w.heap.size w w':=by
 generalize J:v::l=xs at *
 have h0:0<xs.length:=by rw[←J];simp
 have M:xs[0].n=v.n:=by subst J;rfl
 obtain⟨b1,o1,rfl,Y,O,R,U⟩:=N.at h0
 rw[Oo9,Nat.add_zero]at O R U
 rw[M]at R
 clear M J O U
 generalize v.n=A at *
 go_enter Tryz.func222,Tryz.ntmps222
 go_wp2
 go_loopw [3,12] (fun q i wr=>∃ k:Nat,k≤xs.length∧i=.int .i64 k∧q=.int .i64 (Jn A (xs.take k))∧Below w.heap.size w wr) (fun _ i _=>xs.length-(intOf i).toNat)
 case atStart=>exact⟨0,by omega,rfl,rfl,Oa5 _ _⟩
 case round=>
  obtain⟨k,hk,rfl,rfl,H⟩:=hrel
  by_cases L:k<xs.length
  ·obtain⟨b2,o2,K,_,ba,bb,bc⟩:=(N.below H).at L
   simp at K
   obtain⟨rfl,rfl⟩:=K
   have I:=Jli (xs.take k) xs[k] A
   rw[←Jec xs k L]at I
   have X:Hid _:=I
   clear I
   generalize Jn A (xs.take k)=q at *
   go_wp2
   go_roundw
   case rel=>exact⟨k+1,by omega,by go_num,by rw[X.out],Jc H _⟩
   case measure=>simp[intOf];omega
  go_wp2
  go_ret
  have e:xs.take k=xs:=Oc8 (by omega)
  rw[e]
  exact⟨rfl,H⟩
theorem Jhx {w:World}{b:Nat}{t:TypeId}{n:Nat}{f:Nat→Value}(h:w.rowIs b t n f){B:Nat}(H:B≤b)(L:n≤maxLen)(xs:List Value)(K:xs.length=n)(M:∀ i (hi:i<xs.length),xs[i]=f i) :
  Jo w B t (.slice (some ⟨b,0,none⟩) n n) xs:=by
 obtain⟨c,I,hs,J⟩:=h
 refine⟨by omega,.inr ⟨b,n,c,by rw[K],H,I,by omega,L,by omega,?_⟩⟩
 apply Oh4
 ·simp;omega
 intro i N A
 rw[M i A]
 have:=J i (by omega)
 simp only[List.getElem_take,Array.getElem_toList]
 rw[Oe2]at this
 exact this.2
def uv (n:Nat):Value:=.int .u64 (n:Int)
def dif (n A:Int):Nat:=u64 (n-A)
def Uv (xs:List V)(A:Int):List Nat:=xs.map fun v=>dif v.n A
theorem Kdb (n q:Int):IntKind.u64.wrap (IntKind.u64.wrap n-IntKind.u64.wrap q)=(dif n q:Int):=by
 unfold dif u64
 simp only[Oh5]
 omega
theorem Jff (a:Option Addr)(cap:Nat)(xs:List V)(q:Int)(w:World)(Y:xs.length≤64)(R:Jv w a xs) :
  Calls Tryz.prog 221 #[.slice a xs.length cap,.int .i64 q] w fun e w'=>∃ sv,e=.returned sv∧Jo w' w.heap.size 300 sv ((Uv xs q).map uv)∧Below w.heap.size w w':=by
 have O:∀ W,(Instr.makeSlice 332 (.int .i64 (xs.length:Int)) (.int .i64 (xs.length:Int))).run Tryz.prog W=.ok (.slice (some ⟨W.heap.size,0,none⟩) xs.length xs.length) (W.alloc (.cells (madeCells #[.int .u64 0] xs.length) 300)):=
  fun W=>run_make_row' 332 300 (.int .u64 0) 8 (by kernel_rfl) Jiq rfl .i64 .i64 xs.length (by omega) (by omega) W
 go_enter Tryz.func221,Tryz.ntmps221
 go_wp2
 clear O
 go_loopw [13] (fun i wr=>∃ k:Nat,k≤xs.length∧i=.int .i64 k∧wr.rowIs w.heap.size 300 xs.length (fun j=>uv (if j<k then (Uv xs q)[j]?.getD 0 else 0))∧Below w.heap.size w wr) (fun i _=>xs.length-(intOf i).toNat)
 case atStart=>exact⟨0,by omega,rfl,Ol3 _ _ _ _,(Oa5 _ _).alloc (Oa2 _) _⟩
 case round=>
  obtain⟨k,hk,rfl,A,H⟩:=hrel
  by_cases I:k<xs.length
  ·obtain⟨b1,o1,rfl,U,Z,ba,bb⟩:=(R.below H).at I
   have c1:=A.cell I
   have c2:=A.frozen k
   have c3:=A.lt
   have J:=Kdb xs[k].n q
   have K:Hid _:=J
   clear J
   go_wp2
   go_roundw
   case rel=>
    refine⟨k+1,by omega,by go_num,((A.set k _).alloc _).congr fun j X=>?_,Jc (H.setCell (p:=⟨w.heap.size,k,none⟩) (Oa2 _) _) _⟩
    by_cases e:j=k
    ·subst e
     simp[Uv,I,K.out,uv]
    have L:(j<k+1)=(j<k):=by rw[eq_iff_iff];omega
    simp[e,L]
   case measure=>simp[intOf];omega
  go_wp2
  go_ret
  refine⟨_,rfl,Jhx A (Oa2 _) (by unfold maxLen;omega) _ (by simp[Uv]) ?_,H⟩
  intro i hi
  have M:i<xs.length:=by simpa [Uv] using hi
  have N:i<k:=by omega
  simp[N,Uv,M]
def Yz:Nat→List Nat→Nat
 |m,[]=>m
 |m,n::l=>Yz (if m<n then n else m) l
theorem Jv8 (l:List Nat)(n:Nat):∀ m,Yz m (l++[n])=if Yz m l<n then n else Yz m l:=by
 induction l with
 |nil=>intro m;rfl
 |cons u l A=>intro m;simp only[List.cons_append,Yz];exact A _
theorem Jk2 (b:Nat)(l:List Nat):∀ m,m<b→(∀ n∈l,n<b)→Yz m l<b:=by
 induction l with
 |nil=>intro m A _;exact A
 |cons u l I=>
  intro m A h
  simp only[Yz]
  refine I _ ?_ fun n H=>h n (Og1 _ H)
  have:=h u (Of4)
  split<;>omega
theorem Kf3 (a:Option Addr)(cap:Nat)(d:Nat)(l:List Nat)(w:World)(N:(d::l).length≤64)(I:Uh w a ((d::l).map uv)) :
  Calls Tryz.prog 224 #[.slice a (d::l).length cap] w fun e w'=>e=.returned (uv (Yz d l))∧Below w.heap.size w w':=by
 have A:(d::l).length=l.length+1:=by simp
 obtain⟨b1,o1,rfl,R,O⟩:=I.at (i:=0) (by simp)
 have L:∀ k (hk:k<l.length),w.cell? ⟨b1,o1+(k+1),none⟩=some (.int .u64 (l[k]:Nat)):=by
  intro k hk
  obtain⟨b2,o2,J,_,y⟩:=I.at (i:=k+1) (by simpa using hk)
  simp at J
  obtain⟨rfl,rfl⟩:=J
  simpa [uv] using y
 rw[A]
 rw[A]at N
 simp[uv]at O
 clear I A
 go_enter Tryz.func224,Tryz.ntmps224
 go_wp2
 go_loopw [3,4] (fun q i wr=>∃ k:Nat,k≤l.length∧i=.int .i64 ((k+1:Nat):Int)∧q=.int .u64 (Yz d (l.take k):Nat)∧(∃ m,wr=w.drewN m)) (fun _ i _=>l.length+1-(intOf i).toNat)
 case atStart=>exact⟨0,by omega,rfl,rfl,⟨0,rfl⟩⟩
 case round=>
  obtain⟨k,hk,rfl,rfl,⟨m,rfl⟩⟩:=hrel
  by_cases K:k<l.length
  ·have y:=L k K
   have H:=Jv8 (l.take k) l[k] d
   rw[←Oc4 K]at H
   have M:Hid _:=H
   clear H L
   generalize Yz d (l.take k)=q at *
   go_wp2
   go_roundw
   case rel=>exact⟨k+1,by omega,by go_num,by rw[M.out];split<;>rfl,⟨m,rfl⟩⟩
   case measure=>simp[intOf];omega
  go_wp2
  go_ret
  have e:l.take k=l:=Oc8 (by omega)
  rw[e]
  exact⟨rfl,Jp (Oa5 _ _) _⟩
end
end Go.Proofs.YtcaocabmioafcaaGreatDoor
