/- Plain facts on values of three fields (V), on the cells in which they lie, and on worlds of which the elder part stands. Nothing is said of the program but the layout of its types. -/
import Derived.Test.YtpchafocmlhmbaaGreatDoorProg
import Derived.WalkSpells
import Derived.WalkLawsBesides
import Derived.BigQuiet
import Derived.Deep.Light
import Derived.Deep.OwnRows
import Derived.Deep.RegionHeld
set_option maxHeartbeats 400000
namespace Go.Proofs.YtpchafocmlhmbaaGreatDoor
section
open Go.RowKit
abbrev Oa0:=@List.getD_eq_getElem?_getD
abbrev Oa1:=@List.setIfInBounds_toArray
abbrev Oa2:=@Nat.le_refl
abbrev Oa3:=@List.getElem?_eq_getElem
abbrev Oa4:=@Go.RowKit.Below.heap_setCell
abbrev Oa5:=@Go.RowKit.Below.refl
abbrev Oa6:=@List.length_map
abbrev Oa7:=@Go.World.size_alloc
abbrev Oa8:=@List.length_append
abbrev Oa9:=@Go.RowKit.Below.heap_alloc
abbrev Ob0:=@List.getElem?_append_left
abbrev Ob1:=@List.getElem?_map
abbrev Ob2:=@Nat.le_trans
abbrev Ob3:=@List.getElem_mem
abbrev Ob4:=@List.getElem?_eq_none
abbrev Ob5:=@Go.World.cell?_setCell_other
abbrev Ob6:=@List.getElem?_append_right
abbrev Ob7:=@Nat.zero_le
abbrev Ob8:=@List.map_append
abbrev Ob9:=@List.getElem?_eq_some_iff
abbrev Oc0:=@Go.Oper.semAt_some
abbrev Oc1:=@Nat.lt_or_ge
abbrev Oc2:=@Nat.lt_of_lt_of_le
abbrev Oc3:=@Go.World.cell?_of_block
abbrev Oc4:=@List.take_succ_eq_append_getElem
abbrev Oc5:=@Ne.symm
abbrev Oc6:=@List.mem_singleton
abbrev Oc7:=@List.length_take
abbrev Oc8:=@List.take_of_length_le
abbrev Oc9:=@Option.some.injEq
abbrev Od0:=@Nat.zero_add
abbrev Od1:=@List.getElem?_set_ne
abbrev Od2:=@List.mem_append
abbrev Od3:=@List.length_eq_zero_iff
abbrev Od4:=@Go.IntKind.wrap_i64
abbrev Od5:=@List.getElem_of_mem
abbrev Od6:=@List.length_replicate
abbrev Od7:=@List.append_nil
abbrev Od8:=@List.append_assoc
abbrev Od9:=@List.getElem_map
abbrev Oe0:=@Nat.not_lt_zero
abbrev Oe1:=@Nat.sub_self
abbrev Oe2:=@Array.getElem?_eq_some_iff
abbrev Oe3:=@Nat.lt_irrefl
abbrev Oe4:=@List.map_cons
abbrev Oe5:=@Go.World.cell?_alloc_lt
abbrev Oe6:=@Array.getElem?_toList
abbrev Oe7:=@List.getElem?_take
abbrev Oe8:=@List.flatMap_append
abbrev Oe9:=@Option.map_eq_some_iff
abbrev Of0:=@List.mem_map
abbrev Of1:=@List.mem_cons
abbrev Of2:=@List.take_length
abbrev Of3:=@List.getElem?_replicate
abbrev Of4:=@List.mem_cons_self
abbrev Of5:=@Nat.succ_mul
abbrev Of6:=@List.mem_of_getElem?
abbrev Of7:=@List.length_drop
abbrev Of8:=@List.length_set
abbrev Of9:=@Go.World.var?_cell
abbrev Og0:=@List.nodup_cons
abbrev Og1:=@List.mem_cons_of_mem
abbrev Og2:=@Bool.and_eq_true_iff
abbrev Og3:=@Go.DataW.trod_int
abbrev Og4:=@Go.ByteArray.toList_eq
abbrev Og5:=@Bool.and_eq_true
abbrev Og7:=@List.flatMap_cons
abbrev Og9:=@Array.getElem?_eq_none
abbrev Oh0:=@List.getElem?_set_self
abbrev Oh1:=@Go.MapKept.heap_alloc
abbrev Oh2:=@Go.Addr.mk.injEq
abbrev Oh3:=@List.getElem?_take_of_lt
abbrev Oh4:=@List.ext_getElem
abbrev Oh5:=@Go.IntKind.wrap_u64
abbrev Oh6:=@List.getElem?_range
abbrev Oh7:=@List.mem_of_mem_drop
abbrev Oh8:=@List.getElem?_mapIdx
abbrev Oh9:=@List.getElem?_drop
abbrev Oi0:=@List.not_mem_nil
abbrev Oi1:=@List.drop_eq_getElem_cons
abbrev Oi2:=@List.getElem_append_left
abbrev Oi3:=@Array.getElem?_modify
abbrev Oi4:=@List.map_nil
abbrev Oi6:=@List.map_map
abbrev Oi7:=@List.take_add_one
abbrev Oi8:=@List.ext_getElem?
abbrev Oi9:=@List.length_pos_iff
abbrev Oj0:=@Go.World.cell?_setCell_same'
abbrev Oj1:=@Nat.min_eq_left
abbrev Oj2:=@Nat.eq_zero_or_pos
abbrev Oj3:=@Prod.mk.injEq
abbrev Oj4:=@List.mem_range
abbrev Oj5:=@Array.getD_eq_getD_getElem?
abbrev Oj6:=@Option.some.inj
abbrev Oj7:=@List.range_succ
abbrev Oj8:=@List.length_zipWith
abbrev Oj9:=@List.map_congr_left
abbrev Ok0:=@Array.toList_setIfInBounds
abbrev Ok1:=@List.length_filter_le
abbrev Ok2:=@List.mem_iff_getElem?
abbrev Ok3:=@List.take_append_drop
abbrev Ok4:=@List.set_append_right
abbrev Ok5:=@List.getElem?_zipWith
abbrev Ok6:=@BitVec.toNat_ofInt
abbrev Ok7:=@List.getLastD_eq_getLast?
abbrev Ok8:=@List.getElem_append_right
abbrev Ok9:=@Array.replicate_succ
abbrev Ol0:=@Nat.mod_lt
abbrev Ol1:=@List.foldl_append
abbrev Ol2:=@List.append_toArray
abbrev Ol3:=@Go.World.rowIs_made
abbrev Ol4:=@Nat.min_eq_right
abbrev Ol5:=@Nat.mul_le_mul
abbrev Ol6:=@List.flatMap_singleton
abbrev Ol7:=@Go.World.frozen?_of_block
abbrev Ol8:=@List.drop_of_length_le
abbrev Ol9:=@Bool.false_eq_true
abbrev Om0:=@List.mem_filter
abbrev Om2:=@Int.tmod_eq_emod_of_nonneg
abbrev Om3:=@List.size_toArray
abbrev Om4:=@List.push_toArray
abbrev Om5:=@ByteArray.ext_iff
abbrev Om6:=@List.getLast?_eq_getElem?
abbrev Om7:=@List.getElem?_append
abbrev Om8:=@Nat.mul_le_mul_right
abbrev Om9:=@List.mem_of_mem_take
abbrev On0:=@List.set_eq_take_append_cons_drop
abbrev On1:=@Nat.testBit_eq_decide_div_mod_eq
abbrev On2:=@Nat.lt_succ_self
abbrev On3:=@List.countP_cons
abbrev On4:=@Nat.le_mul_of_pos_right
abbrev On5:=@Nat.add_assoc
abbrev On7:=@Bool.eq_iff_iff
abbrev On8:=@Go.Value.slice.injEq
abbrev On9:=@Go.World.frozen?_setCell
abbrev Oo0:=@Nat.le_of_eq
abbrev Oo1:=@Bool.not_eq_true
abbrev Oo2:=@Nat.shiftLeft_eq
abbrev Oo3:=@Go.World.cell?_spot
abbrev Oo4:=@Array.getElem?_setIfInBounds_self_of_lt
abbrev Oo5:=@List.zipWith_append
abbrev Oo6:=@Nat.div_le_self
abbrev Oo7:=@List.getElem_range
abbrev Op0:=@List.map_set
abbrev Op1:=@List.length_range
abbrev Op2:=@List.getElem?_set
abbrev Op3:=@List.nodup_append
abbrev Op5:=@List.mem_flatMap
abbrev Op7:=@Go.Addr.add_lit
theorem tk {P:Program}{H:Region.Mode}{y:Array Oper}{Q:Exit→Act→World→Prop}{S:World→Prop}{D:Oper}{fuel:Nat}{E:Array Bool}{a:Act}{w:World}(i:Nat)(v:Value)(hi:y[i]?=some D)(O:S w)
  (U:∀ w,S w→(execOp a.eval D).run P w=.ok (.value v) w) (h:wpAnyH P H y Q S fuel (E.setIfInBounds i true) (a.put D.dst v) w)
  (hr:(Region.ready H y E).contains i=true:=by kernel_rfl) (hf:Region.free H y E i=true:=by kernel_rfl) (hs:Region.noSelect y=true:=by kernel_rfl)
  (K:∀ c a w,Q (.panic c) (a.put D.dst v) w→Q (.panic c) a w:=by exact fun _ _ _ h=>h) (R:Region.wanted D (yielded y a.tmps)=true:=by rfl):wpAnyH P H y Q S (fuel+1) E a w:=
 wpAnyH_take hi hs hf hr K (.inl ⟨R,U⟩) O h
theorem tkj {P:Program}{H:Region.Mode}{y:Array Oper}{Q:Exit→Act→World→Prop}{S:World→Prop}{D:Oper}{fuel:Nat}{E:Array Bool}{a:Act}{w:World}{v:Value}(i:Nat)(hi:y[i]?=some D)(O:S w)
  (h:wpAnyH P H y Q S fuel (E.setIfInBounds i true) (a.put D.dst v) w)
  (hr:(Region.ready H y E).contains i=true:=by kernel_rfl) (hf:Region.free H y E i=true:=by kernel_rfl) (hs:Region.noSelect y=true:=by kernel_rfl)
  (X:∀ w,S w→(execOp a.eval D).run P w=.ok (.value v) w:=by intro w R;(try dsimp only at R);go_simp;try rfl)
  (K:∀ c a w,Q (.panic c) (a.put D.dst v) w→Q (.panic c) a w:=by exact fun _ _ _ h=>h) (U:Region.wanted D (yielded y a.tmps)=true:=by rfl):wpAnyH P H y Q S (fuel+1) E a w:=
 wpAnyH_take hi hs hf hr K (.inl ⟨U,X⟩) O h
theorem tkn {p q:Prop}(h:q)(e:p=q:=by conv=>lhs;simp only[Act.put,List.getElem_toArray,List.getElem_cons_zero,List.getElem_cons_succ,Oa1,List.set_cons_zero,List.set_cons_succ]):p:=e▸h
theorem tkr {P:Program}{H:Region.Mode}{y:Array Oper}{Q:Exit→Act→World→Prop}{S:World→Prop}{o:Oper}{fuel:Nat}{E:Array Bool}{a:Act}{w:World}(i:Nat)(K:y[i]?=some o)
  (h:∀ D:Act→World→Prop,Shut (∀ a w,S w→(S w→wpAnyH P H y Q S fuel (E.setIfInBounds i true) a w)→D a w)→if Region.wanted o (yielded y a.tmps)=true then Oper.wp P o a w D Q else D (a.put o.dst undef) w)
  (hr:Region.ready H y E=[i]:=by kernel_rfl):wpAnyH P H y Q S (fuel+1) E a w:=wpAnyH_ready hr (by simp) (AllReadyH.cons K h AllReadyH.nil)
structure V where
 k:Int
 n:Int
 s:ByteArray
theorem V.ext' {v u:V}(y:v.k=u.k)(D:v.n=u.n)(E:v.s=u.s):v=u:=by cases v;cases u;simp_all
def veq (k n:Int)(s:ByteArray)(y D:Int)(E:ByteArray):Bool:=k==y&&(n==D&&s==E)
def V.beq (v u:V):Bool:=veq v.k v.n v.s u.k u.n u.s
theorem Kaq (a b:ByteArray):(a==b)=true↔a=b:=by
 rw[beq_toListBytes,beq_iff_eq,Og4,Og4];constructor
 ·intro h;obtain⟨⟨x⟩⟩:=a;obtain⟨⟨y⟩⟩:=b;simp at h;rw[h]
 rintro rfl;rfl
theorem V.beq_iff (v u:V):v.beq u=true↔v=u:=by
 unfold V.beq veq;rw[Og5,Og5,beq_iff_eq,beq_iff_eq,Kaq];constructor
 ·intro h;exact V.ext' h.1 h.2.1 h.2.2
 rintro rfl;exact⟨rfl,rfl,rfl⟩
theorem V.beq_false (v u:V):v.beq u=false↔v≠u:=by
 rw[←Oo1,V.beq_iff]
def V.cells (v:V):List Value:=[.int .i64 v.k,.int .i64 v.n,.string v.s]
abbrev V.val (v:V):Value:=.agg #[.int .i64 v.k,.int .i64 v.n,.string v.s]
def VAt (w:World)(b o:Nat)(v:V):Prop:=
 w.cell? ⟨b,o,none⟩=some (.int .i64 v.k)∧w.cell? ⟨b,o+1,none⟩=some (.int .i64 v.n)∧w.cell? ⟨b,o+2,none⟩=some (.string v.s)
def Jv (w:World)(a:Option Addr)(vs:List V):Prop:=
 vs=[]∨∃ b o,a=some ⟨b,o,none⟩∧b<w.heap.size∧∀ i v,vs[i]?=some v→VAt w b (o+i*3) v
theorem VAt.of_block {w w':World}{b o:Nat}{v:V}(h:VAt w b o v)(e:w'.heap[b]?=w.heap[b]?):VAt w' b o v:=by
 obtain⟨y,D,E⟩:=h;exact⟨by rw[Oc3 (w:=w) e];exact y,by rw[Oc3 (w:=w) e];exact D,by rw[Oc3 (w:=w) e];exact E⟩
theorem Jm {w:World}{a:Addr}{v:Value}(h:w.cell? a=some v):a.block<w.heap.size:=by
 rcases Oc1 a.block w.heap.size with y|y
 ·exact y
 simp[World.cell?,Array.getElem?_eq_none y]at h
theorem Jv.of_block {w w':World}{a:Option Addr}{vs:List V}(h:Jv w a vs)(hs:w.heap.size≤w'.heap.size)
  (e:∀ b o,a=some ⟨b,o,none⟩→b<w.heap.size→w'.heap[b]?=w.heap[b]?):Jv w' a vs:=by
 rcases h with h|⟨b,o,y,D,h⟩
 ·exact .inl h
 exact .inr ⟨b,o,y,by omega,fun i v E=>(h i v E).of_block (e b o y D)⟩
theorem Jv.below {w w':World}{a:Option Addr}{vs:List V}(h:Jv w a vs)(y:Below w.heap.size w w'):Jv w' a vs:=
 h.of_block y.size fun b _ _ D=>y.block b D
theorem Jv.at {w:World}{a:Option Addr}{vs:List V}(h:Jv w a vs){i:Nat}(hi:i<vs.length) :
  ∃ b o,a=some ⟨b,o,none⟩∧b<w.heap.size∧VAt w b (o+i*3) vs[i]:=by
 rcases h with h|⟨b,o,y,D,h⟩
 ·subst h;simp at hi
 exact⟨b,o,y,D,h i vs[i] (by simp[hi])⟩
theorem Jp {B:Nat}{a w:World}(h:Below B a w)(n:Nat):Below B a (w.drewN n):=⟨h.os,h.tape,h.output,h.size,h.block⟩
theorem Kep (w:World)(o:Obj):w.heap.size≤(w.alloc o).heap.size:=by simp
theorem Qx {w w':World}{o:Obj}(h:Below (w.alloc o).heap.size (w.alloc o) w'):Below w.heap.size w w':=
 ((Oa5 _ _).alloc (Oa2 _) _).trans (h.mono (Kep _ _))
theorem Kx {w w':World}(h:Below w.heap.size w w'):(∀ b o,b<w.heap.size→w'.cell? ⟨b,o,none⟩=w.cell? ⟨b,o,none⟩)∧(∀ b o,b<w.heap.size→w'.frozen? ⟨b,o,none⟩=w.frozen? ⟨b,o,none⟩):=
 ⟨fun _ _ y=>h.cell (p:=⟨_,_,none⟩) y,fun _ _ y=>h.frozen (p:=⟨_,_,none⟩) y⟩
theorem Jb {w wr w':World}(h:Below w.heap.size w wr)(k:Below wr.heap.size wr w'):Below w.heap.size w w':=h.trans (k.mono h.size)
theorem Jc {w wr:World}(h:Below w.heap.size w wr)(o:Obj):Below w.heap.size w (wr.alloc o):=h.alloc h.size o
theorem Jw {B:Nat}{a w:World}(h:Below B a.drew w):Below B a w:=⟨h.os,h.tape,h.output,h.size,h.block⟩
theorem Um {B:Nat}{a w:World}{b:Nat}(h:Below B a w)(y:B≤b)(D E H K O:Value) :
  Below B a (((((w.setCell ⟨b,0,none⟩ D).setCell ⟨b,1,none⟩ E).setCell ⟨b,2,none⟩ H).setCell ⟨b,3,none⟩ K).setCell ⟨b,4,none⟩ O):=
 ((((h.setCell (p:=⟨b,0,none⟩) y D).setCell (p:=⟨b,1,none⟩) y E).setCell (p:=⟨b,2,none⟩) y H).setCell (p:=⟨b,3,none⟩) y K).setCell (p:=⟨b,4,none⟩) y O
theorem Qr {a b:Bool}(h:a=b):Ending.returned (.bool a)=.returned (.bool b):=by rw[h]
theorem Yp {k:IntKind}{a b:Int}(h:a=b):Ending.returned (.int k a)=.returned (.int k b):=by rw[h]
theorem Jow:(Tryz.prog.info? 39).map (fun i=>(i.zero,i.size,i.bytes))=some (some (.agg #[.int .i64 0,.int .i64 0,.string ⟨#[]⟩]),3,32):=by kernel_rfl
theorem Jfa:(Tryz.prog.info? 5).map (fun i=>(i.zero,i.size,i.bytes))=some (some (.int .u8 0),1,1):=by kernel_rfl
theorem Jiq:(Tryz.prog.info? 244).map (fun i=>(i.zero,i.size,i.bytes))=some (some (.int .u64 0),1,8):=by kernel_rfl
theorem Jpo {w:World}{X:Nat}{sv:Value}{n:Nat}{vs:List V}(h:w.ownsRow X 39 3 sv n (vs.flatMap V.cells)) :
  n=vs.length∧∃ a cap,sv=.slice a vs.length cap∧Jv w a vs:=by
 obtain⟨hl,h⟩:=h;have bh:(vs.flatMap V.cells).length=vs.length*3:=by
  clear hl h;induction vs with
  |nil=>rfl
  |cons v vs R=>simp[V.cells]at R ⊢;omega
 have hn:n=vs.length:=by omega
 subst hn;refine⟨rfl,?_⟩;rcases h with⟨O,h0⟩|⟨g,cap,bc,O,_,U,_,_,_,Z⟩
 ·have:vs=[]:=Od3.1 h0;subst this;exact⟨none,0,O,.inl rfl⟩
 refine⟨some ⟨g,0,none⟩,cap,O,.inr ⟨g,0,rfl,?_,?_⟩⟩
 ·rcases Oc1 g w.heap.size with y|y
  ·exact y
  simp[Array.getElem?_eq_none y]at U
 intro i v hi;have bf:i<vs.length:=by
  rcases Oc1 i vs.length with y|y
  ·exact y
  simp[List.getElem?_eq_none y]at hi
 have ba:∀ (D:List V) (i:Nat) (v:V),D[i]?=some v→(D.flatMap V.cells)[i*3]?=some (.int .i64 v.k)∧(D.flatMap V.cells)[i*3+1]?=some (.int .i64 v.n)∧(D.flatMap V.cells)[i*3+2]?=some (.string v.s):=by
  intro D;induction D with
  |nil=>intro i v h;simp at h
  |cons u D R=>
   intro i v h;cases i with
   |zero=>simp at h;subst h;simp[V.cells]
   |succ i=>
    have:=R i v (by simpa using h);have Y:(i+1)*3=i*3+3:=(by omega);simp only[Og7,V.cells,Y];simpa using this
 obtain⟨E,H,K⟩:=ba vs i v hi;rw[←Z]at E H K;rw[Oh3 (by omega)]at E H K;simp only[Oe6]at E H K;unfold VAt;simp only[World.cell?,U,Od0];simp[E,H,K]
theorem Kfm : (Tryz.prog.fieldsOf 39).toList.map (fun f => (f.name, f.type, f.offset)) = [("Kind", 3, 0), ("N", 2, 1), ("S", 9, 2)] := by kernel_rfl
theorem Kg8:Tryz.prog.underlying 39=some (.struct (Tryz.prog.fieldsOf 39)):=by kernel_rfl
theorem Kiq:Tryz.prog.stoodInHeld 39=false:=by kernel_rfl
theorem Jdy (w:World)(k n y D:Int)(s E:ByteArray) :
  (Op.equal 39 (.agg #[.int .i64 k,.int .i64 n,.string s]) (.agg #[.int .i64 y,.int .i64 D,.string E])).run Tryz.prog w=.ok (veq k n s y D E) w:=by
 rw[Op.equal,Op.maxDepth,run_equalIn_struct w 9999 39 _ _ Kg8 Kiq];have h:=Kfm;generalize (Tryz.prog.fieldsOf 39).toList=H at h;rcases H with _|⟨bj,_|⟨bn,_|⟨br,_|⟨bx,H⟩⟩⟩⟩
 ·simp at h
 ·simp at h
 ·simp at h
 ·simp at h;obtain⟨⟨U,X,Y⟩,⟨Z,ba,bc⟩,bf,bh,bi⟩:=h;simp[Op.eqFields,U,X,Y,Z,ba,bc,bf,bh,bi,part,sizeOf,go_sem];simp only[veq,beq_toListBytes];by_cases K:k=y<;>by_cases O:n=D<;>by_cases R:s.toList=E.toList<;>simp[K,O,R]
 simp at h
theorem Jcx (w:World)(k n y D:Int)(s E:ByteArray) :
  (binOp .eql 39 (.agg #[.int .i64 k,.int .i64 n,.string s]) (.agg #[.int .i64 y,.int .i64 D,.string E])).run Tryz.prog w=.ok (.bool (veq k n s y D E)) w:=by
 simp[binOp,Jdy]
theorem Jph (w:World)(k n y D:Int)(s E:ByteArray) :
  (binOp .neq 39 (.agg #[.int .i64 k,.int .i64 n,.string s]) (.agg #[.int .i64 y,.int .i64 D,.string E])).run Tryz.prog w=.ok (.bool (!veq k n s y D E)) w:=by
 simp[binOp,Jdy]
end
section
def Qw (l:List UInt8):ByteArray:=⟨l.toArray⟩
theorem Kfv {a b:List UInt8}(h:Qw a=Qw b):a=b:=by
 unfold Qw at h;have:=congrArg (fun x:ByteArray=>x.data.toList) h;simpa using this
theorem Zf (s:ByteArray):Qw s.toList=s:=by
 rw[Og4];rfl
theorem Jb2 (l:List UInt8):(Qw l).size=l.length:=by simp[Qw,ByteArray.size]
def hi (l:List Bool)(i:Nat):Nat→Nat
 |0=>0
 |m+1=>2*hi l i m+(if l.getD (i+(7-m)) false then 1 else 0)
theorem Kh5 (l:List Bool)(i:Nat):∀ m,hi l i m<2 ^ m:=by
 intro m;induction m with
 |zero=>simp[hi]
 |succ m y=>simp only[hi];rw[Nat.pow_succ];split<;>omega
theorem Jwg (l:List Bool)(i:Nat):∀ m,m≤8→∀ t,(hi l i m).testBit t=(decide (t<m)&&l.getD (i+(8-m)+t) false):=by
 intro m;induction m with
 |zero=>intro _ t;simp[hi]
 |succ m D=>
  intro E t;simp only[hi];cases t with
  |zero=>
   rw[Nat.testBit_zero];have e:i+(8-(m+1))+0=i+(7-m):=(by omega);rw[e];cases h:l.getD (i+(7-m)) false
   ·simp
   simp
  |succ t=>
   rw[Nat.testBit_succ];have e:(2*hi l i m+(if l.getD (i+(7-m)) false=true then 1 else 0)) / 2=hi l i m:=by split<;>omega
   rw[e,D (by omega) t];have y:i+(8-(m+1))+(t+1)=i+(8-m)+t:=(by omega);rw[y];simp
def Jag (l:List Bool)(j:Nat):Nat:=hi l (8*j) 8
theorem Ji4 (l:List Bool)(j:Nat):Jag l j<256:=Kh5 l (8*j) 8
theorem Yx (l:List Bool)(j t:Nat):(Jag l j).testBit t=(decide (t<8)&&l.getD (8*j+t) false):=by
 unfold Jag;rw[Jwg l (8*j) 8 (Oa2 _) t];simp
theorem Jvq (j:Nat):Jag [] j=0:=by
 apply Nat.eq_of_testBit_eq;intro t;rw[Yx];simp
theorem Jss (l:List Bool)(n j:Nat)(hn:n<l.length) :
  Jag (l.take (n+1)) j=if j=n / 8 then Jag (l.take n) j ||| ((if l[n]then 1 else 0) <<< (n % 8))else Jag (l.take n) j:=by
 have D:∀ m x,(l.take m).getD x false=(decide (x<m)&&l.getD x false):=by
  intro m x;simp only[Oa0,Oe7];by_cases h:x<m<;>simp[h]
 have U:l.getD n false=l[n]:=by simp[hn]
 apply Nat.eq_of_testBit_eq;intro t;by_cases O:j=n / 8
 ·subst O;rw[if_pos rfl,Nat.testBit_or,Yx,Yx,D,D,Nat.testBit_shiftLeft];by_cases E:t<8
  ·by_cases Z:8*(n / 8)+t=n
   ·have ba:t=n % 8:=(by omega);have y:n % 8≤t:=(by omega);have X:t-n % 8=0:=(by omega);rw[Z,U,X];cases l[n]<;>simp[y]<;>omega
   by_cases R:8*(n / 8)+t<n
   ·have y:¬ n % 8≤t:=(by omega);simp[E,R,y];intro;omega
   have y:¬ (t-n % 8=0):=(by omega);have H:((if l[n]=true then 1 else 0:Nat)).testBit (t-n % 8)=false:=by
    cases l[n]
    ·simp
    obtain⟨q,K⟩:=Nat.exists_eq_succ_of_ne_zero y;rw[K];simp[Nat.testBit_succ]
   rw[H];have Y:¬ (8*(n / 8)+t<n+1):=(by omega);simp[R,Y]
  have y:¬ (t-n % 8=0):=by omega
  have H:((if l[n]=true then 1 else 0:Nat)).testBit (t-n % 8)=false:=by
   cases l[n]
   ·simp
   obtain⟨q,K⟩:=Nat.exists_eq_succ_of_ne_zero y;rw[K];simp[Nat.testBit_succ]
  rw[H];simp[E]
 rw[if_neg O,Yx,Yx,D,D];by_cases E:t<8
 ·have:decide (8*j+t<n+1)=decide (8*j+t<n):=by
   rw[decide_eq_decide];omega
  rw[this]
 simp[E]
def Kk (l:List Bool):List UInt8:=(List.range ((l.length+7) / 8)).map fun j=>UInt8.ofNat (Jag l j)
theorem Qb (l:List Bool):(Kk l).length=(l.length+7) / 8:=by simp[Kk]
def low (n:Int):UInt8:=UInt8.ofNat (n % 256).toNat
def le8 (u:Nat):List UInt8:=(List.range 8).map fun i=>UInt8.ofNat (u / 256 ^ i % 256)
theorem Jc4 (u:Nat):(le8 u).length=8:=by simp[le8]
def u64 (n:Int):Nat:=(n % 18446744073709551616).toNat
theorem Jp3 (n:Int):u64 n<18446744073709551616:=by unfold u64;omega
def Ue (y:Nat)(ns:List Nat):List Bool:=ns.flatMap fun n=>(List.range y).map fun b=>n.testBit b
theorem Jal (y:Nat)(ns:List Nat):(Ue y ns).length=y*ns.length:=by
 induction ns with
 |nil=>simp[Ue]
 |cons n ns D=>
  unfold Ue at *;rw[Og7,Oa8,D];simp[Nat.mul_add];omega
theorem Jms (y:Nat):∀ (ns:List Nat) (i b:Nat) (hi:i<ns.length),b<y→(Ue y ns)[y*i+b]?=some (ns[i].testBit b):=by
 intro ns;induction ns with
 |nil=>intro i b hi;simp at hi
 |cons n ns E=>
  intro i b hi D;have e:Ue y (n::ns)=((List.range y).map fun b=>n.testBit b)++Ue y ns:=by simp[Ue]
  rw[e];cases i with
  |zero=>
   simp only[Nat.mul_zero,Od0];rw[Ob0 (by simpa using D)];simp[D]
  |succ i=>
   rw[Ob6 (by simp[Nat.mul_add];omega)];have:y*(i+1)+b-((List.range y).map fun b=>n.testBit b).length=y*i+b:=by simp[Nat.mul_add];omega
   rw[this];simpa using E i b (by simpa using hi) D
end
section
open Go.RowKit
attribute [local go_sem] Jdy
def way (D y:Int):Bool:=decide (1≤D∧D≤3∧0≤y∧y≤3∧¬ (D=3∧y=3))
def okK (k n:Int)(s:ByteArray):Bool:=
 decide ((k=1∧s.toList.isEmpty=true)∨(k=2∧(n=0∨n=1)∧s.toList.isEmpty=true)∨(k=3∧n=0∧s.size≤40))
def okB (y k n:Int)(s:ByteArray):Bool:=decide ((k=0∧n=0∧s.toList.isEmpty=true)∨(k=y∧okK k n s=true))
theorem Jlh (t:Int)(w:World) :
  Calls Tryz.prog 85 #[.int .i64 t] w fun e w'=>e=.returned (.bool (decide (1≤t∧t≤3)))∧w'=w:=by
 go_enter Tryz.func85,Tryz.ntmps85
 go_wp2;all_goals
  go_ret
  exact⟨Qr (by rw[On7];simp at *;omega),rfl⟩
theorem Ja3 (t h:Int)(w:World) :
  Calls Tryz.prog 59 #[.int .i64 t,.int .i64 h] w fun e w'=>e=.returned (.bool (way t h))∧w'=w:=by
 unfold way;go_enter Tryz.func59,Tryz.ntmps59
 go_wp2_with (go_at_call 85;refine(Jlh _ _).mono ?_;rintro e w' ⟨rfl,rfl⟩)
 all_goals
  go_ret
  exact⟨Qr (by rw[On7];simp at *;omega),rfl⟩
theorem Jif (n:Int)(w:World)(h0:0≤n)(y:n≤100000) :
  Calls Tryz.prog 162 #[.int .i64 n] w fun e w'=>e=.returned (.int .i64 ((n+7) / 8))∧w'=w:=by
 go_enter Tryz.func162,Tryz.ntmps162
 go_wp2;go_ret
 exact⟨rfl,rfl⟩
theorem Jq8 (k n:Int)(s:ByteArray)(w:World) :
  Calls Tryz.prog 117 #[.agg #[.int .i64 k,.int .i64 n,.string s]] w fun e w'=>e=.returned (.bool (okK k n s))∧Below w.heap.size w w':=by
 go_enter Tryz.func117,Tryz.ntmps117
 go_wp2;all_goals
  go_ret
  refine⟨Qr ?_,(Oa5 _ _).alloc (Oa2 _) _⟩;go_light
  unfold okK;generalize s.toList.isEmpty=e at *;generalize s.size=m at *;rw[On7];cases e<;>(try simp at *)<;>(try omega)
theorem Jmd (k n:Int)(s:ByteArray)(t:Int)(w:World) :
  Calls Tryz.prog 86 #[.agg #[.int .i64 k,.int .i64 n,.string s],.int .i64 t] w fun e w'=>e=.returned (.bool (okB t k n s))∧Below w.heap.size w w':=by
 by_cases h0:k=0
 ·go_enter Tryz.func86,Tryz.ntmps86
  go_wp2;all_goals
   go_ret
   refine⟨Qr ?_,(Oa5 _ _).alloc (Oa2 _) _⟩;go_light
   unfold okB okK;generalize s.size=m at *;rw[On7];cases hs:s.toList<;>(try simp[hs]at *)<;>(try omega)
 by_cases y:k=t
 ·subst y;go_enter Tryz.func86,Tryz.ntmps86
  go_wp2_with (go_at_call 117;refine(Jq8 _ _ _ _).mono ?_;rintro e w' ⟨rfl,D⟩)
  all_goals
   go_ret
   refine⟨Qr ?_,Qx D⟩;go_light
   unfold okB;cases okK k n s<;>(try simp at *)<;>(try omega)
 have E:(k==t)=false:=by simp[y]
 go_enter Tryz.func86,Tryz.ntmps86
 go_wp2;all_goals
  go_ret
  refine⟨Qr ?_,(Oa5 _ _).alloc (Oa2 _) _⟩;go_light
  unfold okB okK;generalize s.toList.isEmpty=e at *;generalize s.size=m at *;rw[On7];cases e<;>(try simp at *)<;>(try omega)
abbrev Jb6 (c:Int):Value:=.agg #[.int .i64 c,.int .i64 (-1),.int .i64 (-1),.int .i64 (-1),.int .i64 (-1)]
end
section
open Go.RowKit
def Qc:List V→V→Nat
 |[],_=>0
 |u::l,v=>if u.beq v then 0 else Qc l v+1
theorem Kd8 (l:List V)(v:V):∀ (k:Nat) (D:k<l.length),(∀ j (E:j<k),l[j]'(by omega)≠v)→l[k]=v→Qc l v=k:=by
 induction l with
 |nil=>intro k D;simp at D
 |cons u l H=>
  intro k D hn y;cases k with
  |zero=>simp at y;simp[Qc,(V.beq_iff u v).2 y]
  |succ k=>
   have h0:=hn 0 (by omega);simp at h0;simp only[Qc,(V.beq_false u v).2 h0,Ol9,if_false];simp at y;rw[H k (by simpa using D) (fun j E=>by have:=hn (j+1) (by omega);simpa using this) y]
theorem Jxs (l:List V)(v:V)(h:∀ j (y:j<l.length),l[j]≠v):Qc l v=l.length:=by
 induction l with
 |nil=>rfl
 |cons u l D=>
  have h0:=h 0 (by simp);simp at h0;simp only[Qc,(V.beq_false u v).2 h0,Ol9,if_false];rw[D fun j y=>by have:=h (j+1) (by simpa using y);simpa using this];rfl
theorem Jhz (v u:V)(h:v=u):∀ w,(binOp .eql 39 v.val u.val).run Tryz.prog w=.ok (.bool true) w:=fun w=>by
 rw[Jcx];exact congrArg (fun b=>Result.ok (Value.bool b) w) ((V.beq_iff v u).2 h)
theorem Jh8 (v u:V)(h:v≠u):∀ w,(binOp .eql 39 v.val u.val).run Tryz.prog w=.ok (.bool false) w:=fun w=>by
 rw[Jcx];exact congrArg (fun b=>Result.ok (Value.bool b) w) ((V.beq_false v u).2 h)
theorem Jql (v u:V)(h:v=u):∀ w,(binOp .neq 39 v.val u.val).run Tryz.prog w=.ok (.bool false) w:=fun w=>by
 rw[Jph];exact congrArg (fun b=>Result.ok (Value.bool (!b)) w) ((V.beq_iff v u).2 h)
theorem Jqe (v u:V)(h:v≠u):∀ w,(binOp .neq 39 v.val u.val).run Tryz.prog w=.ok (.bool true) w:=fun w=>by
 rw[Jph];exact congrArg (fun b=>Result.ok (Value.bool (!b)) w) ((V.beq_false v u).2 h)
theorem Ka6 (xs y:List V)(hl:xs.length=y.length)(h:∀ j (E:j<xs.length),xs[j]=y[j]'(hl▸E)):xs=y:=
 Oh4 hl fun i D _=>h i D
def idx (xs:List V)(v:V):Int:=if Qc xs v<xs.length then Qc xs v else -1
theorem Joy (a:Option Addr)(cap:Nat)(xs:List V)(v:V)(w:World)(hn:xs.length≤maxLen)(R:Jv w a xs) :
  Calls Tryz.prog 161 #[.slice a xs.length cap,v.val] w fun e w'=>e=.returned (.int .i64 (idx xs v))∧Below w.heap.size w w':=by
 unfold maxLen at hn;go_enter Tryz.func161,Tryz.ntmps161
 go_wp2;go_loopw [8] (fun i wr=>∃ k:Nat,k≤xs.length∧i=.int .i64 k∧(∃ m,wr=(w.alloc (.cells #[.int .i64 v.k,.int .i64 v.n,.string v.s] 39)).drewN m)∧Hid (∀ j (y:j<xs.length),j<k→xs[j]≠v)) (fun i _=>xs.length-(intOf i).toNat)
 case atStart=>exact⟨0,Ob7 _,rfl,⟨0,rfl⟩,fun j _ y=>absurd y (Oe0 _)⟩
 case round=>
  obtain⟨k,Y,rfl,⟨m,rfl⟩,H⟩:=hrel;by_cases K:k<xs.length
  ·obtain⟨b1,Z,rfl,U,ba,bc,bf⟩:=R.at K;by_cases D:v=xs[k]
   ·have O:=Jhz _ _ D;have E:Hid (v=xs[k]):=D;clear D;go_wp2;go_quiet (fail)
    go_wp2;go_ret
    refine⟨Yp ?_,?_⟩
    ·have hp:=Kd8 xs v k K (fun j y=>H.out j (by omega) y) E.out.symm;unfold idx;rw[hp,if_pos K]
    exact Jp (Jp ((Oa5 _ _).alloc (Oa2 _) _) _) _
   have O:=Jh8 _ _ D;have E:Hid (¬ v=xs[k]):=D;clear D;go_wp2;go_quiet (fail)
   go_wp2;go_roundw
   case rel=>
    refine⟨k+1,by omega,by go_num,⟨_,rfl⟩,fun j y X=>?_⟩;by_cases e:j=k
    ·subst e;exact fun h=>E.out h.symm
    exact H.out j y (by omega)
   case measure=>simp[intOf];omega
  go_wp2;go_ret
  refine⟨Yp ?_,Jp ((Oa5 _ _).alloc (Oa2 _) _) _⟩;unfold idx;rw[Jxs xs v fun j y=>H.out j y (by omega),if_neg (Oe3 _)]
theorem Zl (t:Int)(a:Option Addr)(cap:Nat)(xs:List V)(w:World)(hn:xs.length≤maxLen)(U:Jv w a xs)(b:Bool)(D:b=true↔xs.length≤64∧∀ j (y:j<xs.length),okB t xs[j].k xs[j].n xs[j].s=true) :
  Calls Tryz.prog 88 #[.int .i64 t,.slice a xs.length cap] w fun e w'=>e=.returned (.bool b)∧Below w.heap.size w w':=by
 unfold maxLen at hn;have E:=D;replace E:Hid _:=E;clear D;by_cases hl:xs.length≤64
 ·go_enter Tryz.func88,Tryz.ntmps88
  go_wp2;go_loopw [12] (fun i wr=>∃ k:Nat,k≤xs.length∧i=.int .i64 k∧Below w.heap.size w wr∧Hid (∀ j (y:j<xs.length),j<k→okB t xs[j].k xs[j].n xs[j].s=true)) (fun i _=>xs.length-(intOf i).toNat)
  case atStart=>exact⟨0,Ob7 _,rfl,Oa5 _ _,fun j _ y=>absurd y (Oe0 _)⟩
  case round=>
   obtain⟨k,Z,rfl,H,O⟩:=hrel;by_cases R:k<xs.length
   ·obtain⟨b1,ba,rfl,X,bc,bf,bh⟩:=(U.below H).at R;cases ho:okB t xs[k].k xs[k].n xs[k].s
    ·have K:Hid (okB t xs[k].k xs[k].n xs[k].s=false):=ho;go_wp2_with (go_at_call 86;refine(Jmd _ _ _ _ _).mono ?_;rintro e w' ⟨rfl,D⟩)
     go_ret
     refine⟨Qr ?_,Jb H (Qx D)⟩;cases b
     ·rfl
     have:=(E.out.1 rfl).2 k R;rw[K.out]at this;exact absurd this (by decide)
    have K:Hid (okB t xs[k].k xs[k].n xs[k].s=true):=ho;go_wp2_with (go_at_call 86;refine(Jmd _ _ _ _ _).mono ?_;rintro e w' ⟨rfl,D⟩)
    go_roundw
    case rel=>
     refine⟨k+1,by omega,by go_num,Jb H (Qx D),fun j y Y=>?_⟩;by_cases e:j=k
     ·subst e;exact K.out
     exact O.out j y (by omega)
    case measure=>simp[intOf];omega
   go_wp2;go_ret
   refine⟨Qr (E.out.2 ⟨hl,fun j y=>O.out j y (by omega)⟩).symm,H⟩
 go_enter Tryz.func88,Tryz.ntmps88
 go_wp2;go_ret
 refine⟨Qr ?_,Oa5 _ _⟩;cases b
 ·rfl
 exact absurd (E.out.1 rfl).1 hl
end
section
open Go.RowKit
def Yt (w:World)(B:Nat)(sv:Value)(vs:List V):Prop:=w.ownsRow B 39 3 sv vs.length (vs.flatMap V.cells)
def Jo (w:World)(B:Nat)(e:TypeId)(sv:Value)(xs:List Value):Prop:=w.ownsRow B e 1 sv xs.length xs
theorem Je {w:World}{B:Nat}{e:TypeId}{z n:Nat}{sv:Value}{xs:List Value}(h:w.ownsRow B e z sv n xs){g:Nat}(D:sv.ownBlock=some g):B≤g∧g<w.heap.size:=by
 rcases h.2 with⟨E,_⟩|⟨H,cap,R,E,K,O,_⟩
 ·subst E;simp[Value.ownBlock]at D
 subst E;simp[Value.ownBlock]at D;subst D;refine⟨K,?_⟩;rcases Oc1 H w.heap.size with y|y
 ·exact y
 simp[Array.getElem?_eq_none y]at O
theorem Jl {w w':World}{B:Nat}{e:TypeId}{z n:Nat}{sv:Value}{xs:List Value}(h:w.ownsRow B e z sv n xs)(E:∀ g,sv.ownBlock=some g→w'.heap[g]?=w.heap[g]?):w'.ownsRow B e z sv n xs:=by
 refine⟨h.1,?_⟩;rcases h.2 with h|⟨g,cap,D,y,H,K,rest⟩
 ·exact .inl h
 exact .inr ⟨g,cap,D,y,H,by rw[E g (by subst y;rfl)];exact K,rest⟩
theorem Jaw {w w':World}{B:Nat}{e:TypeId}{z n:Nat}{sv:Value}{xs:List Value}(h:w.ownsRow B e z sv n xs)(y:Below w.heap.size w w'):w'.ownsRow B e z sv n xs:=
 Jl h fun g D=>y.block g (Je h D).2
theorem Jgl {w:World}{B y:Nat}{e:TypeId}{z n:Nat}{sv:Value}{xs:List Value}(h:w.ownsRow B e z sv n xs)(H:y≤B):w.ownsRow y e z sv n xs:=by
 refine⟨h.1,?_⟩;rcases h.2 with h|⟨g,cap,D,E,K,rest⟩
 ·exact .inl h
 exact .inr ⟨g,cap,D,E,by omega,rest⟩
theorem Jbm {w:World}{B:Nat}{e:TypeId}{z n:Nat}{sv:Value}{xs:List Value}(h:w.ownsRow B e z sv n xs)(o:Obj):(w.alloc o).ownsRow B e z sv n xs:=
 Jaw h ((Oa5 _ _).alloc (Oa2 _) _)
theorem Yt.below {w w':World}{B:Nat}{sv:Value}{vs:List V}(h:Yt w B sv vs)(y:Below w.heap.size w w'):Yt w' B sv vs:=Jaw h y
theorem Yt.alloc {w:World}{B:Nat}{sv:Value}{vs:List V}(h:Yt w B sv vs)(o:Obj):Yt (w.alloc o) B sv vs:=Jbm h o
theorem Yt.mono {w:World}{B y:Nat}{sv:Value}{vs:List V}(h:Yt w B sv vs)(D:y≤B):Yt w y sv vs:=Jgl h D
theorem Yt.nil (w:World)(B:Nat):Yt w B (.slice none 0 0) []:=⟨rfl,.inl ⟨rfl,rfl⟩⟩
theorem Yt.vals {w:World}{B:Nat}{sv:Value}{vs:List V}(h:Yt w B sv vs):∃ a cap,sv=.slice a vs.length cap∧Jv w a vs:=(Jpo h).2
theorem Jo.below {w w':World}{B:Nat}{e:TypeId}{sv:Value}{xs:List Value}(h:Jo w B e sv xs)(y:Below w.heap.size w w'):Jo w' B e sv xs:=Jaw h y
theorem Jo.alloc {w:World}{B:Nat}{e:TypeId}{sv:Value}{xs:List Value}(h:Jo w B e sv xs)(o:Obj):Jo (w.alloc o) B e sv xs:=Jbm h o
theorem Jo.nil (w:World)(B:Nat)(e:TypeId):Jo w B e (.slice none 0 0) []:=⟨rfl,.inl ⟨rfl,rfl⟩⟩
theorem Jy {w wr w':World}{sv:Value}(h:Below w.heap.size w wr)(y:wr.grownBy w' sv.ownBlock)(hr:∀ k,sv.ownBlock=some k→w.heap.size≤k):Below w.heap.size w w':=
 h.grown y h.size hr
theorem Jcj {w:World}{K:Array Oper}{rest:List Oper}{o:Oper}{a:Act}{Q:Exit→Act→World→Prop}(Y:o.guard=none)(s x:Operand)
  (Z:o.op=.call {callee:=.builtin .append,args:=#[s,x],argTypes:=#[40,40]})
  (B:Nat) (sv:Value) (vs:List V) (hs:a.eval s=sv) (ba:Yt w B sv vs)
  (g c:Nat) (v:V) (bh:a.eval x=.slice (some ⟨g,0,none⟩) 1 c) (bf:VAt w g 0 v) (bj:vs.length≤1000000) (U:B≤w.heap.size)
  (h:∀ sv' w',Yt w' B sv' (vs++[v])→w.grownBy w' sv.ownBlock→(sv'.ownBlock=sv.ownBlock∨sv'.ownBlock=some w.heap.size)→wpList Tryz.prog K Q rest (a.put o.dst sv') w') :
  wpList Tryz.prog K Q (o::rest) a w:=by
 obtain⟨i,hi,bi,bc,X⟩:=info_parts Jow;refine wpList_append_own_at w Y s x 40 Z B 39 i _ 3 32 (by kernel_rfl) hi bi bc X rfl (by decide) sv vs.length (vs.flatMap V.cells) hs ba ⟨g,0,none⟩ 1 c v.cells bh rfl ?_ ?_ ?_ ?_ U ?_
 ·intro j u y;obtain⟨D,E,O⟩:=bf;match j,y with
  |0,y=>simp[V.cells]at y;subst y;simpa [Addr.add] using D
  |1,y=>simp[V.cells]at y;subst y;simpa [Addr.add] using E
  |2,y=>simp[V.cells]at y;subst y;simpa [Addr.add] using O
  |j+3,y=>simp[V.cells]at y
 ·intro u H;simp[V.cells]at H;rcases H with rfl|rfl|rfl<;>rfl
 ·unfold maxLen;omega
 ·omega
 intro v' w' D E _ R;refine h v' w' ?_ E R;unfold Yt;simpa [V.cells] using D
theorem Ks {w:World}{K:Array Oper}{rest:List Oper}{o:Oper}{a:Act}{Q:Exit→Act→World→Prop}(Z:o.guard=none)(s x:Operand)(t e:TypeId)(z:Value)(D:Nat)
  (ba:(Tryz.prog.info? e).map (fun i=>(i.zero,i.size,i.bytes))=some (some z,1,D)) (bz:z.cells.size=1) (Y:D≤16) (bj:Tryz.prog.underlying t=some (.slice e))
  (bf:o.op=.call {callee:=.builtin .append,args:=#[s,x],argTypes:=#[t,t]})
  (B:Nat) (sv:Value) (xs:List Value) (hs:a.eval s=sv) (bh:Jo w B e sv xs)
  (E:Addr) (c:Nat) (y:List Value) (br:a.eval x=.slice (some E) y.length c) (bn:∀ j u,y[j]?=some u→w.cell? (E.add j)=some u) (H:∀ u∈y,u.oneCell'=true) (bc:xs.length+y.length≤1000000) (U:B≤w.heap.size)
  (h:∀ sv' w',Jo w' B e sv' (xs++y)→w.grownBy w' sv.ownBlock→(sv'.ownBlock=sv.ownBlock∨sv'.ownBlock=some w.heap.size)→wpList Tryz.prog K Q rest (a.put o.dst sv') w') :
  wpList Tryz.prog K Q (o::rest) a w:=by
 obtain⟨i,hi,bx,bi,X⟩:=info_parts ba;refine wpList_append_own_at w Z s x t bf B e i _ 1 D bj hi bx bi X bz (by decide) sv xs.length xs hs bh E y.length c y br (by simp) bn H ?_ ?_ U ?_
 ·unfold maxLen;omega
 ·have:(xs.length+y.length)*D≤1000000*16:=Ol5 bc Y;omega
 intro v' w' H O _ R;refine h v' w' ?_ O R;unfold Jo;simpa using H
def Uh (w:World)(a:Option Addr)(xs:List Value):Prop:=
 xs=[]∨∃ b o,a=some ⟨b,o,none⟩∧b<w.heap.size∧∀ i v,xs[i]?=some v→w.cell? ⟨b,o+i,none⟩=some v
theorem Uh.of_block {w w':World}{a:Option Addr}{xs:List Value}(h:Uh w a xs)(hs:w.heap.size≤w'.heap.size)
  (e:∀ b o,a=some ⟨b,o,none⟩→b<w.heap.size→w'.heap[b]?=w.heap[b]?):Uh w' a xs:=by
 rcases h with h|⟨b,o,y,D,h⟩
 ·exact .inl h
 exact .inr ⟨b,o,y,by omega,fun i v E=>by rw[Oc3 (w:=w) (e b o y D)];exact h i v E⟩
theorem Uh.below {w w':World}{a:Option Addr}{xs:List Value}(h:Uh w a xs)(y:Below w.heap.size w w'):Uh w' a xs:=
 h.of_block y.size fun b _ _ D=>y.block b D
theorem Uh.at {w:World}{a:Option Addr}{xs:List Value}(h:Uh w a xs){i:Nat}(hi:i<xs.length) :
  ∃ b o,a=some ⟨b,o,none⟩∧b<w.heap.size∧w.cell? ⟨b,o+i,none⟩=some xs[i]:=by
 rcases h with h|⟨b,o,y,D,h⟩
 ·subst h;simp at hi
 exact⟨b,o,y,D,h i xs[i] (by simp[hi])⟩
theorem Jo.cells {w:World}{B:Nat}{e:TypeId}{sv:Value}{xs:List Value}(h:Jo w B e sv xs):∃ a cap,sv=.slice a xs.length cap∧Uh w a xs:=by
 obtain⟨hl,h⟩:=h;rcases h with⟨D,h0⟩|⟨g,cap,O,D,_,E,_,_,_,H⟩
 ·have:xs=[]:=Od3.1 h0;subst this;exact⟨none,0,D,.inl rfl⟩
 refine⟨some ⟨g,0,none⟩,cap,D,.inr ⟨g,0,rfl,?_,?_⟩⟩
 ·rcases Oc1 g w.heap.size with y|y
  ·exact y
  simp[Array.getElem?_eq_none y]at E
 intro i v hi;rw[←H]at hi;have K:i<xs.length*1:=by
  rcases Oc1 i (xs.length*1)with y|y
  ·exact y
  rw[List.getElem?_take_eq_none y]at hi;simp at hi
 rw[Oh3 K]at hi;simp only[Oe6]at hi;simp[World.cell?,E,hi]
def bv (b:UInt8):Value:=.int .u8 (b.toNat:Int)
theorem Jt0 (l:List UInt8):∀ s:ByteArray,(l.map fun b=>(b.toNat:Int)).foldl (fun r n=>r.push (UInt8.ofNat n.toNat)) s=s++Qw l:=by
 induction l with
 |nil=>intro s;unfold Qw;rw[Om5];simp
 |cons b l y=>
  intro s;simp only[Oe4,List.foldl_cons];rw[y];have:UInt8.ofNat (Int.toNat (b.toNat:Int))=b:=by simp
  rw[this];unfold Qw;rw[Om5];simp[ByteArray.push]
theorem Jc6 (w:World)(y:Addr)(c:Nat)(l:List UInt8)(h:∀ j u,(l.map bv)[j]?=some u→w.cell? (y.add j)=some u) :
  (convert 198 9 (.slice (some y) l.length c)).run Tryz.prog w=.ok (.string (Qw l)) w:=by
 rw[run_convert_bytes_string w 198 9 5 _ _ _ (by kernel_rfl) (by kernel_rfl) (by kernel_rfl)];have hl:=run_loadCells_list (P:=Tryz.prog) (w:=w) y (l.map bv) h;rw[Oa6]at hl;rw[run_bytesToString w y l.length c (l.map fun b=>(b.toNat:Int)) (by rw[hl,Oi6];rfl)];rw[Jt0];have:ByteArray.empty++Qw l=Qw l:=by unfold Qw;rw[Om5];simp
 rw[this]
end
section
open Go.RowKit
def Jz (xs:List V):List V:=xs.filter fun v=>v.k != 0
theorem Zy (xs:List V):(Jz xs).length≤xs.length:=Ok1 _ _
theorem Jsh (xs:List V)(v:V):Jz (xs++[v])=if v.k=0 then Jz xs else Jz xs++[v]:=by
 unfold Jz;rw[List.filter_append];by_cases h:v.k=0<;>simp[h]
theorem Jec (xs:List V)(k:Nat)(h:k<xs.length):xs.take (k+1)=xs.take k++[xs[k]]:=Oc4 h
theorem Yr (a:Option Addr)(cap:Nat)(xs:List V)(w:World)(hn:xs.length≤64)(Z:Jv w a xs) :
  Calls Tryz.prog 89 #[.slice a xs.length cap] w fun e w'=>∃ sv,e=.returned sv∧Yt w' w.heap.size sv (Jz xs)∧Below w.heap.size w w':=by
 go_enter Tryz.func89,Tryz.ntmps89
 go_wp2;go_loopw [3,8] (fun sv i wr=>∃ k:Nat,k≤xs.length∧i=.int .i64 k∧Yt wr w.heap.size sv (Jz (xs.take k))∧Below w.heap.size w wr) (fun _ i _=>xs.length-(intOf i).toNat)
 case atStart=>exact⟨0,Ob7 _,rfl,Yt.nil _ _,Oa5 _ _⟩
 case round=>
  rename_i sv i
  obtain⟨k,K,rfl,E,D⟩:=hrel;by_cases O:k<xs.length
  ·obtain⟨b1,bi,rfl,bc,bj,bn,br⟩:=(Z.below D).at O;have y:=Jsh (xs.take k) xs[k];rw[←Jec xs k O]at y;have bf:=Zy (xs.take k);have bh:(xs.take k).length≤k:=List.length_take_le _ _;by_cases h0:xs[k].k=0
   ·rw[if_pos h0]at y;have H:Hid _:=y;clear y;have U:(xs[k].k != 0)=false:=(by simp[h0]);have R:Hid (xs[k].k=0):=h0;clear h0;go_wp2;go_roundw
    case rel=>exact⟨k+1,by omega,by go_num,by rw[H.out];exact E.alloc _,Jc D _⟩
    case measure=>simp[intOf];omega
   rw[if_neg h0]at y;have H:Hid _:=y;clear y;have U:(xs[k].k != 0)=true:=(by simp[h0]);have R:Hid (¬ xs[k].k=0):=h0;clear h0;go_wp2_with (at_builtin;refine Jcj (by rfl) _ _ (by rfl) w.heap.size _ _ (by rfl) ((E.alloc _).alloc _) _ _ xs[k] (by rfl) (by refine⟨?_,?_,?_⟩<;>simp) (by omega) (by simp;have:=D.size;omega) ?_;intro sv' w1 X Y ba)
   go_roundw
   case rel=>
    refine⟨k+1,by omega,by go_num,by rw[H.out];exact X,?_⟩;exact Jy (Jc (Jc D _) _) Y fun k K=>(Je E K).1
   case measure=>simp[intOf];omega
  go_wp2;go_ret
  have e:xs.take k=xs:=Oc8 (by omega);rw[e]at E;exact⟨_,rfl,E,D⟩
def Ym:List V→List V→List V
 |d,[]=>d
 |d,v::l=>Ym (if Qc d v<d.length then d else d++[v]) l
theorem Jk0 (l:List V):∀ d,(Ym d l).length≤d.length+l.length:=by
 induction l with
 |nil=>intro d;simp[Ym]
 |cons u l y=>
  intro d;simp only[Ym];refine Ob2 (y _) ?_;split<;>simp<;>omega
end
section
open Go.RowKit
end
section
open Go.RowKit
def Qe (v:V):List V→Nat
 |[]=>0
 |u::l=>if u.beq v then Qe v l+1 else 0
theorem Jjn (v:V)(l:List V):Qe v l≤l.length:=by
 induction l with
 |nil=>simp[Qe]
 |cons u l y=>unfold Qe;split<;>simp;omega
def Jn:Int→List V→Int
 |m,[]=>m
 |m,v::l=>Jn (if v.n<m then v.n else m) l
theorem Jhx {w:World}{b:Nat}{t:TypeId}{n:Nat}{f:Nat→Value}(h:w.rowIs b t n f){B:Nat}(D:B≤b)(hn:n≤maxLen)(xs:List Value)(hl:xs.length=n)(K:∀ i (hi:i<xs.length),xs[i]=f i) :
  Jo w B t (.slice (some ⟨b,0,none⟩) n n) xs:=by
 obtain⟨c,E,hs,H⟩:=h;refine⟨by omega,.inr ⟨b,n,c,by rw[hl],D,E,by omega,hn,by omega,?_⟩⟩;apply Oh4
 ·simp;omega
 intro i O y;rw[K i y];have:=H i (by omega);simp only[List.getElem_take,Array.getElem_toList];rw[Oe2]at this;exact this.2
def uv (n:Nat):Value:=.int .u64 (n:Int)
def dif (n least:Int):Nat:=u64 (n-least)
def Uv (xs:List V)(least:Int):List Nat:=xs.map fun v=>dif v.n least
def Yz:Nat→List Nat→Nat
 |m,[]=>m
 |m,n::l=>Yz (if m<n then n else m) l
theorem Jk2 (b:Nat)(l:List Nat):∀ m,m<b→(∀ n∈l,n<b)→Yz m l<b:=by
 induction l with
 |nil=>intro m y _;exact y
 |cons u l D=>
  intro m y h;simp only[Yz];refine D _ ?_ fun n hn=>h n (Og1 _ hn);have:=h u (Of4);split<;>omega
end
end Go.Proofs.YtpchafocmlhmbaaGreatDoor
