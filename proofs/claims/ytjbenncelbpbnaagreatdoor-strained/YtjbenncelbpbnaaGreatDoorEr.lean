/- Plain facts on values of three fields (V), on the cells in which they lie, and on worlds of which the elder part stands. Nothing is said of the program but the layout of its types. -/
import Derived.Test.YtjbenncelbpbnaaGreatDoorProg
import Derived.WalkSpells
import Derived.WalkLawsBesides
import Derived.BigQuiet
import Derived.Deep.Light
import Derived.Deep.OwnRows
import Derived.Deep.RegionHeld
import Derived.Stop.Asserts
import Derived.RowKitTokens
set_option maxHeartbeats 400000
namespace Go.Proofs.YtjbenncelbpbnaaGreatDoor
section
open Go.RowKit
theorem zo {p:Prop}(h:p:=by omega):p:=h
theorem zK {p:Prop}(h:p:=by kernel_rfl):p:=h
theorem zS {p:Prop}(h:p:=by simp):p:=h
theorem zd {p:Prop}(h:p:=by decide):p:=h
theorem zR {p:Prop}(h:p:=by rfl):p:=h
theorem zt {p:Prop}(h:p:=by simp;omega):p:=h
theorem zn {p:Prop}(h:p:=by go_num):p:=h
theorem zM {p:Prop}(h:p:=by assumption):p:=h
theorem zh {p}(h:p):Hid p:=h
def zn1 {α:Type}:List α->Nat->Option α
 |[],_=>none
 |a::_,0=>some a
 |_::l,n+1=>zn1 l n
theorem zn2 {α}:∀ (l:List α) (n:Nat),l[n]?=zn1 l n
 |[],_=>by simp[zn1]
 |_::_,0=>rfl
 |_::l,n+1=>by rw[List.getElem?_cons_succ,zn2 l n];rfl
theorem zc {w:World}{b t:Nat}{C:Array Value}{r:Nat×Nat}{v:Value}(o:Nat)(h:w.heap[b]?=some (.cells C t r))(e:zn1 C.toList o=some v:=by rfl):w.cell? ⟨b,o,none⟩=some v:=by
 rw[<-zn2]at e;simp only[World.cell?,h];rw[<-e];simp
abbrev Oa0:=@List.getD_eq_getElem?_getD
abbrev Oa1:=@List.setIfInBounds_toArray
abbrev Oa2:=@Nat.le_refl
abbrev Oa3:=@List.getElem?_eq_getElem
abbrev Oa4:=@Go.RowKit.Below.heap_setCell
abbrev Oa5:=@Go.RowKit.Below.refl
abbrev Oa6:=@List.length_map
abbrev Oa7:=@Go.World.size_alloc
abbrev Oa8:=@List.length_append
abbrev Oa9:=@Go.RowKit.Below.heap_alloc
abbrev Ob0:=@List.getElem?_append_left
abbrev Ob1:=@List.getElem?_map
abbrev Ob2:=@Nat.le_trans
abbrev Ob3:=@List.getElem_mem
abbrev Ob4:=@List.getElem?_eq_none
abbrev Ob5:=@Go.World.cell?_setCell_other
abbrev Ob6:=@List.getElem?_append_right
abbrev Ob7:=@Nat.zero_le
abbrev Ob8:=@List.map_append
abbrev Ob9:=@List.getElem?_eq_some_iff
abbrev Oc0:=@Go.Oper.semAt_some
abbrev Oc1:=@Nat.lt_or_ge
abbrev Oc2:=@Nat.lt_of_lt_of_le
abbrev Oc3:=@Go.World.cell?_of_block
abbrev Oc4:=@List.take_succ_eq_append_getElem
abbrev Oc5:=@Ne.symm
abbrev Oc6:=@List.mem_singleton
abbrev Oc7:=@List.length_take
abbrev Oc8:=@List.take_of_length_le
abbrev Oc9:=@Option.some.injEq
abbrev Od0:=@Nat.zero_add
abbrev Od1:=@List.getElem?_set_ne
abbrev Od2:=@List.mem_append
abbrev Od3:=@List.length_eq_zero_iff
abbrev Od4:=@Go.IntKind.wrap_i64
abbrev Od5:=@List.getElem_of_mem
abbrev Od6:=@List.length_replicate
abbrev Od7:=@List.append_nil
abbrev Od8:=@List.append_assoc
abbrev Od9:=@List.getElem_map
abbrev Oe0:=@Nat.not_lt_zero
abbrev Oe1:=@Nat.sub_self
abbrev Oe2:=@Array.getElem?_eq_some_iff
abbrev Oe3:=@Nat.lt_irrefl
abbrev Oe4:=@List.map_cons
abbrev Oe5:=@Go.World.cell?_alloc_lt
abbrev Oe6:=@Array.getElem?_toList
abbrev Oe7:=@List.getElem?_take
abbrev Oe8:=@List.flatMap_append
abbrev Oe9:=@Option.map_eq_some_iff
abbrev Of0:=@List.mem_map
abbrev Of1:=@List.mem_cons
abbrev Of2:=@List.take_length
abbrev Of3:=@List.getElem?_replicate
abbrev Of4:=@List.mem_cons_self
abbrev Of5:=@Nat.succ_mul
abbrev Of6:=@List.mem_of_getElem?
abbrev Of7:=@List.length_drop
abbrev Of8:=@List.length_set
abbrev Of9:=@Go.World.var?_cell
abbrev Og0:=@List.nodup_cons
abbrev Og1:=@List.mem_cons_of_mem
abbrev Og2:=@Bool.and_eq_true_iff
abbrev Og3:=@Go.DataW.trod_int
abbrev Og4:=@Go.ByteArray.toList_eq
abbrev Og5:=@Bool.and_eq_true
abbrev Og7:=@List.flatMap_cons
abbrev Og8:=@Go.Sem.run_bind
abbrev Og9:=@Array.getElem?_eq_none
abbrev Oh0:=@List.getElem?_set_self
abbrev Oh1:=@Go.MapKept.heap_alloc
abbrev Oh2:=@Go.Addr.mk.injEq
abbrev Oh3:=@List.getElem?_take_of_lt
abbrev Oh4:=@List.ext_getElem
abbrev Oh5:=@Go.IntKind.wrap_u64
abbrev Oh6:=@List.getElem?_range
abbrev Oh7:=@List.mem_of_mem_drop
abbrev Oh8:=@List.getElem?_mapIdx
abbrev Oh9:=@List.getElem?_drop
abbrev Oi0:=@List.not_mem_nil
abbrev Oi1:=@List.drop_eq_getElem_cons
abbrev Oi2:=@List.getElem_append_left
abbrev Oi3:=@Array.getElem?_modify
abbrev Oi4:=@List.map_nil
abbrev Oi6:=@List.map_map
abbrev Oi7:=@List.take_add_one
abbrev Oi8:=@List.ext_getElem?
abbrev Oi9:=@List.length_pos_iff
abbrev Oj1:=@Nat.min_eq_left
abbrev Oj2:=@Nat.eq_zero_or_pos
abbrev Oj3:=@Prod.mk.injEq
abbrev Oj4:=@List.mem_range
abbrev Oj6:=@Option.some.inj
abbrev Oj7:=@List.range_succ
abbrev Oj9:=@List.map_congr_left
abbrev Ok0:=@Array.toList_setIfInBounds
abbrev Ok2:=@List.mem_iff_getElem?
abbrev Ok3:=@List.take_append_drop
abbrev Ok4:=@List.set_append_right
abbrev Ok5:=@List.getElem?_zipWith
abbrev Ok6:=@BitVec.toNat_ofInt
abbrev Ok8:=@List.getElem_append_right
abbrev Ok9:=@Array.replicate_succ
abbrev Ol0:=@Nat.mod_lt
abbrev Ol1:=@List.foldl_append
abbrev Ol2:=@List.append_toArray
abbrev Ol3:=@Go.World.rowIs_made
abbrev Ol4:=@Nat.min_eq_right
abbrev Ol5:=@Nat.mul_le_mul
abbrev Ol7:=@Go.World.frozen?_of_block
abbrev Ol8:=@List.drop_of_length_le
abbrev Om0:=@List.mem_filter
abbrev Om3:=@List.size_toArray
abbrev Om4:=@List.push_toArray
abbrev Om5:=@ByteArray.ext_iff
abbrev Om7:=@List.getElem?_append
abbrev Om8:=@Nat.mul_le_mul_right
abbrev Om9:=@List.mem_of_mem_take
abbrev On0:=@List.set_eq_take_append_cons_drop
abbrev On1:=@Nat.testBit_eq_decide_div_mod_eq
abbrev On2:=@Nat.lt_succ_self
abbrev On3:=@List.countP_cons
abbrev On4:=@Nat.le_mul_of_pos_right
abbrev On5:=@Nat.add_assoc
abbrev On7:=@Bool.eq_iff_iff
abbrev On8:=@Go.Value.slice.injEq
abbrev On9:=@Go.World.frozen?_setCell
abbrev Oo1:=@Bool.not_eq_true
abbrev Oo2:=@Nat.shiftLeft_eq
abbrev Oo3:=@Go.World.cell?_spot
abbrev Oo6:=@Nat.div_le_self
abbrev Oo7:=@List.getElem_range
abbrev Op0:=@List.map_set
abbrev Op1:=@List.length_range
abbrev Op2:=@List.getElem?_set
abbrev Op3:=@List.nodup_append
abbrev Op5:=@List.mem_flatMap
abbrev Op6:=@Nat.div_eq_of_lt
abbrev Op7:=@Go.Addr.add_lit
theorem tk {P K y Q S H fuel I a w}i v(hi:y[i]?=some H)(M:S w)(hy:∀ w,S w->(execOp a.eval H).run P w=.ok (.value v) w)(h:wpAnyH P K y Q S fuel (I.setIfInBounds i true) (a.put H.dst v) w)(hr:(Region.ready K y I).contains i=true:=by kernel_rfl)(hf:Region.free K y I i=true:=by kernel_rfl)(hs:Region.noSelect y=true:=by kernel_rfl)(hQ:∀ c a w,Q (.panic c) (a.put H.dst v) w->Q (.panic c) a w:=by exact fun _ _ _ h=>h)(hw:Region.wanted H (yielded y a.tmps)=true:=by rfl):wpAnyH P K y Q S (fuel+1) I a w:=
 wpAnyH_take hi hs hf hr hQ (.inl ⟨hw,hy⟩) M h
theorem tkj {P K y Q S H fuel I a w v}i(hi:y[i]?=some H)(M:S w)(h:wpAnyH P K y Q S fuel (I.setIfInBounds i true) (a.put H.dst v) w)(hr:(Region.ready K y I).contains i=true:=by kernel_rfl)(hf:Region.free K y I i=true:=by kernel_rfl)(hs:Region.noSelect y=true:=by kernel_rfl)(hy:∀ w,S w->(execOp a.eval H).run P w=.ok (.value v) w:=by intro w O;(try dsimp only at O);go_simp;try rfl)(hQ:∀ c a w,Q (.panic c) (a.put H.dst v) w->Q (.panic c) a w:=by exact fun _ _ _ h=>h)(hw:Region.wanted H (yielded y a.tmps)=true:=by rfl):wpAnyH P K y Q S (fuel+1) I a w:=
 wpAnyH_take hi hs hf hr hQ (.inl ⟨hw,hy⟩) M h
theorem tkn {p q:Prop}(h:q)(e:p=q:=by conv=>lhs;simp only[Act.put,List.getElem_toArray,List.getElem_cons_zero,List.getElem_cons_succ,Oa1,List.set_cons_zero,List.set_cons_succ]):p:=e▸h
theorem tkr {P K y Q S o fuel I a w}i(ho:y[i]?=some o)(h:∀ H:Act->World->Prop,Shut (∀ a w,S w->(S w->wpAnyH P K y Q S fuel (I.setIfInBounds i true) a w)->H a w)->if Region.wanted o (yielded y a.tmps)=true then Oper.wp P o a w H Q else H (a.put o.dst undef) w)(hr:Region.ready K y I=[i]:=by kernel_rfl):wpAnyH P K y Q S (fuel+1) I a w:=wpAnyH_ready hr zS (AllReadyH.cons ho h AllReadyH.nil)
structure V where
 k:Int
 n:Int
 s:ByteArray
theorem V.ext' {v u:V}(y:v.k=u.k)(H:v.n=u.n)(I:v.s=u.s):v=u:=by cases v;cases u;simp_all
def veq (k n:Int)(s:ByteArray)(y H:Int)(I:ByteArray):Bool:=k==y&&(n==H&&s==I)
def V.beq (v u:V):Bool:=veq v.k v.n v.s u.k u.n u.s
theorem Kaq (a b:ByteArray):(a==b)=true↔a=b:=by
 rw[beq_toListBytes,beq_iff_eq,Og4,Og4];constructor
 ·intro h;obtain⟨⟨x⟩⟩:=a;obtain⟨⟨y⟩⟩:=b;simp at h;rw[h]
 rintro rfl;rfl
theorem V.beq_iff (v u:V):v.beq u=true↔v=u:=by
 unfold V.beq veq;rw[Og5,Og5,beq_iff_eq,beq_iff_eq,Kaq];constructor
 ·intro h;exact V.ext' h.1 h.2.1 h.2.2
 rintro rfl;exact⟨rfl,rfl,rfl⟩
theorem V.beq_false (v u:V):v.beq u=false↔v≠u:=by
 rw[<-Oo1,V.beq_iff]
def V.cells (v:V):List Value:=[.int .i64 v.k,.int .i64 v.n,.string v.s]
abbrev V.val (v:V):Value:=.agg #[.int .i64 v.k,.int .i64 v.n,.string v.s]
def VAt (w:World)(b o:Nat)(v:V):Prop:=
 w.cell? ⟨b,o,none⟩=some (.int .i64 v.k)/\w.cell? ⟨b,o+1,none⟩=some (.int .i64 v.n)/\w.cell? ⟨b,o+2,none⟩=some (.string v.s)
def Jv (w:World)(a:Option Addr)(vs:List V):Prop:=
 vs=[]\/∃ b o,a=some ⟨b,o,none⟩/\b<w.heap.size/\∀ i v,vs[i]?=some v->VAt w b (o+i*3) v
theorem VAt.of_block {w w' b o v}(h:VAt w b o v)(e:w'.heap[b]?=w.heap[b]?):VAt w' b o v:=by
 obtain⟨y,H,I⟩:=h;exact⟨by rw[Oc3 (w:=w) e];exact y,by rw[Oc3 (w:=w) e];exact H,by rw[Oc3 (w:=w) e];exact I⟩
theorem Jm {w:World}{a:Addr}{v:Value}(h:w.cell? a=some v):a.block<w.heap.size:=by
 rcases Oc1 a.block w.heap.size with y|y
 ·exact y
 simp[World.cell?,Array.getElem?_eq_none y]at h
theorem Jv.of_block {w w' a vs}(h:Jv w a vs)(hs:w.heap.size<=w'.heap.size)(e:∀ b o,a=some ⟨b,o,none⟩->b<w.heap.size->w'.heap[b]?=w.heap[b]?):Jv w' a vs:=by
 rcases h with h|⟨b,o,y,hb,h⟩
 ·exact .inl h
 exact .inr ⟨b,o,y,zo,fun i v hv=>(h i v hv).of_block (e b o y hb)⟩
theorem Jv.below {w w' a vs}(h:Jv w a vs)(hb:Below w.heap.size w w'):Jv w' a vs:=
 h.of_block hb.size fun b _ _ y=>hb.block b y
theorem Jv.at {w a vs}(h:Jv w a vs){i}(hi:i<vs.length):
  ∃ b o,a=some ⟨b,o,none⟩/\b<w.heap.size/\VAt w b (o+i*3) vs[i]:=by
 rcases h with h|⟨b,o,y,hb,h⟩
 ·subst h;simp at hi
 exact⟨b,o,y,hb,h i vs[i] (by simp[hi])⟩
theorem Jp {B a w}(h:Below B a w)n:Below B a (w.drewN n):=⟨h.os,h.tape,h.output,h.size,h.block⟩
theorem Kep (w:World)(o:Obj):w.heap.size<=(w.alloc o).heap.size:=zS
theorem Qx {w w' o}(h:Below (w.alloc o).heap.size (w.alloc o) w'):Below w.heap.size w w':=
 ((Oa5 _ _).alloc (Oa2 _) _).trans (h.mono (Kep _ _))
theorem Kx {w w'}(h:Below w.heap.size w w'):(∀ b o,b<w.heap.size->w'.cell? ⟨b,o,none⟩=w.cell? ⟨b,o,none⟩)/\(∀ b o,b<w.heap.size->w'.frozen? ⟨b,o,none⟩=w.frozen? ⟨b,o,none⟩):=
 ⟨fun _ _ hb=>h.cell (p:=⟨_,_,none⟩) hb,fun _ _ hb=>h.frozen (p:=⟨_,_,none⟩) hb⟩
theorem Jb {w wr w'}(h:Below w.heap.size w wr)(k:Below wr.heap.size wr w'):Below w.heap.size w w':=h.trans (k.mono h.size)
theorem Jc {w wr}(h:Below w.heap.size w wr)o:Below w.heap.size w (wr.alloc o):=h.alloc h.size o
theorem Jw {B a w}(h:Below B a.drew w):Below B a w:=⟨h.os,h.tape,h.output,h.size,h.block⟩
theorem Um {B a w b}(h:Below B a w)(hb:B<=b)y H I K M:
  Below B a (((((w.setCell ⟨b,0,none⟩ y).setCell ⟨b,1,none⟩ H).setCell ⟨b,2,none⟩ I).setCell ⟨b,3,none⟩ K).setCell ⟨b,4,none⟩ M):=
 ((((h.setCell (p:=⟨b,0,none⟩) hb y).setCell (p:=⟨b,1,none⟩) hb H).setCell (p:=⟨b,2,none⟩) hb I).setCell (p:=⟨b,3,none⟩) hb K).setCell (p:=⟨b,4,none⟩) hb M
theorem Qr {a b}(h:a=b):Ending.returned (.bool a)=.returned (.bool b):=by rw[h]
theorem Yp {k:IntKind}{a b}(h:a=b):Ending.returned (.int k a)=.returned (.int k b):=by rw[h]
theorem Jow:(Tryz.prog.info? 59).map (fun i=>(i.zero,i.size,i.bytes))=some (some (.agg #[.int .i64 0,.int .i64 0,.string ⟨#[]⟩]),3,32):=zK
theorem Jfa:(Tryz.prog.info? 5).map (fun i=>(i.zero,i.size,i.bytes))=some (some (.int .u8 0),1,1):=zK
theorem Jiq:(Tryz.prog.info? 243).map (fun i=>(i.zero,i.size,i.bytes))=some (some (.int .u64 0),1,8):=zK
theorem Jpo {w Y sv n vs}(h:w.ownsRow Y 59 3 sv n (vs.flatMap V.cells)):
  n=vs.length/\∃ a cap,sv=.slice a vs.length cap/\Jv w a vs:=by
 obtain⟨hl,h⟩:=h;have hlen:(vs.flatMap V.cells).length=vs.length*3:=by
  clear hl h;induction vs with
  |nil=>rfl
  |cons v vs O=>simp[V.cells]at O |-;omega
 have hn:n=vs.length:=zo;subst hn;refine⟨rfl,?_⟩;rcases h with⟨hv,h0⟩|⟨g,cap,bh,hv,_,U,_,_,_,bf⟩
 ·have:vs=[]:=Od3.1 h0;subst this;exact⟨none,0,hv,.inl rfl⟩
 refine⟨some ⟨g,0,none⟩,cap,hv,.inr ⟨g,0,rfl,?_,?_⟩⟩
 ·rcases Oc1 g w.heap.size with y|y
  ·exact y
  simp[Array.getElem?_eq_none y]at U
 intro i v hi;have bi:i<vs.length:=by
  rcases Oc1 i vs.length with y|y
  ·exact y
  simp[List.getElem?_eq_none y]at hi
 have key:∀ (H:List V) (i:Nat) (v:V),H[i]?=some v->(H.flatMap V.cells)[i*3]?=some (.int .i64 v.k)/\(H.flatMap V.cells)[i*3+1]?=some (.int .i64 v.n)/\(H.flatMap V.cells)[i*3+2]?=some (.string v.s):=by
  intro H;induction H with
  |nil=>intro i v h;simp at h
  |cons u H O=>
   intro i v h;cases i with
   |zero=>simp at h;subst h;simp[V.cells]
   |succ i=>
    have:=O i v (by simpa using h);have Z:(i+1)*3=i*3+3:=zo;simp only[Og7,V.cells,Z];simpa using this
 obtain⟨I,K,M⟩:=key vs i v hi;rw[<-bf]at I K M;rw[Oh3 zo]at I K M;simp only[Oe6]at I K M;unfold VAt;simp only[World.cell?,U,Od0];simp[I,K,M]
theorem Kfm : (Tryz.prog.fieldsOf 59).toList.map (fun f => (f.name, f.type, f.offset)) = [("Kind", 3, 0), ("N", 2, 1), ("S", 9, 2)] := by kernel_rfl
theorem Kg8:Tryz.prog.underlying 59=some (.struct (Tryz.prog.fieldsOf 59)):=zK
theorem Kiq:Tryz.prog.stoodInHeld 59=false:=zK
theorem Jdy w k n y H s I:
  (Op.equal 59 (.agg #[.int .i64 k,.int .i64 n,.string s]) (.agg #[.int .i64 y,.int .i64 H,.string I])).run Tryz.prog w=.ok (veq k n s y H I) w:=by
 rw[Op.equal,Op.maxDepth,run_equalIn_struct w 9999 59 _ _ Kg8 Kiq];have h:=Kfm;generalize (Tryz.prog.fieldsOf 59).toList=K at h;rcases K with _|⟨br,_|⟨bx,_|⟨bz,_|⟨bA,K⟩⟩⟩⟩
 ·simp at h
 ·simp at h
 ·simp at h
 ·simp at h;obtain⟨⟨O,U,Y⟩,⟨Z,bf,bh⟩,bi,bj,bk⟩:=h;simp[Op.eqFields,O,U,Y,Z,bf,bh,bi,bj,bk,part,sizeOf,go_sem];simp only[veq,beq_toListBytes];by_cases a1:k=y<;>by_cases a2:n=H<;>by_cases M:s.toList=I.toList<;>simp[a1,a2,M]
 simp at h
theorem Jcx w k n y H s I:
  (binOp .eql 59 (.agg #[.int .i64 k,.int .i64 n,.string s]) (.agg #[.int .i64 y,.int .i64 H,.string I])).run Tryz.prog w=.ok (.bool (veq k n s y H I)) w:=by
 simp[binOp,Jdy]
theorem Jph w k n y H s I:
  (binOp .neq 59 (.agg #[.int .i64 k,.int .i64 n,.string s]) (.agg #[.int .i64 y,.int .i64 H,.string I])).run Tryz.prog w=.ok (.bool (!veq k n s y H I)) w:=by
 simp[binOp,Jdy]
end
def Qw (l:List UInt8):ByteArray:=⟨l.toArray⟩
theorem Kyi a b:Qw a++Qw b=Qw (a++b):=by
 unfold Qw;rw[Om5];simp
theorem Kfv {a b}(h:Qw a=Qw b):a=b:=by
 unfold Qw at h;have:=congrArg (fun x:ByteArray=>x.data.toList) h;simpa using this
theorem Zf s:Qw s.toList=s:=by
 rw[Og4];rfl
theorem Jb2 l:(Qw l).size=l.length:=by simp[Qw,ByteArray.size]
def hi (l:List Bool)(i:Nat):Nat->Nat
 |0=>0
 |m+1=>2*hi l i m+(if l.getD (i+(7-m)) false then 1 else 0)
theorem Kh5 l i:∀ m,hi l i m<2 ^ m:=by
 intro m;induction m with
 |zero=>simp[hi]
 |succ m y=>simp only[hi];rw[Nat.pow_succ];split<;>omega
theorem Jwg l i:∀ m,m<=8->∀ t,(hi l i m).testBit t=(decide (t<m)&&l.getD (i+(8-m)+t) false):=by
 intro m;induction m with
 |zero=>intro _ t;simp[hi]
 |succ m H=>
  intro I t;simp only[hi];cases t with
  |zero=>
   rw[Nat.testBit_zero];have e:i+(8-(m+1))+0=i+(7-m):=zo;rw[e];cases h:l.getD (i+(7-m)) false
   ·simp
   simp
  |succ t=>
   rw[Nat.testBit_succ];have e:(2*hi l i m+(if l.getD (i+(7-m)) false=true then 1 else 0)) / 2=hi l i m:=by split<;>omega
   rw[e,H zo t];have y:i+(8-(m+1))+(t+1)=i+(8-m)+t:=zo;rw[y];simp
def Jag (l:List Bool)(j:Nat):Nat:=hi l (8*j) 8
theorem Ji4 l j:Jag l j<256:=Kh5 l (8*j) 8
theorem Yx l j t:(Jag l j).testBit t=(decide (t<8)&&l.getD (8*j+t) false):=by
 unfold Jag;rw[Jwg l (8*j) 8 (Oa2 _) t];simp
theorem Jvq j:Jag [] j=0:=by
 apply Nat.eq_of_testBit_eq;intro t;rw[Yx];simp
theorem zaF {p:Prop}(h:p:=by
 cases l[n]
 ·simp
 obtain⟨q,hq⟩:=Nat.exists_eq_succ_of_ne_zero y;rw[hq];simp[Nat.testBit_succ]):p:=h
theorem Jss (l:List Bool)(n j:Nat)(hn:n<l.length):
  Jag (l.take (n+1)) j=if j=n / 8 then Jag (l.take n) j ||| ((if l[n]then 1 else 0) <<< (n % 8))else Jag (l.take n) j:=by
 have H:∀ m x,(l.take m).getD x false=(decide (x<m)&&l.getD x false):=by
  intro m x;simp only[Oa0,Oe7];by_cases h:x<m<;>simp[h]
 have O:l.getD n false=l[n]:=by simp[hn]
 apply Nat.eq_of_testBit_eq;intro t;by_cases K:j=n / 8
 ·subst K;rw[if_pos rfl,Nat.testBit_or,Yx,Yx,H,H,Nat.testBit_shiftLeft];by_cases ht:t<8
  ·by_cases Z:8*(n / 8)+t=n
   ·have bf:t=n % 8:=zo;have y:n % 8<=t:=zo;have U:t-n % 8=0:=zo;rw[Z,O,U];cases l[n]<;>simp[y]<;>omega
   by_cases M:8*(n / 8)+t<n
   ·have y:¬ n % 8<=t:=zo;simp[ht,M,y];intro;omega
   have y:¬ (t-n % 8=0):=zo;have I:((if l[n]=true then 1 else 0:Nat)).testBit (t-n % 8)=false:=by
    exact zaF
   rw[I];have Y:¬ (8*(n / 8)+t<n+1):=zo;simp[M,Y]
  have y:¬ (t-n % 8=0):=zo;have I:((if l[n]=true then 1 else 0:Nat)).testBit (t-n % 8)=false:=by
   exact zaF
  rw[I];simp[ht]
 rw[if_neg K,Yx,Yx,H,H];by_cases ht:t<8
 ·have:decide (8*j+t<n+1)=decide (8*j+t<n):=by
   rw[decide_eq_decide];omega
  rw[this]
 simp[ht]
def Kk (l:List Bool):List UInt8:=(List.range ((l.length+7) / 8)).map fun j=>UInt8.ofNat (Jag l j)
theorem Qb l:(Kk l).length=(l.length+7) / 8:=by simp[Kk]
def low (n:Int):UInt8:=UInt8.ofNat (n % 256).toNat
def le8 (u:Nat):List UInt8:=(List.range 8).map fun i=>UInt8.ofNat (u / 256 ^ i % 256)
theorem Jc4 u:(le8 u).length=8:=by simp[le8]
def u64 (n:Int):Nat:=(n % 18446744073709551616).toNat
theorem Jp3 n:u64 n<18446744073709551616:=by unfold u64;omega
def Ue (y:Nat)(ns:List Nat):List Bool:=ns.flatMap fun n=>(List.range y).map fun b=>n.testBit b
theorem Jal y ns:(Ue y ns).length=y*ns.length:=by
 induction ns with
 |nil=>simp[Ue]
 |cons n ns H=>
  unfold Ue at *;rw[Og7,Oa8,H];simp[Nat.mul_add];omega
theorem Jms y:∀ (ns:List Nat) (i b:Nat) (hi:i<ns.length),b<y->(Ue y ns)[y*i+b]?=some (ns[i].testBit b):=by
 intro ns;induction ns with
 |nil=>intro i b hi;simp at hi
 |cons n ns H=>
  intro i b hi hb;have e:Ue y (n::ns)=((List.range y).map fun b=>n.testBit b)++Ue y ns:=by simp[Ue]
  rw[e];cases i with
  |zero=>
   simp only[Nat.mul_zero,Od0];rw[Ob0 (by simpa using hb)];simp[hb]
  |succ i=>
   rw[Ob6 (by simp[Nat.mul_add];omega)];have:y*(i+1)+b-((List.range y).map fun b=>n.testBit b).length=y*i+b:=by simp[Nat.mul_add];omega
   rw[this];simpa using H i b (by simpa using hi) hb
section
open Go.RowKit
attribute [local go_sem] Jdy
def way (typ y:Int):Bool:=decide (1<=typ/\typ<=3/\0<=y/\y<=3/\¬ (typ=3/\y=3))
def okK (k n:Int)(s:ByteArray):Bool:=
 decide ((k=1/\s.toList.isEmpty=true)\/(k=2/\(n=0\/n=1)/\s.toList.isEmpty=true)\/(k=3/\n=0/\s.size<=40))
def okB (typ k n:Int)(s:ByteArray):Bool:=decide ((k=0/\n=0/\s.toList.isEmpty=true)\/(k=typ/\okK k n s=true))
theorem Jlh t w:
  Calls Tryz.prog 87 #[.int .i64 t] w fun e w'=>e=.returned (.bool (decide (1<=t/\t<=3)))/\w'=w:=by
 go_enter Tryz.func87,Tryz.ntmps87
 go_wp2;all_goals
  go_ret
  exact⟨Qr (by rw[On7];simp at *;omega),rfl⟩
theorem Ja3 t h w:
  Calls Tryz.prog 61 #[.int .i64 t,.int .i64 h] w fun e w'=>e=.returned (.bool (way t h))/\w'=w:=by
 unfold way;go_enter Tryz.func61,Tryz.ntmps61
 go_wp2_with (go_at_call 87;refine(Jlh _ _).mono ?_;rintro e w' ⟨rfl,rfl⟩)
 all_goals
  go_ret
  exact⟨Qr (by rw[On7];simp at *;omega),rfl⟩
theorem Jif n w(h0:0<=n)(y:n<=100000):
  Calls Tryz.prog 164 #[.int .i64 n] w fun e w'=>e=.returned (.int .i64 ((n+7) / 8))/\w'=w:=by
 go_enter Tryz.func164,Tryz.ntmps164
 go_wp2;go_ret
 exact⟨rfl,rfl⟩
theorem zaA {p:Prop}(h:p:=by generalize s.toList.isEmpty=e at *;generalize s.size=m at *;rw[On7];cases e<;>(try simp at *)<;>(try omega)):p:=h
theorem Jq8 k n s w:
  Calls Tryz.prog 119 #[.agg #[.int .i64 k,.int .i64 n,.string s]] w fun e w'=>e=.returned (.bool (okK k n s))/\Below w.heap.size w w':=by
 go_enter Tryz.func119,Tryz.ntmps119
 go_wp2;all_goals
  go_ret
  refine⟨Qr ?_,(Oa5 _ _).alloc (Oa2 _) _⟩;go_light
  unfold okK;exact zaA
theorem Jmd k n s t w:
  Calls Tryz.prog 88 #[.agg #[.int .i64 k,.int .i64 n,.string s],.int .i64 t] w fun e w'=>e=.returned (.bool (okB t k n s))/\Below w.heap.size w w':=by
 by_cases h0:k=0
 ·go_enter Tryz.func88,Tryz.ntmps88
  go_wp2;all_goals
   go_ret
   refine⟨Qr ?_,(Oa5 _ _).alloc (Oa2 _) _⟩;go_light
   unfold okB okK;generalize s.size=m at *;rw[On7];cases hs:s.toList<;>(try simp[hs]at *)<;>(try omega)
 by_cases y:k=t
 ·subst y;go_enter Tryz.func88,Tryz.ntmps88
  go_wp2_with (go_at_call 119;refine(Jq8 _ _ _ _).mono ?_;rintro e w' ⟨rfl,hb⟩)
  all_goals
   go_ret
   refine⟨Qr ?_,Qx hb⟩;go_light
   unfold okB;cases okK k n s<;>(try simp at *)<;>(try omega)
 have H:(k==t)=false:=by simp[y]
 go_enter Tryz.func88,Tryz.ntmps88
 go_wp2;all_goals
  go_ret
  refine⟨Qr ?_,(Oa5 _ _).alloc (Oa2 _) _⟩;go_light
  unfold okB okK;exact zaA
abbrev Jb6 (c:Int):Value:=.agg #[.int .i64 c,.int .i64 (-1),.int .i64 (-1),.int .i64 (-1),.int .i64 (-1)]
end
section
open Go.RowKit
def place:List V->V->Nat
 |[],_=>0
 |u::l,v=>if u.beq v then 0 else place l v+1
theorem Jhz (v u:V)(h:v=u):∀ w,(binOp .eql 59 v.val u.val).run Tryz.prog w=.ok (.bool true) w:=fun w=>by
 rw[Jcx];exact congrArg (fun b=>Result.ok (Value.bool b) w) ((V.beq_iff v u).2 h)
theorem Jh8 (v u:V)(h:v≠u):∀ w,(binOp .eql 59 v.val u.val).run Tryz.prog w=.ok (.bool false) w:=fun w=>by
 rw[Jcx];exact congrArg (fun b=>Result.ok (Value.bool b) w) ((V.beq_false v u).2 h)
theorem Jql (v u:V)(h:v=u):∀ w,(binOp .neq 59 v.val u.val).run Tryz.prog w=.ok (.bool false) w:=fun w=>by
 rw[Jph];exact congrArg (fun b=>Result.ok (Value.bool (!b)) w) ((V.beq_iff v u).2 h)
theorem Jqe (v u:V)(h:v≠u):∀ w,(binOp .neq 59 v.val u.val).run Tryz.prog w=.ok (.bool true) w:=fun w=>by
 rw[Jph];exact congrArg (fun b=>Result.ok (Value.bool (!b)) w) ((V.beq_false v u).2 h)
theorem Ka6 (xs y:List V)(hl:xs.length=y.length)(h:∀ j (I:j<xs.length),xs[j]=y[j]'(hl▸I)):xs=y:=
 Oh4 hl fun i H _=>h i H
def idx (xs:List V)(v:V):Int:=if place xs v<xs.length then place xs v else -1
theorem Zl t a cap xs w(hn:xs.length<=maxLen)(U:Jv w a xs)b(hb:b=true↔xs.length<=64/\∀ j (y:j<xs.length),okB t xs[j].k xs[j].n xs[j].s=true):
  Calls Tryz.prog 90 #[.int .i64 t,.slice a xs.length cap] w fun e w'=>e=.returned (.bool b)/\Below w.heap.size w w':=by
 unfold maxLen at hn;have H:=hb;replace H:Hid _:=H;clear hb;by_cases hl:xs.length<=64
 ·go_enter Tryz.func90,Tryz.ntmps90
  go_wp2;go_loopw [12] (fun i wr=>∃ k:Nat,k<=xs.length/\i=.int .i64 k/\Below w.heap.size w wr/\Hid (∀ j (y:j<xs.length),j<k->okB t xs[j].k xs[j].n xs[j].s=true)) (fun i _=>xs.length-(intOf i).toNat)
  case atStart=>exact⟨0,Ob7 _,rfl,Oa5 _ _,fun j _ y=>absurd y (Oe0 _)⟩
  case round=>
   obtain⟨k,hk,rfl,I,M⟩:=hrel;by_cases O:k<xs.length
   ·obtain⟨b1,bf,rfl,Y,x1,x2,bh⟩:=(U.below I).at O;cases ho:okB t xs[k].k xs[k].n xs[k].s
    ·have K:=zh ho;go_wp2_with (go_at_call 88;refine(Jmd _ _ _ _ _).mono ?_;rintro e w' ⟨rfl,hb⟩)
     go_ret
     refine⟨Qr ?_,Jb I (Qx hb)⟩;cases b
     ·rfl
     have:=(H.out.1 rfl).2 k O;rw[K.out]at this;exact absurd this zd
    have K:=zh ho;go_wp2_with (go_at_call 88;refine(Jmd _ _ _ _ _).mono ?_;rintro e w' ⟨rfl,hb⟩)
    go_roundw
    case rel=>
     refine⟨k+1,zo,zn,Jb I (Qx hb),fun j y Z=>?_⟩;by_cases e:j=k
     ·subst e;exact K.out
     exact M.out j y zo
    case measure=>simp[intOf];omega
   go_wp2;go_ret
   refine⟨Qr (H.out.2 ⟨hl,fun j y=>M.out j y zo⟩).symm,I⟩
 go_enter Tryz.func90,Tryz.ntmps90
 go_wp2;go_ret
 refine⟨Qr ?_,Oa5 _ _⟩;cases b
 ·rfl
 exact absurd (H.out.1 rfl).1 hl
def Yt (w:World)(B:Nat)(sv:Value)(vs:List V):Prop:=w.ownsRow B 59 3 sv vs.length (vs.flatMap V.cells)
def Jo (w:World)(B:Nat)(e:TypeId)(sv:Value)(xs:List Value):Prop:=w.ownsRow B e 1 sv xs.length xs
theorem Je {w:World}{B:Nat}{e:TypeId}{z n:Nat}{sv:Value}{xs:List Value}(h:w.ownsRow B e z sv n xs){g:Nat}(H:sv.ownBlock=some g):B<=g/\g<w.heap.size:=by
 rcases h.2 with⟨hv,_⟩|⟨I,cap,M,hv,hb,K,_⟩
 ·subst hv;simp[Value.ownBlock]at H
 subst hv;simp[Value.ownBlock]at H;subst H;refine⟨hb,?_⟩;rcases Oc1 I w.heap.size with y|y
 ·exact y
 simp[Array.getElem?_eq_none y]at K
theorem Jl {w w':World}{B:Nat}{e:TypeId}{z n:Nat}{sv:Value}{xs:List Value}(h:w.ownsRow B e z sv n xs)(hb:∀ g,sv.ownBlock=some g->w'.heap[g]?=w.heap[g]?):w'.ownsRow B e z sv n xs:=by
 refine⟨h.1,?_⟩;rcases h.2 with h|⟨g,cap,y,hv,H,I,rest⟩
 ·exact .inl h
 exact .inr ⟨g,cap,y,hv,H,by rw[hb g (by subst hv;rfl)];exact I,rest⟩
theorem Jaw {w w' B e z n sv xs}(h:w.ownsRow B e z sv n xs)(hb:Below w.heap.size w w'):w'.ownsRow B e z sv n xs:=
 Jl h fun g y=>hb.block g (Je h y).2
theorem Jgl {w:World}{B y:Nat}{e:TypeId}{z n:Nat}{sv:Value}{xs:List Value}(h:w.ownsRow B e z sv n xs)(hb:y<=B):w.ownsRow y e z sv n xs:=by
 refine⟨h.1,?_⟩;rcases h.2 with h|⟨g,cap,H,hv,I,rest⟩
 ·exact .inl h
 exact .inr ⟨g,cap,H,hv,zo,rest⟩
theorem Jbm {w:World}{B:Nat}{e:TypeId}{z n:Nat}{sv:Value}{xs:List Value}(h:w.ownsRow B e z sv n xs)(o:Obj):(w.alloc o).ownsRow B e z sv n xs:=
 Jaw h ((Oa5 _ _).alloc (Oa2 _) _)
theorem Yt.below {w w' B sv vs}(h:Yt w B sv vs)(hb:Below w.heap.size w w'):Yt w' B sv vs:=Jaw h hb
theorem Yt.alloc {w B sv vs}(h:Yt w B sv vs)o:Yt (w.alloc o) B sv vs:=Jbm h o
theorem Yt.mono {w B y sv vs}(h:Yt w B sv vs)(hb:y<=B):Yt w y sv vs:=Jgl h hb
theorem Yt.nil w B:Yt w B (.slice none 0 0) []:=⟨rfl,.inl ⟨rfl,rfl⟩⟩
theorem Yt.vals {w B sv vs}(h:Yt w B sv vs):∃ a cap,sv=.slice a vs.length cap/\Jv w a vs:=(Jpo h).2
theorem Jo.below {w w' B e sv xs}(h:Jo w B e sv xs)(hb:Below w.heap.size w w'):Jo w' B e sv xs:=Jaw h hb
theorem Jo.alloc {w B e sv xs}(h:Jo w B e sv xs)o:Jo (w.alloc o) B e sv xs:=Jbm h o
theorem Jo.nil w B e:Jo w B e (.slice none 0 0) []:=⟨rfl,.inl ⟨rfl,rfl⟩⟩
theorem Jy {w wr w':World}{sv:Value}(h:Below w.heap.size w wr)(y:wr.grownBy w' sv.ownBlock)(hr:∀ k,sv.ownBlock=some k->w.heap.size<=k):Below w.heap.size w w':=
 h.grown y h.size hr
theorem Jcj {w M rest o a Q}(bf:o.guard=none)s x(ho:o.op=.call {callee:=.builtin .append,args:=#[s,x],argTypes:=#[60,60]})B sv vs(hs:a.eval s=sv)(bh:Yt w B sv vs)g c v(bj:a.eval x=.slice (some ⟨g,0,none⟩) 1 c)(hv:VAt w g 0 v)(hlen:vs.length<=1000000)(Y:B<=w.heap.size)(h:∀ sv' w',Yt w' B sv' (vs++[v])->w.grownBy w' sv.ownBlock->(sv'.ownBlock=sv.ownBlock\/sv'.ownBlock=some w.heap.size)->wpList Tryz.prog M Q rest (a.put o.dst sv') w'):
  wpList Tryz.prog M Q (o::rest) a w:=by
 obtain⟨i,hi,bk,bi,Z⟩:=info_parts Jow;refine wpList_append_own_at w bf s x 60 ho B 59 i _ 3 32 zK hi bk bi Z rfl zd sv vs.length (vs.flatMap V.cells) hs bh ⟨g,0,none⟩ 1 c v.cells bj rfl ?_ ?_ ?_ ?_ Y ?_
 ·intro j u y;obtain⟨H,I,O⟩:=hv;match j,y with
  |0,y=>simp[V.cells]at y;subst y;simpa [Addr.add] using H
  |1,y=>simp[V.cells]at y;subst y;simpa [Addr.add] using I
  |2,y=>simp[V.cells]at y;subst y;simpa [Addr.add] using O
  |j+3,y=>simp[V.cells]at y
 ·intro u K;simp[V.cells]at K;rcases K with rfl|rfl|rfl<;>rfl
 ·unfold maxLen;omega
 ·omega
 intro br w' H I _ U;refine h br w' ?_ I U;unfold Yt;simpa [V.cells] using H
theorem zaY {p:Prop}(h:p:=by intro bA w' K O _ U;refine h bA w' ?_ O U;unfold Jo;simpa using K):p:=h
theorem Ks {w M rest o a Q}(bh:o.guard=none)s x t e z H(bi:(Tryz.prog.info? e).map (fun i=>(i.zero,i.size,i.bytes))=some (some z,1,H))(bz:z.cells.size=1)(bf:H<=16)(ht:Tryz.prog.underlying t=some (.slice e))(ho:o.op=.call {callee:=.builtin .append,args:=#[s,x],argTypes:=#[t,t]})B sv xs(hs:a.eval s=sv)(bj:Jo w B e sv xs)I c y(br:a.eval x=.slice (some I) y.length c)(hv:∀ j u,y[j]?=some u->w.cell? (I.add j)=some u)(K:∀ u∈y,u.oneCell'=true)(hlen:xs.length+y.length<=1000000)(Y:B<=w.heap.size)(h:∀ sv' w',Jo w' B e sv' (xs++y)->w.grownBy w' sv.ownBlock->(sv'.ownBlock=sv.ownBlock\/sv'.ownBlock=some w.heap.size)->wpList Tryz.prog M Q rest (a.put o.dst sv') w'):
  wpList Tryz.prog M Q (o::rest) a w:=by
 obtain⟨i,hi,bx,bk,Z⟩:=info_parts bi;refine wpList_append_own_at w bh s x t ho B e i _ 1 H ht hi bx bk Z bz zd sv xs.length xs hs bj I y.length c y br zS hv K ?_ ?_ Y ?_
 ·unfold maxLen;omega
 ·have:(xs.length+y.length)*H<=1000000*16:=Ol5 hlen bf;omega
 exact zaY
def Uh (w:World)(a:Option Addr)(xs:List Value):Prop:=
 xs=[]\/∃ b o,a=some ⟨b,o,none⟩/\b<w.heap.size/\∀ i v,xs[i]?=some v->w.cell? ⟨b,o+i,none⟩=some v
theorem Uh.of_block {w w' a xs}(h:Uh w a xs)(hs:w.heap.size<=w'.heap.size)(e:∀ b o,a=some ⟨b,o,none⟩->b<w.heap.size->w'.heap[b]?=w.heap[b]?):Uh w' a xs:=by
 rcases h with h|⟨b,o,y,hb,h⟩
 ·exact .inl h
 exact .inr ⟨b,o,y,zo,fun i v hv=>by rw[Oc3 (w:=w) (e b o y hb)];exact h i v hv⟩
theorem Uh.below {w w' a xs}(h:Uh w a xs)(hb:Below w.heap.size w w'):Uh w' a xs:=
 h.of_block hb.size fun b _ _ y=>hb.block b y
theorem Uh.at {w a xs}(h:Uh w a xs){i}(hi:i<xs.length):
  ∃ b o,a=some ⟨b,o,none⟩/\b<w.heap.size/\w.cell? ⟨b,o+i,none⟩=some xs[i]:=by
 rcases h with h|⟨b,o,y,hb,h⟩
 ·subst h;simp at hi
 exact⟨b,o,y,hb,h i xs[i] (by simp[hi])⟩
theorem zat {p:Prop}(h:p:=by
 rcases Oc1 g w.heap.size with y|y
 ·exact y
 simp[Array.getElem?_eq_none y]at H):p:=h
theorem Jo.cells {w B e sv xs}(h:Jo w B e sv xs):∃ a cap,sv=.slice a xs.length cap/\Uh w a xs:=by
 obtain⟨hl,h⟩:=h;rcases h with⟨hv,h0⟩|⟨g,cap,M,hv,_,H,_,_,_,I⟩
 ·have:xs=[]:=Od3.1 h0;subst this;exact⟨none,0,hv,.inl rfl⟩
 refine⟨some ⟨g,0,none⟩,cap,hv,.inr ⟨g,0,rfl,?_,?_⟩⟩
 ·exact zat
 intro i v hi;rw[<-I]at hi;have K:i<xs.length*1:=by
  rcases Oc1 i (xs.length*1)with y|y
  ·exact y
  rw[List.getElem?_take_eq_none y]at hi;simp at hi
 rw[Oh3 K]at hi;simp only[Oe6]at hi;simp[World.cell?,H,hi]
def bv (b:UInt8):Value:=.int .u8 (b.toNat:Int)
theorem Jt0 l:∀ s:ByteArray,(l.map fun b=>(b.toNat:Int)).foldl (fun r n=>r.push (UInt8.ofNat n.toNat)) s=s++Qw l:=by
 induction l with
 |nil=>intro s;unfold Qw;rw[Om5];simp
 |cons b l y=>
  intro s;simp only[Oe4,List.foldl_cons];rw[y];have:UInt8.ofNat (Int.toNat (b.toNat:Int))=b:=zS;rw[this];unfold Qw;rw[Om5];simp[ByteArray.push]
theorem Jc6 w y c l(h:∀ j u,(l.map bv)[j]?=some u->w.cell? (y.add j)=some u):
  (convert 197 9 (.slice (some y) l.length c)).run Tryz.prog w=.ok (.string (Qw l)) w:=by
 rw[run_convert_bytes_string w 197 9 5 _ _ _ zK zK zK];have hl:=run_loadCells_list (P:=Tryz.prog) (w:=w) y (l.map bv) h;rw[Oa6]at hl;rw[run_bytesToString w y l.length c (l.map fun b=>(b.toNat:Int)) (by rw[hl,Oi6];rfl)];rw[Jt0];have:ByteArray.empty++Qw l=Qw l:=by unfold Qw;rw[Om5];simp
 rw[this]
def Jz (xs:List V):List V:=xs.filter fun v=>v.k != 0
theorem Zy xs:(Jz xs).length<=xs.length:=List.length_filter_le _ _
theorem Jsh xs v:Jz (xs++[v])=if v.k=0 then Jz xs else Jz xs++[v]:=by
 unfold Jz;rw[List.filter_append];by_cases h:v.k=0<;>simp[h]
theorem Jec (xs:List V)(k:Nat)(h:k<xs.length):xs.take (k+1)=xs.take k++[xs[k]]:=Oc4 h
theorem Yr a cap xs w(hn:xs.length<=64)(Z:Jv w a xs):
  Calls Tryz.prog 91 #[.slice a xs.length cap] w fun e w'=>∃ sv,e=.returned sv/\Yt w' w.heap.size sv (Jz xs)/\Below w.heap.size w w':=by
 go_enter Tryz.func91,Tryz.ntmps91
 go_wp2;go_loopw [3,8] (fun sv i wr=>∃ k:Nat,k<=xs.length/\i=.int .i64 k/\Yt wr w.heap.size sv (Jz (xs.take k))/\Below w.heap.size w wr) (fun _ i _=>xs.length-(intOf i).toNat)
 case atStart=>exact⟨0,Ob7 _,rfl,Yt.nil _ _,Oa5 _ _⟩
 case round=>
  rename_i sv i
  obtain⟨k,hk,rfl,H,y⟩:=hrel;by_cases K:k<xs.length
  ·obtain⟨b1,bk,rfl,bh,x1,x2,br⟩:=(Z.below y).at K;have hts:=Jsh (xs.take k) xs[k];rw[<-Jec xs k K]at hts;have bi:=Zy (xs.take k);have bj:(xs.take k).length<=k:=List.length_take_le _ _;by_cases h0:xs[k].k=0
   ·rw[if_pos h0]at hts;have I:Hid _:=hts;clear hts;have O:(xs[k].k != 0)=false:=(by simp[h0]);have M:=zh h0;clear h0;go_wp2;go_roundw
    case rel=>exact⟨k+1,zo,zn,by rw[I.out];exact H.alloc _,Jc y _⟩
    case measure=>simp[intOf];omega
   rw[if_neg h0]at hts;have I:Hid _:=hts;clear hts;have O:(xs[k].k != 0)=true:=(by simp[h0]);have M:=zh h0;clear h0;go_wp2_with (at_builtin;refine Jcj zR _ _ zR w.heap.size _ _ zR ((H.alloc _).alloc _) _ _ xs[k] zR (by refine⟨?_,?_,?_⟩<;>simp) zo (by simp;have:=y.size;omega) ?_;intro sv' w1 U Y bf)
   go_roundw
   case rel=>
    refine⟨k+1,zo,zn,by rw[I.out];exact U,?_⟩;exact Jy (Jc (Jc y _) _) Y fun k hk=>(Je H hk).1
   case measure=>simp[intOf];omega
  go_wp2;go_ret
  have e:xs.take k=xs:=Oc8 zo;rw[e]at H;exact⟨_,rfl,H,y⟩
def Ym:List V->List V->List V
 |d,[]=>d
 |d,v::l=>Ym (if place d v<d.length then d else d++[v]) l
theorem Jk0 l:∀ d,(Ym d l).length<=d.length+l.length:=by
 induction l with
 |nil=>intro d;simp[Ym]
 |cons u l y=>
  intro d;simp only[Ym];refine Ob2 (y _) ?_;split<;>simp<;>omega
def Qe (v:V):List V->Nat
 |[]=>0
 |u::l=>if u.beq v then Qe v l+1 else 0
theorem Jjn v l:Qe v l<=l.length:=by
 induction l with
 |nil=>simp[Qe]
 |cons u l y=>unfold Qe;split<;>simp;omega
def Jn:Int->List V->Int
 |m,[]=>m
 |m,v::l=>Jn (if v.n<m then v.n else m) l
theorem Jhx {w b t n f}(h:w.rowIs b t n f){B}(H:B<=b)(hn:n<=maxLen)xs(hl:xs.length=n)(K:∀ i (hi:i<xs.length),xs[i]=f i):
  Jo w B t (.slice (some ⟨b,0,none⟩) n n) xs:=by
 obtain⟨c,hb,hs,I⟩:=h;refine⟨zo,.inr ⟨b,n,c,by rw[hl],H,hb,zo,hn,zo,?_⟩⟩;apply Oh4
 ·simp;omega
 intro i M y;rw[K i y];have:=I i zo;simp only[List.getElem_take,Array.getElem_toList];rw[Oe2]at this;exact this.2
def uv (n:Nat):Value:=.int .u64 (n:Int)
def dif (n least:Int):Nat:=u64 (n-least)
def Uv (xs:List V)(least:Int):List Nat:=xs.map fun v=>dif v.n least
def Yz:Nat->List Nat->Nat
 |m,[]=>m
 |m,n::l=>Yz (if m<n then n else m) l
theorem Jk2 b l:∀ m,m<b->(∀ n∈l,n<b)->Yz m l<b:=by
 induction l with
 |nil=>intro m y _;exact y
 |cons u l H=>
  intro m y h;simp only[Yz];refine H _ ?_ fun n hn=>h n (Og1 _ hn);have:=h u (Of4);split<;>omega
end
open Go.RowKit Go.Extern.Stop Go.Stop Go.Extern
def Yu (w:World)(v:Value)(a:Addr)(c p:Option Int):Prop:=
 (v=.iface 432 (.pointer (some a))/\c=none/\p=none) \/
 (∃ (b:Nat) (y:Int),v=.iface 156 (.pointer (some ⟨b,0,none⟩))/\c=none/\p=some y/\w.cell? ⟨b,0,none⟩=some (.iface 432 (.pointer (some a)))/\w.cell? ⟨b,1,none⟩=some (.int .i64 y)) \/
 (∃ (b:Nat) (x:Int),v=.iface 123 (.pointer (some ⟨b,0,none⟩))/\c=some x/\p=none/\w.cell? ⟨b,1,none⟩=some (.int .i64 x)/\w.cell? ⟨b,2,none⟩=some (.iface 432 (.pointer (some a)))) \/
 (∃ (b d:Nat) (x y:Int),v=.iface 123 (.pointer (some ⟨b,0,none⟩))/\c=some x/\p=some y/\w.cell? ⟨b,1,none⟩=some (.int .i64 x)/\w.cell? ⟨b,2,none⟩=some (.iface 156 (.pointer (some ⟨d,0,none⟩)))/\w.cell? ⟨d,0,none⟩=some (.iface 432 (.pointer (some a)))/\w.cell? ⟨d,1,none⟩=some (.int .i64 y))
theorem Yu.root {w}a:Yu w (.iface 432 (.pointer (some a))) a none none:=.inl ⟨rfl,rfl,rfl⟩
theorem Yu.disk {w}b a p(h0:w.cell? ⟨b,0,none⟩=some (.iface 432 (.pointer (some a))))(y:w.cell? ⟨b,1,none⟩=some (.int .i64 p)):Yu w (.iface 156 (.pointer (some ⟨b,0,none⟩))) a none (some p):=.inr (.inl ⟨b,p,rfl,rfl,rfl,h0,y⟩)
theorem Yu.tab {w}b a c(y:w.cell? ⟨b,1,none⟩=some (.int .i64 c))(H:w.cell? ⟨b,2,none⟩=some (.iface 432 (.pointer (some a)))):Yu w (.iface 123 (.pointer (some ⟨b,0,none⟩))) a (some c) none:=.inr (.inr (.inl ⟨b,c,rfl,rfl,rfl,y,H⟩))
theorem Yu.both {w}b d a c p(y:w.cell? ⟨b,1,none⟩=some (.int .i64 c))(H:w.cell? ⟨b,2,none⟩=some (.iface 156 (.pointer (some ⟨d,0,none⟩))))(I:w.cell? ⟨d,0,none⟩=some (.iface 432 (.pointer (some a))))(K:w.cell? ⟨d,1,none⟩=some (.int .i64 p)):Yu w (.iface 123 (.pointer (some ⟨b,0,none⟩))) a (some c) (some p):=.inr (.inr (.inr ⟨b,d,c,p,rfl,rfl,rfl,y,H,I,K⟩))
theorem Yu.disk_at {w b a c p}(h:Yu w (.iface 156 (.pointer (some ⟨b,0,none⟩))) a c (some p)):w.cell? ⟨b,0,none⟩=some (.iface 432 (.pointer (some a)))/\w.cell? ⟨b,1,none⟩=some (.int .i64 p):=by
 rcases h with⟨_,_,hp⟩|⟨y,I,hv,_,hp,h0,H⟩|⟨y,x,hv,_⟩|⟨y,d,x,I,hv,_⟩
 ·simp at hp
 ·simp at hv hp;subst hv hp;exact⟨h0,H⟩
 ·simp at hv
 simp at hv
theorem Jd {w:World}{k:Nat}{o:Obj}(h:w.heap[k]?=some o):k<w.heap.size:=by
 rcases Oc1 k w.heap.size with y|y
 ·exact y
 simp[Array.getElem?_eq_none y]at h
theorem Ja {w w'}(hb:Below w.heap.size w w'){b o v}(h:w.cell? ⟨b,o,none⟩=some v):w'.cell? ⟨b,o,none⟩=some v:=by
 rw[(Kx hb).1 b o (Jm h)];exact h
theorem Yu.below {w w' v a c p}(h:Yu w v a c p)(hb:Below w.heap.size w w'):Yu w' v a c p:=by
 rcases h with⟨rfl,rfl,rfl⟩|⟨b,H,rfl,rfl,rfl,h0,y⟩|⟨b,x,rfl,rfl,rfl,h0,y⟩|⟨b,d,x,H,rfl,rfl,rfl,h0,y,I,K⟩
 ·exact .root a
 ·exact .disk b a H (Ja hb h0) (Ja hb y)
 ·exact .tab b a x (Ja hb h0) (Ja hb y)
 exact .both b d a x H (Ja hb h0) (Ja hb y) (Ja hb I) (Ja hb K)
def Kh2 (args : Array Value) : Sem Value := Extern.ReflectliteType.method (fun t => do Go.Extern.Rtype.noPackHeld "Comparable" t; pure (.bool (<- typeInfo t).comparable)) args
theorem Jpv w:(Kh2 #[.agg #[.pointer (some ⟨17,432,none⟩)]]).run Tryz.prog w=.ok (.bool true) w:=zK
theorem Kcb args w:(callFunc 330 args).run Tryz.prog w=((Kh2 args).run Tryz.prog w).andThen fun v w'=>.ok (.value v) w':=
 @run_callFunc_extern Tryz.prog 330 _ (Extern.ReflectliteType.method fun t => do Go.Extern.Rtype.noPackHeld "Comparable" t; pure (.bool (<- typeInfo t).comparable)) Tryz.func330 (by kernel_rfl) (by kernel_rfl) (by kernel_rfl) (by kernel_rfl) args w
theorem Khh:(Tryz.prog.info? 432).map (·.comparable)=some true:=zK
theorem Kha:(Tryz.prog.info? 450).map (·.size)=some 1:=zK
theorem Jhv v w: (Go.method 562 224 v "Comparable").run Tryz.prog w = .ok (330, v) w := by kernel_rfl
theorem Kh9 h w: (Go.method 562 224 (.agg #[h]) "Kind").run Tryz.prog w = .ok (312, h) w := by kernel_rfl
theorem Kii h w: (Go.method 562 224 (.agg #[h]) "Elem").run Tryz.prog w = .ok (331, .agg #[h]) w := by kernel_rfl
theorem Jr3 h w: (Go.method 562 224 (.agg #[h]) "Implements").run Tryz.prog w = .ok (332, .agg #[h]) w := by kernel_rfl
theorem Jsu h w: (Go.method 562 224 (.agg #[h]) "AssignableTo").run Tryz.prog w = .ok (329, .agg #[h]) w := by kernel_rfl
theorem Jld v w:(ReflectliteType.typeOf #[.iface 432 v]).run Tryz.prog w=.ok (.iface 224 (.agg #[.pointer (some ⟨17,432,none⟩)])) w:=zK
theorem Kcw v y w:(Instr.typeAssert (.iface 432 v) y 226 true).run Tryz.prog w=.ok (.tuple #[.nilIface,.bool false]) w:=run_typeAssert_lacksB Tryz.underlying226 zK zK v y w
theorem Kb9 v y w:(Instr.typeAssert (.iface 432 v) y 236 true).run Tryz.prog w=.ok (.tuple #[.nilIface,.bool false]) w:=run_typeAssert_lacksB Tryz.underlying236 zK zK v y w
theorem Jhb v y w:(Instr.typeAssert (.iface 432 v) y 231 true).run Tryz.prog w=.ok (.tuple #[.nilIface,.bool false]) w:=run_typeAssert_lacksB Tryz.underlying231 zK zK v y w
theorem Jmp v y w:(Instr.typeAssert (.iface 432 v) y 229 true).run Tryz.prog w=.ok (.tuple #[.nilIface,.bool false]) w:=run_typeAssert_lacksB Tryz.underlying229 zK zK v y w
structure IsW (ty off un:Nat):Prop where
 ne:ty≠432
 noIs:∀ (v:Value) (xT:TypeId) (w:World),(Instr.typeAssert (.iface ty v) xT 226 true).run Tryz.prog w=.ok (.tuple #[.nilIface,.bool false]) w
 noAs:∀ (v:Value) (xT:TypeId) (w:World),(Instr.typeAssert (.iface ty v) xT 236 true).run Tryz.prog w=.ok (.tuple #[.nilIface,.bool false]) w
 unwrap:∀ (v:Value) (xT:TypeId) (w:World),(Instr.typeAssert (.iface ty v) xT 229 true).run Tryz.prog w=.ok (.tuple #[.iface ty v,.bool true]) w
 meth : ∀ (v : Value) (w : World), (Go.method 562 ty v "Unwrap").run Tryz.prog w = .ok (un, v) w
 enter:∀ (args:Array Value) (w:World),(callFunc un args).run Tryz.prog w=.ok (.enter un args) w
 eql:∀ (v u:Value) (w:World),(binOp .eql 78 (.iface ty v) (.iface 432 u)).run Tryz.prog w=.ok (.bool false) w
 typ:∀ (v:Value) (w:World),(ReflectliteType.typeOf #[.iface ty v]).run Tryz.prog w=.ok (.iface 224 (.agg #[.pointer (some ⟨17,ty,none⟩)])) w
 walk:∀ (b:Nat) (v:Value) (w:World),w.cell? ⟨b,off,none⟩=some v->Calls Tryz.prog un #[.pointer (some ⟨b,0,none⟩)] w fun e w'=>e=.returned v/\w'=w
theorem Jab:IsW 123 2 318 where
 ne:=zd
 noIs:=fun v y w=>run_typeAssert_lacksB Tryz.underlying226 zK zK v y w
 noAs:=fun v y w=>run_typeAssert_lacksB Tryz.underlying236 zK zK v y w
 unwrap:=fun v y w=>run_typeAssert_hasB Tryz.underlying229 zK v y w
 meth:=fun v w=>by kernel_rfl
 enter:=fun args w=>by kernel_rfl
 eql:=fun v u w=>run_eql_iface_types 123 432 v u Tryz.underlying78 zd w
 typ:=fun v w=>by kernel_rfl
 walk:=fun b v w h=>by
  go_enter Tryz.func318,Tryz.ntmps318
  go_wp2;go_ret
  exact⟨rfl,rfl⟩
theorem Zi:IsW 156 0 324 where
 ne:=zd
 noIs:=fun v y w=>run_typeAssert_lacksB Tryz.underlying226 zK zK v y w
 noAs:=fun v y w=>run_typeAssert_lacksB Tryz.underlying236 zK zK v y w
 unwrap:=fun v y w=>run_typeAssert_hasB Tryz.underlying229 zK v y w
 meth:=fun v w=>by kernel_rfl
 enter:=fun args w=>by kernel_rfl
 eql:=fun v u w=>run_eql_iface_types 156 432 v u Tryz.underlying78 zd w
 typ:=fun v w=>by kernel_rfl
 walk:=fun b v w h=>by
  go_enter Tryz.func324,Tryz.ntmps324
  go_wp2;go_ret
  exact⟨rfl,rfl⟩
theorem Jdg:IsW 105 1 316 where
 ne:=zd
 noIs:=fun v y w=>run_typeAssert_lacksB Tryz.underlying226 zK zK v y w
 noAs:=fun v y w=>run_typeAssert_lacksB Tryz.underlying236 zK zK v y w
 unwrap:=fun v y w=>run_typeAssert_hasB Tryz.underlying229 zK v y w
 meth:=fun v w=>by kernel_rfl
 enter:=fun args w=>by kernel_rfl
 eql:=fun v u w=>run_eql_iface_types 105 432 v u Tryz.underlying78 zd w
 typ:=fun v w=>by kernel_rfl
 walk:=fun b v w h=>by
  go_enter Tryz.func316,Tryz.ntmps316
  go_wp2;go_ret
  exact⟨rfl,rfl⟩
theorem Jc8:IsW 147 2 320 where
 ne:=zd
 noIs:=fun v y w=>run_typeAssert_lacksB Tryz.underlying226 zK zK v y w
 noAs:=fun v y w=>run_typeAssert_lacksB Tryz.underlying236 zK zK v y w
 unwrap:=fun v y w=>run_typeAssert_hasB Tryz.underlying229 zK v y w
 meth:=fun v w=>by kernel_rfl
 enter:=fun args w=>by kernel_rfl
 eql:=fun v u w=>run_eql_iface_types 147 432 v u Tryz.underlying78 zd w
 typ:=fun v w=>by kernel_rfl
 walk:=fun b v w h=>by
  go_enter Tryz.func320,Tryz.ntmps320
  go_wp2;go_ret
  exact⟨rfl,rfl⟩
theorem Ke7:IsW 148 2 322 where
 ne:=zd
 noIs:=fun v y w=>run_typeAssert_lacksB Tryz.underlying226 zK zK v y w
 noAs:=fun v y w=>run_typeAssert_lacksB Tryz.underlying236 zK zK v y w
 unwrap:=fun v y w=>run_typeAssert_hasB Tryz.underlying229 zK v y w
 meth:=fun v w=>by kernel_rfl
 enter:=fun args w=>by kernel_rfl
 eql:=fun v u w=>run_eql_iface_types 148 432 v u Tryz.underlying78 zd w
 typ:=fun v w=>by kernel_rfl
 walk:=fun b v w h=>by
  go_enter Tryz.func322,Tryz.ntmps322
  go_wp2;go_ret
  exact⟨rfl,rfl⟩
def Zg (w:World):Nat->Value->Addr->Prop
 |0,v,a=>v=.iface 432 (.pointer (some a))
 |n+1,v,a=>∃ (ty off y b:Nat) (u:Value),IsW ty off y/\v=.iface ty (.pointer (some ⟨b,0,none⟩))/\w.cell? ⟨b,off,none⟩=some u/\Zg w n u a
def Asg (ty tg : Nat) (r : Bool) : Prop := ∀ w : World, (ReflectliteType.relation "AssignableTo" ReflectliteType.assignableTo #[.agg #[.pointer (some ⟨17, ty, none⟩)], .iface 224 (.agg #[.pointer (some ⟨17, tg, none⟩)])]).run Tryz.prog w = .ok (.bool r) w
def Qn (w:World)(y off:Nat):Nat->Value->Option Int->Prop
 |0,v,x=>(∃ a,v=.iface 432 (.pointer (some a))/\x=none)\/∃ (b:Nat) (H:Int),v=.iface y (.pointer (some ⟨b,0,none⟩))/\x=some H/\w.cell? ⟨b,off,none⟩=some (.int .i64 H)
 |n+1,v,x=>∃ (ty o I b:Nat) (u:Value),IsW ty o I/\Asg ty y false/\v=.iface ty (.pointer (some ⟨b,0,none⟩))/\w.cell? ⟨b,o,none⟩=some u/\Qn w y off n u x
theorem Zg.root {w}a:Zg w 0 (.iface 432 (.pointer (some a))) a:=rfl
theorem Zg.wrap {w}n ty off y b v a(hw:IsW ty off y)(H:w.cell? ⟨b,off,none⟩=some v)(h:Zg w n v a):Zg w (n+1) (.iface ty (.pointer (some ⟨b,0,none⟩))) a:=⟨ty,off,y,b,v,hw,rfl,H,h⟩
theorem Qn.root {w y off}a:Qn w y off 0 (.iface 432 (.pointer (some a))) none:=.inl ⟨a,rfl,rfl⟩
theorem Qn.hit {w H off}b y(h:w.cell? ⟨b,off,none⟩=some (.int .i64 y)):Qn w H off 0 (.iface H (.pointer (some ⟨b,0,none⟩))) (some y):=.inr ⟨b,y,rfl,rfl,h⟩
theorem Qn.miss {w y off}n ty o H b v x(hw:IsW ty o H)(I:Asg ty y false)(K:w.cell? ⟨b,o,none⟩=some v)(h:Qn w y off n v x):Qn w y off (n+1) (.iface ty (.pointer (some ⟨b,0,none⟩))) x:=⟨ty,o,H,b,v,hw,I,rfl,K,h⟩
theorem Zg.stay {w w'}:∀ {n:Nat} {v:Value} {a:Addr},Zg w n v a->Below w.heap.size w w'->Zg w' n v a
 |0,_,_,h,_=>h
 |_+1,_,_,⟨ty,off,H,b,u,hw,hv,y,h⟩,hb=>⟨ty,off,H,b,u,hw,hv,Ja hb y,Zg.stay h hb⟩
theorem Qn.stay {w w' H off}:∀ {n:Nat} {v:Value} {x:Option Int},Qn w H off n v x->Below w.heap.size w w'->Qn w' H off n v x
 |0,_,_,.inl h,_=>.inl h
 |0,_,_,.inr ⟨b,O,hv,K,y⟩,hb=>.inr ⟨b,O,hv,K,Ja hb y⟩
 |_+1,_,_,⟨ty,o,M,b,u,hw,I,hv,y,h⟩,hb=>⟨ty,o,M,b,u,hw,I,hv,Ja hb y,Qn.stay h hb⟩
theorem Zg.iface {w}:∀ {n:Nat} {v:Value} {a:Addr},Zg w n v a->∃ ty x,v=.iface ty x
 |0,_,_,h=>⟨_,_,h⟩
 |_+1,_,_,⟨_,_,_,_,_,_,hv,_⟩=>⟨_,_,hv⟩
theorem Qn.iface {w y off}:∀ {n:Nat} {v:Value} {x:Option Int},Qn w y off n v x->∃ ty x,v=.iface ty x
 |0,_,_,.inl ⟨_,hv,_⟩=>⟨_,_,hv⟩
 |0,_,_,.inr ⟨_,_,hv,_⟩=>⟨_,_,hv⟩
 |_+1,_,_,⟨_,_,_,_,_,_,_,hv,_⟩=>⟨_,_,hv⟩
theorem Jlq:Asg 123 156 false:=fun w=>by kernel_rfl
theorem Jnc:Asg 123 105 false:=fun w=>by kernel_rfl
theorem Jm4:Asg 123 147 false:=fun w=>by kernel_rfl
theorem Jgm:Asg 123 148 false:=fun w=>by kernel_rfl
theorem Jtw:Asg 156 123 false:=fun w=>by kernel_rfl
theorem Jkg:Asg 156 105 false:=fun w=>by kernel_rfl
theorem Jj6:Asg 156 147 false:=fun w=>by kernel_rfl
theorem Jfb:Asg 156 148 false:=fun w=>by kernel_rfl
theorem Jv1:Asg 105 123 false:=fun w=>by kernel_rfl
theorem Jsi:Asg 105 156 false:=fun w=>by kernel_rfl
theorem Jro:Asg 105 147 false:=fun w=>by kernel_rfl
theorem Jlp:Asg 105 148 false:=fun w=>by kernel_rfl
structure Jny (w:World) (v:Value) (a:Addr) (xn xr xc xp xg xk:Option Int):Prop where
 r:∃ k,Zg w k v a
 n:∃ k,Qn w 105 0 k v xn
 x:∃ k,Qn w 147 0 k v xr
 g:∃ k,Qn w 148 0 k v xg
 c:∃ k,Qn w 123 1 k v xc
 gc:∃ k,Qn w 148 1 k v xk
 p:∃ k,Qn w 156 1 k v xp
abbrev Kip (w:World)(v:Value)(a:Addr)(n c p:Option Int):Prop:=Jny w v a n none c p none none
theorem Jny.below {w w' v a n r c p g gc}(h:Jny w v a n r c p g gc)(hb:Below w.heap.size w w'):Jny w' v a n r c p g gc:=by
 obtain⟨⟨Y,y⟩,⟨Z,H⟩,⟨bf,I⟩,⟨bh,K⟩,⟨bi,M⟩,⟨bj,O⟩,⟨bk,U⟩⟩:=h;exact⟨⟨Y,y.stay hb⟩,⟨Z,H.stay hb⟩,⟨bf,I.stay hb⟩,⟨bh,K.stay hb⟩,⟨bi,M.stay hb⟩,⟨bj,O.stay hb⟩,⟨bk,U.stay hb⟩⟩
theorem Yu.errV {w v a c p}(h:Yu w v a c p):Kip w v a none c p:=by
 rcases h with⟨rfl,rfl,rfl⟩|⟨b,p,rfl,rfl,rfl,h0,H⟩|⟨b,c,rfl,rfl,rfl,H,y⟩|⟨b,d,c,p,rfl,rfl,rfl,H,y,I,K⟩
 ·exact⟨⟨0,.root a⟩,⟨0,.root a⟩,⟨0,.root a⟩,⟨0,.root a⟩,⟨0,.root a⟩,⟨0,.root a⟩,⟨0,.root a⟩⟩
 ·exact⟨⟨1,.wrap _ _ _ _ _ _ _ Zi h0 (.root a)⟩,⟨1,.miss _ _ _ _ _ _ _ Zi Jkg h0 (.root a)⟩,⟨1,.miss _ _ _ _ _ _ _ Zi Jj6 h0 (.root a)⟩,⟨1,.miss _ _ _ _ _ _ _ Zi Jfb h0 (.root a)⟩,⟨1,.miss _ _ _ _ _ _ _ Zi Jtw h0 (.root a)⟩,⟨1,.miss _ _ _ _ _ _ _ Zi Jfb h0 (.root a)⟩,⟨0,.hit _ _ H⟩⟩
 ·exact⟨⟨1,.wrap _ _ _ _ _ _ _ Jab y (.root a)⟩,⟨1,.miss _ _ _ _ _ _ _ Jab Jnc y (.root a)⟩,⟨1,.miss _ _ _ _ _ _ _ Jab Jm4 y (.root a)⟩,⟨1,.miss _ _ _ _ _ _ _ Jab Jgm y (.root a)⟩,⟨0,.hit _ _ H⟩,⟨1,.miss _ _ _ _ _ _ _ Jab Jgm y (.root a)⟩,⟨1,.miss _ _ _ _ _ _ _ Jab Jlq y (.root a)⟩⟩
 exact⟨⟨2,.wrap _ _ _ _ _ _ _ Jab y (.wrap _ _ _ _ _ _ _ Zi I (.root a))⟩,⟨2,.miss _ _ _ _ _ _ _ Jab Jnc y (.miss _ _ _ _ _ _ _ Zi Jkg I (.root a))⟩,⟨2,.miss _ _ _ _ _ _ _ Jab Jm4 y (.miss _ _ _ _ _ _ _ Zi Jj6 I (.root a))⟩,⟨2,.miss _ _ _ _ _ _ _ Jab Jgm y (.miss _ _ _ _ _ _ _ Zi Jfb I (.root a))⟩,⟨0,.hit _ _ H⟩,⟨2,.miss _ _ _ _ _ _ _ Jab Jgm y (.miss _ _ _ _ _ _ _ Zi Jfb I (.root a))⟩,⟨1,.miss _ _ _ _ _ _ _ Jab Jlq y (.hit _ _ K)⟩⟩
