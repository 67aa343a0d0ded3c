/- Plain facts on values of three fields (V), on the cells in which they lie, and on worlds of which the elder part stands. Nothing is said of the program but the layout of its types. -/
import Derived.Test.YtnlnlamdilifcaaGreatDoorProg
import Derived.WalkSpells
import Derived.WalkLawsBesides
import Derived.BigQuiet
import Derived.Deep.Light
import Derived.Deep.OwnRows
import Derived.Deep.RegionHeld
import Derived.Stop.Asserts
import Derived.RowKitTokens
set_option maxHeartbeats 400000
namespace Go.Proofs.YtnlnlamdilifcaaGreatDoor
section
open Go.RowKit
abbrev Pq(b:Nat):Value:=.pointer (some ⟨b,0,none⟩)
abbrev Pr(b o:Nat):Value:=.pointer (some ⟨b,o,none⟩)
abbrev Sq(b:Nat):Nat->Nat->Value:=.slice (some ⟨b,0,none⟩)
abbrev Sr(b o:Nat):Nat->Nat->Value:=.slice (some ⟨b,o,none⟩)
abbrev Sz:Value:=.slice none 0 0
abbrev Iq(n:Int):Value:=.int .i64 n
abbrev iZ:=Iq 0
abbrev iM:=Iq (-1)
abbrev Aq(b:Nat):Addr:=⟨b,0,none⟩
abbrev Ar(b o:Nat):Addr:=⟨b,o,none⟩
abbrev Po(a:Addr):Value:=.pointer (some a)
abbrev Ie(n:Nat)(a:Addr):Value:=.iface n (.pointer (some a))
abbrev Ip(n b:Nat):Value:=.iface n (Pq b)
abbrev Cq:=Calls Tryz.prog
abbrev Bq(w:World):=Below w.heap.size w
theorem zo {p:Prop}(h:p:=by omega):p:=h
theorem zK {p:Prop}(h:p:=by kernel_rfl):p:=h
theorem zS {p:Prop}(h:p:=by simp):p:=h
theorem zd {p:Prop}(h:p:=by decide):p:=h
theorem zR {p:Prop}(h:p:=by rfl):p:=h
theorem zt {p:Prop}(h:p:=by simp;omega):p:=h
theorem zn {p:Prop}(h:p:=by go_num):p:=h
theorem zM {p:Prop}(h:p:=by assumption):p:=h
theorem zh {p}(h:p):Hid p:=h
def zn1 {α:Type}:List α->Nat->Option α
 |[],_=>none
 |a::_,0=>some a
 |_::l,n+1=>zn1 l n
theorem zn2 {α}:∀ (l:List α) (n:Nat),l[n]?=zn1 l n
 |[],_=>by simp[zn1]
 |_::_,0=>rfl
 |_::l,n+1=>by rw[List.getElem?_cons_succ,zn2 l n];rfl
theorem zc {w:World}{b t:Nat}{C:Array Value}{r:Nat×Nat}{v:Value}(o:Nat)(h:w.heap[b]?=some (.cells C t r))(e:zn1 C.toList o=some v:=by rfl):w.cell? (Ar b o)=some v:=by
 rw[<-zn2]at e;simp only[World.cell?,h];rw[<-e];simp
abbrev Oa0:=@List.getD_eq_getElem?_getD
abbrev Oa1:=@List.setIfInBounds_toArray
abbrev Oa2:=@Nat.le_refl
abbrev Oa3:=@List.getElem?_eq_getElem
abbrev Oa4:=@Go.RowKit.Below.heap_setCell
abbrev Oa5:=@Go.RowKit.Below.refl
abbrev Oa6:=@List.length_map
abbrev Oa7:=@Go.World.size_alloc
abbrev Oa8:=@List.length_append
abbrev Oa9:=@Go.RowKit.Below.heap_alloc
abbrev Ob0:=@List.getElem?_append_left
abbrev Ob1:=@List.getElem?_map
abbrev Ob2:=@Nat.le_trans
abbrev Ob3:=@List.getElem_mem
abbrev Ob4:=@List.getElem?_eq_none
abbrev Ob5:=@Go.World.cell?_setCell_other
abbrev Ob6:=@List.getElem?_append_right
abbrev Ob7:=@Nat.zero_le
abbrev Ob8:=@List.map_append
abbrev Ob9:=@List.getElem?_eq_some_iff
abbrev Oc0:=@Go.Oper.semAt_some
abbrev Oc1:=@Nat.lt_or_ge
abbrev Oc2:=@Nat.lt_of_lt_of_le
abbrev Oc3:=@Go.World.cell?_of_block
abbrev Oc4:=@List.take_succ_eq_append_getElem
abbrev Oc5:=@Ne.symm
abbrev Oc6:=@List.mem_singleton
abbrev Oc7:=@List.length_take
abbrev Oc8:=@List.take_of_length_le
abbrev Oc9:=@Option.some.injEq
abbrev Od0:=@Nat.zero_add
abbrev Od1:=@List.getElem?_set_ne
abbrev Od2:=@List.mem_append
abbrev Od3:=@List.length_eq_zero_iff
abbrev Od4:=@Go.IntKind.wrap_i64
abbrev Od5:=@List.getElem_of_mem
abbrev Od6:=@List.length_replicate
abbrev Od7:=@List.append_nil
abbrev Od8:=@List.append_assoc
abbrev Od9:=@List.getElem_map
abbrev Oe0:=@Nat.not_lt_zero
abbrev Oe1:=@Nat.sub_self
abbrev Oe2:=@Array.getElem?_eq_some_iff
abbrev Oe3:=@Nat.lt_irrefl
abbrev Oe4:=@List.map_cons
abbrev Oe5:=@Go.World.cell?_alloc_lt
abbrev Oe6:=@Array.getElem?_toList
abbrev Oe7:=@List.getElem?_take
abbrev Oe8:=@List.flatMap_append
abbrev Oe9:=@Option.map_eq_some_iff
abbrev Of0:=@List.mem_map
abbrev Of1:=@List.mem_cons
abbrev Of2:=@List.take_length
abbrev Of3:=@List.getElem?_replicate
abbrev Of4:=@List.mem_cons_self
abbrev Of5:=@Nat.succ_mul
abbrev Of6:=@List.mem_of_getElem?
abbrev Of7:=@List.length_drop
abbrev Of8:=@List.length_set
abbrev Of9:=@Go.World.var?_cell
abbrev Og0:=@List.nodup_cons
abbrev Og1:=@List.mem_cons_of_mem
abbrev Og2:=@Bool.and_eq_true_iff
abbrev Og3:=@Go.DataW.trod_int
abbrev Og4:=@Go.ByteArray.toList_eq
abbrev Og5:=@Bool.and_eq_true
abbrev Og7:=@List.flatMap_cons
abbrev Og8:=@Go.Sem.run_bind
abbrev Og9:=@Array.getElem?_eq_none
abbrev Oh0:=@List.getElem?_set_self
abbrev Oh1:=@Go.MapKept.heap_alloc
abbrev Oh2:=@Go.Addr.mk.injEq
abbrev Oh3:=@List.getElem?_take_of_lt
abbrev Oh4:=@List.ext_getElem
abbrev Oh5:=@Go.IntKind.wrap_u64
abbrev Oh6:=@List.getElem?_range
abbrev Oh7:=@List.mem_of_mem_drop
abbrev Oh8:=@List.getElem?_mapIdx
abbrev Oh9:=@List.getElem?_drop
abbrev Oi0:=@List.not_mem_nil
abbrev Oi1:=@List.drop_eq_getElem_cons
abbrev Oi2:=@List.getElem_append_left
abbrev Oi3:=@Array.getElem?_modify
abbrev Oi4:=@List.map_nil
abbrev Oi5:=@Nat.mod_eq_of_lt
abbrev Oi6:=@List.map_map
abbrev Oi7:=@List.take_add_one
abbrev Oi8:=@List.ext_getElem?
abbrev Oi9:=@List.length_pos_iff
abbrev Oj1:=@Nat.min_eq_left
abbrev Oj2:=@Nat.eq_zero_or_pos
abbrev Oj3:=@Prod.mk.injEq
abbrev Oj4:=@List.mem_range
abbrev Oj6:=@Option.some.inj
abbrev Oj7:=@List.range_succ
abbrev Oj9:=@List.map_congr_left
abbrev Ok0:=@Array.toList_setIfInBounds
abbrev Ok2:=@List.mem_iff_getElem?
abbrev Ok3:=@List.take_append_drop
abbrev Ok4:=@List.set_append_right
abbrev Ok5:=@List.getElem?_zipWith
abbrev Ok6:=@BitVec.toNat_ofInt
abbrev Ok8:=@List.getElem_append_right
abbrev Ok9:=@Array.replicate_succ
abbrev Ol0:=@Nat.mod_lt
abbrev Ol1:=@List.foldl_append
abbrev Ol2:=@List.append_toArray
abbrev Ol3:=@Go.World.rowIs_made
abbrev Ol4:=@Nat.min_eq_right
abbrev Ol5:=@Nat.mul_le_mul
abbrev Ol7:=@Go.World.frozen?_of_block
abbrev Ol8:=@List.drop_of_length_le
abbrev Ol9:=@Bool.false_eq_true
abbrev Om0:=@List.mem_filter
abbrev Om3:=@List.size_toArray
abbrev Om4:=@List.push_toArray
abbrev Om5:=@ByteArray.ext_iff
abbrev Om7:=@List.getElem?_append
abbrev Om8:=@Nat.mul_le_mul_right
abbrev Om9:=@List.mem_of_mem_take
abbrev On0:=@List.set_eq_take_append_cons_drop
abbrev On1:=@Nat.testBit_eq_decide_div_mod_eq
abbrev On2:=@Nat.lt_succ_self
abbrev On3:=@List.countP_cons
abbrev On4:=@Nat.le_mul_of_pos_right
abbrev On5:=@Nat.add_assoc
abbrev On7:=@Bool.eq_iff_iff
abbrev On8:=@Go.Value.slice.injEq
abbrev On9:=@Go.World.frozen?_setCell
abbrev Oo1:=@Bool.not_eq_true
abbrev Oo2:=@Nat.shiftLeft_eq
abbrev Oo3:=@Go.World.cell?_spot
abbrev Oo6:=@Nat.div_le_self
abbrev Oo7:=@List.getElem_range
abbrev Oo8:=@Nat.xor_lt_two_pow
abbrev Oo9:=@Nat.zero_mul
abbrev Op0:=@List.map_set
abbrev Op1:=@List.length_range
abbrev Op2:=@List.getElem?_set
abbrev Op3:=@List.nodup_append
abbrev Op5:=@List.mem_flatMap
abbrev Op6:=@Nat.div_eq_of_lt
abbrev Op7:=@Go.Addr.add_lit
theorem tk {P K y Q S H fuel I a w}i v(hi:y[i]?=some H)(M:S w)(hy:∀ w,S w->(execOp a.eval H).run P w=.ok (.value v) w)(h:wpAnyH P K y Q S fuel (I.setIfInBounds i true) (a.put H.dst v) w)(hr:(Region.ready K y I).contains i=true:=by kernel_rfl)(O:Region.free K y I i=true:=by kernel_rfl)(hs:Region.noSelect y=true:=by kernel_rfl)(hQ:∀ c a w,Q (.panic c) (a.put H.dst v) w->Q (.panic c) a w:=by exact fun _ _ _ h=>h)(U:Region.wanted H (yielded y a.tmps)=true:=by rfl):wpAnyH P K y Q S (fuel+1) I a w:=
 wpAnyH_take hi hs O hr hQ (.inl ⟨U,hy⟩) M h
theorem tkj {P K y Q S H fuel I a w v}i(hi:y[i]?=some H)(M:S w)(h:wpAnyH P K y Q S fuel (I.setIfInBounds i true) (a.put H.dst v) w)(hr:(Region.ready K y I).contains i=true:=by kernel_rfl)(U:Region.free K y I i=true:=by kernel_rfl)(hs:Region.noSelect y=true:=by kernel_rfl)(hy:∀ w,S w->(execOp a.eval H).run P w=.ok (.value v) w:=by intro w O;(try dsimp only at O);go_simp;try rfl)(hQ:∀ c a w,Q (.panic c) (a.put H.dst v) w->Q (.panic c) a w:=by exact fun _ _ _ h=>h)(Y:Region.wanted H (yielded y a.tmps)=true:=by rfl):wpAnyH P K y Q S (fuel+1) I a w:=
 wpAnyH_take hi hs U hr hQ (.inl ⟨Y,hy⟩) M h
theorem tkn {p q:Prop}(h:q)(e:p=q:=by conv=>lhs;simp only[Act.put,List.getElem_toArray,List.getElem_cons_zero,List.getElem_cons_succ,Oa1,List.set_cons_zero,List.set_cons_succ]):p:=e▸h
theorem tkr {P K y Q S o fuel I a w}i(ho:y[i]?=some o)(h:∀ H:Act->World->Prop,Shut (∀ a w,S w->(S w->wpAnyH P K y Q S fuel (I.setIfInBounds i true) a w)->H a w)->if Region.wanted o (yielded y a.tmps)=true then Oper.wp P o a w H Q else H (a.put o.dst undef) w)(hr:Region.ready K y I=[i]:=by kernel_rfl):wpAnyH P K y Q S (fuel+1) I a w:=wpAnyH_ready hr zS (AllReadyH.cons ho h AllReadyH.nil)
structure V where
 k:Int
 n:Int
 s:ByteArray
theorem V.ext' {v u:V}(y:v.k=u.k)(H:v.n=u.n)(I:v.s=u.s):v=u:=by cases v;cases u;simp_all
def veq (k n:Int)(s:ByteArray)(y H:Int)(I:ByteArray):Bool:=k==y&&(n==H&&s==I)
def V.beq (v u:V):Bool:=veq v.k v.n v.s u.k u.n u.s
theorem Kaq (a b:ByteArray):(a==b)=true↔a=b:=by
 rw[beq_toListBytes,beq_iff_eq,Og4,Og4];constructor
 ·intro h;obtain⟨⟨x⟩⟩:=a;obtain⟨⟨y⟩⟩:=b;simp at h;rw[h]
 rintro rfl;rfl
theorem V.beq_iff (v u:V):v.beq u=true↔v=u:=by
 unfold V.beq veq;rw[Og5,Og5,beq_iff_eq,beq_iff_eq,Kaq];constructor
 ·intro h;exact V.ext' h.1 h.2.1 h.2.2
 rintro rfl;exact⟨rfl,rfl,rfl⟩
theorem V.beq_false (v u:V):v.beq u=false↔v≠u:=by
 rw[<-Oo1,V.beq_iff]
def V.cells (v:V):List Value:=[Iq v.k,Iq v.n,.string v.s]
abbrev V.val (v:V):Value:=.agg #[Iq v.k,Iq v.n,.string v.s]
def VAt (w:World)(b o:Nat)(v:V):Prop:=
 w.cell? (Ar b o)=some (Iq v.k)/\w.cell? (Ar b (o+1))=some (Iq v.n)/\w.cell? (Ar b (o+2))=some (.string v.s)
def Jv (w:World)(a:Option Addr)(vs:List V):Prop:=
 vs=[]\/∃ b o,a=some (Ar b o)/\b<w.heap.size/\∀ i v,vs[i]?=some v->VAt w b (o+i*3) v
theorem VAt.of_block {w w' b o v}(h:VAt w b o v)(e:w'.heap[b]?=w.heap[b]?):VAt w' b o v:=by
 obtain⟨y,H,I⟩:=h;exact⟨by rw[Oc3 (w:=w) e];exact y,by rw[Oc3 (w:=w) e];exact H,by rw[Oc3 (w:=w) e];exact I⟩
theorem Jm {w:World}{a:Addr}{v:Value}(h:w.cell? a=some v):a.block<w.heap.size:=by
 rcases Oc1 a.block w.heap.size with y|y
 ·exact y
 simp[World.cell?,Array.getElem?_eq_none y]at h
theorem Jv.nil w a:Jv w a []:=.inl rfl
theorem Jv.of_block {w w' a vs}(h:Jv w a vs)(hs:w.heap.size<=w'.heap.size)(e:∀ b o,a=some (Ar b o)->b<w.heap.size->w'.heap[b]?=w.heap[b]?):Jv w' a vs:=by
 rcases h with h|⟨b,o,y,hb,h⟩
 ·exact .inl h
 exact .inr ⟨b,o,y,zo,fun i v hv=>(h i v hv).of_block (e b o y hb)⟩
theorem Jv.below {w w' a vs}(h:Jv w a vs)(hb:Bq w w'):Jv w' a vs:=
 h.of_block hb.size fun b _ _ y=>hb.block b y
theorem Jv.at {w a vs}(h:Jv w a vs){i}(hi:i<vs.length):
  ∃ b o,a=some (Ar b o)/\b<w.heap.size/\VAt w b (o+i*3) vs[i]:=by
 rcases h with h|⟨b,o,y,hb,h⟩
 ·subst h;simp at hi
 exact⟨b,o,y,hb,h i vs[i] (by simp[hi])⟩
theorem Jp {B a w}(h:Below B a w)n:Below B a (w.drewN n):=⟨h.os,h.tape,h.output,h.size,h.block⟩
theorem Kep (w:World)(o:Obj):w.heap.size<=(w.alloc o).heap.size:=zS
theorem Qx {w w' o}(h:Below (w.alloc o).heap.size (w.alloc o) w'):Bq w w':=
 ((Oa5 _ _).alloc (Oa2 _) _).trans (h.mono (Kep _ _))
theorem Kx {w w'}(h:Bq w w'):(∀ b o,b<w.heap.size->w'.cell? (Ar b o)=w.cell? (Ar b o))/\(∀ b o,b<w.heap.size->w'.frozen? ⟨b,o,none⟩=w.frozen? ⟨b,o,none⟩):=
 ⟨fun _ _ hb=>h.cell (p:=⟨_,_,none⟩) hb,fun _ _ hb=>h.frozen (p:=⟨_,_,none⟩) hb⟩
theorem Jb {w wr w'}(h:Bq w wr)(k:Bq wr w'):Bq w w':=h.trans (k.mono h.size)
theorem Jc {w wr}(h:Bq w wr)o:Bq w (wr.alloc o):=h.alloc h.size o
theorem Jw {B a w}(h:Below B a.drew w):Below B a w:=⟨h.os,h.tape,h.output,h.size,h.block⟩
theorem Um {B a w b}(h:Below B a w)(hb:B<=b)y H I K M:
  Below B a (((((w.setCell (Aq b) y).setCell (Ar b 1) H).setCell (Ar b 2) I).setCell (Ar b 3) K).setCell (Ar b 4) M):=
 ((((h.setCell (p:=Aq b) hb y).setCell (p:=Ar b 1) hb H).setCell (p:=Ar b 2) hb I).setCell (p:=Ar b 3) hb K).setCell (p:=Ar b 4) hb M
theorem Qr {a b}(h:a=b):Ending.returned (.bool a)=.returned (.bool b):=by rw[h]
theorem Yp {k:IntKind}{a b}(h:a=b):Ending.returned (.int k a)=.returned (.int k b):=by rw[h]
theorem Jow:(Tryz.prog.info? 65).map (fun i=>(i.zero,i.size,i.bytes))=some (some (.agg #[iZ,iZ,.string ⟨#[]⟩]),3,32):=zK
theorem Jfa:(Tryz.prog.info? 5).map (fun i=>(i.zero,i.size,i.bytes))=some (some (.int .u8 0),1,1):=zK
theorem Jiq:(Tryz.prog.info? 235).map (fun i=>(i.zero,i.size,i.bytes))=some (some (.int .u64 0),1,8):=zK
theorem Jpo {w Y sv n vs}(h:w.ownsRow Y 65 3 sv n (vs.flatMap V.cells)):
  n=vs.length/\∃ a cap,sv=.slice a vs.length cap/\Jv w a vs:=by
 obtain⟨hl,h⟩:=h;have hlen:(vs.flatMap V.cells).length=vs.length*3:=by
  clear hl h;induction vs with
  |nil=>rfl
  |cons v vs O=>simp[V.cells]at O |-;omega
 have bh:n=vs.length:=zo;subst bh;refine⟨rfl,?_⟩;rcases h with⟨hv,h0⟩|⟨g,cap,bi,hv,_,U,_,_,_,bf⟩
 ·have:vs=[]:=Od3.1 h0;subst this;exact⟨none,0,hv,.inl rfl⟩
 refine⟨some (Aq g),cap,hv,.inr ⟨g,0,rfl,?_,?_⟩⟩
 ·rcases Oc1 g w.heap.size with y|y
  ·exact y
  simp[Array.getElem?_eq_none y]at U
 intro i v hi;have bj:i<vs.length:=by
  rcases Oc1 i vs.length with y|y
  ·exact y
  simp[List.getElem?_eq_none y]at hi
 have key:∀ (H:List V) (i:Nat) (v:V),H[i]?=some v->(H.flatMap V.cells)[i*3]?=some (Iq v.k)/\(H.flatMap V.cells)[i*3+1]?=some (Iq v.n)/\(H.flatMap V.cells)[i*3+2]?=some (.string v.s):=by
  intro H;induction H with
  |nil=>intro i v h;simp at h
  |cons u H O=>
   intro i v h;cases i with
   |zero=>simp at h;subst h;simp[V.cells]
   |succ i=>
    have:=O i v (by simpa using h);have Z:(i+1)*3=i*3+3:=zo;simp only[Og7,V.cells,Z];simpa using this
 obtain⟨I,K,M⟩:=key vs i v hi;rw[<-bf]at I K M;rw[Oh3 zo]at I K M;simp only[Oe6]at I K M;unfold VAt;simp only[World.cell?,U,Od0];simp[I,K,M]
theorem Kfm : (Tryz.prog.fieldsOf 65).toList.map (fun f => (f.name, f.type, f.offset)) = [("Kind", 3, 0), ("N", 2, 1), ("S", 9, 2)] := by kernel_rfl
theorem Kg8:Tryz.prog.underlying 65=some (.struct (Tryz.prog.fieldsOf 65)):=zK
theorem Kiq:Tryz.prog.stoodInHeld 65=false:=zK
theorem Jdy w k n y H s I:
  (Op.equal 65 (.agg #[Iq k,Iq n,.string s]) (.agg #[Iq y,Iq H,.string I])).run Tryz.prog w=.ok (veq k n s y H I) w:=by
 rw[Op.equal,Op.maxDepth,run_equalIn_struct w 9999 65 _ _ Kg8 Kiq];have h:=Kfm;generalize (Tryz.prog.fieldsOf 65).toList=K at h;rcases K with _|⟨br,_|⟨bx,_|⟨bz,_|⟨bA,K⟩⟩⟩⟩
 ·simp at h
 ·simp at h
 ·simp at h
 ·simp at h;obtain⟨⟨O,U,Y⟩,⟨Z,bf,bh⟩,bi,bj,bk⟩:=h;simp[Op.eqFields,O,U,Y,Z,bf,bh,bi,bj,bk,part,sizeOf,go_sem];simp only[veq,beq_toListBytes];by_cases a1:k=y<;>by_cases a2:n=H<;>by_cases M:s.toList=I.toList<;>simp[a1,a2,M]
 simp at h
theorem Jcx w k n y H s I:
  (binOp .eql 65 (.agg #[Iq k,Iq n,.string s]) (.agg #[Iq y,Iq H,.string I])).run Tryz.prog w=.ok (.bool (veq k n s y H I)) w:=by
 simp[binOp,Jdy]
theorem Jph w k n y H s I:
  (binOp .neq 65 (.agg #[Iq k,Iq n,.string s]) (.agg #[Iq y,Iq H,.string I])).run Tryz.prog w=.ok (.bool (!veq k n s y H I)) w:=by
 simp[binOp,Jdy]
end
def Qw (l:List UInt8):ByteArray:=⟨l.toArray⟩
theorem Kya a b:Qw a++Qw b=Qw (a++b):=by
 unfold Qw;rw[Om5];simp
theorem Kfv {a b}(h:Qw a=Qw b):a=b:=by
 unfold Qw at h;have:=congrArg (fun x:ByteArray=>x.data.toList) h;simpa using this
theorem Zf s:Qw s.toList=s:=by
 rw[Og4];rfl
theorem Jb2 l:(Qw l).size=l.length:=by simp[Qw,ByteArray.size]
def hi (l:List Bool)(i:Nat):Nat->Nat
 |0=>0
 |m+1=>2*hi l i m+(if l.getD (i+(7-m)) false then 1 else 0)
theorem Kh5 l i:∀ m,hi l i m<2 ^ m:=by
 intro m;induction m with
 |zero=>simp[hi]
 |succ m y=>simp only[hi];rw[Nat.pow_succ];split<;>omega
theorem Jwg l i:∀ m,m<=8->∀ t,(hi l i m).testBit t=(decide (t<m)&&l.getD (i+(8-m)+t) false):=by
 intro m;induction m with
 |zero=>intro _ t;simp[hi]
 |succ m H=>
  intro I t;simp only[hi];cases t with
  |zero=>
   rw[Nat.testBit_zero];have e:i+(8-(m+1))+0=i+(7-m):=zo;rw[e];cases h:l.getD (i+(7-m)) false
   ·simp
   simp
  |succ t=>
   rw[Nat.testBit_succ];have e:(2*hi l i m+(if l.getD (i+(7-m)) false=true then 1 else 0)) / 2=hi l i m:=by split<;>omega
   rw[e,H zo t];have y:i+(8-(m+1))+(t+1)=i+(8-m)+t:=zo;rw[y];simp
def Jag (l:List Bool)(j:Nat):Nat:=hi l (8*j) 8
theorem Ji4 l j:Jag l j<256:=Kh5 l (8*j) 8
theorem Yx l j t:(Jag l j).testBit t=(decide (t<8)&&l.getD (8*j+t) false):=by
 unfold Jag;rw[Jwg l (8*j) 8 (Oa2 _) t];simp
theorem Jvq j:Jag [] j=0:=by
 apply Nat.eq_of_testBit_eq;intro t;rw[Yx];simp
theorem zaN {p:Prop}(h:p:=by
 cases l[n]
 ·simp
 obtain⟨q,hq⟩:=Nat.exists_eq_succ_of_ne_zero y;rw[hq];simp[Nat.testBit_succ]):p:=h
theorem Jss (l:List Bool)(n j:Nat)(bf:n<l.length):
  Jag (l.take (n+1)) j=if j=n / 8 then Jag (l.take n) j ||| ((if l[n]then 1 else 0) <<< (n % 8))else Jag (l.take n) j:=by
 have H:∀ m x,(l.take m).getD x false=(decide (x<m)&&l.getD x false):=by
  intro m x;simp only[Oa0,Oe7];by_cases h:x<m<;>simp[h]
 have O:l.getD n false=l[n]:=by simp[bf]
 apply Nat.eq_of_testBit_eq;intro t;by_cases K:j=n / 8
 ·subst K;rw[if_pos rfl,Nat.testBit_or,Yx,Yx,H,H,Nat.testBit_shiftLeft];by_cases ht:t<8
  ·by_cases Z:8*(n / 8)+t=n
   ·have bh:t=n % 8:=zo;have y:n % 8<=t:=zo;have U:t-n % 8=0:=zo;rw[Z,O,U];cases l[n]<;>simp[y]<;>omega
   by_cases M:8*(n / 8)+t<n
   ·have y:¬ n % 8<=t:=zo;simp[ht,M,y];intro;omega
   have y:¬ (t-n % 8=0):=zo;have I:((if l[n]=true then 1 else 0:Nat)).testBit (t-n % 8)=false:=by
    exact zaN
   rw[I];have Y:¬ (8*(n / 8)+t<n+1):=zo;simp[M,Y]
  have y:¬ (t-n % 8=0):=zo;have I:((if l[n]=true then 1 else 0:Nat)).testBit (t-n % 8)=false:=by
   exact zaN
  rw[I];simp[ht]
 rw[if_neg K,Yx,Yx,H,H];by_cases ht:t<8
 ·have:decide (8*j+t<n+1)=decide (8*j+t<n):=by
   rw[decide_eq_decide];omega
  rw[this]
 simp[ht]
def Kk (l:List Bool):List UInt8:=(List.range ((l.length+7) / 8)).map fun j=>UInt8.ofNat (Jag l j)
theorem Qb l:(Kk l).length=(l.length+7) / 8:=by simp[Kk]
def low (n:Int):UInt8:=UInt8.ofNat (n % 256).toNat
def le8 (u:Nat):List UInt8:=(List.range 8).map fun i=>UInt8.ofNat (u / 256 ^ i % 256)
theorem Jc4 u:(le8 u).length=8:=by simp[le8]
def u64 (n:Int):Nat:=(n % 18446744073709551616).toNat
theorem Jp3 n:u64 n<18446744073709551616:=by unfold u64;omega
def Ue (y:Nat)(ns:List Nat):List Bool:=ns.flatMap fun n=>(List.range y).map fun b=>n.testBit b
theorem Jal y ns:(Ue y ns).length=y*ns.length:=by
 induction ns with
 |nil=>simp[Ue]
 |cons n ns H=>
  unfold Ue at *;rw[Og7,Oa8,H];simp[Nat.mul_add];omega
theorem Jms y:∀ (ns:List Nat) (i b:Nat) (hi:i<ns.length),b<y->(Ue y ns)[y*i+b]?=some (ns[i].testBit b):=by
 intro ns;induction ns with
 |nil=>intro i b hi;simp at hi
 |cons n ns H=>
  intro i b hi hb;have e:Ue y (n::ns)=((List.range y).map fun b=>n.testBit b)++Ue y ns:=by simp[Ue]
  rw[e];cases i with
  |zero=>
   simp only[Nat.mul_zero,Od0];rw[Ob0 (by simpa using hb)];simp[hb]
  |succ i=>
   rw[Ob6 (by simp[Nat.mul_add];omega)];have:y*(i+1)+b-((List.range y).map fun b=>n.testBit b).length=y*i+b:=by simp[Nat.mul_add];omega
   rw[this];simpa using H i b (by simpa using hi) hb
section
open Go.RowKit
attribute [local go_sem] Jdy
def way (typ y:Int):Bool:=decide (1<=typ/\typ<=3/\0<=y/\y<=3/\¬ (typ=3/\y=3))
def okK (k n:Int)(s:ByteArray):Bool:=
 decide ((k=1/\s.toList.isEmpty=true)\/(k=2/\(n=0\/n=1)/\s.toList.isEmpty=true)\/(k=3/\n=0/\s.size<=40))
def okB (typ k n:Int)(s:ByteArray):Bool:=decide ((k=0/\n=0/\s.toList.isEmpty=true)\/(k=typ/\okK k n s=true))
theorem Jlh t w:
  Cq 80 #[Iq t] w fun e w'=>e=.returned (.bool (decide (1<=t/\t<=3)))/\w'=w:=by
 go_enter Tryz.func80,Tryz.ntmps80
 go_wp2;all_goals
  go_ret
  exact⟨Qr (by rw[On7];simp at *;omega),rfl⟩
theorem Ja3 t h w:
  Cq 58 #[Iq t,Iq h] w fun e w'=>e=.returned (.bool (way t h))/\w'=w:=by
 unfold way;go_enter Tryz.func58,Tryz.ntmps58
 go_wp2_with (go_at_call 80;refine(Jlh _ _).mono ?_;rintro e w' ⟨rfl,rfl⟩)
 all_goals
  go_ret
  exact⟨Qr (by rw[On7];simp at *;omega),rfl⟩
theorem Jif n w(h0:0<=n)(y:n<=100000):
  Cq 136 #[Iq n] w fun e w'=>e=.returned (Iq ((n+7) / 8))/\w'=w:=by
 go_enter Tryz.func136,Tryz.ntmps136
 go_wp2;go_ret
 exact⟨rfl,rfl⟩
theorem zaH {p:Prop}(h:p:=by generalize s.toList.isEmpty=e at *;generalize s.size=m at *;rw[On7];cases e<;>(try simp at *)<;>(try omega)):p:=h
theorem Jq8 k n s w:
  Cq 104 #[.agg #[Iq k,Iq n,.string s]] w fun e w'=>e=.returned (.bool (okK k n s))/\Bq w w':=by
 go_enter Tryz.func104,Tryz.ntmps104
 go_wp2;all_goals
  go_ret
  refine⟨Qr ?_,(Oa5 _ _).alloc (Oa2 _) _⟩;go_light
  unfold okK;exact zaH
theorem Jmd k n s t w:
  Cq 81 #[.agg #[Iq k,Iq n,.string s],Iq t] w fun e w'=>e=.returned (.bool (okB t k n s))/\Bq w w':=by
 by_cases h0:k=0
 ·go_enter Tryz.func81,Tryz.ntmps81
  go_wp2;all_goals
   go_ret
   refine⟨Qr ?_,(Oa5 _ _).alloc (Oa2 _) _⟩;go_light
   unfold okB okK;generalize s.size=m at *;rw[On7];cases hs:s.toList<;>(try simp[hs]at *)<;>(try omega)
 by_cases y:k=t
 ·subst y;go_enter Tryz.func81,Tryz.ntmps81
  go_wp2_with (go_at_call 104;refine(Jq8 _ _ _ _).mono ?_;rintro e w' ⟨rfl,hb⟩)
  all_goals
   go_ret
   refine⟨Qr ?_,Qx hb⟩;go_light
   unfold okB;cases okK k n s<;>(try simp at *)<;>(try omega)
 have H:(k==t)=false:=by simp[y]
 go_enter Tryz.func81,Tryz.ntmps81
 go_wp2;all_goals
  go_ret
  refine⟨Qr ?_,(Oa5 _ _).alloc (Oa2 _) _⟩;go_light
  unfold okB okK;exact zaH
abbrev Jb6 (c:Int):Value:=.agg #[Iq c,iM,iM,iM,iM]
end
section
open Go.RowKit
def place:List V->V->Nat
 |[],_=>0
 |u::l,v=>if u.beq v then 0 else place l v+1
theorem Kd8 l(v:V):∀ (k:Nat) (H:k<l.length),(∀ j (K:j<k),l[j]' zo ≠v)->l[k]=v->place l v=k:=by
 induction l with
 |nil=>intro k H;simp at H
 |cons u l M=>
  intro k H I y;cases k with
  |zero=>simp at y;simp[place,(V.beq_iff u v).2 y]
  |succ k=>
   have h0:=I 0 zo;simp at h0;simp only[place,(V.beq_false u v).2 h0,Ol9,if_false];simp at y;rw[M k (by simpa using H) (fun j K=>by have:=I (j+1) zo;simpa using this) y]
theorem Jxs l v(h:∀ j (y:j<l.length),l[j]≠v):place l v=l.length:=by
 induction l with
 |nil=>rfl
 |cons u l H=>
  have h0:=h 0 zS;simp at h0;simp only[place,(V.beq_false u v).2 h0,Ol9,if_false];rw[H fun j y=>by have:=h (j+1) (by simpa using y);simpa using this];rfl
theorem Jnx l v(h:place l v<l.length):l[place l v]=v:=by
 induction l with
 |nil=>simp at h
 |cons u l y=>
  by_cases e:u.beq v=true
  ·have:place (u::l) v=0:=(by simp[place,e]);simp[this];exact(V.beq_iff u v).1 e
  have hp:place (u::l) v=place l v+1:=by simp[place,e]
  simp only[hp]at h |-;simp at h |-;exact y h
theorem Jhz (v u:V)(h:v=u):∀ w,(binOp .eql 65 v.val u.val).run Tryz.prog w=.ok (.bool true) w:=fun w=>by
 rw[Jcx];exact congrArg (fun b=>Result.ok (Value.bool b) w) ((V.beq_iff v u).2 h)
theorem Jh8 (v u:V)(h:v≠u):∀ w,(binOp .eql 65 v.val u.val).run Tryz.prog w=.ok (.bool false) w:=fun w=>by
 rw[Jcx];exact congrArg (fun b=>Result.ok (Value.bool b) w) ((V.beq_false v u).2 h)
theorem Jql (v u:V)(h:v=u):∀ w,(binOp .neq 65 v.val u.val).run Tryz.prog w=.ok (.bool false) w:=fun w=>by
 rw[Jph];exact congrArg (fun b=>Result.ok (Value.bool (!b)) w) ((V.beq_iff v u).2 h)
theorem Jqe (v u:V)(h:v≠u):∀ w,(binOp .neq 65 v.val u.val).run Tryz.prog w=.ok (.bool true) w:=fun w=>by
 rw[Jph];exact congrArg (fun b=>Result.ok (Value.bool (!b)) w) ((V.beq_false v u).2 h)
theorem Ka6 (xs y:List V)(hl:xs.length=y.length)(h:∀ j (I:j<xs.length),xs[j]=y[j]'(hl▸I)):xs=y:=
 Oh4 hl fun i H _=>h i H
def idx (xs:List V)(v:V):Int:=if place xs v<xs.length then place xs v else -1
theorem Joy a cap xs v w(O:xs.length<=maxLen)(U:Jv w a xs):
  Cq 135 #[.slice a xs.length cap,v.val] w fun e w'=>e=.returned (Iq (idx xs v))/\Bq w w':=by
 unfold maxLen at O;go_enter Tryz.func135,Tryz.ntmps135
 go_wp2;go_loopw [8] (fun i wr=>∃ k:Nat,k<=xs.length/\i=Iq k/\(∃ m,wr=(w.alloc (.cells #[Iq v.k,Iq v.n,.string v.s] 65)).drewN m)/\Hid (∀ j (y:j<xs.length),j<k->xs[j]≠v)) (fun i _=>xs.length-(intOf i).toNat)
 case atStart=>exact⟨0,Ob7 _,rfl,⟨0,rfl⟩,fun j _ y=>absurd y (Oe0 _)⟩
 case round=>
  obtain⟨k,bf,rfl,⟨m,rfl⟩,K⟩:=hrel;by_cases M:k<xs.length
  ·obtain⟨b1,bh,rfl,Y,x1,x2,bi⟩:=U.at M;by_cases H:v=xs[k]
   ·have hq:=Jhz _ _ H;have I:=zh H;clear H;go_wp2;go_quiet (fail)
    go_wp2;go_ret
    refine⟨Yp ?_,?_⟩
    ·have hp:=Kd8 xs v k M (fun j y=>K.out j zo y) I.out.symm;unfold idx;rw[hp,if_pos M]
    exact Jp (Jp ((Oa5 _ _).alloc (Oa2 _) _) _) _
   have hq:=Jh8 _ _ H;have I:=zh H;clear H;go_wp2;go_quiet (fail)
   go_wp2;go_roundw
   case rel=>
    refine⟨k+1,zo,zn,⟨_,rfl⟩,fun j y Z=>?_⟩;by_cases e:j=k
    ·subst e;exact fun h=>I.out h.symm
    exact K.out j y zo
   case measure=>simp[intOf];omega
  go_wp2;go_ret
  refine⟨Yp ?_,Jp ((Oa5 _ _).alloc (Oa2 _) _) _⟩;unfold idx;rw[Jxs xs v fun j y=>K.out j y zo,if_neg (Oe3 _)]
theorem Ju6 xs v:decide (0<=idx xs v)=decide (place xs v<xs.length):=by
 unfold idx;split<;>simp[*]<;>omega
theorem Jis a cap xs v w(H:xs.length<=maxLen)(I:Jv w a xs)b(hb:b=decide (place xs v<xs.length)):
  Cq 105 #[.slice a xs.length cap,v.val] w fun e w'=>e=.returned (.bool b)/\Bq w w':=by
 have y:Hid (b=decide (0<=idx xs v)):=by rw[Ju6];exact hb
 clear hb;go_enter Tryz.func105,Tryz.ntmps105
 go_wp2_with (go_at_call 135;refine(Joy _ _ _ _ _ H (I.below ((Oa5 _ _).alloc (Oa2 _) _))).mono ?_;rintro e w' ⟨rfl,hb⟩)
 go_ret
 exact⟨Qr (by rw[y.out]),Qx hb⟩
theorem Zl t a cap xs w(U:xs.length<=maxLen)(Y:Jv w a xs)b(hb:b=true↔xs.length<=64/\∀ j (y:j<xs.length),okB t xs[j].k xs[j].n xs[j].s=true):
  Cq 83 #[Iq t,.slice a xs.length cap] w fun e w'=>e=.returned (.bool b)/\Bq w w':=by
 unfold maxLen at U;have H:=hb;replace H:Hid _:=H;clear hb;by_cases hl:xs.length<=64
 ·go_enter Tryz.func83,Tryz.ntmps83
  go_wp2;go_loopw [12] (fun i wr=>∃ k:Nat,k<=xs.length/\i=Iq k/\Bq w wr/\Hid (∀ j (y:j<xs.length),j<k->okB t xs[j].k xs[j].n xs[j].s=true)) (fun i _=>xs.length-(intOf i).toNat)
  case atStart=>exact⟨0,Ob7 _,rfl,Oa5 _ _,fun j _ y=>absurd y (Oe0 _)⟩
  case round=>
   obtain⟨k,bh,rfl,I,M⟩:=hrel;by_cases O:k<xs.length
   ·obtain⟨b1,bi,rfl,Z,x1,x2,bj⟩:=(Y.below I).at O;cases ho:okB t xs[k].k xs[k].n xs[k].s
    ·have K:=zh ho;go_wp2_with (go_at_call 81;refine(Jmd _ _ _ _ _).mono ?_;rintro e w' ⟨rfl,hb⟩)
     go_ret
     refine⟨Qr ?_,Jb I (Qx hb)⟩;cases b
     ·rfl
     have:=(H.out.1 rfl).2 k O;rw[K.out]at this;exact absurd this zd
    have K:=zh ho;go_wp2_with (go_at_call 81;refine(Jmd _ _ _ _ _).mono ?_;rintro e w' ⟨rfl,hb⟩)
    go_roundw
    case rel=>
     refine⟨k+1,zo,zn,Jb I (Qx hb),fun j y bf=>?_⟩;by_cases e:j=k
     ·subst e;exact K.out
     exact M.out j y zo
    case measure=>simp[intOf];omega
   go_wp2;go_ret
   refine⟨Qr (H.out.2 ⟨hl,fun j y=>M.out j y zo⟩).symm,I⟩
 go_enter Tryz.func83,Tryz.ntmps83
 go_wp2;go_ret
 refine⟨Qr ?_,Oa5 _ _⟩;cases b
 ·rfl
 exact absurd (H.out.1 rfl).1 hl
def Yt (w:World)(B:Nat)(sv:Value)(vs:List V):Prop:=w.ownsRow B 65 3 sv vs.length (vs.flatMap V.cells)
def Jo (w:World)(B:Nat)(e:TypeId)(sv:Value)(xs:List Value):Prop:=w.ownsRow B e 1 sv xs.length xs
theorem Je {w:World}{B:Nat}{e:TypeId}{z n:Nat}{sv:Value}{xs:List Value}(h:w.ownsRow B e z sv n xs){g:Nat}(H:sv.ownBlock=some g):B<=g/\g<w.heap.size:=by
 rcases h.2 with⟨hv,_⟩|⟨I,cap,M,hv,hb,K,_⟩
 ·subst hv;simp[Value.ownBlock]at H
 subst hv;simp[Value.ownBlock]at H;subst H;refine⟨hb,?_⟩;rcases Oc1 I w.heap.size with y|y
 ·exact y
 simp[Array.getElem?_eq_none y]at K
theorem Jl {w w':World}{B:Nat}{e:TypeId}{z n:Nat}{sv:Value}{xs:List Value}(h:w.ownsRow B e z sv n xs)(hb:∀ g,sv.ownBlock=some g->w'.heap[g]?=w.heap[g]?):w'.ownsRow B e z sv n xs:=by
 refine⟨h.1,?_⟩;rcases h.2 with h|⟨g,cap,y,hv,H,I,rest⟩
 ·exact .inl h
 exact .inr ⟨g,cap,y,hv,H,by rw[hb g (by subst hv;rfl)];exact I,rest⟩
theorem Jaw {w w' B e z n sv xs}(h:w.ownsRow B e z sv n xs)(hb:Bq w w'):w'.ownsRow B e z sv n xs:=
 Jl h fun g y=>hb.block g (Je h y).2
theorem Jgl {w:World}{B y:Nat}{e:TypeId}{z n:Nat}{sv:Value}{xs:List Value}(h:w.ownsRow B e z sv n xs)(hb:y<=B):w.ownsRow y e z sv n xs:=by
 refine⟨h.1,?_⟩;rcases h.2 with h|⟨g,cap,H,hv,I,rest⟩
 ·exact .inl h
 exact .inr ⟨g,cap,H,hv,zo,rest⟩
theorem Jbm {w:World}{B:Nat}{e:TypeId}{z n:Nat}{sv:Value}{xs:List Value}(h:w.ownsRow B e z sv n xs)(o:Obj):(w.alloc o).ownsRow B e z sv n xs:=
 Jaw h ((Oa5 _ _).alloc (Oa2 _) _)
theorem Yt.below {w w' B sv vs}(h:Yt w B sv vs)(hb:Bq w w'):Yt w' B sv vs:=Jaw h hb
theorem Yt.alloc {w B sv vs}(h:Yt w B sv vs)o:Yt (w.alloc o) B sv vs:=Jbm h o
theorem Yt.mono {w B y sv vs}(h:Yt w B sv vs)(hb:y<=B):Yt w y sv vs:=Jgl h hb
theorem Yt.nil w B:Yt w B Sz []:=⟨rfl,.inl ⟨rfl,rfl⟩⟩
theorem Yt.vals {w B sv vs}(h:Yt w B sv vs):∃ a cap,sv=.slice a vs.length cap/\Jv w a vs:=(Jpo h).2
theorem Jo.below {w w' B e sv xs}(h:Jo w B e sv xs)(hb:Bq w w'):Jo w' B e sv xs:=Jaw h hb
theorem Jo.alloc {w B e sv xs}(h:Jo w B e sv xs)o:Jo (w.alloc o) B e sv xs:=Jbm h o
theorem Jo.nil w B e:Jo w B e Sz []:=⟨rfl,.inl ⟨rfl,rfl⟩⟩
theorem Jy {w wr w':World}{sv:Value}(h:Bq w wr)(y:wr.grownBy w' sv.ownBlock)(hr:∀ k,sv.ownBlock=some k->w.heap.size<=k):Bq w w':=
 h.grown y h.size hr
theorem Jcj {w M rest o a Q}(bf:o.guard=none)s x(ho:o.op=.call {callee:=.builtin .append,args:=#[s,x],argTypes:=#[62,62]})B sv vs(hs:a.eval s=sv)(bh:Yt w B sv vs)g c v(bj:a.eval x=Sq g 1 c)(hv:VAt w g 0 v)(hlen:vs.length<=1000000)(Y:B<=w.heap.size)(h:∀ sv' w',Yt w' B sv' (vs++[v])->w.grownBy w' sv.ownBlock->(sv'.ownBlock=sv.ownBlock\/sv'.ownBlock=some w.heap.size)->wpList Tryz.prog M Q rest (a.put o.dst sv') w'):
  wpList Tryz.prog M Q (o::rest) a w:=by
 obtain⟨i,hi,bk,bi,Z⟩:=info_parts Jow;refine wpList_append_own_at w bf s x 62 ho B 65 i _ 3 32 zK hi bk bi Z rfl zd sv vs.length (vs.flatMap V.cells) hs bh ⟨g,0,none⟩ 1 c v.cells bj rfl ?_ ?_ ?_ ?_ Y ?_
 ·intro j u y;obtain⟨H,I,O⟩:=hv;match j,y with
  |0,y=>simp[V.cells]at y;subst y;simpa [Addr.add] using H
  |1,y=>simp[V.cells]at y;subst y;simpa [Addr.add] using I
  |2,y=>simp[V.cells]at y;subst y;simpa [Addr.add] using O
  |j+3,y=>simp[V.cells]at y
 ·intro u K;simp[V.cells]at K;rcases K with rfl|rfl|rfl<;>rfl
 ·unfold maxLen;omega
 ·omega
 intro br w' H I _ U;refine h br w' ?_ I U;unfold Yt;simpa [V.cells] using H
theorem zbg {p:Prop}(h:p:=by intro bA w' K O _ U;refine h bA w' ?_ O U;unfold Jo;simpa using K):p:=h
theorem Ks {w M rest o a Q}(bh:o.guard=none)s x t e z H(bi:(Tryz.prog.info? e).map (fun i=>(i.zero,i.size,i.bytes))=some (some z,1,H))(bz:z.cells.size=1)(bf:H<=16)(ht:Tryz.prog.underlying t=some (.slice e))(ho:o.op=.call {callee:=.builtin .append,args:=#[s,x],argTypes:=#[t,t]})B sv xs(hs:a.eval s=sv)(bj:Jo w B e sv xs)I c y(br:a.eval x=.slice (some I) y.length c)(hv:∀ j u,y[j]?=some u->w.cell? (I.add j)=some u)(K:∀ u∈y,u.oneCell'=true)(hlen:xs.length+y.length<=1000000)(Y:B<=w.heap.size)(h:∀ sv' w',Jo w' B e sv' (xs++y)->w.grownBy w' sv.ownBlock->(sv'.ownBlock=sv.ownBlock\/sv'.ownBlock=some w.heap.size)->wpList Tryz.prog M Q rest (a.put o.dst sv') w'):
  wpList Tryz.prog M Q (o::rest) a w:=by
 obtain⟨i,hi,bx,bk,Z⟩:=info_parts bi;refine wpList_append_own_at w bh s x t ho B e i _ 1 H ht hi bx bk Z bz zd sv xs.length xs hs bj I y.length c y br zS hv K ?_ ?_ Y ?_
 ·unfold maxLen;omega
 ·have:(xs.length+y.length)*H<=1000000*16:=Ol5 hlen bf;omega
 exact zbg
def Uh (w:World)(a:Option Addr)(xs:List Value):Prop:=
 xs=[]\/∃ b o,a=some (Ar b o)/\b<w.heap.size/\∀ i v,xs[i]?=some v->w.cell? (Ar b (o+i))=some v
theorem Uh.of_block {w w' a xs}(h:Uh w a xs)(hs:w.heap.size<=w'.heap.size)(e:∀ b o,a=some (Ar b o)->b<w.heap.size->w'.heap[b]?=w.heap[b]?):Uh w' a xs:=by
 rcases h with h|⟨b,o,y,hb,h⟩
 ·exact .inl h
 exact .inr ⟨b,o,y,zo,fun i v hv=>by rw[Oc3 (w:=w) (e b o y hb)];exact h i v hv⟩
theorem Uh.below {w w' a xs}(h:Uh w a xs)(hb:Bq w w'):Uh w' a xs:=
 h.of_block hb.size fun b _ _ y=>hb.block b y
theorem Uh.at {w a xs}(h:Uh w a xs){i}(hi:i<xs.length):
  ∃ b o,a=some (Ar b o)/\b<w.heap.size/\w.cell? (Ar b (o+i))=some xs[i]:=by
 rcases h with h|⟨b,o,y,hb,h⟩
 ·subst h;simp at hi
 exact⟨b,o,y,hb,h i xs[i] (by simp[hi])⟩
theorem zaA {p:Prop}(h:p:=by
 rcases Oc1 g w.heap.size with y|y
 ·exact y
 simp[Array.getElem?_eq_none y]at H):p:=h
theorem Jo.cells {w B e sv xs}(h:Jo w B e sv xs):∃ a cap,sv=.slice a xs.length cap/\Uh w a xs:=by
 obtain⟨hl,h⟩:=h;rcases h with⟨hv,h0⟩|⟨g,cap,M,hv,_,H,_,_,_,I⟩
 ·have:xs=[]:=Od3.1 h0;subst this;exact⟨none,0,hv,.inl rfl⟩
 refine⟨some (Aq g),cap,hv,.inr ⟨g,0,rfl,?_,?_⟩⟩
 ·exact zaA
 intro i v hi;rw[<-I]at hi;have K:i<xs.length*1:=by
  rcases Oc1 i (xs.length*1)with y|y
  ·exact y
  rw[List.getElem?_take_eq_none y]at hi;simp at hi
 rw[Oh3 K]at hi;simp only[Oe6]at hi;simp[World.cell?,H,hi]
def bv (b:UInt8):Value:=.int .u8 (b.toNat:Int)
theorem Jt0 l:∀ s:ByteArray,(l.map fun b=>(b.toNat:Int)).foldl (fun r n=>r.push (UInt8.ofNat n.toNat)) s=s++Qw l:=by
 induction l with
 |nil=>intro s;unfold Qw;rw[Om5];simp
 |cons b l y=>
  intro s;simp only[Oe4,List.foldl_cons];rw[y];have:UInt8.ofNat (Int.toNat (b.toNat:Int))=b:=zS;rw[this];unfold Qw;rw[Om5];simp[ByteArray.push]
theorem Jc6 w y c l(h:∀ j u,(l.map bv)[j]?=some u->w.cell? (y.add j)=some u):
  (convert 199 9 (.slice (some y) l.length c)).run Tryz.prog w=.ok (.string (Qw l)) w:=by
 rw[run_convert_bytes_string w 199 9 5 _ _ _ zK zK zK];have hl:=run_loadCells_list (P:=Tryz.prog) (w:=w) y (l.map bv) h;rw[Oa6]at hl;rw[run_bytesToString w y l.length c (l.map fun b=>(b.toNat:Int)) (by rw[hl,Oi6];rfl)];rw[Jt0];have:ByteArray.empty++Qw l=Qw l:=by unfold Qw;rw[Om5];simp
 rw[this]
def Jz (xs:List V):List V:=xs.filter fun v=>v.k != 0
theorem Zy xs:(Jz xs).length<=xs.length:=List.length_filter_le _ _
theorem Jsh xs v:Jz (xs++[v])=if v.k=0 then Jz xs else Jz xs++[v]:=by
 unfold Jz;rw[List.filter_append];by_cases h:v.k=0<;>simp[h]
theorem Jec (xs:List V)(k:Nat)(h:k<xs.length):xs.take (k+1)=xs.take k++[xs[k]]:=Oc4 h
theorem Yr a cap xs w(bx:xs.length<=64)(bh:Jv w a xs):
  Cq 84 #[.slice a xs.length cap] w fun e w'=>∃ sv,e=.returned sv/\Yt w' w.heap.size sv (Jz xs)/\Bq w w':=by
 go_enter Tryz.func84,Tryz.ntmps84
 go_wp2;go_loopw [3,8] (fun sv i wr=>∃ k:Nat,k<=xs.length/\i=Iq k/\Yt wr w.heap.size sv (Jz (xs.take k))/\Bq w wr) (fun _ i _=>xs.length-(intOf i).toNat)
 case atStart=>exact⟨0,Ob7 _,rfl,Yt.nil _ _,Oa5 _ _⟩
 case round=>
  rename_i sv i
  obtain⟨k,M,rfl,I,H⟩:=hrel;by_cases O:k<xs.length
  ·obtain⟨b1,bz,rfl,bj,x1,x2,bA⟩:=(bh.below H).at O;have y:=Jsh (xs.take k) xs[k];rw[<-Jec xs k O]at y;have bk:=Zy (xs.take k);have br:(xs.take k).length<=k:=List.length_take_le _ _;by_cases h0:xs[k].k=0
   ·rw[if_pos h0]at y;have K:Hid _:=y;clear y;have Y:(xs[k].k != 0)=false:=(by simp[h0]);have U:=zh h0;clear h0;go_wp2;go_roundw
    case rel=>exact⟨k+1,zo,zn,by rw[K.out];exact I.alloc _,Jc H _⟩
    case measure=>simp[intOf];omega
   rw[if_neg h0]at y;have K:Hid _:=y;clear y;have Y:(xs[k].k != 0)=true:=(by simp[h0]);have U:=zh h0;clear h0;go_wp2_with (at_builtin;refine Jcj zR _ _ zR w.heap.size _ _ zR ((I.alloc _).alloc _) _ _ xs[k] zR (by refine⟨?_,?_,?_⟩<;>simp) zo (by simp;have:=H.size;omega) ?_;intro sv' w1 Z bf bi)
   go_roundw
   case rel=>
    refine⟨k+1,zo,zn,by rw[K.out];exact Z,?_⟩;exact Jy (Jc (Jc H _) _) bf fun k M=>(Je I M).1
   case measure=>simp[intOf];omega
  go_wp2;go_ret
  have e:xs.take k=xs:=Oc8 zo;rw[e]at I;exact⟨_,rfl,I,H⟩
def Ym:List V->List V->List V
 |d,[]=>d
 |d,v::l=>Ym (if place d v<d.length then d else d++[v]) l
theorem Jzn l v:∀ d,Ym d (l++[v])=if place (Ym d l) v<(Ym d l).length then Ym d l else Ym d l++[v]:=by
 induction l with
 |nil=>intro d;rfl
 |cons u l y=>intro d;simp only[List.cons_append,Ym];exact y _
theorem Jk0 l:∀ d,(Ym d l).length<=d.length+l.length:=by
 induction l with
 |nil=>intro d;simp[Ym]
 |cons u l y=>
  intro d;simp only[Ym];refine Ob2 (y _) ?_;split<;>simp<;>omega
theorem Jd8 a cap xs w(bD:xs.length<=64)(bk:Jv w a xs):
  Cq 85 #[.slice a xs.length cap] w fun e w'=>∃ sv,e=.returned sv/\Yt w' w.heap.size sv (Ym [] xs)/\Bq w w':=by
 go_enter Tryz.func85,Tryz.ntmps85
 go_wp2;go_loopw [3,8] (fun sv i wr=>∃ k:Nat,k<=xs.length/\i=Iq k/\Yt wr w.heap.size sv (Ym [] (xs.take k))/\Bq w wr) (fun _ i _=>xs.length-(intOf i).toNat)
 case atStart=>exact⟨0,Ob7 _,rfl,Yt.nil _ _,Oa5 _ _⟩
 case round=>
  rename_i sv i
  obtain⟨k,Y,rfl,H,I⟩:=hrel;by_cases bf:k<xs.length
  ·obtain⟨b1,bE,rfl,bz,x1,x2,bG⟩:=(bk.below I).at bf;have y:=Jzn (xs.take k) xs[k] [];rw[<-Jec xs k bf]at y;have O:=Jk0 (xs.take k) [];have Z:(xs.take k).length<=k:=List.length_take_le _ _;generalize Ym [] (xs.take k)=d at *;have bB:d.length<=64:=by simp at O;omega
   have U:d.length<=maxLen:=by unfold maxLen;omega
   obtain⟨a2,br,rfl,bh⟩:=H.vals;by_cases h0:place d xs[k]<d.length
   ·rw[if_pos h0]at y;have M:Hid _:=y;have K:Hid (true=decide (place d xs[k]<d.length)):=(by simp[Hid,h0]);clear y h0 O Z;go_wp2_with (go_at_call 105;refine(Jis _ _ _ xs[k] _ U (bh.below ((Oa5 _ _).alloc (Oa2 _) _)) true K.out).mono ?_;rintro e w' ⟨rfl,hb⟩)
    go_roundw
    case rel=>
     refine⟨k+1,zo,zn,?_,Jb I (Qx hb)⟩;rw[M.out];exact H.below (Qx hb)
    case measure=>simp[intOf];omega
   rw[if_neg h0]at y;have M:Hid _:=y;have K:Hid (false=decide (place d xs[k]<d.length)):=by simp[Hid];omega
   clear y h0 O Z;go_wp2_with (first
    |(go_at_call 105;refine(Jis _ _ _ xs[k] _ U (bh.below ((Oa5 _ _).alloc (Oa2 _) _)) false K.out).mono ?_;rintro e w' ⟨rfl,hb⟩;obtain⟨bA,bC⟩:=Kx hb)
    |(at_builtin;refine Jcj zR _ _ zR w.heap.size _ _ zR ((H.below (Qx hb)).alloc _) _ _ xs[k] zR (by refine⟨?_,?_,?_⟩<;>simp) zo (by simp;have:=I.size;have:=(Qx hb).size;omega) ?_;intro sv' w1 bi bj bx))
   go_roundw
   case rel=>
    refine⟨k+1,zo,zn,by rw[M.out];exact bi,?_⟩;exact Jy (Jc (Jb I (Qx hb)) _) bj fun k Y=>(Je H Y).1
   case measure=>simp[intOf];omega
  go_wp2;go_ret
  have e:xs.take k=xs:=Oc8 zo;rw[e]at H;exact⟨_,rfl,H,I⟩
def Qe (v:V):List V->Nat
 |[]=>0
 |u::l=>if u.beq v then Qe v l+1 else 0
theorem Jjn v l:Qe v l<=l.length:=by
 induction l with
 |nil=>simp[Qe]
 |cons u l y=>unfold Qe;split<;>simp;omega
theorem Jog (v:V)l:∀ (k:Nat) (_:k<=l.length),(∀ j (I:j<k),l[j]' zo =v)->(∀ h:k<l.length,l[k]≠v)->Qe v l=k:=by
 induction l with
 |nil=>intro k y _ _;simp at y;simp[Qe,y]
 |cons u l K=>
  intro k y hs H;cases k with
  |zero=>have:=H zS;simp at this;simp[Qe,(V.beq_false u v).2 this]
  |succ k=>
   have h0:=hs 0 zo;simp at h0;simp only[Qe,(V.beq_iff u v).2 h0,if_true];rw[K k (by simpa using y) (fun j I=>by have:=hs (j+1) zo;simpa using this) (fun h=>by have:=H (by simpa using h);simpa using this)]
theorem Jnq a cap v l w(bz:(v::l).length<=64)(Z:Jv w a (v::l)):
  Cq 138 #[.slice a (v::l).length cap] w fun e w'=>e=.returned (Iq (Qe v (v::l)))/\Bq w w':=by
 generalize O:v::l=xs at *;have h0:0<xs.length:=by rw[<-O];simp
 have hv:xs[0]=v:=by subst O;rfl
 have K:=zh hv;clear hv O;obtain⟨b1,bA,rfl,bi,z1,z2,bf⟩:=Z.at h0;rw[Oo9,Nat.add_zero]at z1 z2 bf;go_enter Tryz.func138,Tryz.ntmps138
 go_wp2;go_loopw [3] (fun i wr=>∃ k:Nat,1<=k/\k<=xs.length/\i=Iq k/\(∃ m,wr=w.drewN m)/\Hid (∀ j (y:j<xs.length),j<k->xs[j]=v)) (fun i _=>xs.length-(intOf i).toNat)
 case atStart=>
  refine⟨1,zo,zo,rfl,⟨0,rfl⟩,fun j y bh=>?_⟩;have:j=0:=zo;subst this;exact K.out
 case round=>
  obtain⟨k,bx,br,rfl,⟨m,rfl⟩,M⟩:=hrel;by_cases Y:k<xs.length
  ·obtain⟨b2,bB,U,_,x1,x2,bC⟩:=Z.at Y;simp at U;obtain⟨rfl,rfl⟩:=U;by_cases H:xs[k]=xs[0]
   ·have hq:=Jhz _ _ H;have I:=zh H;clear H;go_wp2;go_quiet (fail)
    go_wp2;go_roundw
    case rel=>
     refine⟨k+1,zo,zo,zn,⟨_,rfl⟩,fun j y bk=>?_⟩;by_cases e:j=k
     ·subst e;exact I.out.trans K.out
     exact M.out j y zo
    case measure=>simp[intOf];omega
   have hq:=Jh8 _ _ H;have I:=zh H;clear H;go_wp2;go_quiet (fail)
   go_wp2;go_ret
   refine⟨Yp ?_,Jp (Jp (Oa5 _ _) _) _⟩;rw[Jog v xs k zo (fun j y=>M.out j zo y) (fun _ h=>I.out (h.trans K.out.symm))]
  have bj:decide ((k:Int)<(xs.length:Int))=false:=by simp;omega
  go_wp2;go_quiet (fail)
  go_wp2;go_ret
  refine⟨Yp ?_,Jp (Jp (Oa5 _ _) _) _⟩;rw[Jog v xs k zo (fun j y=>M.out j zo y) (fun h=>absurd h Y)]
def Jn:Int->List V->Int
 |m,[]=>m
 |m,v::l=>Jn (if v.n<m then v.n else m) l
theorem Jli l v:∀ m,Jn m (l++[v])=if v.n<Jn m l then v.n else Jn m l:=by
 induction l with
 |nil=>intro m;rfl
 |cons u l y=>intro m;simp only[List.cons_append,Jn];exact y _
theorem Jkt a cap v l w(bi:(v::l).length<=64)(U:Jv w a (v::l)):
  Cq 140 #[.slice a (v::l).length cap] w fun e w'=>e=.returned (Iq (Jn v.n (v::l)))/\Bq w w':=by
 generalize K:v::l=xs at *;have h0:0<xs.length:=by rw[<-K];simp
 have hv:xs[0].n=v.n:=by subst K;rfl
 obtain⟨b1,bj,rfl,bf,z1,z2,Y⟩:=U.at h0;rw[Oo9,Nat.add_zero]at z1 z2 Y;rw[hv]at z2;clear hv K z1 Y;generalize v.n=y at *;go_enter Tryz.func140,Tryz.ntmps140
 go_wp2;go_loopw [3,12] (fun q i wr=>∃ k:Nat,k<=xs.length/\i=Iq k/\q=Iq (Jn y (xs.take k))/\Bq w wr) (fun _ i _=>xs.length-(intOf i).toNat)
 case atStart=>exact⟨0,zo,rfl,rfl,Oa5 _ _⟩
 case round=>
  obtain⟨k,bh,rfl,rfl,H⟩:=hrel;by_cases O:k<xs.length
  ·obtain⟨b2,bk,M,_,x1,x2,br⟩:=(U.below H).at O;simp at M;obtain⟨rfl,rfl⟩:=M;have I:=Jli (xs.take k) xs[k] y;rw[<-Jec xs k O]at I;have Z:Hid _:=I;clear I;generalize Jn y (xs.take k)=q at *;go_wp2;go_roundw
   case rel=>exact⟨k+1,zo,zn,by rw[Z.out],Jc H _⟩
   case measure=>simp[intOf];omega
  go_wp2;go_ret
  have e:xs.take k=xs:=Oc8 zo;rw[e];exact⟨rfl,H⟩
theorem Jhx {w b t n f}(h:w.rowIs b t n f){B}(H:B<=b)(K:n<=maxLen)xs(hl:xs.length=n)(M:∀ i (hi:i<xs.length),xs[i]=f i):
  Jo w B t (Sq b n n) xs:=by
 obtain⟨c,hb,hs,I⟩:=h;refine⟨zo,.inr ⟨b,n,c,by rw[hl],H,hb,zo,K,zo,?_⟩⟩;apply Oh4
 ·simp;omega
 intro i O y;rw[M i y];have:=I i zo;simp only[List.getElem_take,Array.getElem_toList];rw[Oe2]at this;exact this.2
def uv (n:Nat):Value:=.int .u64 (n:Int)
def dif (n least:Int):Nat:=u64 (n-least)
def Uv (xs:List V)(least:Int):List Nat:=xs.map fun v=>dif v.n least
theorem Kdb n q:IntKind.u64.wrap (IntKind.u64.wrap n-IntKind.u64.wrap q)=(dif n q:Int):=by
 unfold dif u64;simp only[Oh5];omega
theorem Jff a cap xs q w(bk:xs.length<=64)(bf:Jv w a xs):
  Cq 139 #[.slice a xs.length cap,Iq q] w fun e w'=>∃ sv,e=.returned sv/\Jo w' w.heap.size 235 sv ((Uv xs q).map uv)/\Bq w w':=by
 have Z:∀ W,(Instr.makeSlice 234 (Iq (xs.length:Int)) (Iq (xs.length:Int))).run Tryz.prog W=.ok (Sq W.heap.size xs.length xs.length) (W.alloc (.cells (madeCells #[.int .u64 0] xs.length) 235)):=
  fun W=>run_make_row' 234 235 (.int .u64 0) 8 zK Jiq rfl .i64 .i64 xs.length zo zo W
 go_enter Tryz.func139,Tryz.ntmps139
 go_wp2;clear Z;go_loopw [13] (fun i wr=>∃ k:Nat,k<=xs.length/\i=Iq k/\wr.rowIs w.heap.size 235 xs.length (fun j=>uv (if j<k then (Uv xs q)[j]?.getD 0 else 0))/\Bq w wr) (fun i _=>xs.length-(intOf i).toNat)
 case atStart=>exact⟨0,zo,rfl,Ol3 _ _ _ _,(Oa5 _ _).alloc (Oa2 _) _⟩
 case round=>
  obtain⟨k,bj,rfl,y,H⟩:=hrel;by_cases I:k<xs.length
  ·obtain⟨b1,br,rfl,bh,x1,x2,bx⟩:=(bf.below H).at I;have c1:=y.cell I;have c2:=y.frozen k;have c3:=y.lt;have K:=Kdb xs[k].n q;have M:Hid _:=K;clear K;go_wp2;go_roundw
   case rel=>
    refine⟨k+1,zo,zn,((y.set k _).alloc _).congr fun j bi=>?_,Jc (H.setCell (p:=Ar w.heap.size k) (Oa2 _) _) _⟩;by_cases e:j=k
    ·subst e;simp[Uv,I,M.out,uv]
    have O:(j<k+1)=(j<k):=by rw[eq_iff_iff];omega
    simp[e,O]
   case measure=>simp[intOf];omega
  go_wp2;go_ret
  refine⟨_,rfl,Jhx y (Oa2 _) (by unfold maxLen;omega) _ (by simp[Uv]) ?_,H⟩;intro i hi;have U:i<xs.length:=by simpa [Uv] using hi
  have Y:i<k:=zo;simp[Y,Uv,U]
def Yz:Nat->List Nat->Nat
 |m,[]=>m
 |m,n::l=>Yz (if m<n then n else m) l
theorem Jv8 l n:∀ m,Yz m (l++[n])=if Yz m l<n then n else Yz m l:=by
 induction l with
 |nil=>intro m;rfl
 |cons u l y=>intro m;simp only[List.cons_append,Yz];exact y _
theorem Jk2 b l:∀ m,m<b->(∀ n∈l,n<b)->Yz m l<b:=by
 induction l with
 |nil=>intro m y _;exact y
 |cons u l I=>
  intro m y h;simp only[Yz];refine I _ ?_ fun n H=>h n (Og1 _ H);have:=h u (Of4);split<;>omega
theorem Kf3 a cap d l w(Z:(d::l).length<=64)(I:Uh w a ((d::l).map uv)):
  Cq 142 #[.slice a (d::l).length cap] w fun e w'=>e=.returned (uv (Yz d l))/\Bq w w':=by
 have hl:(d::l).length=l.length+1:=zS;obtain⟨b1,bf,rfl,bh,z1⟩:=I.at (i:=0) zS;have O:∀ k (y:k<l.length),w.cell? (Ar b1 (bf+(k+1)))=some (.int .u64 (l[k]:Nat)):=by
  intro k y;obtain⟨b2,bi,K,_,U⟩:=I.at (i:=k+1) (by simpa using y);simp at K;obtain⟨rfl,rfl⟩:=K;simpa [uv] using U
 rw[hl];rw[hl]at Z;simp[uv]at z1;clear I hl;go_enter Tryz.func142,Tryz.ntmps142
 go_wp2;go_loopw [3,4] (fun q i wr=>∃ k:Nat,k<=l.length/\i=Iq ((k+1:Nat):Int)/\q=.int .u64 (Yz d (l.take k):Nat)/\(∃ m,wr=w.drewN m)) (fun _ i _=>l.length+1-(intOf i).toNat)
 case atStart=>exact⟨0,zo,rfl,rfl,⟨0,rfl⟩⟩
 case round=>
  obtain⟨k,y,rfl,rfl,⟨m,rfl⟩⟩:=hrel;by_cases M:k<l.length
  ·have U:=O k M;have H:=Jv8 (l.take k) l[k] d;rw[<-Oc4 M]at H;have Y:Hid _:=H;clear H O;generalize Yz d (l.take k)=q at *;go_wp2;go_roundw
   case rel=>exact⟨k+1,zo,zn,by rw[Y.out];split<;>rfl,⟨m,rfl⟩⟩
   case measure=>simp[intOf];omega
  go_wp2;go_ret
  have e:l.take k=l:=Oc8 zo;rw[e];exact⟨rfl,Jp (Oa5 _ _) _⟩
end
open Go.RowKit Go.Extern.Stop Go.Stop Go.Extern
def Yu (w:World)(v:Value)(a:Addr)(c p:Option Int):Prop:=
 (v=Ie 435 a/\c=none/\p=none) \/
 (∃ (b:Nat) (y:Int),v=Ip 149 b/\c=none/\p=some y/\w.cell? (Aq b)=some (Ie 435 a)/\w.cell? (Ar b 1)=some (Iq y)) \/
 (∃ (b:Nat) (x:Int),v=Ip 106 b/\c=some x/\p=none/\w.cell? (Ar b 1)=some (Iq x)/\w.cell? (Ar b 2)=some (Ie 435 a)) \/
 (∃ (b d:Nat) (x y:Int),v=Ip 106 b/\c=some x/\p=some y/\w.cell? (Ar b 1)=some (Iq x)/\w.cell? (Ar b 2)=some (Ip 149 d)/\w.cell? (Aq d)=some (Ie 435 a)/\w.cell? (Ar d 1)=some (Iq y))
theorem Yu.root {w}a:Yu w (Ie 435 a) a none none:=.inl ⟨rfl,rfl,rfl⟩
theorem Yu.disk {w}b a p(h0:w.cell? (Aq b)=some (Ie 435 a))(y:w.cell? (Ar b 1)=some (Iq p)):Yu w (Ip 149 b) a none (some p):=.inr (.inl ⟨b,p,rfl,rfl,rfl,h0,y⟩)
theorem Yu.tab {w}b a c(y:w.cell? (Ar b 1)=some (Iq c))(H:w.cell? (Ar b 2)=some (Ie 435 a)):Yu w (Ip 106 b) a (some c) none:=.inr (.inr (.inl ⟨b,c,rfl,rfl,rfl,y,H⟩))
theorem Yu.both {w}b d a c p(y:w.cell? (Ar b 1)=some (Iq c))(H:w.cell? (Ar b 2)=some (Ip 149 d))(I:w.cell? (Aq d)=some (Ie 435 a))(K:w.cell? (Ar d 1)=some (Iq p)):Yu w (Ip 106 b) a (some c) (some p):=.inr (.inr (.inr ⟨b,d,c,p,rfl,rfl,rfl,y,H,I,K⟩))
theorem Yu.disk_at {w b a c p}(h:Yu w (Ip 149 b) a c (some p)):w.cell? (Aq b)=some (Ie 435 a)/\w.cell? (Ar b 1)=some (Iq p):=by
 rcases h with⟨_,_,hp⟩|⟨y,I,hv,_,hp,h0,H⟩|⟨y,x,hv,_⟩|⟨y,d,x,I,hv,_⟩
 ·simp at hp
 ·simp at hv hp;subst hv hp;exact⟨h0,H⟩
 ·simp at hv
 simp at hv
theorem Jd {w:World}{k:Nat}{o:Obj}(h:w.heap[k]?=some o):k<w.heap.size:=by
 rcases Oc1 k w.heap.size with y|y
 ·exact y
 simp[Array.getElem?_eq_none y]at h
theorem Ja {w w'}(hb:Bq w w'){b o v}(h:w.cell? (Ar b o)=some v):w'.cell? (Ar b o)=some v:=by
 rw[(Kx hb).1 b o (Jm h)];exact h
theorem Yu.below {w w' v a c p}(h:Yu w v a c p)(hb:Bq w w'):Yu w' v a c p:=by
 rcases h with⟨rfl,rfl,rfl⟩|⟨b,H,rfl,rfl,rfl,h0,y⟩|⟨b,x,rfl,rfl,rfl,h0,y⟩|⟨b,d,x,H,rfl,rfl,rfl,h0,y,I,K⟩
 ·exact .root a
 ·exact .disk b a H (Ja hb h0) (Ja hb y)
 ·exact .tab b a x (Ja hb h0) (Ja hb y)
 exact .both b d a x H (Ja hb h0) (Ja hb y) (Ja hb I) (Ja hb K)
def Kh2 (args : Array Value) : Sem Value := Extern.ReflectliteType.method (fun t => do Go.Extern.Rtype.noPackHeld "Comparable" t; pure (.bool (<- typeInfo t).comparable)) args
theorem Jpv w:(Kh2 #[.agg #[Pr 17 435]]).run Tryz.prog w=.ok (.bool true) w:=zK
theorem Kcb args w:(callFunc 331 args).run Tryz.prog w=((Kh2 args).run Tryz.prog w).andThen fun v w'=>.ok (.value v) w':=
 @run_callFunc_extern Tryz.prog 331 _ (Extern.ReflectliteType.method fun t => do Go.Extern.Rtype.noPackHeld "Comparable" t; pure (.bool (<- typeInfo t).comparable)) Tryz.func331 (by kernel_rfl) (by kernel_rfl) (by kernel_rfl) (by kernel_rfl) args w
theorem Khh:(Tryz.prog.info? 435).map (·.comparable)=some true:=zK
theorem Kha:(Tryz.prog.info? 453).map (·.size)=some 1:=zK
theorem Jhv v w: (Go.method 565 216 v "Comparable").run Tryz.prog w = .ok (331, v) w := by kernel_rfl
theorem Kh9 h w: (Go.method 565 216 (.agg #[h]) "Kind").run Tryz.prog w = .ok (313, h) w := by kernel_rfl
theorem Kii h w: (Go.method 565 216 (.agg #[h]) "Elem").run Tryz.prog w = .ok (332, .agg #[h]) w := by kernel_rfl
theorem Jr3 h w: (Go.method 565 216 (.agg #[h]) "Implements").run Tryz.prog w = .ok (333, .agg #[h]) w := by kernel_rfl
theorem Jsu h w: (Go.method 565 216 (.agg #[h]) "AssignableTo").run Tryz.prog w = .ok (330, .agg #[h]) w := by kernel_rfl
theorem Jld v w:(ReflectliteType.typeOf #[.iface 435 v]).run Tryz.prog w=.ok (.iface 216 (.agg #[Pr 17 435])) w:=zK
theorem Kcw v y w:(Instr.typeAssert (.iface 435 v) y 218 true).run Tryz.prog w=.ok (.tuple #[.nilIface,.bool false]) w:=run_typeAssert_lacksB Tryz.underlying218 zK zK v y w
theorem Kb9 v y w:(Instr.typeAssert (.iface 435 v) y 228 true).run Tryz.prog w=.ok (.tuple #[.nilIface,.bool false]) w:=run_typeAssert_lacksB Tryz.underlying228 zK zK v y w
theorem Jhb v y w:(Instr.typeAssert (.iface 435 v) y 223 true).run Tryz.prog w=.ok (.tuple #[.nilIface,.bool false]) w:=run_typeAssert_lacksB Tryz.underlying223 zK zK v y w
theorem Jmp v y w:(Instr.typeAssert (.iface 435 v) y 221 true).run Tryz.prog w=.ok (.tuple #[.nilIface,.bool false]) w:=run_typeAssert_lacksB Tryz.underlying221 zK zK v y w
structure IsW (ty off un:Nat):Prop where
 ne:ty≠435
 noIs:∀ (v:Value) (xT:TypeId) (w:World),(Instr.typeAssert (.iface ty v) xT 218 true).run Tryz.prog w=.ok (.tuple #[.nilIface,.bool false]) w
 noAs:∀ (v:Value) (xT:TypeId) (w:World),(Instr.typeAssert (.iface ty v) xT 228 true).run Tryz.prog w=.ok (.tuple #[.nilIface,.bool false]) w
 unwrap:∀ (v:Value) (xT:TypeId) (w:World),(Instr.typeAssert (.iface ty v) xT 221 true).run Tryz.prog w=.ok (.tuple #[.iface ty v,.bool true]) w
 meth : ∀ (v : Value) (w : World), (Go.method 565 ty v "Unwrap").run Tryz.prog w = .ok (un, v) w
 enter:∀ (args:Array Value) (w:World),(callFunc un args).run Tryz.prog w=.ok (.enter un args) w
 eql:∀ (v u:Value) (w:World),(binOp .eql 77 (.iface ty v) (.iface 435 u)).run Tryz.prog w=.ok (.bool false) w
 typ:∀ (v:Value) (w:World),(ReflectliteType.typeOf #[.iface ty v]).run Tryz.prog w=.ok (.iface 216 (.agg #[Pr 17 ty])) w
 walk:∀ (b:Nat) (v:Value) (w:World),w.cell? (Ar b off)=some v->Cq un #[Pq b] w fun e w'=>e=.returned v/\w'=w
theorem Jab:IsW 106 2 317 where
 ne:=zd
 noIs:=fun v y w=>run_typeAssert_lacksB Tryz.underlying218 zK zK v y w
 noAs:=fun v y w=>run_typeAssert_lacksB Tryz.underlying228 zK zK v y w
 unwrap:=fun v y w=>run_typeAssert_hasB Tryz.underlying221 zK v y w
 meth:=fun v w=>by kernel_rfl
 enter:=fun args w=>by kernel_rfl
 eql:=fun v u w=>run_eql_iface_types 106 435 v u Tryz.underlying77 zd w
 typ:=fun v w=>by kernel_rfl
 walk:=fun b v w h=>by
  go_enter Tryz.func317,Tryz.ntmps317
  go_wp2;go_ret
  exact⟨rfl,rfl⟩
theorem Zi:IsW 149 0 325 where
 ne:=zd
 noIs:=fun v y w=>run_typeAssert_lacksB Tryz.underlying218 zK zK v y w
 noAs:=fun v y w=>run_typeAssert_lacksB Tryz.underlying228 zK zK v y w
 unwrap:=fun v y w=>run_typeAssert_hasB Tryz.underlying221 zK v y w
 meth:=fun v w=>by kernel_rfl
 enter:=fun args w=>by kernel_rfl
 eql:=fun v u w=>run_eql_iface_types 149 435 v u Tryz.underlying77 zd w
 typ:=fun v w=>by kernel_rfl
 walk:=fun b v w h=>by
  go_enter Tryz.func325,Tryz.ntmps325
  go_wp2;go_ret
  exact⟨rfl,rfl⟩
theorem Jdg:IsW 131 1 319 where
 ne:=zd
 noIs:=fun v y w=>run_typeAssert_lacksB Tryz.underlying218 zK zK v y w
 noAs:=fun v y w=>run_typeAssert_lacksB Tryz.underlying228 zK zK v y w
 unwrap:=fun v y w=>run_typeAssert_hasB Tryz.underlying221 zK v y w
 meth:=fun v w=>by kernel_rfl
 enter:=fun args w=>by kernel_rfl
 eql:=fun v u w=>run_eql_iface_types 131 435 v u Tryz.underlying77 zd w
 typ:=fun v w=>by kernel_rfl
 walk:=fun b v w h=>by
  go_enter Tryz.func319,Tryz.ntmps319
  go_wp2;go_ret
  exact⟨rfl,rfl⟩
theorem Jc8:IsW 140 2 321 where
 ne:=zd
 noIs:=fun v y w=>run_typeAssert_lacksB Tryz.underlying218 zK zK v y w
 noAs:=fun v y w=>run_typeAssert_lacksB Tryz.underlying228 zK zK v y w
 unwrap:=fun v y w=>run_typeAssert_hasB Tryz.underlying221 zK v y w
 meth:=fun v w=>by kernel_rfl
 enter:=fun args w=>by kernel_rfl
 eql:=fun v u w=>run_eql_iface_types 140 435 v u Tryz.underlying77 zd w
 typ:=fun v w=>by kernel_rfl
 walk:=fun b v w h=>by
  go_enter Tryz.func321,Tryz.ntmps321
  go_wp2;go_ret
  exact⟨rfl,rfl⟩
theorem Ke7:IsW 141 2 323 where
 ne:=zd
 noIs:=fun v y w=>run_typeAssert_lacksB Tryz.underlying218 zK zK v y w
 noAs:=fun v y w=>run_typeAssert_lacksB Tryz.underlying228 zK zK v y w
 unwrap:=fun v y w=>run_typeAssert_hasB Tryz.underlying221 zK v y w
 meth:=fun v w=>by kernel_rfl
 enter:=fun args w=>by kernel_rfl
 eql:=fun v u w=>run_eql_iface_types 141 435 v u Tryz.underlying77 zd w
 typ:=fun v w=>by kernel_rfl
 walk:=fun b v w h=>by
  go_enter Tryz.func323,Tryz.ntmps323
  go_wp2;go_ret
  exact⟨rfl,rfl⟩
def Zg (w:World):Nat->Value->Addr->Prop
 |0,v,a=>v=Ie 435 a
 |n+1,v,a=>∃ (ty off y b:Nat) (u:Value),IsW ty off y/\v=.iface ty (Pq b)/\w.cell? (Ar b off)=some u/\Zg w n u a
def Asg (ty tg : Nat) (r : Bool) : Prop := ∀ w : World, (ReflectliteType.relation "AssignableTo" ReflectliteType.assignableTo #[.agg #[.pointer (some ⟨17, ty, none⟩)], .iface 216 (.agg #[.pointer (some ⟨17, tg, none⟩)])]).run Tryz.prog w = .ok (.bool r) w
def Qn (w:World)(y off:Nat):Nat->Value->Option Int->Prop
 |0,v,x=>(∃ a,v=Ie 435 a/\x=none)\/∃ (b:Nat) (H:Int),v=.iface y (Pq b)/\x=some H/\w.cell? (Ar b off)=some (Iq H)
 |n+1,v,x=>∃ (ty o I b:Nat) (u:Value),IsW ty o I/\Asg ty y false/\v=.iface ty (Pq b)/\w.cell? (Ar b o)=some u/\Qn w y off n u x
theorem Zg.root {w}a:Zg w 0 (Ie 435 a) a:=rfl
theorem Zg.wrap {w}n ty off y b v a(I:IsW ty off y)(H:w.cell? (Ar b off)=some v)(h:Zg w n v a):Zg w (n+1) (.iface ty (Pq b)) a:=⟨ty,off,y,b,v,I,rfl,H,h⟩
theorem Qn.root {w y off}a:Qn w y off 0 (Ie 435 a) none:=.inl ⟨a,rfl,rfl⟩
theorem Qn.hit {w H off}b y(h:w.cell? (Ar b off)=some (Iq y)):Qn w H off 0 (.iface H (Pq b)) (some y):=.inr ⟨b,y,rfl,rfl,h⟩
theorem Qn.miss {w y off}n ty o H b v x(M:IsW ty o H)(I:Asg ty y false)(K:w.cell? (Ar b o)=some v)(h:Qn w y off n v x):Qn w y off (n+1) (.iface ty (Pq b)) x:=⟨ty,o,H,b,v,M,I,rfl,K,h⟩
theorem Zg.stay {w w'}:∀ {n:Nat} {v:Value} {a:Addr},Zg w n v a->Bq w w'->Zg w' n v a
 |0,_,_,h,_=>h
 |_+1,_,_,⟨ty,off,I,b,u,H,hv,y,h⟩,hb=>⟨ty,off,I,b,u,H,hv,Ja hb y,Zg.stay h hb⟩
theorem Qn.stay {w w' H off}:∀ {n:Nat} {v:Value} {x:Option Int},Qn w H off n v x->Bq w w'->Qn w' H off n v x
 |0,_,_,.inl h,_=>.inl h
 |0,_,_,.inr ⟨b,U,hv,M,y⟩,hb=>.inr ⟨b,U,hv,M,Ja hb y⟩
 |_+1,_,_,⟨ty,o,O,b,u,K,I,hv,y,h⟩,hb=>⟨ty,o,O,b,u,K,I,hv,Ja hb y,Qn.stay h hb⟩
theorem Zg.iface {w}:∀ {n:Nat} {v:Value} {a:Addr},Zg w n v a->∃ ty x,v=.iface ty x
 |0,_,_,h=>⟨_,_,h⟩
 |_+1,_,_,⟨_,_,_,_,_,_,hv,_⟩=>⟨_,_,hv⟩
theorem Qn.iface {w y off}:∀ {n:Nat} {v:Value} {x:Option Int},Qn w y off n v x->∃ ty x,v=.iface ty x
 |0,_,_,.inl ⟨_,hv,_⟩=>⟨_,_,hv⟩
 |0,_,_,.inr ⟨_,_,hv,_⟩=>⟨_,_,hv⟩
 |_+1,_,_,⟨_,_,_,_,_,_,_,hv,_⟩=>⟨_,_,hv⟩
theorem Jlq:Asg 106 149 false:=fun w=>by kernel_rfl
theorem Jnc:Asg 106 131 false:=fun w=>by kernel_rfl
theorem Jm4:Asg 106 140 false:=fun w=>by kernel_rfl
theorem Jgm:Asg 106 141 false:=fun w=>by kernel_rfl
theorem Jtw:Asg 149 106 false:=fun w=>by kernel_rfl
theorem Jkg:Asg 149 131 false:=fun w=>by kernel_rfl
theorem Jj6:Asg 149 140 false:=fun w=>by kernel_rfl
theorem Jfb:Asg 149 141 false:=fun w=>by kernel_rfl
theorem Jv1:Asg 131 106 false:=fun w=>by kernel_rfl
theorem Jsi:Asg 131 149 false:=fun w=>by kernel_rfl
theorem Jro:Asg 131 140 false:=fun w=>by kernel_rfl
theorem Jlp:Asg 131 141 false:=fun w=>by kernel_rfl
structure Jny (w:World) (v:Value) (a:Addr) (xn xr xc xp xg xk:Option Int):Prop where
 r:∃ k,Zg w k v a
 n:∃ k,Qn w 131 0 k v xn
 x:∃ k,Qn w 140 0 k v xr
 g:∃ k,Qn w 141 0 k v xg
 c:∃ k,Qn w 106 1 k v xc
 gc:∃ k,Qn w 141 1 k v xk
 p:∃ k,Qn w 149 1 k v xp
abbrev Kip (w:World)(v:Value)(a:Addr)(n c p:Option Int):Prop:=Jny w v a n none c p none none
theorem Jny.below {w w' v a n r c p g gc}(h:Jny w v a n r c p g gc)(hb:Bq w w'):Jny w' v a n r c p g gc:=by
 obtain⟨⟨Y,y⟩,⟨Z,H⟩,⟨bf,I⟩,⟨bh,K⟩,⟨bi,M⟩,⟨bj,O⟩,⟨bk,U⟩⟩:=h;exact⟨⟨Y,y.stay hb⟩,⟨Z,H.stay hb⟩,⟨bf,I.stay hb⟩,⟨bh,K.stay hb⟩,⟨bi,M.stay hb⟩,⟨bj,O.stay hb⟩,⟨bk,U.stay hb⟩⟩
theorem Yu.errV {w v a c p}(h:Yu w v a c p):Kip w v a none c p:=by
 rcases h with⟨rfl,rfl,rfl⟩|⟨b,p,rfl,rfl,rfl,h0,H⟩|⟨b,c,rfl,rfl,rfl,H,y⟩|⟨b,d,c,p,rfl,rfl,rfl,H,y,I,K⟩
 ·exact⟨⟨0,.root a⟩,⟨0,.root a⟩,⟨0,.root a⟩,⟨0,.root a⟩,⟨0,.root a⟩,⟨0,.root a⟩,⟨0,.root a⟩⟩
 ·exact⟨⟨1,.wrap _ _ _ _ _ _ _ Zi h0 (.root a)⟩,⟨1,.miss _ _ _ _ _ _ _ Zi Jkg h0 (.root a)⟩,⟨1,.miss _ _ _ _ _ _ _ Zi Jj6 h0 (.root a)⟩,⟨1,.miss _ _ _ _ _ _ _ Zi Jfb h0 (.root a)⟩,⟨1,.miss _ _ _ _ _ _ _ Zi Jtw h0 (.root a)⟩,⟨1,.miss _ _ _ _ _ _ _ Zi Jfb h0 (.root a)⟩,⟨0,.hit _ _ H⟩⟩
 ·exact⟨⟨1,.wrap _ _ _ _ _ _ _ Jab y (.root a)⟩,⟨1,.miss _ _ _ _ _ _ _ Jab Jnc y (.root a)⟩,⟨1,.miss _ _ _ _ _ _ _ Jab Jm4 y (.root a)⟩,⟨1,.miss _ _ _ _ _ _ _ Jab Jgm y (.root a)⟩,⟨0,.hit _ _ H⟩,⟨1,.miss _ _ _ _ _ _ _ Jab Jgm y (.root a)⟩,⟨1,.miss _ _ _ _ _ _ _ Jab Jlq y (.root a)⟩⟩
 exact⟨⟨2,.wrap _ _ _ _ _ _ _ Jab y (.wrap _ _ _ _ _ _ _ Zi I (.root a))⟩,⟨2,.miss _ _ _ _ _ _ _ Jab Jnc y (.miss _ _ _ _ _ _ _ Zi Jkg I (.root a))⟩,⟨2,.miss _ _ _ _ _ _ _ Jab Jm4 y (.miss _ _ _ _ _ _ _ Zi Jj6 I (.root a))⟩,⟨2,.miss _ _ _ _ _ _ _ Jab Jgm y (.miss _ _ _ _ _ _ _ Zi Jfb I (.root a))⟩,⟨0,.hit _ _ H⟩,⟨2,.miss _ _ _ _ _ _ _ Jab Jgm y (.miss _ _ _ _ _ _ _ Zi Jfb I (.root a))⟩,⟨1,.miss _ _ _ _ _ _ _ Jab Jlq y (.hit _ _ K)⟩⟩
