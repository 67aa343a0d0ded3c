/- Plain facts on values of three fields (V), on the cells in which they lie, and on worlds of which the elder part stands. Nothing is said of the program but the layout of its types. -/
import Derived.Test.YtkgibdjakgmmcaaGreatDoorProg
import Derived.WalkKit
import Derived.WalkSpells
import Derived.WalkLawsBesides
import Derived.BigQuiet
import Derived.Deep.QuietTactic
import Derived.Maps.AppendAt
import Derived.Deep.Light
import Derived.Deep.LoopGhost
import Derived.Deep.RegionWith
import Derived.Deep.OwnRows
import Derived.OrdersHeld
import Derived.Deep.RegionHeld
set_option maxHeartbeats 400000
set_option maxRecDepth 20000
namespace Go.Proofs.YtkgibdjakgmmcaaGreatDoor
section
open Go.RowKit
theorem tk {P:Program}{md:Region.Mode}{ops:Array Oper}{Q:Exit→Act→World→Prop}{S:World→Prop}{oi:Oper}{fuel:Nat}{listed:Array Bool}{a:Act}{w:World}(i:Nat)(v:Value)(hi:ops[i]?=some oi)(hS:S w)
  (hy:∀ w,S w→(execOp a.eval oi).run P w=.ok (.value v) w) (h:wpAnyH P md ops Q S fuel (listed.setIfInBounds i true) (a.put oi.dst v) w)
  (hr:(Region.ready md ops listed).contains i=true:=by kernel_rfl) (hf:Region.free md ops listed i=true:=by kernel_rfl) (hs:Region.noSelect ops=true:=by kernel_rfl)
  (hQ:∀ c a w,Q (.panic c) (a.put oi.dst v) w→Q (.panic c) a w:=by exact fun _ _ _ h=>h) (hw:Region.wanted oi (yielded ops a.tmps)=true:=by rfl):wpAnyH P md ops Q S (fuel+1) listed a w:=
 wpAnyH_take hi hs hf hr hQ (.inl ⟨hw,hy⟩) hS h
theorem tkj {P:Program}{md:Region.Mode}{ops:Array Oper}{Q:Exit→Act→World→Prop}{S:World→Prop}{oi:Oper}{fuel:Nat}{listed:Array Bool}{a:Act}{w:World}{v:Value}(i:Nat)(hi:ops[i]?=some oi)(hS:S w)
  (h:wpAnyH P md ops Q S fuel (listed.setIfInBounds i true) (a.put oi.dst v) w)
  (hr:(Region.ready md ops listed).contains i=true:=by kernel_rfl) (hf:Region.free md ops listed i=true:=by kernel_rfl) (hs:Region.noSelect ops=true:=by kernel_rfl)
  (hy:∀ w,S w→(execOp a.eval oi).run P w=.ok (.value v) w:=by intro w hSw;(try dsimp only at hSw);go_simp;try rfl)
  (hQ:∀ c a w,Q (.panic c) (a.put oi.dst v) w→Q (.panic c) a w:=by exact fun _ _ _ h=>h) (hw:Region.wanted oi (yielded ops a.tmps)=true:=by rfl):wpAnyH P md ops Q S (fuel+1) listed a w:=
 wpAnyH_take hi hs hf hr hQ (.inl ⟨hw,hy⟩) hS h
theorem tkn {p q:Prop}(h:q)(e:p=q:=by conv=>lhs;simp only[Act.put,List.getElem_toArray,List.getElem_cons_zero,List.getElem_cons_succ,List.setIfInBounds_toArray,List.set_cons_zero,List.set_cons_succ]):p:=e▸h
theorem tkr {P:Program}{md:Region.Mode}{ops:Array Oper}{Q:Exit→Act→World→Prop}{S:World→Prop}{o:Oper}{fuel:Nat}{listed:Array Bool}{a:Act}{w:World}(i:Nat)(ho:ops[i]?=some o)
  (h:∀ K:Act→World→Prop,Shut (∀ a w,S w→(S w→wpAnyH P md ops Q S fuel (listed.setIfInBounds i true) a w)→K a w)→if Region.wanted o (yielded ops a.tmps)=true then Oper.wp P o a w K Q else K (a.put o.dst undef) w)
  (hr:Region.ready md ops listed=[i]:=by kernel_rfl):wpAnyH P md ops Q S (fuel+1) listed a w:=wpAnyH_ready hr (by simp) (AllReadyH.cons ho h AllReadyH.nil)
structure V where
 k:Int
 n:Int
 s:ByteArray
theorem V.ext' {v u:V}(h1:v.k=u.k)(h2:v.n=u.n)(h3:v.s=u.s):v=u:=by cases v;cases u;simp_all
def veq (k n:Int)(s:ByteArray)(k' n':Int)(s':ByteArray):Bool:=k==k'&&(n==n'&&s==s')
def V.beq (v u:V):Bool:=veq v.k v.n v.s u.k u.n u.s
theorem bytes_beq (a b:ByteArray):(a==b)=true↔a=b:=by
 rw[beq_toListBytes,beq_iff_eq,ByteArray.toList_eq,ByteArray.toList_eq]
 constructor
 ·intro h
  obtain⟨⟨x⟩⟩:=a
  obtain⟨⟨y⟩⟩:=b
  simp at h
  rw[h]
 rintro rfl;rfl
theorem V.beq_iff (v u:V):v.beq u=true↔v=u:=by
 unfold V.beq veq
 rw[Bool.and_eq_true,Bool.and_eq_true,beq_iff_eq,beq_iff_eq,bytes_beq]
 constructor
 ·intro h;exact V.ext' h.1 h.2.1 h.2.2
 rintro rfl;exact⟨rfl,rfl,rfl⟩
theorem V.beq_false (v u:V):v.beq u=false↔v≠u:=by
 rw[←Bool.not_eq_true,V.beq_iff]
def V.cells (v:V):List Value:=[.int .i64 v.k,.int .i64 v.n,.string v.s]
abbrev V.val (v:V):Value:=.agg #[.int .i64 v.k,.int .i64 v.n,.string v.s]
def VAt (w:World)(b o:Nat)(v:V):Prop:=
 w.cell? ⟨b,o,none⟩=some (.int .i64 v.k)∧w.cell? ⟨b,o+1,none⟩=some (.int .i64 v.n)∧w.cell? ⟨b,o+2,none⟩=some (.string v.s)
def Vals (w:World)(a:Option Addr)(vs:List V):Prop:=
 vs=[]∨∃ b o,a=some ⟨b,o,none⟩∧b<w.heap.size∧∀ i v,vs[i]?=some v→VAt w b (o+i*3) v
theorem VAt.of_block {w w':World}{b o:Nat}{v:V}(h:VAt w b o v)(e:w'.heap[b]?=w.heap[b]?):VAt w' b o v:=by
 obtain⟨h1,h2,h3⟩:=h
 exact⟨by rw[World.cell?_of_block (w:=w) e];exact h1,by rw[World.cell?_of_block (w:=w) e];exact h2,by rw[World.cell?_of_block (w:=w) e];exact h3⟩
theorem lt_of_cell {w:World}{a:Addr}{v:Value}(h:w.cell? a=some v):a.block<w.heap.size:=by
 rcases Nat.lt_or_ge a.block w.heap.size with h'|h'
 ·exact h'
 simp[World.cell?,Array.getElem?_eq_none h']at h
theorem Vals.nil (w:World)(a:Option Addr):Vals w a []:=.inl rfl
theorem Vals.of_block {w w':World}{a:Option Addr}{vs:List V}(h:Vals w a vs)(hs:w.heap.size≤w'.heap.size)
  (e:∀ b o,a=some ⟨b,o,none⟩→b<w.heap.size→w'.heap[b]?=w.heap[b]?):Vals w' a vs:=by
 rcases h with h|⟨b,o,ha,hb,h⟩
 ·exact .inl h
 exact .inr ⟨b,o,ha,by omega,fun i v hv=>(h i v hv).of_block (e b o ha hb)⟩
theorem Vals.below {w w':World}{a:Option Addr}{vs:List V}(h:Vals w a vs)(hb:Below w.heap.size w w'):Vals w' a vs:=
 h.of_block hb.size fun b _ _ hlt=>hb.block b hlt
theorem Vals.at {w:World}{a:Option Addr}{vs:List V}(h:Vals w a vs){i:Nat}(hi:i<vs.length) :
  ∃ b o,a=some ⟨b,o,none⟩∧b<w.heap.size∧VAt w b (o+i*3) vs[i]:=by
 rcases h with h|⟨b,o,ha,hb,h⟩
 ·subst h;simp at hi
 exact⟨b,o,ha,hb,h i vs[i] (by simp[hi])⟩
theorem below_drewN {B:Nat}{a w:World}(h:Below B a w)(n:Nat):Below B a (w.drewN n):=⟨h.os,h.tape,h.output,h.size,h.block⟩
theorem le_alloc (w:World)(o:Obj):w.heap.size≤(w.alloc o).heap.size:=by simp
theorem below_behind {w w':World}{o:Obj}(h:Below (w.alloc o).heap.size (w.alloc o) w'):Below w.heap.size w w':=
 ((Below.refl _ _).alloc (Nat.le_refl _) _).trans (h.mono (le_alloc _ _))
theorem below_keep {w w':World}(h:Below w.heap.size w w'):(∀ b o,b<w.heap.size→w'.cell? ⟨b,o,none⟩=w.cell? ⟨b,o,none⟩)∧(∀ b o,b<w.heap.size→w'.frozen? ⟨b,o,none⟩=w.frozen? ⟨b,o,none⟩):=
 ⟨fun _ _ hb=>h.cell (p:=⟨_,_,none⟩) hb,fun _ _ hb=>h.frozen (p:=⟨_,_,none⟩) hb⟩
theorem below_then {w wr w':World}(h:Below w.heap.size w wr)(k:Below wr.heap.size wr w'):Below w.heap.size w w':=h.trans (k.mono h.size)
theorem below_alloc {w wr:World}(h:Below w.heap.size w wr)(o:Obj):Below w.heap.size w (wr.alloc o):=h.alloc h.size o
theorem below_undrew {B:Nat}{a w:World}(h:Below B a.drew w):Below B a w:=⟨h.os,h.tape,h.output,h.size,h.block⟩
theorem below_set5 {B:Nat}{a w:World}{b:Nat}(h:Below B a w)(hb:B≤b)(v0 v1 v2 v3 v4:Value) :
  Below B a (((((w.setCell ⟨b,0,none⟩ v0).setCell ⟨b,1,none⟩ v1).setCell ⟨b,2,none⟩ v2).setCell ⟨b,3,none⟩ v3).setCell ⟨b,4,none⟩ v4):=
 ((((h.setCell (p:=⟨b,0,none⟩) hb v0).setCell (p:=⟨b,1,none⟩) hb v1).setCell (p:=⟨b,2,none⟩) hb v2).setCell (p:=⟨b,3,none⟩) hb v3).setCell (p:=⟨b,4,none⟩) hb v4
theorem ret_bool {a b:Bool}(h:a=b):Ending.returned (.bool a)=.returned (.bool b):=by rw[h]
theorem ret_int {k:IntKind}{a b:Int}(h:a=b):Ending.returned (.int k a)=.returned (.int k b):=by rw[h]
theorem infoV:(Tryz.prog.info? 61).map (fun i=>(i.zero,i.size,i.bytes))=some (some (.agg #[.int .i64 0,.int .i64 0,.string ⟨#[]⟩]),3,32):=by kernel_rfl
theorem info_u8:(Tryz.prog.info? 5).map (fun i=>(i.zero,i.size,i.bytes))=some (some (.int .u8 0),1,1):=by kernel_rfl
theorem info_u64:(Tryz.prog.info? 245).map (fun i=>(i.zero,i.size,i.bytes))=some (some (.int .u64 0),1,8):=by kernel_rfl
theorem info_bool:(Tryz.prog.info? 4).map (fun i=>(i.zero,i.size,i.bytes))=some (some (.bool false),1,1):=by kernel_rfl
theorem vals_of_owns {w:World}{base:Nat}{sv:Value}{n:Nat}{vs:List V}(h:w.ownsRow base 61 3 sv n (vs.flatMap V.cells)) :
  n=vs.length∧∃ a cap,sv=.slice a vs.length cap∧Vals w a vs:=by
 obtain⟨hl,h⟩:=h
 have hlen:(vs.flatMap V.cells).length=vs.length*3:=by
  clear hl h
  induction vs with
  |nil=>rfl
  |cons v vs ih=>simp[V.cells]at ih ⊢;omega
 have hn:n=vs.length:=by omega
 subst hn
 refine⟨rfl,?_⟩
 rcases h with⟨hv,h0⟩|⟨g,cap,cur,hv,_,hg,_,_,_,hcur⟩
 ·have:vs=[]:=List.length_eq_zero_iff.1 h0
  subst this
  exact⟨none,0,hv,.inl rfl⟩
 refine⟨some ⟨g,0,none⟩,cap,hv,.inr ⟨g,0,rfl,?_,?_⟩⟩
 ·rcases Nat.lt_or_ge g w.heap.size with h'|h'
  ·exact h'
  simp[Array.getElem?_eq_none h']at hg
 intro i v hi
 have hiv:i<vs.length:=by
  rcases Nat.lt_or_ge i vs.length with h'|h'
  ·exact h'
  simp[List.getElem?_eq_none h']at hi
 have key:∀ (us:List V) (i:Nat) (v:V),us[i]?=some v→(us.flatMap V.cells)[i*3]?=some (.int .i64 v.k)∧(us.flatMap V.cells)[i*3+1]?=some (.int .i64 v.n)∧(us.flatMap V.cells)[i*3+2]?=some (.string v.s):=by
  intro us
  induction us with
  |nil=>intro i v h;simp at h
  |cons u us ih=>
   intro i v h
   cases i with
   |zero=>simp at h;subst h;simp[V.cells]
   |succ i=>
    have:=ih i v (by simpa using h)
    have e0:(i+1)*3=i*3+3:=by omega
    simp only[List.flatMap_cons,V.cells,e0]
    simpa using this
 obtain⟨k1,k2,k3⟩:=key vs i v hi
 rw[←hcur]at k1 k2 k3
 rw[List.getElem?_take_of_lt (by omega)]at k1 k2 k3
 simp only[Array.getElem?_toList]at k1 k2 k3
 unfold VAt
 simp only[World.cell?,hg,Nat.zero_add]
 simp[k1,k2,k3]
theorem fieldsV : (Tryz.prog.fieldsOf 61).toList.map (fun f => (f.name, f.type, f.offset)) = [("Kind", 3, 0), ("N", 2, 1), ("S", 9, 2)] := by kernel_rfl
theorem underV:Tryz.prog.underlying 61=some (.struct (Tryz.prog.fieldsOf 61)):=by kernel_rfl
theorem sihV:Tryz.prog.stoodInHeld 61=false:=by kernel_rfl
theorem run_equal_V (w:World)(k n k' n':Int)(s s':ByteArray) :
  (Op.equal 61 (.agg #[.int .i64 k,.int .i64 n,.string s]) (.agg #[.int .i64 k',.int .i64 n',.string s'])).run Tryz.prog w=.ok (veq k n s k' n' s') w:=by
 rw[Op.equal,Op.maxDepth,run_equalIn_struct w 9999 61 _ _ underV sihV]
 have h:=fieldsV
 generalize (Tryz.prog.fieldsOf 61).toList=fs at h
 rcases fs with _|⟨f0,_|⟨f1,_|⟨f2,_|⟨f3,fs⟩⟩⟩⟩
 ·simp at h
 ·simp at h
 ·simp at h
 ·simp at h
  obtain⟨⟨h1,h2,h3⟩,⟨h4,h5,h6⟩,h7,h8,h9⟩:=h
  simp[Op.eqFields,h1,h2,h3,h4,h5,h6,h7,h8,h9,part,sizeOf,go_sem]
  simp only[veq,beq_toListBytes]
  by_cases a1:k=k'<;>by_cases a2:n=n'<;>by_cases a3:s.toList=s'.toList<;>simp[a1,a2,a3]
 simp at h
theorem run_eql_V (w:World)(k n k' n':Int)(s s':ByteArray) :
  (binOp .eql 61 (.agg #[.int .i64 k,.int .i64 n,.string s]) (.agg #[.int .i64 k',.int .i64 n',.string s'])).run Tryz.prog w=.ok (.bool (veq k n s k' n' s')) w:=by
 simp[binOp,run_equal_V]
theorem run_neq_V (w:World)(k n k' n':Int)(s s':ByteArray) :
  (binOp .neq 61 (.agg #[.int .i64 k,.int .i64 n,.string s]) (.agg #[.int .i64 k',.int .i64 n',.string s'])).run Tryz.prog w=.ok (.bool (!veq k n s k' n' s')) w:=by
 simp[binOp,run_equal_V]
end
section
def str (l:List UInt8):ByteArray:=⟨l.toArray⟩
theorem str_append (a b:List UInt8):str a++str b=str (a++b):=by
 unfold str
 rw[ByteArray.ext_iff]
 simp
theorem str_toList (s:ByteArray):str s.toList=s:=by
 rw[ByteArray.toList_eq];rfl
theorem str_size (l:List UInt8):(str l).size=l.length:=by simp[str,ByteArray.size]
def hi (l:List Bool)(i:Nat):Nat→Nat
 |0=>0
 |m+1=>2*hi l i m+(if l.getD (i+(7-m)) false then 1 else 0)
theorem hi_lt (l:List Bool)(i:Nat):∀ m,hi l i m<2 ^ m:=by
 intro m
 induction m with
 |zero=>simp[hi]
 |succ m ih=>simp only[hi];rw[Nat.pow_succ];split<;>omega
theorem hi_testBit (l:List Bool)(i:Nat):∀ m,m≤8→∀ t,(hi l i m).testBit t=(decide (t<m)&&l.getD (i+(8-m)+t) false):=by
 intro m
 induction m with
 |zero=>intro _ t;simp[hi]
 |succ m ih=>
  intro hm t
  simp only[hi]
  cases t with
  |zero=>
   rw[Nat.testBit_zero]
   have e:i+(8-(m+1))+0=i+(7-m):=by omega
   rw[e]
   cases h:l.getD (i+(7-m)) false
   ·simp
   simp
  |succ t=>
   rw[Nat.testBit_succ]
   have e:(2*hi l i m+(if l.getD (i+(7-m)) false=true then 1 else 0)) / 2=hi l i m:=by split<;>omega
   rw[e,ih (by omega) t]
   have e2:i+(8-(m+1))+(t+1)=i+(8-m)+t:=by omega
   rw[e2]
   simp
def byteAt (l:List Bool)(j:Nat):Nat:=hi l (8*j) 8
theorem byteAt_lt (l:List Bool)(j:Nat):byteAt l j<256:=hi_lt l (8*j) 8
theorem byteAt_testBit (l:List Bool)(j t:Nat):(byteAt l j).testBit t=(decide (t<8)&&l.getD (8*j+t) false):=by
 unfold byteAt;rw[hi_testBit l (8*j) 8 (Nat.le_refl _) t];simp
theorem byteAt_nil (j:Nat):byteAt [] j=0:=by
 apply Nat.eq_of_testBit_eq
 intro t
 rw[byteAt_testBit];simp
theorem byteAt_take (l:List Bool)(n j:Nat)(hn:n<l.length) :
  byteAt (l.take (n+1)) j=if j=n / 8 then byteAt (l.take n) j ||| ((if l[n]then 1 else 0) <<< (n % 8))else byteAt (l.take n) j:=by
 have get:∀ m x,(l.take m).getD x false=(decide (x<m)&&l.getD x false):=by
  intro m x
  simp only[List.getD_eq_getElem?_getD,List.getElem?_take]
  by_cases h:x<m<;>simp[h]
 have gn:l.getD n false=l[n]:=by simp[hn]
 apply Nat.eq_of_testBit_eq
 intro t
 by_cases hj:j=n / 8
 ·subst hj
  rw[if_pos rfl,Nat.testBit_or,byteAt_testBit,byteAt_testBit,get,get,Nat.testBit_shiftLeft]
  by_cases ht:t<8
  ·by_cases he:8*(n / 8)+t=n
   ·have h1:t=n % 8:=by omega
    have h2:n % 8≤t:=by omega
    have h3:t-n % 8=0:=by omega
    rw[he,gn,h3]
    cases l[n]<;>simp[h2]<;>omega
   by_cases hlt:8*(n / 8)+t<n
   ·have h2:¬ n % 8≤t:=by omega
    simp[ht,hlt,h2];intro;omega
   have h2:¬ (t-n % 8=0):=by omega
   have h4:((if l[n]=true then 1 else 0:Nat)).testBit (t-n % 8)=false:=by
    cases l[n]
    ·simp
    obtain⟨q,hq⟩:=Nat.exists_eq_succ_of_ne_zero h2
    rw[hq]
    simp[Nat.testBit_succ]
   rw[h4]
   have h5:¬ (8*(n / 8)+t<n+1):=by omega
   simp[hlt,h5]
  have h2:¬ (t-n % 8=0):=by omega
  have h4:((if l[n]=true then 1 else 0:Nat)).testBit (t-n % 8)=false:=by
   cases l[n]
   ·simp
   obtain⟨q,hq⟩:=Nat.exists_eq_succ_of_ne_zero h2
   rw[hq]
   simp[Nat.testBit_succ]
  rw[h4]
  simp[ht]
 rw[if_neg hj,byteAt_testBit,byteAt_testBit,get,get]
 by_cases ht:t<8
 ·have:decide (8*j+t<n+1)=decide (8*j+t<n):=by
   rw[decide_eq_decide];omega
  rw[this]
 simp[ht]
def packBits (l:List Bool):List UInt8:=(List.range ((l.length+7) / 8)).map fun j=>UInt8.ofNat (byteAt l j)
theorem packBits_length (l:List Bool):(packBits l).length=(l.length+7) / 8:=by simp[packBits]
def low (n:Int):UInt8:=UInt8.ofNat (n % 256).toNat
def le8 (u:Nat):List UInt8:=(List.range 8).map fun i=>UInt8.ofNat (u / 256 ^ i % 256)
theorem le8_length (u:Nat):(le8 u).length=8:=by simp[le8]
def u64 (n:Int):Nat:=(n % 18446744073709551616).toNat
theorem u64_lt (n:Int):u64 n<18446744073709551616:=by unfold u64;omega
def bitsOf (width:Nat)(ns:List Nat):List Bool:=ns.flatMap fun n=>(List.range width).map fun b=>n.testBit b
theorem bitsOf_length (width:Nat)(ns:List Nat):(bitsOf width ns).length=width*ns.length:=by
 induction ns with
 |nil=>simp[bitsOf]
 |cons n ns ih=>
  unfold bitsOf at *
  rw[List.flatMap_cons,List.length_append,ih]
  simp[Nat.mul_add];omega
theorem bitsOf_snoc (width:Nat)(ns:List Nat)(n:Nat):bitsOf width (ns++[n])=bitsOf width ns++(List.range width).map fun b=>n.testBit b:=by
 simp[bitsOf]
theorem bitsOf_get (width:Nat):∀ (ns:List Nat) (i b:Nat) (hi:i<ns.length),b<width→(bitsOf width ns)[width*i+b]?=some (ns[i].testBit b):=by
 intro ns
 induction ns with
 |nil=>intro i b hi;simp at hi
 |cons n ns ih=>
  intro i b hi hb
  have e:bitsOf width (n::ns)=((List.range width).map fun b=>n.testBit b)++bitsOf width ns:=by simp[bitsOf]
  rw[e]
  cases i with
  |zero=>
   simp only[Nat.mul_zero,Nat.zero_add]
   rw[List.getElem?_append_left (by simpa using hb)]
   simp[hb]
  |succ i=>
   rw[List.getElem?_append_right (by simp[Nat.mul_add];omega)]
   have:width*(i+1)+b-((List.range width).map fun b=>n.testBit b).length=width*i+b:=by simp[Nat.mul_add];omega
   rw[this]
   simpa using ih i b (by simpa using hi) hb
end
section
open Go.RowKit
attribute [local go_sem] run_equal_V
def way (typ how:Int):Bool:=decide (1≤typ∧typ≤3∧0≤how∧how≤3∧¬ (typ=3∧how=3))
def okK (k n:Int)(s:ByteArray):Bool:=
 decide ((k=1∧s.toList.isEmpty=true)∨(k=2∧(n=0∨n=1)∧s.toList.isEmpty=true)∨(k=3∧n=0∧s.size≤40))
def okB (typ k n:Int)(s:ByteArray):Bool:=decide ((k=0∧n=0∧s.toList.isEmpty=true)∨(k=typ∧okK k n s=true))
theorem isType_any (t:Int)(w:World) :
  Calls Tryz.prog 112 #[.int .i64 t] w fun e w'=>e=.returned (.bool (decide (1≤t∧t≤3)))∧w'=w:=by
 go_enter Tryz.func112,Tryz.ntmps112
 go_wp2
 all_goals
  go_ret
  exact⟨ret_bool (by rw[Bool.eq_iff_iff];simp at *;omega),rfl⟩
theorem canBe_any (t h:Int)(w:World) :
  Calls Tryz.prog 92 #[.int .i64 t,.int .i64 h] w fun e w'=>e=.returned (.bool (way t h))∧w'=w:=by
 unfold way
 go_enter Tryz.func92,Tryz.ntmps92
 go_wp2_with (go_at_call 112;refine(isType_any _ _).mono ?_;rintro e w' ⟨rfl,rfl⟩)
 all_goals
  go_ret
  exact⟨ret_bool (by rw[Bool.eq_iff_iff];simp at *;omega),rfl⟩
theorem rWay_any (t h:Int)(w:World) :
  Calls Tryz.prog 73 #[.int .i64 t,.int .i64 h] w fun e w'=>e=.returned (.bool (way t h))∧w'=w:=by
 unfold way
 go_enter Tryz.func73,Tryz.ntmps73
 go_wp2
 all_goals
  go_ret
  exact⟨ret_bool (by rw[Bool.eq_iff_iff];simp at *;omega),rfl⟩
theorem bytesFor_any (n:Int)(w:World)(h0:0≤n)(h1:n≤100000) :
  Calls Tryz.prog 146 #[.int .i64 n] w fun e w'=>e=.returned (.int .i64 ((n+7) / 8))∧w'=w:=by
 go_enter Tryz.func146,Tryz.ntmps146
 go_wp2
 go_ret
 exact⟨rfl,rfl⟩
theorem isValue_any (k n:Int)(s:ByteArray)(w:World) :
  Calls Tryz.prog 132 #[.agg #[.int .i64 k,.int .i64 n,.string s]] w fun e w'=>e=.returned (.bool (okK k n s))∧Below w.heap.size w w':=by
 go_enter Tryz.func132,Tryz.ntmps132
 go_wp2
 all_goals
  go_ret
  refine⟨ret_bool ?_,(Below.refl _ _).alloc (Nat.le_refl _) _⟩
  go_light
  unfold okK
  generalize s.toList.isEmpty=e at *
  generalize s.size=m at *
  rw[Bool.eq_iff_iff]
  cases e<;>(try simp at *)<;>(try omega)
theorem isOf_any (k n:Int)(s:ByteArray)(t:Int)(w:World) :
  Calls Tryz.prog 113 #[.agg #[.int .i64 k,.int .i64 n,.string s],.int .i64 t] w fun e w'=>e=.returned (.bool (okB t k n s))∧Below w.heap.size w w':=by
 by_cases h0:k=0
 ·go_enter Tryz.func113,Tryz.ntmps113
  go_wp2
  all_goals
   go_ret
   refine⟨ret_bool ?_,(Below.refl _ _).alloc (Nat.le_refl _) _⟩
   go_light
   unfold okB okK
   generalize s.size=m at *
   rw[Bool.eq_iff_iff]
   cases hs:s.toList<;>(try simp[hs]at *)<;>(try omega)
 by_cases h1:k=t
 ·subst h1
  go_enter Tryz.func113,Tryz.ntmps113
  go_wp2_with (go_at_call 132;refine(isValue_any _ _ _ _).mono ?_;rintro e w' ⟨rfl,hb⟩)
  all_goals
   go_ret
   refine⟨ret_bool ?_,below_behind hb⟩
   go_light
   unfold okB
   cases okK k n s<;>(try simp at *)<;>(try omega)
 have h2:(k==t)=false:=by simp[h1]
 go_enter Tryz.func113,Tryz.ntmps113
 go_wp2
 all_goals
  go_ret
  refine⟨ret_bool ?_,(Below.refl _ _).alloc (Nat.le_refl _) _⟩
  go_light
  unfold okB okK
  generalize s.toList.isEmpty=e at *
  generalize s.size=m at *
  rw[Bool.eq_iff_iff]
  cases e<;>(try simp at *)<;>(try omega)
theorem mark_any (n:Int)(w:World) :
  Calls Tryz.prog 51 #[.int .i64 n] w fun e w'=>e=.returned (.agg #[.int .i64 (-7),.int .i64 n,.string ⟨#[109,97,114,107]⟩])∧Below w.heap.size w w':=by
 go_enter Tryz.func51,Tryz.ntmps51
 go_wp2
 exact bodyPost_ret (v:=.agg #[.int .i64 (-7),.int .i64 n,.string ⟨#[109,97,114,107]⟩]) (by simp[results,Tryz.results51,go_sem]) rfl ⟨rfl,(Below.refl _ _).alloc (Nat.le_refl _) _⟩
abbrev fault (c:Int):Value:=.agg #[.int .i64 c,.int .i64 (-1),.int .i64 (-1),.int .i64 (-1),.int .i64 (-1)]
theorem rBad_any (n:Int)(w:World) :
  Calls Tryz.prog 24 #[.int .i64 n] w fun e w'=>e=.returned (fault n)∧Below w.heap.size w w':=by
 go_enter Tryz.func24,Tryz.ntmps24
 go_wp2
 exact bodyPost_ret (v:=fault n) (by simp[results,Tryz.results24,go_sem]) rfl ⟨rfl,(Below.refl _ _).alloc (Nat.le_refl _) _⟩
theorem rGood_any (w:World) :
  Calls Tryz.prog 27 #[] w fun e w'=>e=.returned (fault 0)∧Below w.heap.size w w':=by
 go_enter Tryz.func27,Tryz.ntmps27
 go_wp2_with (go_at_call 24;refine(rBad_any _ _).mono ?_;rintro e w' ⟨rfl,hb⟩;obtain⟨hc,hf⟩:=below_keep hb)
 exact bodyPost_ret (v:=fault 0) (by simp[results,Tryz.results27,go_sem,hc]) rfl ⟨rfl,below_set5 (below_behind hb) (Nat.le_refl _) _ _ _ _ _⟩
theorem rIs_any (k n:Int)(s:ByteArray)(t:Int)(w:World) :
  Calls Tryz.prog 74 #[.agg #[.int .i64 k,.int .i64 n,.string s],.int .i64 t] w fun e w'=>e=.returned (.bool (okB t k n s))∧Below w.heap.size w w':=by
 go_enter Tryz.func74,Tryz.ntmps74
 go_wp2
 all_goals
  go_ret
  refine⟨ret_bool ?_,(Below.refl _ _).alloc (Nat.le_refl _) _⟩
  go_light
  unfold okB okK
  generalize s.size=m at *
  rw[Bool.eq_iff_iff]
  cases hs:s.toList<;>(try simp[hs]at *)<;>(try omega)
end
section
open Go.RowKit
def place:List V→V→Nat
 |[],_=>0
 |u::l,v=>if u.beq v then 0 else place l v+1
theorem place_le (l:List V)(v:V):place l v≤l.length:=by
 induction l with
 |nil=>simp[place]
 |cons u l ih=>unfold place;split<;>simp;omega
theorem place_eq (l:List V)(v:V):∀ (k:Nat) (hk:k<l.length),(∀ j (hj:j<k),l[j]'(by omega)≠v)→l[k]=v→place l v=k:=by
 induction l with
 |nil=>intro k hk;simp at hk
 |cons u l ih=>
  intro k hk hn he
  cases k with
  |zero=>simp at he;simp[place,(V.beq_iff u v).2 he]
  |succ k=>
   have h0:=hn 0 (by omega)
   simp at h0
   simp only[place,(V.beq_false u v).2 h0,Bool.false_eq_true,if_false]
   simp at he
   rw[ih k (by simpa using hk) (fun j hj=>by have:=hn (j+1) (by omega);simpa using this) he]
theorem place_none (l:List V)(v:V)(h:∀ j (hj:j<l.length),l[j]≠v):place l v=l.length:=by
 induction l with
 |nil=>rfl
 |cons u l ih=>
  have h0:=h 0 (by simp)
  simp at h0
  simp only[place,(V.beq_false u v).2 h0,Bool.false_eq_true,if_false]
  rw[ih fun j hj=>by have:=h (j+1) (by simpa using hj);simpa using this]
  rfl
theorem getElem_place (l:List V)(v:V)(h:place l v<l.length):l[place l v]=v:=by
 induction l with
 |nil=>simp at h
 |cons u l ih=>
  by_cases e:u.beq v=true
  ·have:place (u::l) v=0:=by simp[place,e]
   simp[this];exact(V.beq_iff u v).1 e
  have hp:place (u::l) v=place l v+1:=by simp[place,e]
  simp only[hp]at h ⊢
  simp at h ⊢
  exact ih h
theorem run_eql_same (v u:V)(h:v=u):∀ w,(binOp .eql 61 v.val u.val).run Tryz.prog w=.ok (.bool true) w:=fun w=>by
 rw[run_eql_V];exact congrArg (fun b=>Result.ok (Value.bool b) w) ((V.beq_iff v u).2 h)
theorem run_eql_diff (v u:V)(h:v≠u):∀ w,(binOp .eql 61 v.val u.val).run Tryz.prog w=.ok (.bool false) w:=fun w=>by
 rw[run_eql_V];exact congrArg (fun b=>Result.ok (Value.bool b) w) ((V.beq_false v u).2 h)
theorem run_neq_same (v u:V)(h:v=u):∀ w,(binOp .neq 61 v.val u.val).run Tryz.prog w=.ok (.bool false) w:=fun w=>by
 rw[run_neq_V];exact congrArg (fun b=>Result.ok (Value.bool (!b)) w) ((V.beq_iff v u).2 h)
theorem run_neq_diff (v u:V)(h:v≠u):∀ w,(binOp .neq 61 v.val u.val).run Tryz.prog w=.ok (.bool true) w:=fun w=>by
 rw[run_neq_V];exact congrArg (fun b=>Result.ok (Value.bool (!b)) w) ((V.beq_false v u).2 h)
theorem eq_of_all (xs ys:List V)(hl:xs.length=ys.length)(h:∀ j (hj:j<xs.length),xs[j]=ys[j]'(hl▸hj)):xs=ys:=
 List.ext_getElem hl fun i h1 _=>h i h1
theorem sameValues_any (a a2:Option Addr)(cap cap2:Nat)(xs ys:List V)(w:World)(hn:xs.length≤maxLen)(hx:Vals w a xs)(hy:Vals w a2 ys)(b:Bool)(hb:b=true↔xs=ys) :
  Calls Tryz.prog 72 #[.slice a xs.length cap,.slice a2 ys.length cap2] w fun e w'=>e=.returned (.bool b)∧Below w.heap.size w w':=by
 unfold maxLen at hn
 have HB:Hid (b=true↔xs=ys):=hb
 clear hb
 by_cases hl:xs.length=ys.length
 ·have HL:Hid (xs.length=ys.length):=hl
  have hl2:((xs.length:Int) != (ys.length:Int))=false:=by simp[hl]
  clear hl
  go_enter Tryz.func72,Tryz.ntmps72
  go_wp2
  go_loopw [5] (fun i wr=>∃ k:Nat,k≤xs.length∧i=.int .i64 k∧(∃ m,wr=w.drewN m)∧Hid (∀ j (hj:j<xs.length),j<k→xs[j]=ys[j]'(HL.out▸hj))) (fun i _=>xs.length-(intOf i).toNat)
  case atStart=>exact⟨0,Nat.zero_le _,rfl,⟨0,rfl⟩,fun j _ hj=>absurd hj (Nat.not_lt_zero _)⟩
  case round=>
   obtain⟨k,hk,rfl,⟨m,rfl⟩,hall⟩:=hrel
   by_cases hlt:k<xs.length
   ·have hlt2:k<ys.length:=by have:=HL.out;omega
    obtain⟨b1,o1,rfl,_,x1,x2,x3⟩:=hx.at hlt
    obtain⟨b2,o2,rfl,_,y1,y2,y3⟩:=hy.at hlt2
    by_cases he:xs[k]=ys[k]
    ·have hq:=run_neq_same _ _ he
     have HE:Hid (xs[k]=ys[k]):=he
     clear he
     go_wp2
     go_quiet (fail)
     go_wp2
     go_roundw
     case rel=>
      refine⟨k+1,by omega,by go_num,⟨_,rfl⟩,fun j hj hjk=>?_⟩
      by_cases e:j=k
      ·subst e;exact HE.out
      exact hall.out j hj (by omega)
     case measure=>simp[intOf];omega
    have hq:=run_neq_diff _ _ he
    have HE:Hid (¬ xs[k]=ys[k]):=he
    clear he
    go_wp2
    go_quiet (fail)
    go_wp2
    go_ret
    refine⟨ret_bool ?_,?_⟩
    ·cases b
     ·rfl
     exact absurd (by rw[List.getElem_of_eq (HB.out.1 rfl)]) HE.out
    exact below_drewN (below_drewN (Below.refl _ _) _) _
   go_wp2
   go_ret
   refine⟨ret_bool (HB.out.2 (eq_of_all xs ys HL.out fun j hj=>hall.out j hj (by omega))).symm,?_⟩
   exact below_drewN (Below.refl _ _) _
 have hl2:((xs.length:Int) != (ys.length:Int))=true:=by simp;omega
 go_enter Tryz.func72,Tryz.ntmps72
 go_wp2
 go_ret
 refine⟨ret_bool ?_,Below.refl _ _⟩
 cases b
 ·rfl
 exact absurd (congrArg List.length (HB.out.1 rfl)) hl
theorem rPlace_any (a:Option Addr)(cap:Nat)(xs:List V)(v:V)(w:World)(hn:xs.length≤maxLen)(hx:Vals w a xs) :
  Calls Tryz.prog 99 #[.slice a xs.length cap,v.val] w fun e w'=>e=.returned (.int .i64 (place xs v))∧Below w.heap.size w w':=by
 unfold maxLen at hn
 go_enter Tryz.func99,Tryz.ntmps99
 go_wp2
 have h1:(w.alloc (.cells #[.int .i64 v.k,.int .i64 v.n,.string v.s] 61)).cell? ⟨w.heap.size,0,none⟩=some (.int .i64 v.k):=by simp
 go_loopw [5] (fun i wr=>∃ k:Nat,k≤xs.length∧i=.int .i64 k∧(∃ m,wr=(w.alloc (.cells #[.int .i64 v.k,.int .i64 v.n,.string v.s] 61)).drewN m)∧Hid (∀ j (hj:j<xs.length),j<k→xs[j]≠v)) (fun i _=>xs.length-(intOf i).toNat)
 case atStart=>exact⟨0,Nat.zero_le _,rfl,⟨0,rfl⟩,fun j _ hj=>absurd hj (Nat.not_lt_zero _)⟩
 case round=>
  obtain⟨k,hk,rfl,⟨m,rfl⟩,hall⟩:=hrel
  by_cases hlt:k<xs.length
  ·obtain⟨b1,o1,rfl,hb1,x1,x2,x3⟩:=hx.at hlt
   by_cases he:xs[k]=v
   ·have hq:=run_eql_same _ _ he
    have HE:Hid (xs[k]=v):=he
    clear he
    go_wp2
    go_quiet (fail)
    go_wp2
    go_ret
    refine⟨ret_int ?_,?_⟩
    ·rw[place_eq xs v k hlt (fun j hj=>hall.out j (by omega) hj) HE.out]
    exact below_drewN (below_drewN ((Below.refl _ _).alloc (Nat.le_refl _) _) _) _
   have hq:=run_eql_diff _ _ he
   have HE:Hid (¬ xs[k]=v):=he
   clear he
   go_wp2
   go_quiet (fail)
   go_wp2
   go_roundw
   case rel=>
    refine⟨k+1,by omega,by go_num,⟨_,rfl⟩,fun j hj hjk=>?_⟩
    by_cases e:j=k
    ·subst e;exact HE.out
    exact hall.out j hj (by omega)
   case measure=>simp[intOf];omega
  go_wp2
  go_ret
  refine⟨ret_int ?_,below_drewN ((Below.refl _ _).alloc (Nat.le_refl _) _) _⟩
  rw[place_none xs v fun j hj=>hall.out j hj (by omega)]
def idx (xs:List V)(v:V):Int:=if place xs v<xs.length then place xs v else -1
theorem index_any (a:Option Addr)(cap:Nat)(xs:List V)(v:V)(w:World)(hn:xs.length≤maxLen)(hx:Vals w a xs) :
  Calls Tryz.prog 145 #[.slice a xs.length cap,v.val] w fun e w'=>e=.returned (.int .i64 (idx xs v))∧Below w.heap.size w w':=by
 unfold maxLen at hn
 go_enter Tryz.func145,Tryz.ntmps145
 go_wp2
 go_loopw [8] (fun i wr=>∃ k:Nat,k≤xs.length∧i=.int .i64 k∧(∃ m,wr=(w.alloc (.cells #[.int .i64 v.k,.int .i64 v.n,.string v.s] 61)).drewN m)∧Hid (∀ j (hj:j<xs.length),j<k→xs[j]≠v)) (fun i _=>xs.length-(intOf i).toNat)
 case atStart=>exact⟨0,Nat.zero_le _,rfl,⟨0,rfl⟩,fun j _ hj=>absurd hj (Nat.not_lt_zero _)⟩
 case round=>
  obtain⟨k,hk,rfl,⟨m,rfl⟩,hall⟩:=hrel
  by_cases hlt:k<xs.length
  ·obtain⟨b1,o1,rfl,hb1,x1,x2,x3⟩:=hx.at hlt
   by_cases he:v=xs[k]
   ·have hq:=run_eql_same _ _ he
    have HE:Hid (v=xs[k]):=he
    clear he
    go_wp2
    go_quiet (fail)
    go_wp2
    go_ret
    refine⟨ret_int ?_,?_⟩
    ·have hp:=place_eq xs v k hlt (fun j hj=>hall.out j (by omega) hj) HE.out.symm
     unfold idx;rw[hp,if_pos hlt]
    exact below_drewN (below_drewN ((Below.refl _ _).alloc (Nat.le_refl _) _) _) _
   have hq:=run_eql_diff _ _ he
   have HE:Hid (¬ v=xs[k]):=he
   clear he
   go_wp2
   go_quiet (fail)
   go_wp2
   go_roundw
   case rel=>
    refine⟨k+1,by omega,by go_num,⟨_,rfl⟩,fun j hj hjk=>?_⟩
    by_cases e:j=k
    ·subst e;exact fun h=>HE.out h.symm
    exact hall.out j hj (by omega)
   case measure=>simp[intOf];omega
  go_wp2
  go_ret
  refine⟨ret_int ?_,below_drewN ((Below.refl _ _).alloc (Nat.le_refl _) _) _⟩
  unfold idx;rw[place_none xs v fun j hj=>hall.out j hj (by omega),if_neg (Nat.lt_irrefl _)]
theorem idx_nonneg (xs:List V)(v:V):decide (0≤idx xs v)=decide (place xs v<xs.length):=by
 unfold idx;split<;>simp[*]<;>omega
theorem contains_any (a:Option Addr)(cap:Nat)(xs:List V)(v:V)(w:World)(hn:xs.length≤maxLen)(hx:Vals w a xs)(b:Bool)(hb:b=decide (place xs v<xs.length)) :
  Calls Tryz.prog 133 #[.slice a xs.length cap,v.val] w fun e w'=>e=.returned (.bool b)∧Below w.heap.size w w':=by
 have HB:Hid (b=decide (0≤idx xs v)):=by rw[idx_nonneg];exact hb
 clear hb
 go_enter Tryz.func133,Tryz.ntmps133
 go_wp2_with (go_at_call 145;refine(index_any _ _ _ _ _ hn (hx.below ((Below.refl _ _).alloc (Nat.le_refl _) _))).mono ?_;rintro e w' ⟨rfl,hb⟩)
 go_ret
 exact⟨ret_bool (by rw[HB.out]),below_behind hb⟩
theorem areValues_any (t:Int)(a:Option Addr)(cap:Nat)(xs:List V)(w:World)(hn:xs.length≤maxLen)(hx:Vals w a xs)(b:Bool)(hb:b=true↔xs.length≤64∧∀ j (hj:j<xs.length),okB t xs[j].k xs[j].n xs[j].s=true) :
  Calls Tryz.prog 115 #[.int .i64 t,.slice a xs.length cap] w fun e w'=>e=.returned (.bool b)∧Below w.heap.size w w':=by
 unfold maxLen at hn
 have HB:=hb
 replace HB:Hid _:=HB
 clear hb
 by_cases hl:xs.length≤64
 ·go_enter Tryz.func115,Tryz.ntmps115
  go_wp2
  go_loopw [12] (fun i wr=>∃ k:Nat,k≤xs.length∧i=.int .i64 k∧Below w.heap.size w wr∧Hid (∀ j (hj:j<xs.length),j<k→okB t xs[j].k xs[j].n xs[j].s=true)) (fun i _=>xs.length-(intOf i).toNat)
  case atStart=>exact⟨0,Nat.zero_le _,rfl,Below.refl _ _,fun j _ hj=>absurd hj (Nat.not_lt_zero _)⟩
  case round=>
   obtain⟨k,hk,rfl,hbw,hall⟩:=hrel
   by_cases hlt:k<xs.length
   ·obtain⟨b1,o1,rfl,hb1,x1,x2,x3⟩:=(hx.below hbw).at hlt
    cases ho:okB t xs[k].k xs[k].n xs[k].s
    ·have HO:Hid (okB t xs[k].k xs[k].n xs[k].s=false):=ho
     go_wp2_with (go_at_call 113;refine(isOf_any _ _ _ _ _).mono ?_;rintro e w' ⟨rfl,hb⟩)
     go_ret
     refine⟨ret_bool ?_,below_then hbw (below_behind hb)⟩
     cases b
     ·rfl
     have:=(HB.out.1 rfl).2 k hlt
     rw[HO.out]at this
     exact absurd this (by decide)
    have HO:Hid (okB t xs[k].k xs[k].n xs[k].s=true):=ho
    go_wp2_with (go_at_call 113;refine(isOf_any _ _ _ _ _).mono ?_;rintro e w' ⟨rfl,hb⟩)
    go_roundw
    case rel=>
     refine⟨k+1,by omega,by go_num,below_then hbw (below_behind hb),fun j hj hjk=>?_⟩
     by_cases e:j=k
     ·subst e;exact HO.out
     exact hall.out j hj (by omega)
    case measure=>simp[intOf];omega
   go_wp2
   go_ret
   refine⟨ret_bool (HB.out.2 ⟨hl,fun j hj=>hall.out j hj (by omega)⟩).symm,hbw⟩
 go_enter Tryz.func115,Tryz.ntmps115
 go_wp2
 go_ret
 refine⟨ret_bool ?_,Below.refl _ _⟩
 cases b
 ·rfl
 exact absurd (HB.out.1 rfl).1 hl
end
section
open Go.RowKit
def OwnV (w:World)(B:Nat)(sv:Value)(vs:List V):Prop:=w.ownsRow B 61 3 sv vs.length (vs.flatMap V.cells)
def OwnC (w:World)(B:Nat)(e:TypeId)(sv:Value)(xs:List Value):Prop:=w.ownsRow B e 1 sv xs.length xs
theorem owns_block {w:World}{B:Nat}{e:TypeId}{z n:Nat}{sv:Value}{xs:List Value}(h:w.ownsRow B e z sv n xs){g:Nat}(hg:sv.ownBlock=some g):B≤g∧g<w.heap.size:=by
 rcases h.2 with⟨hv,_⟩|⟨g',cap,cur,hv,hb,hg',_⟩
 ·subst hv;simp[Value.ownBlock]at hg
 subst hv
 simp[Value.ownBlock]at hg
 subst hg
 refine⟨hb,?_⟩
 rcases Nat.lt_or_ge g' w.heap.size with h'|h'
 ·exact h'
 simp[Array.getElem?_eq_none h']at hg'
theorem owns_of_block {w w':World}{B:Nat}{e:TypeId}{z n:Nat}{sv:Value}{xs:List Value}(h:w.ownsRow B e z sv n xs)(hb:∀ g,sv.ownBlock=some g→w'.heap[g]?=w.heap[g]?):w'.ownsRow B e z sv n xs:=by
 refine⟨h.1,?_⟩
 rcases h.2 with h|⟨g,cap,cur,hv,hbg,hg,rest⟩
 ·exact .inl h
 exact .inr ⟨g,cap,cur,hv,hbg,by rw[hb g (by subst hv;rfl)];exact hg,rest⟩
theorem owns_below {w w':World}{B:Nat}{e:TypeId}{z n:Nat}{sv:Value}{xs:List Value}(h:w.ownsRow B e z sv n xs)(hb:Below w.heap.size w w'):w'.ownsRow B e z sv n xs:=
 owns_of_block h fun g hg=>hb.block g (owns_block h hg).2
theorem owns_alloc {w:World}{B:Nat}{e:TypeId}{z n:Nat}{sv:Value}{xs:List Value}(h:w.ownsRow B e z sv n xs)(o:Obj):(w.alloc o).ownsRow B e z sv n xs:=
 owns_below h ((Below.refl _ _).alloc (Nat.le_refl _) _)
theorem OwnV.below {w w':World}{B:Nat}{sv:Value}{vs:List V}(h:OwnV w B sv vs)(hb:Below w.heap.size w w'):OwnV w' B sv vs:=owns_below h hb
theorem OwnV.alloc {w:World}{B:Nat}{sv:Value}{vs:List V}(h:OwnV w B sv vs)(o:Obj):OwnV (w.alloc o) B sv vs:=owns_alloc h o
theorem OwnV.nil (w:World)(B:Nat):OwnV w B (.slice none 0 0) []:=⟨rfl,.inl ⟨rfl,rfl⟩⟩
theorem OwnV.vals {w:World}{B:Nat}{sv:Value}{vs:List V}(h:OwnV w B sv vs):∃ a cap,sv=.slice a vs.length cap∧Vals w a vs:=(vals_of_owns h).2
theorem OwnC.below {w w':World}{B:Nat}{e:TypeId}{sv:Value}{xs:List Value}(h:OwnC w B e sv xs)(hb:Below w.heap.size w w'):OwnC w' B e sv xs:=owns_below h hb
theorem OwnC.alloc {w:World}{B:Nat}{e:TypeId}{sv:Value}{xs:List Value}(h:OwnC w B e sv xs)(o:Obj):OwnC (w.alloc o) B e sv xs:=owns_alloc h o
theorem OwnC.nil (w:World)(B:Nat)(e:TypeId):OwnC w B e (.slice none 0 0) []:=⟨rfl,.inl ⟨rfl,rfl⟩⟩
theorem below_grown {w wr w':World}{sv:Value}(h:Below w.heap.size w wr)(hg:wr.grownBy w' sv.ownBlock)(hr:∀ k,sv.ownBlock=some k→w.heap.size≤k):Below w.heap.size w w':=
 h.grown hg h.size hr
theorem wpList_append_V {w:World}{ops:Array Oper}{rest:List Oper}{o:Oper}{a:Act}{Q:Exit→Act→World→Prop}(hgd:o.guard=none)(s x:Operand)
  (ho:o.op=.call {callee:=.builtin .append,args:=#[s,x],argTypes:=#[72,72]})
  (B:Nat) (sv:Value) (vs:List V) (hs:a.eval s=sv) (hown:OwnV w B sv vs)
  (g c:Nat) (v:V) (hx:a.eval x=.slice (some ⟨g,0,none⟩) 1 c) (hv:VAt w g 0 v) (hlen:vs.length≤1000000) (hbase:B≤w.heap.size)
  (h:∀ sv' w',OwnV w' B sv' (vs++[v])→w.grownBy w' sv.ownBlock→(sv'.ownBlock=sv.ownBlock∨sv'.ownBlock=some w.heap.size)→wpList Tryz.prog ops Q rest (a.put o.dst sv') w') :
  wpList Tryz.prog ops Q (o::rest) a w:=by
 obtain⟨i,hi,hz,hsz,hby⟩:=info_parts infoV
 refine wpList_append_own_at w hgd s x 72 ho B 61 i _ 3 32 (by kernel_rfl) hi hz hsz hby rfl (by decide) sv vs.length (vs.flatMap V.cells) hs hown ⟨g,0,none⟩ 1 c v.cells hx rfl ?_ ?_ ?_ ?_ hbase ?_
 ·intro j u hj
  obtain⟨h1,h2,h3⟩:=hv
  match j,hj with
  |0,hj=>simp[V.cells]at hj;subst hj;simpa [Addr.add] using h1
  |1,hj=>simp[V.cells]at hj;subst hj;simpa [Addr.add] using h2
  |2,hj=>simp[V.cells]at hj;subst hj;simpa [Addr.add] using h3
  |j+3,hj=>simp[V.cells]at hj
 ·intro u hu
  simp[V.cells]at hu
  rcases hu with rfl|rfl|rfl<;>rfl
 ·unfold maxLen;omega
 ·omega
 intro v' w' h1 h2 _ h4
 refine h v' w' ?_ h2 h4
 unfold OwnV
 simpa [V.cells] using h1
theorem wpList_append_C {w:World}{ops:Array Oper}{rest:List Oper}{o:Oper}{a:Act}{Q:Exit→Act→World→Prop}(hgd:o.guard=none)(s x:Operand)(t e:TypeId)(z:Value)(by1:Nat)
  (hinfo:(Tryz.prog.info? e).map (fun i=>(i.zero,i.size,i.bytes))=some (some z,1,by1)) (hz1:z.cells.size=1) (hby1:by1≤16) (ht:Tryz.prog.underlying t=some (.slice e))
  (ho:o.op=.call {callee:=.builtin .append,args:=#[s,x],argTypes:=#[t,t]})
  (B:Nat) (sv:Value) (xs:List Value) (hs:a.eval s=sv) (hown:OwnC w B e sv xs)
  (ad:Addr) (c:Nat) (news:List Value) (hx:a.eval x=.slice (some ad) news.length c) (hv:∀ j u,news[j]?=some u→w.cell? (ad.add j)=some u) (h1:∀ u∈news,u.oneCell'=true) (hlen:xs.length+news.length≤1000000) (hbase:B≤w.heap.size)
  (h:∀ sv' w',OwnC w' B e sv' (xs++news)→w.grownBy w' sv.ownBlock→(sv'.ownBlock=sv.ownBlock∨sv'.ownBlock=some w.heap.size)→wpList Tryz.prog ops Q rest (a.put o.dst sv') w') :
  wpList Tryz.prog ops Q (o::rest) a w:=by
 obtain⟨i,hi,hz,hsz,hby⟩:=info_parts hinfo
 refine wpList_append_own_at w hgd s x t ho B e i _ 1 by1 ht hi hz hsz hby hz1 (by decide) sv xs.length xs hs hown ad news.length c news hx (by simp) hv h1 ?_ ?_ hbase ?_
 ·unfold maxLen;omega
 ·have:(xs.length+news.length)*by1≤1000000*16:=Nat.mul_le_mul hlen hby1
  omega
 intro v' w' h1 h2 _ h4
 refine h v' w' ?_ h2 h4
 unfold OwnC
 simpa using h1
def Cells (w:World)(a:Option Addr)(xs:List Value):Prop:=
 xs=[]∨∃ b o,a=some ⟨b,o,none⟩∧b<w.heap.size∧∀ i v,xs[i]?=some v→w.cell? ⟨b,o+i,none⟩=some v
theorem Cells.of_block {w w':World}{a:Option Addr}{xs:List Value}(h:Cells w a xs)(hs:w.heap.size≤w'.heap.size)
  (e:∀ b o,a=some ⟨b,o,none⟩→b<w.heap.size→w'.heap[b]?=w.heap[b]?):Cells w' a xs:=by
 rcases h with h|⟨b,o,ha,hb,h⟩
 ·exact .inl h
 exact .inr ⟨b,o,ha,by omega,fun i v hv=>by rw[World.cell?_of_block (w:=w) (e b o ha hb)];exact h i v hv⟩
theorem Cells.below {w w':World}{a:Option Addr}{xs:List Value}(h:Cells w a xs)(hb:Below w.heap.size w w'):Cells w' a xs:=
 h.of_block hb.size fun b _ _ hlt=>hb.block b hlt
theorem Cells.at {w:World}{a:Option Addr}{xs:List Value}(h:Cells w a xs){i:Nat}(hi:i<xs.length) :
  ∃ b o,a=some ⟨b,o,none⟩∧b<w.heap.size∧w.cell? ⟨b,o+i,none⟩=some xs[i]:=by
 rcases h with h|⟨b,o,ha,hb,h⟩
 ·subst h;simp at hi
 exact⟨b,o,ha,hb,h i xs[i] (by simp[hi])⟩
theorem OwnC.cells {w:World}{B:Nat}{e:TypeId}{sv:Value}{xs:List Value}(h:OwnC w B e sv xs):∃ a cap,sv=.slice a xs.length cap∧Cells w a xs:=by
 obtain⟨hl,h⟩:=h
 rcases h with⟨hv,h0⟩|⟨g,cap,cur,hv,_,hg,_,_,_,hcur⟩
 ·have:xs=[]:=List.length_eq_zero_iff.1 h0
  subst this
  exact⟨none,0,hv,.inl rfl⟩
 refine⟨some ⟨g,0,none⟩,cap,hv,.inr ⟨g,0,rfl,?_,?_⟩⟩
 ·rcases Nat.lt_or_ge g w.heap.size with h'|h'
  ·exact h'
  simp[Array.getElem?_eq_none h']at hg
 intro i v hi
 rw[←hcur]at hi
 have hi':i<xs.length*1:=by
  rcases Nat.lt_or_ge i (xs.length*1)with h'|h'
  ·exact h'
  rw[List.getElem?_take_eq_none h']at hi;simp at hi
 rw[List.getElem?_take_of_lt hi']at hi
 simp only[Array.getElem?_toList]at hi
 simp[World.cell?,hg,hi]
def bv (b:UInt8):Value:=.int .u8 (b.toNat:Int)
theorem foldl_push (l:List UInt8):∀ s:ByteArray,(l.map fun b=>(b.toNat:Int)).foldl (fun r n=>r.push (UInt8.ofNat n.toNat)) s=s++str l:=by
 induction l with
 |nil=>intro s;unfold str;rw[ByteArray.ext_iff];simp
 |cons b l ih=>
  intro s
  simp only[List.map_cons,List.foldl_cons]
  rw[ih]
  have:UInt8.ofNat (Int.toNat (b.toNat:Int))=b:=by simp
  rw[this]
  unfold str
  rw[ByteArray.ext_iff]
  simp[ByteArray.push]
theorem run_conv_bytes (w:World)(ad:Addr)(c:Nat)(l:List UInt8)(h:∀ j u,(l.map bv)[j]?=some u→w.cell? (ad.add j)=some u) :
  (convert 212 9 (.slice (some ad) l.length c)).run Tryz.prog w=.ok (.string (str l)) w:=by
 rw[run_convert_bytes_string w 212 9 5 _ _ _ (by kernel_rfl) (by kernel_rfl) (by kernel_rfl)]
 have hl:=run_loadCells_list (P:=Tryz.prog) (w:=w) ad (l.map bv) h
 rw[List.length_map]at hl
 rw[run_bytesToString w ad l.length c (l.map fun b=>(b.toNat:Int)) (by rw[hl,List.map_map];rfl)]
 rw[foldl_push]
 have:ByteArray.empty++str l=str l:=by unfold str;rw[ByteArray.ext_iff];simp
 rw[this]
theorem i64_and255 (n:Int):bits .and .i64 n 255=n % 256:=by
 have h255:(BitVec.ofInt 64 255).toNat=2 ^ 8-1:=by decide
 have key:(BitVec.ofInt 64 n &&& BitVec.ofInt 64 255).toNat=(n % ((2 ^ 64:Nat):Int)).toNat % 2 ^ 8:=by
  rw[BitVec.toNat_and,BitVec.toNat_ofInt,h255,Nat.and_two_pow_sub_one_eq_mod]
 show IntKind.i64.wrap ((BitVec.ofInt 64 n &&& BitVec.ofInt 64 255).toNat:Nat)=n % 256
 rw[key,IntKind.wrap_i64]
 omega
end
section
open Go.RowKit
def heldOf (xs:List V):List V:=xs.filter fun v=>v.k != 0
theorem heldOf_le (xs:List V):(heldOf xs).length≤xs.length:=List.length_filter_le _ _
theorem heldOf_snoc (xs:List V)(v:V):heldOf (xs++[v])=if v.k=0 then heldOf xs else heldOf xs++[v]:=by
 unfold heldOf
 rw[List.filter_append]
 by_cases h:v.k=0<;>simp[h]
theorem take_snoc (xs:List V)(k:Nat)(h:k<xs.length):xs.take (k+1)=xs.take k++[xs[k]]:=List.take_succ_eq_append_getElem h
theorem withoutNulls_any (a:Option Addr)(cap:Nat)(xs:List V)(w:World)(hn:xs.length≤64)(hx:Vals w a xs) :
  Calls Tryz.prog 116 #[.slice a xs.length cap] w fun e w'=>∃ sv,e=.returned sv∧OwnV w' w.heap.size sv (heldOf xs)∧Below w.heap.size w w':=by
 go_enter Tryz.func116,Tryz.ntmps116
 go_wp2
 go_loopw [3,8] (fun sv i wr=>∃ k:Nat,k≤xs.length∧i=.int .i64 k∧OwnV wr w.heap.size sv (heldOf (xs.take k))∧Below w.heap.size w wr) (fun _ i _=>xs.length-(intOf i).toNat)
 case atStart=>exact⟨0,Nat.zero_le _,rfl,OwnV.nil _ _,Below.refl _ _⟩
 case round=>
  rename_i sv i
  obtain⟨k,hk,rfl,hown,hbw⟩:=hrel
  by_cases hlt:k<xs.length
  ·obtain⟨b1,o1,rfl,hb1,x1,x2,x3⟩:=(hx.below hbw).at hlt
   have hts:=heldOf_snoc (xs.take k) xs[k]
   rw[←take_snoc xs k hlt]at hts
   have hle:=heldOf_le (xs.take k)
   have hle2:(xs.take k).length≤k:=List.length_take_le _ _
   by_cases h0:xs[k].k=0
   ·rw[if_pos h0]at hts
    have HT:Hid _:=hts
    clear hts
    have h0':(xs[k].k != 0)=false:=by simp[h0]
    have H0:Hid (xs[k].k=0):=h0
    clear h0
    go_wp2
    go_roundw
    case rel=>exact⟨k+1,by omega,by go_num,by rw[HT.out];exact hown.alloc _,below_alloc hbw _⟩
    case measure=>simp[intOf];omega
   rw[if_neg h0]at hts
   have HT:Hid _:=hts
   clear hts
   have h0':(xs[k].k != 0)=true:=by simp[h0]
   have H0:Hid (¬ xs[k].k=0):=h0
   clear h0
   go_wp2_with (at_builtin;refine wpList_append_V (by rfl) _ _ (by rfl) w.heap.size _ _ (by rfl) ((hown.alloc _).alloc _) _ _ xs[k] (by rfl) (by refine⟨?_,?_,?_⟩<;>simp) (by omega) (by simp;have:=hbw.size;omega) ?_;intro sv' w1 h1 h2 h3)
   go_roundw
   case rel=>
    refine⟨k+1,by omega,by go_num,by rw[HT.out];exact h1,?_⟩
    exact below_grown (below_alloc (below_alloc hbw _) _) h2 fun k hk=>(owns_block hown hk).1
   case measure=>simp[intOf];omega
  go_wp2
  go_ret
  have e:xs.take k=xs:=List.take_of_length_le (by omega)
  rw[e]at hown
  exact⟨_,rfl,hown,hbw⟩
def uniq:List V→List V→List V
 |d,[]=>d
 |d,v::l=>uniq (if place d v<d.length then d else d++[v]) l
theorem uniq_snoc (l:List V)(v:V):∀ d,uniq d (l++[v])=if place (uniq d l) v<(uniq d l).length then uniq d l else uniq d l++[v]:=by
 induction l with
 |nil=>intro d;rfl
 |cons u l ih=>intro d;simp only[List.cons_append,uniq];exact ih _
theorem uniq_le (l:List V):∀ d,(uniq d l).length≤d.length+l.length:=by
 induction l with
 |nil=>intro d;simp[uniq]
 |cons u l ih=>
  intro d
  simp only[uniq]
  refine Nat.le_trans (ih _) ?_
  split<;>simp<;>omega
theorem different_any (a:Option Addr)(cap:Nat)(xs:List V)(w:World)(hn:xs.length≤64)(hx:Vals w a xs) :
  Calls Tryz.prog 117 #[.slice a xs.length cap] w fun e w'=>∃ sv,e=.returned sv∧OwnV w' w.heap.size sv (uniq [] xs)∧Below w.heap.size w w':=by
 go_enter Tryz.func117,Tryz.ntmps117
 go_wp2
 go_loopw [3,8] (fun sv i wr=>∃ k:Nat,k≤xs.length∧i=.int .i64 k∧OwnV wr w.heap.size sv (uniq [] (xs.take k))∧Below w.heap.size w wr) (fun _ i _=>xs.length-(intOf i).toNat)
 case atStart=>exact⟨0,Nat.zero_le _,rfl,OwnV.nil _ _,Below.refl _ _⟩
 case round=>
  rename_i sv i
  obtain⟨k,hk,rfl,hown,hbw⟩:=hrel
  by_cases hlt:k<xs.length
  ·obtain⟨b1,o1,rfl,hb1,x1,x2,x3⟩:=(hx.below hbw).at hlt
   have hts:=uniq_snoc (xs.take k) xs[k] []
   rw[←take_snoc xs k hlt]at hts
   have hle:=uniq_le (xs.take k) []
   have hle2:(xs.take k).length≤k:=List.length_take_le _ _
   generalize uniq [] (xs.take k)=d at *
   have hd:d.length≤64:=by simp at hle;omega
   have hd':d.length≤maxLen:=by unfold maxLen;omega
   obtain⟨a2,cap2,rfl,hv2⟩:=hown.vals
   by_cases h0:place d xs[k]<d.length
   ·rw[if_pos h0]at hts
    have HT:Hid _:=hts
    have H0:Hid (true=decide (place d xs[k]<d.length)):=by simp[Hid,h0]
    clear hts h0 hle hle2
    go_wp2_with (go_at_call 133;refine(contains_any _ _ _ xs[k] _ hd' (hv2.below ((Below.refl _ _).alloc (Nat.le_refl _) _)) true H0.out).mono ?_;rintro e w' ⟨rfl,hb⟩)
    go_roundw
    case rel=>
     refine⟨k+1,by omega,by go_num,?_,below_then hbw (below_behind hb)⟩
     rw[HT.out];exact hown.below (below_behind hb)
    case measure=>simp[intOf];omega
   rw[if_neg h0]at hts
   have HT:Hid _:=hts
   have H0:Hid (false=decide (place d xs[k]<d.length)):=by simp[Hid];omega
   clear hts h0 hle hle2
   go_wp2_with (first
    |(go_at_call 133;refine(contains_any _ _ _ xs[k] _ hd' (hv2.below ((Below.refl _ _).alloc (Nat.le_refl _) _)) false H0.out).mono ?_;rintro e w' ⟨rfl,hb⟩;obtain⟨hc,hf⟩:=below_keep hb)
    |(at_builtin;refine wpList_append_V (by rfl) _ _ (by rfl) w.heap.size _ _ (by rfl) ((hown.below (below_behind hb)).alloc _) _ _ xs[k] (by rfl) (by refine⟨?_,?_,?_⟩<;>simp) (by omega) (by simp;have:=hbw.size;have:=(below_behind hb).size;omega) ?_;intro sv' w1 h1 h2 h3))
   go_roundw
   case rel=>
    refine⟨k+1,by omega,by go_num,by rw[HT.out];exact h1,?_⟩
    exact below_grown (below_alloc (below_then hbw (below_behind hb)) _) h2 fun k hk=>(owns_block hown hk).1
   case measure=>simp[intOf];omega
  go_wp2
  go_ret
  have e:xs.take k=xs:=List.take_of_length_le (by omega)
  rw[e]at hown
  exact⟨_,rfl,hown,hbw⟩
theorem rDifferent_any (a:Option Addr)(cap:Nat)(xs:List V)(w:World)(hn:xs.length≤64)(hx:Vals w a xs) :
  Calls Tryz.prog 75 #[.slice a xs.length cap] w fun e w'=>∃ sv,e=.returned sv∧OwnV w' w.heap.size sv (uniq [] xs)∧Below w.heap.size w w':=by
 go_enter Tryz.func75,Tryz.ntmps75
 go_wp2
 go_loopw [3,4] (fun sv i wr=>∃ k:Nat,k≤xs.length∧i=.int .i64 k∧OwnV wr w.heap.size sv (uniq [] (xs.take k))∧Below w.heap.size w wr) (fun _ i _=>xs.length-(intOf i).toNat)
 case atStart=>exact⟨0,Nat.zero_le _,rfl,OwnV.nil _ _,Below.refl _ _⟩
 case round=>
  rename_i sv i
  obtain⟨k,hk,rfl,hown,hbw⟩:=hrel
  by_cases hlt:k<xs.length
  ·obtain⟨b1,o1,rfl,hb1,x1,x2,x3⟩:=(hx.below hbw).at hlt
   have hts:=uniq_snoc (xs.take k) xs[k] []
   rw[←take_snoc xs k hlt]at hts
   have hle:=uniq_le (xs.take k) []
   have hle2:(xs.take k).length≤k:=List.length_take_le _ _
   generalize uniq [] (xs.take k)=d at *
   have hd:d.length≤64:=by simp at hle;omega
   have hd':d.length≤maxLen:=by unfold maxLen;omega
   obtain⟨a2,cap2,rfl,hv2⟩:=hown.vals
   have hpl:=place_le d xs[k]
   by_cases h0:place d xs[k]<d.length
   ·rw[if_pos h0]at hts
    have HT:Hid _:=hts
    have h0':((place d xs[k]:Int)==(d.length:Int))=false:=by simp;omega
    clear hts hle hle2
    go_wp2_with (go_at_call 99;refine(rPlace_any _ _ _ xs[k] _ hd' hv2).mono ?_;rintro e w' ⟨rfl,hb⟩)
    go_roundw
    case rel=>
     refine⟨k+1,by omega,by go_num,?_,below_then hbw hb⟩
     rw[HT.out];exact hown.below hb
    case measure=>simp[intOf];omega
   rw[if_neg h0]at hts
   have HT:Hid _:=hts
   have h0':((place d xs[k]:Int)==(d.length:Int))=true:=by simp;omega
   clear hts h0 hle hle2
   go_wp2_with (first
    |(go_at_call 99;refine(rPlace_any _ _ _ xs[k] _ hd' hv2).mono ?_;rintro e w' ⟨rfl,hb⟩;obtain⟨hc,hf⟩:=below_keep hb)
    |(at_builtin;refine wpList_append_V (by rfl) _ _ (by rfl) w.heap.size _ _ (by rfl) ((hown.below hb).alloc _) _ _ xs[k] (by rfl) (by refine⟨?_,?_,?_⟩<;>simp) (by omega) (by simp;have:=hbw.size;have:=hb.size;omega) ?_;intro sv' w1 h1 h2 h3))
   go_roundw
   case rel=>
    refine⟨k+1,by omega,by go_num,by rw[HT.out];exact h1,?_⟩
    exact below_grown (below_alloc (below_then hbw hb) _) h2 fun k hk=>(owns_block hown hk).1
   case measure=>simp[intOf];omega
  go_wp2
  go_ret
  have e:xs.take k=xs:=List.take_of_length_le (by omega)
  rw[e]at hown
  exact⟨_,rfl,hown,hbw⟩
end
section
open Go.RowKit
theorem run_conv_one (m:Int)(h0:0≤m)(h1:m<256)(W:World)(g c:Nat)(hc:W.cell? ⟨g,0,none⟩=some (.int .u8 m)) :
  (convert 212 9 (.slice (some ⟨g,0,none⟩) 1 c)).run Tryz.prog W=.ok (.string (str [UInt8.ofNat m.toNat])) W:=by
 refine run_conv_bytes W ⟨g,0,none⟩ c [UInt8.ofNat m.toNat] ?_
 intro j u hj
 match j,hj with
 |0,hj=>
  simp[bv]at hj
  subst hj
  have:m.toNat % 256=m.toNat:=by omega
  simp only[Addr.add,if_pos]
  rw[hc]
  congr 2
  omega
 |j+1,hj=>simp at hj
theorem byteOf_any (n:Int)(w:World) :
  Calls Tryz.prog 76 #[.int .i64 n] w fun e w'=>e=.returned (.string (str [low n]))∧Below w.heap.size w w':=by
 have ha:=i64_and255 n
 have hm:n % 256 % 256=n % 256:=by omega
 have hq:=run_conv_one (n % 256) (by omega) (by omega) (w.alloc (.cells #[.int .u8 (n % 256)] 5)) w.heap.size 1 (by simp)
 go_enter Tryz.func76,Tryz.ntmps76
 go_wp2
 go_ret
 exact⟨rfl,(Below.refl _ _).alloc (Nat.le_refl _) _⟩
theorem str1_size (b:UInt8):(str [b]).size=1:=by rw[str_size];rfl
theorem str_cons (b:UInt8)(s:ByteArray):str (b::s.toList)=str [b]++s:=by
 rw[←str_toList s,str_append,str_toList];rfl
theorem le8_step (u k:Nat):(List.range (k+1)).map (fun i=>UInt8.ofNat (u / 256 ^ i % 256))=(List.range k).map (fun i=>UInt8.ofNat (u / 256 ^ i % 256))++[low ((u / 256 ^ k:Nat) % 256)]:=by
 rw[List.range_succ,List.map_append]
 simp only[List.map_cons,List.map_nil,low]
 congr 3
 omega
theorem rLong_any (n:Int)(w:World) :
  Calls Tryz.prog 122 #[.int .i64 n] w fun e w'=>e=.returned (.string (str (le8 (u64 n))))∧Below w.heap.size w w':=by
 have hu:IntKind.u64.wrap n=(u64 n:Int):=by rw[IntKind.wrap_u64];unfold u64;omega
 have hul:=u64_lt n
 generalize u64 n=U at *
 have HU:Hid (IntKind.u64.wrap n=(U:Int)):=hu
 clear hu
 go_enter Tryz.func122,Tryz.ntmps122
 go_wp2
 go_loopw [3,4,5] (fun s u i wr=>∃ k:Nat,k≤8∧i=.int .i64 k∧(∃ z:Nat,z<2^64∧u=.int .u64 z∧Hid (z=U / 256 ^ k))∧s=.string (str ((List.range k).map fun i=>UInt8.ofNat (U / 256 ^ i % 256)))∧Below w.heap.size w wr) (fun _ _ i _=>8-(intOf i).toNat)
 case atStart=>exact⟨0,by omega,rfl,⟨U,by omega,by rw[HU.out],by simp[Hid]⟩,rfl,Below.refl _ _⟩
 case round=>
  obtain⟨k,hk,rfl,⟨z,hz,rfl,hzk⟩,rfl,hbw⟩:=hrel
  by_cases hlt:k<8
  ·have hst:=le8_step U k
   have HS:Hid _:=hst
   clear hst
   have hs1:(str ((List.range k).map (fun i=>UInt8.ofNat (U / 256 ^ i % 256)))).size≤8:=by rw[str_size];simp;omega
   have hs2:=str1_size
   generalize (List.range k).map (fun i=>UInt8.ofNat (U / 256 ^ i % 256))=l at *
   go_wp2_with (go_at_call 76;refine(byteOf_any _ _).mono ?_;rintro e w' ⟨rfl,hb⟩)
   go_roundw
   case rel=>
    refine⟨k+1,by omega,by go_num,⟨z / 256,by omega,by go_num,?_⟩,?_,below_then hbw hb⟩
    ·show z / 256=U / 256 ^ (k+1)
     rw[hzk.out,Nat.pow_succ,Nat.div_div_eq_div_mul]
    rw[HS.out,←str_append,←hzk.out]
   case measure=>simp[intOf];omega
  have hk8:k=8:=by omega
  subst hk8
  go_wp2
  go_ret
  exact⟨rfl,hbw⟩
theorem rBitsText_any (a:Option Addr)(cap:Nat)(l:List Bool)(w:World)(hn:l.length≤100000)(hx:Cells w a (l.map Value.bool)) :
  Calls Tryz.prog 77 #[.slice a l.length cap] w fun e w'=>e=.returned (.string (str (packBits l)))∧Below w.heap.size w w':=by
 go_enter Tryz.func77,Tryz.ntmps77
 go_wp2
 go_loopw [3,4] (fun s i wr=>∃ j:Nat,j≤(l.length+7) / 8∧i=.int .i64 (8*j:Nat)∧s=.string (str ((List.range j).map fun j=>UInt8.ofNat (byteAt l j)))∧Below w.heap.size w wr) (fun _ i _=>l.length+8-(intOf i).toNat)
 case atStart=>exact⟨0,by omega,rfl,rfl,Below.refl _ _⟩
 case round=>
  obtain⟨j,hj,rfl,rfl,hbw⟩:=hrel
  by_cases hlt:8*j<l.length
  ·go_wp2
   go_loop [5,6] (fun b k=>∃ t:Nat,t≤8∧k=.int .i64 ((t:Int)-1)∧b=.int .i64 (hi l (8*j) (8-t))) (fun _ k=>(intOf k+1).toNat)
   case atStart=>exact⟨8,by omega,rfl,rfl⟩
   case round=>
    obtain⟨t,ht,rfl,rfl⟩:=hrel
    have hb:=hi_lt l (8*j) (8-t)
    cases t with
    |succ q=>
     have e1:((q+1:Nat):Int)-1=(q:Int):=by omega
     have e2:8-(q+1)=7-q:=by omega
     have hp:2 ^ (7-q)≤128:=by
      have:2 ^ (7-q)≤2 ^ 7:=Nat.pow_le_pow_right (by decide) (by omega)
      omega
     have hst:hi l (8*j) (8-q)=2*hi l (8*j) (7-q)+(if l.getD (8*j+q) false then 1 else 0):=by
      have e3:8-q=(7-q)+1:=by omega
      have e4:7-(7-q)=q:=by omega
      rw[e3,hi,e4]
     rw[e2]at hb
     rw[e1,e2]
     generalize hi l (8*j) (7-q)=H at *
     by_cases hin:8*j+q<l.length
     ·obtain⟨b1,o1,rfl,hb1,x1⟩:=(hx.below hbw).at (i:=8*j+q) (by simpa using hin)
      rw[List.getElem_map]at x1
      have hg:l.getD (8*j+q) false=l[8*j+q]:=by simp[hin]
      cases hbit:l[8*j+q]
      ·rw[hbit]at x1 hg
       rw[hg]at hst
       have HS:Hid _:=hst
       clear hst hg hbit
       go_wp2
       go_round
       case rel=>exact⟨q,by omega,by go_num,by rw[HS.out];go_num⟩
       case measure=>simp[intOf];omega
      rw[hbit]at x1 hg
      rw[hg]at hst
      have HS:Hid _:=hst
      clear hst hg hbit
      go_wp2
      go_round
      case rel=>exact⟨q,by omega,by go_num,by rw[HS.out];go_num⟩
      case measure=>simp[intOf];omega
     have hg:l.getD (8*j+q) false=false:=by rw[List.getD_eq_getElem?_getD,List.getElem?_eq_none (by omega)];rfl
     rw[hg]at hst
     have HS:Hid _:=hst
     clear hst hg
     go_wp2
     go_round
     case rel=>exact⟨q,by omega,by go_num,by rw[HS.out];go_num⟩
     case measure=>simp[intOf];omega
    |zero=>
     have hst:(List.range (j+1)).map (fun j=>UInt8.ofNat (byteAt l j))=(List.range j).map (fun j=>UInt8.ofNat (byteAt l j))++[low (hi l (8*j) 8:Nat)]:=by
      rw[List.range_succ,List.map_append]
      have:=byteAt_lt l j
      unfold byteAt at this
      have e:(((hi l (8*j) 8:Nat):Int) % 256).toNat=hi l (8*j) 8:=by omega
      simp only[List.map_cons,List.map_nil,low,e]
      rfl
     have HS:Hid _:=hst
     clear hst
     have hs1:(str ((List.range j).map (fun j=>UInt8.ofNat (byteAt l j)))).size≤100000:=by rw[str_size];simp;omega
     have hs2:=str1_size
     generalize (List.range j).map (fun j=>UInt8.ofNat (byteAt l j))=L at *
     simp only[Nat.sub_zero]at *
     generalize hi l (8*j) 8=H at *
     go_wp2_with (go_at_call 76;refine(byteOf_any _ _).mono ?_;rintro e w' ⟨rfl,hb2⟩)
     go_roundw
     case rel=>exact⟨j+1,by omega,by go_num,by rw[HS.out,←str_append],below_then hbw hb2⟩
     case measure=>simp[intOf];omega
  have hj8:j=(l.length+7) / 8:=by omega
  subst hj8
  go_wp2
  go_ret
  exact⟨rfl,hbw⟩
theorem rSpelled_int (n:Int)(s:ByteArray)(w:World) :
  Calls Tryz.prog 100 #[.agg #[.int .i64 1,.int .i64 n,.string s]] w fun e w'=>e=.returned (.string (str (le8 (u64 n))))∧Below w.heap.size w w':=by
 go_enter Tryz.func100,Tryz.ntmps100
 go_wp2_with (go_at_call 122;refine(rLong_any _ _).mono ?_;rintro e w' ⟨rfl,hb⟩)
 go_ret
 exact⟨rfl,below_behind hb⟩
theorem rSpelled_bool (n:Int)(s:ByteArray)(w:World) :
  Calls Tryz.prog 100 #[.agg #[.int .i64 2,.int .i64 n,.string s]] w fun e w'=>e=.returned (.string (str [low n]))∧Below w.heap.size w w':=by
 go_enter Tryz.func100,Tryz.ntmps100
 go_wp2_with (go_at_call 76;refine(byteOf_any _ _).mono ?_;rintro e w' ⟨rfl,hb⟩)
 go_ret
 exact⟨rfl,below_behind hb⟩
theorem rSpelled_text (n:Int)(s:ByteArray)(w:World)(hs:s.size≤40) :
  Calls Tryz.prog 100 #[.agg #[.int .i64 3,.int .i64 n,.string s]] w fun e w'=>e=.returned (.string (str (low s.size::s.toList)))∧Below w.heap.size w w':=by
 go_enter Tryz.func100,Tryz.ntmps100
 have hs2:=str1_size
 go_wp2
 go_region_with (first|(go_at_call 76;refine(byteOf_any _ _).mono ?_;rintro e w' ⟨rfl,hb⟩;obtain⟨hc,hf⟩:=below_keep hb))
 all_goals go_wp2
 all_goals
  go_ret
  refine⟨?_,below_behind (below_undrew hb)⟩
  rw[str_cons];rfl
end
section
open Go.RowKit
def runLen (v:V):List V→Nat
 |[]=>0
 |u::l=>if u.beq v then runLen v l+1 else 0
theorem runLen_le (v:V)(l:List V):runLen v l≤l.length:=by
 induction l with
 |nil=>simp[runLen]
 |cons u l ih=>unfold runLen;split<;>simp;omega
theorem runLen_eq (v:V)(l:List V):∀ (k:Nat) (_:k≤l.length),(∀ j (hj:j<k),l[j]'(by omega)=v)→(∀ h:k<l.length,l[k]≠v)→runLen v l=k:=by
 induction l with
 |nil=>intro k hk _ _;simp at hk;simp[runLen,hk]
 |cons u l ih=>
  intro k hk hs hd
  cases k with
  |zero=>have:=hd (by simp);simp at this;simp[runLen,(V.beq_false u v).2 this]
  |succ k=>
   have h0:=hs 0 (by omega)
   simp at h0
   simp only[runLen,(V.beq_iff u v).2 h0,if_true]
   rw[ih k (by simpa using hk) (fun j hj=>by have:=hs (j+1) (by omega);simpa using this) (fun h=>by have:=hd (by simpa using h);simpa using this)]
theorem runLength_any (a:Option Addr)(cap:Nat)(v:V)(l:List V)(w:World)(hn:(v::l).length≤64)(hx:Vals w a (v::l)) :
  Calls Tryz.prog 148 #[.slice a (v::l).length cap] w fun e w'=>e=.returned (.int .i64 (runLen v (v::l)))∧Below w.heap.size w w':=by
 generalize hxs:v::l=xs at *
 have h0:0<xs.length:=by rw[←hxs];simp
 have hv:xs[0]=v:=by subst hxs;rfl
 have HV:Hid (xs[0]=v):=hv
 clear hv hxs
 obtain⟨b1,o1,rfl,hb1,z1,z2,z3⟩:=hx.at h0
 rw[Nat.zero_mul,Nat.add_zero]at z1 z2 z3
 go_enter Tryz.func148,Tryz.ntmps148
 go_wp2
 go_loopw [3] (fun i wr=>∃ k:Nat,1≤k∧k≤xs.length∧i=.int .i64 k∧(∃ m,wr=w.drewN m)∧Hid (∀ j (hj:j<xs.length),j<k→xs[j]=v)) (fun i _=>xs.length-(intOf i).toNat)
 case atStart=>
  refine⟨1,by omega,by omega,rfl,⟨0,rfl⟩,fun j hj h1=>?_⟩
  have:j=0:=by omega
  subst this;exact HV.out
 case round=>
  obtain⟨k,hk1,hk,rfl,⟨m,rfl⟩,hall⟩:=hrel
  by_cases hlt:k<xs.length
  ·obtain⟨b2,o2,hbo,_,x1,x2,x3⟩:=hx.at hlt
   simp at hbo
   obtain⟨rfl,rfl⟩:=hbo
   by_cases he:xs[k]=xs[0]
   ·have hq:=run_eql_same _ _ he
    have HE:Hid (xs[k]=xs[0]):=he
    clear he
    go_wp2
    go_quiet (fail)
    go_wp2
    go_roundw
    case rel=>
     refine⟨k+1,by omega,by omega,by go_num,⟨_,rfl⟩,fun j hj hjk=>?_⟩
     by_cases e:j=k
     ·subst e;exact HE.out.trans HV.out
     exact hall.out j hj (by omega)
    case measure=>simp[intOf];omega
   have hq:=run_eql_diff _ _ he
   have HE:Hid (¬ xs[k]=xs[0]):=he
   clear he
   go_wp2
   go_quiet (fail)
   go_wp2
   go_ret
   refine⟨ret_int ?_,below_drewN (below_drewN (Below.refl _ _) _) _⟩
   rw[runLen_eq v xs k (by omega) (fun j hj=>hall.out j (by omega) hj) (fun _ h=>HE.out (h.trans HV.out.symm))]
  have hd:decide ((k:Int)<(xs.length:Int))=false:=by simp;omega
  go_wp2
  go_quiet (fail)
  go_wp2
  go_ret
  refine⟨ret_int ?_,below_drewN (below_drewN (Below.refl _ _) _) _⟩
  rw[runLen_eq v xs k (by omega) (fun j hj=>hall.out j (by omega) hj) (fun h=>absurd h hlt)]
def leastFrom:Int→List V→Int
 |m,[]=>m
 |m,v::l=>leastFrom (if v.n<m then v.n else m) l
theorem leastFrom_snoc (l:List V)(v:V):∀ m,leastFrom m (l++[v])=if v.n<leastFrom m l then v.n else leastFrom m l:=by
 induction l with
 |nil=>intro m;rfl
 |cons u l ih=>intro m;simp only[List.cons_append,leastFrom];exact ih _
theorem leastNumber_any (a:Option Addr)(cap:Nat)(v:V)(l:List V)(w:World)(hn:(v::l).length≤64)(hx:Vals w a (v::l)) :
  Calls Tryz.prog 150 #[.slice a (v::l).length cap] w fun e w'=>e=.returned (.int .i64 (leastFrom v.n (v::l)))∧Below w.heap.size w w':=by
 generalize hxs:v::l=xs at *
 have h0:0<xs.length:=by rw[←hxs];simp
 have hv:xs[0].n=v.n:=by subst hxs;rfl
 obtain⟨b1,o1,rfl,hb1,z1,z2,z3⟩:=hx.at h0
 rw[Nat.zero_mul,Nat.add_zero]at z1 z2 z3
 rw[hv]at z2
 clear hv hxs z1 z3
 generalize v.n=M at *
 go_enter Tryz.func150,Tryz.ntmps150
 go_wp2
 go_loopw [3,12] (fun q i wr=>∃ k:Nat,k≤xs.length∧i=.int .i64 k∧q=.int .i64 (leastFrom M (xs.take k))∧Below w.heap.size w wr) (fun _ i _=>xs.length-(intOf i).toNat)
 case atStart=>exact⟨0,by omega,rfl,rfl,Below.refl _ _⟩
 case round=>
  obtain⟨k,hk,rfl,rfl,hbw⟩:=hrel
  by_cases hlt:k<xs.length
  ·obtain⟨b2,o2,hbo,_,x1,x2,x3⟩:=(hx.below hbw).at hlt
   simp at hbo
   obtain⟨rfl,rfl⟩:=hbo
   have hts:=leastFrom_snoc (xs.take k) xs[k] M
   rw[←take_snoc xs k hlt]at hts
   have HT:Hid _:=hts
   clear hts
   generalize leastFrom M (xs.take k)=q at *
   go_wp2
   go_roundw
   case rel=>exact⟨k+1,by omega,by go_num,by rw[HT.out],below_alloc hbw _⟩
   case measure=>simp[intOf];omega
  go_wp2
  go_ret
  have e:xs.take k=xs:=List.take_of_length_le (by omega)
  rw[e]
  exact⟨rfl,hbw⟩
theorem own_of_row {w:World}{b:Nat}{t:TypeId}{n:Nat}{f:Nat→Value}(h:w.rowIs b t n f){B:Nat}(hB:B≤b)(hn:n≤maxLen)(xs:List Value)(hl:xs.length=n)(hx:∀ i (hi:i<xs.length),xs[i]=f i) :
  OwnC w B t (.slice (some ⟨b,0,none⟩) n n) xs:=by
 obtain⟨c,hb,hs,hc⟩:=h
 refine⟨by omega,.inr ⟨b,n,c,by rw[hl],hB,hb,by omega,hn,by omega,?_⟩⟩
 apply List.ext_getElem
 ·simp;omega
 intro i h1 h2
 rw[hx i h2]
 have:=hc i (by omega)
 simp only[List.getElem_take,Array.getElem_toList]
 rw[Array.getElem?_eq_some_iff]at this
 exact this.2
def uv (n:Nat):Value:=.int .u64 (n:Int)
def dif (n least:Int):Nat:=u64 (n-least)
def difs (xs:List V)(least:Int):List Nat:=xs.map fun v=>dif v.n least
theorem wrap_dif (n q:Int):IntKind.u64.wrap (IntKind.u64.wrap n-IntKind.u64.wrap q)=(dif n q:Int):=by
 unfold dif u64
 simp only[IntKind.wrap_u64]
 omega
theorem differences_any (a:Option Addr)(cap:Nat)(xs:List V)(q:Int)(w:World)(hn:xs.length≤64)(hx:Vals w a xs) :
  Calls Tryz.prog 149 #[.slice a xs.length cap,.int .i64 q] w fun e w'=>∃ sv,e=.returned sv∧OwnC w' w.heap.size 245 sv ((difs xs q).map uv)∧Below w.heap.size w w':=by
 have hmk:∀ W,(Instr.makeSlice 259 (.int .i64 (xs.length:Int)) (.int .i64 (xs.length:Int))).run Tryz.prog W=.ok (.slice (some ⟨W.heap.size,0,none⟩) xs.length xs.length) (W.alloc (.cells (madeCells #[.int .u64 0] xs.length) 245)):=
  fun W=>run_make_row' 259 245 (.int .u64 0) 8 (by kernel_rfl) info_u64 rfl .i64 .i64 xs.length (by omega) (by omega) W
 go_enter Tryz.func149,Tryz.ntmps149
 go_wp2
 clear hmk
 go_loopw [13] (fun i wr=>∃ k:Nat,k≤xs.length∧i=.int .i64 k∧wr.rowIs w.heap.size 245 xs.length (fun j=>uv (if j<k then (difs xs q)[j]?.getD 0 else 0))∧Below w.heap.size w wr) (fun i _=>xs.length-(intOf i).toNat)
 case atStart=>exact⟨0,by omega,rfl,World.rowIs_made _ _ _ _,(Below.refl _ _).alloc (Nat.le_refl _) _⟩
 case round=>
  obtain⟨k,hk,rfl,hrow,hbw⟩:=hrel
  by_cases hlt:k<xs.length
  ·obtain⟨b1,o1,rfl,hb1,x1,x2,x3⟩:=(hx.below hbw).at hlt
   have c1:=hrow.cell hlt
   have c2:=hrow.frozen k
   have c3:=hrow.lt
   have hd:=wrap_dif xs[k].n q
   have HD:Hid _:=hd
   clear hd
   go_wp2
   go_roundw
   case rel=>
    refine⟨k+1,by omega,by go_num,((hrow.set k _).alloc _).congr fun j hj=>?_,below_alloc (hbw.setCell (p:=⟨w.heap.size,k,none⟩) (Nat.le_refl _) _) _⟩
    by_cases e:j=k
    ·subst e
     simp[difs,hlt,HD.out,uv]
    have h1:(j<k+1)=(j<k):=by rw[eq_iff_iff];omega
    simp[e,h1]
   case measure=>simp[intOf];omega
  go_wp2
  go_ret
  refine⟨_,rfl,own_of_row hrow (Nat.le_refl _) (by unfold maxLen;omega) _ (by simp[difs]) ?_,hbw⟩
  intro i hi
  have hi':i<xs.length:=by simpa [difs] using hi
  have hik:i<k:=by omega
  simp[hik,difs,hi']
def maxOf:Nat→List Nat→Nat
 |m,[]=>m
 |m,n::l=>maxOf (if m<n then n else m) l
theorem maxOf_snoc (l:List Nat)(n:Nat):∀ m,maxOf m (l++[n])=if maxOf m l<n then n else maxOf m l:=by
 induction l with
 |nil=>intro m;rfl
 |cons u l ih=>intro m;simp only[List.cons_append,maxOf];exact ih _
theorem maxOf_lt (b:Nat)(l:List Nat):∀ m,m<b→(∀ n∈l,n<b)→maxOf m l<b:=by
 induction l with
 |nil=>intro m hm _;exact hm
 |cons u l ih=>
  intro m hm h
  simp only[maxOf]
  refine ih _ ?_ fun n hn=>h n (List.mem_cons_of_mem _ hn)
  have:=h u (List.mem_cons_self)
  split<;>omega
theorem max_any (a:Option Addr)(cap:Nat)(d:Nat)(l:List Nat)(w:World)(hn:(d::l).length≤64)(hx:Cells w a ((d::l).map uv)) :
  Calls Tryz.prog 152 #[.slice a (d::l).length cap] w fun e w'=>e=.returned (uv (maxOf d l))∧Below w.heap.size w w':=by
 have hl:(d::l).length=l.length+1:=by simp
 obtain⟨b1,o1,rfl,hb1,z1⟩:=hx.at (i:=0) (by simp)
 have hxs:∀ k (hk:k<l.length),w.cell? ⟨b1,o1+(k+1),none⟩=some (.int .u64 (l[k]:Nat)):=by
  intro k hk
  obtain⟨b2,o2,hbo,_,y⟩:=hx.at (i:=k+1) (by simpa using hk)
  simp at hbo
  obtain⟨rfl,rfl⟩:=hbo
  simpa [uv] using y
 rw[hl]
 rw[hl]at hn
 simp[uv]at z1
 clear hx hl
 go_enter Tryz.func152,Tryz.ntmps152
 go_wp2
 go_loopw [3,4] (fun q i wr=>∃ k:Nat,k≤l.length∧i=.int .i64 ((k+1:Nat):Int)∧q=.int .u64 (maxOf d (l.take k):Nat)∧(∃ m,wr=w.drewN m)) (fun _ i _=>l.length+1-(intOf i).toNat)
 case atStart=>exact⟨0,by omega,rfl,rfl,⟨0,rfl⟩⟩
 case round=>
  obtain⟨k,hk,rfl,rfl,⟨m,rfl⟩⟩:=hrel
  by_cases hlt:k<l.length
  ·have y:=hxs k hlt
   have hts:=maxOf_snoc (l.take k) l[k] d
   rw[←List.take_succ_eq_append_getElem hlt]at hts
   have HT:Hid _:=hts
   clear hts hxs
   generalize maxOf d (l.take k)=q at *
   go_wp2
   go_roundw
   case rel=>exact⟨k+1,by omega,by go_num,by rw[HT.out];split<;>rfl,⟨m,rfl⟩⟩
   case measure=>simp[intOf];omega
  go_wp2
  go_ret
  have e:l.take k=l:=List.take_of_length_le (by omega)
  rw[e]
  exact⟨rfl,below_drewN (Below.refl _ _) _⟩
end
end Go.Proofs.YtkgibdjakgmmcaaGreatDoor
