/- Rows in memory; what a table is, and in which ways it can be written: the program's own checks. -/
import Derived.Test.YtjjdldddcegjiaaGreatDoorKa
import Derived.RangeFuncNested
import Derived.RangeFuncBound
import Derived.RangeFuncCalls
import Derived.RangeFuncLeaves
import Derived.Shelf.Abstract
import Derived.Shelf.RegionOpen
import Derived.WalkKit
import Derived.OwnWalkIn
import Derived.TacticsInMore
import Derived.LoopNIn
import Derived.LoopIn
import Derived.Deep.RegionLaw
import Derived.Deep.AppendLies
import Derived.Deep.DrawnRows
import Derived.Deep.DeepMust
import Derived.Lib.AppendStr
import Derived.Deep.MidRow
import Derived.Deep.RegionHeld3
import Derived.Deep.RegionWith
import Derived.Lib.BufferWrite
import Derived.Lib.LazyBuf
import Derived.Deep.DeepCutAuto
import Derived.Lib.Builder
import Derived.Lib.UnsafeStr
import Derived.OrdersIn
import Derived.RangeFuncBox
set_option maxHeartbeats 2000000
set_option maxRecDepth 100000
namespace Go.Proofs.YtjjdldddcegjiaaGreatDoor
open Go.RowKit Tryz
def iv (n:Int):Value:=.int .i64 n
abbrev Kc (w:World)(a:Option Addr)(ns:List Int):Prop:=Uh w a (ns.map iv)
theorem Kc.at {w:World}{a:Option Addr}{ns:List Int}(h:Kc w a ns){i:Nat}(hi:i<ns.length):∃ b o,a=some ⟨b,o,none⟩∧b<w.heap.size∧w.cell? ⟨b,o+i,none⟩=some (.int .i64 ns[i]):=by
 obtain⟨b,o,y,z,A⟩:=Uh.at h (i:=i) (by simpa using hi)
 exact⟨b,o,y,z,by rw[A];simp[iv]⟩
def Je1 (h:Option Addr×Nat)(r:List V):Value:=.slice h.1 r.length h.2
structure Zd (w:World) (a:Option Addr) (hs:List (Option Addr×Nat)) (rs:List (List V)):Prop where
 len:hs.length=rs.length
 cells:Uh w a (List.zipWith Je1 hs rs)
 rows:∀ (i:Nat) h r,hs[i]?=some h→rs[i]?=some r→Jv w h.1 r
theorem Zd.below {w w':World}{a:Option Addr}{hs:List (Option Addr×Nat)}{rs:List (List V)}(h:Zd w a hs rs)(y:Below w.heap.size w w'):Zd w' a hs rs:=
 ⟨h.len,h.cells.below y,fun i x r A z=>(h.rows i x r A z).below y⟩
theorem Zd.at {w:World}{a:Option Addr}{hs:List (Option Addr×Nat)}{rs:List (List V)}(h:Zd w a hs rs){i:Nat}(hi:i<rs.length) :
  ∃ b o y E,a=some ⟨b,o,none⟩∧b<w.heap.size∧w.cell? ⟨b,o+i,none⟩=some (.slice y rs[i].length E)∧Jv w y rs[i]:=by
 have D:i<hs.length:=by rw[h.len];exact hi
 obtain⟨b,o,z,A,C⟩:=h.cells.at (i:=i) (by simp;omega)
 exact⟨b,o,hs[i].1,hs[i].2,z,A,by rw[C];simp[Je1],h.rows i hs[i] rs[i] (by simp[D]) (by simp[hi])⟩
def Jnd (t:Int):Bool:=decide (1≤t∧t≤3)
theorem Kjg (a:Option Addr)(cap:Nat)(y:List Int)(w:World)(hn:y.length≤maxLen)(R:Kc w a y)(b:Bool)(K:b=true↔(1≤y.length∧y.length≤6)∧∀ j (z:j<y.length),Jnd y[j]=true) :
  Calls prog 69 #[.slice a y.length cap] w fun e w'=>e=.returned (.bool b)∧w'=w:=by
 unfold maxLen at hn
 have C:Hid (b=true↔(1≤y.length∧y.length≤6)∧∀ j (z:j<y.length),Jnd y[j]=true):=K
 clear K
 by_cases bf:y.length<1
 ·go_enter func69,ntmps69
  go_wp2
  go_ret
  refine⟨Qr ?_,rfl⟩
  cases b
  ·rfl
  have:=(C.out.1 rfl).1;omega
 by_cases bc:6<y.length
 ·go_enter func69,ntmps69
  go_wp2
  go_ret
  refine⟨Qr ?_,rfl⟩
  cases b
  ·rfl
  have:=(C.out.1 rfl).1;omega
 go_enter func69,ntmps69
 go_wp2
 go_loop [15] (fun i=>∃ k:Nat,k≤y.length∧i=.int .i64 k∧Hid (∀ j (z:j<y.length),j<k→Jnd y[j]=true)) (fun i=>y.length-(intOf i).toNat)
 case atStart=>exact⟨0,Ob7 _,rfl,fun j _ z=>absurd z (Oe0 _)⟩
 case round=>
  obtain⟨k,Z,rfl,H⟩:=hrel
  by_cases M:k<y.length
  ·obtain⟨b1,bh,rfl,U,bi⟩:=R.at M
   have D:=Jlh y[k] w
   cases ho:Jnd y[k]
   ·have E:Hid (Jnd y[k]=false):=ho
    have A:decide (1≤y[k]∧y[k]≤3)=false:=ho
    rw[A]at D
    clear ho A
    go_wp2_with (go_at_call 97;refine D.mono ?_;rintro e w' ⟨rfl,O⟩;subst w')
    go_ret
    refine⟨Qr ?_,rfl⟩
    cases b
    ·rfl
    have:=(C.out.1 rfl).2 k M
    rw[E.out]at this
    exact absurd this (by decide)
   have E:Hid (Jnd y[k]=true):=ho
   have A:decide (1≤y[k]∧y[k]≤3)=true:=ho
   rw[A]at D
   clear ho A
   go_wp2_with (go_at_call 97;refine D.mono ?_;rintro e w' ⟨rfl,O⟩;subst w')
   go_round
   case rel=>
    refine⟨k+1,by omega,by go_num,fun j z X=>?_⟩
    by_cases e:j=k
    ·subst e;exact E.out
    exact H.out j z (by omega)
   case measure=>simp[intOf];omega
  go_wp2
  go_ret
  exact⟨Qr (C.out.2 ⟨by omega,fun j z=>H.out j z (by omega)⟩).symm,rfl⟩
theorem Kjr (a M:Option Addr)(cap Z:Nat)(hs y:List Int)(w:World)(hn:hs.length≤maxLen)(bh:Kc w a hs)(bi:Kc w M y)(b:Bool)(R:b=true↔hs.length=y.length∧∀ j (z:j<hs.length),way (y.getD j 0) hs[j]=true) :
  Calls prog 55 #[.slice a hs.length cap,.slice M y.length Z] w fun e w'=>e=.returned (.bool b)∧w'=w:=by
 unfold maxLen at hn
 have D:Hid (b=true↔hs.length=y.length∧∀ j (z:j<hs.length),way (y.getD j 0) hs[j]=true):=R
 clear R
 by_cases C:hs.length=y.length
 ·have K:Hid (hs.length=y.length):=C
  have bc:((hs.length:Int) != (y.length:Int))=false:=by simp[C]
  clear C
  go_enter func55,ntmps55
  go_wp2
  go_loop [14] (fun i=>∃ k:Nat,k≤hs.length∧i=.int .i64 k∧Hid (∀ j (z:j<hs.length),j<k→way (y.getD j 0) hs[j]=true)) (fun i=>hs.length-(intOf i).toNat)
  case atStart=>exact⟨0,Ob7 _,rfl,fun j _ z=>absurd z (Oe0 _)⟩
  case round=>
   obtain⟨k,br,rfl,O⟩:=hrel
   by_cases U:k<hs.length
   ·have X:k<y.length:=by have:=K.out;omega
    obtain⟨b1,bu,rfl,bj,bz⟩:=bh.at U
    obtain⟨b2,bx,rfl,bl,bA⟩:=bi.at X
    have A:=Ja3 y[k] hs[k] w
    have H:Hid (y.getD k 0=y[k]):=by show _=_;simp[X]
    cases ho:way y[k] hs[k]
    ·have E:Hid (way y[k] hs[k]=false):=ho
     rw[ho]at A
     clear ho
     go_wp2_with (go_at_call 71;refine A.mono ?_;rintro e w' ⟨rfl,bf⟩;subst w')
     go_ret
     refine⟨Qr ?_,rfl⟩
     cases b
     ·rfl
     have:=(D.out.1 rfl).2 k U
     rw[H.out,E.out]at this
     exact absurd this (by decide)
    have E:Hid (way y[k] hs[k]=true):=ho
    rw[ho]at A
    clear ho
    go_wp2_with (go_at_call 71;refine A.mono ?_;rintro e w' ⟨rfl,bf⟩;subst w')
    go_round
    case rel=>
     refine⟨k+1,by omega,by go_num,fun j z bn=>?_⟩
     by_cases e:j=k
     ·subst e;rw[H.out];exact E.out
     exact O.out j z (by omega)
    case measure=>simp[intOf];omega
   go_wp2
   go_ret
   exact⟨Qr (D.out.2 ⟨K.out,fun j z=>O.out j z (by omega)⟩).symm,rfl⟩
 have bc:((hs.length:Int) != (y.length:Int))=true:=by simp;omega
 go_enter func55,ntmps55
 go_wp2
 go_ret
 refine⟨Qr ?_,rfl⟩
 cases b
 ·rfl
 exact absurd (D.out.1 rfl).1 C
theorem Kkh (a U:Option Addr)(cap bf:Nat)(vs:List V)(y:List Int)(w:World)(hn:vs.length≤maxLen)(bi:Jv w a vs)(bj:Kc w U y)(b:Bool)(A:b=true↔vs.length=y.length∧∀ j (z:j<vs.length),okB (y.getD j 0) vs[j].k vs[j].n vs[j].s=true) :
  Calls prog 70 #[.slice a vs.length cap,.slice U y.length bf] w fun e w'=>e=.returned (.bool b)∧Below w.heap.size w w':=by
 unfold maxLen at hn
 have H:Hid (b=true↔vs.length=y.length∧∀ j (z:j<vs.length),okB (y.getD j 0) vs[j].k vs[j].n vs[j].s=true):=A
 clear A
 by_cases E:vs.length=y.length
 ·have R:Hid (vs.length=y.length):=E
  have bh:((vs.length:Int) != (y.length:Int))=false:=by simp[E]
  clear E
  go_enter func70,ntmps70
  go_wp2
  go_loopw [14] (fun i wr=>∃ k:Nat,k≤vs.length∧i=.int .i64 k∧Below w.heap.size w wr∧Hid (∀ j (z:j<vs.length),j<k→okB (y.getD j 0) vs[j].k vs[j].n vs[j].s=true)) (fun i _=>vs.length-(intOf i).toNat)
  case atStart=>exact⟨0,Ob7 _,rfl,Oa5 _ _,fun j _ z=>absurd z (Oe0 _)⟩
  case round=>
   obtain⟨k,bu,rfl,D,X⟩:=hrel
   by_cases Z:k<vs.length
   ·have bc:k<y.length:=by have:=R.out;omega
    obtain⟨b1,bx,rfl,bl,bA,bB,bC⟩:=(bi.below D).at Z
    obtain⟨b2,bz,rfl,bn,bD⟩:=Kc.at (bj.below D) bc
    have O:Hid (y.getD k 0=y[k]):=by show _=_;simp[bc]
    have C:=fun (W:World)=>Jmd vs[k].k vs[k].n vs[k].s y[k] W
    cases ho:okB y[k] vs[k].k vs[k].n vs[k].s
    ·have M:Hid (okB y[k] vs[k].k vs[k].n vs[k].s=false):=ho
     rw[ho]at C
     have K:Hid (∀ W:World,Calls prog 98 #[.agg #[.int .i64 vs[k].k,.int .i64 vs[k].n,.string vs[k].s],.int .i64 y[k]] W fun e w'=>e=.returned (.bool false)∧Below W.heap.size W w'):=C
     clear C
     clear ho
     go_wp2_with fail
     go_region_with (first|(go_at_call 98;refine(K.out _).mono ?_;rintro e w' ⟨rfl,A⟩))
     all_goals
      go_wp2
      go_ret
      refine⟨Qr ?_,Jb D (Qx (Jw A))⟩
      cases b
      ·rfl
      have:=(H.out.1 rfl).2 k Z
      rw[O.out,M.out]at this
      exact absurd this (by decide)
    have M:Hid (okB y[k] vs[k].k vs[k].n vs[k].s=true):=ho
    rw[ho]at C
    have K:Hid (∀ W:World,Calls prog 98 #[.agg #[.int .i64 vs[k].k,.int .i64 vs[k].n,.string vs[k].s],.int .i64 y[k]] W fun e w'=>e=.returned (.bool true)∧Below W.heap.size W w'):=C
    clear C ho
    go_wp2_with fail
    go_region_with (first|(go_at_call 98;refine(K.out _).mono ?_;rintro e w' ⟨rfl,A⟩))
    all_goals
     go_wp2
     go_roundw
     case rel=>
      refine⟨k+1,by omega,by go_num,Jb D (Qx (Jw A)),fun j z br=>?_⟩
      by_cases e:j=k
      ·subst e;rw[O.out];exact M.out
      exact X.out j z (by omega)
     case measure=>simp[intOf];omega
   go_wp2
   go_ret
   exact⟨Qr (H.out.2 ⟨R.out,fun j z=>X.out j z (by omega)⟩).symm,D⟩
 have bh:((vs.length:Int) != (y.length:Int))=true:=by simp;omega
 go_enter func70,ntmps70
 go_wp2
 go_ret
 refine⟨Qr ?_,Oa5 _ _⟩
 cases b
 ·rfl
 exact absurd (H.out.1 rfl).1 E
end Go.Proofs.YtjjdldddcegjiaaGreatDoor
namespace Go.Proofs.YtjjdldddcegjiaaGreatDoor
open Go.RowKit Go.Shelf Tryz
attribute [local go_sem] Oc0
abbrev Ck (len:Nat):Type:={x:Nat×Nat // x.1+x.2≤len∧1≤x.2∧x.2≤64}
def Jaa (len g i:Nat):Nat×Nat:=(i*g,min g (len-i*g))
def cks (len g k:Nat):List (Nat×Nat):=(List.range k).map (Jaa len g)
def ckN (len g:Nat):Nat:=(len+g-1) / g
theorem Jbj (len g k:Nat):cks len g (k+1)=cks len g k++[Jaa len g k]:=by simp[cks,Oj7]
theorem Jbp (len g k:Nat):(cks len g k).length=k:=by simp[cks]
theorem Jqs {len g k:Nat}(z:1≤g)(h:k<ckN len g):k*g<len:=by
 unfold ckN at h
 have y:k+1≤(len+g-1) / g:=h
 rw[Nat.le_div_iff_mul_le (by omega)]at y
 rw[Of5]at y
 omega
theorem Khi {len g k:Nat}(y:1≤g)(h:k*g<len):k<ckN len g:=by
 unfold ckN
 have:k+1≤(len+g-1) / g:=by
  rw[Nat.le_div_iff_mul_le (by omega),Of5]
  omega
 exact this
def KpC (z y:Nat)(W A:World):Prop:=A.heap[z]?=W.heap[z]?∧A.heap[y]?=W.heap[y]?
theorem Kkd (n:Nat)(hn:1≤n)(l D A b off len cap g:Nat)(U:1≤g)(bH:g≤64)(bJ:len≤1000)(bG:len≤cap)(J O:List (Ck len)→World→Prop)
  (bA:∀ z (x:Ck len) W,J z W→z.length<ckN len g→YieldAt Fence.wide (n-1) prog l #[.slice (some ⟨b,off+x.1.1,none⟩) x.1.2 x.1.2] W fun e C=>
   (e=.returned (.bool true)∧J (z++[x]) C∧KpC D A W C)∨(e=.returned (.bool false)∧O (z++[x]) C))
  (bx:∀ s W,J s W→J s W.drew) (W:World) (br:W.cell? ⟨D,0,none⟩=some (.slice (some ⟨b,off,none⟩) len cap)) (bn:W.cell? ⟨A,0,none⟩=some (.int .i64 (g:Int))) (h0:J [] W) :
  CallsIn Fence.wide n prog 99 #[.func (.yield l) #[] #[],.pointer (some ⟨D,0,none⟩),.pointer (some ⟨A,0,none⟩)] W fun e C=>(∃ v,e=.returned v) ∧
   ((∃ y,y.map Subtype.val=cks len g (ckN len g)∧J y C)∨(∃ z,(∃ k,k≤ckN len g∧z.map Subtype.val=cks len g k)∧O z C)):=by
 refine callsIn_of_wp func99 rfl trivial ?_ rfl
 simp only[ntmps99,Om3,List.length_cons,List.length_nil,Nat.reduceAdd,Nat.reduceSub,Ok9,Array.replicate_zero,Om4,Ol2,List.nil_append,List.cons_append]
 gi_wp2
 gi_loopw [4] (fun i wr=>∃ (k:Nat) (y:List (Ck len)),k≤ckN len g∧i=.int .i64 ((k*g:Nat):Int)∧Hid (y.map Subtype.val=cks len g k)∧J y wr∧KpC D A W wr)
  (fun i _=>len+64-(intOf i).toNat)
 case atStart=>exact⟨0,[],Ob7 _,by simp,rfl,h0,rfl,rfl⟩
 case round=>
  obtain⟨k,y,bI,rfl,E,R,X,Z⟩:=hrel
  have c1:wr.cell? ⟨D,0,none⟩=some (.slice (some ⟨b,off,none⟩) len cap):=by rw[Oc3 (w:=W) X];exact br
  have c2:wr.cell? ⟨A,0,none⟩=some (.int .i64 (g:Int)):=by rw[Oc3 (w:=W) Z];exact bn
  by_cases bh:k*g<len
  ·have bf:=Khi U bh
   have H:Hid (cks len g (k+1)=cks len g k++[(k*g,min g (len-k*g))]):=Jbj len g k
   have bj:Hid ((k+1)*g=k*g+g):=Of5 k g
   have bE:y.length=k:=by have:=congrArg List.length E.out;rw[Oa6,Jbp]at this;exact this
   generalize k*g=i at *
   obtain⟨m,K,M⟩:∃ m:Nat,(i+m≤len∧1≤m∧m≤64)∧Hid (m=min g (len-i)):=⟨min g (len-i),by omega,rfl⟩
   rw[←M.out]at H
   have bN:(if len-i<g then ((len-i:Nat):Int)else (g:Int))=(m:Int):=by have:=M.out;split<;>omega
   obtain⟨fn,tmps,assign,body,bD,hR⟩:=bA y ⟨(i,m),K⟩ wr.drew (bx _ _ R) (by omega)
   dsimp only at bD
   clear bE
   have bC:=K
   obtain⟨bK,bL,bM⟩:=K
   gi_wp2
   gi_region
   gi_wp2
   refine hR.mono ?_
   rintro e bl (⟨rfl,bu,bB,bc⟩|⟨rfl,bz⟩)
   ·have c3:bl.cell? ⟨A,0,none⟩=some (.int .i64 (g:Int)):=by rw[Oc3 (w:=wr.drew) bc];exact c2
    gi_wp2
    go_roundw
    case rel=>exact⟨k+1,y++[⟨(i,m),bC⟩],bf,by rw[bj.out];go_num,by show _=_;rw[Ob8,E.out,H.out];rfl,bu,bB.trans X,bc.trans Z⟩
    case measure=>simp[intOf];omega
   gi_wp2
   refine bodyPost_ret (results_none rfl _ _ _) rfl ?_
   exact⟨⟨_,rfl⟩,.inr ⟨_,⟨k+1,bf,by rw[Ob8,E.out,H.out];rfl⟩,bz⟩⟩
  have bi:Hid (k=ckN len g):=by
   rcases Oc1 k (ckN len g)with h'|h'
   ·exact absurd (Jqs U h') bh
   ·show k=_;omega
  gi_wp2
  go_end0
  exact⟨⟨_,rfl⟩,.inl ⟨y,by rw[E.out,bi.out],R⟩⟩
end Go.Proofs.YtjjdldddcegjiaaGreatDoor
namespace Go.Proofs.YtjjdldddcegjiaaGreatDoor
open Go.RowKit Tryz
end Go.Proofs.YtjjdldddcegjiaaGreatDoor
namespace Go.Proofs.YtjjdldddcegjiaaGreatDoor
open Go.RowKit Tryz
def WAt (w:World)(B g:Nat)(t:Int)(bs:List UInt8):Prop:=
 B≤g∧∃ sv,w.heap[g]?=some (.cells #[.int .i64 t,sv] 211 (0,0))∧Jo w B 5 sv (bs.map bv)∧sv.ownBlock≠some g
def Ya (w:World)(g k:Nat):Prop:=k<w.heap.size∧k≠g∧∀ sv,w.cell? ⟨g,1,none⟩=some sv→sv.ownBlock≠some k
structure Ky (w w':World) (g:Nat):Prop where
 os:w'.os=w.os
 tape:w'.tape=w.tape
 output:w'.output=w.output
 size:w.heap.size≤w'.heap.size
 block:∀ k,Ya w g k→w'.heap[k]?=w.heap[k]?∧Ya w' g k
theorem Ky.refl (w:World)(g:Nat):Ky w w g:=⟨rfl,rfl,rfl,Oa2 _,fun _ h=>⟨rfl,h⟩⟩
theorem Ky.trans {a b c:World}{g:Nat}(h:Ky a b g)(k:Ky b c g):Ky a c g:=
 ⟨k.os.trans h.os,k.tape.trans h.tape,k.output.trans h.output,Ob2 h.size k.size,fun i hi=>⟨((k.block i (h.block i hi).2).1).trans (h.block i hi).1,(k.block i (h.block i hi).2).2⟩⟩
theorem Ky.of_below {w w':World}{g:Nat}(y:Below w.heap.size w w')(A:g<w.heap.size):Ky w w' g:=
 ⟨y.os,y.tape,y.output,y.size,fun k z=>⟨y.block k z.1,by have:=y.size;have:=z.1;omega,z.2.1,fun sv hs=>z.2.2 sv (by rw[←hs];exact(Oc3 (w:=w) (y.block g A)).symm)⟩⟩
theorem WAt.lt {w:World}{B g:Nat}{t:Int}{bs:List UInt8}(h:WAt w B g t bs):g<w.heap.size:=by
 obtain⟨_,sv,z,_⟩:=h
 rcases Oc1 g w.heap.size with y|y
 ·exact y
 simp[Og9 y]at z
theorem WAt.below {w w':World}{B g:Nat}{t:Int}{bs:List UInt8}(h:WAt w B g t bs)(y:Below w.heap.size w w'):WAt w' B g t bs:=by
 have C:=h.lt
 obtain⟨z,sv,A,D,hn⟩:=h
 exact⟨z,sv,by rw[y.block g C];exact A,D.below y,hn⟩
theorem WAt.cells {w:World}{B g:Nat}{t:Int}{bs:List UInt8}(h:WAt w B g t bs) :
  ∃ sv,w.cell? ⟨g,0,none⟩=some (.int .i64 t)∧w.cell? ⟨g,1,none⟩=some sv∧w.frozen? ⟨g,1,none⟩=false∧Jo w B 5 sv (bs.map bv)∧sv.ownBlock≠some g:=by
 obtain⟨_,sv,y,z,hn⟩:=h
 exact⟨sv,by simp[World.cell?,y],by simp[World.cell?,y],by simp[World.frozen?,y],z,hn⟩
theorem WAt.apart {w:World}{B g:Nat}{t:Int}{bs:List UInt8}(h:WAt w B g t bs){k:Nat}(D:k<B)(z:k<w.heap.size):Ya w g k:=by
 obtain⟨sv,_,y,_,A,_⟩:=h.cells
 have C:=h.1
 refine⟨z,by omega,fun sv' hs e=>?_⟩
 rw[y]at hs
 cases hs
 have:=(Je A e).1
 omega
theorem WAt.step {w D w1:World}{B g:Nat}{t:Int}{bs bs':List UInt8}{sv sv':Value}(h:WAt w B g t bs)(H:w.cell? ⟨g,1,none⟩=some sv)(z:Below w.heap.size w D)
  (A:D.grownBy w1 sv.ownBlock) (bl:Jo w1 B 5 sv' (bs'.map bv)) (X:sv'.ownBlock=sv.ownBlock∨sv'.ownBlock=some D.heap.size) :
  WAt (w1.setCell ⟨g,1,none⟩ sv') B g t bs'∧Ky w (w1.setCell ⟨g,1,none⟩ sv') g:=by
 have bj:=h.lt
 obtain⟨bc,C,K,br,hn⟩:=h
 have Z:C=sv:=by simpa [World.cell?,K] using H
 subst Z
 have bx:=z.size
 have bh:D.heap[g]?=some (.cells #[.int .i64 t,C] 211 (0,0)):=by rw[z.block g bj];exact K
 have bf:w1.heap[g]?=some (.cells #[.int .i64 t,C] 211 (0,0)):=by rw[A.block g (by omega) (Oc5 hn)];exact bh
 have O:sv'.ownBlock≠some g:=by
  rcases X with e|e
  ·rw[e];exact hn
  rw[e];intro E;simp at E;omega
 have U:(w1.setCell ⟨g,1,none⟩ sv').heap[g]?=some (.cells #[.int .i64 t,sv'] 211 (0,0)):=by
  simp[World.setCell,Oi3,bf]
 have R:∀ k,k≠g→(w1.setCell ⟨g,1,none⟩ sv').heap[k]?=w1.heap[k]?:=fun k y=>Oa4 _ _ _ _ y
 have bu:(w1.setCell ⟨g,1,none⟩ sv').heap.size=w1.heap.size:=by simp[World.setCell]
 have bn:=A.size
 refine⟨⟨bc,sv',U,?_,O⟩,⟨A.os.trans z.os,A.tape.trans z.tape,A.output.trans z.output,by omega,?_⟩⟩
 ·exact Jl bl fun k y=>R k fun e=>O (by rw[y,e])
 intro k y
 have M:=y.2.2 C H
 have bi:=y.1
 refine⟨?_,by omega,y.2.1,fun s hs=>?_⟩
 ·rw[R k y.2.1,A.block k (by omega) (Oc5 M),z.block k bi]
 have:s=sv':=by
  have e:(w1.setCell ⟨g,1,none⟩ sv').cell? ⟨g,1,none⟩=some sv':=by simp[World.cell?,U]
  rw[e]at hs;exact(Oj6 hs).symm
 subst this
 rcases X with e|e
 ·rw[e];exact M
 rw[e];intro E;simp at E;omega
theorem Zk {w w':World}{g:Nat}{a:Option Addr}{vs:List V}(h:Jv w a vs)(y:Ky w w' g)(z:∀ b o,a=some ⟨b,o,none⟩→Ya w g b):Jv w' a vs:=
 h.of_block y.size fun b o A _=>(y.block b (z b o A)).1
theorem Jde {w w':World}{g:Nat}{a:Option Addr}(A:Ky w w' g)(y:∀ b o,a=some ⟨b,o,none⟩→Ya w g b):∀ b o,a=some ⟨b,o,none⟩→Ya w' g b:=
 fun b o z=>(A.block b (y b o z)).2
theorem Jc2 {w w':World}{B g:Nat}{t:Int}{bs:List UInt8}(h:WAt w B g t bs)(z:Below w.heap.size w w'){k:Nat}(E:w.heap.size≤k)(A:k<w'.heap.size):Ya w' g k:=by
 have C:=h.lt
 obtain⟨sv,_,y,_,D,_⟩:=h.cells
 refine⟨A,by omega,fun s hs e=>?_⟩
 have:w'.cell? ⟨g,1,none⟩=some sv:=by rw[Oc3 (w:=w) (z.block g C)];exact y
 rw[this]at hs
 cases hs
 have:=(Je D e).2
 omega
theorem Ua (w:World)(v:Value)(e:TypeId):∀ (j:Nat) (u:Value),[v][j]?=some u→(w.alloc (.cells #[v] e)).cell? ((⟨w.heap.size,0,none⟩:Addr).add j)=some u:=by
 intro j u y
 cases j with
 |zero=>simp at y;subst y;simp[Addr.add]
 |succ j=>simp at y
theorem Jnf (w:World)(o:Obj)(b i:Nat)(h:b<w.heap.size):(w.alloc o).cell? ⟨b,i,none⟩=w.cell? ⟨b,i,none⟩:=
 Oc3 (Oa9 w o b h)
theorem Jh9 (w:World)(o:Obj)(b i:Nat)(h:b<w.heap.size):(w.alloc o).frozen? ⟨b,i,none⟩=w.frozen? ⟨b,i,none⟩:=
 Ol7 (Oa9 w o b h)
theorem Kgh (n:Int):Value.int .u8 (n % 256)=bv (low n):=by
 unfold bv low
 congr 1
 simp
 omega
end Go.Proofs.YtjjdldddcegjiaaGreatDoor
namespace Go.Proofs.YtjjdldddcegjiaaGreatDoor
open Go.RowKit Tryz
theorem Zq (B g:Nat)(t n:Int)(bs:List UInt8)(w:World)(h:WAt w B g t bs)(D:bs.length≤100000) :
  Calls prog 131 #[.pointer (some ⟨g,0,none⟩),.int .i64 n] w fun e w'=>e=.returned (.tuple #[])∧WAt w' B g t (bs++[low n])∧Ky w w' g:=by
 have O:=h.lt
 have M:=h.1
 obtain⟨sv,c0,c1,c2,E,hn⟩:=h.cells
 have R:(bs.map bv).length≤100000:=by simpa using D
 go_enter func131,ntmps131
 go_wp2_with (at_builtin;go_must (refine Ks (by rfl) _ _ 209 5 _ 1 Jfa (by rfl) (by decide) (by kernel_rfl) (by rfl) B sv _ (by rfl) (E.alloc _) ⟨w.heap.size,0,none⟩ 1 [.int .u8 (n % 256)] (by rfl) (by exact Ua _ _ _) (by intro u A;simp at A;subst A;rfl) (by simp only[List.length_cons,List.length_nil];omega) (by simp;omega) ?_);intro sv' w1 y z C;obtain⟨H,K,rfl,_⟩:=y.cells;have U:=z.cell_far ⟨g,1,none⟩ (by simp;omega) (Oc5 hn);have X:=z.frozen_far ⟨g,1,none⟩ (by simp;omega) (Oc5 hn))
 go_end0
 rw[Kgh]at y
 have:=h.step (bs':=bs++[low n]) c1 ((Oa5 _ _).alloc (Oa2 _) _) z (by simpa using y) C
 simp only[Oa8,Oa6,List.length_cons,List.length_nil]at this
 exact⟨rfl,this⟩
theorem Jka (B g:Nat)(t n:Int)(bs:List UInt8)(w:World)(h:WAt w B g t bs)(bA:bs.length≤100000) :
  Calls prog 181 #[.pointer (some ⟨g,0,none⟩),.int .i64 n] w fun e w'=>e=.returned (.tuple #[])∧WAt w' B g t (bs++le8 (u64 n))∧Ky w w' g:=by
 have H:IntKind.u64.wrap n=(u64 n:Int):=by rw[Oh5];unfold u64;omega
 have bE:=Jp3 n
 generalize u64 n=y at *
 go_enter func181,ntmps181
 go_wp2
 go_loopw [5] (fun i wr=>∃ k:Nat,k≤8∧i=.int .i64 k∧WAt wr B g t (bs++(List.range k).map fun i=>UInt8.ofNat (y / 256 ^ i % 256))∧Ky w wr g) (fun i _=>8-(intOf i).toNat)
 case atStart=>exact⟨0,by omega,rfl,by simpa using h,Ky.refl _ _⟩
 case round=>
  obtain⟨k,bz,rfl,z,M⟩:=hrel
  by_cases bC:k<8
  ·have K:=z.lt
   have bx:=z.1
   obtain⟨sv,c0,c1,c2,bj,hn⟩:=z.cells
   generalize A:bs++((List.range k).map fun i=>UInt8.ofNat (y / 256 ^ i % 256))=bk at *
   have bB:(bk.map bv).length≤100010:=by rw[←A];simp;omega
   have R:Hid _:=A
   clear A
   obtain⟨c,bf⟩:∃ c:Nat,c=8*k:=⟨_,rfl⟩
   have bG:IntKind.i64.wrap (8*(k:Int))=(c:Int):=by rw[Od4];omega
   obtain⟨q,D⟩:∃ q:Nat,q=y / 256 ^ k % 256:=⟨_,rfl⟩
   have bH:IntKind.u8.wrap ((y:Int) / 2 ^ min c 64)=(q:Int):=by
    have e:min c 64=8*k:=by omega
    have X:((2:Int) ^ (8*k))=((256 ^ k:Nat):Int):=by
     rw[Int.natCast_pow,Int.pow_mul];rfl
    rw[e,D,X,IntKind.wrap_u8]
    omega
   have U:Hid (Value.int .u8 (q:Int)=bv (UInt8.ofNat (y / 256 ^ k % 256))):=by
    show Value.int .u8 (q:Int)=_
    rw[D];unfold bv;congr 1;simp
   clear bf D
   obtain⟨bu,bh,bl,bn,br⟩:=info_parts Jfa
   go_wp2_with fail
   go_region_law
    ((refine step_append_lies _ (by rfl) _ _ _ (by rfl) B 5 bu _ 1 1 (by kernel_rfl) bh bl bn br rfl (by omega) sv (bk.map bv).length (bk.map bv) (by rfl) ((World.ownsRow.drew (bj.alloc _)))
       ⟨wr.heap.size,0,none⟩ 1 1 [.int .u8 (q:Int)] (by rfl) (by rfl) (by exact Ua wr _ 5) (by intro u H;simp at H;subst H;rfl)
       (by omega) (by unfold maxLen;omega) (by omega) (by simp;omega) (wr.heap.size+1) (by simp) ?_;intro Z cap w1 O C bc bD;have bI:w1.cell? ⟨g,1,none⟩=some sv:=(by rw[C.cell_far _ (by simp;omega) (Oc5 hn)];exact(Jnf wr _ g 1 K).trans c1);have bJ:w1.frozen? ⟨g,1,none⟩=false:=(by rw[C.frozen_far _ (by simp;omega) (Oc5 hn)];exact(Jh9 wr _ g 1 K).trans c2)))
   all_goals
    go_wp2
    go_roundw
    case rel=>
     rw[U.out]at O
     have E:=z.step (bs':=bk++[UInt8.ofNat (y / 256 ^ k % 256)]) (sv':=.slice (some ⟨Z,0,none⟩) ((List.map bv bk).length+1) cap) c1 (((Oa5 _ _).alloc (Oa2 _) _).drew) C (by simpa [Jo] using O)
      (by
        rcases bc with e|e
        ·exact .inl e.symm
        right;simp[Value.ownBlock,e])
     simp only[Oa6]at E
     refine⟨k+1,by omega,by go_num,?_,M.trans E.2⟩
     rw[Oj7,Ob8,←Od8,R.out]
     exact E.1
    case measure=>simp[intOf];omega
  have bi:k=8:=by omega
  subst bi
  go_wp2
  go_end0
  exact⟨rfl,z,M⟩
end Go.Proofs.YtjjdldddcegjiaaGreatDoor
namespace Go.Proofs.YtjjdldddcegjiaaGreatDoor
open Go.RowKit Tryz
theorem Jo.form {w:World}{B:Nat}{e:TypeId}{sv:Value}{xs:List Value}(h:Jo w B e sv xs):∃ a ln c,sv=.slice a ln c:=by
 obtain⟨a,c,y,_⟩:=h.cells
 exact⟨a,_,c,y⟩
theorem Jsr (s:ByteArray):Lib.strCells s=s.toList.map bv:=by
 rw[Og4];rfl
theorem Jlc (w:World)(B:Nat)(ty:TypeId)(sv:Value)(bs:List UInt8)(z:Jo w B 5 sv (bs.map bv))(X:bs≠[])(s:ByteArray)(bj:bs.length+s.size≤1000000)(O:B≤w.heap.size) :
  ∃ sv' w',(Builtin.append_ #[209,9] ty #[sv,.string s]).run prog w=.ok sv' w'∧Jo w' B 5 sv' ((bs++s.toList).map bv)∧w.grownBy w' sv.ownBlock∧(sv'.ownBlock=sv.ownBlock∨sv'.ownBlock=some w.heap.size):=by
 obtain⟨i,hi,E,C,D⟩:=info_parts Jfa
 have U:(bs.map bv).length=bs.length:=by simp
 obtain⟨bc,w',A,K,M,_⟩:=Lib.run_append_own_string (P:=prog) w B 209 9 ty 5 i (by kernel_rfl) (by kernel_rfl) hi E C D sv _ _ z s (by unfold maxLen;omega) (by omega) O
 refine⟨bc,w',A,?_,M,?_⟩
 ·unfold Jo
  rw[Ob8,←Jsr,Oa8,Lib.strCells_length]
  exact K
 rcases z.2 with⟨_,h0⟩|⟨g,cap,H,rfl,bf,R,bl,bh,bi,bn⟩
 ·rw[U]at h0;exact absurd (Od3.1 h0) X
 by_cases Z:(bs.map bv).length+s.size≤cap
 ·have y:=Lib.run_append_room_string (P:=prog) w 209 9 ty 5 i (by kernel_rfl) (by kernel_rfl) hi C g (bs.map bv).length cap H R s Z (by omega)
  rw[A]at y
  injection y with e1 _
  subst e1
  exact .inl rfl
 have y:=Lib.run_append_grow_string (P:=prog) w 209 9 ty 5 i _ (by kernel_rfl) (by kernel_rfl) hi E ⟨g,0,none⟩ (bs.map bv).length cap (bs.map bv) (by rw[C,Nat.mul_one]) (World.ownsRow.cells z (g:=g) rfl) s (by omega) (by omega) (by rw[D];exact growslice_fits (by omega) (by omega))
 rw[A]at y
 injection y with e1 _
 subst e1
 exact .inr rfl
theorem Jks {z:Array Oper}{o:Oper}{a:Act}{w:World}{y:Act→World→Prop}{Q:Exit→Act→World→Prop}{A:Prop}(K:o.guard=none)(sl x:Operand)
  (R:o.op=.call {callee:=.builtin .append,args:=#[sl,x],argTypes:=#[209,9]})
  (B:Nat) (sv:Value) (bs:List UInt8) (hs:a.eval sl=sv) (U:Jo w B 5 sv (bs.map bv)) (O:bs≠[]) (s:ByteArray) (bc:a.eval x=.string s) (M:bs.length+s.size≤1000000) (H:B≤w.heap.size)
  (h:∀ sv' w',Jo w' B 5 sv' ((bs++s.toList).map bv)→w.grownBy w' sv.ownBlock→(sv'.ownBlock=sv.ownBlock∨sv'.ownBlock=some w.heap.size)→y (a.put o.dst sv') w') :
  if Region.wanted o (yielded z a.tmps)=true then Oper.wp prog o a w y Q else A:=by
 have Z:Region.wanted o (yielded z a.tmps)=true:=by simp[Region.wanted,K]
 rw[if_pos Z]
 obtain⟨bf,w',X,C,D,E⟩:=Jlc w B o.type sv bs U O s M H
 unfold Oper.wp execOp
 simp only[R,resolve,invoke,builtin,Og8,Sem.run_pure,Result.andThen_ok,List.map_toArray,Oe4,Oi4,hs,bc,X]
 exact h bf w' C D E
end Go.Proofs.YtjjdldddcegjiaaGreatDoor
namespace Go.Proofs.YtjjdldddcegjiaaGreatDoor
open Go.RowKit Tryz
theorem Khe (Y n b y:Nat)(D:Y<256)(hn:n<18446744073709551616) :
  bits BinOp.or IntKind.u8 (Y:Int) (bits BinOp.and IntKind.u64 ((n:Int) / 2 ^ b) 1 % 256*2 ^ (y % 8) % 256)=((Y ||| ((if n.testBit b then 1 else 0) <<< (y % 8)):Nat):Int):=by
 have z:((n:Int) / 2 ^ b)=((n / 2 ^ b:Nat):Int):=by simp
 have H:n / 2 ^ b<18446744073709551616:=Nat.lt_of_le_of_lt (Oo6 _ _) hn
 have A:bits BinOp.and IntKind.u64 ((n / 2 ^ b:Nat):Int) 1=((n / 2 ^ b % 2:Nat):Int):=by
  have:=u64_and_nat (n / 2 ^ b) 1 H (by decide)
  rw[Nat.and_one_is_mod]at this
  exact this
 have C:n.testBit b=decide (n / 2 ^ b % 2=1):=On1
 rw[z,A,C]
 have K:n / 2 ^ b % 2<2:=Ol0 _ (by decide)
 have E:y % 8<8:=Ol0 _ (by decide)
 generalize n / 2 ^ b % 2=m at *
 generalize y % 8=c at *
 have M:∀ (m:Fin 2) (c:Fin 8),((m.val:Int) % (256:Int)*(2:Int) ^ c.val % (256:Int))=(((if decide (m.val=1)=true then 1 else 0) <<< c.val:Nat):Int)∧((if decide (m.val=1)=true then 1 else 0) <<< c.val:Nat)<256:=by decide
 have k:=M ⟨m,K⟩ ⟨c,E⟩
 simp only at k
 rw[k.1]
 exact u8_or_nat Y _ D k.2
theorem Jd4 (B g:Nat)(t:Int)(bs:List UInt8)(y:Nat)(a:Option Addr)(cap:Nat)(ns:List Nat)(w:World)(h:WAt w B g t bs)(cj:bs.length≤50000)(cA:y≤64)(hn:ns.length≤64)(cy:∀ n∈ns,n<18446744073709551616)(cB:Uh w a (ns.map uv))(cE:∀ b o,a=some ⟨b,o,none⟩→Ya w g b) :
  Calls prog 132 #[.pointer (some ⟨g,0,none⟩),.int .i64 y,.slice a ns.length cap] w fun e w'=>e=.returned (.tuple #[])∧WAt w' B g t (bs++Kk (Ue y ns))∧Ky w w' g:=by
 have cJ:y*ns.length≤64*64:=Ol5 cA hn
 obtain⟨W,hW⟩:∃ W:Nat,W=y*ns.length:=⟨_,rfl⟩
 have ca:(y:Int)*(ns.length:Int)=(W:Int):=by rw[hW];simp
 obtain⟨A,bK⟩:∃ A:Nat,A=(W+7) / 8:=⟨_,rfl⟩
 have cr:((W:Int)+7) / 8=(A:Int):=by omega
 have bB:=Jal y ns
 generalize hL:Ue y ns=L at *
 have cn:∀ W,(Instr.makeSlice 209 (.int .i64 (A:Int)) (.int .i64 (A:Int))).run prog W=.ok (.slice (some ⟨W.heap.size,0,none⟩) A A) (W.alloc (.cells (madeCells #[.int .u8 0] A) 5)):=
  fun W=>run_make_row' 209 5 (.int .u8 0) 1 (by kernel_rfl) Jfa rfl .i64 .i64 A (by omega) (by omega) W
 have K:Hid (L.length=W):=by show _=_;rw[bB,hW]
 have bQ:Hid (Ue y ns=L):=hL
 have bn:Hid (W=y*ns.length):=hW
 have R:Hid (A=(W+7) / 8):=bK
 have cD:W≤4096:=by omega
 have cI:A≤600:=by omega
 clear hL bB hW bK
 go_enter func132,ntmps132
 go_wp2_with (go_at_call 174;refine(Jif _ _ (by omega) (by omega)).mono ?_;rintro e w' ⟨rfl,cK⟩;subst w')
 clear cn ca cr
 go_loopw [7,19] (fun U i wr=>∃ k:Nat,k≤ns.length∧i=.int .i64 k∧U=.int .i64 ((y*k:Nat):Int)∧wr.rowIs w.heap.size 5 A (fun j=>.int .u8 (Jag (L.take (y*k)) j:Nat))∧Below w.heap.size w wr) (fun _ i _=>ns.length-(intOf i).toNat)
 case atStart=>
  refine⟨0,by omega,rfl,rfl,(Ol3 _ _ _ _).congr fun j _=>?_,(Oa5 _ _).alloc (Oa2 _) _⟩
  simp[Jvq]
 case round=>
  obtain⟨k,cF,rfl,rfl,C,D⟩:=hrel
  by_cases M:k<ns.length
  ·obtain⟨b1,cO,rfl,cb,bh⟩:=(cB.below D).at (i:=k) (by simpa using M)
   rw[Od9]at bh
   unfold uv at bh
   have bP:Hid (∀ b,b<y→L[y*k+b]?=some (ns[k].testBit b)):=by
    intro b bD
    rw[←bQ.out];exact Jms y ns k b M bD
   have bM:ns[k]<18446744073709551616:=cy _ (Ob3 M)
   have bR:Hid (ns[k]<18446744073709551616):=bM
   clear bM
   generalize ns[k]=n at *
   have cG:y*k+y≤W:=by
    rw[bn.out,←Nat.mul_succ];exact Nat.mul_le_mul_left _ M
   generalize bz:y*k=E at *
   have bj:Hid (y*k=E):=bz
   clear bz
   go_wp2
   go_loopw [7,24] (fun U i bO=>∃ b:Nat,b≤y∧i=.int .i64 b∧U=.int .i64 ((E+b:Nat):Int)∧bO.rowIs w.heap.size 5 A (fun j=>.int .u8 (Jag (L.take (E+b)) j:Nat))∧Below w.heap.size w bO) (fun _ i _=>y-(intOf i).toNat)
   case atStart=>exact⟨0,by omega,rfl,rfl,C,D⟩
   case round=>
    clear C D bh cb
    obtain⟨b,bD,rfl,rfl,C,D⟩:=hrel
    by_cases cl:b<y
    ·have bE:=bP.out b cl
     generalize bx:E+b=z at *
     have bY:z<W:=by omega
     have bi:Hid (E+b=z):=bx
     clear bx
     have cx:z / 8<A:=by rw[R.out];omega
     have c1:=C.cell cx
     have c2:=C.frozen (z / 8)
     have bG:=Ji4 (L.take z) (z / 8)
     have bN:∀ j,Jag (L.take (z+1)) j=if j=z / 8 then Jag (L.take z) j ||| ((if n.testBit b then 1 else 0) <<< (z % 8))else Jag (L.take z) j:=by
      intro j
      have bA:z<L.length:=by rw[K.out];exact bY
      have cc:L[z]=n.testBit b:=by rw[Oa3 bA]at bE;exact Oj6 bE
      rw[Jss L z j bA,cc]
     have bS:Hid _:=bN
     clear bN
     generalize bC:Jag (L.take z) (z / 8)=Y at c1 bG
     have bT:Hid (Jag (L.take z) (z / 8)=Y):=bC
     clear bC
     go_wp2
     go_region
     go_wp2
     go_roundw
     case rel=>
      refine⟨b+1,by omega,by go_num,?_,(C.set (z / 8) _).congr fun j H=>?_,(D.setCell (p:=⟨w.heap.size,z / 8,none⟩) (Oa2 _) _).drew⟩
      ·have:=bi.out
       rw[←this];go_num
      rw[←On5,bi.out,bS.out j]
      by_cases e:j=z / 8
      ·rw[if_pos e,if_pos e,Khe Y n b z bG bR.out,e,bT.out]
      rw[if_neg e,if_neg e]
     case measure=>simp[intOf];omega
    have cf:b=y:=by omega
    subst cf
    go_wp2
    go_roundw
    case rel=>
     refine⟨k+1,by omega,by go_num,?_,?_,D⟩
     ·have:=bj.out
      rw[Nat.mul_succ,this]
     rw[Nat.mul_succ,bj.out];exact C
    case measure=>simp[intOf];omega
  have ci:k=ns.length:=by omega
  subst ci
  have bH:L.take (y*ns.length)=L:=Oc8 (by rw[K.out,bn.out];exact Oa2 _)
  rw[bH]at C
  clear bH
  have O:=h.below D
  have bI:=O.lt
  have cC:=O.1
  obtain⟨sv,c0,c1,c2,cv,bL⟩:=O.cells
  have cH:(bs.map bv).length≤50000:=by simpa using cj
  have bc:((Kk L).map bv).length=A:=by rw[Oa6,Qb,K.out,←R.out]
  have bl:Hid (((Kk L).map bv).length=A):=bc
  have cu:∀ j u,((Kk L).map bv)[j]?=some u→wr.cell? ((⟨w.heap.size,0,none⟩:Addr).add j)=some u:=by
   intro j u H
   have bJ:j<A:=by
    rw[←bc]
    rcases Oc1 j ((Kk L).map bv).length with X|X
    ·exact X
    rw[Ob4 X]at H;simp at H
   rw[Addr.add_mid,Od0,C.cell bJ]
   have ch:j<(L.length+7) / 8:=by rw[K.out,←R.out];exact bJ
   simp[Kk,ch,bv]at H
   rw[←H]
   have:=Ji4 L j
   congr 2
   omega
  clear bc
  have bW:∀ u∈(Kk L).map bv,u.oneCell'=true:=by
   intro u cz
   obtain⟨x,_,rfl⟩:=Of0.1 cz
   rfl
  generalize bZ:(Kk L).map bv=br at *
  go_wp2_with (at_builtin;go_must (refine Ks (by rfl) _ _ 209 5 _ 1 Jfa (by rfl) (by decide) (by kernel_rfl) (by rfl) B sv _ (by rfl) cv ⟨w.heap.size,0,none⟩ A br (by rw[bl.out];rfl) cu bW (by rw[bl.out];omega) (by omega) ?_);intro sv' w1 bu Z bX;obtain⟨bU,bV,rfl,_⟩:=bu.cells;have cM:=Z.cell_far ⟨g,1,none⟩ bI (Oc5 bL);have cN:=Z.frozen_far ⟨g,1,none⟩ bI (Oc5 bL))
  go_end0
  have bf:=O.step (bs':=bs++Kk L) (sv':=.slice bU (List.map bv bs++br).length bV) c1 (Oa5 _ _) Z (by rw[Ob8,bZ];exact bu) bX
  simp only[Oa8,Oa6]at bf
  exact⟨rfl,bf.1,(Ky.of_below D h.lt).trans bf.2⟩
end Go.Proofs.YtjjdldddcegjiaaGreatDoor
namespace Go.Proofs.YtjjdldddcegjiaaGreatDoor
open Go.RowKit Tryz
def enc (k n:Int)(s:ByteArray):List UInt8:=
 if k=1 then le8 (u64 n)else if k=2 then [low n]else if k=3 then low s.size::s.toList else []
def good (k:Int)(s:ByteArray):Prop:=k=1∨k=2∨(k=3∧s.size≤40)
theorem Kc5 (k n:Int)(s:ByteArray)(h:good k s):(enc k n s).length≤41:=by
 rcases h with h|h|⟨h,hs⟩
 ·unfold enc;rw[if_pos h,Jc4];omega
 ·unfold enc;rw[if_neg (by omega),if_pos h];simp
 unfold enc;rw[if_neg (by omega),if_neg (by omega),if_pos h,Og4,List.length_cons,Array.length_toList];exact Nat.succ_le_succ hs
theorem Jwu (B g:Nat)(t n:Int)(s:ByteArray)(bs:List UInt8)(w:World)(h:WAt w B g t bs)(C:bs.length≤50000) :
  Calls prog 175 #[.pointer (some ⟨g,0,none⟩),.agg #[.int .i64 1,.int .i64 n,.string s]] w fun e w'=>e=.returned (.tuple #[])∧WAt w' B g t (bs++le8 (u64 n))∧Ky w w' g:=by
 have y:=h.lt
 go_enter func175,ntmps175
 go_wp2_with (go_at_call 181;refine(Jka B g t _ bs _ (h.below ((Oa5 _ _).alloc (Oa2 _) _)) (by omega)).mono ?_;rintro e w' ⟨rfl,A,z⟩)
 go_end0
 exact⟨rfl,A,(Ky.of_below ((Oa5 _ _).alloc (Oa2 _) _) y).trans z⟩
theorem Jrq (B g:Nat)(t n:Int)(s:ByteArray)(bs:List UInt8)(w:World)(h:WAt w B g t bs)(C:bs.length≤50000) :
  Calls prog 175 #[.pointer (some ⟨g,0,none⟩),.agg #[.int .i64 2,.int .i64 n,.string s]] w fun e w'=>e=.returned (.tuple #[])∧WAt w' B g t (bs++[low n])∧Ky w w' g:=by
 have y:=h.lt
 go_enter func175,ntmps175
 go_wp2_with (go_at_call 131;refine(Zq B g t _ bs _ (h.below ((Oa5 _ _).alloc (Oa2 _) _)) (by omega)).mono ?_;rintro e w' ⟨rfl,A,z⟩)
 go_end0
 exact⟨rfl,A,(Ky.of_below ((Oa5 _ _).alloc (Oa2 _) _) y).trans z⟩
theorem Jsb (B g:Nat)(t n:Int)(s:ByteArray)(bs:List UInt8)(w:World)(h:WAt w B g t bs)(bf:bs.length≤50000)(hs:s.size≤40) :
  Calls prog 175 #[.pointer (some ⟨g,0,none⟩),.agg #[.int .i64 3,.int .i64 n,.string s]] w fun e w'=>e=.returned (.tuple #[])∧WAt w' B g t (bs++low s.size::s.toList)∧Ky w w' g:=by
 have U:=h.lt
 have y:=h.below ((Oa5 _ _).alloc (Oa2 _) (.cells #[.int .i64 3,.int .i64 n,.string s] 49))
 have O:Ya (w.alloc (.cells #[.int .i64 3,.int .i64 n,.string s] 49)) g w.heap.size:=Jc2 h ((Oa5 _ _).alloc (Oa2 _) _) (Oa2 _) (by simp)
 go_enter func175,ntmps175
 go_wp2_with (go_at_call 131;refine(Zq B g t _ bs _ y (by omega)).mono ?_;rintro e w' ⟨rfl,z,D⟩)
 have C:=z.lt
 have Z:=z.1
 obtain⟨sv,c0,c1,c2,X,hn⟩:=z.cells
 obtain⟨R,bc⟩:=D.block _ O
 have c3:w'.cell? ⟨w.heap.size,2,none⟩=some (.string s):=by rw[Oc3 (w:=w.alloc _) R];simp
 have bh:w.heap.size≠g:=by omega
 go_region_law
  ((
   refine Jks (by rfl) _ _ (by rfl) B sv (bs++[low s.size]) (by rfl) (by exact X) (by simp) s (by rfl) (by simp;omega) (by simp;omega) ?_
   intro sv' w1 A y M
   obtain⟨H,ln,K,rfl⟩:=A.form
   have bi:w1.cell? ⟨g,1,none⟩=some sv:=(by rw[y.cell_far _ (by simpa using C) (Oc5 hn)];exact c1)
   have bj:w1.frozen? ⟨g,1,none⟩=false:=(by rw[y.frozen_far _ (by simpa using C) (Oc5 hn)];exact c2)))
 all_goals
  go_wp2
  go_end0
  have E:=z.step (bs':=bs++low s.size::s.toList) (sv':=.slice H ln K) c1 ((Oa5 _ _).drew) y (by simpa using A) M
  exact⟨rfl,E.1,((Ky.of_below ((Oa5 _ _).alloc (Oa2 _) _) U).trans D).trans E.2⟩
theorem Jl0 (B g:Nat)(t:Int)(v:V)(bs:List UInt8)(w:World)(h:WAt w B g t bs)(z:bs.length≤50000)(A:good v.k v.s) :
  Calls prog 175 #[.pointer (some ⟨g,0,none⟩),v.val] w fun e w'=>e=.returned (.tuple #[])∧WAt w' B g t (bs++enc v.k v.n v.s)∧Ky w w' g:=by
 obtain⟨k,n,s⟩:=v
 rcases A with y|y|⟨y,hs⟩
 ·simp only at y
  subst y
  exact Jwu B g t n s bs w h z
 ·simp only at y
  subst y
  exact Jrq B g t n s bs w h z
 simp only at y hs
 subst y
 exact Jsb B g t n s bs w h z hs
def Yv (vs:List V):List UInt8:=vs.flatMap fun v=>enc v.k v.n v.s
theorem Jgg (vs:List V)(h:∀ v∈vs,good v.k v.s):(Yv vs).length≤41*vs.length:=by
 induction vs with
 |nil=>simp[Yv]
 |cons v vs z=>
  have A:=Kc5 v.k v.n v.s (h v (Of4))
  have C:=z fun u y=>h u (Og1 _ y)
  unfold Yv at *
  rw[Og7,Oa8,List.length_cons]
  omega
theorem Jjz (vs:List V)(v:V):Yv (vs++[v])=Yv vs++enc v.k v.n v.s:=by simp[Yv]
theorem Jk4 (B g:Nat)(t:Int)(a:Option Addr)(cap:Nat)(xs:List V)(bs:List UInt8)(w:World)(h:WAt w B g t bs)(br:bs.length≤10000)(hn:xs.length≤64)(E:∀ v∈xs,good v.k v.s)(bi:Jv w a xs)(R:∀ b o,a=some ⟨b,o,none⟩→Ya w g b) :
  Calls prog 133 #[.pointer (some ⟨g,0,none⟩),.slice a xs.length cap] w fun e w'=>e=.returned (.tuple #[])∧WAt w' B g t (bs++Yv xs)∧Ky w w' g:=by
 go_enter func133,ntmps133
 go_wp2
 go_loopw [8] (fun i wr=>∃ k:Nat,k≤xs.length∧i=.int .i64 k∧WAt wr B g t (bs++Yv (xs.take k))∧Ky w wr g) (fun i _=>xs.length-(intOf i).toNat)
 case atStart=>exact⟨0,by omega,rfl,by simpa [Yv] using h,Ky.refl _ _⟩
 case round=>
  obtain⟨k,bn,rfl,y,z⟩:=hrel
  by_cases A:k<xs.length
  ·have bj:=Zk bi z R
   obtain⟨b1,bu,rfl,bl,bx,bz,bA⟩:=bj.at A
   have C:=Jjz (xs.take k) xs[k]
   rw[←Oc4 A]at C
   have X:=Jgg (xs.take k) fun v bf=>E v (Om9 bf)
   have Z:(xs.take k).length≤k:=List.length_take_le _ _
   have H:=E _ (Ob3 A)
   have O:Hid _:=C
   have M:Hid (good xs[k].k xs[k].s):=H
   have bc:(bs++Yv (xs.take k)).length≤50000:=by rw[Oa8];omega
   clear C H X Z
   generalize D:bs++Yv (xs.take k)=bk at *
   have K:Hid _:=D
   clear D
   go_wp2_with (go_at_call 175;refine(Jl0 B g t xs[k] bk _ (y.below ((Oa5 _ _).alloc (Oa2 _) _)) bc M.out).mono ?_;rintro e w' ⟨rfl,bh,U⟩)
   go_roundw
   case rel=>
    refine⟨k+1,by omega,by go_num,?_,(z.trans (Ky.of_below ((Oa5 _ _).alloc (Oa2 _) _) y.lt)).trans U⟩
    rw[O.out,←Od8,K.out];exact bh
   case measure=>simp[intOf];omega
  go_wp2
  go_end0
  have e:xs.take k=xs:=Oc8 (by omega)
  rw[e]at y
  exact⟨rfl,y,z⟩
end Go.Proofs.YtjjdldddcegjiaaGreatDoor
namespace Go.Proofs.YtjjdldddcegjiaaGreatDoor
open Go.RowKit
def Qt (v:V):Nat:=if v.k=0 then 0 else 1
theorem Jv6 (ns:List Nat)(h:∀ n∈ns,n≤1):Ue 1 ns=ns.map fun n=>n==1:=by
 induction ns with
 |nil=>rfl
 |cons n ns z=>
  have e:Ue 1 (n::ns)=[n.testBit 0]++Ue 1 ns:=by simp[Ue,Oj7]
  rw[e,z fun m y=>h m (Og1 _ y)]
  have hn:=h n Of4
  have:n.testBit 0=(n==1):=by
   rw[Nat.testBit_zero]
   have:n=0∨n=1:=by omega
   rcases this with rfl|rfl<;>rfl
  rw[this];rfl
theorem Jrg (xs:List V):Ue 1 (xs.map Qt)=xs.map fun v=>v.k != 0:=by
 rw[Jv6 _ (by intro n hn;obtain⟨v,_,rfl⟩:=Of0.1 hn;unfold Qt;split<;>omega),Oi6]
 apply Oj9
 intro v _
 simp only[Function.comp,Qt]
 by_cases h:v.k=0<;>simp[h]
def Kz (t y:Int)(xs:List V):List UInt8:=[low t,low y,low xs.length]++Kk (xs.map fun v=>v.k != 0)
theorem Jg0 (B g:Nat)(t bh:Int)(a:Option Addr)(cap:Nat)(xs:List V)(w:World)(h:WAt w B g t [])(hn:xs.length≤64)(bI:Jv w a xs)(br:xs≠[]→∀ b o,a=some ⟨b,o,none⟩→Ya w g b) :
  Calls Tryz.prog 103 #[.pointer (some ⟨g,0,none⟩),.int .i64 bh,.slice a xs.length cap] w fun e w'=>e=.returned (.tuple #[])∧WAt w' B g t (Kz t bh xs)∧Ky w w' g:=by
 have bE:∀ W,(Instr.makeSlice 253 (.int .i64 (xs.length:Int)) (.int .i64 (xs.length:Int))).run Tryz.prog W=.ok (.slice (some ⟨W.heap.size,0,none⟩) xs.length xs.length) (W.alloc (.cells (madeCells #[.int .u64 0] xs.length) 154)):=
  fun W=>run_make_row' 253 154 (.int .u64 0) 8 (by kernel_rfl) Jiq rfl .i64 .i64 xs.length (by omega) (by omega) W
 obtain⟨bP,c0,_,_,_,_⟩:=h.cells
 go_enter Tryz.func103,Tryz.ntmps103
 go_wp2_with fail
 refine(Zq B g t _ _ _ h (by simp)).mono ?_
 rintro e w1 ⟨rfl,bi,X⟩
 go_wp2_with fail
 refine(Zq B g t _ _ _ bi (by simp)).mono ?_
 rintro e bQ ⟨rfl,bj,Z⟩
 go_wp2_with fail
 refine(Zq B g t _ _ _ bj (by simp)).mono ?_
 rintro e z ⟨rfl,H,bc⟩
 go_wp2_with fail
 clear bE
 have U:=(X.trans Z).trans bc
 have bJ:Jv z a xs:=by
  by_cases bf:xs=[]
  ·exact .inl bf
  exact Zk bI U (br bf)
 clear X Z bc bi bj c0
 go_loopw [27] (fun i wr=>∃ k:Nat,k≤xs.length∧i=.int .i64 k∧wr.rowIs z.heap.size 154 xs.length (fun j=>uv (if j<k then (xs.map Qt)[j]?.getD 0 else 0))∧Below z.heap.size z wr) (fun i _=>xs.length-(intOf i).toNat)
 case atStart=>exact⟨0,by omega,rfl,Ol3 _ _ _ _,(Oa5 _ _).alloc (Oa2 _) _⟩
 case round=>
  obtain⟨k,bN,rfl,y,A⟩:=hrel
  by_cases E:k<xs.length
  ·obtain⟨b1,bO,rfl,bM,bS,bT,bU⟩:=(bJ.below A).at E
   have c1:=y.cell E
   have c2:=y.frozen k
   have c3:=y.lt
   have R:(xs.map Qt)[k]?.getD 0=Qt xs[k]:=by simp[E]
   have K:Hid _:=R
   clear R
   by_cases h0:xs[k].k=0
   ·have bn:(xs[k].k != 0)=false:=by simp[h0]
    have C:Hid (xs[k].k=0):=h0
    clear h0
    go_wp2
    go_roundw
    case rel=>
     refine⟨k+1,by omega,by go_num,(y.alloc _).congr fun j bA=>?_,Jc A _⟩
     by_cases e:j=k
     ·subst e
      simp only[Oe3,if_false,On2,if_true]
      rw[K.out]
      simp[Qt,C.out]
     have D:(j<k+1)=(j<k):=by rw[eq_iff_iff];omega
     simp only[D]
    case measure=>simp[intOf];omega
   have bn:(xs[k].k != 0)=true:=by simp[h0]
   have C:Hid (¬ xs[k].k=0):=h0
   clear h0
   go_wp2
   go_roundw
   case rel=>
    refine⟨k+1,by omega,by go_num,((y.set k _).alloc _).congr fun j bA=>?_,Jc (A.setCell (p:=⟨z.heap.size,k,none⟩) (Oa2 _) _) _⟩
    by_cases e:j=k
    ·subst e
     simp only[if_true,On2]
     rw[K.out]
     simp[Qt,C.out,uv]
    have D:(j<k+1)=(j<k):=by rw[eq_iff_iff];omega
    simp only[e,D,if_false]
   case measure=>simp[intOf];omega
  have bC:k=xs.length:=by omega
  subst bC
  have bG:Jo wr z.heap.size 154 (.slice (some ⟨z.heap.size,0,none⟩) xs.length xs.length) ((xs.map Qt).map uv):=
   Jhx y (Oa2 _) (by unfold maxLen;omega) _ (by simp) (by
    intro i hi
    have bz:i<xs.length:=by simpa using hi
    simp[bz])
  obtain⟨bK,bL,M,bu⟩:=bG.cells
  simp only[Oa6]at M
  injection M with e5 e6 e7
  subst e5
  subst e7
  have bx:(xs.map Qt).length=xs.length:=by simp
  have bH:=H.below A
  have bD:=y.lt
  go_wp2_with fail
  rw[←bx]
  refine(Jd4 B g t _ 1 _ _ (xs.map Qt) _ bH (by simp) (by omega) (by simpa using hn) (by
   intro n hn;obtain⟨v,_,rfl⟩:=Of0.1 hn;unfold Qt;split<;>omega) bu (by
   intro b o O
   simp at O
   obtain⟨rfl,rfl⟩:=O
   exact Jc2 H A (Oa2 _) bD)).mono ?_
  rintro e bR ⟨rfl,bl,bB⟩
  go_wp2_with fail
  go_end0
  refine⟨rfl,?_,(U.trans (Ky.of_below A H.lt)).trans bB⟩
  rw[Jrg]at bl
  exact bl
end Go.Proofs.YtjjdldddcegjiaaGreatDoor
namespace Go.Proofs.YtjjdldddcegjiaaGreatDoor
open Go.RowKit
def Jdx (v:V)(c:Nat):List V→List UInt8
 |[]=>low c::enc v.k v.n v.s
 |u::l=>if u.beq v then Jdx v (c+1) l else (low c::enc v.k v.n v.s)++Jdx u 1 l
def Yc:List V→List UInt8
 |[]=>[]
 |v::l=>Jdx v 1 l
theorem Jw2 (l:List V):∀ (v:V) (c:Nat),Jdx v c l=(low ((c+Qe v l:Nat):Int)::enc v.k v.n v.s)++Yc (l.drop (Qe v l)):=by
 induction l with
 |nil=>intro v c;simp[Jdx,Qe,Yc]
 |cons u l y=>
  intro v c
  by_cases e:u.beq v=true
  ·simp only[Jdx,Qe,e,if_true,List.drop_succ_cons]
   rw[y v (c+1)]
   have:c+1+Qe v l=c+(Qe v l+1):=by omega
   rw[this]
  simp only[Jdx,Qe,e,if_false,Ol9]
  simp[Yc]
theorem Je9 (v:V)(l:List V):Yc (v::l)=(low ((Qe v (v::l):Nat):Int)::enc v.k v.n v.s)++Yc ((v::l).drop (Qe v (v::l))):=by
 have e:Qe v (v::l)=Qe v l+1:=by simp[Qe,(V.beq_iff v v).2 rfl]
 rw[e,List.drop_succ_cons]
 show Jdx v 1 l=_
 rw[Jw2]
 have:1+Qe v l=Qe v l+1:=by omega
 rw[this]
theorem Jhn (v:V)(l:List V):1≤Qe v (v::l):=by simp[Qe,(V.beq_iff v v).2 rfl]
theorem Jng:∀ (n:Nat)(xs:List V),xs.length≤n→(∀ v∈xs,good v.k v.s)→(Yc xs).length≤42*xs.length:=by
 intro n
 induction n with
 |zero=>intro xs h _;have:xs=[]:=Od3.1 (by omega);subst this;simp[Yc]
 |succ n C=>
  intro xs h y
  cases xs with
  |nil=>simp[Yc]
  |cons v l=>
   rw[Je9]
   have D:=Kc5 v.k v.n v.s (y v Of4)
   have E:=Jhn v l
   have z:=C ((v::l).drop (Qe v (v::l))) (by rw[Of7];simp at h ⊢;omega) (fun u A=>y u (Oh7 A))
   rw[Oa8,List.length_cons]
   rw[Of7]at z
   have H:=Jjn v (v::l)
   omega
theorem Jlj (l:List V):∀ (d:List V) (v:V),v∈Ym d l→v∈d∨v∈l:=by
 induction l with
 |nil=>intro d v h;exact .inl h
 |cons u l y=>
  intro d v h
  simp only[Ym]at h
  rcases y _ v h with h|h
  ·split at h
   ·exact .inl h
   rcases Od2.1 h with h|h
   ·exact .inl h
   right;simp at h;subst h;exact Of4
  exact .inr (Og1 _ h)
def Jds (xs:List V):List UInt8:=(low (Ym [] xs).length::Yv (Ym [] xs))++Kk (Ue 4 (xs.map (Qc (Ym [] xs))))
end Go.Proofs.YtjjdldddcegjiaaGreatDoor
namespace Go.Proofs.YtjjdldddcegjiaaGreatDoor
open Go.RowKit
def Jei:List V→List UInt8
 |[]=>[]
 |v::l=>
  le8 (u64 (Jn v.n (v::l)))++[low (bitLen (Yz (dif v.n (Jn v.n (v::l))) (Uv l (Jn v.n (v::l)))):Nat)]
   ++ Kk (Ue (bitLen (Yz (dif v.n (Jn v.n (v::l))) (Uv l (Jn v.n (v::l))))) (Uv (v::l) (Jn v.n (v::l))))
def Zz (t:Int)(xs:List V):List UInt8:=if t=2 then Kk (Ue 1 (Uv xs 0))else Jei xs
theorem Jkx (xs:List V)(q:Int):∀ n∈Uv xs q,n<18446744073709551616:=by
 intro n hn
 obtain⟨v,_,rfl⟩:=Of0.1 hn
 exact Jp3 _
theorem Jf7 (n:Nat)(h:n<18446744073709551616):bitLen n≤64:=by
 unfold bitLen
 split
 ·omega
 rename_i h0
 have:=(Nat.log2_lt h0).2 (show n<2 ^ 64 from h)
 omega
theorem Jgs (g:Nat)(w:World) :
  Calls Tryz.prog 104 #[.pointer (some ⟨g,0,none⟩)] w fun e w'=>e=.returned (.agg #[.func (.func 133) #[.pointer (some ⟨g,0,none⟩)] #[],.func (.func 134) #[.pointer (some ⟨g,0,none⟩)] #[],.func (.func 135) #[.pointer (some ⟨g,0,none⟩)] #[],.func (.func 136) #[.pointer (some ⟨g,0,none⟩)] #[]])∧Below w.heap.size w w':=by
 have hone:∀ (W:World) (a:Addr) f x c,(store a (.func f x c)).run Tryz.prog W=match W.cell? a with
   | some _ => if W.frozen? a then .halt (.unsupported (.unsafePointer "a write to bytes that a string shares")) W else .ok () (W.setCell a (.func f x c))
   |none=>match W.farStore Tryz.prog a (.func f x c) (Mode.plain==.atomic)with
    |.ok (w',_)=>.ok () w'
    |.error h=>.halt h W:=fun W a f x c=>run_store Tryz.prog W a (.func f x c) .plain rfl
 go_enter Tryz.func104,Tryz.ntmps104
 go_wp2
 exact bodyPost_ret (v:=.agg #[.func (.func 133) #[.pointer (some ⟨g,0,none⟩)] #[],.func (.func 134) #[.pointer (some ⟨g,0,none⟩)] #[],.func (.func 135) #[.pointer (some ⟨g,0,none⟩)] #[],.func (.func 136) #[.pointer (some ⟨g,0,none⟩)] #[]]) (by simp[results,Tryz.results104,go_sem]) rfl ⟨rfl,(Oa5 _ _).alloc (Oa2 _) _⟩
theorem Ja5 (vs:List V):(vs.flatMap V.cells).length=vs.length*3:=by
 induction vs with
 |nil=>rfl
 |cons v vs y=>rw[Og7,Oa8,y];simp[V.cells];omega
theorem Kem {w:World}{b o:Nat}{xs:List V}(h:∀ i v,xs[i]?=some v→VAt w b (o+i*3) v):∀ j u,(xs.flatMap V.cells)[j]?=some u→w.cell? ((⟨b,o,none⟩:Addr).add j)=some u:=by
 intro j u K
 have O:∀ (z:List V) (j:Nat) (u:Value),(z.flatMap V.cells)[j]?=some u→∃ i v,z[i]?=some v∧((j=i*3∧u=.int .i64 v.k)∨(j=i*3+1∧u=.int .i64 v.n)∨(j=i*3+2∧u=.string v.s)):=by
  intro z
  induction z with
  |nil=>intro j u h;simp at h
  |cons v z M=>
   intro j u h
   match j,h with
   |0,h=>exact⟨0,v,rfl,by simp[V.cells]at h;simp[h]⟩
   |1,h=>exact⟨0,v,rfl,by simp[V.cells]at h;simp[h]⟩
   |2,h=>exact⟨0,v,rfl,by simp[V.cells]at h;simp[h]⟩
   |j+3,h=>
    obtain⟨i,R,hi,A⟩:=M j u (by simpa [V.cells] using h)
    refine⟨i+1,R,by simpa using hi,?_⟩
    rcases A with⟨e,y⟩|⟨e,y⟩|⟨e,y⟩
    ·exact .inl ⟨by omega,y⟩
    ·exact .inr (.inl ⟨by omega,y⟩)
    exact .inr (.inr ⟨by omega,y⟩)
 obtain⟨i,v,hi,A⟩:=O xs j u K
 obtain⟨C,D,E⟩:=h i v hi
 have H:(⟨b,o,none⟩:Addr).add j=⟨b,o+j,none⟩:=by unfold Addr.add;split<;>simp_all
 rw[H]
 rcases A with⟨e,y⟩|⟨e,y⟩|⟨e,y⟩
 ·rw[e,y];exact C
 ·rw[e,y,←On5];exact D
 rw[e,y,←On5];exact E
theorem Kap (vs:List V):∀ u∈vs.flatMap V.cells,u.oneCell'=true:=by
 intro u z
 obtain⟨v,_,y⟩:=Op5.1 z
 simp[V.cells]at y
 rcases y with rfl|rfl|rfl<;>rfl
def Kv (w:World)(g:Nat)(vs:List V)(z:List Value):Prop:=∃ y:Array Value,w.heap[g]?=some (.cells y 49 (0,0))∧y.toList=vs.flatMap V.cells++z
theorem Kv.of_block {w w':World}{g:Nat}{vs:List V}{y:List Value}(h:Kv w g vs y)(e:w'.heap[g]?=w.heap[g]?):Kv w' g vs y:=by
 obtain⟨z,C,A⟩:=h
 exact⟨z,by rw[e];exact C,A⟩
theorem Kv.lt {w:World}{g:Nat}{vs:List V}{A:List Value}(h:Kv w g vs A):g<w.heap.size:=by
 obtain⟨C,z,_⟩:=h
 rcases Oc1 g w.heap.size with y|y
 ·exact y
 simp[Og9 y]at z
theorem Kv.cell {w:World}{g:Nat}{vs:List V}{z:List Value}(h:Kv w g vs z){j:Nat}{x:Value}(D:z[j]?=some x):w.cell? ⟨g,vs.length*3+j,none⟩=some x∧w.frozen? ⟨g,vs.length*3+j,none⟩=false:=by
 obtain⟨A,y,C⟩:=h
 have:A[vs.length*3+j]?=some x:=by
  rw[←Oe6,C,Ob6 (by rw[Ja5];omega),Ja5]
  have e:vs.length*3+j-vs.length*3=j:=by omega
  rw[e];exact D
 exact⟨by simp[World.cell?,y,this],by simp[World.frozen?,y]⟩
theorem Kv.vals {w:World}{g:Nat}{vs:List V}{bc:List Value}(h:Kv w g vs bc):Jv w (some ⟨g,0,none⟩) vs:=by
 have K:=h.lt
 obtain⟨z,H,C⟩:=h
 have M:w.ownsRow 0 49 3 (.slice (some ⟨g,0,none⟩) vs.length z.size) vs.length (vs.flatMap V.cells)→True:=fun _=>trivial
 clear M
 refine .inr ⟨g,0,rfl,K,fun i v hi=>?_⟩
 have Z:∀ (y:List V) (i:Nat) (v:V),y[i]?=some v→(y.flatMap V.cells)[i*3]?=some (.int .i64 v.k)∧(y.flatMap V.cells)[i*3+1]?=some (.int .i64 v.n)∧(y.flatMap V.cells)[i*3+2]?=some (.string v.s):=by
  intro y
  induction y with
  |nil=>intro i v h;simp at h
  |cons u y O=>
   intro i v h
   cases i with
   |zero=>simp at h;subst h;simp[V.cells]
   |succ i=>
    have:=O i v (by simpa using h)
    have D:(i+1)*3=i*3+3:=by omega
    simp only[Og7,V.cells,D]
    simpa using this
 obtain⟨R,U,X⟩:=Z vs i v hi
 have bf:i<vs.length:=by
  rcases Oc1 i vs.length with A|A
  ·exact A
  rw[Ob4 A]at hi;simp at hi
 have g1:z[i*3]?=some (.int .i64 v.k):=by rw[←Oe6,C,Ob0 (by rw[Ja5];omega)];exact R
 have g2:z[i*3+1]?=some (.int .i64 v.n):=by rw[←Oe6,C,Ob0 (by rw[Ja5];omega)];exact U
 have E:z[i*3+2]?=some (.string v.s):=by rw[←Oe6,C,Ob0 (by rw[Ja5];omega)];exact X
 unfold VAt
 simp only[World.cell?,H,Od0]
 simp[g1,g2,E]
theorem Jtz (z:Array Value)(y A:List Value)(x C:Value)(n:Nat)(h:z.toList=y++x::A)(hn:y.length=n):(z.setIfInBounds n C).toList=(y++[C])++A:=by
 rw[Ok0,h,Ok4 _ _ (by omega),hn,Oe1]
 simp
theorem Kv.set3 {w:World}{g:Nat}{vs:List V}{M O R:Value}{z:List Value}(h:Kv w g vs (M::O::R::z))(v:V)(n:Nat)(hn:n=vs.length) :
  Kv (((w.setCell ⟨g,n*3,none⟩ (.int .i64 v.k)).setCell ⟨g,n*3+1,none⟩ (.int .i64 v.n)).setCell ⟨g,n*3+2,none⟩ (.string v.s)) g (vs++[v]) z:=by
 subst hn
 obtain⟨A,K,H⟩:=h
 have y:=Ja5 vs
 have C:=Jtz A _ _ _ (.int .i64 v.k) _ H y
 have D:=Jtz _ _ _ _ (.int .i64 v.n) (vs.length*3+1) C (by simp[y])
 have E:=Jtz _ _ _ _ (.string v.s) (vs.length*3+2) D (by simp[y])
 refine⟨_,?_,E.trans ?_⟩
 ·simp[World.setCell,Oi3,K]
 simp[V.cells]
end Go.Proofs.YtjjdldddcegjiaaGreatDoor
namespace Go.Proofs.YtjjdldddcegjiaaGreatDoor
open Go.RowKit
end Go.Proofs.YtjjdldddcegjiaaGreatDoor
namespace Go.Proofs.YtjjdldddcegjiaaGreatDoor
open Go.RowKit
theorem Ut {w w1 A:World}{r:Option Nat}(h:w.grownBy w1 r)(k:w1.grownBy A r):w.grownBy A r:=
 ⟨k.os.trans h.os,k.tape.trans h.tape,k.output.trans h.output,Ob2 h.size k.size,fun j y z=>(k.block j (Oc2 y h.size) z).trans (h.block j y z)⟩
theorem Qq {w w':World}{r:Option Nat}(h:Below w.heap.size w w'):w.grownBy w' r:=⟨h.os,h.tape,h.output,h.size,fun j y _=>h.block j y⟩
theorem Ka4 {w w':World}{g:Nat}(h:w.grownBy w' (some g))(o:Nat)(v:Value):w.grownBy (w'.setCell ⟨g,o,none⟩ v) (some g):=
 ⟨h.os,h.tape,h.output,by simpa [World.setCell] using h.size,fun j z y=>(Oa4 _ _ _ _ (fun e=>y (by rw[e]))).trans (h.block j z y)⟩
theorem Kv.at3 {w:World}{g:Nat}{y:List V}(h:Kv w g y [])(v:V)(k:Nat)(C:k<y.length) :
  ((w.cell? ⟨g,k*3,none⟩=some (.int .i64 y[k].k)∧w.frozen? ⟨g,k*3,none⟩=false)∧(w.cell? ⟨g,k*3+1,none⟩=some (.int .i64 y[k].n)∧w.frozen? ⟨g,k*3+1,none⟩=false)∧(w.cell? ⟨g,k*3+2,none⟩=some (.string y[k].s)∧w.frozen? ⟨g,k*3+2,none⟩=false)) ∧
  Kv (((w.setCell ⟨g,k*3,none⟩ (.int .i64 v.k)).setCell ⟨g,k*3+1,none⟩ (.int .i64 v.n)).setCell ⟨g,k*3+2,none⟩ (.string v.s)) g (y.set k v) []:=by
 obtain⟨E,M,A⟩:=h
 rw[Od7]at A
 have U:y=y.take k++y[k]::y.drop (k+1):=by rw[←Oi1 C,Ok3]
 have D:(y.take k).length=k:=by rw[Oc7];omega
 have z:Kv w g (y.take k) (y[k].cells++(y.drop (k+1)).flatMap V.cells):=by
  refine⟨E,M,?_⟩
  rw[A]
  conv=>lhs;rw[U]
  rw[Oe8,Og7]
 have c0:=z.cell (j:=0) rfl
 have c1:=z.cell (j:=1) rfl
 have c2:=z.cell (j:=2) rfl
 rw[D]at c0 c1 c2
 rw[Nat.add_zero]at c0
 refine⟨⟨c0,c1,c2⟩,?_⟩
 obtain⟨H,O,K⟩:=z.set3 v k D.symm
 refine⟨H,O,?_⟩
 rw[K,Od7]
 have R:y.set k v=y.take k++v::y.drop (k+1):=by
  rw[On0,if_pos C]
 rw[R]
 simp[V.cells]
end Go.Proofs.YtjjdldddcegjiaaGreatDoor
namespace Go.Proofs.YtjjdldddcegjiaaGreatDoor
def Jlv (s:Nat)(b:UInt8):Nat:=((s ^^^ b.toNat)*1099511628211) % 18446744073709551616
def Khr (l:List UInt8):Nat:=l.foldl Jlv 14695981039346656037
def le7 (u:Nat):List UInt8:=(List.range 7).map fun i=>UInt8.ofNat (u / 256 ^ i % 256)
def Jm7 (l:List UInt8):List UInt8:=le7 (Khr l)
def body (y:List UInt8):List UInt8:=y++List.replicate (56-y.length) 0++[UInt8.ofNat y.length]
def Jdm (y:List UInt8):List UInt8:=body y++Jm7 (body y)
def Jd2 (p:List UInt8):Option (List UInt8):=
 if 56<(p.getD 56 0).toNat∨p.drop 57≠Jm7 (p.take 57)then none else some (p.take (p.getD 56 0).toNat)
theorem Jcc {y:List UInt8}(h:y.length≤56):(body y).length=57:=by
 simp[body];omega
theorem Jhq (u:Nat):(le7 u).length=7:=by simp[le7]
theorem Kjo (l:List UInt8):(Jm7 l).length=7:=Jhq _
theorem Jwh {y:List UInt8}(h:y.length≤56):(Jdm y).take 57=body y:=by
 rw[Jdm,List.take_append_of_le_length (by rw[Jcc h];exact Oa2 _),Oc8 (by rw[Jcc h];exact Oa2 _)]
theorem Jwp {y:List UInt8}(h:y.length≤56):(Jdm y).drop 57=Jm7 (body y):=by
 rw[Jdm,List.drop_append,Jcc h]
 simp[Ol8,Jcc h]
theorem Kbq {y:List UInt8}(h:y.length≤56):((Jdm y).getD 56 0).toNat=y.length:=by
 have e:(Jdm y).getD 56 0=UInt8.ofNat y.length:=by
  rw[Jdm,Oa0,Ob0 (by rw[Jcc h];omega),body,Ob6 (by simp;omega)]
  have:56-(y++List.replicate (56-y.length) (0:UInt8)).length=0:=by simp;omega
  rw[this];rfl
 rw[e]
 simp
 omega
theorem Jxe {y:List UInt8}(h:y.length≤56):Jd2 (Jdm y)=some y:=by
 unfold Jd2
 rw[Kbq h,Jwh h,Jwp h,if_neg (by simp;omega)]
 congr 1
 rw[Jdm,body,Od8,Od8,List.take_left]
end Go.Proofs.YtjjdldddcegjiaaGreatDoor
namespace Go.Proofs.YtjjdldddcegjiaaGreatDoor
open Go.RowKit Tryz
def Jdp (w:World)(b:Nat)(p:List UInt8):Prop:=p.length=64∧w.rowIs b 338 64 (fun j=>bv (p.getD j 0))
theorem Jdp.of_block {w w':World}{b:Nat}{p:List UInt8}(h:Jdp w b p)(e:w'.heap[b]?=w.heap[b]?):Jdp w' b p:=⟨h.1,h.2.of_block e⟩
theorem Jdp.below {w w':World}{b:Nat}{p:List UInt8}(h:Jdp w b p)(y:Below w.heap.size w w'):Jdp w' b p:=h.of_block (y.block _ h.2.lt)
theorem Kgb (x y:Nat)(C:x<18446744073709551616)(D:y<18446744073709551616):bits .xor .u64 (x:Int) (y:Int)=((x ^^^ y:Nat):Int):=by
 have H:x ^^^ y<18446744073709551616:=Nat.xor_lt_two_pow (n:=64) C D
 have E:(BitVec.ofInt 64 (x:Int) ^^^ BitVec.ofInt 64 (y:Int)).toNat=x ^^^ y:=by
  rw[BitVec.toNat_xor,Ok6,Ok6]
  have z:((x:Int) % ((2 ^ 64:Nat):Int)).toNat=x:=by omega
  have A:((y:Int) % ((2 ^ 64:Nat):Int)).toNat=y:=by omega
  rw[z,A]
 show IntKind.u64.wrap ((BitVec.ofInt 64 (x:Int) ^^^ BitVec.ofInt 64 (y:Int)).toNat:Nat)=_
 rw[E,Oh5]
 omega
theorem Jze (p:List UInt8)(k:Nat)(y:k<p.length)(s:Nat):(p.take (k+1)).foldl Jlv s=Jlv ((p.take k).foldl Jlv s) (p.getD k 0):=by
 rw[Oc4 y,Ol1,List.foldl_cons,List.foldl_nil]
 congr 1
 simp[y]
theorem Jsn (b:Nat)(p:List UInt8)(w:World)(h:Jdp w b p) :
  Calls prog 182 #[.pointer (some ⟨b,0,none⟩)] w fun e w'=>e=.returned (.string (Qw (Jm7 (p.take 57))))∧Below w.heap.size w w':=by
 go_enter func182,ntmps182
 go_wp2
 go_loopw [3,12] (fun s i wr=>∃ k y:Nat,k≤57∧i=.int .i64 k∧s=.int .u64 y∧y<18446744073709551616∧Hid (y=(p.take k).foldl Jlv 14695981039346656037)∧(∃ m,wr=w.drewN m)) (fun _ i _=>57-(intOf i).toNat)
 case atStart=>exact⟨0,14695981039346656037,by omega,rfl,rfl,by decide,rfl,0,rfl⟩
 case round=>
  rename_i s i
  obtain⟨k,y,Z,rfl,rfl,R,E,m,rfl⟩:=hrel
  by_cases O:k<57
  ·obtain⟨n,hn,D⟩:∃ n:Nat,n<256∧Hid (n=(p.getD k 0).toNat):=⟨_,(p.getD k 0).toNat_lt,rfl⟩
   have X:w.cell? ⟨b,k,none⟩=some (.int .u8 (n:Nat)):=by rw[h.2.cell (i:=k) (by omega),D.out];rfl
   have bh:=Kgb y n R (by omega)
   have bi:y ^^^ n<18446744073709551616:=Nat.xor_lt_two_pow (n:=64) R (by omega)
   have U:Hid (Jlv y (p.getD k 0)=((y ^^^ n)*1099511628211) % 18446744073709551616):=by show Jlv _ _=_;rw[D.out];rfl
   generalize y ^^^ n=x at *
   go_wp2
   go_roundw
   case rel=>
    refine⟨k+1,(x*1099511628211) % 18446744073709551616,by omega,by go_num,?_,by omega,?_,m,rfl⟩
    ·have e:((x*1099511628211 % 18446744073709551616:Nat):Int)=(x:Int)*1099511628211 % 18446744073709551616:=by omega
     rw[Oh5,e]
    exact(U.out.symm.trans (by rw[E.out])).trans (Jze p k (by rw[h.1];omega) _).symm
   case measure=>simp[intOf];omega
  obtain rfl:k=57:=by omega
  go_wp2
  go_loopw [22] (fun i wr=>∃ k:Nat,k≤7∧i=.int .i64 k∧wr.rowIs w.heap.size 387 7 (fun j=>bv (if j<k then (le7 y).getD j 0 else 0))∧Below w.heap.size w wr) (fun i _=>7-(intOf i).toNat)
  case atStart=>
   refine⟨0,by omega,rfl,World.rowIs_alloc _ _ _ _ ?_,(Jp (Oa5 _ w) m).alloc (Oa2 _) _⟩
   intro i hi
   match i,hi with
   |0,_=>rfl
   |1,_=>rfl
   |2,_=>rfl
   |3,_=>rfl
   |4,_=>rfl
   |5,_=>rfl
   |6,_=>rfl
  case round=>
   rename_i i
   obtain⟨k,Z,rfl,A,H⟩:=hrel
   by_cases O:k<7
   ·have X:=A.cell (i:=k) (by omega)
    have hf:=A.frozen k
    go_wp2
    go_roundw
    case rel=>
     refine⟨k+1,by omega,by go_num,(A.set k _).congr fun j z=>?_,H.setCell (p:=⟨w.heap.size,k,none⟩) (Oa2 _) _⟩
     by_cases M:j=k
     ·subst M
      have bc:(2:Int) ^ (8*j)=((256 ^ j:Nat):Int):=by
       have:(256:Nat) ^ j=2 ^ (8*j):=by rw[Nat.pow_mul]
       rw[this]
       simp
      simp[le7,O,bv,bc]
     have:(j<k+1)=(j<k):=by rw[eq_iff_iff];omega
     simp[M,this]
    case measure=>simp[intOf];omega
   obtain rfl:k=7:=by omega
   have bf:(convert 209 9 (.slice (some ⟨w.heap.size,0,none⟩) 7 7)).run prog wr=.ok (.string (Qw (le7 y))) wr:=by
    have:=Jc6 wr ⟨w.heap.size,0,none⟩ 7 (le7 y) (fun j u z=>?_)
    ·rwa [Jhq]at this
    have K:j<7:=by
     rcases Oc1 j 7 with C|C
     ·exact C
     ·rw[Ob4 (by simp[Jhq];exact C)]at z;simp at z
    have:=A.cell (i:=j) K
    rw[Addr.add_mid]
    simp only[Od0]
    rw[this]
    simp[K,Jhq]at z ⊢
    exact z
   go_wp2
   go_ret
   refine⟨?_,H⟩
   show Ending.returned (Value.string (Qw (le7 y)))=_
   rw[show Jm7 (p.take 57)=le7 y by unfold Jm7 Khr;rw[←E.out]]
theorem Kgi (w:World):(Go.sizeOf 5).run prog w=.ok 1 w:=by kernel_rfl
theorem Kju (l:List UInt8):(Qw l).data.toList=l:=by simp[Qw]
theorem Kkt (w:World)(y:Array Value)(z:y=Array.replicate 64 (.int .u8 0)):(w.alloc (.cells y 338)).rowIs w.heap.size 338 64 (fun _=>bv 0):=by
 subst z
 refine World.rowIs_alloc _ _ _ _ fun i hi=>?_
 simp at hi
 rw[Array.getElem?_replicate,if_pos hi]
 rfl
theorem Kkm (y:List UInt8)(z:y.length≤56)(j:Nat)(D:j<64) :
  (if j=56 then Value.int .u8 ((y.length:Nat):Int)else if 0≤j∧j<0+(y.map fun x=>Value.int .u8 (x.toNat:Int)).length then (y.map fun x=>Value.int .u8 (x.toNat:Int))[j-0]?.getD default else bv 0)=bv ((body y++List.replicate 7 0).getD j 0):=by
 by_cases C:j=56
 ·subst C
  have e:(body y++List.replicate 7 0).getD 56 0=UInt8.ofNat y.length:=by
   rw[Oa0,Ob0 (by rw[Jcc z];omega),body,Ob6 (by simp;omega)]
   have:56-(y++List.replicate (56-y.length) (0:UInt8)).length=0:=by simp;omega
   rw[this];rfl
  rw[if_pos rfl,e]
  simp[bv]
  omega
 rw[if_neg C]
 by_cases A:j<y.length
 ·rw[if_pos (by simp;omega)]
  have e:(body y++List.replicate 7 0).getD j 0=y[j]:=by
   rw[Oa0,Ob0 (by rw[Jcc z];omega),body,Od8,Ob0 A]
   simp[A]
  rw[e]
  simp[A,bv]
 rw[if_neg (by simp;omega)]
 have e:(body y++List.replicate 7 0).getD j 0=0:=by
  rw[Oa0]
  rcases Oc1 j 57 with h|h
  ·rw[Ob0 (by rw[Jcc z];omega),body,Ob0 (by simp;omega),Ob6 (by omega),Of3]
   split<;>rfl
  rw[Ob6 (by rw[Jcc z];omega),Of3]
  split<;>rfl
 rw[e]
theorem Kki (bd y:List UInt8)(z:bd.length=57)(hs:y.length=7)(j:Nat)(A:j<64) :
  (if 57≤j∧j<57+(y.map fun x=>Value.int .u8 (x.toNat:Int)).length then (y.map fun x=>Value.int .u8 (x.toNat:Int))[j-57]?.getD default else bv ((bd++List.replicate 7 0).getD j 0))=bv ((bd++y).getD j 0):=by
 by_cases h:57≤j
 ·rw[if_pos (by simp[hs];omega),Oa0,Ob6 (by omega),z]
  simp[show j-57<y.length by omega,bv]
 rw[if_neg (by simp;omega),Oa0,Oa0,Ob0 (by omega),Ob0 (by omega)]
theorem Kkp (y:List UInt8)(A:y.length≤56)(w:World) :
  Calls prog 138 #[.string (Qw y)] w fun e w'=>e=.returned (.pointer (some ⟨w.heap.size,0,none⟩))∧Jdp w' w.heap.size (Jdm y)∧Below w.heap.size w w':=by
 have bD:=Jb2 y
 go_enter func138,ntmps138
 go_upto_region 2 with fail
 generalize M:World.alloc w (Obj.cells _ 338)=C
 have D:C.rowIs w.heap.size 338 64 (fun _=>bv 0):=by rw[←M];exact Kkt w _ rfl
 have X:Below w.heap.size w C:=by rw[←M];exact(Oa5 _ w).alloc (Oa2 _) _
 clear M
 have bx:=run_copy_string (P:=prog) C 209 9 3 5 w.heap.size 0 64 64 (Qw y) underlying209 Kgi (by omega)
  (fun j z=>by rw[Od0,D.cell (by omega)];rfl) (fun j z=>by rw[Od0];exact D.frozen j)
 have E:=rowIs_setCells ((Qw y).data.toList.map fun x=>Value.int .u8 (x.toNat:Int)) 0 _ _ D
 have Z:=below_setCells (Oa2 w.heap.size) ((Qw y).data.toList.map fun x=>Value.int .u8 (x.toNat:Int)) 0 _ X
 generalize C.setCells w.heap.size 0 ((Qw y).data.toList.map fun x=>Value.int .u8 (x.toNat:Int))=bl at *
 have bn:=E.cell (i:=56) (by omega)
 have br:=E.frozen 56
 go_upto_region 4 with fail
 have bi:=E.set 56 (.int .u8 ((y.length:Nat):Int))
 have bc:=Z.setCell (p:=⟨w.heap.size,56,none⟩) (Oa2 _) (.int .u8 ((y.length:Nat):Int))
 generalize bl.setCell ⟨w.heap.size,56,none⟩ (.int .u8 ((y.length:Nat):Int))=U at *
 have bh:Jdp U w.heap.size (body y++List.replicate 7 0):=by
  refine⟨by simp[Jcc A],bi.congr fun j z=>?_⟩
  rw[Kju]
  exact Kkm y A j z
 clear bx E Z bn br bi D X
 have bA:(body y++List.replicate 7 0).take 57=body y:=by
  rw[List.take_append_of_le_length (by rw[Jcc A];exact Oa2 _),Oc8 (by rw[Jcc A];exact Oa2 _)]
 have bj:=Jsn w.heap.size _ U.drew (bh.of_block rfl)
 rw[bA]at bj
 have H:=Kjo (body y)
 have R:Hid (Jdm y=body y++Jm7 (body y)):=rfl
 generalize Jm7 (body y)=K at *
 go_region_with (first|(go_at_call 182;refine bj.mono ?_;rintro e bB ⟨rfl,bf⟩;have O:=(bh.below (Jw bf)).2;have bC:=run_copy_string (P:=prog) bB 209 9 3 5 w.heap.size 57 7 7 (Qw K) underlying209 Kgi (by rw[Jb2,H];omega) (fun j z=>by rw[Jb2,H]at z;rw[O.cell (by omega)];rfl) (fun j z=>O.frozen _)))
 have bz:=rowIs_setCells ((Qw K).data.toList.map fun x=>Value.int .u8 (x.toNat:Int)) 57 _ _ O
 have bu:=below_setCells (Oa2 w.heap.size) ((Qw K).data.toList.map fun x=>Value.int .u8 (x.toNat:Int)) 57 _ (bc.trans ((Jw bf).mono bc.size))
 go_wp2
 go_ret
 refine⟨rfl,⟨by rw[R.out];simp[Jcc A,H],bz.congr fun j z=>?_⟩,bu⟩
 rw[Kju,R.out]
 exact Kki (body y) K (Jcc A) H j z
theorem Jjh (b:Nat)(p:List UInt8)(W:World)(h:Jdp W b p)(lo n c:Nat)(hn:lo+n≤64) :
  (convert 209 9 (.slice (some ⟨b,lo,none⟩) n c)).run prog W=.ok (.string (Qw ((p.drop lo).take n))) W:=by
 have C:((p.drop lo).take n).length=n:=by rw[Oc7,Of7,h.1];omega
 have:=Jc6 W ⟨b,lo,none⟩ c ((p.drop lo).take n) (fun j u y=>?_)
 ·rwa [C]at this
 have A:j<n:=by
  rcases Oc1 j n with z|z
  ·exact z
  ·rw[Ob4 (by simp;omega)]at y;simp at y
 rw[Addr.add_mid,h.2.cell (i:=lo+j) (by omega)]
 rw[Ob1,Oh3 A,Oh9]at y
 rw[Oa0]
 cases hq:p[lo+j]? with
 |none=>rw[hq]at y;simp at y
 |some x=>rw[hq]at y;simpa using y
theorem Jtg:prog.elem 338=5:=by kernel_rfl
theorem Jp0:prog.underlying 338=some (.array (prog.arrayLen 338) (prog.elem 338)):=by kernel_rfl
theorem Jmr:prog.arrayLen 338=64:=by kernel_rfl
theorem Jt5 (b n:Nat)(W:World)(hn:n≤64):(Instr.sliceAt 338 (.pointer (some ⟨b,0,none⟩)) none (some (.int .i64 (n:Int))) none).run prog W=.ok (.slice (some ⟨b,0,none⟩) n 64) W:=by
 have h:=run_sliceAt_array_h (P:=prog) W 338 ⟨b,0,none⟩ Jp0 .i64 (n:Int) (by omega) (by rw[Jmr];omega)
 rw[Jtg,Kgi,Jmr]at h
 rw[h]
 simp[Result.andThen,slicedAt,Addr.add]
theorem Ke1 (b:Nat)(p:List UInt8)(w:World)(h:Jdp w b p) :
  Calls prog 169 #[.pointer (some ⟨b,0,none⟩)] w fun e w'=>e=.returned (.tuple #[.string (Qw ((Jd2 p).getD [])),.bool (Jd2 p).isSome])∧Below w.heap.size w w':=by
 obtain⟨n,hn,Z⟩:∃ n:Nat,n<256∧Hid (n=(p.getD 56 0).toNat):=⟨_,(p.getD 56 0).toNat_lt,rfl⟩
 have bj:w.cell? ⟨b,56,none⟩=some (.int .u8 (n:Nat)):=by rw[h.2.cell (i:=56) (by omega),Z.out];rfl
 have C:Hid (Jd2 p=if 56<n∨p.drop 57≠Jm7 (p.take 57)then none else some (p.take n)):=by show Jd2 p=_;unfold Jd2;rw[Z.out]
 generalize Jd2 p=op at *
 have bi:=Jsn b p w.drew (h.of_block rfl)
 have M:(p.drop 57).take 7=p.drop 57:=Oc8 (by rw[Of7,h.1];omega)
 have bf:=Jjh b p w.drew (h.of_block rfl) 57 7 7 (by omega)
 rw[M]at bf
 by_cases bc:56<n
 ·have:op=none:=by rw[C.out,if_pos (.inl bc)]
  subst this
  have bh:decide ((56:Int)<(n:Int))=true:=by simp;omega
  go_enter func169,ntmps169
  go_wp2_with fail
  go_quiet (fail)
  go_wp2
  go_ret2
  exact⟨rfl,Jp (Oa5 _ _) _⟩
 have X:Hid (∀ W,Jdp W b p→(convert 209 9 (.slice (some ⟨b,57,none⟩) 7 7)).run prog W=.ok (.string (Qw (p.drop 57))) W):=fun W hW=>by
  have:=Jjh b p W hW 57 7 7 (by omega)
  rwa [M]at this
 have U:Hid (∀ W,Jdp W b p→(convert 209 9 (.slice (some ⟨b,0,none⟩) n 64)).run prog W=.ok (.string (Qw (p.take n))) W):=fun W hW=>by
  have:=Jjh b p W hW 0 n 64 (by omega)
  rwa [List.drop_zero]at this
 have K:Hid (∀ W,Jdp W b p→Calls prog 182 #[.pointer (some ⟨b,0,none⟩)] W fun e w'=>e=.returned (.string (Qw (Jm7 (p.take 57))))∧Below W.heap.size W w'):=fun W hW=>Jsn b p W hW
 have bh:decide ((56:Int)<(n:Int))=false:=by simp;omega
 clear bi bf M
 by_cases A:p.drop 57=Jm7 (p.take 57)
 ·have:op=some (p.take n):=by rw[C.out,if_neg (by intro z;rcases z with z|z;exact bc z;exact z A)]
  subst this
  rw[←A]at K
  clear C A
  generalize p.drop 57=R at *
  generalize p.take n=bu at *
  go_enter func169,ntmps169
  go_wp2_with fail
  go_region_held3 (fun y=>Jdp y b p∧(convert 209 9 (.slice (some ⟨b,57,none⟩) 7 7)).run prog y=.ok (.string (Qw R)) y)
   (first|(go_split_ands;refine⟨?_,X.out _ ?_⟩<;>(first|exact h|exact h.of_block rfl|exact H|(have O:Jdp _ b p:=by assumption;exact O.of_block rfl)|assumption)))
   (first|(go_at_call 182;refine(K.out _ (by first|assumption|(go_split_ands;assumption))).mono ?_;rintro e E ⟨rfl,D⟩;have H:Jdp E b p:=Jdp.below (w:=w.drew) (h.of_block rfl) D))
  have bl:=U.out E H
  have br:=Jt5 b n E (by omega)
  go_wp2
  go_ret2
  exact⟨rfl,Jw D⟩
 have:op=none:=by rw[C.out,if_pos (.inr A)]
 subst this
 have bn:((Qw (p.drop 57)).toList==(Qw (Jm7 (p.take 57))).toList)=false:=by
  rw[beq_eq_false_iff_ne]
  exact fun z=>A (Kfv (by rw[←Zf (Qw (p.drop 57)),z,Zf]))
 clear C A U
 generalize p.drop 57=R at *
 generalize Jm7 (p.take 57)=bx at *
 go_enter func169,ntmps169
 go_wp2_with fail
 go_region_held3 (fun y=>Jdp y b p∧(convert 209 9 (.slice (some ⟨b,57,none⟩) 7 7)).run prog y=.ok (.string (Qw R)) y)
  (first|(go_split_ands;refine⟨?_,X.out _ ?_⟩<;>(first|exact h|exact h.of_block rfl|exact H|(have O:Jdp _ b p:=by assumption;exact O.of_block rfl)|assumption)))
  (first|(go_at_call 182;refine(K.out _ (by first|assumption|(go_split_ands;assumption))).mono ?_;rintro e E ⟨rfl,D⟩;have H:Jdp E b p:=Jdp.below (w:=w.drew) (h.of_block rfl) D))
 go_wp2
 go_ret2
 exact⟨rfl,Jw D⟩
theorem Jye:(prog.info? 322).map (·.size)=some 2:=by kernel_rfl
theorem Kfg:liesAt prog prog.depth 322 (2 / prog.cellsOf 322) 0 322 1=true:=by kernel_rfl
theorem Kd2:prog.cellsOf 5=1:=by kernel_rfl
theorem Jrs (b:Nat)(w:World)(h0:w.cell? ⟨b,0,none⟩=some (.pointer (some ⟨b,0,none⟩))) :
  Calls prog 222 #[.pointer (some ⟨b,0,none⟩)] w fun e w'=>e=.returned (.tuple #[])∧w'=w:=by
 obtain⟨j,y,_⟩:=Oe9.1 Jye
 go_enter func222,ntmps222
 go_wp2
 rw[Lib.run_neq_ptr_same w _ underlying320 y]
 go_wp2
 go_end0
 exact⟨rfl,rfl⟩
theorem Jqn (b:Nat)(w:World)(h0:w.cell? ⟨b,0,none⟩=some (.pointer none))(z:w.shape? b=some (322,2))(C:w.frozen? ⟨b,0,none⟩=false) :
  Calls prog 222 #[.pointer (some ⟨b,0,none⟩)] w fun e w'=>e=.returned (.tuple #[])∧w'=w.setCell ⟨b,0,none⟩ (.pointer (some ⟨b,0,none⟩)):=by
 obtain⟨j,y,A⟩:=Oe9.1 Jye
 go_enter func222,ntmps222
 go_wp2
 rw[Lib.run_to_unsafe w ⟨b,0,none⟩ underlying320 underlying193 y (by rw[A];decide) z (Nat.zero_lt_succ 1)]
 simp only[Result.andThen]
 rw[Oper.upon_value]
 go_wp2
 rw[run_callFunc_extern func258 (by kernel_rfl) (by kernel_rfl) (by kernel_rfl) (e:=Extern.AbiNoEscape.same) (by kernel_rfl)]
 rw[Lib.run_noEscape]
 simp only[Result.andThen]
 rw[Oper.upon_value]
 go_wp2
 rw[Lib.run_from_unsafe w ⟨b,0,none⟩ underlying193 underlying320 y z Kfg]
 simp only[Result.andThen]
 rw[Oper.upon_value]
 go_wp2
 go_end0
 exact⟨rfl,rfl⟩
def Jkw (w:World)(B b:Nat)(l:List UInt8):Prop:=Lib.IsBuilder 322 5 B b (l.map bv) w
theorem Kic {w:World}{B b:Nat}{l:List UInt8}(h:Jkw w B b l):∃ p,Lib.BuilderAt 322 5 B b p (l.map bv) w:=by
 rcases h with h|h
 ·exact⟨_,h⟩
 exact⟨_,h⟩
theorem Juu (B b:Nat)(l:List UInt8)(w:World)(h:Jkw w B b l) :
  Calls prog 222 #[.pointer (some ⟨b,0,none⟩)] w fun e w'=>e=.returned (.tuple #[])∧Lib.BuilderAt 322 5 B b (.pointer (some ⟨b,0,none⟩)) (l.map bv) w'∧Below B w w':=by
 rcases h with h|h
 ·refine(Jqn b w h.cell0 h.shape h.frozen0).mono ?_
  rintro e w' ⟨rfl,rfl⟩
  exact⟨rfl,h.used _,(Oa5 B w).setCell (p:=⟨b,0,none⟩) h.1 _⟩
 refine(Jrs b w h.cell0).mono ?_
 rintro e w' ⟨rfl,rfl⟩
 exact⟨rfl,h,Oa5 B _⟩
theorem Juz (l:List UInt8):Lib.strCells (Qw l)=l.map bv:=by
 unfold Lib.strCells Qw
 rfl
theorem Jv2 (B b:Nat)(l t:List UInt8)(w:World)(h:Jkw w B b l)(bA:l.length+t.length≤100000000)(bz:B≤w.heap.size) :
  Calls prog 170 #[.pointer (some ⟨b,0,none⟩),.string (Qw t)] w fun e w'=>e=.returned (.tuple #[.int .i64 (Qw t).size,.nilIface])∧Jkw w' B b (l++t)∧Below B w w':=by
 obtain⟨bl,hi,bh,bi,bj⟩:=info_parts Jfa
 have bf:=Jb2 t
 go_enter func170,ntmps170
 go_wp2_with (go_at_call 222;refine(Juu B b l _ h).mono ?_)
 rintro e w1 ⟨rfl,X,z⟩
 obtain⟨y,v,C,D,O⟩:=X
 have c1:w1.cell? ⟨b,1,none⟩=some v:=by rw[Lib.cell_of_heap C];rfl
 have bc:=Lib.BuilderAt.lt (T:=322) (e:=5) (B:=B) (p:=.pointer (some ⟨b,0,none⟩)) (bs:=l.map bv) ⟨y,v,C,D,O⟩
 go_wp2_with (at_builtin;refine Lib.wpList_append_own_string _ rfl _ _ 209 9 rfl B 5 bl underlying209 underlying9 hi bh bi bj _ _ _ rfl D (Qw t) rfl ?c3 ?c4 ?c5 ?_)
 case c3=>unfold maxLen;simp;omega
 case c4=>simp;omega
 case c5=>have:=z.size;omega
 intro bn H R M _
 have A:H.heap[b]?=some (.cells #[.pointer (some ⟨b,0,none⟩),v] 322 (0,0)):=by
  rw[M.block b bc (fun e=>O e.symm)]
  exact C
 have bx:H.frozen? ⟨b,1,none⟩=false:=Lib.frozen_of_heap A 1
 have bu:H.cell? ⟨b,1,none⟩=some v:=by rw[Lib.cell_of_heap A];rfl
 obtain⟨K,U,cap,rfl⟩:∃ K U cap,bn=.slice K U cap:=by
  rcases R.2 with⟨E,_⟩|⟨g,cap,br,E,_⟩
  ·exact⟨_,_,_,E⟩
  exact⟨_,_,_,E⟩
 go_wp2
 go_ret2
 refine⟨rfl,.inr ?_,?_⟩
 ·rw[Ob8,←Juz t]
  exact Lib.BuilderAt.put (T:=322) (e:=5) y A (by simpa [Lib.strCells_length,bf] using R) (by decide)
 exact(z.grown M (by have:=z.size;omega) (fun k Z=>(D.lt k Z).1)).setCell (p:=⟨b,1,none⟩) y _
theorem Jsp (B b:Nat)(l:List UInt8)(w:World)(h:Jkw w B b l)(h0:l≠[]) :
  Calls prog 171 #[.pointer (some ⟨b,0,none⟩)] w fun e w'=>e=.returned (.string (Qw l))∧Below B w w':=by
 obtain⟨p,U,v,C,z,bh⟩:=Kic h
 have K:l.length≠0:=by simpa using h0
 rw[Oa6]at z
 obtain⟨g,cap,y,rfl,A,E,bf,D,bc,bi⟩:∃ g cap y,v=.slice (some ⟨g,0,none⟩) l.length cap∧B≤g∧w.heap[g]?=some (.cells y 5 (0,0))∧l.length≤cap∧cap≤maxLen∧y.size=cap*1∧y.toList.take (l.length*1)=l.map bv:=by
  rcases z.2 with⟨_,R⟩|⟨g,cap,y,M,r⟩
  ·exact absurd R K
  exact⟨g,cap,y,M,r⟩
 have c1:w.drew.cell? ⟨b,1,none⟩=some (.slice (some ⟨g,0,none⟩) l.length cap):=by
  have:w.drew.heap[b]?=some (.cells #[p,.slice (some ⟨g,0,none⟩) l.length cap] 322 (0,0)):=C
  rw[Lib.cell_of_heap this];rfl
 have X:(Builtin.unsafeSliceData_ #[209] 219 #[.slice (some ⟨g,0,none⟩) l.length cap]).run prog w.drew=.ok (.pointer (some ⟨g,0,none⟩)) w.drew:=
  Lib.run_unsafeSliceData_row _ _ _ _ _ _ (by omega)
 have Z:(Builtin.unsafeString_ #[219,3] 9 #[.pointer (some ⟨g,0,none⟩),.int .i64 l.length]).run prog w.drew=.ok (.string ⟨l.toArray⟩) (w.drew.freeze ⟨g,0,none⟩ l.length):=by
  refine Lib.run_unsafeString_row w.drew 219 3 9 5 underlying219 Kd2 g y.size (by have H:w.drew.heap[g]?=some (.cells y 5 (0,0)):=E;simp[World.shape?,H]) l h0 (by omega) (by unfold maxLen at D;omega) ?_
  intro j x O
  exact z.cells (g:=g) rfl j (.int .u8 x.toNat) (by simp[O,bv])
 go_enter func171,ntmps171
 go_wp2
 go_region
 all_goals (go_wp2;go_ret;exact⟨rfl,Lib.below_freeze (Below.drew (Oa5 B w)) (p:=⟨g,0,none⟩) A _⟩)
theorem Jkw.new (w:World)(B:Nat)(y:B≤w.heap.size):Jkw (w.alloc (.cells #[.pointer none,.slice none 0 0] 322)) B w.heap.size []:=
 .inl ⟨y,.slice none 0 0,heap_alloc_new _ _,⟨rfl,.inl ⟨rfl,rfl⟩⟩,by simp[Value.ownBlock]⟩
theorem Jkw.lt {w:World}{B b:Nat}{l:List UInt8}(h:Jkw w B b l):B≤b∧b<w.heap.size:=by
 obtain⟨p,h⟩:=Kic h
 exact⟨h.1,h.lt⟩
theorem Jkw.below {w w':World}{B b:Nat}{l:List UInt8}(h:Jkw w B b l)(z:Below w.heap.size w w'):Jkw w' B b l:=by
 have E:∀ p,Lib.BuilderAt 322 5 B b p (l.map bv) w→Lib.BuilderAt 322 5 B b p (l.map bv) w':=by
  rintro p ⟨y,v,A,D,C⟩
  exact⟨y,v,by rw[z.block b (Lib.BuilderAt.lt (T:=322) (e:=5) (B:=B) (p:=p) (bs:=l.map bv) ⟨y,v,A,D,C⟩)];exact A,Jaw D z,C⟩
 exact h.imp (E _) (E _)
def Jel (name:ByteArray)(y:List Int)(rs:List (List V)):Prop:=
 (1≤name.size∧name.size≤20)∧((1≤y.length∧y.length≤6)∧∀ j (z:j<y.length),Jnd y[j]=true)∧rs.length≤200∧∀ i (hi:i<rs.length),rs[i].length=y.length∧∀ j (z:j<rs[i].length),okB (y.getD j 0) rs[i][j].k rs[i][j].n rs[i][j].s=true
open Classical in
theorem Kjj (name:ByteArray)(at_ ar:Option Addr)(ct cr:Nat)(ts:List Int)(hs:List (Option Addr×Nat))(rs:List (List V))(w:World)(hnn:name.size≤maxLen)(hn:ts.length≤maxLen)(hr:rs.length≤maxLen)(hrr:∀ r∈rs,r.length≤maxLen)(hx:Kc w at_ ts)(hy:Zd w ar hs rs) :
  Calls prog 54 #[.agg #[.string name,.slice at_ ts.length ct,.slice ar rs.length cr]] w fun e w'=>e=.returned (.bool (decide (Jel name ts rs)))∧Below w.heap.size w w':=by
 have hx0:=hx.below (w':=w.alloc (.cells #[.string name,.slice at_ ts.length ct,.slice ar rs.length cr] 25)) ((Oa5 _ _).alloc (Oa2 _) _)
 obtain⟨bt,hbt⟩:∃ bt:Bool,bt=true↔(1≤ts.length∧ts.length≤6)∧∀ j (hj:j<ts.length),Jnd ts[j]=true:=⟨decide _,decide_eq_true_iff⟩
 have hat:=Kjg at_ ct ts _ hn hx0 bt hbt
 have HT:Hid (bt=true↔(1≤ts.length∧ts.length≤6)∧∀ j (hj:j<ts.length),Jnd ts[j]=true):=hbt
 clear hbt
 unfold maxLen at hnn hn hr
 obtain⟨b,HB⟩:∃ b:Bool,Hid (b=decide (Jel name ts rs)):=⟨_,rfl⟩
 rw[←HB.out]
 have HBI:Hid (b=true↔Jel name ts rs):=by show _↔_;rw[HB.out];exact decide_eq_true_iff
 clear HB hx0
 have hB0:Below w.heap.size w (w.alloc (.cells #[.string name,.slice at_ ts.length ct,.slice ar rs.length cr] 25)):=(Oa5 _ _).alloc (Oa2 _) _
 have no:¬ Jel name ts rs→Hid (b=false):=fun h=>by
  show b=false
  cases hb:b with
  |false=>rfl
  |true=>exact absurd (HBI.out.1 hb) h
 have NO:Hid (¬ Jel name ts rs→Hid (b=false)):=no
 clear no
 by_cases h1:name.size<1
 ·have H0:Hid (b=false):=NO.out fun h=>by have:=h.1;omega
  go_enter func54,ntmps54
  go_wp2_with (go_at_call 69;refine hat.mono ?_;rintro e w' ⟨rfl,hw'⟩;subst w')
  go_ret
  exact⟨Qr H0.out.symm,hB0⟩
 by_cases h2:20<name.size
 ·have H0:Hid (b=false):=NO.out fun h=>by have:=h.1;omega
  go_enter func54,ntmps54
  go_wp2_with (go_at_call 69;refine hat.mono ?_;rintro e w' ⟨rfl,hw'⟩;subst w')
  go_ret
  exact⟨Qr H0.out.symm,hB0⟩
 cases hbt:bt with
 |false=>
  subst hbt
  have H0:Hid (b=false):=NO.out fun h=>by have:=HT.out.2 h.2.1;simp at this
  go_enter func54,ntmps54
  go_wp2_with (go_at_call 69;refine hat.mono ?_;rintro e w' ⟨rfl,hw'⟩;subst w')
  go_ret
  exact⟨Qr H0.out.symm,hB0⟩
 |true=>
  subst hbt
  by_cases h3:200<rs.length
  ·have H0:Hid (b=false):=NO.out fun h=>by have:=h.2.2.1;omega
   go_enter func54,ntmps54
   go_wp2_with (go_at_call 69;refine hat.mono ?_;rintro e w' ⟨rfl,hw'⟩;subst w')
   go_ret
   exact⟨Qr H0.out.symm,hB0⟩
  have HRR:Hid (∀ r∈rs,r.length≤maxLen):=hrr
  clear hrr
  go_enter func54,ntmps54
  go_wp2_with (go_at_call 69;refine hat.mono ?_;rintro e w' ⟨rfl,hw'⟩;subst w')
  go_loopw [30] (fun i wr=>∃ k:Nat,k≤rs.length∧i=.int .i64 k∧Below (w.alloc (.cells #[.string name,.slice at_ ts.length ct,.slice ar rs.length cr] 25)).heap.size (w.alloc (.cells #[.string name,.slice at_ ts.length ct,.slice ar rs.length cr] 25)) wr∧Hid (∀ i (hi:i<rs.length),i<k→rs[i].length=ts.length∧∀ j (hj:j<rs[i].length),okB (ts.getD j 0) rs[i][j].k rs[i][j].n rs[i][j].s=true)) (fun i _=>rs.length-(intOf i).toNat)
  case atStart=>exact⟨0,Ob7 _,rfl,Oa5 _ _,fun j _ hj=>absurd hj (Oe0 _)⟩
  case round=>
   obtain⟨k,hk,rfl,hbw,hall⟩:=hrel
   have hbw0:=Qx hbw
   have c1:wr.cell? ⟨w.heap.size,1,none⟩=some (.slice at_ ts.length ct):=by rw[(Kx hbw).1 w.heap.size 1 (by simp)];simp
   by_cases hlt:k<rs.length
   ·obtain⟨b1,o1,ra,rc,rfl,hb1,x1,hv⟩:=(hy.below hbw0).at hlt
    obtain⟨br,hbr⟩:∃ br:Bool,br=true↔rs[k].length=ts.length∧∀ j (hj:j<rs[k].length),okB (ts.getD j 0) rs[k][j].k rs[k][j].n rs[k][j].s=true:=⟨decide _,decide_eq_true_iff⟩
    have hir:=Kkh ra at_ rc ct rs[k] ts wr (HRR.out _ (Ob3 hlt)) hv (hx.below hbw0) br hbr
    have HR:Hid (br=true↔rs[k].length=ts.length∧∀ j (hj:j<rs[k].length),okB (ts.getD j 0) rs[k][j].k rs[k][j].n rs[k][j].s=true):=hbr
    clear hbr hat
    cases hb:br with
    |false=>
     subst hb
     have H0:Hid (b=false):=NO.out fun h=>by have:=HR.out.2 (h.2.2.2 k hlt);simp at this
     go_wp2_with (go_at_call 70;refine hir.mono ?_;rintro e w' ⟨rfl,hb⟩)
     go_ret
     exact⟨Qr H0.out.symm,Jb hbw0 hb⟩
    |true=>
     subst hb
     go_wp2_with (go_at_call 70;refine hir.mono ?_;rintro e w' ⟨rfl,hb⟩)
     go_roundw
     case rel=>
      refine⟨k+1,by omega,by go_num,Jb hbw hb,fun i hi hik=>?_⟩
      by_cases e:i=k
      ·subst e;exact HR.out.1 (by simp)
      exact hall.out i hi (by omega)
     case measure=>simp[intOf];omega
   go_wp2
   go_ret
   exact⟨Qr (HBI.out.2 ⟨⟨by omega,by omega⟩,HT.out.1 (by simp),by omega,fun i hi=>hall.out i hi (by omega)⟩).symm,hbw0⟩
end Go.Proofs.YtjjdldddcegjiaaGreatDoor
namespace Go.Proofs.YtjjdldddcegjiaaGreatDoor
open Go.RowKit
def Jpf (Q:Exit→Act→World→Prop):Exit→Act→World→Prop
 |.normal,a,w=>Q .normal a w
 |_,_,_=>False
theorem Jpf.imp {Q:Exit→Act→World→Prop}:∀ (e:Exit) (a:Act) (w:World),Jpf Q e a w→Q e a w:=fun e a w h=>by
 cases e<;>first|exact h|exact(h:False).elim
theorem Jpf.shut {Q:Exit→Act→World→Prop}:¬ LetsOut (Jpf Q):=fun ⟨_,_,h⟩=>h
def Ki4 (y:Array Oper):Bool:=y.all fun o=>match o.op with|.defer _=>false|_=>true
theorem Kj3 {y:Array Oper}(h:Ki4 y=true){i:Nat}{o:Oper}(A:y[i]?=some o):∀ c,o.op≠.defer c:=by
 intro c z
 obtain⟨hi,rfl⟩:=Oe2.1 A
 have:=Array.all_eq_true.1 h i hi
 rw[z]at this
 simp at this
theorem Kj9 {P:Program}{l n:Nat}{o:Oper}{a:Act}{z:Act→World→Prop}{Q:Exit→Act→World→Prop}{r:Result Next}(h:o.upon P a z Q r):o.uponIn (Fence.wide.inRound l) n P a z Q r:=by
 cases r with
 |ok C w=>
  cases C<;>simp only[Oper.upon]at h
  case value v=>exact h
  case skip=>exact h
  case defer d=>exact h
  case enter f args=>exact⟨fun y=>absurd y (by simp[Fence.inRound,Fence.wide]),CallsIn.inRound l (callsIn_wide.2 h)⟩
  case row row args=>
   refine⟨fun y=>absurd y (by simp[Fence.inRound,Fence.wide]),fun c cs _=>?_⟩
   obtain⟨v,w',A,hs⟩:=h c cs
   exact⟨v,w',A,stepsIn_wide.2 hs⟩
 |halt x w=>
  cases x<;>simp only[Oper.upon]at h
  case panic v=>exact h
theorem Kj1 {P:Program}{l n:Nat}{y:Array Oper}{Q:Exit→Act→World→Prop}(H:Ki4 y=true)(E:¬ LetsOut Q){i:Nat}{A:Act→World→Prop}{a:Act}{w:World}(h:wpOp P y Q i A a w):wpOpIn (Fence.wide.inRound l) n P y Q i A a w:=by
 unfold wpOp at h
 unfold wpOpIn
 cases ho:y[i]? with
 |none=>rw[ho]at h;exact h
 |some o=>
  rw[ho]at h
  simp only at h ⊢
  split
  ·rename_i z
   rw[if_pos z]at h
   have C:=h.resolve_right fun D=>E D.2
   refine⟨fun _ _=>trivial,?_⟩
   rw[Oper.semAt_plain (Fence.wide.inRound l) _ _ (Kj3 H ho)]
   exact Kj9 C
  rename_i z
  rw[if_neg z]at h
  exact⟨fun _ _=>trivial,h⟩
theorem Ki2 {P:Program}{l n:Nat}{E:Region.Mode}{z:Array Oper}{Q:Exit→Act→World→Prop}(C:Ki4 z=true)(A:¬ LetsOut Q):∀ (y:Nat) (D:Array Bool) (a:Act) (w:World),wpAny P E z Q y D a w→wpAnyIn (Fence.wide.inRound l) n P E z Q y D a w
 |0,_,_,_,h=>h
 |y+1,_,_,_,h=>⟨h.1,fun i hi=>Kj1 C A (wpOp_mono (fun H w' K=>Ki2 C A y _ H w' K) (h.2 i hi))⟩
theorem Kix {P:Program}{l n D:Nat}{y:Array Oper}{Q:Exit→Act→World→Prop}{S:World→Prop}{a:Act}{w:World}(A:P.follows .mixedOrders=true)(C:Ki4 y=true)(z:S w.drew)
  (h:S w.drew→wpAnyH P .any y (Jpf Q) S y.size (Array.replicate y.size false) a w.drew):(Code.region D y true).wpIn (Fence.wide.inRound l) n P Q a w:=
 Code.wpIn_mono Jpf.imp (wpIn_region_any A (Ki2 C Jpf.shut _ _ _ _ (wpAny_of_held _ _ _ _ (h z))))
variable {F:Fence} {n:Nat} {P:Program}
def Kh4 {α:Type}(F:Fence)(n:Nat)(P:Program)(g:Nat)(lb:Array Value)(K:α→Array Value)(E:α→World→Prop)(D:World→World→Prop)(S H:List α→Prop)(N:Nat)(w:World):Prop:=
 ∀ (l:Nat) (J C:List α→World→Prop) (W:World),Below w.heap.size w W→AbidesFrom W.heap.size J→AbidesFrom W.heap.size C →
  (∀ y x A,J y A→E x A→y.length<N→YieldAt F (n-1) P l (K x) A fun e z=>(e=.returned (.bool true)∧J (y++[x]) z∧D A z)∨(e=.returned (.bool false)∧C (y++[x]) z)) →
  J [] W→CallsIn F n P g (#[.func (.yield l) #[] #[]]++lb) W fun e z=>(∃ v,e=.returned v)∧((∃ xs,S xs∧J xs z)∨(∃ y,H y∧C y z))
def Jb8 (B:Nat)(L:Loop)(W:World):Prop:=W.heap[B+1]?=some (.loop L)∧W.heap[B]?=some (.deferred (some []))
theorem Jb8.kept {B:Nat}{L:Loop}{W y:World}{row:Option Nat}(h:Jb8 B L W)(z:W.grownBy y row)(A:∀ r,row=some r→∃ o:Obj,W.heap[r]?=some o∧o.isWalk=true):Jb8 B L y:=
 ⟨(grownBy_keeps z A h.1 rfl).trans h.1,(grownBy_keeps z A h.2 rfl).trans h.2⟩
theorem Jb8.put {B:Nat}{L y:Loop}{W:World}(h:Jb8 B L W):Jb8 B y (W.putObj (B+1) (.loop y)):=
 ⟨World.putObj_heap_same (Oe2.1 h.1).1,(World.putObj_heap_other (by omega)).trans h.2⟩
theorem Jb8.from {B:Nat}{L:Loop}{W y:World}(h:Jb8 B L W)(z:KeepsFrom B W y):Jb8 B L y:=⟨z.same _ _ (by omega) h.1 rfl,z.same _ _ (Oa2 _) h.2 rfl⟩
theorem Jg8 {α:Type}{g:Operand}{ps:Array Tmp}{assign body:Code}{Q:Exit→Act→World→Prop}{a:Act}{w:World}
  (bV:F.round=none) (bG:1≤n) {gf:Nat} {lb:Array Value} (bP:a.eval g=.func (.func gf) #[] lb) (bH:F.fn gf) (bE:∀ args w,(callFunc gf args).run P w=.ok (.enter gf args) w)
  {bf:α→Array Value} {bi:α→World→Prop} {K:World→World→Prop} {S bx:List α→Prop} {N:Nat} {bc:World} (bW:Kh4 F (n-1) P gf lb bf bi K S bx N bc)
  (bA:∀ {E B br:World},K E B→K B br→K E br) (hKb:∀ (W:World) (l:Nat) (o cf:Obj),w.heap.size≤l→W.heap[l]?=some o→o.isCells=false→o.isWalk=false→K W (W.putObj l cf)) (bB:Below bc.heap.size bc w) (bU:∀ x,(bf x).size=ps.size)
  (I:List α→World→Prop) (R:Code→List α→World→Prop) (hI:OwnFrom w.heap.size I) (hIx:∀ c,OwnFrom w.heap.size (R c)) (hR:OwnFrom w.heap.size bi) (h0:I [] w) (a₁:α→Act)
  (bK:∀ (l:Nat) (x:α) (W:World) (bu:Act→World→Prop),bu (a₁ x) W→assign.wpIn (F.inRound l) (n-1-1) P (Exit.then bu (fun _ _ _=>False)) {tmps:=(ps.zip (bf x)).foldl (fun t (p,v)=>t.setIfInBounds p v) a.tmps,defers:=[]} W)
  (bL:∀ (l:Nat) (A:List α) (x:α) (W:World),I A W→bi x W→A.length<N→body.wpIn (F.inRound l) (n-1-1) P (ownPostG w.heap.size K I R (A++[x]) W) (a₁ x) W)
  (bN:∀ (O:Nat) (xs:List α) (W:World),w.heap.size≤O→S xs→I xs W→W.heap[O]?=some (.deferred (some []))→Q .normal {a with defers:={target:=.collected O,args:=#[]}::a.defers} W)
  (bX:∀ (O:Nat) (c:Code) (A:List α) (W:World),w.heap.size≤O→bx A→R c A W→W.heap[O]?=some (.deferred (some []))→c.wpIn F n P Q {a with defers:={target:=.collected O,args:=#[]}::a.defers} W) :
  (Code.rangeFunc g ps assign body).wpIn F n P Q a w:=by
 refine wpIn_rangeFunc fun fn bO=>?_
 rw[bV]
 let z:LoopState→Option Code→Loop:=fun st ch=>{state:=st,pending:=ch,fn,tmps:=a.tmps,params:=ps,assign,body,defers:=w.heap.size}
 let B:=w.heap.size
 let V:=(w.alloc (.deferred (some []))).alloc (.loop (z .ready none))
 have cu:V.heap.size=B+2:=by simp[V,B]
 have bD:Jb8 B (z .ready none) V:=by
  constructor
  ·have:=World.alloc_heap_new (w.alloc (.deferred (some []))) (.loop (z .ready none))
   rw[Oa7]at this
   exact this
  exact(Oa9 _ _ _ (by simp[B])).trans (World.alloc_heap_new w _)
 have cc:I [] V:=hI.alloc _ (hI.alloc _ h0)
 have eV:Below bc.heap.size bc V:=bB.trans ((((Oa5 _ w).alloc (Oa2 _) _).alloc (by simp) _).mono bB.size)
 have walk:∀ {E:World} {row:Option Nat},(∀ r,row=some r→V.heap.size≤r∧∃ o:Obj,E.heap[r]?=some o∧o.isWalk=true)→∀ r,row=some r→B≤r∧∃ o:Obj,E.heap[r]?=some o∧o.isCells=false:=fun D r e=>by
  obtain⟨cn,o,bT,bY⟩:=D r e
  exact⟨by omega,o,bT,Obj.not_cells_of_walk bY⟩
 refine⟨B+1,[{target:=.collected B,args:=#[]}],V,{target:=.fn (.func gf) lb,args:=#[.func (.yield (B+1)) #[] #[]]},V,gf,#[.func (.yield (B+1)) #[] #[]]++lb,V,run_enterLoop_outer _ _ _ _ _,by simp only[resolve,bP];simp[go_sem],fun cl bC=>?_,by simp[invoke,go_sem,bE],fun _=>bG,?_⟩
 ·simp[Target.leads]at bC
  subst bC
  exact bH
 refine(bW (B+1) (fun A W=>I A W∧Jb8 B (z .ready none) W) (fun A W=>∃ c,R c A W∧Jb8 B (z .done (some c)) W) V eV
  (fun s E bh row hs Z D=>⟨hI s E bh row hs.1 Z (walk D),hs.2.kept Z fun r e=>(D r e).2⟩)
  (fun s E bh row hs Z D=>by obtain⟨c,bM,C⟩:=hs;exact⟨c,hIx c s E bh row bM Z (walk D),C.kept Z fun r e=>(D r e).2⟩) ?_ ⟨cc,bD⟩).mono ?_
 ·rintro A x W ⟨hi,C⟩ ca bS
  have cb:=run_yield (P:=P) (args:=bf x) C.1 (bU x)
  refine⟨fn,_,assign,body,cb,roundIn_of_wpIn bO (bK _ x W _ ⟨_,run_beginRound C.1 rfl,?_⟩)⟩
  have bQ:Jb8 B (z .busy none) (W.putObj (B+1) (.loop (z .busy none))):=C.put
  have bZ:K W (W.putObj (B+1) (.loop (z .busy none))):=hKb _ _ _ _ (by omega) C.1 rfl rfl
  refine wpIn_mono (bL _ A x _ (hI.putObj _ hi (by omega) C.1 rfl) (hR.putObj _ ca (by omega) C.1 rfl) bS) ?_
  have bz:∀ (j:Option Code) (y:World),KeepsFrom w.heap.size (W.putObj (B+1) (.loop (z .busy none))) y→(Instr.endRound (B+1) j).run P y=.ok (.bool j.isNone) (y.putObj (B+1) (.loop (z (if j.isNone then .ready else .done) j)))∧Jb8 B (z .busy none) y∧Jb8 B (z (if j.isNone then .ready else .done) j) (y.putObj (B+1) (.loop (z (if j.isNone then .ready else .done) j))):=fun j y X=>
   have M:=bQ.from X
   ⟨run_endRound (P:=P) j M.1,M,M.put⟩
  have bn:∀ (c:Code) (y:World),KeepsFrom w.heap.size (W.putObj (B+1) (.loop (z .busy none))) y→R c (A++[x]) y→∃ v U,(Instr.endRound (B+1) (some c)).run P y=.ok v U∧((Ending.returned v=.returned (.bool true)∧(I (A++[x]) U∧Jb8 B (z .ready none) U)∧K W U)∨(Ending.returned v=.returned (.bool false)∧∃ c,R c (A++[x]) U∧Jb8 B (z .done (some c)) U)):=fun c y X bl=>by
   obtain⟨D,M,bj⟩:=bz (some c) y X
   exact⟨_,_,D,.inr ⟨rfl,c,(hIx _).putObj _ bl (by omega) M.1 rfl,bj⟩⟩
  rintro e ci y H
  cases e with
  |normal=>
   obtain⟨X,bR,bl⟩:=H
   obtain⟨D,M,bj⟩:=bz none y X
   exact⟨_,_,D,.inl ⟨rfl,⟨hI.putObj _ bl (by omega) M.1 rfl,bj⟩,bA (bA bZ bR) (hKb _ _ _ _ (by omega) M.1 rfl rfl)⟩⟩
  |ret=>exact bn _ y H.1 H.2
  |exit cr=>exact bn _ y H.1 H.2
  |goto t=>exact bn _ y H.1 H.2
  |panic cj=>exact H.elim
  |outgrown=>exact H.elim
 rintro e y ⟨⟨v,rfl⟩,(⟨xs,bI,hi,C⟩|⟨A,bJ,c,hi,C⟩)⟩
 ·exact⟨none,_,run_endLoop (P:=P) C.1 (by simp[z]),bN _ xs _ (Oa2 _) bI (hI.putObj _ hi (by omega) C.1 rfl) ((World.putObj_heap_other (by omega)).trans C.2)⟩
 exact⟨some c,_,run_endLoop (P:=P) C.1 (by simp[z]),bX _ c A _ (Oa2 _) bJ ((hIx c).putObj _ hi (by omega) C.1 rfl) ((World.putObj_heap_other (by omega)).trans C.2)⟩
theorem Jpa:∀ (l:List Bool)(i:Nat),l[i]?=some false→(l.set i true).countP (fun b=>!b)+1=l.countP (fun b=>!b)
 |[],i,h=>by simp at h
 |b::l,0,h=>by
  simp at h
  subst h
  simp
 |b::l,i+1,h=>by
  rw[List.getElem?_cons_succ]at h
  rw[List.set_cons_succ,On3,On3]
  have:=Jpa l i h
  omega
def Jgv (z:Region.Mode)(y:Array Oper):Bool:=(List.range y.size).all fun i=>((y[i]?).map fun o=>o.after.all fun e=>!Region.binds z e||decide (e.on<i)).getD true
theorem Jqa {A:Region.Mode}{y:Array Oper}(h:Jgv A y=true){i:Nat}{o:Oper}(z:y[i]?=some o):∀ e∈o.after,Region.binds A e=true→e.on<i:=fun e D C=>by
 unfold Jgv at h
 rw[List.all_eq_true]at h
 have hi:i<y.size:=(Oe2.1 z).1
 have:=h i (Oj4.2 hi)
 rw[z]at this
 simp only[Option.map_some,Option.getD_some]at this
 rw[Array.all_eq_true_iff_forall_mem]at this
 have:=this e D
 simpa [C] using this
theorem Jxi {A:Region.Mode}{y:Array Oper}{z:Array Bool}(M:Jgv A y=true)(hs:z.size=y.size)(O:Region.ready A y z=[]):∀ i,i<y.size→z.getD i true=true:=by
 intro i
 induction i using Nat.strongRecOn with
 |_ i R=>
  intro hi
  cases hb:z.getD i true with
  |true=>rfl
  |false=>
   exfalso
   have C:y[i]?=some y[i]:=Array.getElem?_eq_getElem hi
   have:i∈Region.ready A y z:=mem_ready.2 ⟨hb,_,C,fun e E D=>by
    have K:=Jqa M C e E D
    have:=R e.on K (by omega)
    have H:e.on<z.size:=by omega
    simp[H]at this ⊢
    exact this⟩
   rw[O]at this
   cases this
variable {P:Program} {md:Region.Mode} {ops:Array Oper} {Q:Exit→Act→World→Prop}
theorem Joi {I:Array Bool→Act→World→Prop}(R:Jgv md ops=true)
  (U:∀ y a w i o,I y a w→ops[i]?=some o→y.getD i true=false→y.size=ops.size→(∀ e∈o.after,Region.binds md e=true→y.getD e.on false=true)→∀ A:Act→World→Prop,Shut (∀ C w',I (y.setIfInBounds i true) C w'→A C w')→if Region.wanted o (yielded ops a.tmps)=true then Oper.wp P o a w A Q else A (a.put o.dst undef) w)
  (K:∀ y a w,I y a w→(∀ i,i<ops.size→y.getD i true=true)→y.size=ops.size→Q .normal a w) :
  ∀ E y a w,y.size=ops.size→y.toList.countP (fun b=>!b)≤E→I y a w→wpAny P md ops Q E y a w
 |0,y,a,w,hs,bf,hI=>by
  have O:∀ i,i<ops.size→y.getD i true=true:=fun i hi=>by
   have H:i<y.size:=by omega
   cases hb:y.getD i true with
   |true=>rfl
   |false=>
    exfalso
    simp[H]at hb
    have h0:0<y.toList.countP (fun b=>!b):=List.countP_pos_iff.2 ⟨y[i],by simp,by simp[hb]⟩
    omega
  refine⟨?_,K y a w hI O hs⟩
  cases M:Region.ready md ops y with
  |nil=>rfl
  |cons j rs=>
   have bh:j∈Region.ready md ops y:=by rw[M];exact Of4 ..
   obtain⟨z,o,D,_⟩:=mem_ready.1 bh
   have:=O j (Oe2.1 D).1
   rw[this]at z
   cases z
 |E+1,y,a,w,hs,bf,hI=>by
  refine⟨fun M=>K y a w hI (Jxi R hs M) hs,fun i hi=>?_⟩
  obtain⟨z,o,D,X⟩:=mem_ready.1 hi
  have bj:i<ops.size:=(Oe2.1 D).1
  refine wpOp_step D fun A bc=>U y a w i o hI D z hs X A fun C w' Z=>bc C w' (Joi R U K E _ C w' (by simpa using hs) ?_ Z)
  have H:i<y.size:=by omega
  have bi:y.toList[i]?=some false:=by
   simp[H]at z
   simp[H,z]
  have:=Jpa y.toList i bi
  rw[Ok0]
  omega
theorem Jns {K:Nat}{a:Act}{w:World}(J:Act→World→Array Bool→Act→World→Prop)(D:P.follows .mixedOrders=true)(E:Jgv .any ops=true)
  (h0:J a w (Array.replicate ops.size false) a w.drew)
  (H:∀ y b x i o,J a w y b x→ops[i]?=some o→y.getD i true=false→y.size=ops.size→(∀ e∈o.after,Region.binds .any e=true→y.getD e.on false=true)→∀ z:Act→World→Prop,Shut (∀ A w',J a w (y.setIfInBounds i true) A w'→z A w')→if Region.wanted o (yielded ops b.tmps)=true then Oper.wp P o b x z Q else z (b.put o.dst undef) x)
  (C:∀ y b x,J a w y b x→(∀ i,i<ops.size→y.getD i true=true)→y.size=ops.size→Q .normal b x):(Code.region K ops true).wp P Q a w:=by
 refine wp_region_any D (Joi (I:=J a w) E H C ops.size _ a _ (by simp) ?_ h0)
 refine Ob2 List.countP_le_length ?_
 simp
def Kh (P:Program)(D:Region.Mode)(A:Array Oper)(Q:Exit→Act→World→Prop)(I:Array Bool→Act→World→Prop)(rs:List Nat):Prop:=
 ∀ i∈rs,∀ y a w o,I y a w→A[i]?=some o→y.getD i true=false→y.size=A.size→(∀ e∈o.after,Region.binds D e=true→y.getD e.on false=true)→∀ z:Act→World→Prop,Shut (∀ C w',I (y.setIfInBounds i true) C w'→z C w')→if Region.wanted o (yielded A a.tmps)=true then Oper.wp P o a w z Q else z (a.put o.dst undef) w
theorem Kh.nil {I:Array Bool→Act→World→Prop}:Kh P md ops Q I []:=fun _ h=>by cases h
theorem Kh.cons {I:Array Bool→Act→World→Prop}{i:Nat}{o:Oper}{rs:List Nat}(H:ops[i]?=some o)
  (h:∀ y a w,I y a w→y.getD i true=false→(∀ e∈o.after,Region.binds md e=true→y.getD e.on false=true)→∀ z:Act→World→Prop,Shut (∀ C w',I (y.setIfInBounds i true) C w'→z C w')→if Region.wanted o (yielded ops a.tmps)=true then Oper.wp P o a w z Q else z (a.put o.dst undef) w)
  (hs:Kh P md ops Q I rs):Kh P md ops Q I (i::rs):=fun j A=>by
 rcases Of1.1 A with rfl|A
 ·intro y a w K hI D hn _ E
  rw[H]at D
  cases D
  exact h y a w hI hn E
 exact hs j A
theorem Jkk {M:Nat}{a:Act}{w:World}(J:Act→World→Array Bool→Act→World→Prop)(rs:List Nat)(D:P.follows .mixedOrders=true)(E:Jgv .any ops=true)(H:List.range ops.size=rs)
  (h0:J a w (Array.replicate ops.size false) a w.drew) (K:Kh P .any ops Q (J a w) rs)
  (C:∀ y b x,J a w y b x→(∀ i,i<ops.size→y.getD i true=true)→y.size=ops.size→Q .normal b x):(Code.region M ops true).wp P Q a w:=
 Jns J D E h0 (fun y b x i o hI z hn hs A=>K i (by rw[←H];exact Oj4.2 (Oe2.1 z).1) y b x o hI z hn hs A) C
abbrev dn (l:Array Bool)(k:Nat):Prop:=l.getD k false=true
theorem Ki {l:Array Bool}{i k:Nat}(h:dn (l.setIfInBounds i true) k)(y:k≠i):dn l k:=by
 unfold dn at *
 rw[Oj5]at *
 rwa [Array.getElem?_setIfInBounds_ne (Oc5 y)]at h
theorem Kq {l:Array Bool}{i k:Nat}(h:dn l k):dn (l.setIfInBounds i true) k:=by
 unfold dn at *
 rw[Oj5]at *
 by_cases e:i=k
 ·subst e
  by_cases y:i<l.size
  ·rw[Oo4 y];rfl
  rw[Og9 (by omega)]at h;cases h
 rwa [Array.getElem?_setIfInBounds_ne e]
theorem Yb {l:Array Bool}{i:Nat}(h:l.getD i true=false):¬ dn l i:=fun y=>by
 unfold dn at y
 rw[Oj5]at *
 cases e:l[i]? with
 |none=>rw[e]at h;cases h
 |some b=>rw[e]at h y;simp at h y;rw[h]at y;cases y
theorem Kf6 {n k:Nat}:¬ dn (Array.replicate n false) k:=fun h=>by
 unfold dn at h
 rw[Oj5]at h
 by_cases y:k<n
 ·simp[y]at h
 simp[y]at h
end Go.Proofs.YtjjdldddcegjiaaGreatDoor
