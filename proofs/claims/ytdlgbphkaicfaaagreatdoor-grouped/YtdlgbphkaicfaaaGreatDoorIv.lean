/- Rows in memory; what a table is, and in which ways it can be written: the program's own checks. -/
import Derived.Test.YtdlgbphkaicfaaaGreatDoorKa
import Derived.RangeFuncNested
import Derived.RangeFuncBound
import Derived.RangeFuncCalls
import Derived.RangeFuncLeaves
import Derived.Shelf.Abstract
import Derived.Shelf.RegionOpen
import Derived.WalkKit
import Derived.OwnWalkIn
import Derived.TacticsInMore
import Derived.LoopNIn
import Derived.LoopIn
import Derived.Deep.RegionLaw
import Derived.Deep.AppendLies
import Derived.Deep.DrawnRows
import Derived.Deep.DeepMust
import Derived.Lib.AppendStr
import Derived.Deep.MidRow
import Derived.Deep.RegionHeld3
import Derived.Deep.RegionWith
import Derived.Lib.BufferWrite
import Derived.Lib.LazyBuf
import Derived.Deep.DeepCutAuto
import Derived.Lib.Builder
import Derived.Lib.UnsafeStr
import Derived.OrdersIn
import Derived.RangeFuncBox
set_option maxHeartbeats 2000000
set_option maxRecDepth 100000
namespace Go.Proofs.YtdlgbphkaicfaaaGreatDoor
open Go.RowKit Tryz
def iv (n:Int):Value:=.int .i64 n
abbrev Kc (w:World)(a:Option Addr)(ns:List Int):Prop:=Uh w a (ns.map iv)
theorem Kc.at {w:World}{a:Option Addr}{ns:List Int}(h:Kc w a ns){i:Nat}(hi:i<ns.length):∃ b o,a=some ⟨b,o,none⟩∧b<w.heap.size∧w.cell? ⟨b,o+i,none⟩=some (.int .i64 ns[i]):=by
 obtain⟨b,o,y,A,D⟩:=Uh.at h (i:=i) (by simpa using hi)
 exact⟨b,o,y,A,by rw[D];simp[iv]⟩
def Je1 (h:Option Addr×Nat)(r:List V):Value:=.slice h.1 r.length h.2
structure Zd (w:World) (a:Option Addr) (hs:List (Option Addr×Nat)) (rs:List (List V)):Prop where
 len:hs.length=rs.length
 cells:Uh w a (List.zipWith Je1 hs rs)
 rows:∀ (i:Nat) h r,hs[i]?=some h→rs[i]?=some r→Jv w h.1 r
theorem Zd.below {w w':World}{a:Option Addr}{hs:List (Option Addr×Nat)}{rs:List (List V)}(h:Zd w a hs rs)(y:Below w.heap.size w w'):Zd w' a hs rs:=
 ⟨h.len,h.cells.below y,fun i x r D A=>(h.rows i x r D A).below y⟩
theorem Zd.at {w:World}{a:Option Addr}{hs:List (Option Addr×Nat)}{rs:List (List V)}(h:Zd w a hs rs){i:Nat}(hi:i<rs.length) :
  ∃ b o y K,a=some ⟨b,o,none⟩∧b<w.heap.size∧w.cell? ⟨b,o+i,none⟩=some (.slice y rs[i].length K)∧Jv w y rs[i]:=by
 have H:i<hs.length:=by rw[h.len];exact hi
 obtain⟨b,o,A,D,E⟩:=h.cells.at (i:=i) (by simp;omega)
 exact⟨b,o,hs[i].1,hs[i].2,A,D,by rw[E];simp[Je1],h.rows i hs[i] rs[i] (by simp[H]) (by simp[hi])⟩
def Jnd (t:Int):Bool:=decide (1≤t∧t≤3)
theorem Kjg (a:Option Addr)(cap:Nat)(y:List Int)(w:World)(hn:y.length≤maxLen)(X:Kc w a y)(b:Bool)(O:b=true↔(1≤y.length∧y.length≤6)∧∀ j (A:j<y.length),Jnd y[j]=true) :
  Calls prog 58 #[.slice a y.length cap] w fun e w'=>e=.returned (.bool b)∧w'=w:=by
 unfold maxLen at hn
 have E:Hid (b=true↔(1≤y.length∧y.length≤6)∧∀ j (A:j<y.length),Jnd y[j]=true):=O
 clear O
 by_cases bf:y.length<1
 ·go_enter func58,ntmps58
  go_wp2
  go_ret
  refine⟨Qr ?_,rfl⟩
  cases b
  ·rfl
  have:=(E.out.1 rfl).1;omega
 by_cases bc:6<y.length
 ·go_enter func58,ntmps58
  go_wp2
  go_ret
  refine⟨Qr ?_,rfl⟩
  cases b
  ·rfl
  have:=(E.out.1 rfl).1;omega
 go_enter func58,ntmps58
 go_wp2
 go_loop [15] (fun i=>∃ k:Nat,k≤y.length∧i=.int .i64 k∧Hid (∀ j (A:j<y.length),j<k→Jnd y[j]=true)) (fun i=>y.length-(intOf i).toNat)
 case atStart=>exact⟨0,Ob7 _,rfl,fun j _ A=>absurd A (Oe0 _)⟩
 case round=>
  obtain⟨k,bb,rfl,M⟩:=hrel
  by_cases R:k<y.length
  ·obtain⟨b1,bh,rfl,Z,bi⟩:=X.at R
   have H:=Jlh y[k] w
   cases ho:Jnd y[k]
   ·have K:Hid (Jnd y[k]=false):=ho
    have D:decide (1≤y[k]∧y[k]≤3)=false:=ho
    rw[D]at H
    clear ho D
    go_wp2_with (go_at_call 86;refine H.mono ?_;rintro e w' ⟨rfl,U⟩;subst w')
    go_ret
    refine⟨Qr ?_,rfl⟩
    cases b
    ·rfl
    have:=(E.out.1 rfl).2 k R
    rw[K.out]at this
    exact absurd this (by decide)
   have K:Hid (Jnd y[k]=true):=ho
   have D:decide (1≤y[k]∧y[k]≤3)=true:=ho
   rw[D]at H
   clear ho D
   go_wp2_with (go_at_call 86;refine H.mono ?_;rintro e w' ⟨rfl,U⟩;subst w')
   go_round
   case rel=>
    refine⟨k+1,by omega,by go_num,fun j A ba=>?_⟩
    by_cases e:j=k
    ·subst e;exact K.out
    exact M.out j A (by omega)
   case measure=>simp[intOf];omega
  go_wp2
  go_ret
  exact⟨Qr (E.out.2 ⟨by omega,fun j A=>M.out j A (by omega)⟩).symm,rfl⟩
theorem Kjr (a R:Option Addr)(cap bb:Nat)(hs y:List Int)(w:World)(hn:hs.length≤maxLen)(bh:Kc w a hs)(bi:Kc w R y)(b:Bool)(X:b=true↔hs.length=y.length∧∀ j (A:j<hs.length),way (y.getD j 0) hs[j]=true) :
  Calls prog 44 #[.slice a hs.length cap,.slice R y.length bb] w fun e w'=>e=.returned (.bool b)∧w'=w:=by
 unfold maxLen at hn
 have H:Hid (b=true↔hs.length=y.length∧∀ j (A:j<hs.length),way (y.getD j 0) hs[j]=true):=X
 clear X
 by_cases E:hs.length=y.length
 ·have O:Hid (hs.length=y.length):=E
  have bc:((hs.length:Int) != (y.length:Int))=false:=by simp[E]
  clear E
  go_enter func44,ntmps44
  go_wp2
  go_loop [14] (fun i=>∃ k:Nat,k≤hs.length∧i=.int .i64 k∧Hid (∀ j (A:j<hs.length),j<k→way (y.getD j 0) hs[j]=true)) (fun i=>hs.length-(intOf i).toNat)
  case atStart=>exact⟨0,Ob7 _,rfl,fun j _ A=>absurd A (Oe0 _)⟩
  case round=>
   obtain⟨k,bn,rfl,U⟩:=hrel
   by_cases Z:k<hs.length
   ·have ba:k<y.length:=by have:=O.out;omega
    obtain⟨b1,br,rfl,bj,bx⟩:=bh.at Z
    obtain⟨b2,bu,rfl,bk,bz⟩:=bi.at ba
    have D:=Ja3 y[k] hs[k] w
    have M:Hid (y.getD k 0=y[k]):=by show _=_;simp[ba]
    cases ho:way y[k] hs[k]
    ·have K:Hid (way y[k] hs[k]=false):=ho
     rw[ho]at D
     clear ho
     go_wp2_with (go_at_call 60;refine D.mono ?_;rintro e w' ⟨rfl,bf⟩;subst w')
     go_ret
     refine⟨Qr ?_,rfl⟩
     cases b
     ·rfl
     have:=(H.out.1 rfl).2 k Z
     rw[M.out,K.out]at this
     exact absurd this (by decide)
    have K:Hid (way y[k] hs[k]=true):=ho
    rw[ho]at D
    clear ho
    go_wp2_with (go_at_call 60;refine D.mono ?_;rintro e w' ⟨rfl,bf⟩;subst w')
    go_round
    case rel=>
     refine⟨k+1,by omega,by go_num,fun j A bl=>?_⟩
     by_cases e:j=k
     ·subst e;rw[M.out];exact K.out
     exact U.out j A (by omega)
    case measure=>simp[intOf];omega
   go_wp2
   go_ret
   exact⟨Qr (H.out.2 ⟨O.out,fun j A=>U.out j A (by omega)⟩).symm,rfl⟩
 have bc:((hs.length:Int) != (y.length:Int))=true:=by simp;omega
 go_enter func44,ntmps44
 go_wp2
 go_ret
 refine⟨Qr ?_,rfl⟩
 cases b
 ·rfl
 exact absurd (H.out.1 rfl).1 E
theorem Kkh (a Z:Option Addr)(cap bf:Nat)(vs:List V)(y:List Int)(w:World)(hn:vs.length≤maxLen)(bi:Jv w a vs)(bj:Kc w Z y)(b:Bool)(D:b=true↔vs.length=y.length∧∀ j (A:j<vs.length),okB (y.getD j 0) vs[j].k vs[j].n vs[j].s=true) :
  Calls prog 59 #[.slice a vs.length cap,.slice Z y.length bf] w fun e w'=>e=.returned (.bool b)∧Below w.heap.size w w':=by
 unfold maxLen at hn
 have M:Hid (b=true↔vs.length=y.length∧∀ j (A:j<vs.length),okB (y.getD j 0) vs[j].k vs[j].n vs[j].s=true):=D
 clear D
 by_cases K:vs.length=y.length
 ·have X:Hid (vs.length=y.length):=K
  have bh:((vs.length:Int) != (y.length:Int))=false:=by simp[K]
  clear K
  go_enter func59,ntmps59
  go_wp2
  go_loopw [14] (fun i wr=>∃ k:Nat,k≤vs.length∧i=.int .i64 k∧Below w.heap.size w wr∧Hid (∀ j (A:j<vs.length),j<k→okB (y.getD j 0) vs[j].k vs[j].n vs[j].s=true)) (fun i _=>vs.length-(intOf i).toNat)
  case atStart=>exact⟨0,Ob7 _,rfl,Oa5 _ _,fun j _ A=>absurd A (Oe0 _)⟩
  case round=>
   obtain⟨k,br,rfl,H,ba⟩:=hrel
   by_cases bb:k<vs.length
   ·have bc:k<y.length:=by have:=X.out;omega
    obtain⟨b1,bu,rfl,bk,bz,bA,bB⟩:=(bi.below H).at bb
    obtain⟨b2,bx,rfl,bl,bC⟩:=Kc.at (bj.below H) bc
    have U:Hid (y.getD k 0=y[k]):=by show _=_;simp[bc]
    have E:=fun (W:World)=>Jmd vs[k].k vs[k].n vs[k].s y[k] W
    cases ho:okB y[k] vs[k].k vs[k].n vs[k].s
    ·have R:Hid (okB y[k] vs[k].k vs[k].n vs[k].s=false):=ho
     rw[ho]at E
     have O:Hid (∀ W:World,Calls prog 87 #[.agg #[.int .i64 vs[k].k,.int .i64 vs[k].n,.string vs[k].s],.int .i64 y[k]] W fun e w'=>e=.returned (.bool false)∧Below W.heap.size W w'):=E
     clear E
     clear ho
     go_wp2_with fail
     go_region_with (first|(go_at_call 87;refine(O.out _).mono ?_;rintro e w' ⟨rfl,D⟩))
     all_goals
      go_wp2
      go_ret
      refine⟨Qr ?_,Jb H (Qx (Jw D))⟩
      cases b
      ·rfl
      have:=(M.out.1 rfl).2 k bb
      rw[U.out,R.out]at this
      exact absurd this (by decide)
    have R:Hid (okB y[k] vs[k].k vs[k].n vs[k].s=true):=ho
    rw[ho]at E
    have O:Hid (∀ W:World,Calls prog 87 #[.agg #[.int .i64 vs[k].k,.int .i64 vs[k].n,.string vs[k].s],.int .i64 y[k]] W fun e w'=>e=.returned (.bool true)∧Below W.heap.size W w'):=E
    clear E ho
    go_wp2_with fail
    go_region_with (first|(go_at_call 87;refine(O.out _).mono ?_;rintro e w' ⟨rfl,D⟩))
    all_goals
     go_wp2
     go_roundw
     case rel=>
      refine⟨k+1,by omega,by go_num,Jb H (Qx (Jw D)),fun j A bn=>?_⟩
      by_cases e:j=k
      ·subst e;rw[U.out];exact R.out
      exact ba.out j A (by omega)
     case measure=>simp[intOf];omega
   go_wp2
   go_ret
   exact⟨Qr (M.out.2 ⟨X.out,fun j A=>ba.out j A (by omega)⟩).symm,H⟩
 have bh:((vs.length:Int) != (y.length:Int))=true:=by simp;omega
 go_enter func59,ntmps59
 go_wp2
 go_ret
 refine⟨Qr ?_,Oa5 _ _⟩
 cases b
 ·rfl
 exact absurd (M.out.1 rfl).1 K
end Go.Proofs.YtdlgbphkaicfaaaGreatDoor
namespace Go.Proofs.YtdlgbphkaicfaaaGreatDoor
open Go.RowKit Go.Shelf Tryz
attribute [local go_sem] Oc0
abbrev Ck (len:Nat):Type:={x:Nat×Nat // x.1+x.2≤len∧1≤x.2∧x.2≤64}
def Jaa (len g i:Nat):Nat×Nat:=(i*g,min g (len-i*g))
def cks (len g k:Nat):List (Nat×Nat):=(List.range k).map (Jaa len g)
def ckN (len g:Nat):Nat:=(len+g-1) / g
theorem Jbj (len g k:Nat):cks len g (k+1)=cks len g k++[Jaa len g k]:=by simp[cks,List.range_succ]
theorem Jbp (len g k:Nat):(cks len g k).length=k:=by simp[cks]
theorem Jqs {len g k:Nat}(y:1≤g)(h:k<ckN len g):k*g<len:=by
 unfold ckN at h
 have h1:k+1≤(len+g-1) / g:=h
 rw[Nat.le_div_iff_mul_le (by omega)]at h1
 rw[Of5]at h1
 omega
theorem Khi {len g k:Nat}(y:1≤g)(h:k*g<len):k<ckN len g:=by
 unfold ckN
 have:k+1≤(len+g-1) / g:=by
  rw[Nat.le_div_iff_mul_le (by omega),Of5]
  omega
 exact this
def KpC (A y:Nat)(W W':World):Prop:=W'.heap[A]?=W.heap[A]?∧W'.heap[y]?=W.heap[y]?
theorem Kkd (n:Nat)(hn:1≤n)(l E D b off len cap g:Nat)(X:1≤g)(bE:g≤64)(bH:len≤1000)(bD:len≤cap)(J R:List (Ck len)→World→Prop)
  (bx:∀ A (x:Ck len) W,J A W→A.length<ckN len g→YieldAt Fence.wide (n-1) prog l #[.slice (some ⟨b,off+x.1.1,none⟩) x.1.2 x.1.2] W fun e W'=>
   (e=.returned (.bool true)∧J (A++[x]) W'∧KpC E D W W')∨(e=.returned (.bool false)∧R (A++[x]) W'))
  (br:∀ s W,J s W→J s W.drew) (W:World) (bl:W.cell? ⟨E,0,none⟩=some (.slice (some ⟨b,off,none⟩) len cap)) (bk:W.cell? ⟨D,0,none⟩=some (.int .i64 (g:Int))) (h0:J [] W) :
  CallsIn Fence.wide n prog 88 #[.func (.yield l) #[] #[],.pointer (some ⟨E,0,none⟩),.pointer (some ⟨D,0,none⟩)] W fun e W'=>(∃ v,e=.returned v) ∧
   ((∃ y,y.map Subtype.val=cks len g (ckN len g)∧J y W')∨(∃ A,(∃ k,k≤ckN len g∧A.map Subtype.val=cks len g k)∧R A W')):=by
 refine callsIn_of_wp func88 rfl trivial ?_ rfl
 simp only[ntmps88,Om3,List.length_cons,List.length_nil,Nat.reduceAdd,Nat.reduceSub,Ok9,Array.replicate_zero,Om4,Ol2,List.nil_append,List.cons_append]
 gi_wp2
 gi_loopw [4] (fun i wr=>∃ (k:Nat) (y:List (Ck len)),k≤ckN len g∧i=.int .i64 ((k*g:Nat):Int)∧Hid (y.map Subtype.val=cks len g k)∧J y wr∧KpC E D W wr)
  (fun i _=>len+64-(intOf i).toNat)
 case atStart=>exact⟨0,[],Ob7 _,by simp,rfl,h0,rfl,rfl⟩
 case round=>
  obtain⟨k,y,bG,rfl,H,U,Z,ba⟩:=hrel
  have c1:wr.cell? ⟨E,0,none⟩=some (.slice (some ⟨b,off,none⟩) len cap):=by rw[Oc3 (w:=W) Z];exact bl
  have c2:wr.cell? ⟨D,0,none⟩=some (.int .i64 (g:Int)):=by rw[Oc3 (w:=W) ba];exact bk
  by_cases bf:k*g<len
  ·have bc:=Khi X bf
   have K:Hid (cks len g (k+1)=cks len g k++[(k*g,min g (len-k*g))]):=Jbj len g k
   have bi:Hid ((k+1)*g=k*g+g):=Of5 k g
   have bC:y.length=k:=by have:=congrArg List.length H.out;rw[Oa6,Jbp]at this;exact this
   generalize k*g=i at *
   obtain⟨m,M,O⟩:∃ m:Nat,(i+m≤len∧1≤m∧m≤64)∧Hid (m=min g (len-i)):=⟨min g (len-i),by omega,rfl⟩
   rw[←O.out]at K
   have bL:(if len-i<g then ((len-i:Nat):Int)else (g:Int))=(m:Int):=by have:=O.out;split<;>omega
   obtain⟨fn,tmps,assign,body,bB,hR⟩:=bx y ⟨(i,m),M⟩ wr.drew (br _ _ U) (by omega)
   dsimp only at bB
   clear bC
   have bA:=M
   obtain⟨bI,bJ,bK⟩:=M
   gi_wp2
   gi_region
   gi_wp2
   refine hR.mono ?_
   rintro e bj (⟨rfl,bn,bz,bb⟩|⟨rfl,bu⟩)
   ·have c3:bj.cell? ⟨D,0,none⟩=some (.int .i64 (g:Int)):=by rw[Oc3 (w:=wr.drew) bb];exact c2
    gi_wp2
    go_roundw
    case rel=>exact⟨k+1,y++[⟨(i,m),bA⟩],bc,by rw[bi.out];go_num,by show _=_;rw[Ob8,H.out,K.out];rfl,bn,bz.trans Z,bb.trans ba⟩
    case measure=>simp[intOf];omega
   gi_wp2
   refine bodyPost_ret (results_none rfl _ _ _) rfl ?_
   exact⟨⟨_,rfl⟩,.inr ⟨_,⟨k+1,bc,by rw[Ob8,H.out,K.out];rfl⟩,bu⟩⟩
  have bh:Hid (k=ckN len g):=by
   rcases Oc1 k (ckN len g)with h'|h'
   ·exact absurd (Jqs X h') bf
   ·show k=_;omega
  gi_wp2
  go_end0
  exact⟨⟨_,rfl⟩,.inl ⟨y,by rw[H.out,bh.out],U⟩⟩
end Go.Proofs.YtdlgbphkaicfaaaGreatDoor
namespace Go.Proofs.YtdlgbphkaicfaaaGreatDoor
open Go.RowKit Tryz
end Go.Proofs.YtdlgbphkaicfaaaGreatDoor
namespace Go.Proofs.YtdlgbphkaicfaaaGreatDoor
open Go.RowKit Tryz
def WAt (w:World)(B g:Nat)(t:Int)(bs:List UInt8):Prop:=
 B≤g∧∃ sv,w.heap[g]?=some (.cells #[.int .i64 t,sv] 203 (0,0))∧Jo w B 5 sv (bs.map bv)∧sv.ownBlock≠some g
def Ya (w:World)(g k:Nat):Prop:=k<w.heap.size∧k≠g∧∀ sv,w.cell? ⟨g,1,none⟩=some sv→sv.ownBlock≠some k
structure Ky (w w':World) (g:Nat):Prop where
 os:w'.os=w.os
 tape:w'.tape=w.tape
 output:w'.output=w.output
 size:w.heap.size≤w'.heap.size
 block:∀ k,Ya w g k→w'.heap[k]?=w.heap[k]?∧Ya w' g k
theorem Ky.refl (w:World)(g:Nat):Ky w w g:=⟨rfl,rfl,rfl,Oa2 _,fun _ h=>⟨rfl,h⟩⟩
theorem Ky.trans {a b c:World}{g:Nat}(h:Ky a b g)(k:Ky b c g):Ky a c g:=
 ⟨k.os.trans h.os,k.tape.trans h.tape,k.output.trans h.output,Ob2 h.size k.size,fun i hi=>⟨((k.block i (h.block i hi).2).1).trans (h.block i hi).1,(k.block i (h.block i hi).2).2⟩⟩
theorem Ky.of_below {w w':World}{g:Nat}(y:Below w.heap.size w w')(D:g<w.heap.size):Ky w w' g:=
 ⟨y.os,y.tape,y.output,y.size,fun k A=>⟨y.block k A.1,by have:=y.size;have:=A.1;omega,A.2.1,fun sv hs=>A.2.2 sv (by rw[←hs];exact(Oc3 (w:=w) (y.block g D)).symm)⟩⟩
theorem WAt.lt {w:World}{B g:Nat}{t:Int}{bs:List UInt8}(h:WAt w B g t bs):g<w.heap.size:=by
 obtain⟨_,sv,A,_⟩:=h
 rcases Oc1 g w.heap.size with y|y
 ·exact y
 simp[Array.getElem?_eq_none y]at A
theorem WAt.below {w w':World}{B g:Nat}{t:Int}{bs:List UInt8}(h:WAt w B g t bs)(y:Below w.heap.size w w'):WAt w' B g t bs:=by
 have E:=h.lt
 obtain⟨A,sv,D,H,hn⟩:=h
 exact⟨A,sv,by rw[y.block g E];exact D,H.below y,hn⟩
theorem WAt.cells {w:World}{B g:Nat}{t:Int}{bs:List UInt8}(h:WAt w B g t bs) :
  ∃ sv,w.cell? ⟨g,0,none⟩=some (.int .i64 t)∧w.cell? ⟨g,1,none⟩=some sv∧w.frozen? ⟨g,1,none⟩=false∧Jo w B 5 sv (bs.map bv)∧sv.ownBlock≠some g:=by
 obtain⟨_,sv,y,A,hn⟩:=h
 exact⟨sv,by simp[World.cell?,y],by simp[World.cell?,y],by simp[World.frozen?,y],A,hn⟩
theorem WAt.apart {w:World}{B g:Nat}{t:Int}{bs:List UInt8}(h:WAt w B g t bs){k:Nat}(E:k<B)(y:k<w.heap.size):Ya w g k:=by
 obtain⟨sv,_,h1,_,A,_⟩:=h.cells
 have D:=h.1
 refine⟨y,by omega,fun sv' hs e=>?_⟩
 rw[h1]at hs
 cases hs
 have:=(Je A e).1
 omega
theorem WAt.step {w H w1:World}{B g:Nat}{t:Int}{bs bs':List UInt8}{sv sv':Value}(h:WAt w B g t bs)(h1:w.cell? ⟨g,1,none⟩=some sv)(A:Below w.heap.size w H)
  (D:H.grownBy w1 sv.ownBlock) (bj:Jo w1 B 5 sv' (bs'.map bv)) (Z:sv'.ownBlock=sv.ownBlock∨sv'.ownBlock=some H.heap.size) :
  WAt (w1.setCell ⟨g,1,none⟩ sv') B g t bs'∧Ky w (w1.setCell ⟨g,1,none⟩ sv') g:=by
 have bi:=h.lt
 obtain⟨bb,E,M,bl,hn⟩:=h
 have ba:E=sv:=by simpa [World.cell?,M] using h1
 subst ba
 have br:=A.size
 have bf:H.heap[g]?=some (.cells #[.int .i64 t,E] 203 (0,0)):=by rw[A.block g bi];exact M
 have bc:w1.heap[g]?=some (.cells #[.int .i64 t,E] 203 (0,0)):=by rw[D.block g (by omega) (Oc5 hn)];exact bf
 have R:sv'.ownBlock≠some g:=by
  rcases Z with e|e
  ·rw[e];exact hn
  rw[e];intro K;simp at K;omega
 have X:(w1.setCell ⟨g,1,none⟩ sv').heap[g]?=some (.cells #[.int .i64 t,sv'] 203 (0,0)):=by
  simp[World.setCell,Array.getElem?_modify,bc]
 have U:∀ k,k≠g→(w1.setCell ⟨g,1,none⟩ sv').heap[k]?=w1.heap[k]?:=fun k y=>Oa4 _ _ _ _ y
 have bn:(w1.setCell ⟨g,1,none⟩ sv').heap.size=w1.heap.size:=by simp[World.setCell]
 have bk:=D.size
 refine⟨⟨bb,sv',X,?_,R⟩,⟨D.os.trans A.os,D.tape.trans A.tape,D.output.trans A.output,by omega,?_⟩⟩
 ·exact Jl bj fun k y=>U k fun e=>R (by rw[y,e])
 intro k y
 have O:=y.2.2 E h1
 have bh:=y.1
 refine⟨?_,by omega,y.2.1,fun s hs=>?_⟩
 ·rw[U k y.2.1,D.block k (by omega) (Oc5 O),A.block k bh]
 have:s=sv':=by
  have e:(w1.setCell ⟨g,1,none⟩ sv').cell? ⟨g,1,none⟩=some sv':=by simp[World.cell?,X]
  rw[e]at hs;exact(Oj6 hs).symm
 subst this
 rcases Z with e|e
 ·rw[e];exact O
 rw[e];intro K;simp at K;omega
theorem Zk {w w':World}{g:Nat}{a:Option Addr}{vs:List V}(h:Jv w a vs)(y:Ky w w' g)(A:∀ b o,a=some ⟨b,o,none⟩→Ya w g b):Jv w' a vs:=
 h.of_block y.size fun b o D _=>(y.block b (A b o D)).1
theorem Jde {w w':World}{g:Nat}{a:Option Addr}(D:Ky w w' g)(y:∀ b o,a=some ⟨b,o,none⟩→Ya w g b):∀ b o,a=some ⟨b,o,none⟩→Ya w' g b:=
 fun b o A=>(D.block b (y b o A)).2
theorem Jc2 {w w':World}{B g:Nat}{t:Int}{bs:List UInt8}(h:WAt w B g t bs)(y:Below w.heap.size w w'){k:Nat}(H:w.heap.size≤k)(A:k<w'.heap.size):Ya w' g k:=by
 have D:=h.lt
 obtain⟨sv,_,h1,_,E,_⟩:=h.cells
 refine⟨A,by omega,fun s hs e=>?_⟩
 have:w'.cell? ⟨g,1,none⟩=some sv:=by rw[Oc3 (w:=w) (y.block g D)];exact h1
 rw[this]at hs
 cases hs
 have:=(Je E e).2
 omega
theorem Ua (w:World)(v:Value)(e:TypeId):∀ (j:Nat) (u:Value),[v][j]?=some u→(w.alloc (.cells #[v] e)).cell? ((⟨w.heap.size,0,none⟩:Addr).add j)=some u:=by
 intro j u y
 cases j with
 |zero=>simp at y;subst y;simp[Addr.add]
 |succ j=>simp at y
theorem Jnf (w:World)(o:Obj)(b i:Nat)(h:b<w.heap.size):(w.alloc o).cell? ⟨b,i,none⟩=w.cell? ⟨b,i,none⟩:=
 Oc3 (Oa9 w o b h)
theorem Jh9 (w:World)(o:Obj)(b i:Nat)(h:b<w.heap.size):(w.alloc o).frozen? ⟨b,i,none⟩=w.frozen? ⟨b,i,none⟩:=
 Ol7 (Oa9 w o b h)
theorem Kgh (n:Int):Value.int .u8 (n % 256)=bv (low n):=by
 unfold bv low
 congr 1
 simp
 omega
end Go.Proofs.YtdlgbphkaicfaaaGreatDoor
namespace Go.Proofs.YtdlgbphkaicfaaaGreatDoor
open Go.RowKit Tryz
theorem Zq (B g:Nat)(t n:Int)(bs:List UInt8)(w:World)(h:WAt w B g t bs)(D:bs.length≤100000) :
  Calls prog 120 #[.pointer (some ⟨g,0,none⟩),.int .i64 n] w fun e w'=>e=.returned (.tuple #[])∧WAt w' B g t (bs++[low n])∧Ky w w' g:=by
 have O:=h.lt
 have M:=h.1
 obtain⟨sv,c0,c1,c2,E,hn⟩:=h.cells
 have R:(bs.map bv).length≤100000:=by simpa using D
 go_enter func120,ntmps120
 go_wp2_with (at_builtin;go_must (refine Ks (by rfl) _ _ 201 5 _ 1 Jfa (by rfl) (by decide) (by kernel_rfl) (by rfl) B sv _ (by rfl) (E.alloc _) ⟨w.heap.size,0,none⟩ 1 [.int .u8 (n % 256)] (by rfl) (by exact Ua _ _ _) (by intro u y;simp at y;subst y;rfl) (by simp only[List.length_cons,List.length_nil];omega) (by simp;omega) ?_);intro sv' w1 h1 h2 A;obtain⟨H,K,rfl,_⟩:=h1.cells;have U:=h2.cell_far ⟨g,1,none⟩ (by simp;omega) (Oc5 hn);have X:=h2.frozen_far ⟨g,1,none⟩ (by simp;omega) (Oc5 hn))
 go_end0
 rw[Kgh]at h1
 have:=h.step (bs':=bs++[low n]) c1 ((Oa5 _ _).alloc (Oa2 _) _) h2 (by simpa using h1) A
 simp only[Oa8,Oa6,List.length_cons,List.length_nil]at this
 exact⟨rfl,this⟩
theorem Jka (B g:Nat)(t n:Int)(bs:List UInt8)(w:World)(h:WAt w B g t bs)(bA:bs.length≤100000) :
  Calls prog 170 #[.pointer (some ⟨g,0,none⟩),.int .i64 n] w fun e w'=>e=.returned (.tuple #[])∧WAt w' B g t (bs++le8 (u64 n))∧Ky w w' g:=by
 have O:IntKind.u64.wrap n=(u64 n:Int):=by rw[Oh5];unfold u64;omega
 have bE:=Jp3 n
 generalize u64 n=y at *
 go_enter func170,ntmps170
 go_wp2
 go_loopw [5] (fun i wr=>∃ k:Nat,k≤8∧i=.int .i64 k∧WAt wr B g t (bs++(List.range k).map fun i=>UInt8.ofNat (y / 256 ^ i % 256))∧Ky w wr g) (fun i _=>8-(intOf i).toNat)
 case atStart=>exact⟨0,by omega,rfl,by simpa using h,Ky.refl _ _⟩
 case round=>
  obtain⟨k,bz,rfl,D,U⟩:=hrel
  by_cases bC:k<8
  ·have R:=D.lt
   have bx:=D.1
   obtain⟨sv,c0,c1,c2,bk,hn⟩:=D.cells
   generalize E:bs++((List.range k).map fun i=>UInt8.ofNat (y / 256 ^ i % 256))=A at *
   have bB:(A.map bv).length≤100010:=by rw[←E];simp;omega
   have Z:Hid _:=E
   clear E
   obtain⟨c,bh⟩:∃ c:Nat,c=8*k:=⟨_,rfl⟩
   have bG:IntKind.i64.wrap (8*(k:Int))=(c:Int):=by rw[Od4];omega
   obtain⟨q,K⟩:∃ q:Nat,q=y / 256 ^ k % 256:=⟨_,rfl⟩
   have bH:IntKind.u8.wrap ((y:Int) / 2 ^ min c 64)=(q:Int):=by
    have e:min c 64=8*k:=by omega
    have bb:((2:Int) ^ (8*k))=((256 ^ k:Nat):Int):=by
     rw[Int.natCast_pow,Int.pow_mul];rfl
    rw[e,K,bb,IntKind.wrap_u8]
    omega
   have ba:Hid (Value.int .u8 (q:Int)=bv (UInt8.ofNat (y / 256 ^ k % 256))):=by
    show Value.int .u8 (q:Int)=_
    rw[K];unfold bv;congr 1;simp
   clear bh K
   obtain⟨bu,bi,bl,bn,br⟩:=info_parts Jfa
   go_wp2_with fail
   go_region_law
    ((refine step_append_lies _ (by rfl) _ _ _ (by rfl) B 5 bu _ 1 1 (by kernel_rfl) bi bl bn br rfl (by omega) sv (A.map bv).length (A.map bv) (by rfl) ((World.ownsRow.drew (bk.alloc _)))
       ⟨wr.heap.size,0,none⟩ 1 1 [.int .u8 (q:Int)] (by rfl) (by rfl) (by exact Ua wr _ 5) (by intro u O;simp at O;subst O;rfl)
       (by omega) (by unfold maxLen;omega) (by omega) (by simp;omega) (wr.heap.size+1) (by simp) ?_;intro bc cap w1 X H bf bD;have bI:w1.cell? ⟨g,1,none⟩=some sv:=(by rw[H.cell_far _ (by simp;omega) (Oc5 hn)];exact(Jnf wr _ g 1 R).trans c1);have bJ:w1.frozen? ⟨g,1,none⟩=false:=(by rw[H.frozen_far _ (by simp;omega) (Oc5 hn)];exact(Jh9 wr _ g 1 R).trans c2)))
   all_goals
    go_wp2
    go_roundw
    case rel=>
     rw[ba.out]at X
     have M:=D.step (bs':=A++[UInt8.ofNat (y / 256 ^ k % 256)]) (sv':=.slice (some ⟨bc,0,none⟩) ((List.map bv A).length+1) cap) c1 (((Oa5 _ _).alloc (Oa2 _) _).drew) H (by simpa [Jo] using X)
      (by
        rcases bf with e|e
        ·exact .inl e.symm
        right;simp[Value.ownBlock,e])
     simp only[Oa6]at M
     refine⟨k+1,by omega,by go_num,?_,U.trans M.2⟩
     rw[Oj7,Ob8,←Od8,Z.out]
     exact M.1
    case measure=>simp[intOf];omega
  have bj:k=8:=by omega
  subst bj
  go_wp2
  go_end0
  exact⟨rfl,D,U⟩
end Go.Proofs.YtdlgbphkaicfaaaGreatDoor
namespace Go.Proofs.YtdlgbphkaicfaaaGreatDoor
open Go.RowKit Tryz
theorem Jo.form {w:World}{B:Nat}{e:TypeId}{sv:Value}{xs:List Value}(h:Jo w B e sv xs):∃ a ln c,sv=.slice a ln c:=by
 obtain⟨a,c,y,_⟩:=h.cells
 exact⟨a,_,c,y⟩
theorem Jsr (s:ByteArray):Lib.strCells s=s.toList.map bv:=by
 rw[Og4];rfl
theorem Jlc (w:World)(B:Nat)(ty:TypeId)(sv:Value)(bs:List UInt8)(A:Jo w B 5 sv (bs.map bv))(Z:bs≠[])(s:ByteArray)(bi:bs.length+s.size≤1000000)(R:B≤w.heap.size) :
  ∃ sv' w',(Builtin.append_ #[201,9] ty #[sv,.string s]).run prog w=.ok sv' w'∧Jo w' B 5 sv' ((bs++s.toList).map bv)∧w.grownBy w' sv.ownBlock∧(sv'.ownBlock=sv.ownBlock∨sv'.ownBlock=some w.heap.size):=by
 obtain⟨i,hi,K,E,H⟩:=info_parts Jfa
 have X:(bs.map bv).length=bs.length:=by simp
 obtain⟨bb,w',D,h2,O,_⟩:=Lib.run_append_own_string (P:=prog) w B 201 9 ty 5 i (by kernel_rfl) (by kernel_rfl) hi K E H sv _ _ A s (by unfold maxLen;omega) (by omega) R
 refine⟨bb,w',D,?_,O,?_⟩
 ·unfold Jo
  rw[Ob8,←Jsr,Oa8,Lib.strCells_length]
  exact h2
 rcases A.2 with⟨_,h0⟩|⟨g,cap,M,rfl,bc,U,bj,bf,bh,bk⟩
 ·rw[X]at h0;exact absurd (Od3.1 h0) Z
 by_cases ba:(bs.map bv).length+s.size≤cap
 ·have y:=Lib.run_append_room_string (P:=prog) w 201 9 ty 5 i (by kernel_rfl) (by kernel_rfl) hi E g (bs.map bv).length cap M U s ba (by omega)
  rw[D]at y
  injection y with e1 _
  subst e1
  exact .inl rfl
 have y:=Lib.run_append_grow_string (P:=prog) w 201 9 ty 5 i _ (by kernel_rfl) (by kernel_rfl) hi K ⟨g,0,none⟩ (bs.map bv).length cap (bs.map bv) (by rw[E,Nat.mul_one]) (World.ownsRow.cells A (g:=g) rfl) s (by omega) (by omega) (by rw[H];exact growslice_fits (by omega) (by omega))
 rw[D]at y
 injection y with e1 _
 subst e1
 exact .inr rfl
theorem Jks {A:Array Oper}{o:Oper}{a:Act}{w:World}{y:Act→World→Prop}{Q:Exit→Act→World→Prop}{D:Prop}(M:o.guard=none)(sl x:Operand)
  (U:o.op=.call {callee:=.builtin .append,args:=#[sl,x],argTypes:=#[201,9]})
  (B:Nat) (sv:Value) (bs:List UInt8) (hs:a.eval sl=sv) (X:Jo w B 5 sv (bs.map bv)) (R:bs≠[]) (s:ByteArray) (bb:a.eval x=.string s) (O:bs.length+s.size≤1000000) (K:B≤w.heap.size)
  (h:∀ sv' w',Jo w' B 5 sv' ((bs++s.toList).map bv)→w.grownBy w' sv.ownBlock→(sv'.ownBlock=sv.ownBlock∨sv'.ownBlock=some w.heap.size)→y (a.put o.dst sv') w') :
  if Region.wanted o (yielded A a.tmps)=true then Oper.wp prog o a w y Q else D:=by
 have ba:Region.wanted o (yielded A a.tmps)=true:=by simp[Region.wanted,M]
 rw[if_pos ba]
 obtain⟨bc,w',Z,h2,E,H⟩:=Jlc w B o.type sv bs X R s O K
 unfold Oper.wp execOp
 simp only[U,resolve,invoke,builtin,Og8,Sem.run_pure,Result.andThen_ok,List.map_toArray,Oe4,Oi4,hs,bb,Z]
 exact h bc w' h2 E H
end Go.Proofs.YtdlgbphkaicfaaaGreatDoor
namespace Go.Proofs.YtdlgbphkaicfaaaGreatDoor
open Go.RowKit Tryz
theorem Khe (Y n b y:Nat)(H:Y<256)(hn:n<18446744073709551616) :
  bits BinOp.or IntKind.u8 (Y:Int) (bits BinOp.and IntKind.u64 ((n:Int) / 2 ^ b) 1 % 256*2 ^ (y % 8) % 256)=((Y ||| ((if n.testBit b then 1 else 0) <<< (y % 8)):Nat):Int):=by
 have A:((n:Int) / 2 ^ b)=((n / 2 ^ b:Nat):Int):=by simp
 have M:n / 2 ^ b<18446744073709551616:=Nat.lt_of_le_of_lt (Oo6 _ _) hn
 have D:bits BinOp.and IntKind.u64 ((n / 2 ^ b:Nat):Int) 1=((n / 2 ^ b % 2:Nat):Int):=by
  have:=u64_and_nat (n / 2 ^ b) 1 M (by decide)
  rw[Nat.and_one_is_mod]at this
  exact this
 have E:n.testBit b=decide (n / 2 ^ b % 2=1):=On1
 rw[A,D,E]
 have O:n / 2 ^ b % 2<2:=Ol0 _ (by decide)
 have K:y % 8<8:=Ol0 _ (by decide)
 generalize n / 2 ^ b % 2=m at *
 generalize y % 8=c at *
 have R:∀ (m:Fin 2) (c:Fin 8),((m.val:Int) % (256:Int)*(2:Int) ^ c.val % (256:Int))=(((if decide (m.val=1)=true then 1 else 0) <<< c.val:Nat):Int)∧((if decide (m.val=1)=true then 1 else 0) <<< c.val:Nat)<256:=by decide
 have k:=R ⟨m,O⟩ ⟨c,K⟩
 simp only at k
 rw[k.1]
 exact u8_or_nat Y _ H k.2
theorem Jd4 (B g:Nat)(t:Int)(bs:List UInt8)(y:Nat)(a:Option Addr)(cap:Nat)(ns:List Nat)(w:World)(h:WAt w B g t bs)(cf:bs.length≤50000)(cx:y≤64)(hn:ns.length≤64)(cu:∀ n∈ns,n<18446744073709551616)(cy:Uh w a (ns.map uv))(cB:∀ b o,a=some ⟨b,o,none⟩→Ya w g b) :
  Calls prog 121 #[.pointer (some ⟨g,0,none⟩),.int .i64 y,.slice a ns.length cap] w fun e w'=>e=.returned (.tuple #[])∧WAt w' B g t (bs++Kk (Ue y ns))∧Ky w w' g:=by
 have cG:y*ns.length≤64*64:=Ol5 cx hn
 obtain⟨W,hW⟩:∃ W:Nat,W=y*ns.length:=⟨_,rfl⟩
 have bX:(y:Int)*(ns.length:Int)=(W:Int):=by rw[hW];simp
 obtain⟨D,bH⟩:∃ D:Nat,D=(W+7) / 8:=⟨_,rfl⟩
 have cj:((W:Int)+7) / 8=(D:Int):=by omega
 have bx:=Jal y ns
 generalize hL:Ue y ns=L at *
 have ci:∀ W,(Instr.makeSlice 201 (.int .i64 (D:Int)) (.int .i64 (D:Int))).run prog W=.ok (.slice (some ⟨W.heap.size,0,none⟩) D D) (W.alloc (.cells (madeCells #[.int .u8 0] D) 5)):=
  fun W=>run_make_row' 201 5 (.int .u8 0) 1 (by kernel_rfl) Jfa rfl .i64 .i64 D (by omega) (by omega) W
 have O:Hid (L.length=W):=by show _=_;rw[bx,hW]
 have bN:Hid (Ue y ns=L):=hL
 have bk:Hid (W=y*ns.length):=hW
 have X:Hid (D=(W+7) / 8):=bH
 have cA:W≤4096:=by omega
 have cF:D≤600:=by omega
 clear hL bx hW bH
 go_enter func121,ntmps121
 go_wp2_with (go_at_call 163;refine(Jif _ _ (by omega) (by omega)).mono ?_;rintro e w' ⟨rfl,cH⟩;subst w')
 clear ci bX cj
 go_loopw [7,19] (fun Z i wr=>∃ k:Nat,k≤ns.length∧i=.int .i64 k∧Z=.int .i64 ((y*k:Nat):Int)∧wr.rowIs w.heap.size 5 D (fun j=>.int .u8 (Jag (L.take (y*k)) j:Nat))∧Below w.heap.size w wr) (fun _ i _=>ns.length-(intOf i).toNat)
 case atStart=>
  refine⟨0,by omega,rfl,rfl,(Ol3 _ _ _ _).congr fun j _=>?_,(Oa5 _ _).alloc (Oa2 _) _⟩
  simp[Jvq]
 case round=>
  obtain⟨k,cC,rfl,rfl,E,H⟩:=hrel
  by_cases R:k<ns.length
  ·obtain⟨b1,cK,rfl,bY,bf⟩:=(cy.below H).at (i:=k) (by simpa using R)
   rw[Od9]at bf
   unfold uv at bf
   have bM:Hid (∀ b,b<y→L[y*k+b]?=some (ns[k].testBit b)):=by
    intro b bA
    rw[←bN.out];exact Jms y ns k b R bA
   have bJ:ns[k]<18446744073709551616:=cu _ (Ob3 R)
   have bO:Hid (ns[k]<18446744073709551616):=bJ
   clear bJ
   generalize ns[k]=n at *
   have cD:y*k+y≤W:=by
    rw[bk.out,←Nat.mul_succ];exact Nat.mul_le_mul_left _ R
   generalize br:y*k=K at *
   have bi:Hid (y*k=K):=br
   clear br
   go_wp2
   go_loopw [7,24] (fun Z i bL=>∃ b:Nat,b≤y∧i=.int .i64 b∧Z=.int .i64 ((K+b:Nat):Int)∧bL.rowIs w.heap.size 5 D (fun j=>.int .u8 (Jag (L.take (K+b)) j:Nat))∧Below w.heap.size w bL) (fun _ i _=>y-(intOf i).toNat)
   case atStart=>exact⟨0,by omega,rfl,rfl,E,H⟩
   case round=>
    clear E H bf bY
    obtain⟨b,bA,rfl,rfl,E,H⟩:=hrel
    by_cases ch:b<y
    ·have bB:=bM.out b ch
     generalize bn:K+b=A at *
     have bV:A<W:=by omega
     have bh:Hid (K+b=A):=bn
     clear bn
     have cr:A / 8<D:=by rw[X.out];omega
     have c1:=E.cell cr
     have c2:=E.frozen (A / 8)
     have bC:=Ji4 (L.take A) (A / 8)
     have bK:∀ j,Jag (L.take (A+1)) j=if j=A / 8 then Jag (L.take A) j ||| ((if n.testBit b then 1 else 0) <<< (A % 8))else Jag (L.take A) j:=by
      intro j
      have bu:A<L.length:=by rw[O.out];exact bV
      have bZ:L[A]=n.testBit b:=by rw[Oa3 bu]at bB;exact Oj6 bB
      rw[Jss L A j bu,bZ]
     have bP:Hid _:=bK
     clear bK
     generalize bz:Jag (L.take A) (A / 8)=Y at c1 bC
     have bQ:Hid (Jag (L.take A) (A / 8)=Y):=bz
     clear bz
     go_wp2
     go_region
     go_wp2
     go_roundw
     case rel=>
      refine⟨b+1,by omega,by go_num,?_,(E.set (A / 8) _).congr fun j M=>?_,(H.setCell (p:=⟨w.heap.size,A / 8,none⟩) (Oa2 _) _).drew⟩
      ·have:=bh.out
       rw[←this];go_num
      rw[←On5,bh.out,bP.out j]
      by_cases e:j=A / 8
      ·rw[if_pos e,if_pos e,Khe Y n b A bC bO.out,e,bQ.out]
      rw[if_neg e,if_neg e]
     case measure=>simp[intOf];omega
    have ca:b=y:=by omega
    subst ca
    go_wp2
    go_roundw
    case rel=>
     refine⟨k+1,by omega,by go_num,?_,?_,H⟩
     ·have:=bi.out
      rw[Nat.mul_succ,this]
     rw[Nat.mul_succ,bi.out];exact E
    case measure=>simp[intOf];omega
  have cc:k=ns.length:=by omega
  subst cc
  have bD:L.take (y*ns.length)=L:=Oc8 (by rw[O.out,bk.out];exact Oa2 _)
  rw[bD]at E
  clear bD
  have U:=h.below H
  have bE:=U.lt
  have cz:=U.1
  obtain⟨sv,c0,c1,c2,cn,bI⟩:=U.cells
  have cE:(bs.map bv).length≤50000:=by simpa using cf
  have bb:((Kk L).map bv).length=D:=by rw[Oa6,Qb,O.out,←X.out]
  have bj:Hid (((Kk L).map bv).length=D):=bb
  have cl:∀ j u,((Kk L).map bv)[j]?=some u→wr.cell? ((⟨w.heap.size,0,none⟩:Addr).add j)=some u:=by
   intro j u M
   have bG:j<D:=by
    rw[←bb]
    rcases Oc1 j ((Kk L).map bv).length with ba|ba
    ·exact ba
    rw[Ob4 ba]at M;simp at M
   rw[Addr.add_mid,Od0,E.cell bG]
   have cb:j<(L.length+7) / 8:=by rw[O.out,←X.out];exact bG
   simp[Kk,cb,bv]at M
   rw[←M]
   have:=Ji4 L j
   congr 2
   omega
  clear bb
  have bT:∀ u∈(Kk L).map bv,u.oneCell'=true:=by
   intro u cv
   obtain⟨x,_,rfl⟩:=Of0.1 cv
   rfl
  generalize bW:(Kk L).map bv=bl at *
  go_wp2_with (at_builtin;go_must (refine Ks (by rfl) _ _ 201 5 _ 1 Jfa (by rfl) (by decide) (by kernel_rfl) (by rfl) B sv _ (by rfl) cn ⟨w.heap.size,0,none⟩ D bl (by rw[bj.out];rfl) cl bT (by rw[bj.out];omega) (by omega) ?_);intro sv' w1 h1 h2 bU;obtain⟨bR,bS,rfl,_⟩:=h1.cells;have cI:=h2.cell_far ⟨g,1,none⟩ bE (Oc5 bI);have cJ:=h2.frozen_far ⟨g,1,none⟩ bE (Oc5 bI))
  go_end0
  have bc:=U.step (bs':=bs++Kk L) (sv':=.slice bR (List.map bv bs++bl).length bS) c1 (Oa5 _ _) h2 (by rw[Ob8,bW];exact h1) bU
  simp only[Oa8,Oa6]at bc
  exact⟨rfl,bc.1,(Ky.of_below H h.lt).trans bc.2⟩
end Go.Proofs.YtdlgbphkaicfaaaGreatDoor
namespace Go.Proofs.YtdlgbphkaicfaaaGreatDoor
open Go.RowKit Tryz
def enc (k n:Int)(s:ByteArray):List UInt8:=
 if k=1 then le8 (u64 n)else if k=2 then [low n]else if k=3 then low s.size::s.toList else []
def good (k:Int)(s:ByteArray):Prop:=k=1∨k=2∨(k=3∧s.size≤40)
theorem Kc5 (k n:Int)(s:ByteArray)(h:good k s):(enc k n s).length≤41:=by
 rcases h with h|h|⟨h,hs⟩
 ·unfold enc;rw[if_pos h,Jc4];omega
 ·unfold enc;rw[if_neg (by omega),if_pos h];simp
 unfold enc;rw[if_neg (by omega),if_neg (by omega),if_pos h,Og4,List.length_cons,Array.length_toList];exact Nat.succ_le_succ hs
theorem Jwu (B g:Nat)(t n:Int)(s:ByteArray)(bs:List UInt8)(w:World)(h:WAt w B g t bs)(E:bs.length≤50000) :
  Calls prog 164 #[.pointer (some ⟨g,0,none⟩),.agg #[.int .i64 1,.int .i64 n,.string s]] w fun e w'=>e=.returned (.tuple #[])∧WAt w' B g t (bs++le8 (u64 n))∧Ky w w' g:=by
 have y:=h.lt
 go_enter func164,ntmps164
 go_wp2_with (go_at_call 170;refine(Jka B g t _ bs _ (h.below ((Oa5 _ _).alloc (Oa2 _) _)) (by omega)).mono ?_;rintro e w' ⟨rfl,D,A⟩)
 go_end0
 exact⟨rfl,D,(Ky.of_below ((Oa5 _ _).alloc (Oa2 _) _) y).trans A⟩
theorem Jrq (B g:Nat)(t n:Int)(s:ByteArray)(bs:List UInt8)(w:World)(h:WAt w B g t bs)(E:bs.length≤50000) :
  Calls prog 164 #[.pointer (some ⟨g,0,none⟩),.agg #[.int .i64 2,.int .i64 n,.string s]] w fun e w'=>e=.returned (.tuple #[])∧WAt w' B g t (bs++[low n])∧Ky w w' g:=by
 have y:=h.lt
 go_enter func164,ntmps164
 go_wp2_with (go_at_call 120;refine(Zq B g t _ bs _ (h.below ((Oa5 _ _).alloc (Oa2 _) _)) (by omega)).mono ?_;rintro e w' ⟨rfl,D,A⟩)
 go_end0
 exact⟨rfl,D,(Ky.of_below ((Oa5 _ _).alloc (Oa2 _) _) y).trans A⟩
theorem Jsb (B g:Nat)(t n:Int)(s:ByteArray)(bs:List UInt8)(w:World)(h:WAt w B g t bs)(bb:bs.length≤50000)(hs:s.size≤40) :
  Calls prog 164 #[.pointer (some ⟨g,0,none⟩),.agg #[.int .i64 3,.int .i64 n,.string s]] w fun e w'=>e=.returned (.tuple #[])∧WAt w' B g t (bs++low s.size::s.toList)∧Ky w w' g:=by
 have U:=h.lt
 have h2:=h.below ((Oa5 _ _).alloc (Oa2 _) (.cells #[.int .i64 3,.int .i64 n,.string s] 63))
 have O:Ya (w.alloc (.cells #[.int .i64 3,.int .i64 n,.string s] 63)) g w.heap.size:=Jc2 h ((Oa5 _ _).alloc (Oa2 _) _) (Oa2 _) (by simp)
 go_enter func164,ntmps164
 go_wp2_with (go_at_call 120;refine(Zq B g t _ bs _ h2 (by omega)).mono ?_;rintro e w' ⟨rfl,y,D⟩)
 have A:=y.lt
 have Z:=y.1
 obtain⟨sv,c0,c1,c2,X,hn⟩:=y.cells
 obtain⟨R,ba⟩:=D.block _ O
 have c3:w'.cell? ⟨w.heap.size,2,none⟩=some (.string s):=by rw[Oc3 (w:=w.alloc _) R];simp
 have bc:w.heap.size≠g:=by omega
 go_region_law
  ((
   refine Jks (by rfl) _ _ (by rfl) B sv (bs++[low s.size]) (by rfl) (by exact X) (by simp) s (by rfl) (by simp;omega) (by simp;omega) ?_
   intro sv' w1 h1 h2 M
   obtain⟨H,ln,K,rfl⟩:=h1.form
   have bf:w1.cell? ⟨g,1,none⟩=some sv:=(by rw[h2.cell_far _ (by simpa using A) (Oc5 hn)];exact c1)
   have bh:w1.frozen? ⟨g,1,none⟩=false:=(by rw[h2.frozen_far _ (by simpa using A) (Oc5 hn)];exact c2)))
 all_goals
  go_wp2
  go_end0
  have E:=y.step (bs':=bs++low s.size::s.toList) (sv':=.slice H ln K) c1 ((Oa5 _ _).drew) h2 (by simpa using h1) M
  exact⟨rfl,E.1,((Ky.of_below ((Oa5 _ _).alloc (Oa2 _) _) U).trans D).trans E.2⟩
theorem Jl0 (B g:Nat)(t:Int)(v:V)(bs:List UInt8)(w:World)(h:WAt w B g t bs)(A:bs.length≤50000)(D:good v.k v.s) :
  Calls prog 164 #[.pointer (some ⟨g,0,none⟩),v.val] w fun e w'=>e=.returned (.tuple #[])∧WAt w' B g t (bs++enc v.k v.n v.s)∧Ky w w' g:=by
 obtain⟨k,n,s⟩:=v
 rcases D with y|y|⟨y,hs⟩
 ·simp only at y
  subst y
  exact Jwu B g t n s bs w h A
 ·simp only at y
  subst y
  exact Jrq B g t n s bs w h A
 simp only at y hs
 subst y
 exact Jsb B g t n s bs w h A hs
def Yv (vs:List V):List UInt8:=vs.flatMap fun v=>enc v.k v.n v.s
theorem Jgg (vs:List V)(h:∀ v∈vs,good v.k v.s):(Yv vs).length≤41*vs.length:=by
 induction vs with
 |nil=>simp[Yv]
 |cons v vs A=>
  have h1:=Kc5 v.k v.n v.s (h v (Of4))
  have h2:=A fun u y=>h u (Og1 _ y)
  unfold Yv at *
  rw[Og7,Oa8,List.length_cons]
  omega
theorem Jjz (vs:List V)(v:V):Yv (vs++[v])=Yv vs++enc v.k v.n v.s:=by simp[Yv]
theorem Jk4 (B g:Nat)(t:Int)(a:Option Addr)(cap:Nat)(xs:List V)(bs:List UInt8)(w:World)(h:WAt w B g t bs)(br:bs.length≤10000)(hn:xs.length≤64)(K:∀ v∈xs,good v.k v.s)(bj:Jv w a xs)(Z:∀ b o,a=some ⟨b,o,none⟩→Ya w g b) :
  Calls prog 122 #[.pointer (some ⟨g,0,none⟩),.slice a xs.length cap] w fun e w'=>e=.returned (.tuple #[])∧WAt w' B g t (bs++Yv xs)∧Ky w w' g:=by
 go_enter func122,ntmps122
 go_wp2
 go_loopw [8] (fun i wr=>∃ k:Nat,k≤xs.length∧i=.int .i64 k∧WAt wr B g t (bs++Yv (xs.take k))∧Ky w wr g) (fun i _=>xs.length-(intOf i).toNat)
 case atStart=>exact⟨0,by omega,rfl,by simpa [Yv] using h,Ky.refl _ _⟩
 case round=>
  obtain⟨k,bn,rfl,y,A⟩:=hrel
  by_cases D:k<xs.length
  ·have bk:=Zk bj A Z
   obtain⟨b1,bu,rfl,bl,bx,bz,bA⟩:=bk.at D
   have E:=Jjz (xs.take k) xs[k]
   rw[←Oc4 D]at E
   have bb:=Jgg (xs.take k) fun v bh=>K v (Om9 bh)
   have bc:(xs.take k).length≤k:=List.length_take_le _ _
   have M:=K _ (Ob3 D)
   have U:Hid _:=E
   have R:Hid (good xs[k].k xs[k].s):=M
   have bf:(bs++Yv (xs.take k)).length≤50000:=by rw[Oa8];omega
   clear E M bb bc
   generalize H:bs++Yv (xs.take k)=X at *
   have O:Hid _:=H
   clear H
   go_wp2_with (go_at_call 164;refine(Jl0 B g t xs[k] X _ (y.below ((Oa5 _ _).alloc (Oa2 _) _)) bf R.out).mono ?_;rintro e w' ⟨rfl,bi,ba⟩)
   go_roundw
   case rel=>
    refine⟨k+1,by omega,by go_num,?_,(A.trans (Ky.of_below ((Oa5 _ _).alloc (Oa2 _) _) y.lt)).trans ba⟩
    rw[U.out,←Od8,O.out];exact bi
   case measure=>simp[intOf];omega
  go_wp2
  go_end0
  have e:xs.take k=xs:=Oc8 (by omega)
  rw[e]at y
  exact⟨rfl,y,A⟩
end Go.Proofs.YtdlgbphkaicfaaaGreatDoor
namespace Go.Proofs.YtdlgbphkaicfaaaGreatDoor
open Go.RowKit
def Qt (v:V):Nat:=if v.k=0 then 0 else 1
theorem Jv6 (ns:List Nat)(h:∀ n∈ns,n≤1):Ue 1 ns=ns.map fun n=>n==1:=by
 induction ns with
 |nil=>rfl
 |cons n ns A=>
  have e:Ue 1 (n::ns)=[n.testBit 0]++Ue 1 ns:=by simp[Ue,List.range_succ]
  rw[e,A fun m y=>h m (Og1 _ y)]
  have hn:=h n Of4
  have:n.testBit 0=(n==1):=by
   rw[Nat.testBit_zero]
   have:n=0∨n=1:=by omega
   rcases this with rfl|rfl<;>rfl
  rw[this];rfl
theorem Jrg (xs:List V):Ue 1 (xs.map Qt)=xs.map fun v=>v.k != 0:=by
 rw[Jv6 _ (by intro n hn;obtain⟨v,_,rfl⟩:=Of0.1 hn;unfold Qt;split<;>omega),Oi6]
 apply Oj9
 intro v _
 simp only[Function.comp,Qt]
 by_cases h:v.k=0<;>simp[h]
def Kz (t y:Int)(xs:List V):List UInt8:=[low t,low y,low xs.length]++Kk (xs.map fun v=>v.k != 0)
theorem Jg0 (B g:Nat)(t bh:Int)(a:Option Addr)(cap:Nat)(xs:List V)(w:World)(h:WAt w B g t [])(hn:xs.length≤64)(bH:Jv w a xs)(bn:xs≠[]→∀ b o,a=some ⟨b,o,none⟩→Ya w g b) :
  Calls Tryz.prog 92 #[.pointer (some ⟨g,0,none⟩),.int .i64 bh,.slice a xs.length cap] w fun e w'=>e=.returned (.tuple #[])∧WAt w' B g t (Kz t bh xs)∧Ky w w' g:=by
 have bD:∀ W,(Instr.makeSlice 246 (.int .i64 (xs.length:Int)) (.int .i64 (xs.length:Int))).run Tryz.prog W=.ok (.slice (some ⟨W.heap.size,0,none⟩) xs.length xs.length) (W.alloc (.cells (madeCells #[.int .u64 0] xs.length) 247)):=
  fun W=>run_make_row' 246 247 (.int .u64 0) 8 (by kernel_rfl) Jiq rfl .i64 .i64 xs.length (by omega) (by omega) W
 obtain⟨bO,c0,_,_,_,_⟩:=h.cells
 go_enter Tryz.func92,Tryz.ntmps92
 go_wp2_with fail
 refine(Zq B g t _ _ _ h (by simp)).mono ?_
 rintro e w1 ⟨rfl,bi,ba⟩
 go_wp2_with fail
 refine(Zq B g t _ _ _ bi (by simp)).mono ?_
 rintro e bP ⟨rfl,bj,bb⟩
 go_wp2_with fail
 refine(Zq B g t _ _ _ bj (by simp)).mono ?_
 rintro e A ⟨rfl,M,bc⟩
 go_wp2_with fail
 clear bD
 have Z:=(ba.trans bb).trans bc
 have bI:Jv A a xs:=by
  by_cases bf:xs=[]
  ·exact .inl bf
  exact Zk bH Z (bn bf)
 clear ba bb bc bi bj c0
 go_loopw [27] (fun i wr=>∃ k:Nat,k≤xs.length∧i=.int .i64 k∧wr.rowIs A.heap.size 247 xs.length (fun j=>uv (if j<k then (xs.map Qt)[j]?.getD 0 else 0))∧Below A.heap.size A wr) (fun i _=>xs.length-(intOf i).toNat)
 case atStart=>exact⟨0,by omega,rfl,Ol3 _ _ _ _,(Oa5 _ _).alloc (Oa2 _) _⟩
 case round=>
  obtain⟨k,bM,rfl,y,D⟩:=hrel
  by_cases K:k<xs.length
  ·obtain⟨b1,bN,rfl,bL,bR,bS,bT⟩:=(bI.below D).at K
   have c1:=y.cell K
   have c2:=y.frozen k
   have c3:=y.lt
   have X:(xs.map Qt)[k]?.getD 0=Qt xs[k]:=by simp[K]
   have O:Hid _:=X
   clear X
   by_cases h0:xs[k].k=0
   ·have bl:(xs[k].k != 0)=false:=by simp[h0]
    have E:Hid (xs[k].k=0):=h0
    clear h0
    go_wp2
    go_roundw
    case rel=>
     refine⟨k+1,by omega,by go_num,(y.alloc _).congr fun j bz=>?_,Jc D _⟩
     by_cases e:j=k
     ·subst e
      simp only[Oe3,if_false,On2,if_true]
      rw[O.out]
      simp[Qt,E.out]
     have H:(j<k+1)=(j<k):=by rw[eq_iff_iff];omega
     simp only[H]
    case measure=>simp[intOf];omega
   have bl:(xs[k].k != 0)=true:=by simp[h0]
   have E:Hid (¬ xs[k].k=0):=h0
   clear h0
   go_wp2
   go_roundw
   case rel=>
    refine⟨k+1,by omega,by go_num,((y.set k _).alloc _).congr fun j bz=>?_,Jc (D.setCell (p:=⟨A.heap.size,k,none⟩) (Oa2 _) _) _⟩
    by_cases e:j=k
    ·subst e
     simp only[if_true,On2]
     rw[O.out]
     simp[Qt,E.out,uv]
    have H:(j<k+1)=(j<k):=by rw[eq_iff_iff];omega
    simp only[e,H,if_false]
   case measure=>simp[intOf];omega
  have bB:k=xs.length:=by omega
  subst bB
  have bE:Jo wr A.heap.size 247 (.slice (some ⟨A.heap.size,0,none⟩) xs.length xs.length) ((xs.map Qt).map uv):=
   Jhx y (Oa2 _) (by unfold maxLen;omega) _ (by simp) (by
    intro i hi
    have bx:i<xs.length:=by simpa using hi
    simp[bx])
  obtain⟨bJ,bK,R,br⟩:=bE.cells
  simp only[Oa6]at R
  injection R with e5 e6 e7
  subst e5
  subst e7
  have bu:(xs.map Qt).length=xs.length:=by simp
  have bG:=M.below D
  have bC:=y.lt
  go_wp2_with fail
  rw[←bu]
  refine(Jd4 B g t _ 1 _ _ (xs.map Qt) _ bG (by simp) (by omega) (by simpa using hn) (by
   intro n hn;obtain⟨v,_,rfl⟩:=Of0.1 hn;unfold Qt;split<;>omega) br (by
   intro b o U
   simp at U
   obtain⟨rfl,rfl⟩:=U
   exact Jc2 M D (Oa2 _) bC)).mono ?_
  rintro e bQ ⟨rfl,bk,bA⟩
  go_wp2_with fail
  go_end0
  refine⟨rfl,?_,(Z.trans (Ky.of_below D M.lt)).trans bA⟩
  rw[Jrg]at bk
  exact bk
end Go.Proofs.YtdlgbphkaicfaaaGreatDoor
namespace Go.Proofs.YtdlgbphkaicfaaaGreatDoor
open Go.RowKit
def Jdx (v:V)(c:Nat):List V→List UInt8
 |[]=>low c::enc v.k v.n v.s
 |u::l=>if u.beq v then Jdx v (c+1) l else (low c::enc v.k v.n v.s)++Jdx u 1 l
def Yc:List V→List UInt8
 |[]=>[]
 |v::l=>Jdx v 1 l
theorem Jw2 (l:List V):∀ (v:V) (c:Nat),Jdx v c l=(low ((c+Qe v l:Nat):Int)::enc v.k v.n v.s)++Yc (l.drop (Qe v l)):=by
 induction l with
 |nil=>intro v c;simp[Jdx,Qe,Yc]
 |cons u l y=>
  intro v c
  by_cases e:u.beq v=true
  ·simp only[Jdx,Qe,e,if_true,List.drop_succ_cons]
   rw[y v (c+1)]
   have:c+1+Qe v l=c+(Qe v l+1):=by omega
   rw[this]
  simp only[Jdx,Qe,e,if_false,Ol9]
  simp[Yc]
theorem Je9 (v:V)(l:List V):Yc (v::l)=(low ((Qe v (v::l):Nat):Int)::enc v.k v.n v.s)++Yc ((v::l).drop (Qe v (v::l))):=by
 have e:Qe v (v::l)=Qe v l+1:=by simp[Qe,(V.beq_iff v v).2 rfl]
 rw[e,List.drop_succ_cons]
 show Jdx v 1 l=_
 rw[Jw2]
 have:1+Qe v l=Qe v l+1:=by omega
 rw[this]
theorem Jhn (v:V)(l:List V):1≤Qe v (v::l):=by simp[Qe,(V.beq_iff v v).2 rfl]
theorem Jng:∀ (n:Nat)(xs:List V),xs.length≤n→(∀ v∈xs,good v.k v.s)→(Yc xs).length≤42*xs.length:=by
 intro n
 induction n with
 |zero=>intro xs h _;have:xs=[]:=Od3.1 (by omega);subst this;simp[Yc]
 |succ n E=>
  intro xs h y
  cases xs with
  |nil=>simp[Yc]
  |cons v l=>
   rw[Je9]
   have h1:=Kc5 v.k v.n v.s (y v Of4)
   have h2:=Jhn v l
   have A:=E ((v::l).drop (Qe v (v::l))) (by rw[Of7];simp at h ⊢;omega) (fun u D=>y u (Oh7 D))
   rw[Oa8,List.length_cons]
   rw[Of7]at A
   have H:=Jjn v (v::l)
   omega
theorem Jlj (l:List V):∀ (d:List V) (v:V),v∈Ym d l→v∈d∨v∈l:=by
 induction l with
 |nil=>intro d v h;exact .inl h
 |cons u l y=>
  intro d v h
  simp only[Ym]at h
  rcases y _ v h with h|h
  ·split at h
   ·exact .inl h
   rcases Od2.1 h with h|h
   ·exact .inl h
   right;simp at h;subst h;exact Of4
  exact .inr (Og1 _ h)
def Jds (xs:List V):List UInt8:=(low (Ym [] xs).length::Yv (Ym [] xs))++Kk (Ue 4 (xs.map (Qc (Ym [] xs))))
end Go.Proofs.YtdlgbphkaicfaaaGreatDoor
namespace Go.Proofs.YtdlgbphkaicfaaaGreatDoor
open Go.RowKit
def Jei:List V→List UInt8
 |[]=>[]
 |v::l=>
  le8 (u64 (Jn v.n (v::l)))++[low (bitLen (Yz (dif v.n (Jn v.n (v::l))) (Uv l (Jn v.n (v::l)))):Nat)]
   ++ Kk (Ue (bitLen (Yz (dif v.n (Jn v.n (v::l))) (Uv l (Jn v.n (v::l))))) (Uv (v::l) (Jn v.n (v::l))))
def Zz (t:Int)(xs:List V):List UInt8:=if t=2 then Kk (Ue 1 (Uv xs 0))else Jei xs
theorem Jkx (xs:List V)(q:Int):∀ n∈Uv xs q,n<18446744073709551616:=by
 intro n hn
 obtain⟨v,_,rfl⟩:=Of0.1 hn
 exact Jp3 _
theorem Jf7 (n:Nat)(h:n<18446744073709551616):bitLen n≤64:=by
 unfold bitLen
 split
 ·omega
 rename_i h0
 have:=(Nat.log2_lt h0).2 (show n<2 ^ 64 from h)
 omega
theorem Jgs (g:Nat)(w:World) :
  Calls Tryz.prog 93 #[.pointer (some ⟨g,0,none⟩)] w fun e w'=>e=.returned (.agg #[.func (.func 122) #[.pointer (some ⟨g,0,none⟩)] #[],.func (.func 123) #[.pointer (some ⟨g,0,none⟩)] #[],.func (.func 124) #[.pointer (some ⟨g,0,none⟩)] #[],.func (.func 125) #[.pointer (some ⟨g,0,none⟩)] #[]])∧Below w.heap.size w w':=by
 have hone:∀ (W:World) (a:Addr) f x c,(store a (.func f x c)).run Tryz.prog W=match W.cell? a with
   | some _ => if W.frozen? a then .halt (.unsupported (.unsafePointer "a write to bytes that a string shares")) W else .ok () (W.setCell a (.func f x c))
   |none=>match W.farStore Tryz.prog a (.func f x c) (Mode.plain==.atomic)with
    |.ok (w',_)=>.ok () w'
    |.error h=>.halt h W:=fun W a f x c=>run_store Tryz.prog W a (.func f x c) .plain rfl
 go_enter Tryz.func93,Tryz.ntmps93
 go_wp2
 exact bodyPost_ret (v:=.agg #[.func (.func 122) #[.pointer (some ⟨g,0,none⟩)] #[],.func (.func 123) #[.pointer (some ⟨g,0,none⟩)] #[],.func (.func 124) #[.pointer (some ⟨g,0,none⟩)] #[],.func (.func 125) #[.pointer (some ⟨g,0,none⟩)] #[]]) (by simp[results,Tryz.results93,go_sem]) rfl ⟨rfl,(Oa5 _ _).alloc (Oa2 _) _⟩
theorem Ja5 (vs:List V):(vs.flatMap V.cells).length=vs.length*3:=by
 induction vs with
 |nil=>rfl
 |cons v vs y=>rw[Og7,Oa8,y];simp[V.cells];omega
theorem Kem {w:World}{b o:Nat}{xs:List V}(h:∀ i v,xs[i]?=some v→VAt w b (o+i*3) v):∀ j u,(xs.flatMap V.cells)[j]?=some u→w.cell? ((⟨b,o,none⟩:Addr).add j)=some u:=by
 intro j u K
 have O:∀ (A:List V) (j:Nat) (u:Value),(A.flatMap V.cells)[j]?=some u→∃ i v,A[i]?=some v∧((j=i*3∧u=.int .i64 v.k)∨(j=i*3+1∧u=.int .i64 v.n)∨(j=i*3+2∧u=.string v.s)):=by
  intro A
  induction A with
  |nil=>intro j u h;simp at h
  |cons v A M=>
   intro j u h
   match j,h with
   |0,h=>exact⟨0,v,rfl,by simp[V.cells]at h;simp[h]⟩
   |1,h=>exact⟨0,v,rfl,by simp[V.cells]at h;simp[h]⟩
   |2,h=>exact⟨0,v,rfl,by simp[V.cells]at h;simp[h]⟩
   |j+3,h=>
    obtain⟨i,R,hi,D⟩:=M j u (by simpa [V.cells] using h)
    refine⟨i+1,R,by simpa using hi,?_⟩
    rcases D with⟨e,y⟩|⟨e,y⟩|⟨e,y⟩
    ·exact .inl ⟨by omega,y⟩
    ·exact .inr (.inl ⟨by omega,y⟩)
    exact .inr (.inr ⟨by omega,y⟩)
 obtain⟨i,v,hi,D⟩:=O xs j u K
 obtain⟨h1,h2,E⟩:=h i v hi
 have H:(⟨b,o,none⟩:Addr).add j=⟨b,o+j,none⟩:=by unfold Addr.add;split<;>simp_all
 rw[H]
 rcases D with⟨e,y⟩|⟨e,y⟩|⟨e,y⟩
 ·rw[e,y];exact h1
 ·rw[e,y,←On5];exact h2
 rw[e,y,←On5];exact E
theorem Kap (vs:List V):∀ u∈vs.flatMap V.cells,u.oneCell'=true:=by
 intro u A
 obtain⟨v,_,y⟩:=Op5.1 A
 simp[V.cells]at y
 rcases y with rfl|rfl|rfl<;>rfl
def Kv (w:World)(g:Nat)(vs:List V)(y:List Value):Prop:=∃ C:Array Value,w.heap[g]?=some (.cells C 63 (0,0))∧C.toList=vs.flatMap V.cells++y
theorem Kv.of_block {w w':World}{g:Nat}{vs:List V}{y:List Value}(h:Kv w g vs y)(e:w'.heap[g]?=w.heap[g]?):Kv w' g vs y:=by
 obtain⟨C,D,A⟩:=h
 exact⟨C,by rw[e];exact D,A⟩
theorem Kv.lt {w:World}{g:Nat}{vs:List V}{D:List Value}(h:Kv w g vs D):g<w.heap.size:=by
 obtain⟨C,A,_⟩:=h
 rcases Oc1 g w.heap.size with y|y
 ·exact y
 simp[Array.getElem?_eq_none y]at A
theorem Kv.cell {w:World}{g:Nat}{vs:List V}{A:List Value}(h:Kv w g vs A){j:Nat}{x:Value}(E:A[j]?=some x):w.cell? ⟨g,vs.length*3+j,none⟩=some x∧w.frozen? ⟨g,vs.length*3+j,none⟩=false:=by
 obtain⟨C,y,D⟩:=h
 have:C[vs.length*3+j]?=some x:=by
  rw[←Oe6,D,Ob6 (by rw[Ja5];omega),Ja5]
  have e:vs.length*3+j-vs.length*3=j:=by omega
  rw[e];exact E
 exact⟨by simp[World.cell?,y,this],by simp[World.frozen?,y]⟩
theorem Kv.vals {w:World}{g:Nat}{vs:List V}{bb:List Value}(h:Kv w g vs bb):Jv w (some ⟨g,0,none⟩) vs:=by
 have M:=h.lt
 obtain⟨C,K,D⟩:=h
 have O:w.ownsRow 0 63 3 (.slice (some ⟨g,0,none⟩) vs.length C.size) vs.length (vs.flatMap V.cells)→True:=fun _=>trivial
 clear O
 refine .inr ⟨g,0,rfl,M,fun i v hi=>?_⟩
 have ba:∀ (y:List V) (i:Nat) (v:V),y[i]?=some v→(y.flatMap V.cells)[i*3]?=some (.int .i64 v.k)∧(y.flatMap V.cells)[i*3+1]?=some (.int .i64 v.n)∧(y.flatMap V.cells)[i*3+2]?=some (.string v.s):=by
  intro y
  induction y with
  |nil=>intro i v h;simp at h
  |cons u y R=>
   intro i v h
   cases i with
   |zero=>simp at h;subst h;simp[V.cells]
   |succ i=>
    have:=R i v (by simpa using h)
    have E:(i+1)*3=i*3+3:=by omega
    simp only[Og7,V.cells,E]
    simpa using this
 obtain⟨U,X,Z⟩:=ba vs i v hi
 have bc:i<vs.length:=by
  rcases Oc1 i vs.length with A|A
  ·exact A
  rw[Ob4 A]at hi;simp at hi
 have g1:C[i*3]?=some (.int .i64 v.k):=by rw[←Oe6,D,Ob0 (by rw[Ja5];omega)];exact U
 have g2:C[i*3+1]?=some (.int .i64 v.n):=by rw[←Oe6,D,Ob0 (by rw[Ja5];omega)];exact X
 have H:C[i*3+2]?=some (.string v.s):=by rw[←Oe6,D,Ob0 (by rw[Ja5];omega)];exact Z
 unfold VAt
 simp only[World.cell?,K,Od0]
 simp[g1,g2,H]
theorem Jtz (C:Array Value)(y A:List Value)(x D:Value)(n:Nat)(h:C.toList=y++x::A)(hn:y.length=n):(C.setIfInBounds n D).toList=(y++[D])++A:=by
 rw[Ok0,h,Ok4 _ _ (by omega),hn,Oe1]
 simp
theorem Kv.set3 {w:World}{g:Nat}{vs:List V}{K M O:Value}{A:List Value}(h:Kv w g vs (K::M::O::A))(v:V)(n:Nat)(hn:n=vs.length) :
  Kv (((w.setCell ⟨g,n*3,none⟩ (.int .i64 v.k)).setCell ⟨g,n*3+1,none⟩ (.int .i64 v.n)).setCell ⟨g,n*3+2,none⟩ (.string v.s)) g (vs++[v]) A:=by
 subst hn
 obtain⟨C,H,E⟩:=h
 have y:=Ja5 vs
 have h1:=Jtz C _ _ _ (.int .i64 v.k) _ E y
 have h2:=Jtz _ _ _ _ (.int .i64 v.n) (vs.length*3+1) h1 (by simp[y])
 have D:=Jtz _ _ _ _ (.string v.s) (vs.length*3+2) h2 (by simp[y])
 refine⟨_,?_,D.trans ?_⟩
 ·simp[World.setCell,Array.getElem?_modify,H]
 simp[V.cells]
end Go.Proofs.YtdlgbphkaicfaaaGreatDoor
namespace Go.Proofs.YtdlgbphkaicfaaaGreatDoor
open Go.RowKit
end Go.Proofs.YtdlgbphkaicfaaaGreatDoor
namespace Go.Proofs.YtdlgbphkaicfaaaGreatDoor
open Go.RowKit
theorem Ut {w w1 D:World}{r:Option Nat}(h:w.grownBy w1 r)(k:w1.grownBy D r):w.grownBy D r:=
 ⟨k.os.trans h.os,k.tape.trans h.tape,k.output.trans h.output,Ob2 h.size k.size,fun j y A=>(k.block j (Oc2 y h.size) A).trans (h.block j y A)⟩
theorem Qq {w w':World}{r:Option Nat}(h:Below w.heap.size w w'):w.grownBy w' r:=⟨h.os,h.tape,h.output,h.size,fun j y _=>h.block j y⟩
theorem Ka4 {w w':World}{g:Nat}(h:w.grownBy w' (some g))(o:Nat)(v:Value):w.grownBy (w'.setCell ⟨g,o,none⟩ v) (some g):=
 ⟨h.os,h.tape,h.output,by simpa [World.setCell] using h.size,fun j A y=>(Oa4 _ _ _ _ (fun e=>y (by rw[e]))).trans (h.block j A y)⟩
theorem Kv.at3 {w:World}{g:Nat}{y:List V}(h:Kv w g y [])(v:V)(k:Nat)(D:k<y.length) :
  ((w.cell? ⟨g,k*3,none⟩=some (.int .i64 y[k].k)∧w.frozen? ⟨g,k*3,none⟩=false)∧(w.cell? ⟨g,k*3+1,none⟩=some (.int .i64 y[k].n)∧w.frozen? ⟨g,k*3+1,none⟩=false)∧(w.cell? ⟨g,k*3+2,none⟩=some (.string y[k].s)∧w.frozen? ⟨g,k*3+2,none⟩=false)) ∧
  Kv (((w.setCell ⟨g,k*3,none⟩ (.int .i64 v.k)).setCell ⟨g,k*3+1,none⟩ (.int .i64 v.n)).setCell ⟨g,k*3+2,none⟩ (.string v.s)) g (y.set k v) []:=by
 obtain⟨C,M,A⟩:=h
 rw[Od7]at A
 have U:y=y.take k++y[k]::y.drop (k+1):=by rw[←Oi1 D,Ok3]
 have E:(y.take k).length=k:=by rw[Oc7];omega
 have h1:Kv w g (y.take k) (y[k].cells++(y.drop (k+1)).flatMap V.cells):=by
  refine⟨C,M,?_⟩
  rw[A]
  conv=>lhs;rw[U]
  rw[Oe8,Og7]
 have c0:=h1.cell (j:=0) rfl
 have c1:=h1.cell (j:=1) rfl
 have c2:=h1.cell (j:=2) rfl
 rw[E]at c0 c1 c2
 rw[Nat.add_zero]at c0
 refine⟨⟨c0,c1,c2⟩,?_⟩
 obtain⟨H,O,K⟩:=h1.set3 v k E.symm
 refine⟨H,O,?_⟩
 rw[K,Od7]
 have R:y.set k v=y.take k++v::y.drop (k+1):=by
  rw[On0,if_pos D]
 rw[R]
 simp[V.cells]
end Go.Proofs.YtdlgbphkaicfaaaGreatDoor
namespace Go.Proofs.YtdlgbphkaicfaaaGreatDoor
def Jlv (s:Nat)(b:UInt8):Nat:=((s ^^^ b.toNat)*1099511628211) % 18446744073709551616
def Khr (l:List UInt8):Nat:=l.foldl Jlv 14695981039346656037
def le7 (u:Nat):List UInt8:=(List.range 7).map fun i=>UInt8.ofNat (u / 256 ^ i % 256)
def Jm7 (l:List UInt8):List UInt8:=le7 (Khr l)
def body (y:List UInt8):List UInt8:=y++List.replicate (56-y.length) 0++[UInt8.ofNat y.length]
def Jdm (y:List UInt8):List UInt8:=body y++Jm7 (body y)
def Jd2 (p:List UInt8):Option (List UInt8):=
 if 56<(p.getD 56 0).toNat∨p.drop 57≠Jm7 (p.take 57)then none else some (p.take (p.getD 56 0).toNat)
theorem Jcc {y:List UInt8}(h:y.length≤56):(body y).length=57:=by
 simp[body];omega
theorem Jhq (u:Nat):(le7 u).length=7:=by simp[le7]
theorem Kjo (l:List UInt8):(Jm7 l).length=7:=Jhq _
theorem Jwh {y:List UInt8}(h:y.length≤56):(Jdm y).take 57=body y:=by
 rw[Jdm,List.take_append_of_le_length (by rw[Jcc h];exact Oa2 _),Oc8 (by rw[Jcc h];exact Oa2 _)]
theorem Jwp {y:List UInt8}(h:y.length≤56):(Jdm y).drop 57=Jm7 (body y):=by
 rw[Jdm,List.drop_append,Jcc h]
 simp[List.drop_of_length_le,Jcc h]
theorem Kbq {y:List UInt8}(h:y.length≤56):((Jdm y).getD 56 0).toNat=y.length:=by
 have e:(Jdm y).getD 56 0=UInt8.ofNat y.length:=by
  rw[Jdm,Oa0,Ob0 (by rw[Jcc h];omega),body,Ob6 (by simp;omega)]
  have:56-(y++List.replicate (56-y.length) (0:UInt8)).length=0:=by simp;omega
  rw[this];rfl
 rw[e]
 simp
 omega
theorem Jxe {y:List UInt8}(h:y.length≤56):Jd2 (Jdm y)=some y:=by
 unfold Jd2
 rw[Kbq h,Jwh h,Jwp h,if_neg (by simp;omega)]
 congr 1
 rw[Jdm,body,Od8,Od8,List.take_left]
end Go.Proofs.YtdlgbphkaicfaaaGreatDoor
namespace Go.Proofs.YtdlgbphkaicfaaaGreatDoor
open Go.RowKit Tryz
def Jdp (w:World)(b:Nat)(p:List UInt8):Prop:=p.length=64∧w.rowIs b 330 64 (fun j=>bv (p.getD j 0))
theorem Jdp.of_block {w w':World}{b:Nat}{p:List UInt8}(h:Jdp w b p)(e:w'.heap[b]?=w.heap[b]?):Jdp w' b p:=⟨h.1,h.2.of_block e⟩
theorem Jdp.below {w w':World}{b:Nat}{p:List UInt8}(h:Jdp w b p)(y:Below w.heap.size w w'):Jdp w' b p:=h.of_block (y.block _ h.2.lt)
theorem Kgb (x y:Nat)(E:x<18446744073709551616)(H:y<18446744073709551616):bits .xor .u64 (x:Int) (y:Int)=((x ^^^ y:Nat):Int):=by
 have M:x ^^^ y<18446744073709551616:=Nat.xor_lt_two_pow (n:=64) E H
 have K:(BitVec.ofInt 64 (x:Int) ^^^ BitVec.ofInt 64 (y:Int)).toNat=x ^^^ y:=by
  rw[BitVec.toNat_xor,Ok6,Ok6]
  have A:((x:Int) % ((2 ^ 64:Nat):Int)).toNat=x:=by omega
  have D:((y:Int) % ((2 ^ 64:Nat):Int)).toNat=y:=by omega
  rw[A,D]
 show IntKind.u64.wrap ((BitVec.ofInt 64 (x:Int) ^^^ BitVec.ofInt 64 (y:Int)).toNat:Nat)=_
 rw[K,Oh5]
 omega
theorem Jze (p:List UInt8)(k:Nat)(y:k<p.length)(s:Nat):(p.take (k+1)).foldl Jlv s=Jlv ((p.take k).foldl Jlv s) (p.getD k 0):=by
 rw[Oc4 y,Ol1,List.foldl_cons,List.foldl_nil]
 congr 1
 simp[y]
theorem Jsn (b:Nat)(p:List UInt8)(w:World)(h:Jdp w b p) :
  Calls prog 171 #[.pointer (some ⟨b,0,none⟩)] w fun e w'=>e=.returned (.string (Qw (Jm7 (p.take 57))))∧Below w.heap.size w w':=by
 go_enter func171,ntmps171
 go_wp2
 go_loopw [3,12] (fun s i wr=>∃ k z:Nat,k≤57∧i=.int .i64 k∧s=.int .u64 z∧z<18446744073709551616∧Hid (z=(p.take k).foldl Jlv 14695981039346656037)∧(∃ m,wr=w.drewN m)) (fun _ i _=>57-(intOf i).toNat)
 case atStart=>exact⟨0,14695981039346656037,by omega,rfl,rfl,by decide,rfl,0,rfl⟩
 case round=>
  rename_i s i
  obtain⟨k,z,ba,rfl,rfl,U,H,m,rfl⟩:=hrel
  by_cases R:k<57
  ·obtain⟨n,hn,E⟩:∃ n:Nat,n<256∧Hid (n=(p.getD k 0).toNat):=⟨_,(p.getD k 0).toNat_lt,rfl⟩
   have Z:w.cell? ⟨b,k,none⟩=some (.int .u8 (n:Nat)):=by rw[h.2.cell (i:=k) (by omega),E.out];rfl
   have bf:=Kgb z n U (by omega)
   have bh:z ^^^ n<18446744073709551616:=Nat.xor_lt_two_pow (n:=64) U (by omega)
   have X:Hid (Jlv z (p.getD k 0)=((z ^^^ n)*1099511628211) % 18446744073709551616):=by show Jlv _ _=_;rw[E.out];rfl
   generalize z ^^^ n=x at *
   go_wp2
   go_roundw
   case rel=>
    refine⟨k+1,(x*1099511628211) % 18446744073709551616,by omega,by go_num,?_,by omega,?_,m,rfl⟩
    ·have e:((x*1099511628211 % 18446744073709551616:Nat):Int)=(x:Int)*1099511628211 % 18446744073709551616:=by omega
     rw[Oh5,e]
    exact(X.out.symm.trans (by rw[H.out])).trans (Jze p k (by rw[h.1];omega) _).symm
   case measure=>simp[intOf];omega
  obtain rfl:k=57:=by omega
  go_wp2
  go_loopw [22] (fun i wr=>∃ k:Nat,k≤7∧i=.int .i64 k∧wr.rowIs w.heap.size 378 7 (fun j=>bv (if j<k then (le7 z).getD j 0 else 0))∧Below w.heap.size w wr) (fun i _=>7-(intOf i).toNat)
  case atStart=>
   refine⟨0,by omega,rfl,World.rowIs_alloc _ _ _ _ ?_,(Jp (Oa5 _ w) m).alloc (Oa2 _) _⟩
   intro i hi
   match i,hi with
   |0,_=>rfl
   |1,_=>rfl
   |2,_=>rfl
   |3,_=>rfl
   |4,_=>rfl
   |5,_=>rfl
   |6,_=>rfl
  case round=>
   rename_i i
   obtain⟨k,ba,rfl,A,K⟩:=hrel
   by_cases R:k<7
   ·have Z:=A.cell (i:=k) (by omega)
    have hf:=A.frozen k
    go_wp2
    go_roundw
    case rel=>
     refine⟨k+1,by omega,by go_num,(A.set k _).congr fun j y=>?_,K.setCell (p:=⟨w.heap.size,k,none⟩) (Oa2 _) _⟩
     by_cases O:j=k
     ·subst O
      have bb:(2:Int) ^ (8*j)=((256 ^ j:Nat):Int):=by
       have:(256:Nat) ^ j=2 ^ (8*j):=by rw[Nat.pow_mul]
       rw[this]
       simp
      simp[le7,R,bv,bb]
     have:(j<k+1)=(j<k):=by rw[eq_iff_iff];omega
     simp[O,this]
    case measure=>simp[intOf];omega
   obtain rfl:k=7:=by omega
   have bc:(convert 201 9 (.slice (some ⟨w.heap.size,0,none⟩) 7 7)).run prog wr=.ok (.string (Qw (le7 z))) wr:=by
    have:=Jc6 wr ⟨w.heap.size,0,none⟩ 7 (le7 z) (fun j u y=>?_)
    ·rwa [Jhq]at this
    have M:j<7:=by
     rcases Oc1 j 7 with D|D
     ·exact D
     ·rw[Ob4 (by simp[Jhq];exact D)]at y;simp at y
    have:=A.cell (i:=j) M
    rw[Addr.add_mid]
    simp only[Od0]
    rw[this]
    simp[M,Jhq]at y ⊢
    exact y
   go_wp2
   go_ret
   refine⟨?_,K⟩
   show Ending.returned (Value.string (Qw (le7 z)))=_
   rw[show Jm7 (p.take 57)=le7 z by unfold Jm7 Khr;rw[←H.out]]
theorem Kgi (w:World):(Go.sizeOf 5).run prog w=.ok 1 w:=by kernel_rfl
theorem Kju (l:List UInt8):(Qw l).data.toList=l:=by simp[Qw]
theorem Kkt (w:World)(C:Array Value)(y:C=Array.replicate 64 (.int .u8 0)):(w.alloc (.cells C 330)).rowIs w.heap.size 330 64 (fun _=>bv 0):=by
 subst y
 refine World.rowIs_alloc _ _ _ _ fun i hi=>?_
 simp at hi
 rw[Array.getElem?_replicate,if_pos hi]
 rfl
theorem Kkm (y:List UInt8)(A:y.length≤56)(j:Nat)(H:j<64) :
  (if j=56 then Value.int .u8 ((y.length:Nat):Int)else if 0≤j∧j<0+(y.map fun x=>Value.int .u8 (x.toNat:Int)).length then (y.map fun x=>Value.int .u8 (x.toNat:Int))[j-0]?.getD default else bv 0)=bv ((body y++List.replicate 7 0).getD j 0):=by
 by_cases E:j=56
 ·subst E
  have e:(body y++List.replicate 7 0).getD 56 0=UInt8.ofNat y.length:=by
   rw[Oa0,Ob0 (by rw[Jcc A];omega),body,Ob6 (by simp;omega)]
   have:56-(y++List.replicate (56-y.length) (0:UInt8)).length=0:=by simp;omega
   rw[this];rfl
  rw[if_pos rfl,e]
  simp[bv]
  omega
 rw[if_neg E]
 by_cases D:j<y.length
 ·rw[if_pos (by simp;omega)]
  have e:(body y++List.replicate 7 0).getD j 0=y[j]:=by
   rw[Oa0,Ob0 (by rw[Jcc A];omega),body,Od8,Ob0 D]
   simp[D]
  rw[e]
  simp[D,bv]
 rw[if_neg (by simp;omega)]
 have e:(body y++List.replicate 7 0).getD j 0=0:=by
  rw[Oa0]
  rcases Oc1 j 57 with h|h
  ·rw[Ob0 (by rw[Jcc A];omega),body,Ob0 (by simp;omega),Ob6 (by omega),Of3]
   split<;>rfl
  rw[Ob6 (by rw[Jcc A];omega),Of3]
  split<;>rfl
 rw[e]
theorem Kki (bd y:List UInt8)(A:bd.length=57)(hs:y.length=7)(j:Nat)(D:j<64) :
  (if 57≤j∧j<57+(y.map fun x=>Value.int .u8 (x.toNat:Int)).length then (y.map fun x=>Value.int .u8 (x.toNat:Int))[j-57]?.getD default else bv ((bd++List.replicate 7 0).getD j 0))=bv ((bd++y).getD j 0):=by
 by_cases h:57≤j
 ·rw[if_pos (by simp[hs];omega),Oa0,Ob6 (by omega),A]
  simp[show j-57<y.length by omega,bv]
 rw[if_neg (by simp;omega),Oa0,Oa0,Ob0 (by omega),Ob0 (by omega)]
theorem Kkp (y:List UInt8)(D:y.length≤56)(w:World) :
  Calls prog 127 #[.string (Qw y)] w fun e w'=>e=.returned (.pointer (some ⟨w.heap.size,0,none⟩))∧Jdp w' w.heap.size (Jdm y)∧Below w.heap.size w w':=by
 have bC:=Jb2 y
 go_enter func127,ntmps127
 go_upto_region 2 with fail
 generalize R:World.alloc w (Obj.cells _ 330)=E
 have H:E.rowIs w.heap.size 330 64 (fun _=>bv 0):=by rw[←R];exact Kkt w _ rfl
 have ba:Below w.heap.size w E:=by rw[←R];exact(Oa5 _ w).alloc (Oa2 _) _
 clear R
 have bu:=run_copy_string (P:=prog) E 201 9 3 5 w.heap.size 0 64 64 (Qw y) underlying201 Kgi (by omega)
  (fun j A=>by rw[Od0,H.cell (by omega)];rfl) (fun j A=>by rw[Od0];exact H.frozen j)
 have K:=rowIs_setCells ((Qw y).data.toList.map fun x=>Value.int .u8 (x.toNat:Int)) 0 _ _ H
 have bb:=below_setCells (Oa2 w.heap.size) ((Qw y).data.toList.map fun x=>Value.int .u8 (x.toNat:Int)) 0 _ ba
 generalize E.setCells w.heap.size 0 ((Qw y).data.toList.map fun x=>Value.int .u8 (x.toNat:Int))=bk at *
 have bl:=K.cell (i:=56) (by omega)
 have bn:=K.frozen 56
 go_upto_region 4 with fail
 have bi:=K.set 56 (.int .u8 ((y.length:Nat):Int))
 have bc:=bb.setCell (p:=⟨w.heap.size,56,none⟩) (Oa2 _) (.int .u8 ((y.length:Nat):Int))
 generalize bk.setCell ⟨w.heap.size,56,none⟩ (.int .u8 ((y.length:Nat):Int))=Z at *
 have bh:Jdp Z w.heap.size (body y++List.replicate 7 0):=by
  refine⟨by simp[Jcc D],bi.congr fun j A=>?_⟩
  rw[Kju]
  exact Kkm y D j A
 clear bu K bb bl bn bi H ba
 have bz:(body y++List.replicate 7 0).take 57=body y:=by
  rw[List.take_append_of_le_length (by rw[Jcc D];exact Oa2 _),Oc8 (by rw[Jcc D];exact Oa2 _)]
 have bj:=Jsn w.heap.size _ Z.drew (bh.of_block rfl)
 rw[bz]at bj
 have M:=Kjo (body y)
 have X:Hid (Jdm y=body y++Jm7 (body y)):=rfl
 generalize Jm7 (body y)=O at *
 go_region_with (first|(go_at_call 171;refine bj.mono ?_;rintro e bA ⟨rfl,bf⟩;have U:=(bh.below (Jw bf)).2;have bB:=run_copy_string (P:=prog) bA 201 9 3 5 w.heap.size 57 7 7 (Qw O) underlying201 Kgi (by rw[Jb2,M];omega) (fun j A=>by rw[Jb2,M]at A;rw[U.cell (by omega)];rfl) (fun j A=>U.frozen _)))
 have bx:=rowIs_setCells ((Qw O).data.toList.map fun x=>Value.int .u8 (x.toNat:Int)) 57 _ _ U
 have br:=below_setCells (Oa2 w.heap.size) ((Qw O).data.toList.map fun x=>Value.int .u8 (x.toNat:Int)) 57 _ (bc.trans ((Jw bf).mono bc.size))
 go_wp2
 go_ret
 refine⟨rfl,⟨by rw[X.out];simp[Jcc D,M],bx.congr fun j A=>?_⟩,br⟩
 rw[Kju,X.out]
 exact Kki (body y) O (Jcc D) M j A
theorem Jjh (b:Nat)(p:List UInt8)(W:World)(h:Jdp W b p)(lo n c:Nat)(hn:lo+n≤64) :
  (convert 201 9 (.slice (some ⟨b,lo,none⟩) n c)).run prog W=.ok (.string (Qw ((p.drop lo).take n))) W:=by
 have E:((p.drop lo).take n).length=n:=by rw[Oc7,Of7,h.1];omega
 have:=Jc6 W ⟨b,lo,none⟩ c ((p.drop lo).take n) (fun j u y=>?_)
 ·rwa [E]at this
 have D:j<n:=by
  rcases Oc1 j n with A|A
  ·exact A
  ·rw[Ob4 (by simp;omega)]at y;simp at y
 rw[Addr.add_mid,h.2.cell (i:=lo+j) (by omega)]
 rw[Ob1,Oh3 D,Oh9]at y
 rw[Oa0]
 cases hq:p[lo+j]? with
 |none=>rw[hq]at y;simp at y
 |some x=>rw[hq]at y;simpa using y
theorem Jtg:prog.elem 330=5:=by kernel_rfl
theorem Jp0:prog.underlying 330=some (.array (prog.arrayLen 330) (prog.elem 330)):=by kernel_rfl
theorem Jmr:prog.arrayLen 330=64:=by kernel_rfl
theorem Jt5 (b n:Nat)(W:World)(hn:n≤64):(Instr.sliceAt 330 (.pointer (some ⟨b,0,none⟩)) none (some (.int .i64 (n:Int))) none).run prog W=.ok (.slice (some ⟨b,0,none⟩) n 64) W:=by
 have h:=run_sliceAt_array_h (P:=prog) W 330 ⟨b,0,none⟩ Jp0 .i64 (n:Int) (by omega) (by rw[Jmr];omega)
 rw[Jtg,Kgi,Jmr]at h
 rw[h]
 simp[Result.andThen,slicedAt,Addr.add]
theorem Ke1 (b:Nat)(p:List UInt8)(w:World)(h:Jdp w b p) :
  Calls prog 158 #[.pointer (some ⟨b,0,none⟩)] w fun e w'=>e=.returned (.tuple #[.string (Qw ((Jd2 p).getD [])),.bool (Jd2 p).isSome])∧Below w.heap.size w w':=by
 obtain⟨n,hn,bb⟩:∃ n:Nat,n<256∧Hid (n=(p.getD 56 0).toNat):=⟨_,(p.getD 56 0).toNat_lt,rfl⟩
 have bj:w.cell? ⟨b,56,none⟩=some (.int .u8 (n:Nat)):=by rw[h.2.cell (i:=56) (by omega),bb.out];rfl
 have E:Hid (Jd2 p=if 56<n∨p.drop 57≠Jm7 (p.take 57)then none else some (p.take n)):=by show Jd2 p=_;unfold Jd2;rw[bb.out]
 generalize Jd2 p=op at *
 have bi:=Jsn b p w.drew (h.of_block rfl)
 have R:(p.drop 57).take 7=p.drop 57:=Oc8 (by rw[Of7,h.1];omega)
 have bf:=Jjh b p w.drew (h.of_block rfl) 57 7 7 (by omega)
 rw[R]at bf
 by_cases bc:56<n
 ·have:op=none:=by rw[E.out,if_pos (.inl bc)]
  subst this
  have bh:decide ((56:Int)<(n:Int))=true:=by simp;omega
  go_enter func158,ntmps158
  go_wp2_with fail
  go_quiet (fail)
  go_wp2
  go_ret2
  exact⟨rfl,Jp (Oa5 _ _) _⟩
 have ba:Hid (∀ W,Jdp W b p→(convert 201 9 (.slice (some ⟨b,57,none⟩) 7 7)).run prog W=.ok (.string (Qw (p.drop 57))) W):=fun W hW=>by
  have:=Jjh b p W hW 57 7 7 (by omega)
  rwa [R]at this
 have Z:Hid (∀ W,Jdp W b p→(convert 201 9 (.slice (some ⟨b,0,none⟩) n 64)).run prog W=.ok (.string (Qw (p.take n))) W):=fun W hW=>by
  have:=Jjh b p W hW 0 n 64 (by omega)
  rwa [List.drop_zero]at this
 have O:Hid (∀ W,Jdp W b p→Calls prog 171 #[.pointer (some ⟨b,0,none⟩)] W fun e w'=>e=.returned (.string (Qw (Jm7 (p.take 57))))∧Below W.heap.size W w'):=fun W hW=>Jsn b p W hW
 have bh:decide ((56:Int)<(n:Int))=false:=by simp;omega
 clear bi bf R
 by_cases D:p.drop 57=Jm7 (p.take 57)
 ·have:op=some (p.take n):=by rw[E.out,if_neg (by intro A;rcases A with A|A;exact bc A;exact A D)]
  subst this
  rw[←D]at O
  clear E D
  generalize p.drop 57=X at *
  generalize p.take n=br at *
  go_enter func158,ntmps158
  go_wp2_with fail
  go_region_held3 (fun y=>Jdp y b p∧(convert 201 9 (.slice (some ⟨b,57,none⟩) 7 7)).run prog y=.ok (.string (Qw X)) y)
   (first|(go_split_ands;refine⟨?_,ba.out _ ?_⟩<;>(first|exact h|exact h.of_block rfl|exact M|(have U:Jdp _ b p:=by assumption;exact U.of_block rfl)|assumption)))
   (first|(go_at_call 171;refine(O.out _ (by first|assumption|(go_split_ands;assumption))).mono ?_;rintro e K ⟨rfl,H⟩;have M:Jdp K b p:=Jdp.below (w:=w.drew) (h.of_block rfl) H))
  have bk:=Z.out K M
  have bn:=Jt5 b n K (by omega)
  go_wp2
  go_ret2
  exact⟨rfl,Jw H⟩
 have:op=none:=by rw[E.out,if_pos (.inr D)]
 subst this
 have bl:((Qw (p.drop 57)).toList==(Qw (Jm7 (p.take 57))).toList)=false:=by
  rw[beq_eq_false_iff_ne]
  exact fun A=>D (Kfv (by rw[←Zf (Qw (p.drop 57)),A,Zf]))
 clear E D Z
 generalize p.drop 57=X at *
 generalize Jm7 (p.take 57)=bu at *
 go_enter func158,ntmps158
 go_wp2_with fail
 go_region_held3 (fun y=>Jdp y b p∧(convert 201 9 (.slice (some ⟨b,57,none⟩) 7 7)).run prog y=.ok (.string (Qw X)) y)
  (first|(go_split_ands;refine⟨?_,ba.out _ ?_⟩<;>(first|exact h|exact h.of_block rfl|exact M|(have U:Jdp _ b p:=by assumption;exact U.of_block rfl)|assumption)))
  (first|(go_at_call 171;refine(O.out _ (by first|assumption|(go_split_ands;assumption))).mono ?_;rintro e K ⟨rfl,H⟩;have M:Jdp K b p:=Jdp.below (w:=w.drew) (h.of_block rfl) H))
 go_wp2
 go_ret2
 exact⟨rfl,Jw H⟩
theorem Jye:(prog.info? 314).map (·.size)=some 2:=by kernel_rfl
theorem Kfg:liesAt prog prog.depth 314 (2 / prog.cellsOf 314) 0 314 1=true:=by kernel_rfl
theorem Kd2:prog.cellsOf 5=1:=by kernel_rfl
theorem Jrs (b:Nat)(w:World)(h0:w.cell? ⟨b,0,none⟩=some (.pointer (some ⟨b,0,none⟩))) :
  Calls prog 211 #[.pointer (some ⟨b,0,none⟩)] w fun e w'=>e=.returned (.tuple #[])∧w'=w:=by
 obtain⟨j,y,_⟩:=Oe9.1 Jye
 go_enter func211,ntmps211
 go_wp2
 rw[Lib.run_neq_ptr_same w _ underlying312 y]
 go_wp2
 go_end0
 exact⟨rfl,rfl⟩
theorem Jqn (b:Nat)(w:World)(h0:w.cell? ⟨b,0,none⟩=some (.pointer none))(A:w.shape? b=some (314,2))(E:w.frozen? ⟨b,0,none⟩=false) :
  Calls prog 211 #[.pointer (some ⟨b,0,none⟩)] w fun e w'=>e=.returned (.tuple #[])∧w'=w.setCell ⟨b,0,none⟩ (.pointer (some ⟨b,0,none⟩)):=by
 obtain⟨j,y,D⟩:=Oe9.1 Jye
 go_enter func211,ntmps211
 go_wp2
 rw[Lib.run_to_unsafe w ⟨b,0,none⟩ underlying312 underlying185 y (by rw[D];decide) A (Nat.zero_lt_succ 1)]
 simp only[Result.andThen]
 rw[Oper.upon_value]
 go_wp2
 rw[run_callFunc_extern func247 (by kernel_rfl) (by kernel_rfl) (by kernel_rfl) (e:=Extern.AbiNoEscape.same) (by kernel_rfl)]
 rw[Lib.run_noEscape]
 simp only[Result.andThen]
 rw[Oper.upon_value]
 go_wp2
 rw[Lib.run_from_unsafe w ⟨b,0,none⟩ underlying185 underlying312 y A Kfg]
 simp only[Result.andThen]
 rw[Oper.upon_value]
 go_wp2
 go_end0
 exact⟨rfl,rfl⟩
def Jkw (w:World)(B b:Nat)(l:List UInt8):Prop:=Lib.IsBuilder 314 5 B b (l.map bv) w
theorem Kic {w:World}{B b:Nat}{l:List UInt8}(h:Jkw w B b l):∃ p,Lib.BuilderAt 314 5 B b p (l.map bv) w:=by
 rcases h with h|h
 ·exact⟨_,h⟩
 exact⟨_,h⟩
theorem Juu (B b:Nat)(l:List UInt8)(w:World)(h:Jkw w B b l) :
  Calls prog 211 #[.pointer (some ⟨b,0,none⟩)] w fun e w'=>e=.returned (.tuple #[])∧Lib.BuilderAt 314 5 B b (.pointer (some ⟨b,0,none⟩)) (l.map bv) w'∧Below B w w':=by
 rcases h with h|h
 ·refine(Jqn b w h.cell0 h.shape h.frozen0).mono ?_
  rintro e w' ⟨rfl,rfl⟩
  exact⟨rfl,h.used _,(Oa5 B w).setCell (p:=⟨b,0,none⟩) h.1 _⟩
 refine(Jrs b w h.cell0).mono ?_
 rintro e w' ⟨rfl,rfl⟩
 exact⟨rfl,h,Oa5 B _⟩
theorem Juz (l:List UInt8):Lib.strCells (Qw l)=l.map bv:=by
 unfold Lib.strCells Qw
 rfl
theorem Jv2 (B b:Nat)(l t:List UInt8)(w:World)(h:Jkw w B b l)(bx:l.length+t.length≤100000000)(bu:B≤w.heap.size) :
  Calls prog 159 #[.pointer (some ⟨b,0,none⟩),.string (Qw t)] w fun e w'=>e=.returned (.tuple #[.int .i64 (Qw t).size,.nilIface])∧Jkw w' B b (l++t)∧Below B w w':=by
 obtain⟨bj,hi,bf,bh,bi⟩:=info_parts Jfa
 have bc:=Jb2 t
 go_enter func159,ntmps159
 go_wp2_with (go_at_call 211;refine(Juu B b l _ h).mono ?_)
 rintro e w1 ⟨rfl,h1,A⟩
 obtain⟨y,v,E,H,U⟩:=h1
 have c1:w1.cell? ⟨b,1,none⟩=some v:=by rw[Lib.cell_of_heap E];rfl
 have bb:=Lib.BuilderAt.lt (T:=314) (e:=5) (B:=B) (p:=.pointer (some ⟨b,0,none⟩)) (bs:=l.map bv) ⟨y,v,E,H,U⟩
 go_wp2_with (at_builtin;refine Lib.wpList_append_own_string _ rfl _ _ 201 9 rfl B 5 bj underlying201 underlying9 hi bf bh bi _ _ _ rfl H (Qw t) rfl ?c3 ?c4 ?c5 ?_)
 case c3=>unfold maxLen;simp;omega
 case c4=>simp;omega
 case c5=>have:=A.size;omega
 intro bk M X R _
 have D:M.heap[b]?=some (.cells #[.pointer (some ⟨b,0,none⟩),v] 314 (0,0)):=by
  rw[R.block b bb (fun e=>U e.symm)]
  exact E
 have br:M.frozen? ⟨b,1,none⟩=false:=Lib.frozen_of_heap D 1
 have bn:M.cell? ⟨b,1,none⟩=some v:=by rw[Lib.cell_of_heap D];rfl
 obtain⟨O,Z,cap,rfl⟩:∃ O Z cap,bk=.slice O Z cap:=by
  rcases X.2 with⟨K,_⟩|⟨g,cap,bl,K,_⟩
  ·exact⟨_,_,_,K⟩
  exact⟨_,_,_,K⟩
 go_wp2
 go_ret2
 refine⟨rfl,.inr ?_,?_⟩
 ·rw[Ob8,←Juz t]
  exact Lib.BuilderAt.put (T:=314) (e:=5) y D (by simpa [Lib.strCells_length,bc] using X) (by decide)
 exact(A.grown R (by have:=A.size;omega) (fun k ba=>(H.lt k ba).1)).setCell (p:=⟨b,1,none⟩) y _
theorem Jsp (B b:Nat)(l:List UInt8)(w:World)(h:Jkw w B b l)(h0:l≠[]) :
  Calls prog 160 #[.pointer (some ⟨b,0,none⟩)] w fun e w'=>e=.returned (.string (Qw l))∧Below B w w':=by
 obtain⟨p,Z,v,E,A,bh⟩:=Kic h
 have O:l.length≠0:=by simpa using h0
 rw[Oa6]at A
 obtain⟨g,cap,y,rfl,D,K,bf,H,bc,bi⟩:∃ g cap y,v=.slice (some ⟨g,0,none⟩) l.length cap∧B≤g∧w.heap[g]?=some (.cells y 5 (0,0))∧l.length≤cap∧cap≤maxLen∧y.size=cap*1∧y.toList.take (l.length*1)=l.map bv:=by
  rcases A.2 with⟨_,X⟩|⟨g,cap,y,R,r⟩
  ·exact absurd X O
  exact⟨g,cap,y,R,r⟩
 have c1:w.drew.cell? ⟨b,1,none⟩=some (.slice (some ⟨g,0,none⟩) l.length cap):=by
  have:w.drew.heap[b]?=some (.cells #[p,.slice (some ⟨g,0,none⟩) l.length cap] 314 (0,0)):=E
  rw[Lib.cell_of_heap this];rfl
 have ba:(Builtin.unsafeSliceData_ #[201] 211 #[.slice (some ⟨g,0,none⟩) l.length cap]).run prog w.drew=.ok (.pointer (some ⟨g,0,none⟩)) w.drew:=
  Lib.run_unsafeSliceData_row _ _ _ _ _ _ (by omega)
 have bb:(Builtin.unsafeString_ #[211,3] 9 #[.pointer (some ⟨g,0,none⟩),.int .i64 l.length]).run prog w.drew=.ok (.string ⟨l.toArray⟩) (w.drew.freeze ⟨g,0,none⟩ l.length):=by
  refine Lib.run_unsafeString_row w.drew 211 3 9 5 underlying211 Kd2 g y.size (by have M:w.drew.heap[g]?=some (.cells y 5 (0,0)):=K;simp[World.shape?,M]) l h0 (by omega) (by unfold maxLen at H;omega) ?_
  intro j x U
  exact A.cells (g:=g) rfl j (.int .u8 x.toNat) (by simp[U,bv])
 go_enter func160,ntmps160
 go_wp2
 go_region
 all_goals (go_wp2;go_ret;exact⟨rfl,Lib.below_freeze (Below.drew (Oa5 B w)) (p:=⟨g,0,none⟩) D _⟩)
theorem Jkw.new (w:World)(B:Nat)(y:B≤w.heap.size):Jkw (w.alloc (.cells #[.pointer none,.slice none 0 0] 314)) B w.heap.size []:=
 .inl ⟨y,.slice none 0 0,heap_alloc_new _ _,⟨rfl,.inl ⟨rfl,rfl⟩⟩,by simp[Value.ownBlock]⟩
theorem Jkw.below {w w':World}{B b:Nat}{l:List UInt8}(h:Jkw w B b l)(A:Below w.heap.size w w'):Jkw w' B b l:=by
 have K:∀ p,Lib.BuilderAt 314 5 B b p (l.map bv) w→Lib.BuilderAt 314 5 B b p (l.map bv) w':=by
  rintro p ⟨y,v,D,H,E⟩
  exact⟨y,v,by rw[A.block b (Lib.BuilderAt.lt (T:=314) (e:=5) (B:=B) (p:=p) (bs:=l.map bv) ⟨y,v,D,H,E⟩)];exact D,Jaw H A,E⟩
 exact h.imp (K _) (K _)
def Jel (name:ByteArray)(y:List Int)(rs:List (List V)):Prop:=
 (1≤name.size∧name.size≤20)∧((1≤y.length∧y.length≤6)∧∀ j (A:j<y.length),Jnd y[j]=true)∧rs.length≤200∧∀ i (hi:i<rs.length),rs[i].length=y.length∧∀ j (A:j<rs[i].length),okB (y.getD j 0) rs[i][j].k rs[i][j].n rs[i][j].s=true
open Classical in
theorem Kjj (name:ByteArray)(at_ ar:Option Addr)(ct cr:Nat)(ts:List Int)(hs:List (Option Addr×Nat))(rs:List (List V))(w:World)(hnn:name.size≤maxLen)(hn:ts.length≤maxLen)(hr:rs.length≤maxLen)(hrr:∀ r∈rs,r.length≤maxLen)(hx:Kc w at_ ts)(hy:Zd w ar hs rs) :
  Calls prog 43 #[.agg #[.string name,.slice at_ ts.length ct,.slice ar rs.length cr]] w fun e w'=>e=.returned (.bool (decide (Jel name ts rs)))∧Below w.heap.size w w':=by
 have hx0:=hx.below (w':=w.alloc (.cells #[.string name,.slice at_ ts.length ct,.slice ar rs.length cr] 25)) ((Oa5 _ _).alloc (Oa2 _) _)
 obtain⟨bt,hbt⟩:∃ bt:Bool,bt=true↔(1≤ts.length∧ts.length≤6)∧∀ j (hj:j<ts.length),Jnd ts[j]=true:=⟨decide _,decide_eq_true_iff⟩
 have hat:=Kjg at_ ct ts _ hn hx0 bt hbt
 have HT:Hid (bt=true↔(1≤ts.length∧ts.length≤6)∧∀ j (hj:j<ts.length),Jnd ts[j]=true):=hbt
 clear hbt
 unfold maxLen at hnn hn hr
 obtain⟨b,HB⟩:∃ b:Bool,Hid (b=decide (Jel name ts rs)):=⟨_,rfl⟩
 rw[←HB.out]
 have HBI:Hid (b=true↔Jel name ts rs):=by show _↔_;rw[HB.out];exact decide_eq_true_iff
 clear HB hx0
 have hB0:Below w.heap.size w (w.alloc (.cells #[.string name,.slice at_ ts.length ct,.slice ar rs.length cr] 25)):=(Oa5 _ _).alloc (Oa2 _) _
 have no:¬ Jel name ts rs→Hid (b=false):=fun h=>by
  show b=false
  cases hb:b with
  |false=>rfl
  |true=>exact absurd (HBI.out.1 hb) h
 have NO:Hid (¬ Jel name ts rs→Hid (b=false)):=no
 clear no
 by_cases h1:name.size<1
 ·have H0:Hid (b=false):=NO.out fun h=>by have:=h.1;omega
  go_enter func43,ntmps43
  go_wp2_with (go_at_call 58;refine hat.mono ?_;rintro e w' ⟨rfl,hw'⟩;subst w')
  go_ret
  exact⟨Qr H0.out.symm,hB0⟩
 by_cases h2:20<name.size
 ·have H0:Hid (b=false):=NO.out fun h=>by have:=h.1;omega
  go_enter func43,ntmps43
  go_wp2_with (go_at_call 58;refine hat.mono ?_;rintro e w' ⟨rfl,hw'⟩;subst w')
  go_ret
  exact⟨Qr H0.out.symm,hB0⟩
 cases hbt:bt with
 |false=>
  subst hbt
  have H0:Hid (b=false):=NO.out fun h=>by have:=HT.out.2 h.2.1;simp at this
  go_enter func43,ntmps43
  go_wp2_with (go_at_call 58;refine hat.mono ?_;rintro e w' ⟨rfl,hw'⟩;subst w')
  go_ret
  exact⟨Qr H0.out.symm,hB0⟩
 |true=>
  subst hbt
  by_cases h3:200<rs.length
  ·have H0:Hid (b=false):=NO.out fun h=>by have:=h.2.2.1;omega
   go_enter func43,ntmps43
   go_wp2_with (go_at_call 58;refine hat.mono ?_;rintro e w' ⟨rfl,hw'⟩;subst w')
   go_ret
   exact⟨Qr H0.out.symm,hB0⟩
  have HRR:Hid (∀ r∈rs,r.length≤maxLen):=hrr
  clear hrr
  go_enter func43,ntmps43
  go_wp2_with (go_at_call 58;refine hat.mono ?_;rintro e w' ⟨rfl,hw'⟩;subst w')
  go_loopw [30] (fun i wr=>∃ k:Nat,k≤rs.length∧i=.int .i64 k∧Below (w.alloc (.cells #[.string name,.slice at_ ts.length ct,.slice ar rs.length cr] 25)).heap.size (w.alloc (.cells #[.string name,.slice at_ ts.length ct,.slice ar rs.length cr] 25)) wr∧Hid (∀ i (hi:i<rs.length),i<k→rs[i].length=ts.length∧∀ j (hj:j<rs[i].length),okB (ts.getD j 0) rs[i][j].k rs[i][j].n rs[i][j].s=true)) (fun i _=>rs.length-(intOf i).toNat)
  case atStart=>exact⟨0,Ob7 _,rfl,Oa5 _ _,fun j _ hj=>absurd hj (Oe0 _)⟩
  case round=>
   obtain⟨k,hk,rfl,hbw,hall⟩:=hrel
   have hbw0:=Qx hbw
   have c1:wr.cell? ⟨w.heap.size,1,none⟩=some (.slice at_ ts.length ct):=by rw[(Kx hbw).1 w.heap.size 1 (by simp)];simp
   by_cases hlt:k<rs.length
   ·obtain⟨b1,o1,ra,rc,rfl,hb1,x1,hv⟩:=(hy.below hbw0).at hlt
    obtain⟨br,hbr⟩:∃ br:Bool,br=true↔rs[k].length=ts.length∧∀ j (hj:j<rs[k].length),okB (ts.getD j 0) rs[k][j].k rs[k][j].n rs[k][j].s=true:=⟨decide _,decide_eq_true_iff⟩
    have hir:=Kkh ra at_ rc ct rs[k] ts wr (HRR.out _ (Ob3 hlt)) hv (hx.below hbw0) br hbr
    have HR:Hid (br=true↔rs[k].length=ts.length∧∀ j (hj:j<rs[k].length),okB (ts.getD j 0) rs[k][j].k rs[k][j].n rs[k][j].s=true):=hbr
    clear hbr hat
    cases hb:br with
    |false=>
     subst hb
     have H0:Hid (b=false):=NO.out fun h=>by have:=HR.out.2 (h.2.2.2 k hlt);simp at this
     go_wp2_with (go_at_call 59;refine hir.mono ?_;rintro e w' ⟨rfl,hb⟩)
     go_ret
     exact⟨Qr H0.out.symm,Jb hbw0 hb⟩
    |true=>
     subst hb
     go_wp2_with (go_at_call 59;refine hir.mono ?_;rintro e w' ⟨rfl,hb⟩)
     go_roundw
     case rel=>
      refine⟨k+1,by omega,by go_num,Jb hbw hb,fun i hi hik=>?_⟩
      by_cases e:i=k
      ·subst e;exact HR.out.1 (by simp)
      exact hall.out i hi (by omega)
     case measure=>simp[intOf];omega
   go_wp2
   go_ret
   exact⟨Qr (HBI.out.2 ⟨⟨by omega,by omega⟩,HT.out.1 (by simp),by omega,fun i hi=>hall.out i hi (by omega)⟩).symm,hbw0⟩
end Go.Proofs.YtdlgbphkaicfaaaGreatDoor
namespace Go.Proofs.YtdlgbphkaicfaaaGreatDoor
open Go.RowKit
def Jpf (Q:Exit→Act→World→Prop):Exit→Act→World→Prop
 |.normal,a,w=>Q .normal a w
 |_,_,_=>False
theorem Jpf.imp {Q:Exit→Act→World→Prop}:∀ (e:Exit) (a:Act) (w:World),Jpf Q e a w→Q e a w:=fun e a w h=>by
 cases e<;>first|exact h|exact(h:False).elim
theorem Jpf.shut {Q:Exit→Act→World→Prop}:¬ LetsOut (Jpf Q):=fun ⟨_,_,h⟩=>h
def Ki4 (y:Array Oper):Bool:=y.all fun o=>match o.op with|.defer _=>false|_=>true
theorem Kj3 {y:Array Oper}(h:Ki4 y=true){i:Nat}{o:Oper}(D:y[i]?=some o):∀ c,o.op≠.defer c:=by
 intro c A
 obtain⟨hi,rfl⟩:=Oe2.1 D
 have:=Array.all_eq_true.1 h i hi
 rw[A]at this
 simp at this
theorem Kj9 {P:Program}{l n:Nat}{o:Oper}{a:Act}{A:Act→World→Prop}{Q:Exit→Act→World→Prop}{r:Result Next}(h:o.upon P a A Q r):o.uponIn (Fence.wide.inRound l) n P a A Q r:=by
 cases r with
 |ok E w=>
  cases E<;>simp only[Oper.upon]at h
  case value v=>exact h
  case skip=>exact h
  case defer d=>exact h
  case enter f args=>exact⟨fun y=>absurd y (by simp[Fence.inRound,Fence.wide]),CallsIn.inRound l (callsIn_wide.2 h)⟩
  case row row args=>
   refine⟨fun y=>absurd y (by simp[Fence.inRound,Fence.wide]),fun c cs _=>?_⟩
   obtain⟨v,w',D,hs⟩:=h c cs
   exact⟨v,w',D,stepsIn_wide.2 hs⟩
 |halt x w=>
  cases x<;>simp only[Oper.upon]at h
  case panic v=>exact h
theorem Kj1 {P:Program}{l n:Nat}{y:Array Oper}{Q:Exit→Act→World→Prop}(M:Ki4 y=true)(K:¬ LetsOut Q){i:Nat}{D:Act→World→Prop}{a:Act}{w:World}(h:wpOp P y Q i D a w):wpOpIn (Fence.wide.inRound l) n P y Q i D a w:=by
 unfold wpOp at h
 unfold wpOpIn
 cases ho:y[i]? with
 |none=>rw[ho]at h;exact h
 |some o=>
  rw[ho]at h
  simp only at h ⊢
  split
  ·rename_i A
   rw[if_pos A]at h
   have E:=h.resolve_right fun H=>K H.2
   refine⟨fun _ _=>trivial,?_⟩
   rw[Oper.semAt_plain (Fence.wide.inRound l) _ _ (Kj3 M ho)]
   exact Kj9 E
  rename_i A
  rw[if_neg A]at h
  exact⟨fun _ _=>trivial,h⟩
theorem Ki2 {P:Program}{l n:Nat}{H:Region.Mode}{y:Array Oper}{Q:Exit→Act→World→Prop}(D:Ki4 y=true)(A:¬ LetsOut Q):∀ (fuel:Nat) (E:Array Bool) (a:Act) (w:World),wpAny P H y Q fuel E a w→wpAnyIn (Fence.wide.inRound l) n P H y Q fuel E a w
 |0,_,_,_,h=>h
 |fuel+1,_,_,_,h=>⟨h.1,fun i hi=>Kj1 D A (wpOp_mono (fun a' w' K=>Ki2 D A fuel _ a' w' K) (h.2 i hi))⟩
theorem Kix {P:Program}{l n H:Nat}{y:Array Oper}{Q:Exit→Act→World→Prop}{S:World→Prop}{a:Act}{w:World}(D:P.follows .mixedOrders=true)(E:Ki4 y=true)(A:S w.drew)
  (h:S w.drew→wpAnyH P .any y (Jpf Q) S y.size (Array.replicate y.size false) a w.drew):(Code.region H y true).wpIn (Fence.wide.inRound l) n P Q a w:=
 Code.wpIn_mono Jpf.imp (wpIn_region_any D (Ki2 E Jpf.shut _ _ _ _ (wpAny_of_held _ _ _ _ (h A))))
variable {F:Fence} {n:Nat} {P:Program}
def Kh4 {α:Type}(F:Fence)(n:Nat)(P:Program)(g:Nat)(lb:Array Value)(M:α→Array Value)(H:α→World→Prop)(E:World→World→Prop)(S K:List α→Prop)(N:Nat)(w:World):Prop:=
 ∀ (l:Nat) (J D:List α→World→Prop) (W:World),Below w.heap.size w W→AbidesFrom W.heap.size J→AbidesFrom W.heap.size D →
  (∀ y x A,J y A→H x A→y.length<N→YieldAt F (n-1) P l (M x) A fun e W'=>(e=.returned (.bool true)∧J (y++[x]) W'∧E A W')∨(e=.returned (.bool false)∧D (y++[x]) W')) →
  J [] W→CallsIn F n P g (#[.func (.yield l) #[] #[]]++lb) W fun e W'=>(∃ v,e=.returned v)∧((∃ xs,S xs∧J xs W')∨(∃ y,K y∧D y W'))
def Jb8 (B:Nat)(L:Loop)(W:World):Prop:=W.heap[B+1]?=some (.loop L)∧W.heap[B]?=some (.deferred (some []))
theorem Jb8.kept {B:Nat}{L:Loop}{W W':World}{row:Option Nat}(h:Jb8 B L W)(y:W.grownBy W' row)(A:∀ r,row=some r→∃ o:Obj,W.heap[r]?=some o∧o.isWalk=true):Jb8 B L W':=
 ⟨(grownBy_keeps y A h.1 rfl).trans h.1,(grownBy_keeps y A h.2 rfl).trans h.2⟩
theorem Jb8.put {B:Nat}{L y:Loop}{W:World}(h:Jb8 B L W):Jb8 B y (W.putObj (B+1) (.loop y)):=
 ⟨World.putObj_heap_same (Oe2.1 h.1).1,(World.putObj_heap_other (by omega)).trans h.2⟩
theorem Jb8.from {B:Nat}{L:Loop}{W W':World}(h:Jb8 B L W)(y:KeepsFrom B W W'):Jb8 B L W':=⟨y.same _ _ (by omega) h.1 rfl,y.same _ _ (Oa2 _) h.2 rfl⟩
theorem Jg8 {α:Type}{g:Operand}{ps:Array Tmp}{assign body:Code}{Q:Exit→Act→World→Prop}{a:Act}{w:World}
  (bR:F.round=none) (h1:1≤n) {gf:Nat} {lb:Array Value} (bL:a.eval g=.func (.func gf) #[] lb) (bC:F.fn gf) (bB:∀ args w,(callFunc gf args).run P w=.ok (.enter gf args) w)
  {bc:α→Array Value} {bh:α→World→Prop} {O:World→World→Prop} {S bn:List α→Prop} {N:Nat} {bb:World} (bS:Kh4 F (n-1) P gf lb bc bh O S bn N bb)
  (bu:∀ {K B C:World},O K B→O B C→O K C) (hKb:∀ (W:World) (l:Nat) (o bZ:Obj),w.heap.size≤l→W.heap[l]?=some o→o.isCells=false→o.isWalk=false→O W (W.putObj l bZ)) (bx:Below bb.heap.size bb w) (bQ:∀ x,(bc x).size=ps.size)
  (I:List α→World→Prop) (X:Code→List α→World→Prop) (hI:OwnFrom w.heap.size I) (hIx:∀ c,OwnFrom w.heap.size (X c)) (hR:OwnFrom w.heap.size bh) (h0:I [] w) (a₁:α→Act)
  (bG:∀ (l:Nat) (x:α) (W:World) (bl:Act→World→Prop),bl (a₁ x) W→assign.wpIn (F.inRound l) (n-1-1) P (Exit.then bl (fun _ _ _=>False)) {tmps:=(ps.zip (bc x)).foldl (fun t (p,v)=>t.setIfInBounds p v) a.tmps,defers:=[]} W)
  (bH:∀ (l:Nat) (D:List α) (x:α) (W:World),I D W→bh x W→D.length<N→body.wpIn (F.inRound l) (n-1-1) P (ownPostG w.heap.size O I X (D++[x]) W) (a₁ x) W)
  (bJ:∀ (U:Nat) (xs:List α) (W:World),w.heap.size≤U→S xs→I xs W→W.heap[U]?=some (.deferred (some []))→Q .normal {a with defers:={target:=.collected U,args:=#[]}::a.defers} W)
  (bT:∀ (U:Nat) (c:Code) (D:List α) (W:World),w.heap.size≤U→bn D→X c D W→W.heap[U]?=some (.deferred (some []))→c.wpIn F n P Q {a with defers:={target:=.collected U,args:=#[]}::a.defers} W) :
  (Code.rangeFunc g ps assign body).wpIn F n P Q a w:=by
 refine wpIn_rangeFunc fun fn bK=>?_
 rw[bR]
 let A:LoopState→Option Code→Loop:=fun st ca=>{state:=st,pending:=ca,fn,tmps:=a.tmps,params:=ps,assign,body,defers:=w.heap.size}
 let B:=w.heap.size
 let V:=(w.alloc (.deferred (some []))).alloc (.loop (A .ready none))
 have cj:V.heap.size=B+2:=by simp[V,B]
 have bA:Jb8 B (A .ready none) V:=by
  constructor
  ·have:=World.alloc_heap_new (w.alloc (.deferred (some []))) (.loop (A .ready none))
   rw[Oa7]at this
   exact this
  exact(Oa9 _ _ _ (by simp[B])).trans (World.alloc_heap_new w _)
 have bY:I [] V:=hI.alloc _ (hI.alloc _ h0)
 have eV:Below bb.heap.size bb V:=bx.trans ((((Oa5 _ w).alloc (Oa2 _) _).alloc (by simp) _).mono bx.size)
 have walk:∀ {K:World} {row:Option Nat},(∀ r,row=some r→V.heap.size≤r∧∃ o:Obj,K.heap[r]?=some o∧o.isWalk=true)→∀ r,row=some r→B≤r∧∃ o:Obj,K.heap[r]?=some o∧o.isCells=false:=fun H r e=>by
  obtain⟨ch,o,bP,bU⟩:=H r e
  exact⟨by omega,o,bP,Obj.not_cells_of_walk bU⟩
 refine⟨B+1,[{target:=.collected B,args:=#[]}],V,{target:=.fn (.func gf) lb,args:=#[.func (.yield (B+1)) #[] #[]]},V,gf,#[.func (.yield (B+1)) #[] #[]]++lb,V,run_enterLoop_outer _ _ _ _ _,by simp only[resolve,bL];simp[go_sem],fun cf bz=>?_,by simp[invoke,go_sem,bB],fun _=>h1,?_⟩
 ·simp[Target.leads]at bz
  subst bz
  exact bC
 refine(bS (B+1) (fun D W=>I D W∧Jb8 B (A .ready none) W) (fun D W=>∃ c,X c D W∧Jb8 B (A .done (some c)) W) V eV
  (fun s K bf row hs ba H=>⟨hI s K bf row hs.1 ba (walk H),hs.2.kept ba fun r e=>(H r e).2⟩)
  (fun s K bf row hs ba H=>by obtain⟨c,bI,E⟩:=hs;exact⟨c,hIx c s K bf row bI ba (walk H),E.kept ba fun r e=>(H r e).2⟩) ?_ ⟨bY,bA⟩).mono ?_
 ·rintro D x W ⟨hi,E⟩ bW bO
  have bX:=run_yield (P:=P) (args:=bc x) E.1 (bQ x)
  refine⟨fn,_,assign,body,bX,roundIn_of_wpIn bK (bG _ x W _ ⟨_,run_beginRound E.1 rfl,?_⟩)⟩
  have bM:Jb8 B (A .busy none) (W.putObj (B+1) (.loop (A .busy none))):=E.put
  have bV:O W (W.putObj (B+1) (.loop (A .busy none))):=hKb _ _ _ _ (by omega) E.1 rfl rfl
  refine wpIn_mono (bH _ D x _ (hI.putObj _ hi (by omega) E.1 rfl) (hR.putObj _ bW (by omega) E.1 rfl) bO) ?_
  have br:∀ (j:Option Code) (y:World),KeepsFrom w.heap.size (W.putObj (B+1) (.loop (A .busy none))) y→(Instr.endRound (B+1) j).run P y=.ok (.bool j.isNone) (y.putObj (B+1) (.loop (A (if j.isNone then .ready else .done) j)))∧Jb8 B (A .busy none) y∧Jb8 B (A (if j.isNone then .ready else .done) j) (y.putObj (B+1) (.loop (A (if j.isNone then .ready else .done) j))):=fun j y Z=>
   have R:=bM.from Z
   ⟨run_endRound (P:=P) j R.1,R,R.put⟩
  have bk:∀ (c:Code) (y:World),KeepsFrom w.heap.size (W.putObj (B+1) (.loop (A .busy none))) y→X c (D++[x]) y→∃ v W',(Instr.endRound (B+1) (some c)).run P y=.ok v W'∧((Ending.returned v=.returned (.bool true)∧(I (D++[x]) W'∧Jb8 B (A .ready none) W')∧O W W')∨(Ending.returned v=.returned (.bool false)∧∃ c,X c (D++[x]) W'∧Jb8 B (A .done (some c)) W')):=fun c y Z bj=>by
   obtain⟨H,R,bi⟩:=br (some c) y Z
   exact⟨_,_,H,.inr ⟨rfl,c,(hIx _).putObj _ bj (by omega) R.1 rfl,bi⟩⟩
  rintro e cb y M
  cases e with
  |normal=>
   obtain⟨Z,bN,bj⟩:=M
   obtain⟨H,R,bi⟩:=br none y Z
   exact⟨_,_,H,.inl ⟨rfl,⟨hI.putObj _ bj (by omega) R.1 rfl,bi⟩,bu (bu bV bN) (hKb _ _ _ _ (by omega) R.1 rfl rfl)⟩⟩
  |ret=>exact bk _ y M.1 M.2
  |exit ci=>exact bk _ y M.1 M.2
  |goto t=>exact bk _ y M.1 M.2
  |panic cc=>exact M.elim
  |outgrown=>exact M.elim
 rintro e y ⟨⟨v,rfl⟩,(⟨xs,bD,hi,E⟩|⟨D,bE,c,hi,E⟩)⟩
 ·exact⟨none,_,run_endLoop (P:=P) E.1 (by simp[A]),bJ _ xs _ (Oa2 _) bD (hI.putObj _ hi (by omega) E.1 rfl) ((World.putObj_heap_other (by omega)).trans E.2)⟩
 exact⟨some c,_,run_endLoop (P:=P) E.1 (by simp[A]),bT _ c D _ (Oa2 _) bE ((hIx c).putObj _ hi (by omega) E.1 rfl) ((World.putObj_heap_other (by omega)).trans E.2)⟩
theorem Jpa:∀ (l:List Bool)(i:Nat),l[i]?=some false→(l.set i true).countP (fun b=>!b)+1=l.countP (fun b=>!b)
 |[],i,h=>by simp at h
 |b::l,0,h=>by
  simp at h
  subst h
  simp
 |b::l,i+1,h=>by
  rw[List.getElem?_cons_succ]at h
  rw[List.set_cons_succ,On3,On3]
  have:=Jpa l i h
  omega
def Jgv (A:Region.Mode)(y:Array Oper):Bool:=(List.range y.size).all fun i=>((y[i]?).map fun o=>o.after.all fun e=>!Region.binds A e||decide (e.on<i)).getD true
theorem Jqa {D:Region.Mode}{y:Array Oper}(h:Jgv D y=true){i:Nat}{o:Oper}(A:y[i]?=some o):∀ e∈o.after,Region.binds D e=true→e.on<i:=fun e H E=>by
 unfold Jgv at h
 rw[List.all_eq_true]at h
 have hi:i<y.size:=(Oe2.1 A).1
 have:=h i (Oj4.2 hi)
 rw[A]at this
 simp only[Option.map_some,Option.getD_some]at this
 rw[Array.all_eq_true_iff_forall_mem]at this
 have:=this e H
 simpa [E] using this
theorem Jxi {D:Region.Mode}{y:Array Oper}{A:Array Bool}(R:Jgv D y=true)(hs:A.size=y.size)(U:Region.ready D y A=[]):∀ i,i<y.size→A.getD i true=true:=by
 intro i
 induction i using Nat.strongRecOn with
 |_ i X=>
  intro hi
  cases hb:A.getD i true with
  |true=>rfl
  |false=>
   exfalso
   have E:y[i]?=some y[i]:=Array.getElem?_eq_getElem hi
   have:i∈Region.ready D y A:=mem_ready.2 ⟨hb,_,E,fun e K H=>by
    have O:=Jqa R E e K H
    have:=X e.on O (by omega)
    have M:e.on<A.size:=by omega
    simp[M]at this ⊢
    exact this⟩
   rw[U]at this
   cases this
variable {P:Program} {md:Region.Mode} {ops:Array Oper} {Q:Exit→Act→World→Prop}
theorem Joi {I:Array Bool→Act→World→Prop}(M:Jgv md ops=true)
  (O:∀ y a w i o,I y a w→ops[i]?=some o→y.getD i true=false→y.size=ops.size→(∀ e∈o.after,Region.binds md e=true→y.getD e.on false=true)→∀ A:Act→World→Prop,Shut (∀ a' w',I (y.setIfInBounds i true) a' w'→A a' w')→if Region.wanted o (yielded ops a.tmps)=true then Oper.wp P o a w A Q else A (a.put o.dst undef) w)
  (E:∀ y a w,I y a w→(∀ i,i<ops.size→y.getD i true=true)→y.size=ops.size→Q .normal a w) :
  ∀ fuel y a w,y.size=ops.size→y.toList.countP (fun b=>!b)≤fuel→I y a w→wpAny P md ops Q fuel y a w
 |0,y,a,w,hs,Z,hI=>by
  have K:∀ i,i<ops.size→y.getD i true=true:=fun i hi=>by
   have D:i<y.size:=by omega
   cases hb:y.getD i true with
   |true=>rfl
   |false=>
    exfalso
    simp[D]at hb
    have h0:0<y.toList.countP (fun b=>!b):=List.countP_pos_iff.2 ⟨y[i],by simp,by simp[hb]⟩
    omega
  refine⟨?_,E y a w hI K hs⟩
  cases H:Region.ready md ops y with
  |nil=>rfl
  |cons j rs=>
   have ba:j∈Region.ready md ops y:=by rw[H];exact Of4 ..
   obtain⟨h1,o,h2,_⟩:=mem_ready.1 ba
   have:=K j (Oe2.1 h2).1
   rw[this]at h1
   cases h1
 |fuel+1,y,a,w,hs,Z,hI=>by
  refine⟨fun H=>E y a w hI (Jxi M hs H) hs,fun i hi=>?_⟩
  obtain⟨h1,o,h2,R⟩:=mem_ready.1 hi
  have bc:i<ops.size:=(Oe2.1 h2).1
  refine wpOp_step h2 fun A X=>O y a w i o hI h2 h1 hs R A fun a' w' U=>X a' w' (Joi M O E fuel _ a' w' (by simpa using hs) ?_ U)
  have D:i<y.size:=by omega
  have bb:y.toList[i]?=some false:=by
   simp[D]at h1
   simp[D,h1]
  have:=Jpa y.toList i bb
  rw[Ok0]
  omega
theorem Jns {M:Nat}{a:Act}{w:World}(J:Act→World→Array Bool→Act→World→Prop)(E:P.follows .mixedOrders=true)(H:Jgv .any ops=true)
  (h0:J a w (Array.replicate ops.size false) a w.drew)
  (K:∀ y b x i o,J a w y b x→ops[i]?=some o→y.getD i true=false→y.size=ops.size→(∀ e∈o.after,Region.binds .any e=true→y.getD e.on false=true)→∀ A:Act→World→Prop,Shut (∀ a' w',J a w (y.setIfInBounds i true) a' w'→A a' w')→if Region.wanted o (yielded ops b.tmps)=true then Oper.wp P o b x A Q else A (b.put o.dst undef) x)
  (D:∀ y b x,J a w y b x→(∀ i,i<ops.size→y.getD i true=true)→y.size=ops.size→Q .normal b x):(Code.region M ops true).wp P Q a w:=by
 refine wp_region_any E (Joi (I:=J a w) H K D ops.size _ a _ (by simp) ?_ h0)
 refine Ob2 List.countP_le_length ?_
 simp
def Kh (P:Program)(E:Region.Mode)(D:Array Oper)(Q:Exit→Act→World→Prop)(I:Array Bool→Act→World→Prop)(rs:List Nat):Prop:=
 ∀ i∈rs,∀ y a w o,I y a w→D[i]?=some o→y.getD i true=false→y.size=D.size→(∀ e∈o.after,Region.binds E e=true→y.getD e.on false=true)→∀ A:Act→World→Prop,Shut (∀ a' w',I (y.setIfInBounds i true) a' w'→A a' w')→if Region.wanted o (yielded D a.tmps)=true then Oper.wp P o a w A Q else A (a.put o.dst undef) w
theorem Kh.nil {I:Array Bool→Act→World→Prop}:Kh P md ops Q I []:=fun _ h=>by cases h
theorem Kh.cons {I:Array Bool→Act→World→Prop}{i:Nat}{o:Oper}{rs:List Nat}(K:ops[i]?=some o)
  (h:∀ y a w,I y a w→y.getD i true=false→(∀ e∈o.after,Region.binds md e=true→y.getD e.on false=true)→∀ A:Act→World→Prop,Shut (∀ a' w',I (y.setIfInBounds i true) a' w'→A a' w')→if Region.wanted o (yielded ops a.tmps)=true then Oper.wp P o a w A Q else A (a.put o.dst undef) w)
  (hs:Kh P md ops Q I rs):Kh P md ops Q I (i::rs):=fun j D=>by
 rcases Of1.1 D with rfl|D
 ·intro y a w M hI E hn _ H
  rw[K]at E
  cases E
  exact h y a w hI hn H
 exact hs j D
theorem Jkk {R:Nat}{a:Act}{w:World}(J:Act→World→Array Bool→Act→World→Prop)(rs:List Nat)(H:P.follows .mixedOrders=true)(K:Jgv .any ops=true)(M:List.range ops.size=rs)
  (h0:J a w (Array.replicate ops.size false) a w.drew) (O:Kh P .any ops Q (J a w) rs)
  (E:∀ y b x,J a w y b x→(∀ i,i<ops.size→y.getD i true=true)→y.size=ops.size→Q .normal b x):(Code.region R ops true).wp P Q a w:=
 Jns J H K h0 (fun y b x i o hI A hn hs D=>O i (by rw[←M];exact Oj4.2 (Oe2.1 A).1) y b x o hI A hn hs D) E
abbrev dn (l:Array Bool)(k:Nat):Prop:=l.getD k false=true
theorem Ki {l:Array Bool}{i k:Nat}(h:dn (l.setIfInBounds i true) k)(y:k≠i):dn l k:=by
 unfold dn at *
 rw[Oj5]at *
 rwa [Array.getElem?_setIfInBounds_ne (Oc5 y)]at h
theorem Kq {l:Array Bool}{i k:Nat}(h:dn l k):dn (l.setIfInBounds i true) k:=by
 unfold dn at *
 rw[Oj5]at *
 by_cases e:i=k
 ·subst e
  by_cases y:i<l.size
  ·rw[Oo4 y];rfl
  rw[Og9 (by omega)]at h;cases h
 rwa [Array.getElem?_setIfInBounds_ne e]
theorem Yb {l:Array Bool}{i:Nat}(h:l.getD i true=false):¬ dn l i:=fun y=>by
 unfold dn at y
 rw[Oj5]at *
 cases e:l[i]? with
 |none=>rw[e]at h;cases h
 |some b=>rw[e]at h y;simp at h y;rw[h]at y;cases y
theorem Kf6 {n k:Nat}:¬ dn (Array.replicate n false) k:=fun h=>by
 unfold dn at h
 rw[Oj5]at h
 by_cases y:k<n
 ·simp[y]at h
 simp[y]at h
end Go.Proofs.YtdlgbphkaicfaaaGreatDoor
