/- Rows in memory; what a table is, and in which ways it can be written: the program's own checks. -/
import Derived.Test.YtcaocabmioafcaaGreatDoorKa
import Derived.RangeFuncNested
import Derived.RangeFuncBound
import Derived.RangeFuncCalls
import Derived.RangeFuncLeaves
import Derived.Shelf.Abstract
import Derived.Shelf.RegionOpen
import Derived.WalkKit
import Derived.OwnWalkIn
import Derived.TacticsInMore
import Derived.LoopNIn
import Derived.LoopIn
import Derived.Deep.RegionLaw
import Derived.Deep.RegionHeld3
import Derived.Deep.RegionWith
import Derived.Lib.Builder
import Derived.Lib.AppendStr
import Derived.Lib.UnsafeStr
import Derived.OrdersIn
import Derived.Test.YtcaocabmioafcaaGreatDoorDb
set_option maxHeartbeats 2000000
set_option maxRecDepth 100000
namespace Go.Proofs.YtcaocabmioafcaaGreatDoor
section
open Go.RowKit Tryz
def iv (n:Int):Value:=.int .i64 n
abbrev Kc (w:World)(a:Option Addr)(A:List Int):Prop:=Uh w a (A.map iv)
theorem Kc.at {w:World}{a:Option Addr}{A:List Int}(h:Kc w a A){i:Nat}(hi:i<A.length):∃ b o,a=some ⟨b,o,none⟩∧b<w.heap.size∧w.cell? ⟨b,o+i,none⟩=some (.int .i64 A[i]):=by
 obtain⟨b,o,H,I,J⟩:=Uh.at h (i:=i) (by simpa using hi)
 exact⟨b,o,H,I,by rw[J];simp[iv]⟩
def Je1 (h:Option Addr×Nat)(r:List V):Value:=.slice h.1 r.length h.2
structure Zd (w:World) (a:Option Addr) (hs:List (Option Addr×Nat)) (rs:List (List V)):Prop where
 len:hs.length=rs.length
 cells:Uh w a (List.zipWith Je1 hs rs)
 rows:∀ (i:Nat) h r,hs[i]?=some h→rs[i]?=some r→Jv w h.1 r
theorem Zd.below {w w':World}{a:Option Addr}{hs:List (Option Addr×Nat)}{rs:List (List V)}(h:Zd w a hs rs)(A:Below w.heap.size w w'):Zd w' a hs rs:=
 ⟨h.len,h.cells.below A,fun i x r I H=>(h.rows i x r I H).below A⟩
theorem Zd.at {w:World}{a:Option Addr}{hs:List (Option Addr×Nat)}{rs:List (List V)}(h:Zd w a hs rs){i:Nat}(hi:i<rs.length) :
  ∃ b o A L,a=some ⟨b,o,none⟩∧b<w.heap.size∧w.cell? ⟨b,o+i,none⟩=some (.slice A rs[i].length L)∧Jv w A rs[i]:=by
 have K:i<hs.length:=by rw[h.len];exact hi
 obtain⟨b,o,H,I,J⟩:=h.cells.at (i:=i) (by simp;omega)
 exact⟨b,o,hs[i].1,hs[i].2,H,I,by rw[J];simp[Je1],h.rows i hs[i] rs[i] (by simp[K]) (by simp[hi])⟩
def Jnd (t:Int):Bool:=decide (1≤t∧t≤3)
theorem Kjg (a:Option Addr)(cap:Nat)(ts:List Int)(w:World)(O:ts.length≤maxLen)(U:Kc w a ts)(b:Bool)(M:b=true↔(1≤ts.length∧ts.length≤6)∧∀ j (A:j<ts.length),Jnd ts[j]=true) :
  Calls prog 124 #[.slice a ts.length cap] w fun e w'=>e=.returned (.bool b)∧w'=w:=by
 unfold maxLen at O
 have I:Hid (b=true↔(1≤ts.length∧ts.length≤6)∧∀ j (A:j<ts.length),Jnd ts[j]=true):=M
 clear M
 by_cases ba:ts.length<1
 ·go_enter func124,ntmps124
  go_wp2
  go_ret
  refine⟨Qr ?_,rfl⟩
  cases b
  ·rfl
  have:=(I.out.1 rfl).1;omega
 by_cases Z:6<ts.length
 ·go_enter func124,ntmps124
  go_wp2
  go_ret
  refine⟨Qr ?_,rfl⟩
  cases b
  ·rfl
  have:=(I.out.1 rfl).1;omega
 go_enter func124,ntmps124
 go_wp2
 go_loop [15] (fun i=>∃ k:Nat,k≤ts.length∧i=.int .i64 k∧Hid (∀ j (A:j<ts.length),j<k→Jnd ts[j]=true)) (fun i=>ts.length-(intOf i).toNat)
 case atStart=>exact⟨0,Ob7 _,rfl,fun j _ A=>absurd A (Oe0 _)⟩
 case round=>
  obtain⟨k,hk,rfl,L⟩:=hrel
  by_cases N:k<ts.length
  ·obtain⟨b1,o1,rfl,X,bb⟩:=U.at N
   have J:=Jlh ts[k] w
   cases ho:Jnd ts[k]
   ·have K:Hid (Jnd ts[k]=false):=ho
    have H:decide (1≤ts[k]∧ts[k]≤3)=false:=ho
    rw[H]at J
    clear ho H
    go_wp2_with (go_at_call 155;refine J.mono ?_;rintro e w' ⟨rfl,R⟩;subst w')
    go_ret
    refine⟨Qr ?_,rfl⟩
    cases b
    ·rfl
    have:=(I.out.1 rfl).2 k N
    rw[K.out]at this
    exact absurd this (by decide)
   have K:Hid (Jnd ts[k]=true):=ho
   have H:decide (1≤ts[k]∧ts[k]≤3)=true:=ho
   rw[H]at J
   clear ho H
   go_wp2_with (go_at_call 155;refine J.mono ?_;rintro e w' ⟨rfl,R⟩;subst w')
   go_round
   case rel=>
    refine⟨k+1,by omega,by go_num,fun j A Y=>?_⟩
    by_cases e:j=k
    ·subst e;exact K.out
    exact L.out j A (by omega)
   case measure=>simp[intOf];omega
  go_wp2
  go_ret
  exact⟨Qr (I.out.2 ⟨by omega,fun j A=>L.out j A (by omega)⟩).symm,rfl⟩
theorem Kjr (a N:Option Addr)(cap Y:Nat)(hs ts:List Int)(w:World)(ba:hs.length≤maxLen)(bc:Kc w a hs)(bf:Kc w N ts)(b:Bool)(R:b=true↔hs.length=ts.length∧∀ j (A:j<hs.length),way (ts.getD j 0) hs[j]=true) :
  Calls prog 89 #[.slice a hs.length cap,.slice N ts.length Y] w fun e w'=>e=.returned (.bool b)∧w'=w:=by
 unfold maxLen at ba
 have J:Hid (b=true↔hs.length=ts.length∧∀ j (A:j<hs.length),way (ts.getD j 0) hs[j]=true):=R
 clear R
 by_cases I:hs.length=ts.length
 ·have M:Hid (hs.length=ts.length):=I
  have Z:((hs.length:Int) != (ts.length:Int))=false:=by simp[I]
  clear I
  go_enter func89,ntmps89
  go_wp2
  go_loop [14] (fun i=>∃ k:Nat,k≤hs.length∧i=.int .i64 k∧Hid (∀ j (A:j<hs.length),j<k→way (ts.getD j 0) hs[j]=true)) (fun i=>hs.length-(intOf i).toNat)
  case atStart=>exact⟨0,Ob7 _,rfl,fun j _ A=>absurd A (Oe0 _)⟩
  case round=>
   obtain⟨k,hk,rfl,O⟩:=hrel
   by_cases U:k<hs.length
   ·have X:k<ts.length:=by have:=M.out;omega
    obtain⟨b1,o1,rfl,bh,bk⟩:=bc.at U
    obtain⟨b2,o2,rfl,bi,bl⟩:=bf.at X
    have H:=Ja3 ts[k] hs[k] w
    have L:Hid (ts.getD k 0=ts[k]):=by show _=_;simp[X]
    cases ho:way ts[k] hs[k]
    ·have K:Hid (way ts[k] hs[k]=false):=ho
     rw[ho]at H
     clear ho
     go_wp2_with (go_at_call 126;refine H.mono ?_;rintro e w' ⟨rfl,bb⟩;subst w')
     go_ret
     refine⟨Qr ?_,rfl⟩
     cases b
     ·rfl
     have:=(J.out.1 rfl).2 k U
     rw[L.out,K.out]at this
     exact absurd this (by decide)
    have K:Hid (way ts[k] hs[k]=true):=ho
    rw[ho]at H
    clear ho
    go_wp2_with (go_at_call 126;refine H.mono ?_;rintro e w' ⟨rfl,bb⟩;subst w')
    go_round
    case rel=>
     refine⟨k+1,by omega,by go_num,fun j A bj=>?_⟩
     by_cases e:j=k
     ·subst e;rw[L.out];exact K.out
     exact O.out j A (by omega)
    case measure=>simp[intOf];omega
   go_wp2
   go_ret
   exact⟨Qr (J.out.2 ⟨M.out,fun j A=>O.out j A (by omega)⟩).symm,rfl⟩
 have Z:((hs.length:Int) != (ts.length:Int))=true:=by simp;omega
 go_enter func89,ntmps89
 go_wp2
 go_ret
 refine⟨Qr ?_,rfl⟩
 cases b
 ·rfl
 exact absurd (J.out.1 rfl).1 I
theorem Kkh (a U:Option Addr)(cap ba:Nat)(vs:List V)(ts:List Int)(w:World)(bc:vs.length≤maxLen)(bf:Jv w a vs)(bh:Kc w U ts)(b:Bool)(H:b=true↔vs.length=ts.length∧∀ j (A:j<vs.length),okB (ts.getD j 0) vs[j].k vs[j].n vs[j].s=true) :
  Calls prog 125 #[.slice a vs.length cap,.slice U ts.length ba] w fun e w'=>e=.returned (.bool b)∧Below w.heap.size w w':=by
 unfold maxLen at bc
 have L:Hid (b=true↔vs.length=ts.length∧∀ j (A:j<vs.length),okB (ts.getD j 0) vs[j].k vs[j].n vs[j].s=true):=H
 clear H
 by_cases K:vs.length=ts.length
 ·have R:Hid (vs.length=ts.length):=K
  have bb:((vs.length:Int) != (ts.length:Int))=false:=by simp[K]
  clear K
  go_enter func125,ntmps125
  go_wp2
  go_loopw [14] (fun i wr=>∃ k:Nat,k≤vs.length∧i=.int .i64 k∧Below w.heap.size w wr∧Hid (∀ j (A:j<vs.length),j<k→okB (ts.getD j 0) vs[j].k vs[j].n vs[j].s=true)) (fun i _=>vs.length-(intOf i).toNat)
  case atStart=>exact⟨0,Ob7 _,rfl,Oa5 _ _,fun j _ A=>absurd A (Oe0 _)⟩
  case round=>
   obtain⟨k,hk,rfl,J,X⟩:=hrel
   by_cases Y:k<vs.length
   ·have Z:k<ts.length:=by have:=R.out;omega
    obtain⟨b1,o1,rfl,bi,bl,bn,br⟩:=(bf.below J).at Y
    obtain⟨b2,o2,rfl,bj,bu⟩:=Kc.at (bh.below J) Z
    have O:Hid (ts.getD k 0=ts[k]):=by show _=_;simp[Z]
    have I:=fun (W:World)=>Jmd vs[k].k vs[k].n vs[k].s ts[k] W
    cases ho:okB ts[k] vs[k].k vs[k].n vs[k].s
    ·have N:Hid (okB ts[k] vs[k].k vs[k].n vs[k].s=false):=ho
     rw[ho]at I
     have M:Hid (∀ W:World,Calls prog 156 #[.agg #[.int .i64 vs[k].k,.int .i64 vs[k].n,.string vs[k].s],.int .i64 ts[k]] W fun e w'=>e=.returned (.bool false)∧Below W.heap.size W w'):=I
     clear I
     clear ho
     go_wp2_with fail
     go_region_with (first|(go_at_call 156;refine(M.out _).mono ?_;rintro e w' ⟨rfl,H⟩))
     all_goals
      go_wp2
      go_ret
      refine⟨Qr ?_,Jb J (Qx (Jw H))⟩
      cases b
      ·rfl
      have:=(L.out.1 rfl).2 k Y
      rw[O.out,N.out]at this
      exact absurd this (by decide)
    have N:Hid (okB ts[k] vs[k].k vs[k].n vs[k].s=true):=ho
    rw[ho]at I
    have M:Hid (∀ W:World,Calls prog 156 #[.agg #[.int .i64 vs[k].k,.int .i64 vs[k].n,.string vs[k].s],.int .i64 ts[k]] W fun e w'=>e=.returned (.bool true)∧Below W.heap.size W w'):=I
    clear I ho
    go_wp2_with fail
    go_region_with (first|(go_at_call 156;refine(M.out _).mono ?_;rintro e w' ⟨rfl,H⟩))
    all_goals
     go_wp2
     go_roundw
     case rel=>
      refine⟨k+1,by omega,by go_num,Jb J (Qx (Jw H)),fun j A bk=>?_⟩
      by_cases e:j=k
      ·subst e;rw[O.out];exact N.out
      exact X.out j A (by omega)
     case measure=>simp[intOf];omega
   go_wp2
   go_ret
   exact⟨Qr (L.out.2 ⟨R.out,fun j A=>X.out j A (by omega)⟩).symm,J⟩
 have bb:((vs.length:Int) != (ts.length:Int))=true:=by simp;omega
 go_enter func125,ntmps125
 go_wp2
 go_ret
 refine⟨Qr ?_,Oa5 _ _⟩
 cases b
 ·rfl
 exact absurd (L.out.1 rfl).1 K
end
section
open Go.RowKit Go.Shelf Tryz
attribute [local go_sem] Oc0
abbrev Ck (len:Nat):Type:={x:Nat×Nat // x.1+x.2≤len∧1≤x.2∧x.2≤64}
def Jaa (len g i:Nat):Nat×Nat:=(i*g,min g (len-i*g))
def cks (len g k:Nat):List (Nat×Nat):=(List.range k).map (Jaa len g)
def ckN (len g:Nat):Nat:=(len+g-1) / g
theorem Jbj (len g k:Nat):cks len g (k+1)=cks len g k++[Jaa len g k]:=by simp[cks,List.range_succ]
theorem Jbp (len g k:Nat):(cks len g k).length=k:=by simp[cks]
theorem Jqs {len g k:Nat}(H:1≤g)(h:k<ckN len g):k*g<len:=by
 unfold ckN at h
 have A:k+1≤(len+g-1) / g:=h
 rw[Nat.le_div_iff_mul_le (by omega)]at A
 rw[Of5]at A
 omega
theorem Khi {len g k:Nat}(A:1≤g)(h:k*g<len):k<ckN len g:=by
 unfold ckN
 have:k+1≤(len+g-1) / g:=by
  rw[Nat.le_div_iff_mul_le (by omega),Of5]
  omega
 exact this
def KpC (H A:Nat)(W I:World):Prop:=I.heap[H]?=W.heap[H]?∧I.heap[A]?=W.heap[A]?
theorem Kkd (n:Nat)(bN:1≤n)(l K I b O len cap g:Nat)(Y:1≤g)(bH:g≤64)(bI:len≤1000)(bG:len≤cap)(H U:List (Ck len)→World→Prop)
  (bz:∀ pre (x:Ck len) W,H pre W→pre.length<ckN len g→YieldAt Fence.wide (n-1) prog l #[.slice (some ⟨b,O+x.1.1,none⟩) x.1.2 x.1.2] W fun e J=>
   (e=.returned (.bool true)∧H (pre++[x]) J∧KpC K I W J)∨(e=.returned (.bool false)∧U (pre++[x]) J))
  (br:∀ s W,H s W→H s W.drew) (W:World) (bl:W.cell? ⟨K,0,none⟩=some (.slice (some ⟨b,O,none⟩) len cap)) (bk:W.cell? ⟨I,0,none⟩=some (.int .i64 (g:Int))) (h0:H [] W) :
  CallsIn Fence.wide n prog 157 #[.func (.yield l) #[] #[],.pointer (some ⟨K,0,none⟩),.pointer (some ⟨I,0,none⟩)] W fun e J=>(∃ v,e=.returned v) ∧
   ((∃ A,A.map Subtype.val=cks len g (ckN len g)∧H A J)∨(∃ pre,(∃ k,k≤ckN len g∧pre.map Subtype.val=cks len g k)∧U pre J)):=by
 refine callsIn_of_wp func157 rfl trivial ?_ rfl
 simp only[ntmps157,Om3,List.length_cons,List.length_nil,Nat.reduceAdd,Nat.reduceSub,Ok9,Array.replicate_zero,Om4,Ol2,List.nil_append,List.cons_append]
 gi_wp2
 gi_loopw [4] (fun i wr=>∃ (k:Nat) (A:List (Ck len)),k≤ckN len g∧i=.int .i64 ((k*g:Nat):Int)∧Hid (A.map Subtype.val=cks len g k)∧H A wr∧KpC K I W wr)
  (fun i _=>len+64-(intOf i).toNat)
 case atStart=>exact⟨0,[],Ob7 _,by simp,rfl,h0,rfl,rfl⟩
 case round=>
  obtain⟨k,A,hk,rfl,L,X,Z,ba⟩:=hrel
  have c1:wr.cell? ⟨K,0,none⟩=some (.slice (some ⟨b,O,none⟩) len cap):=by rw[Oc3 (w:=W) Z];exact bl
  have c2:wr.cell? ⟨I,0,none⟩=some (.int .i64 (g:Int)):=by rw[Oc3 (w:=W) ba];exact bk
  by_cases bf:k*g<len
  ·have bc:=Khi Y bf
   have M:Hid (cks len g (k+1)=cks len g k++[(k*g,min g (len-k*g))]):=Jbj len g k
   have bi:Hid ((k+1)*g=k*g+g):=Of5 k g
   have bD:A.length=k:=by have:=congrArg List.length L.out;rw[Oa6,Jbp]at this;exact this
   generalize k*g=i at *
   obtain⟨m,N,R⟩:∃ m:Nat,(i+m≤len∧1≤m∧m≤64)∧Hid (m=min g (len-i)):=⟨min g (len-i),by omega,rfl⟩
   rw[←R.out]at M
   have bM:(if len-i<g then ((len-i:Nat):Int)else (g:Int))=(m:Int):=by have:=R.out;split<;>omega
   obtain⟨bE,tmps,assign,Jfo,bC,bx⟩:=bz A ⟨(i,m),N⟩ wr.drew (br _ _ X) (by omega)
   dsimp only at bC
   clear bD
   have bB:=N
   obtain⟨bJ,bK,bL⟩:=N
   gi_wp2
   gi_region
   gi_wp2
   refine bx.mono ?_
   rintro e bj (⟨rfl,bn,bA,bb⟩|⟨rfl,bu⟩)
   ·have c3:bj.cell? ⟨I,0,none⟩=some (.int .i64 (g:Int)):=by rw[Oc3 (w:=wr.drew) bb];exact c2
    gi_wp2
    go_roundw
    case rel=>exact⟨k+1,A++[⟨(i,m),bB⟩],bc,by rw[bi.out];go_num,by show _=_;rw[Ob8,L.out,M.out];rfl,bn,bA.trans Z,bb.trans ba⟩
    case measure=>simp[intOf];omega
   gi_wp2
   refine bodyPost_ret (results_none rfl _ _ _) rfl ?_
   exact⟨⟨_,rfl⟩,.inr ⟨_,⟨k+1,bc,by rw[Ob8,L.out,M.out];rfl⟩,bu⟩⟩
  have bh:Hid (k=ckN len g):=by
   rcases Oc1 k (ckN len g)with h'|h'
   ·exact absurd (Jqs Y h') bf
   ·show k=_;omega
  gi_wp2
  go_end0
  exact⟨⟨_,rfl⟩,.inl ⟨A,by rw[L.out,bh.out],X⟩⟩
end
section
open Go.RowKit Tryz
def Kr9:V:=⟨-7,0,⟨#[109,97,114,107]⟩⟩
theorem Ja5 (vs:List V):(vs.flatMap V.cells).length=vs.length*3:=by
 induction vs with
 |nil=>rfl
 |cons v vs A=>rw[Og7,Oa8,A];simp[V.cells];omega
theorem Kem {w:World}{b o:Nat}{xs:List V}(h:∀ i v,xs[i]?=some v→VAt w b (o+i*3) v):∀ j u,(xs.flatMap V.cells)[j]?=some u→w.cell? ((⟨b,o,none⟩:Addr).add j)=some u:=by
 intro j u N
 have R:∀ (H:List V) (j:Nat) (u:Value),(H.flatMap V.cells)[j]?=some u→∃ i v,H[i]?=some v∧((j=i*3∧u=.int .i64 v.k)∨(j=i*3+1∧u=.int .i64 v.n)∨(j=i*3+2∧u=.string v.s)):=by
  intro H
  induction H with
  |nil=>intro j u h;simp at h
  |cons v H O=>
   intro j u h
   match j,h with
   |0,h=>exact⟨0,v,rfl,by simp[V.cells]at h;simp[h]⟩
   |1,h=>exact⟨0,v,rfl,by simp[V.cells]at h;simp[h]⟩
   |2,h=>exact⟨0,v,rfl,by simp[V.cells]at h;simp[h]⟩
   |j+3,h=>
    obtain⟨i,U,hi,I⟩:=O j u (by simpa [V.cells] using h)
    refine⟨i+1,U,by simpa using hi,?_⟩
    rcases I with⟨e,A⟩|⟨e,A⟩|⟨e,A⟩
    ·exact .inl ⟨by omega,A⟩
    ·exact .inr (.inl ⟨by omega,A⟩)
    exact .inr (.inr ⟨by omega,A⟩)
 obtain⟨i,v,hi,I⟩:=R xs j u N
 obtain⟨J,K,L⟩:=h i v hi
 have M:(⟨b,o,none⟩:Addr).add j=⟨b,o+j,none⟩:=by unfold Addr.add;split<;>simp_all
 rw[M]
 rcases I with⟨e,A⟩|⟨e,A⟩|⟨e,A⟩
 ·rw[e,A];exact J
 ·rw[e,A,←On5];exact K
 rw[e,A,←On5];exact L
theorem Kap (vs:List V):∀ u∈vs.flatMap V.cells,u.oneCell'=true:=by
 intro u H
 obtain⟨v,_,A⟩:=Op5.1 H
 simp[V.cells]at A
 rcases A with rfl|rfl|rfl<;>rfl
theorem Kyo (w:World)(ty:TypeId)(g K N:Nat)(a:Option Addr)(cap:Nat)(xs:List V)(I:Jv w a xs)(J:Array Value)(R:w.heap[g]?=some (.cells J 55 (0,0)))(O:xs.length≤K)(ba:xs.length*3≤J.size) :
  (Builtin.copy_ #[56,56] ty #[.slice (some ⟨g,0,none⟩) K N,.slice a xs.length cap]).run prog w=
   .ok (goInt xs.length) (w.setRow g (xs.flatMap V.cells++J.toList.drop (xs.length*3)).toArray):=by
 obtain⟨i,hi,bb,X,Z⟩:=info_parts Jow
 have U:Nat.min xs.length K=xs.length:=Oj1 O
 have M:=Ja5 xs
 have H:=run_storeCells_at prog g 0 55 (xs.flatMap V.cells) 0 J w R (by omega) (Kap xs)
 simp only[Od0,List.take_zero,List.nil_append,M]at H
 have L:prog.underlying 56=some (.slice 55):=by kernel_rfl
 rcases I with I|⟨b,o,rfl,Y,I⟩
 ·subst I
  simp at H
  cases a with
  |none=>simp[Builtin.copy_,run_underlying L,Builtin.lenOf,Builtin.firstCells,sizeOf,typeInfo,hi,H]
  |some a=>
   have A:=run_loadCells_list (P:=prog) w a [] (by intro j v h;simp at h)
   rw[List.length_nil]at A
   simp[Builtin.copy_,run_underlying L,Builtin.lenOf,Builtin.firstCells,sizeOf,typeInfo,hi,A,H]
 have A:=run_loadCells_list (P:=prog) w ⟨b,o,none⟩ (xs.flatMap V.cells) (Kem I)
 rw[M]at A
 simp[Builtin.copy_,run_underlying L,Builtin.lenOf,Builtin.firstCells,sizeOf,typeInfo,hi,X,U,A,H]
def Kv (w:World)(g:Nat)(vs:List V)(A:List Value):Prop:=∃ C:Array Value,w.heap[g]?=some (.cells C 55 (0,0))∧C.toList=vs.flatMap V.cells++A
theorem Kv.of_block {w w':World}{g:Nat}{vs:List V}{A:List Value}(h:Kv w g vs A)(e:w'.heap[g]?=w.heap[g]?):Kv w' g vs A:=by
 obtain⟨C,I,H⟩:=h
 exact⟨C,by rw[e];exact I,H⟩
theorem Kv.lt {w:World}{g:Nat}{vs:List V}{I:List Value}(h:Kv w g vs I):g<w.heap.size:=by
 obtain⟨C,H,_⟩:=h
 rcases Oc1 g w.heap.size with A|A
 ·exact A
 simp[Array.getElem?_eq_none A]at H
theorem Kv.cell {w:World}{g:Nat}{vs:List V}{H:List Value}(h:Kv w g vs H){j:Nat}{x:Value}(J:H[j]?=some x):w.cell? ⟨g,vs.length*3+j,none⟩=some x∧w.frozen? ⟨g,vs.length*3+j,none⟩=false:=by
 obtain⟨C,A,I⟩:=h
 have:C[vs.length*3+j]?=some x:=by
  rw[←Oe6,I,Ob6 (by rw[Ja5];omega),Ja5]
  have e:vs.length*3+j-vs.length*3=j:=by omega
  rw[e];exact J
 exact⟨by simp[World.cell?,A,this],by simp[World.frozen?,A]⟩
theorem Kv.vals {w:World}{g:Nat}{vs:List V}{Y:List Value}(h:Kv w g vs Y):Jv w (some ⟨g,0,none⟩) vs:=by
 have M:=h.lt
 obtain⟨C,L,I⟩:=h
 have N:w.ownsRow 0 55 3 (.slice (some ⟨g,0,none⟩) vs.length C.size) vs.length (vs.flatMap V.cells)→True:=fun _=>trivial
 clear N
 refine .inr ⟨g,0,rfl,M,fun i v hi=>?_⟩
 have X:∀ (A:List V) (i:Nat) (v:V),A[i]?=some v→(A.flatMap V.cells)[i*3]?=some (.int .i64 v.k)∧(A.flatMap V.cells)[i*3+1]?=some (.int .i64 v.n)∧(A.flatMap V.cells)[i*3+2]?=some (.string v.s):=by
  intro A
  induction A with
  |nil=>intro i v h;simp at h
  |cons u A O=>
   intro i v h
   cases i with
   |zero=>simp at h;subst h;simp[V.cells]
   |succ i=>
    have:=O i v (by simpa using h)
    have J:(i+1)*3=i*3+3:=by omega
    simp only[Og7,V.cells,J]
    simpa using this
 obtain⟨k1,R,U⟩:=X vs i v hi
 have Z:i<vs.length:=by
  rcases Oc1 i vs.length with H|H
  ·exact H
  rw[Ob4 H]at hi;simp at hi
 have g1:C[i*3]?=some (.int .i64 v.k):=by rw[←Oe6,I,Ob0 (by rw[Ja5];omega)];exact k1
 have g2:C[i*3+1]?=some (.int .i64 v.n):=by rw[←Oe6,I,Ob0 (by rw[Ja5];omega)];exact R
 have K:C[i*3+2]?=some (.string v.s):=by rw[←Oe6,I,Ob0 (by rw[Ja5];omega)];exact U
 unfold VAt
 simp only[World.cell?,L,Od0]
 simp[g1,g2,K]
theorem Jtz (C:Array Value)(pre A:List Value)(x y:Value)(n:Nat)(h:C.toList=pre++x::A)(H:pre.length=n):(C.setIfInBounds n y).toList=(pre++[y])++A:=by
 rw[Ok0,h,Ok4 _ _ (by omega),H,Oe1]
 simp
theorem Kv.set3 {w:World}{g:Nat}{vs:List V}{O R U:Value}{H:List Value}(h:Kv w g vs (O::R::U::H))(v:V)(n:Nat)(N:n=vs.length) :
  Kv (((w.setCell ⟨g,n*3,none⟩ (.int .i64 v.k)).setCell ⟨g,n*3+1,none⟩ (.int .i64 v.n)).setCell ⟨g,n*3+2,none⟩ (.string v.s)) g (vs++[v]) H:=by
 subst N
 obtain⟨C,M,L⟩:=h
 have A:=Ja5 vs
 have I:=Jtz C _ _ _ (.int .i64 v.k) _ L A
 have J:=Jtz _ _ _ _ (.int .i64 v.n) (vs.length*3+1) I (by simp[A])
 have K:=Jtz _ _ _ _ (.string v.s) (vs.length*3+2) J (by simp[A])
 refine⟨_,?_,K.trans ?_⟩
 ·simp[World.setCell,Array.getElem?_modify,M]
 simp[V.cells]
end
section
open Go.RowKit Tryz
end
section
open Go.RowKit Tryz
theorem Ut {w w1 I:World}{r:Option Nat}(h:w.grownBy w1 r)(k:w1.grownBy I r):w.grownBy I r:=
 ⟨k.os.trans h.os,k.tape.trans h.tape,k.output.trans h.output,Ob2 h.size k.size,fun j A H=>(k.block j (Oc2 A h.size) H).trans (h.block j A H)⟩
theorem Qq {w w':World}{r:Option Nat}(h:Below w.heap.size w w'):w.grownBy w' r:=⟨h.os,h.tape,h.output,h.size,fun j A _=>h.block j A⟩
theorem Ka4 {w w':World}{g:Nat}(h:w.grownBy w' (some g))(o:Nat)(v:Value):w.grownBy (w'.setCell ⟨g,o,none⟩ v) (some g):=
 ⟨h.os,h.tape,h.output,by simpa [World.setCell] using h.size,fun j H A=>(Oa4 _ _ _ _ (fun e=>A (by rw[e]))).trans (h.block j H A)⟩
theorem Kv.at3 {w:World}{g:Nat}{A:List V}(h:Kv w g A [])(v:V)(k:Nat)(hk:k<A.length) :
  ((w.cell? ⟨g,k*3,none⟩=some (.int .i64 A[k].k)∧w.frozen? ⟨g,k*3,none⟩=false)∧(w.cell? ⟨g,k*3+1,none⟩=some (.int .i64 A[k].n)∧w.frozen? ⟨g,k*3+1,none⟩=false)∧(w.cell? ⟨g,k*3+2,none⟩=some (.string A[k].s)∧w.frozen? ⟨g,k*3+2,none⟩=false)) ∧
  Kv (((w.setCell ⟨g,k*3,none⟩ (.int .i64 v.k)).setCell ⟨g,k*3+1,none⟩ (.int .i64 v.n)).setCell ⟨g,k*3+2,none⟩ (.string v.s)) g (A.set k v) []:=by
 obtain⟨C,M,I⟩:=h
 rw[Od7]at I
 have R:A=A.take k++A[k]::A.drop (k+1):=by rw[←Oi1 hk,Ok3]
 have J:(A.take k).length=k:=by rw[Oc7];omega
 have H:Kv w g (A.take k) (A[k].cells++(A.drop (k+1)).flatMap V.cells):=by
  refine⟨C,M,?_⟩
  rw[I]
  conv=>lhs;rw[R]
  rw[Oe8,Og7]
 have c0:=H.cell (j:=0) rfl
 have c1:=H.cell (j:=1) rfl
 have c2:=H.cell (j:=2) rfl
 rw[J]at c0 c1 c2
 rw[Nat.add_zero]at c0
 refine⟨⟨c0,c1,c2⟩,?_⟩
 obtain⟨K,N,L⟩:=H.set3 v k J.symm
 refine⟨K,N,?_⟩
 rw[L,Od7]
 have O:A.set k v=A.take k++v::A.drop (k+1):=by
  rw[On0,if_pos hk]
 rw[O]
 simp[V.cells]
theorem Jye:(prog.info? 337).map (·.size)=some 2:=by kernel_rfl
theorem Kfg:liesAt prog prog.depth 337 (2 / prog.cellsOf 337) 0 337 1=true:=by kernel_rfl
theorem Kd2:prog.cellsOf 5=1:=by kernel_rfl
theorem Jrs (b:Nat)(w:World)(h0:w.cell? ⟨b,0,none⟩=some (.pointer (some ⟨b,0,none⟩))) :
  Calls prog 227 #[.pointer (some ⟨b,0,none⟩)] w fun e w'=>e=.returned (.tuple #[])∧w'=w:=by
 obtain⟨j,A,_⟩:=Oe9.1 Jye
 go_enter func227,ntmps227
 go_wp2
 rw[Lib.run_neq_ptr_same w _ underlying335 A]
 go_wp2
 go_end0
 exact⟨rfl,rfl⟩
theorem Jqn (b:Nat)(w:World)(h0:w.cell? ⟨b,0,none⟩=some (.pointer none))(H:w.shape? b=some (337,2))(J:w.frozen? ⟨b,0,none⟩=false) :
  Calls prog 227 #[.pointer (some ⟨b,0,none⟩)] w fun e w'=>e=.returned (.tuple #[])∧w'=w.setCell ⟨b,0,none⟩ (.pointer (some ⟨b,0,none⟩)):=by
 obtain⟨j,A,I⟩:=Oe9.1 Jye
 go_enter func227,ntmps227
 go_wp2
 rw[Lib.run_to_unsafe w ⟨b,0,none⟩ underlying335 underlying259 A (by rw[I];decide) H (Nat.zero_lt_succ 1)]
 simp only[Result.andThen]
 rw[Oper.upon_value]
 go_wp2
 rw[run_callFunc_extern func260 (by kernel_rfl) (by kernel_rfl) (by kernel_rfl) (e:=Extern.AbiNoEscape.same) (by kernel_rfl)]
 rw[Lib.run_noEscape]
 simp only[Result.andThen]
 rw[Oper.upon_value]
 go_wp2
 rw[Lib.run_from_unsafe w ⟨b,0,none⟩ underlying259 underlying335 A H Kfg]
 simp only[Result.andThen]
 rw[Oper.upon_value]
 go_wp2
 go_end0
 exact⟨rfl,rfl⟩
def Jkw (w:World)(B b:Nat)(l:List UInt8):Prop:=Lib.IsBuilder 337 5 B b (l.map bv) w
theorem Kic {w:World}{B b:Nat}{l:List UInt8}(h:Jkw w B b l):∃ p,Lib.BuilderAt 337 5 B b p (l.map bv) w:=by
 rcases h with h|h
 ·exact⟨_,h⟩
 exact⟨_,h⟩
theorem Juu (B b:Nat)(l:List UInt8)(w:World)(h:Jkw w B b l) :
  Calls prog 227 #[.pointer (some ⟨b,0,none⟩)] w fun e w'=>e=.returned (.tuple #[])∧Lib.BuilderAt 337 5 B b (.pointer (some ⟨b,0,none⟩)) (l.map bv) w'∧Below B w w':=by
 rcases h with h|h
 ·refine(Jqn b w h.cell0 h.shape h.frozen0).mono ?_
  rintro e w' ⟨rfl,rfl⟩
  exact⟨rfl,h.used _,(Oa5 B w).setCell (p:=⟨b,0,none⟩) h.1 _⟩
 refine(Jrs b w h.cell0).mono ?_
 rintro e w' ⟨rfl,rfl⟩
 exact⟨rfl,h,Oa5 B _⟩
theorem Juz (l:List UInt8):Lib.strCells (Qw l)=l.map bv:=by
 unfold Lib.strCells Qw
 rfl
theorem Jv2 (B b:Nat)(l t:List UInt8)(w:World)(h:Jkw w B b l)(br:l.length+t.length≤100000000)(bn:B≤w.heap.size) :
  Calls prog 197 #[.pointer (some ⟨b,0,none⟩),.string (Qw t)] w fun e w'=>e=.returned (.tuple #[.int .i64 (Qw t).size,.nilIface])∧Jkw w' B b (l++t)∧Below B w w':=by
 obtain⟨bh,hi,bb,bc,bf⟩:=info_parts Jfa
 have ba:=Jb2 t
 go_enter func197,ntmps197
 go_wp2_with (go_at_call 227;refine(Juu B b l _ h).mono ?_)
 rintro e w1 ⟨rfl,Y,H⟩
 obtain⟨A,v,J,K,R⟩:=Y
 have c1:w1.cell? ⟨b,1,none⟩=some v:=by rw[Lib.cell_of_heap J];rfl
 have Z:=Lib.BuilderAt.lt (T:=337) (e:=5) (B:=B) (p:=.pointer (some ⟨b,0,none⟩)) (bs:=l.map bv) ⟨A,v,J,K,R⟩
 go_wp2_with (at_builtin;refine Lib.wpList_append_own_string _ rfl _ _ 137 9 rfl B 5 bh underlying137 underlying9 hi bb bc bf _ _ _ rfl K (Qw t) rfl ?c3 ?c4 ?c5 ?_)
 case c3=>unfold maxLen;simp;omega
 case c4=>simp;omega
 case c5=>have:=H.size;omega
 intro bi M U O _
 have I:M.heap[b]?=some (.cells #[.pointer (some ⟨b,0,none⟩),v] 337 (0,0)):=by
  rw[O.block b Z (fun e=>R e.symm)]
  exact J
 have bl:M.frozen? ⟨b,1,none⟩=false:=Lib.frozen_of_heap I 1
 have bk:M.cell? ⟨b,1,none⟩=some v:=by rw[Lib.cell_of_heap I];rfl
 obtain⟨N,X,cap,rfl⟩:∃ N X cap,bi=.slice N X cap:=by
  rcases U.2 with⟨L,_⟩|⟨g,cap,bj,L,_⟩
  ·exact⟨_,_,_,L⟩
  exact⟨_,_,_,L⟩
 go_wp2
 go_ret2
 refine⟨rfl,.inr ?_,?_⟩
 ·rw[Ob8,←Juz t]
  exact Lib.BuilderAt.put (T:=337) (e:=5) A I (by simpa [Lib.strCells_length,ba] using U) (by decide)
 exact(H.grown O (by have:=H.size;omega) (fun k hk=>(K.lt k hk).1)).setCell (p:=⟨b,1,none⟩) A _
theorem Jsp (B b:Nat)(l:List UInt8)(w:World)(h:Jkw w B b l)(h0:l≠[]) :
  Calls prog 198 #[.pointer (some ⟨b,0,none⟩)] w fun e w'=>e=.returned (.string (Qw l))∧Below B w w':=by
 obtain⟨p,X,v,J,H,bc⟩:=Kic h
 have N:l.length≠0:=by simpa using h0
 rw[Oa6]at H
 obtain⟨g,cap,A,rfl,I,L,bb,K,ba,bf⟩:∃ g cap A,v=.slice (some ⟨g,0,none⟩) l.length cap∧B≤g∧w.heap[g]?=some (.cells A 5 (0,0))∧l.length≤cap∧cap≤maxLen∧A.size=cap*1∧A.toList.take (l.length*1)=l.map bv:=by
  rcases H.2 with⟨_,U⟩|⟨g,cap,A,O,r⟩
  ·exact absurd U N
  exact⟨g,cap,A,O,r⟩
 have c1:w.drew.cell? ⟨b,1,none⟩=some (.slice (some ⟨g,0,none⟩) l.length cap):=by
  have:w.drew.heap[b]?=some (.cells #[p,.slice (some ⟨g,0,none⟩) l.length cap] 337 (0,0)):=J
  rw[Lib.cell_of_heap this];rfl
 have Y:(Builtin.unsafeSliceData_ #[137] 298 #[.slice (some ⟨g,0,none⟩) l.length cap]).run prog w.drew=.ok (.pointer (some ⟨g,0,none⟩)) w.drew:=
  Lib.run_unsafeSliceData_row _ _ _ _ _ _ (by omega)
 have Z:(Builtin.unsafeString_ #[298,3] 9 #[.pointer (some ⟨g,0,none⟩),.int .i64 l.length]).run prog w.drew=.ok (.string ⟨l.toArray⟩) (w.drew.freeze ⟨g,0,none⟩ l.length):=by
  refine Lib.run_unsafeString_row w.drew 298 3 9 5 underlying298 Kd2 g A.size (by have M:w.drew.heap[g]?=some (.cells A 5 (0,0)):=L;simp[World.shape?,M]) l h0 (by omega) (by unfold maxLen at K;omega) ?_
  intro j x R
  exact H.cells (g:=g) rfl j (.int .u8 x.toNat) (by simp[R,bv])
 go_enter func198,ntmps198
 go_wp2
 go_region
 all_goals (go_wp2;go_ret;exact⟨rfl,Lib.below_freeze (Below.drew (Oa5 B w)) (p:=⟨g,0,none⟩) I _⟩)
theorem Jkw.new (w:World)(B:Nat)(A:B≤w.heap.size):Jkw (w.alloc (.cells #[.pointer none,.slice none 0 0] 337)) B w.heap.size []:=
 .inl ⟨A,.slice none 0 0,heap_alloc_new _ _,⟨rfl,.inl ⟨rfl,rfl⟩⟩,by simp[Value.ownBlock]⟩
theorem Jkw.below {w w':World}{B b:Nat}{l:List UInt8}(h:Jkw w B b l)(H:Below w.heap.size w w'):Jkw w' B b l:=by
 have L:∀ p,Lib.BuilderAt 337 5 B b p (l.map bv) w→Lib.BuilderAt 337 5 B b p (l.map bv) w':=by
  rintro p ⟨A,v,I,K,J⟩
  exact⟨A,v,by rw[H.block b (Lib.BuilderAt.lt (T:=337) (e:=5) (B:=B) (p:=p) (bs:=l.map bv) ⟨A,v,I,K,J⟩)];exact I,Jaw K H,J⟩
 exact h.imp (L _) (L _)
def Jel (name:ByteArray)(ts:List Int)(rs:List (List V)):Prop:=
 (1≤name.size∧name.size≤20)∧((1≤ts.length∧ts.length≤6)∧∀ j (A:j<ts.length),Jnd ts[j]=true)∧rs.length≤200∧∀ i (hi:i<rs.length),rs[i].length=ts.length∧∀ j (A:j<rs[i].length),okB (ts.getD j 0) rs[i][j].k rs[i][j].n rs[i][j].s=true
open Classical in
theorem Kjj (name:ByteArray)(at_ ar:Option Addr)(ct cr:Nat)(ts:List Int)(hs:List (Option Addr×Nat))(rs:List (List V))(w:World)(hnn:name.size≤maxLen)(hn:ts.length≤maxLen)(hr:rs.length≤maxLen)(hrr:∀ r∈rs,r.length≤maxLen)(hx:Kc w at_ ts)(hy:Zd w ar hs rs) :
  Calls prog 88 #[.agg #[.string name,.slice at_ ts.length ct,.slice ar rs.length cr]] w fun e w'=>e=.returned (.bool (decide (Jel name ts rs)))∧Below w.heap.size w w':=by
 have hx0:=hx.below (w':=w.alloc (.cells #[.string name,.slice at_ ts.length ct,.slice ar rs.length cr] 30)) ((Oa5 _ _).alloc (Oa2 _) _)
 obtain⟨bt,hbt⟩:∃ bt:Bool,bt=true↔(1≤ts.length∧ts.length≤6)∧∀ j (hj:j<ts.length),Jnd ts[j]=true:=⟨decide _,decide_eq_true_iff⟩
 have hat:=Kjg at_ ct ts _ hn hx0 bt hbt
 have HT:Hid (bt=true↔(1≤ts.length∧ts.length≤6)∧∀ j (hj:j<ts.length),Jnd ts[j]=true):=hbt
 clear hbt
 unfold maxLen at hnn hn hr
 obtain⟨b,HB⟩:∃ b:Bool,Hid (b=decide (Jel name ts rs)):=⟨_,rfl⟩
 rw[←HB.out]
 have HBI:Hid (b=true↔Jel name ts rs):=by show _↔_;rw[HB.out];exact decide_eq_true_iff
 clear HB hx0
 have hB0:Below w.heap.size w (w.alloc (.cells #[.string name,.slice at_ ts.length ct,.slice ar rs.length cr] 30)):=(Oa5 _ _).alloc (Oa2 _) _
 have no:¬ Jel name ts rs→Hid (b=false):=fun h=>by
  show b=false
  cases hb:b with
  |false=>rfl
  |true=>exact absurd (HBI.out.1 hb) h
 have NO:Hid (¬ Jel name ts rs→Hid (b=false)):=no
 clear no
 by_cases h1:name.size<1
 ·have H0:Hid (b=false):=NO.out fun h=>by have:=h.1;omega
  go_enter func88,ntmps88
  go_wp2_with (go_at_call 124;refine hat.mono ?_;rintro e w' ⟨rfl,hw'⟩;subst w')
  go_ret
  exact⟨Qr H0.out.symm,hB0⟩
 by_cases h2:20<name.size
 ·have H0:Hid (b=false):=NO.out fun h=>by have:=h.1;omega
  go_enter func88,ntmps88
  go_wp2_with (go_at_call 124;refine hat.mono ?_;rintro e w' ⟨rfl,hw'⟩;subst w')
  go_ret
  exact⟨Qr H0.out.symm,hB0⟩
 cases hbt:bt with
 |false=>
  subst hbt
  have H0:Hid (b=false):=NO.out fun h=>by have:=HT.out.2 h.2.1;simp at this
  go_enter func88,ntmps88
  go_wp2_with (go_at_call 124;refine hat.mono ?_;rintro e w' ⟨rfl,hw'⟩;subst w')
  go_ret
  exact⟨Qr H0.out.symm,hB0⟩
 |true=>
  subst hbt
  by_cases h3:200<rs.length
  ·have H0:Hid (b=false):=NO.out fun h=>by have:=h.2.2.1;omega
   go_enter func88,ntmps88
   go_wp2_with (go_at_call 124;refine hat.mono ?_;rintro e w' ⟨rfl,hw'⟩;subst w')
   go_ret
   exact⟨Qr H0.out.symm,hB0⟩
  have HRR:Hid (∀ r∈rs,r.length≤maxLen):=hrr
  clear hrr
  go_enter func88,ntmps88
  go_wp2_with (go_at_call 124;refine hat.mono ?_;rintro e w' ⟨rfl,hw'⟩;subst w')
  go_loopw [30] (fun i wr=>∃ k:Nat,k≤rs.length∧i=.int .i64 k∧Below (w.alloc (.cells #[.string name,.slice at_ ts.length ct,.slice ar rs.length cr] 30)).heap.size (w.alloc (.cells #[.string name,.slice at_ ts.length ct,.slice ar rs.length cr] 30)) wr∧Hid (∀ i (hi:i<rs.length),i<k→rs[i].length=ts.length∧∀ j (hj:j<rs[i].length),okB (ts.getD j 0) rs[i][j].k rs[i][j].n rs[i][j].s=true)) (fun i _=>rs.length-(intOf i).toNat)
  case atStart=>exact⟨0,Ob7 _,rfl,Oa5 _ _,fun j _ hj=>absurd hj (Oe0 _)⟩
  case round=>
   obtain⟨k,hk,rfl,hbw,hall⟩:=hrel
   have hbw0:=Qx hbw
   have c1:wr.cell? ⟨w.heap.size,1,none⟩=some (.slice at_ ts.length ct):=by rw[(Kx hbw).1 w.heap.size 1 (by simp)];simp
   by_cases hlt:k<rs.length
   ·obtain⟨b1,o1,ra,rc,rfl,hb1,x1,hv⟩:=(hy.below hbw0).at hlt
    obtain⟨br,hbr⟩:∃ br:Bool,br=true↔rs[k].length=ts.length∧∀ j (hj:j<rs[k].length),okB (ts.getD j 0) rs[k][j].k rs[k][j].n rs[k][j].s=true:=⟨decide _,decide_eq_true_iff⟩
    have hir:=Kkh ra at_ rc ct rs[k] ts wr (HRR.out _ (Ob3 hlt)) hv (hx.below hbw0) br hbr
    have HR:Hid (br=true↔rs[k].length=ts.length∧∀ j (hj:j<rs[k].length),okB (ts.getD j 0) rs[k][j].k rs[k][j].n rs[k][j].s=true):=hbr
    clear hbr hat
    cases hb:br with
    |false=>
     subst hb
     have H0:Hid (b=false):=NO.out fun h=>by have:=HR.out.2 (h.2.2.2 k hlt);simp at this
     go_wp2_with (go_at_call 125;refine hir.mono ?_;rintro e w' ⟨rfl,hb⟩)
     go_ret
     exact⟨Qr H0.out.symm,Jb hbw0 hb⟩
    |true=>
     subst hb
     go_wp2_with (go_at_call 125;refine hir.mono ?_;rintro e w' ⟨rfl,hb⟩)
     go_roundw
     case rel=>
      refine⟨k+1,by omega,by go_num,Jb hbw hb,fun i hi hik=>?_⟩
      by_cases e:i=k
      ·subst e;exact HR.out.1 (by simp)
      exact hall.out i hi (by omega)
     case measure=>simp[intOf];omega
   go_wp2
   go_ret
   exact⟨Qr (HBI.out.2 ⟨⟨by omega,by omega⟩,HT.out.1 (by simp),by omega,fun i hi=>hall.out i hi (by omega)⟩).symm,hbw0⟩
end
section
open Go.RowKit
def Jpf (Q:Exit→Act→World→Prop):Exit→Act→World→Prop
 |.normal,a,w=>Q .normal a w
 |_,_,_=>False
theorem Jpf.imp {Q:Exit→Act→World→Prop}:∀ (e:Exit) (a:Act) (w:World),Jpf Q e a w→Q e a w:=fun e a w h=>by
 cases e<;>first|exact h|exact(h:False).elim
theorem Jpf.shut {Q:Exit→Act→World→Prop}:¬ LetsOut (Jpf Q):=fun ⟨_,_,h⟩=>h
def Ki4 (A:Array Oper):Bool:=A.all fun o=>match o.op with|.defer _=>false|_=>true
theorem Kj3 {A:Array Oper}(h:Ki4 A=true){i:Nat}{o:Oper}(I:A[i]?=some o):∀ c,o.op≠.defer c:=by
 intro c H
 obtain⟨hi,rfl⟩:=Oe2.1 I
 have:=Array.all_eq_true.1 h i hi
 rw[H]at this
 simp at this
theorem Kj9 {P:Program}{l n:Nat}{o:Oper}{a:Act}{H:Act→World→Prop}{Q:Exit→Act→World→Prop}{r:Result Next}(h:o.upon P a H Q r):o.uponIn (Fence.wide.inRound l) n P a H Q r:=by
 cases r with
 |ok J w=>
  cases J<;>simp only[Oper.upon]at h
  case value v=>exact h
  case skip=>exact h
  case defer d=>exact h
  case enter f args=>exact⟨fun A=>absurd A (by simp[Fence.inRound,Fence.wide]),CallsIn.inRound l (callsIn_wide.2 h)⟩
  case row row args=>
   refine⟨fun A=>absurd A (by simp[Fence.inRound,Fence.wide]),fun c cs _=>?_⟩
   obtain⟨v,w',I,hs⟩:=h c cs
   exact⟨v,w',I,stepsIn_wide.2 hs⟩
 |halt x w=>
  cases x<;>simp only[Oper.upon]at h
  case panic v=>exact h
theorem Kj1 {P:Program}{l n:Nat}{A:Array Oper}{Q:Exit→Act→World→Prop}(L:Ki4 A=true)(K:¬ LetsOut Q){i:Nat}{H:Act→World→Prop}{a:Act}{w:World}(h:wpOp P A Q i H a w):wpOpIn (Fence.wide.inRound l) n P A Q i H a w:=by
 unfold wpOp at h
 unfold wpOpIn
 cases ho:A[i]? with
 |none=>rw[ho]at h;exact h
 |some o=>
  rw[ho]at h
  simp only at h ⊢
  split
  ·rename_i hw
   rw[if_pos hw]at h
   have I:=h.resolve_right fun J=>K J.2
   refine⟨fun _ _=>trivial,?_⟩
   rw[Oper.semAt_plain (Fence.wide.inRound l) _ _ (Kj3 L ho)]
   exact Kj9 I
  rename_i hw
  rw[if_neg hw]at h
  exact⟨fun _ _=>trivial,h⟩
theorem Ki2 {P:Program}{l n:Nat}{K:Region.Mode}{A:Array Oper}{Q:Exit→Act→World→Prop}(I:Ki4 A=true)(H:¬ LetsOut Q):∀ (fuel:Nat) (J:Array Bool) (a:Act) (w:World),wpAny P K A Q fuel J a w→wpAnyIn (Fence.wide.inRound l) n P K A Q fuel J a w
 |0,_,_,_,h=>h
 |fuel+1,_,_,_,h=>⟨h.1,fun i hi=>Kj1 I H (wpOp_mono (fun L w' M=>Ki2 I H fuel _ L w' M) (h.2 i hi))⟩
theorem Kix {P:Program}{l n K:Nat}{A:Array Oper}{Q:Exit→Act→World→Prop}{S:World→Prop}{a:Act}{w:World}(I:P.follows .mixedOrders=true)(J:Ki4 A=true)(H:S w.drew)
  (h:S w.drew→wpAnyH P .any A (Jpf Q) S A.size (Array.replicate A.size false) a w.drew):(Code.region K A true).wpIn (Fence.wide.inRound l) n P Q a w:=
 Code.wpIn_mono Jpf.imp (wpIn_region_any I (Ki2 J Jpf.shut _ _ _ _ (wpAny_of_held _ _ _ _ (h H))))
section
variable {P:Program} {md:Region.Mode} {ops:Array Oper} {Q:Exit→Act→World→Prop} {S:World→Prop} {m:Nat}
def Ks9 (P:Program)(I:Region.Mode)(H:Array Oper)(Q:Exit→Act→World→Prop)(S:World→Prop)(m:Nat):Nat→Array Bool→Act→World→Prop
 |0,A,a,w=>Region.ready I H A=[]∧Q .normal a w
 |fuel+1,A,a,w=>(Region.ready I H A=[]→Q .normal a w)∧∀ i∈Region.ready I H A,wpOp P H Q i (fun J w'=>(i≠m→S w')∧Ks9 P I H Q S m fuel (A.setIfInBounds i true) J w') a w
theorem Kt0:∀ (fuel:Nat)(A:Array Bool)(a:Act)(w:World),Ks9 P md ops Q S m fuel A a w→wpAny P md ops Q fuel A a w
 |0,_,_,_,h=>h
 |fuel+1,_,_,_,h=>⟨h.1,fun i hi=>wpOp_mono (fun H w' I=>Kt0 fuel _ H w' I.2) (h.2 i hi)⟩
def Ky0 (A:Region.Mode)(H:Array Oper)(m i:Nat):Bool:=((H[m]?).map fun o=>o.after.any fun e=>Region.binds A e&&e.on==i).getD false
theorem Kyp {i:Nat}(h:Ky0 md ops m i=true){o:Oper}(I:ops[m]?=some o):∃ e∈o.after,Region.binds md e=true∧e.on=i:=by
 unfold Ky0 at h
 rw[I]at h
 simp only[Option.map_some,Option.getD_some,Array.any_eq_true']at h
 obtain⟨e,H,A⟩:=h
 rw[Og5,beq_iff_eq]at A
 exact⟨e,H,A⟩
theorem Kwr {i:Nat}{K:Oper}{v:Value}(hi:ops[i]?=some K)(bi:∀ (j:Nat) (o:Oper) cs b,ops[j]?=some o→o.op≠.select cs b)(bG:i≠m)(bD:Ky0 md ops m i=true)
  (bn:∀ c a w,Q (.panic c) (a.put K.dst v) w→Q (.panic c) a w) :
  ∀ (fuel:Nat) (A:Array Bool) (a:Act) (w:World),
   (∀ j L,ops[j]?=some L→j≠i→A.getD j true=false→(∀ e∈L.after,Region.binds md e=true→e.on≠i)→K.apart ops L=true) →
   i∈Region.ready md ops A→YieldsIf P ops S K v a→S w →
   Ks9 P md ops Q S m fuel (A.setIfInBounds i true) (a.put K.dst v) w→Ks9 P md ops Q S m (fuel+1) A a w:=by
 intro fuel
 induction fuel with
 |zero=>
  intro A a w _ J X N M
  refine⟨fun h=>(by rw[h]at J;cases J),fun j R=>?_⟩
  by_cases H:j=i
  ·subst H;exact X.wpOp hi N ⟨fun _=>N,M⟩
  have:=ready_mono R H
  rw[M.1]at this
  cases this
 |succ fuel bE=>
  intro A a w bb J X N M
  refine⟨fun h=>(by rw[h]at J;cases J),fun j R=>?_⟩
  by_cases H:j=i
  ·subst H;exact X.wpOp hi N ⟨fun _=>N,M⟩
  have I:=M.2 j (ready_mono R H)
  obtain⟨bf,L,U,br⟩:=mem_ready.1 R
  have bh:∀ e∈L.after,Region.binds md e=true→e.on≠i:=fun e ba Z bu=>by
   have I:=br e ba Z
   have h0:=(mem_ready.1 J).1
   rw[bu]at I
   rcases Oc1 i A.size with Y|Y
   ·simp[Y]at h0 I;rw[h0]at I;cases I
   simp[Array.getElem?_eq_none Y]at I
  have bz:j≠m:=fun e=>by
   subst e
   obtain⟨e,ba,Z,bC⟩:=Kyp bD U
   exact bh e ba Z bC
  have bl:=wpOp_putIf U (bb j L U H bf bh) (fun cs b=>bi i K cs b hi) (fun cs b=>bi j L cs b U) bn X I
  have bx:∀ k ok,ops[k]?=some ok→k≠i→(A.setIfInBounds j true).getD k true=false →
    (∀ e∈ok.after,Region.binds md e=true→e.on≠i)→K.apart ops ok=true:=fun k ok hk bA bj bB=>by
   refine bb k ok hk bA ?_ bB
   by_cases bc:j=k
   ·subst bc;exact bf
   rw[getD_set_ne true bc]at bj;exact bj
  refine wpOp_mono (fun bk w' O=>⟨O.2.1,bE (A.setIfInBounds j true) bk w' bx (ready_mono J (Oc5 H)) O.1 (O.2.1 bz) ?_⟩) bl
  rw[Array.setIfInBounds_comm _ _ H]
  exact O.2.2
theorem tkm {H:Oper}{fuel:Nat}{A:Array Bool}{a:Act}{w:World}{v:Value}(i:Nat)(hi:ops[i]?=some H)(J:S w)
  (h:Ks9 P md ops Q S m fuel (A.setIfInBounds i true) (a.put H.dst v) w)
  (N:(Region.ready md ops A).contains i=true:=by kernel_rfl) (L:Region.free md ops A i=true:=by kernel_rfl) (hs:Region.noSelect ops=true:=by kernel_rfl) (O:Ky0 md ops m i=true:=by kernel_rfl) (M:i≠m:=by decide)
  (R:∀ w,S w→(execOp a.eval H).run P w=.ok (.value v) w:=by intro w K;(try dsimp only at K);go_simp;try rfl)
  (I:∀ c a w,Q (.panic c) (a.put H.dst v) w→Q (.panic c) a w:=by exact fun _ _ _ h=>h) (hw:Region.wanted H (yielded ops a.tmps)=true:=by rfl):Ks9 P md ops Q S m (fuel+1) A a w:=
 Kwr hi (Region.noSelect_spec hs) M O I fuel A a w (Region.free_spec hi L) (by simpa using N) (.inl ⟨hw,R⟩) J h
theorem Krx {fuel:Nat}{H:Array Bool}{a:Act}{w:World}(i:Nat){o:Oper}(M:ops[i]?=some o)(h:∀ A:Act→World→Prop,Shut (∀ a w,S w→(S w→Ks9 P md ops Q S m fuel (H.setIfInBounds i true) a w)→A a w)→if Region.wanted o (yielded ops a.tmps)=true then Oper.wp P o a w A Q else A (a.put o.dst undef) w)
  (K:Region.ready md ops H=[i]:=by kernel_rfl):Ks9 P md ops Q S m (fuel+1) H a w:=
 ⟨fun h0=>(by rw[K]at h0;cases h0),fun j J=>by
  rw[K,Oc6]at J
  subst J
  exact wpOp_step M fun A L=>h A fun a w I hW=>L a w ⟨fun _=>I,hW I⟩⟩
theorem Ksc {fuel:Nat}{H:Array Bool}{a:Act}{w:World}{o:Oper}(O:ops[m]?=some o)(h:∀ A:Act→World→Prop,Shut (∀ a w,Q .normal a w→A a w)→if Region.wanted o (yielded ops a.tmps)=true then Oper.wp P o a w A Q else A (a.put o.dst undef) w)
  (K:Region.ready md ops H=[m]:=by kernel_rfl) (L:Region.ready md ops (H.setIfInBounds m true)=[]:=by kernel_rfl):Ks9 P md ops Q S m (fuel+1) H a w:=
 ⟨fun h0=>(by rw[K]at h0;cases h0),fun j I=>by
  rw[K,Oc6]at I
  subst I
  refine wpOp_step O fun A M=>h A fun a w J=>M a w ⟨fun N=>absurd rfl N,?_⟩
  cases fuel with
  |zero=>exact⟨L,J⟩
  |succ f=>exact⟨fun _=>J,by rw[L];simp⟩⟩
theorem Kr7 {I:Nat}{a:Act}{w:World}(m:Nat)(H:P.follows .mixedOrders=true)(A:S w.drew)
  (h:S w.drew→Ks9 P .any ops Q S m ops.size (Array.replicate ops.size false) a w.drew):(Code.region I ops true).wp P Q a w:=
 wp_region_any H (Kt0 _ _ _ _ (h A))
end
end
section
open Go.RowKit Tryz
theorem Ks2 (v:V)(w:World)(A:Ksq v.k v.s) :
  Calls prog 133 #[v.val] w fun e w'=>e=.returned (.string (Qw (enc v.k v.n v.s)))∧Below w.heap.size w w':=by
 obtain⟨k,n,s⟩:=v
 rcases A with hk|hk|⟨hk,hs⟩
 ·simp only at hk
  subst hk
  exact Kwn n s w
 ·simp only at hk
  subst hk
  exact Kvq n s w
 simp only at hk hs
 subst hk
 exact Kvt n s w hs
theorem Ks4 {l:List UInt8}{n:Nat}(h:l.length≤n):(Qw l).size≤n:=by rw[Jb2];exact h
theorem Kw2 (t:Int)(a:Option Addr)(cap:Nat)(xs:List V)(w:World)(bb:xs.length≤64)(L:∀ v∈xs,Ksq v.k v.s)(Y:Jv w a xs) :
  Calls prog 99 #[.int .i64 t,.int .i64 0,.slice a xs.length cap] w fun e w'=>e=.returned (.string (Qw (Yv xs)))∧Below w.heap.size w w':=by
 go_enter func99,ntmps99
 go_wp2
 go_loopw [7,8] (fun s i wr=>∃ k:Nat,k≤xs.length∧i=.int .i64 k∧s=.string (Qw (Yv (xs.take k)))∧Below w.heap.size w wr) (fun _ i _=>xs.length-(intOf i).toNat)
 case atStart=>exact⟨0,by omega,rfl,rfl,Oa5 _ _⟩
 case round=>
  obtain⟨k,hk,rfl,rfl,A⟩:=hrel
  by_cases I:k<xs.length
  ·obtain⟨b1,o1,rfl,ba,bh,bi,bj⟩:=(Y.below A).at I
   have J:=Jjz (xs.take k) xs[k]
   rw[←Oc4 I]at J
   have R:=Jgg (xs.take k) fun v X=>L v (Om9 X)
   have U:(xs.take k).length≤k:=List.length_take_le _ _
   have H:=L _ (Ob3 I)
   have K:=Kc5 xs[k].k xs[k].n xs[k].s H
   have bc:(Qw (Yv (xs.take k))).size≤3000:=Ks4 (by omega)
   have bf:(Qw (enc xs[k].k xs[k].n xs[k].s)).size≤41:=Ks4 K
   have N:Hid _:=J
   have M:Hid (Ksq xs[k].k xs[k].s):=H
   clear J R U H K
   generalize Yv (xs.take k)=Z at *
   go_wp2_with (go_at_call 133;refine(Ks2 xs[k] _ M.out).mono ?_;rintro e w' ⟨rfl,O⟩)
   go_roundw
   case rel=>exact⟨k+1,by omega,by go_num,by rw[N.out,←Kr1],Jb A O⟩
   case measure=>simp[intOf];omega
  have e:xs.take k=xs:=Oc8 (by omega)
  rw[e]
  go_wp2
  go_ret
  exact⟨rfl,A⟩
theorem Kz3 (k:Nat):(List.range 4).map (fun b=>k.testBit b)=[k % 2==1,k / 2 % 2==1,k / 4 % 2==1,k / 8 % 2==1]:=by
 simp only[Oj7,List.range_zero,Oe4,Oi4,List.nil_append,List.cons_append]
 have e:∀ b,k.testBit b=(k / 2 ^ b % 2==1):=by
  intro b
  rw[On1]
  rw[On7];simp
 rw[e 0,e 1,e 2,e 3]
 simp
theorem Kz5 (P:Nat):[Value.bool ((P:Int) % 2==1),.bool ((P:Int) / 2 % 2==1),.bool ((P:Int) / 4 % 2==1),.bool ((P:Int) / 8 % 2==1)]=[P % 2==1,P / 2 % 2==1,P / 4 % 2==1,P / 8 % 2==1].map Value.bool:=by
 have e:∀ q:Nat,(((q:Nat):Int) % 2==1)=(q % 2==1):=by
  intro q
  rw[On7];simp;omega
 have A:=e (P / 2)
 have H:=e (P / 4)
 have I:=e (P / 8)
 rw[Int.natCast_ediv]at A H I
 simp only[Oe4,Oi4]
 rw[e P,←A,←H,←I]
 rfl
theorem Kxz (t:Int)(a:Option Addr)(cap:Nat)(xs:List V)(w:World)(bR:xs.length≤64)(bP:∀ v∈xs,Ksq v.k v.s)(bu:Jv w a xs) :
  Calls prog 99 #[.int .i64 t,.int .i64 1,.slice a xs.length cap] w fun e w'=>e=.returned (.string (Qw (Jds xs)))∧Below w.heap.size w w':=by
 have bV:=Jk0 xs []
 have R:∀ v∈Ym [] xs,Ksq v.k v.s:=fun v J=>by
  rcases Jlj xs [] v J with h|h
  ·simp at h
  exact bP v h
 have bU:∀ v∈xs,Qc (Ym [] xs) v<(Ym [] xs).length:=fun v J=>Jfh _ _ (Jr9 xs [] v J)
 have bi:Jds xs=(low (Ym [] xs).length::Yv (Ym [] xs))++Kk (Ue 4 (xs.map (Qc (Ym [] xs)))):=rfl
 have bz:Hid _:=bi
 clear bi
 have cx:=Ksv
 go_enter func99,ntmps99
 go_wp2_with fail
 refine(Ktq a cap xs w bR bu).mono ?_
 rintro e w1 ⟨sv,rfl,I,K⟩
 obtain⟨bD,bG,rfl,br⟩:=I.vals
 clear I
 generalize Ym [] xs=d at *
 have cn:d.length≤64:=by simp at bV;omega
 have bO:d.length≤maxLen:=by unfold maxLen;omega
 go_wp2_with fail
 refine(Kr3 _ w1).mono ?_
 rintro e bx ⟨rfl,M⟩
 have bh:=Jb K M
 have Z:=br.below M
 go_wp2_with fail
 go_loopw [7,10] (fun s i wr=>∃ k:Nat,k≤d.length∧i=.int .i64 k∧s=.string (Qw (low d.length::Yv (d.take k)))∧Below bx.heap.size bx wr) (fun _ i _=>d.length-(intOf i).toNat)
 case atStart=>exact⟨0,by omega,rfl,rfl,Oa5 _ _⟩
 case round=>
  obtain⟨k,hk,rfl,rfl,A⟩:=hrel
  by_cases H:k<d.length
  ·obtain⟨b1,o1,rfl,cl,cb,cc,cf⟩:=(Z.below A).at H
   have Y:=Jjz (d.take k) d[k]
   rw[←Oc4 H]at Y
   have U:=Jgg (d.take k) fun v J=>R v (Om9 J)
   have bQ:(d.take k).length≤k:=List.length_take_le _ _
   have O:=R _ (Ob3 H)
   have bj:=Kc5 d[k].k d[k].n d[k].s O
   have bZ:(Qw (low d.length::Yv (d.take k))).size≤3000:=Ks4 (by rw[List.length_cons];omega)
   have ca:(Qw (enc d[k].k d[k].n d[k].s)).size≤41:=Ks4 bj
   have bC:Hid (low d.length::Yv (d.take (k+1))=low d.length::Yv (d.take k)++enc d[k].k d[k].n d[k].s):=by rw[Y];rfl
   have bA:Hid (Ksq d[k].k d[k].s):=O
   clear Y U bQ O bj
   generalize low d.length::Yv (d.take k)=bb at *
   go_wp2_with (go_at_call 133;refine(Ks2 d[k] _ bA.out).mono ?_;rintro e w' ⟨rfl,bK⟩)
   go_roundw
   case rel=>exact⟨k+1,by omega,by go_num,by rw[bC.out,←Kr1],Jb A bK⟩
   case measure=>simp[intOf];omega
  have e:d.take k=d:=Oc8 (by omega)
  rw[e]
  have L:=Jb bh A
  have bW:=Z.below A
  have bY:=bu.below L
  have U:=Jgg d R
  have bZ:(Qw (low d.length::Yv d)).size≤3000:=Ks4 (by rw[List.length_cons];omega)
  clear e br Z K M bh U
  generalize bf:low d.length::Yv d=bb at *
  have ci:Hid (low d.length::Yv d=bb):=bf
  clear bf
  clear A
  rename World=>w3
  have cy:=L.size
  go_wp2_with fail
  go_loopw [11,12] (fun sv i wr=>∃ j:Nat,j≤xs.length∧i=.int .i64 j∧Jo wr w3.heap.size 4 sv ((Ue 4 ((xs.take j).map (Qc d))).map Value.bool)∧Below w3.heap.size w3 wr) (fun _ i _=>xs.length-(intOf i).toNat)
  case atStart=>exact⟨0,by omega,rfl,Jo.nil _ _ _,Oa5 _ _⟩
  case round=>
   obtain⟨j,cu,rfl,I,A⟩:=hrel
   by_cases H:j<xs.length
   ·obtain⟨b1,o1,rfl,K,cb,cc,cf⟩:=(bY.below A).at H
    have X:=Kuq 4 ((xs.take j).map (Qc d)) (Qc d xs[j])
    have bl:(xs.take (j+1)).map (Qc d)=(xs.take j).map (Qc d)++[Qc d xs[j]]:=by rw[Oc4 H,Ob8];rfl
    rw[←bl,Kz3]at X
    have bk:=bU _ (Ob3 H)
    have bM:((Ue 4 ((xs.take j).map (Qc d))).map Value.bool).length≤256:=by rw[Oa6,Jal,Oa6,Oc7];omega
    have bB:Hid _:=X
    clear X bl
    generalize (Ue 4 ((xs.take j).map (Qc d)))=ba at *
    have bX:=bW.below A
    have cj:Hid (Qc d xs[j]<d.length):=bk
    have cv:Qc d xs[j]≤64:=by omega
    clear bk
    go_wp2_with fail
    refine(Kt3 bD bG d xs[j] _ bO bX).mono ?_
    rintro e w4 ⟨rfl,N⟩
    have cz:=N.size
    have cA:=A.size
    generalize Qc d xs[j]=P at *
    have bS:=I.below N
    go_wp2_with (at_builtin;go_must (refine Ks (by rfl) _ _ 193 4 _ 1 Ktf (by rfl) (by decide) (by kernel_rfl) (by rfl) w3.heap.size _ _ (by rfl) (bS.alloc _) ⟨w4.heap.size,0,none⟩ 4 [.bool ((P:Int) % 2==1),.bool ((P:Int) / 2 % 2==1),.bool ((P:Int) / 4 % 2==1),.bool ((P:Int) / 8 % 2==1)] (by rfl) (by exact World.news_of_block (heap_alloc_new w4 _)) (by intro u bn;simp at bn;rcases bn with rfl|rfl|rfl|rfl<;>rfl) (by simp only[List.length_cons,List.length_nil];omega) (by simp;omega) ?_);intro sv' cB bc bJ ck)
    go_roundw
    case rel=>
     refine⟨j+1,by omega,by go_num,?_,Jy (Jc (Jb A N) _) bJ fun k hk=>(Je I hk).1⟩
     have bI:[Value.bool ((P:Int) % 2==1),.bool ((P:Int) / 2 % 2==1),.bool ((P:Int) / 4 % 2==1),.bool ((P:Int) / 8 % 2==1)]=[P % 2==1,P / 2 % 2==1,P / 4 % 2==1,P / 8 % 2==1].map Value.bool:=Kz5 P
     rw[bI,←Ob8,←bB.out]at bc
     exact bc
    case measure=>simp[intOf];omega
   have e:xs.take j=xs:=Oc8 (by omega)
   rw[e]at I
   obtain⟨bE,bH,rfl,bN⟩:=I.cells
   have bM:(Ue 4 (xs.map (Qc d))).length≤256:=by rw[Jal,Oa6];omega
   have bT:=Qb (Ue 4 (xs.map (Qc d)))
   have ca:(Qw (Kk (Ue 4 (xs.map (Qc d))))).size≤100:=Ks4 (by rw[bT];omega)
   rw[Oa6]
   generalize Ue 4 (xs.map (Qc d))=ba at *
   go_wp2_with fail
   refine(Ksh bE bH ba _ (by omega) bN).mono ?_
   rintro e cC ⟨rfl,bL⟩
   go_wp2
   go_ret
   refine⟨?_,Jb L (Jb A bL)⟩
   rw[bz.out,←Kr1];rfl
end
section
open Go.RowKit Tryz
theorem Kzu (v:V)(c:Nat)(u:V)(l:List V)(h:u=v):Jdx v c (u::l)=Jdx v (c+1) l:=by
 simp[Jdx,(V.beq_iff u v).2 h]
theorem Kzz (v:V)(c:Nat)(u:V)(l:List V)(h:u≠v):Jdx v c (u::l)=(low c::enc v.k v.n v.s)++Yc (u::l):=by
 simp[Jdx,(V.beq_false u v).2 h,Yc]
theorem Ktz {B n:Nat}{a w:World}(h:Below B (a.drewN n) w):Below B a w:=⟨h.os,h.tape,h.output,h.size,h.block⟩
theorem Kyh (t:Int)(a:Option Addr)(cap:Nat)(xs:List V)(w:World)(bL:xs.length≤64)(ba:∀ v∈xs,Ksq v.k v.s)(bj:Jv w a xs) :
  Calls prog 99 #[.int .i64 t,.int .i64 2,.slice a xs.length cap] w fun e w'=>e=.returned (.string (Qw (Yc xs)))∧Below w.heap.size w w':=by
 have bN:=Ksv
 have bM:=Jng _ xs (Oa2 _) ba
 go_enter func99,ntmps99
 go_wp2
 go_loopw [7,14] (fun s i wr=>∃ (k:Nat) (done:List UInt8),k≤xs.length∧i=.int .i64 k∧s=.string (Qw done)∧Hid (Yc xs=done++Yc (xs.drop k))∧Below w.heap.size w wr) (fun _ i _=>xs.length-(intOf i).toNat)
 case atStart=>exact⟨0,[],by omega,rfl,rfl,rfl,Oa5 _ _⟩
 case round=>
  obtain⟨k,done,hk,rfl,rfl,Y,N⟩:=hrel
  by_cases bi:k<xs.length
  ·rename World=>w1
   have bh:xs.drop k=xs[k]::xs.drop (k+1):=Oi1 bi
   have br:Hid (Yc xs=done++Jdx xs[k] 1 (xs.drop (k+1))):=by
    show _=_
    rw[Y.out,bh];rfl
   clear bh
   have bJ:(Qw done).size≤5000:=by
    have bx:=congrArg List.length Y.out
    rw[Oa8]at bx
    exact Ks4 (by omega)
   go_wp2
   go_loopw [14,15] (fun i n wr=>∃ p c:Nat,k≤p∧∃ R:p<xs.length,c≤p+1∧i=.int .i64 p∧n=.int .i64 c∧Hid (Yc xs=done++Jdx xs[p] c (xs.drop (p+1)))∧(∃ m,wr=w1.drewN m)) (fun i _ _=>xs.length-(intOf i).toNat)
   case atStart=>exact⟨k,1,by omega,bi,by omega,rfl,rfl,br,⟨0,rfl⟩⟩
   case round=>
    obtain⟨p,c,bK,R,bI,rfl,rfl,O,⟨m,rfl⟩⟩:=hrel
    obtain⟨b1,o1,rfl,K,bk,bl,bn⟩:=(bj.below N).at R
    by_cases bb:p+1<xs.length
    ·obtain⟨b2,o2,bf,_,bO,bP,bQ⟩:=(bj.below N).at bb
     simp at bf
     obtain⟨rfl,rfl⟩:=bf
     have bz:decide ((p:Int)+1<(xs.length:Int))=true:=by simp;omega
     have H:xs.drop (p+1)=xs[p+1]::xs.drop (p+1+1):=Oi1 bb
     by_cases A:xs[p+1]=xs[p]
     ·have bB:=Jhz _ _ A
      have L:Hid (Yc xs=done++Jdx xs[p+1] (c+1) (xs.drop (p+1+1))):=by
       show _=_
       rw[O.out,H,Kzu _ _ _ _ A,A]
      clear A H
      go_wp2
      go_quiet (fail)
      go_wp2
      go_roundw
      case rel=>exact⟨p+1,c+1,by omega,bb,by omega,by go_num,by go_num,L,⟨_,rfl⟩⟩
      case measure=>simp[intOf];omega
     have bB:=Jh8 _ _ A
     have L:Hid (Yc xs=done++[low c]++enc xs[p].k xs[p].n xs[p].s++Yc (xs.drop (p+1))):=by
      show _=_
      rw[O.out,H,Kzz _ _ _ _ A];simp
     clear A H
     go_wp2
     go_quiet (fail)
     go_wp2
     have J:=ba _ (Ob3 R)
     have A:=Kc5 xs[p].k xs[p].n xs[p].s J
     have bC:(Qw (enc xs[p].k xs[p].n xs[p].s)).size≤41:=Ks4 A
     have U:Hid (Ksq xs[p].k xs[p].s):=J
     clear J A O
     go_region_with (first
      |(go_at_call 97;refine(Kr3 _ _).mono ?_;rintro e bc ⟨rfl,M⟩;have I:Below w1.heap.size w1 bc:=Ktz M;have bD:=(Oc3 (w:=w1) (a:=⟨b1,o1+p*3,none⟩) (I.block b1 K)).trans bk;have bE:=(Oc3 (w:=w1) (a:=⟨b1,o1+p*3+1,none⟩) (I.block b1 K)).trans bl;have bG:=(Oc3 (w:=w1) (a:=⟨b1,o1+p*3+2,none⟩) (I.block b1 K)).trans bn;clear M)
      |(go_at_call 133;refine(Ks2 xs[p] _ U.out).mono ?_;rintro e bH ⟨rfl,X⟩))
     all_goals go_wp2
     all_goals
      go_roundw
      case rel=>
       refine⟨p+1,done++[low c]++enc xs[p].k xs[p].n xs[p].s,by omega,by go_num,?_,L,Jb N (Jb I X)⟩
       rw[←Kr1,←Kr1]
      case measure=>simp[intOf];omega
    have bz:decide ((p:Int)+1<(xs.length:Int))=false:=by simp;omega
    have H:xs.drop (p+1)=[]:=List.drop_eq_nil_iff.2 (by omega)
    have L:Hid (Yc xs=done++[low c]++enc xs[p].k xs[p].n xs[p].s++Yc (xs.drop (p+1))):=by
     show _=_
     rw[O.out,H];simp[Jdx,Jgc]
    clear H
    go_wp2
    go_quiet (fail)
    go_wp2
    have J:=ba _ (Ob3 R)
    have A:=Kc5 xs[p].k xs[p].n xs[p].s J
    have bC:(Qw (enc xs[p].k xs[p].n xs[p].s)).size≤41:=Ks4 A
    have U:Hid (Ksq xs[p].k xs[p].s):=J
    clear J A O
    go_region_with (first
     |(go_at_call 97;refine(Kr3 _ _).mono ?_;rintro e bc ⟨rfl,M⟩;have I:Below w1.heap.size w1 bc:=Ktz M;have bD:=(Oc3 (w:=w1) (a:=⟨b1,o1+p*3,none⟩) (I.block b1 K)).trans bk;have bE:=(Oc3 (w:=w1) (a:=⟨b1,o1+p*3+1,none⟩) (I.block b1 K)).trans bl;have bG:=(Oc3 (w:=w1) (a:=⟨b1,o1+p*3+2,none⟩) (I.block b1 K)).trans bn;clear M)
     |(go_at_call 133;refine(Ks2 xs[p] _ U.out).mono ?_;rintro e bH ⟨rfl,X⟩))
    all_goals go_wp2
    all_goals
     go_roundw
     case rel=>
      refine⟨p+1,done++[low c]++enc xs[p].k xs[p].n xs[p].s,by omega,by go_num,?_,L,Jb N (Jb I X)⟩
      rw[←Kr1,←Kr1]
     case measure=>simp[intOf];omega
  have bA:k=xs.length:=by omega
  subst bA
  have H:xs.drop xs.length=[]:=List.drop_eq_nil_iff.2 (Oa2 _)
  have Z:=Y.out
  rw[H,Jgc,Od7]at Z
  have bu:Hid (Yc xs=done):=Z
  clear Z H
  go_wp2
  go_ret
  exact⟨by rw[bu.out];rfl,N⟩
end
end Go.Proofs.YtcaocabmioafcaaGreatDoor
