/- Rows in memory; what a table is, and in which ways it can be written: the program's own checks. -/
import Derived.Test.YtpchafocmlhmbaaGreatDoorKa
import Derived.RangeFuncNested
import Derived.RangeFuncBound
import Derived.Shelf.RegionOpen
import Derived.OwnWalkIn
import Derived.LoopNIn
import Derived.LoopIn
import Derived.Deep.RegionHeld3
import Derived.Lib.BufferWrite
import Derived.Lib.LazyBuf
import Derived.Deep.DeepCutAuto
set_option maxHeartbeats 2000000
set_option maxRecDepth 100000
namespace Go.Proofs.YtpchafocmlhmbaaGreatDoor
section
open Go.RowKit Tryz
def iv (n:Int):Value:=.int .i64 n
abbrev Kc (w:World)(a:Option Addr)(ns:List Int):Prop:=Uh w a (ns.map iv)
theorem Kc.at {w:World}{a:Option Addr}{ns:List Int}(h:Kc w a ns){i:Nat}(hi:i<ns.length):∃ b o,a=some ⟨b,o,none⟩∧b<w.heap.size∧w.cell? ⟨b,o+i,none⟩=some (.int .i64 ns[i]):=by
 obtain⟨b,o,y,D,E⟩:=Uh.at h (i:=i) (by simpa using hi);exact⟨b,o,y,D,by rw[E];simp[iv]⟩
def Je1 (h:Option Addr×Nat)(r:List V):Value:=.slice h.1 r.length h.2
structure Zd (w:World) (a:Option Addr) (hs:List (Option Addr×Nat)) (rs:List (List V)):Prop where
 len:hs.length=rs.length
 cells:Uh w a (List.zipWith Je1 hs rs)
 rows:∀ (i:Nat) h r,hs[i]?=some h→rs[i]?=some r→Jv w h.1 r
theorem Zd.below {w w':World}{a:Option Addr}{hs:List (Option Addr×Nat)}{rs:List (List V)}(h:Zd w a hs rs)(y:Below w.heap.size w w'):Zd w' a hs rs:=
 ⟨h.len,h.cells.below y,fun i x r D hr=>(h.rows i x r D hr).below y⟩
theorem Zd.at {w:World}{a:Option Addr}{hs:List (Option Addr×Nat)}{rs:List (List V)}(h:Zd w a hs rs){i:Nat}(hi:i<rs.length) :
  ∃ b o y rc,a=some ⟨b,o,none⟩∧b<w.heap.size∧w.cell? ⟨b,o+i,none⟩=some (.slice y rs[i].length rc)∧Jv w y rs[i]:=by
 have K:i<hs.length:=by rw[h.len];exact hi
 obtain⟨b,o,D,E,H⟩:=h.cells.at (i:=i) (by simp;omega);exact⟨b,o,hs[i].1,hs[i].2,D,E,by rw[H];simp[Je1],h.rows i hs[i] rs[i] (by simp[K]) (by simp[hi])⟩
def Jnd (t:Int):Bool:=decide (1≤t∧t≤3)
theorem Kjg (a:Option Addr)(cap:Nat)(ts:List Int)(w:World)(hn:ts.length≤maxLen)(Y:Kc w a ts)(b:Bool)(R:b=true↔(1≤ts.length∧ts.length≤6)∧∀ j (y:j<ts.length),Jnd ts[j]=true) :
  Calls prog 57 #[.slice a ts.length cap] w fun e w'=>e=.returned (.bool b)∧w'=w:=by
 unfold maxLen at hn;have E:Hid (b=true↔(1≤ts.length∧ts.length≤6)∧∀ j (y:j<ts.length),Jnd ts[j]=true):=R;clear R;by_cases bf:ts.length<1
 ·go_enter func57,ntmps57
  go_wp2;go_ret
  refine⟨Qr ?_,rfl⟩;cases b
  ·rfl
  have:=(E.out.1 rfl).1;omega
 by_cases hl:6<ts.length
 ·go_enter func57,ntmps57
  go_wp2;go_ret
  refine⟨Qr ?_,rfl⟩;cases b
  ·rfl
  have:=(E.out.1 rfl).1;omega
 go_enter func57,ntmps57
 go_wp2;go_loop [15] (fun i=>∃ k:Nat,k≤ts.length∧i=.int .i64 k∧Hid (∀ j (y:j<ts.length),j<k→Jnd ts[j]=true)) (fun i=>ts.length-(intOf i).toNat)
 case atStart=>exact⟨0,Ob7 _,rfl,fun j _ y=>absurd y (Oe0 _)⟩
 case round=>
  obtain⟨k,bc,rfl,O⟩:=hrel;by_cases U:k<ts.length
  ·obtain⟨b1,bh,rfl,Z,bi⟩:=Y.at U;have H:=Jlh ts[k] w;cases ho:Jnd ts[k]
   ·have K:Hid (Jnd ts[k]=false):=ho;have D:decide (1≤ts[k]∧ts[k]≤3)=false:=ho;rw[D]at H;clear ho D;go_wp2_with (go_at_call 85;refine H.mono ?_;rintro e w' ⟨rfl,X⟩;subst w')
    go_ret
    refine⟨Qr ?_,rfl⟩;cases b
    ·rfl
    have:=(E.out.1 rfl).2 k U;rw[K.out]at this;exact absurd this (by decide)
   have K:Hid (Jnd ts[k]=true):=ho;have D:decide (1≤ts[k]∧ts[k]≤3)=true:=ho;rw[D]at H;clear ho D;go_wp2_with (go_at_call 85;refine H.mono ?_;rintro e w' ⟨rfl,X⟩;subst w')
   go_round
   case rel=>
    refine⟨k+1,by omega,by go_num,fun j y ba=>?_⟩;by_cases e:j=k
    ·subst e;exact K.out
    exact O.out j y (by omega)
   case measure=>simp[intOf];omega
  go_wp2;go_ret
  exact⟨Qr (E.out.2 ⟨by omega,fun j y=>O.out j y (by omega)⟩).symm,rfl⟩
theorem Kjr (a R:Option Addr)(cap ba:Nat)(hs ts:List Int)(w:World)(hn:hs.length≤maxLen)(bh:Kc w a hs)(bi:Kc w R ts)(b:Bool)(X:b=true↔hs.length=ts.length∧∀ j (y:j<hs.length),way (ts.getD j 0) hs[j]=true) :
  Calls prog 43 #[.slice a hs.length cap,.slice R ts.length ba] w fun e w'=>e=.returned (.bool b)∧w'=w:=by
 unfold maxLen at hn;have E:Hid (b=true↔hs.length=ts.length∧∀ j (y:j<hs.length),way (ts.getD j 0) hs[j]=true):=X;clear X;by_cases hl:hs.length=ts.length
 ·have O:Hid (hs.length=ts.length):=hl;have bc:((hs.length:Int) != (ts.length:Int))=false:=by simp[hl]
  clear hl;go_enter func43,ntmps43
  go_wp2;go_loop [14] (fun i=>∃ k:Nat,k≤hs.length∧i=.int .i64 k∧Hid (∀ j (y:j<hs.length),j<k→way (ts.getD j 0) hs[j]=true)) (fun i=>hs.length-(intOf i).toNat)
  case atStart=>exact⟨0,Ob7 _,rfl,fun j _ y=>absurd y (Oe0 _)⟩
  case round=>
   obtain⟨k,bx,rfl,U⟩:=hrel;by_cases Y:k<hs.length
   ·have Z:k<ts.length:=by have:=O.out;omega
    obtain⟨b1,bz,rfl,bj,bB⟩:=bh.at Y;obtain⟨b2,bA,rfl,bn,bC⟩:=bi.at Z;have D:=Ja3 ts[k] hs[k] w;have K:Hid (ts.getD k 0=ts[k]):=by show _=_;simp[Z]
    cases ho:way ts[k] hs[k]
    ·have H:Hid (way ts[k] hs[k]=false):=ho;rw[ho]at D;clear ho;go_wp2_with (go_at_call 59;refine D.mono ?_;rintro e w' ⟨rfl,bf⟩;subst w')
     go_ret
     refine⟨Qr ?_,rfl⟩;cases b
     ·rfl
     have:=(E.out.1 rfl).2 k Y;rw[K.out,H.out]at this;exact absurd this (by decide)
    have H:Hid (way ts[k] hs[k]=true):=ho;rw[ho]at D;clear ho;go_wp2_with (go_at_call 59;refine D.mono ?_;rintro e w' ⟨rfl,bf⟩;subst w')
    go_round
    case rel=>
     refine⟨k+1,by omega,by go_num,fun j y br=>?_⟩;by_cases e:j=k
     ·subst e;rw[K.out];exact H.out
     exact U.out j y (by omega)
    case measure=>simp[intOf];omega
   go_wp2;go_ret
   exact⟨Qr (E.out.2 ⟨O.out,fun j y=>U.out j y (by omega)⟩).symm,rfl⟩
 have bc:((hs.length:Int) != (ts.length:Int))=true:=by simp;omega
 go_enter func43,ntmps43
 go_wp2;go_ret
 refine⟨Qr ?_,rfl⟩;cases b
 ·rfl
 exact absurd (E.out.1 rfl).1 hl
theorem Kkh (a Y:Option Addr)(cap bf:Nat)(vs:List V)(ts:List Int)(w:World)(hn:vs.length≤maxLen)(bi:Jv w a vs)(bj:Kc w Y ts)(b:Bool)(D:b=true↔vs.length=ts.length∧∀ j (y:j<vs.length),okB (ts.getD j 0) vs[j].k vs[j].n vs[j].s=true) :
  Calls prog 58 #[.slice a vs.length cap,.slice Y ts.length bf] w fun e w'=>e=.returned (.bool b)∧Below w.heap.size w w':=by
 unfold maxLen at hn;have K:Hid (b=true↔vs.length=ts.length∧∀ j (y:j<vs.length),okB (ts.getD j 0) vs[j].k vs[j].n vs[j].s=true):=D;clear D;by_cases hl:vs.length=ts.length
 ·have X:Hid (vs.length=ts.length):=hl;have bh:((vs.length:Int) != (ts.length:Int))=false:=by simp[hl]
  clear hl;go_enter func58,ntmps58
  go_wp2;go_loopw [14] (fun i wr=>∃ k:Nat,k≤vs.length∧i=.int .i64 k∧Below w.heap.size w wr∧Hid (∀ j (y:j<vs.length),j<k→okB (ts.getD j 0) vs[j].k vs[j].n vs[j].s=true)) (fun i _=>vs.length-(intOf i).toNat)
  case atStart=>exact⟨0,Ob7 _,rfl,Oa5 _ _,fun j _ y=>absurd y (Oe0 _)⟩
  case round=>
   obtain⟨k,bz,rfl,H,Z⟩:=hrel;by_cases ba:k<vs.length
   ·have bc:k<ts.length:=by have:=X.out;omega
    obtain⟨b1,bA,rfl,bn,bC,bD,bE⟩:=(bi.below H).at ba;obtain⟨b2,bB,rfl,br,bG⟩:=Kc.at (bj.below H) bc;have U:Hid (ts.getD k 0=ts[k]):=by show _=_;simp[bc]
    have E:=fun (W:World)=>Jmd vs[k].k vs[k].n vs[k].s ts[k] W;cases ho:okB ts[k] vs[k].k vs[k].n vs[k].s
    ·have R:Hid (okB ts[k] vs[k].k vs[k].n vs[k].s=false):=ho;rw[ho]at E;have O:Hid (∀ W:World,Calls prog 86 #[.agg #[.int .i64 vs[k].k,.int .i64 vs[k].n,.string vs[k].s],.int .i64 ts[k]] W fun e w'=>e=.returned (.bool false)∧Below W.heap.size W w'):=E;clear E;clear ho;go_wp2_with fail
     go_region_with (first|(go_at_call 86;refine(O.out _).mono ?_;rintro e w' ⟨rfl,D⟩))
     all_goals
      go_wp2;go_ret
      refine⟨Qr ?_,Jb H (Qx (Jw D))⟩;cases b
      ·rfl
      have:=(K.out.1 rfl).2 k ba;rw[U.out,R.out]at this;exact absurd this (by decide)
    have R:Hid (okB ts[k] vs[k].k vs[k].n vs[k].s=true):=ho;rw[ho]at E;have O:Hid (∀ W:World,Calls prog 86 #[.agg #[.int .i64 vs[k].k,.int .i64 vs[k].n,.string vs[k].s],.int .i64 ts[k]] W fun e w'=>e=.returned (.bool true)∧Below W.heap.size W w'):=E;clear E ho;go_wp2_with fail
    go_region_with (first|(go_at_call 86;refine(O.out _).mono ?_;rintro e w' ⟨rfl,D⟩))
    all_goals
     go_wp2;go_roundw
     case rel=>
      refine⟨k+1,by omega,by go_num,Jb H (Qx (Jw D)),fun j y bx=>?_⟩;by_cases e:j=k
      ·subst e;rw[U.out];exact R.out
      exact Z.out j y (by omega)
     case measure=>simp[intOf];omega
   go_wp2;go_ret
   exact⟨Qr (K.out.2 ⟨X.out,fun j y=>Z.out j y (by omega)⟩).symm,H⟩
 have bh:((vs.length:Int) != (ts.length:Int))=true:=by simp;omega
 go_enter func58,ntmps58
 go_wp2;go_ret
 refine⟨Qr ?_,Oa5 _ _⟩;cases b
 ·rfl
 exact absurd (K.out.1 rfl).1 hl
end
section
open Go.RowKit Go.Shelf Tryz
attribute [local go_sem] Oc0
abbrev Ck (len:Nat):Type:={x:Nat×Nat // x.1+x.2≤len∧1≤x.2∧x.2≤64}
def Jaa (len g i:Nat):Nat×Nat:=(i*g,min g (len-i*g))
def cks (len g k:Nat):List (Nat×Nat):=(List.range k).map (Jaa len g)
def ckN (len g:Nat):Nat:=(len+g-1) / g
theorem Jbj (len g k:Nat):cks len g (k+1)=cks len g k++[Jaa len g k]:=by simp[cks,List.range_succ]
theorem Jbp (len g k:Nat):(cks len g k).length=k:=by simp[cks]
theorem Jqs {len g k:Nat}(D:1≤g)(h:k<ckN len g):k*g<len:=by
 unfold ckN at h;have y:k+1≤(len+g-1) / g:=h;rw[Nat.le_div_iff_mul_le (by omega)]at y;rw[Of5]at y;omega
theorem Khi {len g k:Nat}(y:1≤g)(h:k*g<len):k<ckN len g:=by
 unfold ckN;have:k+1≤(len+g-1) / g:=by
  rw[Nat.le_div_iff_mul_le (by omega),Of5];omega
 exact this
def KpC (D y:Nat)(W E:World):Prop:=E.heap[D]?=W.heap[D]?∧E.heap[y]?=W.heap[y]?
theorem Kkd (n:Nat)(hn:1≤n)(l K E b off len cap g:Nat)(ba:1≤g)(bL:g≤64)(bN:len≤1000)(bK:len≤cap)(J Y:List (Ck len)→World→Prop)
  (bE:∀ D (x:Ck len) W,J D W→D.length<ckN len g→YieldAt Fence.wide (n-1) prog l #[.slice (some ⟨b,off+x.1.1,none⟩) x.1.2 x.1.2] W fun e H=>
   (e=.returned (.bool true)∧J (D++[x]) H∧KpC K E W H)∨(e=.returned (.bool false)∧Y (D++[x]) H))
  (bC:∀ s W,J s W→J s W.drew) (W:World) (bA:W.cell? ⟨K,0,none⟩=some (.slice (some ⟨b,off,none⟩) len cap)) (bz:W.cell? ⟨E,0,none⟩=some (.int .i64 (g:Int))) (h0:J [] W) :
  CallsIn Fence.wide n prog 87 #[.func (.yield l) #[] #[],.pointer (some ⟨K,0,none⟩),.pointer (some ⟨E,0,none⟩)] W fun e H=>(∃ v,e=.returned v) ∧
   ((∃ y,y.map Subtype.val=cks len g (ckN len g)∧J y H)∨(∃ D,(∃ k,k≤ckN len g∧D.map Subtype.val=cks len g k)∧Y D H)):=by
 refine callsIn_of_wp func87 rfl trivial ?_ rfl;simp only[ntmps87,Om3,List.length_cons,List.length_nil,Nat.reduceAdd,Nat.reduceSub,Ok9,Array.replicate_zero,Om4,Ol2,List.nil_append,List.cons_append];gi_wp2
 gi_loopw [4] (fun i wr=>∃ (k:Nat) (y:List (Ck len)),k≤ckN len g∧i=.int .i64 ((k*g:Nat):Int)∧Hid (y.map Subtype.val=cks len g k)∧J y wr∧KpC K E W wr)
  (fun i _=>len+64-(intOf i).toNat)
 case atStart=>exact⟨0,[],Ob7 _,by simp,rfl,h0,rfl,rfl⟩
 case round=>
  obtain⟨k,y,bM,rfl,O,Z,bc,bf⟩:=hrel;have c1:wr.cell? ⟨K,0,none⟩=some (.slice (some ⟨b,off,none⟩) len cap):=by rw[Oc3 (w:=W) bc];exact bA
  have c2:wr.cell? ⟨E,0,none⟩=some (.int .i64 (g:Int)):=by rw[Oc3 (w:=W) bf];exact bz
  by_cases bj:k*g<len
  ·have bi:=Khi ba bj;have R:Hid (cks len g (k+1)=cks len g k++[(k*g,min g (len-k*g))]):=Jbj len g k;have br:Hid ((k+1)*g=k*g+g):=Of5 k g;have bJ:y.length=k:=by have:=congrArg List.length O.out;rw[Oa6,Jbp]at this;exact this
   generalize k*g=i at *;obtain⟨m,U,X⟩:∃ m:Nat,(i+m≤len∧1≤m∧m≤64)∧Hid (m=min g (len-i)):=⟨min g (len-i),by omega,rfl⟩;rw[←X.out]at R;have bR:(if len-i<g then ((len-i:Nat):Int)else (g:Int))=(m:Int):=by have:=X.out;split<;>omega
   obtain⟨fn,tmps,assign,body,bI,hR⟩:=bE y ⟨(i,m),U⟩ wr.drew (bC _ _ Z) (by omega);dsimp only at bI;clear bJ;have bH:=U;obtain⟨bO,bP,bQ⟩:=U;gi_wp2
   gi_region
   gi_wp2
   refine hR.mono ?_;rintro e bx (⟨rfl,bB,bG,bh⟩|⟨rfl,bD⟩)
   ·have c3:bx.cell? ⟨E,0,none⟩=some (.int .i64 (g:Int)):=by rw[Oc3 (w:=wr.drew) bh];exact c2
    gi_wp2
    go_roundw
    case rel=>exact⟨k+1,y++[⟨(i,m),bH⟩],bi,by rw[br.out];go_num,by show _=_;rw[Ob8,O.out,R.out];rfl,bB,bG.trans bc,bh.trans bf⟩
    case measure=>simp[intOf];omega
   gi_wp2
   refine bodyPost_ret (results_none rfl _ _ _) rfl ?_;exact⟨⟨_,rfl⟩,.inr ⟨_,⟨k+1,bi,by rw[Ob8,O.out,R.out];rfl⟩,bD⟩⟩
  have bn:Hid (k=ckN len g):=by
   rcases Oc1 k (ckN len g)with h'|h'
   ·exact absurd (Jqs ba h') bj
   ·show k=_;omega
  gi_wp2
  go_end0
  exact⟨⟨_,rfl⟩,.inl ⟨y,by rw[O.out,bn.out],Z⟩⟩
end
section
open Go.RowKit
theorem Ja5 (vs:List V):(vs.flatMap V.cells).length=vs.length*3:=by
 induction vs with
 |nil=>rfl
 |cons v vs y=>rw[Og7,Oa8,y];simp[V.cells];omega
theorem Kem {w:World}{b o:Nat}{xs:List V}(h:∀ i v,xs[i]?=some v→VAt w b (o+i*3) v):∀ j u,(xs.flatMap V.cells)[j]?=some u→w.cell? ((⟨b,o,none⟩:Addr).add j)=some u:=by
 intro j u U;have Y:∀ (D:List V) (j:Nat) (u:Value),(D.flatMap V.cells)[j]?=some u→∃ i v,D[i]?=some v∧((j=i*3∧u=.int .i64 v.k)∨(j=i*3+1∧u=.int .i64 v.n)∨(j=i*3+2∧u=.string v.s)):=by
  intro D;induction D with
  |nil=>intro j u h;simp at h
  |cons v D X=>
   intro j u h;match j,h with
   |0,h=>exact⟨0,v,rfl,by simp[V.cells]at h;simp[h]⟩
   |1,h=>exact⟨0,v,rfl,by simp[V.cells]at h;simp[h]⟩
   |2,h=>exact⟨0,v,rfl,by simp[V.cells]at h;simp[h]⟩
   |j+3,h=>
    obtain⟨i,v',hi,E⟩:=X j u (by simpa [V.cells] using h);refine⟨i+1,v',by simpa using hi,?_⟩;rcases E with⟨e,y⟩|⟨e,y⟩|⟨e,y⟩
    ·exact .inl ⟨by omega,y⟩
    ·exact .inr (.inl ⟨by omega,y⟩)
    exact .inr (.inr ⟨by omega,y⟩)
 obtain⟨i,v,hi,E⟩:=Y xs j u U;obtain⟨H,K,O⟩:=h i v hi;have R:(⟨b,o,none⟩:Addr).add j=⟨b,o+j,none⟩:=by unfold Addr.add;split<;>simp_all
 rw[R];rcases E with⟨e,y⟩|⟨e,y⟩|⟨e,y⟩
 ·rw[e,y];exact H
 ·rw[e,y,←On5];exact K
 rw[e,y,←On5];exact O
theorem Kap (vs:List V):∀ u∈vs.flatMap V.cells,u.oneCell'=true:=by
 intro u D;obtain⟨v,_,y⟩:=Op5.1 D;simp[V.cells]at y;rcases y with rfl|rfl|rfl<;>rfl
def Kv (w:World)(g:Nat)(vs:List V)(y:List Value):Prop:=∃ C:Array Value,w.heap[g]?=some (.cells C 39 (0,0))∧C.toList=vs.flatMap V.cells++y
theorem Kv.of_block {w w':World}{g:Nat}{vs:List V}{y:List Value}(h:Kv w g vs y)(e:w'.heap[g]?=w.heap[g]?):Kv w' g vs y:=by
 obtain⟨C,D,hC⟩:=h;exact⟨C,by rw[e];exact D,hC⟩
theorem Kv.lt {w:World}{g:Nat}{vs:List V}{E:List Value}(h:Kv w g vs E):g<w.heap.size:=by
 obtain⟨C,D,_⟩:=h;rcases Oc1 g w.heap.size with y|y
 ·exact y
 simp[Array.getElem?_eq_none y]at D
theorem Kv.cell {w:World}{g:Nat}{vs:List V}{D:List Value}(h:Kv w g vs D){j:Nat}{x:Value}(E:D[j]?=some x):w.cell? ⟨g,vs.length*3+j,none⟩=some x∧w.frozen? ⟨g,vs.length*3+j,none⟩=false:=by
 obtain⟨C,y,hC⟩:=h;have:C[vs.length*3+j]?=some x:=by
  rw[←Oe6,hC,Ob6 (by rw[Ja5];omega),Ja5];have e:vs.length*3+j-vs.length*3=j:=by omega
  rw[e];exact E
 exact⟨by simp[World.cell?,y,this],by simp[World.frozen?,y]⟩
theorem Kv.vals {w:World}{g:Nat}{vs:List V}{bc:List Value}(h:Kv w g vs bc):Jv w (some ⟨g,0,none⟩) vs:=by
 have O:=h.lt;obtain⟨C,K,hC⟩:=h;have R:w.ownsRow 0 39 3 (.slice (some ⟨g,0,none⟩) vs.length C.size) vs.length (vs.flatMap V.cells)→True:=fun _=>trivial;clear R;refine .inr ⟨g,0,rfl,O,fun i v hi=>?_⟩;have ba:∀ (y:List V) (i:Nat) (v:V),y[i]?=some v→(y.flatMap V.cells)[i*3]?=some (.int .i64 v.k)∧(y.flatMap V.cells)[i*3+1]?=some (.int .i64 v.n)∧(y.flatMap V.cells)[i*3+2]?=some (.string v.s):=by
  intro y;induction y with
  |nil=>intro i v h;simp at h
  |cons u y U=>
   intro i v h;cases i with
   |zero=>simp at h;subst h;simp[V.cells]
   |succ i=>
    have:=U i v (by simpa using h);have E:(i+1)*3=i*3+3:=(by omega);simp only[Og7,V.cells,E];simpa using this
 obtain⟨X,Y,Z⟩:=ba vs i v hi;have bf:i<vs.length:=by
  rcases Oc1 i vs.length with D|D
  ·exact D
  rw[Ob4 D]at hi;simp at hi
 have g1:C[i*3]?=some (.int .i64 v.k):=by rw[←Oe6,hC,Ob0 (by rw[Ja5];omega)];exact X
 have g2:C[i*3+1]?=some (.int .i64 v.n):=by rw[←Oe6,hC,Ob0 (by rw[Ja5];omega)];exact Y
 have H:C[i*3+2]?=some (.string v.s):=by rw[←Oe6,hC,Ob0 (by rw[Ja5];omega)];exact Z
 unfold VAt;simp only[World.cell?,K,Od0];simp[g1,g2,H]
theorem Jtz (C:Array Value)(y D:List Value)(x E:Value)(n:Nat)(h:C.toList=y++x::D)(hn:y.length=n):(C.setIfInBounds n E).toList=(y++[E])++D:=by
 rw[Ok0,h,Ok4 _ _ (by omega),hn,Oe1];simp
theorem Kv.set3 {w:World}{g:Nat}{vs:List V}{O R U:Value}{y:List Value}(h:Kv w g vs (O::R::U::y))(v:V)(n:Nat)(hn:n=vs.length) :
  Kv (((w.setCell ⟨g,n*3,none⟩ (.int .i64 v.k)).setCell ⟨g,n*3+1,none⟩ (.int .i64 v.n)).setCell ⟨g,n*3+2,none⟩ (.string v.s)) g (vs++[v]) y:=by
 subst hn;obtain⟨C,K,hC⟩:=h;have hl:=Ja5 vs;have D:=Jtz C _ _ _ (.int .i64 v.k) _ hC hl;have E:=Jtz _ _ _ _ (.int .i64 v.n) (vs.length*3+1) D (by simp[hl]);have H:=Jtz _ _ _ _ (.string v.s) (vs.length*3+2) E (by simp[hl]);refine⟨_,?_,H.trans ?_⟩
 ·simp[World.setCell,Array.getElem?_modify,K]
 simp[V.cells]
end
section
open Go.RowKit
end
section
open Go.RowKit
theorem Ut {w w1 E:World}{r:Option Nat}(h:w.grownBy w1 r)(k:w1.grownBy E r):w.grownBy E r:=
 ⟨k.os.trans h.os,k.tape.trans h.tape,k.output.trans h.output,Ob2 h.size k.size,fun j y D=>(k.block j (Oc2 y h.size) D).trans (h.block j y D)⟩
theorem Qq {w w':World}{r:Option Nat}(h:Below w.heap.size w w'):w.grownBy w' r:=⟨h.os,h.tape,h.output,h.size,fun j y _=>h.block j y⟩
theorem Ka4 {w w':World}{g:Nat}(h:w.grownBy w' (some g))(o:Nat)(v:Value):w.grownBy (w'.setCell ⟨g,o,none⟩ v) (some g):=
 ⟨h.os,h.tape,h.output,by simpa [World.setCell] using h.size,fun j D y=>(Oa4 _ _ _ _ (fun e=>y (by rw[e]))).trans (h.block j D y)⟩
theorem Kv.at3 {w:World}{g:Nat}{y:List V}(h:Kv w g y [])(v:V)(k:Nat)(E:k<y.length) :
  ((w.cell? ⟨g,k*3,none⟩=some (.int .i64 y[k].k)∧w.frozen? ⟨g,k*3,none⟩=false)∧(w.cell? ⟨g,k*3+1,none⟩=some (.int .i64 y[k].n)∧w.frozen? ⟨g,k*3+1,none⟩=false)∧(w.cell? ⟨g,k*3+2,none⟩=some (.string y[k].s)∧w.frozen? ⟨g,k*3+2,none⟩=false)) ∧
  Kv (((w.setCell ⟨g,k*3,none⟩ (.int .i64 v.k)).setCell ⟨g,k*3+1,none⟩ (.int .i64 v.n)).setCell ⟨g,k*3+2,none⟩ (.string v.s)) g (y.set k v) []:=by
 obtain⟨C,R,hC⟩:=h;rw[Od7]at hC;have Y:y=y.take k++y[k]::y.drop (k+1):=by rw[←Oi1 E,Ok3]
 have H:(y.take k).length=k:=by rw[Oc7];omega
 have D:Kv w g (y.take k) (y[k].cells++(y.drop (k+1)).flatMap V.cells):=by
  refine⟨C,R,?_⟩;rw[hC];conv=>lhs;rw[Y]
  rw[Oe8,Og7]
 have c0:=D.cell (j:=0) rfl;have c1:=D.cell (j:=1) rfl;have c2:=D.cell (j:=2) rfl;rw[H]at c0 c1 c2;rw[Nat.add_zero]at c0;refine⟨⟨c0,c1,c2⟩,?_⟩;obtain⟨K,U,O⟩:=D.set3 v k H.symm;refine⟨K,U,?_⟩;rw[O,Od7];have X:y.set k v=y.take k++v::y.drop (k+1):=by
  rw[On0,if_pos E]
 rw[X];simp[V.cells]
end
section
def Jlv (s:Nat)(b:UInt8):Nat:=((s ^^^ b.toNat)*1099511628211) % 18446744073709551616
def Khr (l:List UInt8):Nat:=l.foldl Jlv 14695981039346656037
def le7 (u:Nat):List UInt8:=(List.range 7).map fun i=>UInt8.ofNat (u / 256 ^ i % 256)
def Jm7 (l:List UInt8):List UInt8:=le7 (Khr l)
def body (y:List UInt8):List UInt8:=y++List.replicate (56-y.length) 0++[UInt8.ofNat y.length]
def Jdm (y:List UInt8):List UInt8:=body y++Jm7 (body y)
def Jd2 (p:List UInt8):Option (List UInt8):=
 if 56<(p.getD 56 0).toNat∨p.drop 57≠Jm7 (p.take 57)then none else some (p.take (p.getD 56 0).toNat)
theorem Jcc {y:List UInt8}(h:y.length≤56):(body y).length=57:=by
 simp[body];omega
theorem Jhq (u:Nat):(le7 u).length=7:=by simp[le7]
theorem Kjo (l:List UInt8):(Jm7 l).length=7:=Jhq _
theorem Jwh {y:List UInt8}(h:y.length≤56):(Jdm y).take 57=body y:=by
 rw[Jdm,List.take_append_of_le_length (by rw[Jcc h];exact Oa2 _),Oc8 (by rw[Jcc h];exact Oa2 _)]
theorem Jwp {y:List UInt8}(h:y.length≤56):(Jdm y).drop 57=Jm7 (body y):=by
 rw[Jdm,List.drop_append,Jcc h];simp[List.drop_of_length_le,Jcc h]
theorem Kbq {y:List UInt8}(h:y.length≤56):((Jdm y).getD 56 0).toNat=y.length:=by
 have e:(Jdm y).getD 56 0=UInt8.ofNat y.length:=by
  rw[Jdm,Oa0,Ob0 (by rw[Jcc h];omega),body,Ob6 (by simp;omega)];have:56-(y++List.replicate (56-y.length) (0:UInt8)).length=0:=by simp;omega
  rw[this];rfl
 rw[e];simp;omega
theorem Jxe {y:List UInt8}(h:y.length≤56):Jd2 (Jdm y)=some y:=by
 unfold Jd2;rw[Kbq h,Jwh h,Jwp h,if_neg (by simp;omega)];congr 1
 rw[Jdm,body,Od8,Od8,List.take_left]
end
section
open Go.RowKit Tryz
def Jdp (w:World)(b:Nat)(p:List UInt8):Prop:=p.length=64∧w.rowIs b 327 64 (fun j=>bv (p.getD j 0))
theorem Jdp.of_block {w w':World}{b:Nat}{p:List UInt8}(h:Jdp w b p)(e:w'.heap[b]?=w.heap[b]?):Jdp w' b p:=⟨h.1,h.2.of_block e⟩
theorem Jdp.below {w w':World}{b:Nat}{p:List UInt8}(h:Jdp w b p)(y:Below w.heap.size w w'):Jdp w' b p:=h.of_block (y.block _ h.2.lt)
theorem Kgb (x y:Nat)(H:x<18446744073709551616)(K:y<18446744073709551616):bits .xor .u64 (x:Int) (y:Int)=((x ^^^ y:Nat):Int):=by
 have R:x ^^^ y<18446744073709551616:=Nat.xor_lt_two_pow (n:=64) H K;have O:(BitVec.ofInt 64 (x:Int) ^^^ BitVec.ofInt 64 (y:Int)).toNat=x ^^^ y:=by
  rw[BitVec.toNat_xor,Ok6,Ok6];have D:((x:Int) % ((2 ^ 64:Nat):Int)).toNat=x:=by omega
  have E:((y:Int) % ((2 ^ 64:Nat):Int)).toNat=y:=by omega
  rw[D,E]
 show IntKind.u64.wrap ((BitVec.ofInt 64 (x:Int) ^^^ BitVec.ofInt 64 (y:Int)).toNat:Nat)=_;rw[O,Oh5];omega
theorem Jze (p:List UInt8)(k:Nat)(y:k<p.length)(s:Nat):(p.take (k+1)).foldl Jlv s=Jlv ((p.take k).foldl Jlv s) (p.getD k 0):=by
 rw[Oc4 y,Ol1,List.foldl_cons,List.foldl_nil];congr 1
 simp[y]
theorem Jsn (b:Nat)(p:List UInt8)(w:World)(h:Jdp w b p) :
  Calls prog 170 #[.pointer (some ⟨b,0,none⟩)] w fun e w'=>e=.returned (.string (Qw (Jm7 (p.take 57))))∧Below w.heap.size w w':=by
 go_enter func170,ntmps170
 go_wp2;go_loopw [3,12] (fun s i wr=>∃ k z:Nat,k≤57∧i=.int .i64 k∧s=.int .u64 z∧z<18446744073709551616∧Hid (z=(p.take k).foldl Jlv 14695981039346656037)∧(∃ m,wr=w.drewN m)) (fun _ i _=>57-(intOf i).toNat)
 case atStart=>exact⟨0,14695981039346656037,by omega,rfl,rfl,by decide,rfl,0,rfl⟩
 case round=>
  rename_i s i
  obtain⟨k,z,bc,rfl,rfl,Y,K,m,rfl⟩:=hrel;by_cases X:k<57
  ·obtain⟨n,hn,H⟩:∃ n:Nat,n<256∧Hid (n=(p.getD k 0).toNat):=⟨_,(p.getD k 0).toNat_lt,rfl⟩;have ba:w.cell? ⟨b,k,none⟩=some (.int .u8 (n:Nat)):=by rw[h.2.cell (i:=k) (by omega),H.out];rfl
   have bh:=Kgb z n Y (by omega);have bi:z ^^^ n<18446744073709551616:=Nat.xor_lt_two_pow (n:=64) Y (by omega);have Z:Hid (Jlv z (p.getD k 0)=((z ^^^ n)*1099511628211) % 18446744073709551616):=by show Jlv _ _=_;rw[H.out];rfl
   generalize z ^^^ n=x at *;go_wp2;go_roundw
   case rel=>
    refine⟨k+1,(x*1099511628211) % 18446744073709551616,by omega,by go_num,?_,by omega,?_,m,rfl⟩
    ·have e:((x*1099511628211 % 18446744073709551616:Nat):Int)=(x:Int)*1099511628211 % 18446744073709551616:=(by omega);rw[Oh5,e]
    exact(Z.out.symm.trans (by rw[K.out])).trans (Jze p k (by rw[h.1];omega) _).symm
   case measure=>simp[intOf];omega
  obtain rfl:k=57:=by omega
  go_wp2;go_loopw [22] (fun i wr=>∃ k:Nat,k≤7∧i=.int .i64 k∧wr.rowIs w.heap.size 376 7 (fun j=>bv (if j<k then (le7 z).getD j 0 else 0))∧Below w.heap.size w wr) (fun i _=>7-(intOf i).toNat)
  case atStart=>
   refine⟨0,by omega,rfl,World.rowIs_alloc _ _ _ _ ?_,(Jp (Oa5 _ w) m).alloc (Oa2 _) _⟩;intro i hi;match i,hi with
   |0,_=>rfl
   |1,_=>rfl
   |2,_=>rfl
   |3,_=>rfl
   |4,_=>rfl
   |5,_=>rfl
   |6,_=>rfl
  case round=>
   rename_i i
   obtain⟨k,bc,rfl,D,O⟩:=hrel;by_cases X:k<7
   ·have ba:=D.cell (i:=k) (by omega);have hf:=D.frozen k;go_wp2;go_roundw
    case rel=>
     refine⟨k+1,by omega,by go_num,(D.set k _).congr fun j y=>?_,O.setCell (p:=⟨w.heap.size,k,none⟩) (Oa2 _) _⟩;by_cases U:j=k
     ·subst U;have hp:(2:Int) ^ (8*j)=((256 ^ j:Nat):Int):=by
       have:(256:Nat) ^ j=2 ^ (8*j):=by rw[Nat.pow_mul]
       rw[this];simp
      simp[le7,X,bv,hp]
     have:(j<k+1)=(j<k):=by rw[eq_iff_iff];omega
     simp[U,this]
    case measure=>simp[intOf];omega
   obtain rfl:k=7:=by omega
   have bf:(convert 198 9 (.slice (some ⟨w.heap.size,0,none⟩) 7 7)).run prog wr=.ok (.string (Qw (le7 z))) wr:=by
    have:=Jc6 wr ⟨w.heap.size,0,none⟩ 7 (le7 z) (fun j u y=>?_)
    ·rwa [Jhq]at this
    have R:j<7:=by
     rcases Oc1 j 7 with E|E
     ·exact E
     ·rw[Ob4 (by simp[Jhq];exact E)]at y;simp at y
    have:=D.cell (i:=j) R;rw[Addr.add_mid];simp only[Od0];rw[this];simp[R,Jhq]at y ⊢;exact y
   go_wp2;go_ret
   refine⟨?_,O⟩;show Ending.returned (Value.string (Qw (le7 z)))=_;rw[show Jm7 (p.take 57)=le7 z by unfold Jm7 Khr;rw[←K.out]]
theorem Kgi (w:World):(Go.sizeOf 5).run prog w=.ok 1 w:=by kernel_rfl
theorem Kju (l:List UInt8):(Qw l).data.toList=l:=by simp[Qw]
theorem Kkt (w:World)(C:Array Value)(hC:C=Array.replicate 64 (.int .u8 0)):(w.alloc (.cells C 327)).rowIs w.heap.size 327 64 (fun _=>bv 0):=by
 subst hC;refine World.rowIs_alloc _ _ _ _ fun i hi=>?_;simp at hi;rw[Array.getElem?_replicate,if_pos hi];rfl
theorem Kkm (y:List UInt8)(hp:y.length≤56)(j:Nat)(E:j<64) :
  (if j=56 then Value.int .u8 ((y.length:Nat):Int)else if 0≤j∧j<0+(y.map fun x=>Value.int .u8 (x.toNat:Int)).length then (y.map fun x=>Value.int .u8 (x.toNat:Int))[j-0]?.getD default else bv 0)=bv ((body y++List.replicate 7 0).getD j 0):=by
 by_cases D:j=56
 ·subst D;have e:(body y++List.replicate 7 0).getD 56 0=UInt8.ofNat y.length:=by
   rw[Oa0,Ob0 (by rw[Jcc hp];omega),body,Ob6 (by simp;omega)];have:56-(y++List.replicate (56-y.length) (0:UInt8)).length=0:=by simp;omega
   rw[this];rfl
  rw[if_pos rfl,e];simp[bv];omega
 rw[if_neg D];by_cases hl:j<y.length
 ·rw[if_pos (by simp;omega)];have e:(body y++List.replicate 7 0).getD j 0=y[j]:=by
   rw[Oa0,Ob0 (by rw[Jcc hp];omega),body,Od8,Ob0 hl];simp[hl]
  rw[e];simp[hl,bv]
 rw[if_neg (by simp;omega)];have e:(body y++List.replicate 7 0).getD j 0=0:=by
  rw[Oa0];rcases Oc1 j 57 with h|h
  ·rw[Ob0 (by rw[Jcc hp];omega),body,Ob0 (by simp;omega),Ob6 (by omega),Of3];split<;>rfl
  rw[Ob6 (by rw[Jcc hp];omega),Of3];split<;>rfl
 rw[e]
theorem Kki (bd y:List UInt8)(D:bd.length=57)(hs:y.length=7)(j:Nat)(E:j<64) :
  (if 57≤j∧j<57+(y.map fun x=>Value.int .u8 (x.toNat:Int)).length then (y.map fun x=>Value.int .u8 (x.toNat:Int))[j-57]?.getD default else bv ((bd++List.replicate 7 0).getD j 0))=bv ((bd++y).getD j 0):=by
 by_cases h:57≤j
 ·rw[if_pos (by simp[hs];omega),Oa0,Ob6 (by omega),D];simp[show j-57<y.length by omega,bv]
 rw[if_neg (by simp;omega),Oa0,Oa0,Ob0 (by omega),Ob0 (by omega)]
theorem Kkp (y:List UInt8)(hp:y.length≤56)(w:World) :
  Calls prog 126 #[.string (Qw y)] w fun e w'=>e=.returned (.pointer (some ⟨w.heap.size,0,none⟩))∧Jdp w' w.heap.size (Jdm y)∧Below w.heap.size w w':=by
 have bH:=Jb2 y;go_enter func126,ntmps126
 go_upto_region 2 with fail
 generalize U:World.alloc w (Obj.cells _ 327)=E;have H:E.rowIs w.heap.size 327 64 (fun _=>bv 0):=by rw[←U];exact Kkt w _ rfl
 have ba:Below w.heap.size w E:=by rw[←U];exact(Oa5 _ w).alloc (Oa2 _) _
 clear U;have bB:=run_copy_string (P:=prog) E 198 9 3 5 w.heap.size 0 64 64 (Qw y) underlying198 Kgi (by omega)
  (fun j D=>by rw[Od0,H.cell (by omega)];rfl) (fun j D=>by rw[Od0];exact H.frozen j)
 have K:=rowIs_setCells ((Qw y).data.toList.map fun x=>Value.int .u8 (x.toNat:Int)) 0 _ _ H;have bc:=below_setCells (Oa2 w.heap.size) ((Qw y).data.toList.map fun x=>Value.int .u8 (x.toNat:Int)) 0 _ ba;generalize E.setCells w.heap.size 0 ((Qw y).data.toList.map fun x=>Value.int .u8 (x.toNat:Int))=br at *;have bx:=K.cell (i:=56) (by omega);have bz:=K.frozen 56;go_upto_region 4 with fail
 have bj:=K.set 56 (.int .u8 ((y.length:Nat):Int));have bf:=bc.setCell (p:=⟨w.heap.size,56,none⟩) (Oa2 _) (.int .u8 ((y.length:Nat):Int));generalize br.setCell ⟨w.heap.size,56,none⟩ (.int .u8 ((y.length:Nat):Int))=Z at *;have bi:Jdp Z w.heap.size (body y++List.replicate 7 0):=by
  refine⟨by simp[Jcc hp],bj.congr fun j D=>?_⟩;rw[Kju];exact Kkm y hp j D
 clear bB K bc bx bz bj H ba;have bD:(body y++List.replicate 7 0).take 57=body y:=by
  rw[List.take_append_of_le_length (by rw[Jcc hp];exact Oa2 _),Oc8 (by rw[Jcc hp];exact Oa2 _)]
 have bn:=Jsn w.heap.size _ Z.drew (bi.of_block rfl);rw[bD]at bn;have O:=Kjo (body y);have Y:Hid (Jdm y=body y++Jm7 (body y)):=rfl;generalize Jm7 (body y)=R at *;go_region_with (first|(go_at_call 170;refine bn.mono ?_;rintro e bE ⟨rfl,bh⟩;have X:=(bi.below (Jw bh)).2;have bG:=run_copy_string (P:=prog) bE 198 9 3 5 w.heap.size 57 7 7 (Qw R) underlying198 Kgi (by rw[Jb2,O];omega) (fun j D=>by rw[Jb2,O]at D;rw[X.cell (by omega)];rfl) (fun j D=>X.frozen _)))
 have bC:=rowIs_setCells ((Qw R).data.toList.map fun x=>Value.int .u8 (x.toNat:Int)) 57 _ _ X;have bA:=below_setCells (Oa2 w.heap.size) ((Qw R).data.toList.map fun x=>Value.int .u8 (x.toNat:Int)) 57 _ (bf.trans ((Jw bh).mono bf.size));go_wp2;go_ret
 refine⟨rfl,⟨by rw[Y.out];simp[Jcc hp,O],bC.congr fun j D=>?_⟩,bA⟩;rw[Kju,Y.out];exact Kki (body y) R (Jcc hp) O j D
theorem Jjh (b:Nat)(p:List UInt8)(W:World)(h:Jdp W b p)(lo n c:Nat)(hn:lo+n≤64) :
  (convert 198 9 (.slice (some ⟨b,lo,none⟩) n c)).run prog W=.ok (.string (Qw ((p.drop lo).take n))) W:=by
 have hl:((p.drop lo).take n).length=n:=by rw[Oc7,Of7,h.1];omega
 have:=Jc6 W ⟨b,lo,none⟩ c ((p.drop lo).take n) (fun j u y=>?_)
 ·rwa [hl]at this
 have E:j<n:=by
  rcases Oc1 j n with D|D
  ·exact D
  ·rw[Ob4 (by simp;omega)]at y;simp at y
 rw[Addr.add_mid,h.2.cell (i:=lo+j) (by omega)];rw[Ob1,Oh3 E,Oh9]at y;rw[Oa0];cases hq:p[lo+j]? with
 |none=>rw[hq]at y;simp at y
 |some x=>rw[hq]at y;simpa using y
theorem Jtg:prog.elem 327=5:=by kernel_rfl
theorem Jp0:prog.underlying 327=some (.array (prog.arrayLen 327) (prog.elem 327)):=by kernel_rfl
theorem Jmr:prog.arrayLen 327=64:=by kernel_rfl
theorem Jt5 (b n:Nat)(W:World)(hn:n≤64):(Instr.sliceAt 327 (.pointer (some ⟨b,0,none⟩)) none (some (.int .i64 (n:Int))) none).run prog W=.ok (.slice (some ⟨b,0,none⟩) n 64) W:=by
 have h:=run_sliceAt_array_h (P:=prog) W 327 ⟨b,0,none⟩ Jp0 .i64 (n:Int) (by omega) (by rw[Jmr];omega);rw[Jtg,Kgi,Jmr]at h;rw[h];simp[Result.andThen,slicedAt,Addr.add]
theorem Ke1 (b:Nat)(p:List UInt8)(w:World)(h:Jdp w b p) :
  Calls prog 157 #[.pointer (some ⟨b,0,none⟩)] w fun e w'=>e=.returned (.tuple #[.string (Qw ((Jd2 p).getD [])),.bool (Jd2 p).isSome])∧Below w.heap.size w w':=by
 obtain⟨n,hn,bh⟩:∃ n:Nat,n<256∧Hid (n=(p.getD 56 0).toNat):=⟨_,(p.getD 56 0).toNat_lt,rfl⟩;have bx:w.cell? ⟨b,56,none⟩=some (.int .u8 (n:Nat)):=by rw[h.2.cell (i:=56) (by omega),bh.out];rfl
 have H:Hid (Jd2 p=if 56<n∨p.drop 57≠Jm7 (p.take 57)then none else some (p.take n)):=by show Jd2 p=_;unfold Jd2;rw[bh.out]
 generalize Jd2 p=op at *;have br:=Jsn b p w.drew (h.of_block rfl);have Y:(p.drop 57).take 7=p.drop 57:=Oc8 (by rw[Of7,h.1];omega);have bj:=Jjh b p w.drew (h.of_block rfl) 57 7 7 (by omega);rw[Y]at bj;by_cases bi:56<n
 ·have:op=none:=by rw[H.out,if_pos (.inl bi)]
  subst this;have bn:decide ((56:Int)<(n:Int))=true:=by simp;omega
  go_enter func157,ntmps157
  go_wp2_with fail
  go_quiet (fail)
  go_wp2;go_ret2
  exact⟨rfl,Jp (Oa5 _ _) _⟩
 have bf:Hid (∀ W,Jdp W b p→(convert 198 9 (.slice (some ⟨b,57,none⟩) 7 7)).run prog W=.ok (.string (Qw (p.drop 57))) W):=fun W K=>by
  have:=Jjh b p W K 57 7 7 (by omega);rwa [Y]at this
 have bc:Hid (∀ W,Jdp W b p→(convert 198 9 (.slice (some ⟨b,0,none⟩) n 64)).run prog W=.ok (.string (Qw (p.take n))) W):=fun W K=>by
  have:=Jjh b p W K 0 n 64 (by omega);rwa [List.drop_zero]at this
 have X:Hid (∀ W,Jdp W b p→Calls prog 170 #[.pointer (some ⟨b,0,none⟩)] W fun e w'=>e=.returned (.string (Qw (Jm7 (p.take 57))))∧Below W.heap.size W w'):=fun W K=>Jsn b p W K;have bn:decide ((56:Int)<(n:Int))=false:=by simp;omega
 clear br bj Y;by_cases E:p.drop 57=Jm7 (p.take 57)
 ·have:op=some (p.take n):=by rw[H.out,if_neg (by intro D;rcases D with D|D;exact bi D;exact D E)]
  subst this;rw[←E]at X;clear H E;generalize p.drop 57=ba at *;generalize p.take n=bC at *;go_enter func157,ntmps157
  go_wp2_with fail
  go_region_held3 (fun y=>Jdp y b p∧(convert 198 9 (.slice (some ⟨b,57,none⟩) 7 7)).run prog y=.ok (.string (Qw ba)) y)
   (first|(go_split_ands;refine⟨?_,bf.out _ ?_⟩<;>(first|exact h|exact h.of_block rfl|exact U|(have Z:Jdp _ b p:=by assumption;exact Z.of_block rfl)|assumption)))
   (first|(go_at_call 170;refine(X.out _ (by first|assumption|(go_split_ands;assumption))).mono ?_;rintro e R ⟨rfl,O⟩;have U:Jdp R b p:=Jdp.below (w:=w.drew) (h.of_block rfl) O))
  have bz:=bc.out R U;have bB:=Jt5 b n R (by omega);go_wp2;go_ret2
  exact⟨rfl,Jw O⟩
 have:op=none:=by rw[H.out,if_pos (.inr E)]
 subst this;have bA:((Qw (p.drop 57)).toList==(Qw (Jm7 (p.take 57))).toList)=false:=by
  rw[beq_eq_false_iff_ne];exact fun D=>E (Kfv (by rw[←Zf (Qw (p.drop 57)),D,Zf]))
 clear H E bc;generalize p.drop 57=ba at *;generalize Jm7 (p.take 57)=bD at *;go_enter func157,ntmps157
 go_wp2_with fail
 go_region_held3 (fun y=>Jdp y b p∧(convert 198 9 (.slice (some ⟨b,57,none⟩) 7 7)).run prog y=.ok (.string (Qw ba)) y)
  (first|(go_split_ands;refine⟨?_,bf.out _ ?_⟩<;>(first|exact h|exact h.of_block rfl|exact U|(have Z:Jdp _ b p:=by assumption;exact Z.of_block rfl)|assumption)))
  (first|(go_at_call 170;refine(X.out _ (by first|assumption|(go_split_ands;assumption))).mono ?_;rintro e R ⟨rfl,O⟩;have U:Jdp R b p:=Jdp.below (w:=w.drew) (h.of_block rfl) O))
 go_wp2;go_ret2
 exact⟨rfl,Jw O⟩
theorem Jye:(prog.info? 311).map (·.size)=some 2:=by kernel_rfl
theorem Kfg:liesAt prog prog.depth 311 (2 / prog.cellsOf 311) 0 311 1=true:=by kernel_rfl
theorem Kd2:prog.cellsOf 5=1:=by kernel_rfl
theorem Jrs (b:Nat)(w:World)(h0:w.cell? ⟨b,0,none⟩=some (.pointer (some ⟨b,0,none⟩))) :
  Calls prog 210 #[.pointer (some ⟨b,0,none⟩)] w fun e w'=>e=.returned (.tuple #[])∧w'=w:=by
 obtain⟨j,y,_⟩:=Oe9.1 Jye;go_enter func210,ntmps210
 go_wp2;rw[Lib.run_neq_ptr_same w _ underlying309 y];go_wp2;go_end0
 exact⟨rfl,rfl⟩
theorem Jqn (b:Nat)(w:World)(h0:w.cell? ⟨b,0,none⟩=some (.pointer none))(D:w.shape? b=some (311,2))(H:w.frozen? ⟨b,0,none⟩=false) :
  Calls prog 210 #[.pointer (some ⟨b,0,none⟩)] w fun e w'=>e=.returned (.tuple #[])∧w'=w.setCell ⟨b,0,none⟩ (.pointer (some ⟨b,0,none⟩)):=by
 obtain⟨j,y,E⟩:=Oe9.1 Jye;go_enter func210,ntmps210
 go_wp2;rw[Lib.run_to_unsafe w ⟨b,0,none⟩ underlying309 underlying182 y (by rw[E];decide) D (Nat.zero_lt_succ 1)];simp only[Result.andThen];rw[Oper.upon_value];go_wp2;rw[run_callFunc_extern func246 (by kernel_rfl) (by kernel_rfl) (by kernel_rfl) (e:=Extern.AbiNoEscape.same) (by kernel_rfl)];rw[Lib.run_noEscape];simp only[Result.andThen];rw[Oper.upon_value];go_wp2;rw[Lib.run_from_unsafe w ⟨b,0,none⟩ underlying182 underlying309 y D Kfg];simp only[Result.andThen];rw[Oper.upon_value];go_wp2;go_end0
 exact⟨rfl,rfl⟩
def Jkw (w:World)(B b:Nat)(l:List UInt8):Prop:=Lib.IsBuilder 311 5 B b (l.map bv) w
theorem Kic {w:World}{B b:Nat}{l:List UInt8}(h:Jkw w B b l):∃ p,Lib.BuilderAt 311 5 B b p (l.map bv) w:=by
 rcases h with h|h
 ·exact⟨_,h⟩
 exact⟨_,h⟩
theorem Juu (B b:Nat)(l:List UInt8)(w:World)(h:Jkw w B b l) :
  Calls prog 210 #[.pointer (some ⟨b,0,none⟩)] w fun e w'=>e=.returned (.tuple #[])∧Lib.BuilderAt 311 5 B b (.pointer (some ⟨b,0,none⟩)) (l.map bv) w'∧Below B w w':=by
 rcases h with h|h
 ·refine(Jqn b w h.cell0 h.shape h.frozen0).mono ?_;rintro e w' ⟨rfl,rfl⟩;exact⟨rfl,h.used _,(Oa5 B w).setCell (p:=⟨b,0,none⟩) h.1 _⟩
 refine(Jrs b w h.cell0).mono ?_;rintro e w' ⟨rfl,rfl⟩;exact⟨rfl,h,Oa5 B _⟩
theorem Juz (l:List UInt8):Lib.strCells (Qw l)=l.map bv:=by
 unfold Lib.strCells Qw;rfl
theorem Jv2 (B b:Nat)(l t:List UInt8)(w:World)(h:Jkw w B b l)(bD:l.length+t.length≤100000000)(bC:B≤w.heap.size) :
  Calls prog 158 #[.pointer (some ⟨b,0,none⟩),.string (Qw t)] w fun e w'=>e=.returned (.tuple #[.int .i64 (Qw t).size,.nilIface])∧Jkw w' B b (l++t)∧Below B w w':=by
 obtain⟨bx,hi,bj,bn,br⟩:=info_parts Jfa;have bi:=Jb2 t;go_enter func158,ntmps158
 go_wp2_with (go_at_call 210;refine(Juu B b l _ h).mono ?_)
 rintro e w1 ⟨rfl,bc,D⟩;obtain⟨y,v,H,K,Y⟩:=bc;have c1:w1.cell? ⟨b,1,none⟩=some v:=by rw[Lib.cell_of_heap H];rfl
 have bh:=Lib.BuilderAt.lt (T:=311) (e:=5) (B:=B) (p:=.pointer (some ⟨b,0,none⟩)) (bs:=l.map bv) ⟨y,v,H,K,Y⟩;go_wp2_with (at_builtin;refine Lib.wpList_append_own_string _ rfl _ _ 198 9 rfl B 5 bx underlying198 underlying9 hi bj bn br _ _ _ rfl K (Qw t) rfl ?c3 ?c4 ?c5 ?_)
 case c3=>unfold maxLen;simp;omega
 case c4=>simp;omega
 case c5=>have:=D.size;omega
 intro v' R Z X _;have E:R.heap[b]?=some (.cells #[.pointer (some ⟨b,0,none⟩),v] 311 (0,0)):=by
  rw[X.block b bh (fun e=>Y e.symm)];exact H
 have bB:R.frozen? ⟨b,1,none⟩=false:=Lib.frozen_of_heap E 1;have bA:R.cell? ⟨b,1,none⟩=some v:=by rw[Lib.cell_of_heap E];rfl
 obtain⟨U,ba,cap,rfl⟩:∃ U ba cap,v'=.slice U ba cap:=by
  rcases Z.2 with⟨O,_⟩|⟨g,cap,bz,O,_⟩
  ·exact⟨_,_,_,O⟩
  exact⟨_,_,_,O⟩
 go_wp2;go_ret2
 refine⟨rfl,.inr ?_,?_⟩
 ·rw[Ob8,←Juz t];exact Lib.BuilderAt.put (T:=311) (e:=5) y E (by simpa [Lib.strCells_length,bi] using Z) (by decide)
 exact(D.grown X (by have:=D.size;omega) (fun k bf=>(K.lt k bf).1)).setCell (p:=⟨b,1,none⟩) y _
theorem Jsp (B b:Nat)(l:List UInt8)(w:World)(h:Jkw w B b l)(h0:l≠[]) :
  Calls prog 159 #[.pointer (some ⟨b,0,none⟩)] w fun e w'=>e=.returned (.string (Qw l))∧Below B w w':=by
 obtain⟨p,ba,v,H,D,bj⟩:=Kic h;have U:l.length≠0:=by simpa using h0
 rw[Oa6]at D;obtain⟨g,cap,y,rfl,E,O,bi,K,bh,bn⟩:∃ g cap y,v=.slice (some ⟨g,0,none⟩) l.length cap∧B≤g∧w.heap[g]?=some (.cells y 5 (0,0))∧l.length≤cap∧cap≤maxLen∧y.size=cap*1∧y.toList.take (l.length*1)=l.map bv:=by
  rcases D.2 with⟨_,Z⟩|⟨g,cap,y,X,r⟩
  ·exact absurd Z U
  exact⟨g,cap,y,X,r⟩
 have c1:w.drew.cell? ⟨b,1,none⟩=some (.slice (some ⟨g,0,none⟩) l.length cap):=by
  have:w.drew.heap[b]?=some (.cells #[p,.slice (some ⟨g,0,none⟩) l.length cap] 311 (0,0)):=H;rw[Lib.cell_of_heap this];rfl
 have bc:(Builtin.unsafeSliceData_ #[198] 208 #[.slice (some ⟨g,0,none⟩) l.length cap]).run prog w.drew=.ok (.pointer (some ⟨g,0,none⟩)) w.drew:=
  Lib.run_unsafeSliceData_row _ _ _ _ _ _ (by omega)
 have bf:(Builtin.unsafeString_ #[208,3] 9 #[.pointer (some ⟨g,0,none⟩),.int .i64 l.length]).run prog w.drew=.ok (.string ⟨l.toArray⟩) (w.drew.freeze ⟨g,0,none⟩ l.length):=by
  refine Lib.run_unsafeString_row w.drew 208 3 9 5 underlying208 Kd2 g y.size (by have R:w.drew.heap[g]?=some (.cells y 5 (0,0)):=O;simp[World.shape?,R]) l h0 (by omega) (by unfold maxLen at K;omega) ?_;intro j x Y;exact D.cells (g:=g) rfl j (.int .u8 x.toNat) (by simp[Y,bv])
 go_enter func159,ntmps159
 go_wp2;go_region
 all_goals (go_wp2;go_ret;exact⟨rfl,Lib.below_freeze (Below.drew (Oa5 B w)) (p:=⟨g,0,none⟩) E _⟩)
theorem Jkw.new (w:World)(B:Nat)(y:B≤w.heap.size):Jkw (w.alloc (.cells #[.pointer none,.slice none 0 0] 311)) B w.heap.size []:=
 .inl ⟨y,.slice none 0 0,heap_alloc_new _ _,⟨rfl,.inl ⟨rfl,rfl⟩⟩,by simp[Value.ownBlock]⟩
theorem Jkw.below {w w':World}{B b:Nat}{l:List UInt8}(h:Jkw w B b l)(D:Below w.heap.size w w'):Jkw w' B b l:=by
 have O:∀ p,Lib.BuilderAt 311 5 B b p (l.map bv) w→Lib.BuilderAt 311 5 B b p (l.map bv) w':=by
  rintro p ⟨y,v,E,K,H⟩;exact⟨y,v,by rw[D.block b (Lib.BuilderAt.lt (T:=311) (e:=5) (B:=B) (p:=p) (bs:=l.map bv) ⟨y,v,E,K,H⟩)];exact E,Jaw K D,H⟩
 exact h.imp (O _) (O _)
def Jel (name:ByteArray)(ts:List Int)(rs:List (List V)):Prop:=
 (1≤name.size∧name.size≤20)∧((1≤ts.length∧ts.length≤6)∧∀ j (y:j<ts.length),Jnd ts[j]=true)∧rs.length≤200∧∀ i (hi:i<rs.length),rs[i].length=ts.length∧∀ j (y:j<rs[i].length),okB (ts.getD j 0) rs[i][j].k rs[i][j].n rs[i][j].s=true
open Classical in
theorem Kjj (name:ByteArray)(at_ ar:Option Addr)(ct cr:Nat)(ts:List Int)(hs:List (Option Addr×Nat))(rs:List (List V))(w:World)(hnn:name.size≤maxLen)(hn:ts.length≤maxLen)(hr:rs.length≤maxLen)(hrr:∀ r∈rs,r.length≤maxLen)(hx:Kc w at_ ts)(hy:Zd w ar hs rs) :
  Calls prog 42 #[.agg #[.string name,.slice at_ ts.length ct,.slice ar rs.length cr]] w fun e w'=>e=.returned (.bool (decide (Jel name ts rs)))∧Below w.heap.size w w':=by
 have hx0:=hx.below (w':=w.alloc (.cells #[.string name,.slice at_ ts.length ct,.slice ar rs.length cr] 25)) ((Oa5 _ _).alloc (Oa2 _) _);obtain⟨bt,hbt⟩:∃ bt:Bool,bt=true↔(1≤ts.length∧ts.length≤6)∧∀ j (hj:j<ts.length),Jnd ts[j]=true:=⟨decide _,decide_eq_true_iff⟩;have hat:=Kjg at_ ct ts _ hn hx0 bt hbt;have HT:Hid (bt=true↔(1≤ts.length∧ts.length≤6)∧∀ j (hj:j<ts.length),Jnd ts[j]=true):=hbt;clear hbt;unfold maxLen at hnn hn hr;obtain⟨b,HB⟩:∃ b:Bool,Hid (b=decide (Jel name ts rs)):=⟨_,rfl⟩;rw[←HB.out];have HBI:Hid (b=true↔Jel name ts rs):=by show _↔_;rw[HB.out];exact decide_eq_true_iff
 clear HB hx0;have hB0:Below w.heap.size w (w.alloc (.cells #[.string name,.slice at_ ts.length ct,.slice ar rs.length cr] 25)):=(Oa5 _ _).alloc (Oa2 _) _;have no:¬ Jel name ts rs→Hid (b=false):=fun h=>by
  show b=false;cases hb:b with
  |false=>rfl
  |true=>exact absurd (HBI.out.1 hb) h
 have NO:Hid (¬ Jel name ts rs→Hid (b=false)):=no;clear no;by_cases h1:name.size<1
 ·have H0:Hid (b=false):=NO.out fun h=>by have:=h.1;omega
  go_enter func42,ntmps42
  go_wp2_with (go_at_call 57;refine hat.mono ?_;rintro e w' ⟨rfl,hw'⟩;subst w')
  go_ret
  exact⟨Qr H0.out.symm,hB0⟩
 by_cases h2:20<name.size
 ·have H0:Hid (b=false):=NO.out fun h=>by have:=h.1;omega
  go_enter func42,ntmps42
  go_wp2_with (go_at_call 57;refine hat.mono ?_;rintro e w' ⟨rfl,hw'⟩;subst w')
  go_ret
  exact⟨Qr H0.out.symm,hB0⟩
 cases hbt:bt with
 |false=>
  subst hbt;have H0:Hid (b=false):=NO.out fun h=>by have:=HT.out.2 h.2.1;simp at this
  go_enter func42,ntmps42
  go_wp2_with (go_at_call 57;refine hat.mono ?_;rintro e w' ⟨rfl,hw'⟩;subst w')
  go_ret
  exact⟨Qr H0.out.symm,hB0⟩
 |true=>
  subst hbt;by_cases h3:200<rs.length
  ·have H0:Hid (b=false):=NO.out fun h=>by have:=h.2.2.1;omega
   go_enter func42,ntmps42
   go_wp2_with (go_at_call 57;refine hat.mono ?_;rintro e w' ⟨rfl,hw'⟩;subst w')
   go_ret
   exact⟨Qr H0.out.symm,hB0⟩
  have HRR:Hid (∀ r∈rs,r.length≤maxLen):=hrr;clear hrr;go_enter func42,ntmps42
  go_wp2_with (go_at_call 57;refine hat.mono ?_;rintro e w' ⟨rfl,hw'⟩;subst w')
  go_loopw [30] (fun i wr=>∃ k:Nat,k≤rs.length∧i=.int .i64 k∧Below (w.alloc (.cells #[.string name,.slice at_ ts.length ct,.slice ar rs.length cr] 25)).heap.size (w.alloc (.cells #[.string name,.slice at_ ts.length ct,.slice ar rs.length cr] 25)) wr∧Hid (∀ i (hi:i<rs.length),i<k→rs[i].length=ts.length∧∀ j (hj:j<rs[i].length),okB (ts.getD j 0) rs[i][j].k rs[i][j].n rs[i][j].s=true)) (fun i _=>rs.length-(intOf i).toNat)
  case atStart=>exact⟨0,Ob7 _,rfl,Oa5 _ _,fun j _ hj=>absurd hj (Oe0 _)⟩
  case round=>
   obtain⟨k,hk,rfl,hbw,hall⟩:=hrel;have hbw0:=Qx hbw;have c1:wr.cell? ⟨w.heap.size,1,none⟩=some (.slice at_ ts.length ct):=by rw[(Kx hbw).1 w.heap.size 1 (by simp)];simp
   by_cases hlt:k<rs.length
   ·obtain⟨b1,o1,ra,rc,rfl,hb1,x1,hv⟩:=(hy.below hbw0).at hlt;obtain⟨br,hbr⟩:∃ br:Bool,br=true↔rs[k].length=ts.length∧∀ j (hj:j<rs[k].length),okB (ts.getD j 0) rs[k][j].k rs[k][j].n rs[k][j].s=true:=⟨decide _,decide_eq_true_iff⟩;have hir:=Kkh ra at_ rc ct rs[k] ts wr (HRR.out _ (Ob3 hlt)) hv (hx.below hbw0) br hbr;have HR:Hid (br=true↔rs[k].length=ts.length∧∀ j (hj:j<rs[k].length),okB (ts.getD j 0) rs[k][j].k rs[k][j].n rs[k][j].s=true):=hbr;clear hbr hat;cases hb:br with
    |false=>
     subst hb;have H0:Hid (b=false):=NO.out fun h=>by have:=HR.out.2 (h.2.2.2 k hlt);simp at this
     go_wp2_with (go_at_call 58;refine hir.mono ?_;rintro e w' ⟨rfl,hb⟩)
     go_ret
     exact⟨Qr H0.out.symm,Jb hbw0 hb⟩
    |true=>
     subst hb;go_wp2_with (go_at_call 58;refine hir.mono ?_;rintro e w' ⟨rfl,hb⟩)
     go_roundw
     case rel=>
      refine⟨k+1,by omega,by go_num,Jb hbw hb,fun i hi hik=>?_⟩;by_cases e:i=k
      ·subst e;exact HR.out.1 (by simp)
      exact hall.out i hi (by omega)
     case measure=>simp[intOf];omega
   go_wp2;go_ret
   exact⟨Qr (HBI.out.2 ⟨⟨by omega,by omega⟩,HT.out.1 (by simp),by omega,fun i hi=>hall.out i hi (by omega)⟩).symm,hbw0⟩
end
section
open Go.RowKit
def Jpf (Q:Exit→Act→World→Prop):Exit→Act→World→Prop
 |.normal,a,w=>Q .normal a w
 |_,_,_=>False
theorem Jpf.imp {Q:Exit→Act→World→Prop}:∀ (e:Exit) (a:Act) (w:World),Jpf Q e a w→Q e a w:=fun e a w h=>by
 cases e<;>first|exact h|exact(h:False).elim
theorem Jpf.shut {Q:Exit→Act→World→Prop}:¬ LetsOut (Jpf Q):=fun ⟨_,_,h⟩=>h
def Ki4 (y:Array Oper):Bool:=y.all fun o=>match o.op with|.defer _=>false|_=>true
theorem Kj3 {y:Array Oper}(h:Ki4 y=true){i:Nat}{o:Oper}(E:y[i]?=some o):∀ c,o.op≠.defer c:=by
 intro c D;obtain⟨hi,rfl⟩:=Oe2.1 E;have:=Array.all_eq_true.1 h i hi;rw[D]at this;simp at this
theorem Kj9 {P:Program}{l n:Nat}{o:Oper}{a:Act}{D:Act→World→Prop}{Q:Exit→Act→World→Prop}{r:Result Next}(h:o.upon P a D Q r):o.uponIn (Fence.wide.inRound l) n P a D Q r:=by
 cases r with
 |ok E w=>
  cases E<;>simp only[Oper.upon]at h
  case value v=>exact h
  case skip=>exact h
  case defer d=>exact h
  case enter f args=>exact⟨fun y=>absurd y (by simp[Fence.inRound,Fence.wide]),CallsIn.inRound l (callsIn_wide.2 h)⟩
  case row row args=>
   refine⟨fun y=>absurd y (by simp[Fence.inRound,Fence.wide]),fun c cs _=>?_⟩;obtain⟨v,w',hr,hs⟩:=h c cs;exact⟨v,w',hr,stepsIn_wide.2 hs⟩
 |halt x w=>
  cases x<;>simp only[Oper.upon]at h
  case panic v=>exact h
theorem Kj1 {P:Program}{l n:Nat}{y:Array Oper}{Q:Exit→Act→World→Prop}(R:Ki4 y=true)(O:¬ LetsOut Q){i:Nat}{E:Act→World→Prop}{a:Act}{w:World}(h:wpOp P y Q i E a w):wpOpIn (Fence.wide.inRound l) n P y Q i E a w:=by
 unfold wpOp at h;unfold wpOpIn;cases ho:y[i]? with
 |none=>rw[ho]at h;exact h
 |some o=>
  rw[ho]at h;simp only at h ⊢;split
  ·rename_i D
   rw[if_pos D]at h;have H:=h.resolve_right fun K=>O K.2;refine⟨fun _ _=>trivial,?_⟩;rw[Oper.semAt_plain (Fence.wide.inRound l) _ _ (Kj3 R ho)];exact Kj9 H
  rename_i D
  rw[if_neg D]at h;exact⟨fun _ _=>trivial,h⟩
theorem Ki2 {P:Program}{l n:Nat}{K:Region.Mode}{y:Array Oper}{Q:Exit→Act→World→Prop}(E:Ki4 y=true)(D:¬ LetsOut Q):∀ (fuel:Nat) (H:Array Bool) (a:Act) (w:World),wpAny P K y Q fuel H a w→wpAnyIn (Fence.wide.inRound l) n P K y Q fuel H a w
 |0,_,_,_,h=>h
 |fuel+1,_,_,_,h=>⟨h.1,fun i hi=>Kj1 E D (wpOp_mono (fun O w' R=>Ki2 E D fuel _ O w' R) (h.2 i hi))⟩
theorem Kix {P:Program}{l n K:Nat}{y:Array Oper}{Q:Exit→Act→World→Prop}{S:World→Prop}{a:Act}{w:World}(E:P.follows .mixedOrders=true)(H:Ki4 y=true)(D:S w.drew)
  (h:S w.drew→wpAnyH P .any y (Jpf Q) S y.size (Array.replicate y.size false) a w.drew):(Code.region K y true).wpIn (Fence.wide.inRound l) n P Q a w:=
 Code.wpIn_mono Jpf.imp (wpIn_region_any E (Ki2 H Jpf.shut _ _ _ _ (wpAny_of_held _ _ _ _ (h D))))
variable {F:Fence} {n:Nat} {P:Program}
def Kh4 {α:Type}(F:Fence)(n:Nat)(P:Program)(g:Nat)(lb:Array Value)(U:α→Array Value)(O:α→World→Prop)(K:World→World→Prop)(S R:List α→Prop)(N:Nat)(w:World):Prop:=
 ∀ (l:Nat) (J H:List α→World→Prop) (W:World),Below w.heap.size w W→AbidesFrom W.heap.size J→AbidesFrom W.heap.size H →
  (∀ y x E,J y E→O x E→y.length<N→YieldAt F (n-1) P l (U x) E fun e D=>(e=.returned (.bool true)∧J (y++[x]) D∧K E D)∨(e=.returned (.bool false)∧H (y++[x]) D)) →
  J [] W→CallsIn F n P g (#[.func (.yield l) #[] #[]]++lb) W fun e D=>(∃ v,e=.returned v)∧((∃ xs,S xs∧J xs D)∨(∃ y,R y∧H y D))
def Jb8 (B:Nat)(L:Loop)(W:World):Prop:=W.heap[B+1]?=some (.loop L)∧W.heap[B]?=some (.deferred (some []))
theorem Jb8.kept {B:Nat}{L:Loop}{W y:World}{row:Option Nat}(h:Jb8 B L W)(D:W.grownBy y row)(hr:∀ r,row=some r→∃ o:Obj,W.heap[r]?=some o∧o.isWalk=true):Jb8 B L y:=
 ⟨(grownBy_keeps D hr h.1 rfl).trans h.1,(grownBy_keeps D hr h.2 rfl).trans h.2⟩
theorem Jb8.put {B:Nat}{L y:Loop}{W:World}(h:Jb8 B L W):Jb8 B y (W.putObj (B+1) (.loop y)):=
 ⟨World.putObj_heap_same (Oe2.1 h.1).1,(World.putObj_heap_other (by omega)).trans h.2⟩
theorem Jb8.from {B:Nat}{L:Loop}{W y:World}(h:Jb8 B L W)(D:KeepsFrom B W y):Jb8 B L y:=⟨D.same _ _ (by omega) h.1 rfl,D.same _ _ (Oa2 _) h.2 rfl⟩
theorem Jg8 {α:Type}{g:Operand}{ps:Array Tmp}{assign body:Code}{Q:Exit→Act→World→Prop}{a:Act}{w:World}
  (bV:F.round=none) (bG:1≤n) {gf:Nat} {lb:Array Value} (bP:a.eval g=.func (.func gf) #[] lb) (bH:F.fn gf) (bE:∀ args w,(callFunc gf args).run P w=.ok (.enter gf args) w)
  {bc:α→Array Value} {bh:α→World→Prop} {K:World→World→Prop} {S br:List α→Prop} {N:Nat} {ba:World} (hseq:Kh4 F (n-1) P gf lb bc bh K S br N ba)
  (bx:∀ {A B C:World},K A B→K B C→K A C) (hKb:∀ (W:World) (l:Nat) (o cc:Obj),w.heap.size≤l→W.heap[l]?=some o→o.isCells=false→o.isWalk=false→K W (W.putObj l cc)) (bz:Below ba.heap.size ba w) (bU:∀ x,(bc x).size=ps.size)
  (I:List α→World→Prop) (U:Code→List α→World→Prop) (hI:OwnFrom w.heap.size I) (hIx:∀ c,OwnFrom w.heap.size (U c)) (hR:OwnFrom w.heap.size bh) (h0:I [] w) (a₁:α→Act)
  (bK:∀ (l:Nat) (x:α) (W:World) (bn:Act→World→Prop),bn (a₁ x) W→assign.wpIn (F.inRound l) (n-1-1) P (Exit.then bn (fun _ _ _=>False)) {tmps:=(ps.zip (bc x)).foldl (fun t (p,v)=>t.setIfInBounds p v) a.tmps,defers:=[]} W)
  (bL:∀ (l:Nat) (E:List α) (x:α) (W:World),I E W→bh x W→E.length<N→body.wpIn (F.inRound l) (n-1-1) P (ownPostG w.heap.size K I U (E++[x]) W) (a₁ x) W)
  (bN:∀ (R:Nat) (xs:List α) (W:World),w.heap.size≤R→S xs→I xs W→W.heap[R]?=some (.deferred (some []))→Q .normal {a with defers:={target:=.collected R,args:=#[]}::a.defers} W)
  (bW:∀ (R:Nat) (c:Code) (E:List α) (W:World),w.heap.size≤R→br E→U c E W→W.heap[R]?=some (.deferred (some []))→c.wpIn F n P Q {a with defers:={target:=.collected R,args:=#[]}::a.defers} W) :
  (Code.rangeFunc g ps assign body).wpIn F n P Q a w:=by
 refine wpIn_rangeFunc fun fn bO=>?_;rw[bV];let D:LoopState→Option Code→Loop:=fun st cf=>{state:=st,pending:=cf,fn,tmps:=a.tmps,params:=ps,assign,body,defers:=w.heap.size}
 let B:=w.heap.size
 let V:=(w.alloc (.deferred (some []))).alloc (.loop (D .ready none))
 have cv:V.heap.size=B+2:=by simp[V,B]
 have bC:Jb8 B (D .ready none) V:=by
  constructor
  ·have:=World.alloc_heap_new (w.alloc (.deferred (some []))) (.loop (D .ready none));rw[Oa7]at this;exact this
  exact(Oa9 _ _ _ (by simp[B])).trans (World.alloc_heap_new w _)
 have cb:I [] V:=hI.alloc _ (hI.alloc _ h0);have bD:Below ba.heap.size ba V:=bz.trans ((((Oa5 _ w).alloc (Oa2 _) _).alloc (by simp) _).mono bz.size);have bB:∀ {A:World} {row:Option Nat},(∀ r,row=some r→V.heap.size≤r∧∃ o:Obj,A.heap[r]?=some o∧o.isWalk=true)→∀ r,row=some r→B≤r∧∃ o:Obj,A.heap[r]?=some o∧o.isCells=false:=fun hr r e=>by
  obtain⟨cn,o,bT,bX⟩:=hr r e;exact⟨by omega,o,bT,Obj.not_cells_of_walk bX⟩
 refine⟨B+1,[{target:=.collected B,args:=#[]}],V,{target:=.fn (.func gf) lb,args:=#[.func (.yield (B+1)) #[] #[]]},V,gf,#[.func (.yield (B+1)) #[] #[]]++lb,V,run_enterLoop_outer _ _ _ _ _,by simp only[resolve,bP];simp[go_sem],fun cj bA=>?_,by simp[invoke,go_sem,bE],fun _=>bG,?_⟩
 ·simp[Target.leads]at bA;subst bA;exact bH
 refine(hseq (B+1) (fun E W=>I E W∧Jb8 B (D .ready none) W) (fun E W=>∃ c,U c E W∧Jb8 B (D .done (some c)) W) V bD
  (fun s A bf row hs Z hr=>⟨hI s A bf row hs.1 Z (bB hr),hs.2.kept Z fun r e=>(hr r e).2⟩)
  (fun s A bf row hs Z hr=>by obtain⟨c,bM,H⟩:=hs;exact⟨c,hIx c s A bf row bM Z (bB hr),H.kept Z fun r e=>(hr r e).2⟩) ?_ ⟨cb,bC⟩).mono ?_
 ·rintro E x W ⟨hi,H⟩ bZ bS;have ca:=run_yield (P:=P) (args:=bc x) H.1 (bU x);refine⟨fn,_,assign,body,ca,roundIn_of_wpIn bO (bK _ x W _ ⟨_,run_beginRound H.1 rfl,?_⟩)⟩;have bQ:Jb8 B (D .busy none) (W.putObj (B+1) (.loop (D .busy none))):=H.put;have bY:K W (W.putObj (B+1) (.loop (D .busy none))):=hKb _ _ _ _ (by omega) H.1 rfl rfl;refine wpIn_mono (bL _ E x _ (hI.putObj _ hi (by omega) H.1 rfl) (hR.putObj _ bZ (by omega) H.1 rfl) bS) ?_;have fin:∀ (j:Option Code) (y:World),KeepsFrom w.heap.size (W.putObj (B+1) (.loop (D .busy none))) y→(Instr.endRound (B+1) j).run P y=.ok (.bool j.isNone) (y.putObj (B+1) (.loop (D (if j.isNone then .ready else .done) j)))∧Jb8 B (D .busy none) y∧Jb8 B (D (if j.isNone then .ready else .done) j) (y.putObj (B+1) (.loop (D (if j.isNone then .ready else .done) j))):=fun j y Y=>
   have O:=bQ.from Y
   ⟨run_endRound (P:=P) j O.1,O,O.put⟩
  have out:∀ (c:Code) (y:World),KeepsFrom w.heap.size (W.putObj (B+1) (.loop (D .busy none))) y→U c (E++[x]) y→∃ v X,(Instr.endRound (B+1) (some c)).run P y=.ok v X∧((Ending.returned v=.returned (.bool true)∧(I (E++[x]) X∧Jb8 B (D .ready none) X)∧K W X)∨(Ending.returned v=.returned (.bool false)∧∃ c,U c (E++[x]) X∧Jb8 B (D .done (some c)) X)):=fun c y Y bj=>by
   obtain⟨hr,O,bi⟩:=fin (some c) y Y;exact⟨_,_,hr,.inr ⟨rfl,c,(hIx _).putObj _ bj (by omega) O.1 rfl,bi⟩⟩
  rintro e ch y hp;cases e with
  |normal=>
   obtain⟨Y,bR,bj⟩:=hp;obtain⟨hr,O,bi⟩:=fin none y Y;exact⟨_,_,hr,.inl ⟨rfl,⟨hI.putObj _ bj (by omega) O.1 rfl,bi⟩,bx (bx bY bR) (hKb _ _ _ _ (by omega) O.1 rfl rfl)⟩⟩
  |ret=>exact out _ y hp.1 hp.2
  |exit cu=>exact out _ y hp.1 hp.2
  |goto t=>exact out _ y hp.1 hp.2
  |panic ci=>exact hp.elim
  |outgrown=>exact hp.elim
 rintro e y ⟨⟨v,rfl⟩,(⟨xs,bI,hi,H⟩|⟨E,bJ,c,hi,H⟩)⟩
 ·exact⟨none,_,run_endLoop (P:=P) H.1 (by simp[D]),bN _ xs _ (Oa2 _) bI (hI.putObj _ hi (by omega) H.1 rfl) ((World.putObj_heap_other (by omega)).trans H.2)⟩
 exact⟨some c,_,run_endLoop (P:=P) H.1 (by simp[D]),bW _ c E _ (Oa2 _) bJ ((hIx c).putObj _ hi (by omega) H.1 rfl) ((World.putObj_heap_other (by omega)).trans H.2)⟩
theorem Jpa:∀ (l:List Bool)(i:Nat),l[i]?=some false→(l.set i true).countP (fun b=>!b)+1=l.countP (fun b=>!b)
 |[],i,h=>by simp at h
 |b::l,0,h=>by
  simp at h;subst h;simp
 |b::l,i+1,h=>by
  rw[List.getElem?_cons_succ]at h;rw[List.set_cons_succ,On3,On3];have:=Jpa l i h;omega
def Jgv (D:Region.Mode)(y:Array Oper):Bool:=(List.range y.size).all fun i=>((y[i]?).map fun o=>o.after.all fun e=>!Region.binds D e||decide (e.on<i)).getD true
theorem Jqa {E:Region.Mode}{y:Array Oper}(h:Jgv E y=true){i:Nat}{o:Oper}(D:y[i]?=some o):∀ e∈o.after,Region.binds E e=true→e.on<i:=fun e K H=>by
 unfold Jgv at h;rw[List.all_eq_true]at h;have hi:i<y.size:=(Oe2.1 D).1;have:=h i (Oj4.2 hi);rw[D]at this;simp only[Option.map_some,Option.getD_some]at this;rw[Array.all_eq_true_iff_forall_mem]at this;have:=this e K;simpa [H] using this
theorem Jxi {E:Region.Mode}{y:Array Oper}{D:Array Bool}(X:Jgv E y=true)(hs:D.size=y.size)(hr:Region.ready E y D=[]):∀ i,i<y.size→D.getD i true=true:=by
 intro i;induction i using Nat.strongRecOn with
 |_ i Y=>
  intro hi;cases hb:D.getD i true with
  |true=>rfl
  |false=>
   exfalso;have H:y[i]?=some y[i]:=Array.getElem?_eq_getElem hi;have:i∈Region.ready E y D:=mem_ready.2 ⟨hb,_,H,fun e O K=>by
    have U:=Jqa X H e O K;have:=Y e.on U (by omega);have R:e.on<D.size:=(by omega);simp[R]at this ⊢;exact this⟩
   rw[hr]at this;cases this
variable {P:Program} {md:Region.Mode} {ops:Array Oper} {Q:Exit→Act→World→Prop}
theorem Joi {I:Array Bool→Act→World→Prop}(X:Jgv md ops=true)
  (Y:∀ y a w i o,I y a w→ops[i]?=some o→y.getD i true=false→y.size=ops.size→(∀ e∈o.after,Region.binds md e=true→y.getD e.on false=true)→∀ E:Act→World→Prop,Shut (∀ H w',I (y.setIfInBounds i true) H w'→E H w')→if Region.wanted o (yielded ops a.tmps)=true then Oper.wp P o a w E Q else E (a.put o.dst undef) w)
  (R:∀ y a w,I y a w→(∀ i,i<ops.size→y.getD i true=true)→y.size=ops.size→Q .normal a w) :
  ∀ fuel y a w,y.size=ops.size→y.toList.countP (fun b=>!b)≤fuel→I y a w→wpAny P md ops Q fuel y a w
 |0,y,a,w,hs,bf,hI=>by
  have U:∀ i,i<ops.size→y.getD i true=true:=fun i hi=>by
   have O:i<y.size:=(by omega);cases hb:y.getD i true with
   |true=>rfl
   |false=>
    exfalso;simp[O]at hb;have h0:0<y.toList.countP (fun b=>!b):=List.countP_pos_iff.2 ⟨y[i],by simp,by simp[hb]⟩;omega
  refine⟨?_,R y a w hI U hs⟩;cases hr:Region.ready md ops y with
  |nil=>rfl
  |cons j rs=>
   have bh:j∈Region.ready md ops y:=by rw[hr];exact Of4 ..
   obtain⟨D,o,K,_⟩:=mem_ready.1 bh;have:=U j (Oe2.1 K).1;rw[this]at D;cases D
 |fuel+1,y,a,w,hs,bf,hI=>by
  refine⟨fun hr=>R y a w hI (Jxi X hs hr) hs,fun i hi=>?_⟩;obtain⟨D,o,K,Z⟩:=mem_ready.1 hi;have bj:i<ops.size:=(Oe2.1 K).1;refine wpOp_step K fun E bc=>Y y a w i o hI K D hs Z E fun H w' ba=>bc H w' (Joi X Y R fuel _ H w' (by simpa using hs) ?_ ba);have O:i<y.size:=by omega
  have bi:y.toList[i]?=some false:=by
   simp[O]at D;simp[O,D]
  have:=Jpa y.toList i bi;rw[Ok0];omega
theorem Jns {U:Nat}{a:Act}{w:World}(J:Act→World→Array Bool→Act→World→Prop)(K:P.follows .mixedOrders=true)(O:Jgv .any ops=true)
  (h0:J a w (Array.replicate ops.size false) a w.drew)
  (R:∀ y b x i o,J a w y b x→ops[i]?=some o→y.getD i true=false→y.size=ops.size→(∀ e∈o.after,Region.binds .any e=true→y.getD e.on false=true)→∀ D:Act→World→Prop,Shut (∀ E w',J a w (y.setIfInBounds i true) E w'→D E w')→if Region.wanted o (yielded ops b.tmps)=true then Oper.wp P o b x D Q else D (b.put o.dst undef) x)
  (H:∀ y b x,J a w y b x→(∀ i,i<ops.size→y.getD i true=true)→y.size=ops.size→Q .normal b x):(Code.region U ops true).wp P Q a w:=by
 refine wp_region_any K (Joi (I:=J a w) O R H ops.size _ a _ (by simp) ?_ h0);refine Ob2 List.countP_le_length ?_;simp
def Kh (P:Program)(K:Region.Mode)(E:Array Oper)(Q:Exit→Act→World→Prop)(I:Array Bool→Act→World→Prop)(rs:List Nat):Prop:=
 ∀ i∈rs,∀ y a w o,I y a w→E[i]?=some o→y.getD i true=false→y.size=E.size→(∀ e∈o.after,Region.binds K e=true→y.getD e.on false=true)→∀ D:Act→World→Prop,Shut (∀ H w',I (y.setIfInBounds i true) H w'→D H w')→if Region.wanted o (yielded E a.tmps)=true then Oper.wp P o a w D Q else D (a.put o.dst undef) w
theorem Kh.nil {I:Array Bool→Act→World→Prop}:Kh P md ops Q I []:=fun _ h=>by cases h
theorem Kh.cons {I:Array Bool→Act→World→Prop}{i:Nat}{o:Oper}{rs:List Nat}(R:ops[i]?=some o)
  (h:∀ y a w,I y a w→y.getD i true=false→(∀ e∈o.after,Region.binds md e=true→y.getD e.on false=true)→∀ D:Act→World→Prop,Shut (∀ H w',I (y.setIfInBounds i true) H w'→D H w')→if Region.wanted o (yielded ops a.tmps)=true then Oper.wp P o a w D Q else D (a.put o.dst undef) w)
  (hs:Kh P md ops Q I rs):Kh P md ops Q I (i::rs):=fun j E=>by
 rcases Of1.1 E with rfl|E
 ·intro y a w U hI K hn _ O;rw[R]at K;cases K
  exact h y a w hI hn O
 exact hs j E
theorem Jkk {X:Nat}{a:Act}{w:World}(J:Act→World→Array Bool→Act→World→Prop)(rs:List Nat)(K:P.follows .mixedOrders=true)(O:Jgv .any ops=true)(R:List.range ops.size=rs)
  (h0:J a w (Array.replicate ops.size false) a w.drew) (U:Kh P .any ops Q (J a w) rs)
  (H:∀ y b x,J a w y b x→(∀ i,i<ops.size→y.getD i true=true)→y.size=ops.size→Q .normal b x):(Code.region X ops true).wp P Q a w:=
 Jns J K O h0 (fun y b x i o hI D hn hs E=>U i (by rw[←R];exact Oj4.2 (Oe2.1 D).1) y b x o hI D hn hs E) H
abbrev dn (l:Array Bool)(k:Nat):Prop:=l.getD k false=true
theorem Ki {l:Array Bool}{i k:Nat}(h:dn (l.setIfInBounds i true) k)(y:k≠i):dn l k:=by
 unfold dn at *;rw[Oj5]at *;rwa [Array.getElem?_setIfInBounds_ne (Oc5 y)]at h
theorem Kq {l:Array Bool}{i k:Nat}(h:dn l k):dn (l.setIfInBounds i true) k:=by
 unfold dn at *;rw[Oj5]at *;by_cases e:i=k
 ·subst e;by_cases hl:i<l.size
  ·rw[Oo4 hl];rfl
  rw[Og9 (by omega)]at h;cases h
 rwa [Array.getElem?_setIfInBounds_ne e]
theorem Yb {l:Array Bool}{i:Nat}(h:l.getD i true=false):¬ dn l i:=fun y=>by
 unfold dn at y;rw[Oj5]at *;cases e:l[i]? with
 |none=>rw[e]at h;cases h
 |some b=>rw[e]at h y;simp at h y;rw[h]at y;cases y
theorem Kf6 {n k:Nat}:¬ dn (Array.replicate n false) k:=fun h=>by
 unfold dn at h;rw[Oj5]at h;by_cases y:k<n
 ·simp[y]at h
 simp[y]at h
theorem Kf5 {l:Array Bool}{i:Nat}(h:l.getD i true=false):dn (l.setIfInBounds i true) i:=by
 unfold dn;rw[Oj5]at *;by_cases hl:i<l.size
 ·rw[Oo4 hl];rfl
 rw[Og9 (by omega)]at h;cases h
variable {F:Fence} {n:Nat} {P:Program}
def Kyp {α:Type}(F:Fence)(n:Nat)(P:Program)(g:Nat)(lb:Array Value)(U:α→Array Value)(O:α→World→Prop)(K:World→World→Prop)(S R:List α→Prop)(N:Nat)(w:World):Prop:=
 ∀ (l:Nat) (J H:List α→World→Prop) (W:World),Below w.heap.size w W→OwnFrom W.heap.size J→OwnFrom W.heap.size H →
  (∀ y x E,J y E→O x E→y.length<N→YieldAt F (n-1) P l (U x) E fun e D=>(e=.returned (.bool true)∧J (y++[x]) D∧K E D)∨(e=.returned (.bool false)∧H (y++[x]) D)) →
  J [] W→CallsIn F n P g (#[.func (.yield l) #[] #[]]++lb) W fun e D=>(∃ v,e=.returned v)∧((∃ xs,S xs∧J xs D)∨(∃ y,R y∧H y D))
theorem Kxl {α:Type}{g:Operand}{ps:Array Tmp}{assign body:Code}{Q:Exit→Act→World→Prop}{a:Act}{w:World}
  (cf:F.round=none) (bL:1≤n) {gf:Nat} {lb:Array Value} (bV:a.eval g=.func (.func gf) #[] lb) (bM:F.fn gf) (bK:∀ args w,(callFunc gf args).run P w=.ok (.enter gf args) w)
  {bi:α→Array Value} {bB:α→World→Prop} {R:World→World→Prop} {S bC:List α→Prop} {N:Nat} {bf:World} (hseq:Kyp F (n-1) P gf lb bi bB R S bC N bf)
  (br:∀ {A B C:World},R A B→R B C→R A C) (hKb:∀ (W:World) (l:Nat) (o cx:Obj),w.heap.size≤l→W.heap[l]?=some o→o.isCells=false→o.isWalk=false→R W (W.putObj l cx)) (bE:Below bf.heap.size bf w) (cc:∀ x,(bi x).size=ps.size)
  (I:List α→World→Prop) (ba:Code→List α→World→Prop) (hI:OwnFrom w.heap.size I) (hIx:∀ c,OwnFrom w.heap.size (ba c)) (h0:I [] w) (bn:α→Act→World→Prop) (hAx:∀ x O,OwnFrom w.heap.size (fun (_:Unit) W=>bn x O W))
  (bP:∀ (l:Nat) (y:List α) (x:α) (W:World) (bA:Act→World→Prop),I y W→bB x W→(∀ O K,KeepsFrom w.heap.size W K→R W K→I y K→bn x O K→bA O K)→assign.wpIn (F.inRound l) (n-1-1) P (Exit.then bA (fun _ _ _=>False)) {tmps:=(ps.zip (bi x)).foldl (fun t (p,v)=>t.setIfInBounds p v) a.tmps,defers:=[]} W)
  (bR:∀ (l:Nat) (y:List α) (x:α) (O:Act) (W:World),I y W→bn x O W→y.length<N→body.wpIn (F.inRound l) (n-1-1) P (ownPostG w.heap.size R I ba (y++[x]) W) O W)
  (bT:∀ (Y:Nat) (xs:List α) (W:World),w.heap.size≤Y→S xs→I xs W→W.heap[Y]?=some (.deferred (some []))→Q .normal {a with defers:={target:=.collected Y,args:=#[]}::a.defers} W)
  (ch:∀ (Y:Nat) (c:Code) (y:List α) (W:World),w.heap.size≤Y→bC y→ba c y W→W.heap[Y]?=some (.deferred (some []))→c.wpIn F n P Q {a with defers:={target:=.collected Y,args:=#[]}::a.defers} W) :
  (Code.rangeFunc g ps assign body).wpIn F n P Q a w:=by
 refine wpIn_rangeFunc fun fn bU=>?_;rw[cf];let E:LoopState→Option Code→Loop:=fun st cy=>{state:=st,pending:=cy,fn,tmps:=a.tmps,params:=ps,assign,body,defers:=w.heap.size}
 let B:=w.heap.size
 let V:=(w.alloc (.deferred (some []))).alloc (.loop (E .ready none))
 have cE:V.heap.size=B+2:=by simp[V,B]
 have bI:Jb8 B (E .ready none) V:=by
  constructor
  ·have:=World.alloc_heap_new (w.alloc (.deferred (some []))) (.loop (E .ready none));rw[Oa7]at this;exact this
  exact(Oa9 _ _ _ (by simp[B])).trans (World.alloc_heap_new w _)
 have cv:I [] V:=hI.alloc _ (hI.alloc _ h0);have bJ:Below bf.heap.size bf V:=bE.trans ((((Oa5 _ w).alloc (Oa2 _) _).alloc (by simp) _).mono bE.size);have far:∀ {A:World} {row:Option Nat},(∀ r,row=some r→V.heap.size≤r∧∃ o:Obj,A.heap[r]?=some o∧o.isCells=false)→∀ r,row=some r→B≤r∧∃ o:Obj,A.heap[r]?=some o∧o.isCells=false:=fun hr r e=>by
  obtain⟨cC,o,cb,ci⟩:=hr r e;exact⟨by omega,o,cb,ci⟩
 have bD:∀ {L:Loop} {A Z:World} {row:Option Nat},Jb8 B L A→A.grownBy Z row→(∀ r,row=some r→V.heap.size≤r∧∃ o:Obj,A.heap[r]?=some o∧o.isCells=false)→Jb8 B L Z:=fun h X hr=>
  ⟨(X.block _ (Oe2.1 h.1).1 fun e=>by have:=(hr _ e.symm).1;omega).trans h.1,(X.block _ (Oe2.1 h.2).1 fun e=>by have:=(hr _ e.symm).1;omega).trans h.2⟩
 refine⟨B+1,[{target:=.collected B,args:=#[]}],V,{target:=.fn (.func gf) lb,args:=#[.func (.yield (B+1)) #[] #[]]},V,gf,#[.func (.yield (B+1)) #[] #[]]++lb,V,run_enterLoop_outer _ _ _ _ _,by simp only[resolve,bV];simp[go_sem],fun cB bG=>?_,by simp[invoke,go_sem,bK],fun _=>bL,?_⟩
 ·simp[Target.leads]at bG;subst bG;exact bM
 refine(hseq (B+1) (fun y W=>I y W∧Jb8 B (E .ready none) W) (fun y W=>∃ c,ba c y W∧Jb8 B (E .done (some c)) W) V bJ
  (fun s A Z row hs X hr=>⟨hI s A Z row hs.1 X (far hr),bD hs.2 X hr⟩)
  (fun s A Z row hs X hr=>by obtain⟨c,bS,H⟩:=hs;exact⟨c,hIx c s A Z row bS X (far hr),bD H X hr⟩) ?_ ⟨cv,bI⟩).mono ?_
 ·rintro y x W ⟨hi,H⟩ cn ca;have cu:=run_yield (P:=P) (args:=bi x) H.1 (cc x);refine⟨fn,_,assign,body,cu,roundIn_of_wpIn bU (bP _ y x W _ hi cn fun O bh bH bZ bW bQ=>⟨_,run_beginRound (H.from bH).1 rfl,?_⟩)⟩;have bj:=H.from bH;have bX:Jb8 B (E .busy none) (bh.putObj (B+1) (.loop (E .busy none))):=bj.put;have cj:R W (bh.putObj (B+1) (.loop (E .busy none))):=br bZ (hKb _ _ _ _ (by omega) bj.1 rfl rfl);refine wpIn_mono (bR _ y x O _ (hI.putObj _ bW (by omega) bj.1 rfl) ((hAx x O).putObj (s:=()) _ bQ (by omega) bj.1 rfl) ca) ?_;have fin:∀ (j:Option Code) (D:World),KeepsFrom w.heap.size (bh.putObj (B+1) (.loop (E .busy none))) D→(Instr.endRound (B+1) j).run P D=.ok (.bool j.isNone) (D.putObj (B+1) (.loop (E (if j.isNone then .ready else .done) j)))∧Jb8 B (E .busy none) D∧Jb8 B (E (if j.isNone then .ready else .done) j) (D.putObj (B+1) (.loop (E (if j.isNone then .ready else .done) j))):=fun j D bc=>
   have U:=bX.from bc
   ⟨run_endRound (P:=P) j U.1,U,U.put⟩
  have out:∀ (c:Code) (D:World),KeepsFrom w.heap.size (bh.putObj (B+1) (.loop (E .busy none))) D→ba c (y++[x]) D→∃ v K,(Instr.endRound (B+1) (some c)).run P D=.ok v K∧((Ending.returned v=.returned (.bool true)∧(I (y++[x]) K∧Jb8 B (E .ready none) K)∧R W K)∨(Ending.returned v=.returned (.bool false)∧∃ c,ba c (y++[x]) K∧Jb8 B (E .done (some c)) K)):=fun c D bc bz=>by
   obtain⟨hr,U,bx⟩:=fin (some c) D bc;exact⟨_,_,hr,.inr ⟨rfl,c,(hIx _).putObj _ bz (by omega) U.1 rfl,bx⟩⟩
  rintro e cz D hp;cases e with
  |normal=>
   obtain⟨bc,bY,bz⟩:=hp;obtain⟨hr,U,bx⟩:=fin none D bc;exact⟨_,_,hr,.inl ⟨rfl,⟨hI.putObj _ bz (by omega) U.1 rfl,bx⟩,br (br cj bY) (hKb _ _ _ _ (by omega) U.1 rfl rfl)⟩⟩
  |ret=>exact out _ D hp.1 hp.2
  |exit cD=>exact out _ D hp.1 hp.2
  |goto t=>exact out _ D hp.1 hp.2
  |panic cA=>exact hp.elim
  |outgrown=>exact hp.elim
 rintro e D ⟨⟨v,rfl⟩,(⟨xs,bN,hi,H⟩|⟨y,bO,c,hi,H⟩)⟩
 ·exact⟨none,_,run_endLoop (P:=P) H.1 (by simp[E]),bT _ xs _ (Oa2 _) bN (hI.putObj _ hi (by omega) H.1 rfl) ((World.putObj_heap_other (by omega)).trans H.2)⟩
 exact⟨some c,_,run_endLoop (P:=P) H.1 (by simp[E]),ch _ c y _ (Oa2 _) bO ((hIx c).putObj _ hi (by omega) H.1 rfl) ((World.putObj_heap_other (by omega)).trans H.2)⟩
structure Krx (M:Nat→Prop) (W W':World):Prop where
 size:W.heap.size≤W'.heap.size
 block:∀ (k:Nat),k<W.heap.size→¬ M k→W'.heap[k]?=W.heap[k]?
 out:W'.os=W.os∧W'.tape=W.tape∧W'.output=W.output
def Kr0 (M M':Nat→Prop)(W y:World):Prop:=(∀ k,M k→M' k)∧(∀ k,M' k→M k∨W.heap.size≤k)∧∀ k,M' k→k<y.heap.size
theorem Krx.refl (M:Nat→Prop)(W:World):Krx M W W:=⟨Oa2 _,fun _ _ _=>rfl,rfl,rfl,rfl⟩
theorem Krx.trans {M M':Nat→Prop}{A B C:World}(h:Krx M A B)(k:Krx M' B C)(D:∀ i,M' i→M i∨A.heap.size≤i):Krx M A C:=⟨Ob2 h.1 k.1,fun i hi hn=>(k.2 i (Oc2 hi h.1) fun y=>(D i y).elim hn fun hl=>by omega).trans (h.2 i hi hn),k.out.1.trans h.out.1,k.out.2.1.trans h.out.2.1,k.out.2.2.trans h.out.2.2⟩
theorem Krx.of_below {M:Nat→Prop}{A B:World}(h:Below A.heap.size A B):Krx M A B:=⟨h.size,fun k y _=>h.block k y,h.os,h.tape,h.output⟩
theorem Krx.mono {M M':Nat→Prop}{A B:World}(h:Krx M A B)(E:∀ k,M k→M' k):Krx M' A B:=⟨h.1,fun k D hn=>h.2 k D fun y=>hn (E k y),h.out⟩
theorem Krx.put {M:Nat→Prop}{W:World}{l:Nat}(hl:M l)(y:Obj):Krx M W (W.putObj l y):=⟨by simp,fun k _ hn=>World.putObj_heap_other fun e=>hn (e▸hl),rfl,rfl,rfl⟩
theorem Kr0.refl {M:Nat→Prop}{W:World}(h:∀ k,M k→k<W.heap.size):Kr0 M M W W:=⟨fun _ h=>h,fun _=>.inl,h⟩
theorem Kr0.trans {M M' D:Nat→Prop}{A B y C:World}(h:Kr0 M M' A B)(k:Kr0 M' D y C)(E:A.heap.size≤y.heap.size):Kr0 M D A C:=⟨fun i hi=>k.1 i (h.1 i hi),fun i hi=>(k.2.1 i hi).elim (h.2.1 i) fun hl=>.inr (by omega),k.2.2⟩
def Kx1 {α:Type}(F:Fence)(n:Nat)(P:Program)(g:Nat)(lb:Array Value)(U:α→Array Value)(O:α→World→Prop)(Fx:Nat→Prop)(G:World→Prop)(S R:List α→Prop)(N:Nat)(w:World):Prop:=
 ∀ (l:Nat) (J H:List α×(Nat→Prop)→World→Prop) (K:Nat→Prop) (W:World),Below w.heap.size w W→(∀ k,Fx k→¬ K k)→(∀ k,K k→k<W.heap.size)→OwnFrom W.heap.size J→OwnFrom W.heap.size H→(∀ s W,J s W→G W) →
  (∀ E M x D,J (E,M) D→O x D→(∀ k,M k→k<D.heap.size)→E.length<N→YieldAt F (n-1) P l (U x) D fun e y=>KeepsFrom W.heap.size D y∧((e=.returned (.bool true)∧∃ M',J (E++[x],M') y∧Krx M D y∧Kr0 M M' D y)∨(e=.returned (.bool false)∧∃ M',H (E++[x],M') y))) →
  J ([],K) W→CallsIn F n P g (#[.func (.yield l) #[] #[]]++lb) W fun e y=>(∃ v,e=.returned v)∧((∃ xs M,S xs∧J (xs,M) y)∨(∃ E M,R E∧H (E,M) y))
theorem Krz {B:Nat}{W y:World}(h:Below W.heap.size W y):KeepsFrom B W y:=⟨h.size,fun k _ _ D _=>(h.block k (Oe2.1 D).1).trans D⟩
theorem Ktj {B l:Nat}{W:World}(h:l<B)(o:Obj):KeepsFrom B W (W.putObj l o):=⟨by simp,fun k _ D y _=>(World.putObj_heap_other (by omega)).trans y⟩
theorem Ksl {α:Type}{g:Operand}{ps:Array Tmp}{assign body:Code}{Q:Exit→Act→World→Prop}{a:Act}{w:World}
  (cy:F.round=none) (bS:1≤n) {gf:Nat} {lb:Array Value} (ch:a.eval g=.func (.func gf) #[] lb) (bT:F.fn gf) (bR:∀ args w,(callFunc gf args).run P w=.ok (.enter gf args) w)
  {bn:α→Array Value} {bG:α→World→Prop} {Fx:Nat→Prop} {G:World→Prop} {S bH:List α→Prop} {N:Nat} {bj:World} (hseq:Kx1 F (n-1) P gf lb bn bG Fx G S bH N bj) (bL:Below bj.heap.size bj w) (cx:∀ x,(bn x).size=ps.size)
  (bc:Nat→Prop) (bJ:∀ k,Fx k→¬ bc k∧k<w.heap.size) (bV:∀ k,bc k→k<w.heap.size) (I:List α×(Nat→Prop)→World→Prop) (ba:Code→List α×(Nat→Prop)→World→Prop) (hI:OwnFrom w.heap.size I) (hIx:∀ c,OwnFrom w.heap.size (ba c)) (hG:∀ s W,I s W→G W) (h0:I ([],bc) w) (bx:α→(Nat→Prop)→Act→World→Prop) (hAx:∀ x M O,OwnFrom w.heap.size (fun (_:Unit) W=>bx x M O W))
  (bZ:∀ (l:Nat) (K:List α) (M:Nat→Prop) (x:α) (W:World) (bD:Act→World→Prop),I (K,M) W→bG x W→(∀ k,M k→k<W.heap.size)→(∀ O H,Below W.heap.size W H→I (K,M) H→bx x M O H→bD O H)→assign.wpIn (F.inRound l) (n-1-1) P (Exit.then bD (fun _ _ _=>False)) {tmps:=(ps.zip (bn x)).foldl (fun t (p,v)=>t.setIfInBounds p v) a.tmps,defers:=[]} W)
  (cb:∀ (l:Nat) (K:List α) (M:Nat→Prop) (x:α) (O:Act) (W:World),I (K,M) W→bx x M O W→(∀ k,M k→k<W.heap.size)→K.length<N→body.wpIn (F.inRound l) (n-1-1) P (ownPostG w.heap.size (fun _ _=>True) (fun s H=>∃ M',I (s,M') H∧Krx M W H∧Kr0 M M' W H) (fun c s H=>∃ M',ba c (s,M') H) (K++[x]) W) O W)
  (cc:∀ (X:Nat) (xs:List α) (M:Nat→Prop) (W:World),w.heap.size≤X→S xs→I (xs,M) W→W.heap[X]?=some (.deferred (some []))→Q .normal {a with defers:={target:=.collected X,args:=#[]}::a.defers} W)
  (cz:∀ (X:Nat) (c:Code) (K:List α) (M:Nat→Prop) (W:World),w.heap.size≤X→bH K→ba c (K,M) W→W.heap[X]?=some (.deferred (some []))→c.wpIn F n P Q {a with defers:={target:=.collected X,args:=#[]}::a.defers} W) :
  (Code.rangeFunc g ps assign body).wpIn F n P Q a w:=by
 refine wpIn_rangeFunc fun fn cf=>?_;rw[cy];let E:LoopState→Option Code→Loop:=fun st cG=>{state:=st,pending:=cG,fn,tmps:=a.tmps,params:=ps,assign,body,defers:=w.heap.size}
 let B:=w.heap.size
 let V:=(w.alloc (.deferred (some []))).alloc (.loop (E .ready none))
 have cQ:V.heap.size=B+2:=by simp[V,B]
 have bP:Jb8 B (E .ready none) V:=by
  constructor
  ·have:=World.alloc_heap_new (w.alloc (.deferred (some []))) (.loop (E .ready none));rw[Oa7]at this;exact this
  exact(Oa9 _ _ _ (by simp[B])).trans (World.alloc_heap_new w _)
 have cE:I ([],bc) V:=hI.alloc _ (hI.alloc _ h0);have bQ:Below bj.heap.size bj V:=bL.trans ((((Oa5 _ w).alloc (Oa2 _) _).alloc (by simp) _).mono bL.size);have far:∀ {A:World} {row:Option Nat},(∀ r,row=some r→V.heap.size≤r∧∃ o:Obj,A.heap[r]?=some o∧o.isCells=false)→∀ r,row=some r→B≤r∧∃ o:Obj,A.heap[r]?=some o∧o.isCells=false:=fun hr r e=>by
  obtain⟨cM,o,cv,cA⟩:=hr r e;exact⟨by omega,o,cv,cA⟩
 have bI:∀ {L:Loop} {A Z:World} {row:Option Nat},Jb8 B L A→A.grownBy Z row→(∀ r,row=some r→V.heap.size≤r∧∃ o:Obj,A.heap[r]?=some o∧o.isCells=false)→Jb8 B L Z:=fun h U hr=>
  ⟨(U.block _ (Oe2.1 h.1).1 fun e=>by have:=(hr _ e.symm).1;omega).trans h.1,(U.block _ (Oe2.1 h.2).1 fun e=>by have:=(hr _ e.symm).1;omega).trans h.2⟩
 refine⟨B+1,[{target:=.collected B,args:=#[]}],V,{target:=.fn (.func gf) lb,args:=#[.func (.yield (B+1)) #[] #[]]},V,gf,#[.func (.yield (B+1)) #[] #[]]++lb,V,run_enterLoop_outer _ _ _ _ _,by simp only[resolve,ch];simp[go_sem],fun cK bM=>?_,by simp[invoke,go_sem,bR],fun _=>bS,?_⟩
 ·simp[Target.leads]at bM;subst bM;exact bT
 let up:(Nat→Prop)→Nat→Prop:=fun M k=>M k∨k=B+1
 refine(hseq (B+1) (fun s W=>∃ M,s.2=up M∧I (s.1,M) W∧Jb8 B (E .ready none) W) (fun s W=>∃ c M,ba c (s.1,M) W∧Jb8 B (E .done (some c)) W) (up bc) V bQ
  (fun k y bU=>bU.elim (bJ k y).1 fun e=>by have:=(bJ k y).2;omega) (fun k y=>y.elim (fun h=>by have:=bV k h;omega) fun e=>by omega)
  (fun s A Z row hs U hr=>by obtain⟨M,e,bh,y⟩:=hs;exact⟨M,e,hI _ A Z row bh U (far hr),bI y U hr⟩)
  (fun s A Z row hs U hr=>by obtain⟨c,M,bh,y⟩:=hs;exact⟨c,M,hIx c _ A Z row bh U (far hr),bI y U hr⟩) (fun s W hs=>by obtain⟨M,_,bh,_⟩:=hs;exact hG _ _ bh) ?_ ⟨bc,rfl,cE,bP⟩).mono ?_
 ·rintro K cH x W ⟨M,e,hi,y⟩ cB bW cu;simp only at e hi;subst e;have bK:∀ k,M k→k<W.heap.size:=fun k y=>bW k (.inl y);have cC:=run_yield (P:=P) (args:=bn x) y.1 (cx x);refine⟨fn,_,assign,body,cC,roundIn_of_wpIn cf (bZ _ K M x W _ hi cB bK fun O bf br ci ca=>⟨_,run_beginRound (y.from (Krz br)).1 rfl,?_⟩)⟩;have bA:=y.from (Krz (B:=B) br);have cj:Jb8 B (E .busy none) (bf.putObj (B+1) (.loop (E .busy none))):=bA.put;have bN:Krx (up M) W (bf.putObj (B+1) (.loop (E .busy none))):=(Krx.of_below br).trans (Krx.put (M:=up M) (.inr rfl) _) fun _=>.inl;have bO:W.heap.size≤(bf.putObj (B+1) (.loop (E .busy none))).heap.size:=bN.1;have cN:B+1<W.heap.size:=(Oe2.1 y.1).1;have cF:KeepsFrom V.heap.size W (bf.putObj (B+1) (.loop (E .busy none))):=(Krz br).trans (Ktj (by omega) _);refine wpIn_mono (cb _ K M x O _ (hI.putObj _ ci (by omega) bA.1 rfl) ((hAx x M O).putObj (s:=()) _ ca (by omega) bA.1 rfl) (fun k y=>Oc2 (bK k y) bO) cu) ?_;have fin:∀ (j:Option Code) (D:World),KeepsFrom w.heap.size (bf.putObj (B+1) (.loop (E .busy none))) D→(Instr.endRound (B+1) j).run P D=.ok (.bool j.isNone) (D.putObj (B+1) (.loop (E (if j.isNone then .ready else .done) j)))∧Jb8 B (E .busy none) D∧Jb8 B (E (if j.isNone then .ready else .done) j) (D.putObj (B+1) (.loop (E (if j.isNone then .ready else .done) j)))∧KeepsFrom V.heap.size W (D.putObj (B+1) (.loop (E (if j.isNone then .ready else .done) j))):=fun j D Y=>
   have R:=cj.from Y
   ⟨run_endRound (P:=P) j R.1,R,R.put,(cF.trans ⟨Y.size,fun k o y=>Y.same k o (by omega)⟩).trans (Ktj (by omega) _)⟩
  have out:∀ (c:Code) (D:World),KeepsFrom w.heap.size (bf.putObj (B+1) (.loop (E .busy none))) D→(∃ M',ba c (K++[x],M') D)→∃ v H,(Instr.endRound (B+1) (some c)).run P D=.ok v H∧(KeepsFrom V.heap.size W H∧((Ending.returned v=.returned (.bool true)∧∃ bE,(∃ M',bE=up M'∧I (K++[x],M') H∧Jb8 B (E .ready none) H)∧Krx (up M) W H∧Kr0 (up M) bE W H)∨(Ending.returned v=.returned (.bool false)∧∃ _:Nat→Prop,∃ c M',ba c (K++[x],M') H∧Jb8 B (E .done (some c)) H))):=fun c D Y bi=>by
   obtain⟨M',bi⟩:=bi;obtain⟨hr,R,bz,bC⟩:=fin (some c) D Y;exact⟨_,_,hr,bC,.inr ⟨rfl,M,c,M',(hIx _).putObj _ bi (by omega) R.1 rfl,bz⟩⟩
  rintro e cI D hp;cases e with
  |normal=>
   obtain⟨Y,_,M',bi,cn,bB⟩:=hp;obtain⟨hr,R,bz,bC⟩:=fin none D Y;have cD:(D.putObj (B+1) (.loop (E .ready none))).heap.size=D.heap.size:=(by simp);have cO:B+1<D.heap.size:=(Oe2.1 R.1).1;refine⟨_,_,hr,bC,.inl ⟨rfl,up M',⟨M',rfl,hI.putObj _ bi (by omega) R.1 rfl,bz⟩,(bN.trans (cn.mono (M':=up M) fun _=>.inl) fun _=>.inl).trans (Krx.put (M:=up M) (.inr rfl) _) fun _=>.inl,fun k y=>y.elim (fun h=>.inl (bB.1 k h)) .inr,fun k y=>y.elim (fun h=>(bB.2.1 k h).elim (fun h=>.inl (.inl h)) fun h=>.inr (Ob2 bO h)) fun h=>.inl (.inr h),fun k y=>?_⟩⟩;have:k<D.heap.size:=y.elim (bB.2.2 k) fun h=>by omega
   exact cD▸this
  |ret=>exact out _ D hp.1 hp.2
  |exit cP=>exact out _ D hp.1 hp.2
  |goto t=>exact out _ D hp.1 hp.2
  |panic cJ=>exact hp.elim
  |outgrown=>exact hp.elim
 rintro e D ⟨⟨v,rfl⟩,(⟨xs,_,bX,M,_,hi,y⟩|⟨K,_,bY,c,M,hi,y⟩)⟩
 ·exact⟨none,_,run_endLoop (P:=P) y.1 (by simp[E]),cc _ xs M _ (Oa2 _) bX (hI.putObj _ hi (by omega) y.1 rfl) ((World.putObj_heap_other (by omega)).trans y.2)⟩
 exact⟨some c,_,run_endLoop (P:=P) y.1 (by simp[E]),cz _ c K M _ (Oa2 _) bY ((hIx c).putObj _ hi (by omega) y.1 rfl) ((World.putObj_heap_other (by omega)).trans y.2)⟩
section
variable {P:Program} {md:Region.Mode} {ops:Array Oper} {Q:Exit→Act→World→Prop} {S:World→Prop} {m:Nat}
def Ksy (P:Program)(E:Region.Mode)(D:Array Oper)(Q:Exit→Act→World→Prop)(S:World→Prop)(m:Nat):Nat→Array Bool→Act→World→Prop
 |0,y,a,w=>Region.ready E D y=[]∧Q .normal a w
 |fuel+1,y,a,w=>(Region.ready E D y=[]→Q .normal a w)∧∀ i∈Region.ready E D y,wpOp P D Q i (fun H w'=>(i≠m→S w')∧Ksy P E D Q S m fuel (y.setIfInBounds i true) H w') a w
theorem Ktk:∀ (fuel:Nat)(y:Array Bool)(a:Act)(w:World),Ksy P md ops Q S m fuel y a w→wpAny P md ops Q fuel y a w
 |0,_,_,_,h=>h
 |fuel+1,_,_,_,h=>⟨h.1,fun i hi=>wpOp_mono (fun D w' E=>Ktk fuel _ D w' E.2) (h.2 i hi)⟩
def Kwc (y:Region.Mode)(D:Array Oper)(m i:Nat):Bool:=((D[m]?).map fun o=>o.after.any fun e=>Region.binds y e&&e.on==i).getD false
theorem Kvz {i:Nat}(h:Kwc md ops m i=true){o:Oper}(E:ops[m]?=some o):∃ e∈o.after,Region.binds md e=true∧e.on=i:=by
 unfold Kwc at h;rw[E]at h;simp only[Option.map_some,Option.getD_some,Array.any_eq_true']at h;obtain⟨e,D,y⟩:=h;rw[Og5,beq_iff_eq]at y;exact⟨e,D,y⟩
theorem Kuq {i:Nat}{H:Oper}{v:Value}(hi:ops[i]?=some H)(br:∀ (j:Nat) (o:Oper) cs b,ops[j]?=some o→o.op≠.select cs b)(bN:i≠m)(bL:Kwc md ops m i=true)
  (bB:∀ c a w,Q (.panic c) (a.put H.dst v) w→Q (.panic c) a w) :
  ∀ (fuel:Nat) (y:Array Bool) (a:Act) (w:World),
   (∀ j K,ops[j]?=some K→j≠i→y.getD j true=false→(∀ e∈K.after,Region.binds md e=true→e.on≠i)→H.apart ops K=true) →
   i∈Region.ready md ops y→YieldsIf P ops S H v a→S w →
   Ksy P md ops Q S m fuel (y.setIfInBounds i true) (a.put H.dst v) w→Ksy P md ops Q S m (fuel+1) y a w:=by
 intro fuel;induction fuel with
 |zero=>
  intro y a w _ hr Z R O;refine⟨fun h=>(by rw[h]at hr;cases hr),fun j X=>?_⟩;by_cases D:j=i
  ·subst D;exact Z.wpOp hi R ⟨fun _=>R,O⟩
  have:=ready_mono X D;rw[O.1]at this;cases this
 |succ fuel bM=>
  intro y a w bh hr Z R O;refine⟨fun h=>(by rw[h]at hr;cases hr),fun j X=>?_⟩;by_cases D:j=i
  ·subst D;exact Z.wpOp hi R ⟨fun _=>R,O⟩
  have E:=O.2 j (ready_mono X D);obtain⟨bj,K,Y,bC⟩:=mem_ready.1 X;have bn:∀ e∈K.after,Region.binds md e=true→e.on≠i:=fun e bf bc bD=>by
   have E:=bC e bf bc;have h0:=(mem_ready.1 hr).1;rw[bD]at E;rcases Oc1 i y.size with ba|ba
   ·simp[ba]at h0 E;rw[h0]at E;cases E
   simp[Array.getElem?_eq_none ba]at E
  have bG:j≠m:=fun e=>by
   subst e;obtain⟨e,bf,bc,bK⟩:=Kvz bL Y;exact bn e bf bc bK
  have bA:=wpOp_putIf Y (bh j K Y D bj bn) (fun cs b=>br i H cs b hi) (fun cs b=>br j K cs b Y) bB Z E;have bE:∀ k ok,ops[k]?=some ok→k≠i→(y.setIfInBounds j true).getD k true=false →
    (∀ e∈ok.after,Region.binds md e=true→e.on≠i)→H.apart ops ok=true:=fun k ok bH bI bx bJ=>by
   refine bh k ok bH bI ?_ bJ;by_cases bi:j=k
   ·subst bi;exact bj
   rw[getD_set_ne true bi]at bx;exact bx
  refine wpOp_mono (fun bz w' U=>⟨U.2.1,bM (y.setIfInBounds j true) bz w' bE (ready_mono hr (Oc5 D)) U.1 (U.2.1 bG) ?_⟩) bA;rw[Array.setIfInBounds_comm _ _ D];exact U.2.2
theorem tkm {D:Oper}{fuel:Nat}{y:Array Bool}{a:Act}{w:World}{v:Value}(i:Nat)(hi:ops[i]?=some D)(H:S w)
  (h:Ksy P md ops Q S m fuel (y.setIfInBounds i true) (a.put D.dst v) w)
  (hr:(Region.ready md ops y).contains i=true:=by kernel_rfl) (hf:Region.free md ops y i=true:=by kernel_rfl) (hs:Region.noSelect ops=true:=by kernel_rfl) (U:Kwc md ops m i=true:=by kernel_rfl) (O:i≠m:=by decide)
  (X:∀ w,S w→(execOp a.eval D).run P w=.ok (.value v) w:=by intro w K;(try dsimp only at K);go_simp;try rfl)
  (E:∀ c a w,Q (.panic c) (a.put D.dst v) w→Q (.panic c) a w:=by exact fun _ _ _ h=>h) (R:Region.wanted D (yielded ops a.tmps)=true:=by rfl):Ksy P md ops Q S m (fuel+1) y a w:=
 Kuq hi (Region.noSelect_spec hs) O U E fuel y a w (Region.free_spec hi hf) (by simpa using hr) (.inl ⟨R,X⟩) H h
theorem tku {D:Oper}{fuel:Nat}{y:Array Bool}{a:Act}{w:World}(i:Nat)(hi:ops[i]?=some D)(H:S w)(h:wpAnyH P md ops Q S fuel (y.setIfInBounds i true) (a.put D.dst undef) w)
  (hr:(Region.ready md ops y).contains i=true:=by kernel_rfl) (hf:Region.free md ops y i=true:=by kernel_rfl) (hs:Region.noSelect ops=true:=by kernel_rfl)
  (E:∀ c a w,Q (.panic c) (a.put D.dst undef) w→Q (.panic c) a w:=by exact fun _ _ _ h=>h) (K:Region.wanted D (yielded ops a.tmps)=false:=by kernel_rfl):wpAnyH P md ops Q S (fuel+1) y a w:=
 wpAnyH_take hi hs hf hr E (.inr ⟨K,rfl⟩) H h
theorem Kr2 {fuel:Nat}{D:Array Bool}{a:Act}{w:World}(i:Nat){o:Oper}(R:ops[i]?=some o)(h:∀ y:Act→World→Prop,Shut (∀ a w,S w→(S w→Ksy P md ops Q S m fuel (D.setIfInBounds i true) a w)→y a w)→if Region.wanted o (yielded ops a.tmps)=true then Oper.wp P o a w y Q else y (a.put o.dst undef) w)
  (hr:Region.ready md ops D=[i]:=by kernel_rfl):Ksy P md ops Q S m (fuel+1) D a w:=
 ⟨fun h0=>(by rw[hr]at h0;cases h0),fun j H=>by
  rw[hr,Oc6]at H;subst H;exact wpOp_step R fun y K=>h y fun a w E O=>K a w ⟨fun _=>E,O E⟩⟩
theorem Ksq {fuel:Nat}{D:Array Bool}{a:Act}{w:World}{o:Oper}(U:ops[m]?=some o)(h:∀ y:Act→World→Prop,Shut (∀ a w,Q .normal a w→y a w)→if Region.wanted o (yielded ops a.tmps)=true then Oper.wp P o a w y Q else y (a.put o.dst undef) w)
  (hr:Region.ready md ops D=[m]:=by kernel_rfl) (K:Region.ready md ops (D.setIfInBounds m true)=[]:=by kernel_rfl):Ksy P md ops Q S m (fuel+1) D a w:=
 ⟨fun h0=>(by rw[hr]at h0;cases h0),fun j E=>by
  rw[hr,Oc6]at E;subst E;refine wpOp_step U fun y O=>h y fun a w H=>O a w ⟨fun R=>absurd rfl R,?_⟩;cases fuel with
  |zero=>exact⟨K,H⟩
  |succ f=>exact⟨fun _=>H,by rw[K];simp⟩⟩
theorem Kse {E:Nat}{a:Act}{w:World}(m:Nat)(D:P.follows .mixedOrders=true)(y:S w.drew)
  (h:S w.drew→Ksy P .any ops Q S m ops.size (Array.replicate ops.size false) a w.drew):(Code.region E ops true).wp P Q a w:=
 wp_region_any D (Ktk _ _ _ _ (h y))
end
end
end Go.Proofs.YtpchafocmlhmbaaGreatDoor
