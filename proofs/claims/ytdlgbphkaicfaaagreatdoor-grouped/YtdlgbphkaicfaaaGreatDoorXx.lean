/- Run: the nodes of a plan, worked one after the other. -/
import Derived.Test.YtdlgbphkaicfaaaGreatDoorXw
namespace Go.Proofs.YtdlgbphkaicfaaaGreatDoor
open Go.RowKit Go.Shelf Tryz
attribute [local go_sem] Oc0
abbrev Dn:=Option (Nat×List (Option Addr×Nat)×List (List V))
def dnV (d:Dn):Value:=match d with|none=>.slice none 0 0|some x=>.slice (some ⟨x.1,0,none⟩) x.2.2.length x.2.2.length
def Jfk (A:Nat)(y:Value)(x:Nat×List (Option Addr×Nat)×List (List V))(W:World):Prop:=Qd W x.1 x.2.1 x.2.2∧Jbo x.1 x.2.1 x.2.2.length (fun b=>b≠A∧y.ownBlock≠some b∧b<W.heap.size)
structure Jd6 (L rb:Nat) (z bu bl:Int) (se tp dp sc dv:Value) (ds:List Dn) (W:World):Prop where
 run:Jck W rb z (.int .i64 bu) (.int .i64 bl) se tp dp sc dv
 own:Jo W L 74 dv (ds.map dnV)
 cols:∀ x,some x∈ds→Jfk rb dv x W
 low:rb<L
theorem Qd.blocks {W W':World}{g:Nat}{hs:List (Option Addr×Nat)}{cs:List (List V)}(h:Qd W g hs cs)(y:W.heap.size≤W'.heap.size)(hF:Jbo g hs cs.length fun b=>W'.heap[b]?=W.heap[b]?):Qd W' g hs cs:=
 h.kp (Fx:=fun b=>W'.heap[b]?=W.heap[b]?) ⟨y,fun _ h=>h⟩ hF
theorem Jfk.move {E:Nat}{H K:Value}{x:Nat×List (Option Addr×Nat)×List (List V)}{W W':World}(h:Jfk E H x W)(D:W.heap.size≤W'.heap.size)(A:∀ b,b≠E→H.ownBlock≠some b→b<W.heap.size→W'.heap[b]?=W.heap[b]?∧K.ownBlock≠some b):Jfk E K x W':=
 ⟨h.1.blocks D ⟨(A _ h.2.1.1 h.2.1.2.1 h.2.1.2.2).1,fun j y b o e=>(A b (h.2.2 j y b o e).1 (h.2.2 j y b o e).2.1 (h.2.2 j y b o e).2.2).1⟩,⟨h.2.1.1,(A _ h.2.1.1 h.2.1.2.1 h.2.1.2.2).2,Oc2 h.2.1.2.2 D⟩,fun j y b o e=>⟨(h.2.2 j y b o e).1,(A b (h.2.2 j y b o e).1 (h.2.2 j y b o e).2.1 (h.2.2 j y b o e).2.2).2,Oc2 (h.2.2 j y b o e).2.2 D⟩⟩
theorem Jfk.below {D:Nat}{y:Value}{x:Nat×List (Option Addr×Nat)×List (List V)}{W W':World}(h:Jfk D y x W)(A:Below W.heap.size W W'):Jfk D y x W':=h.move A.size fun b _ h2 E=>⟨A.block b E,h2⟩
theorem Jd6.below {L M:Nat}{z D A:Int}{R U E O K:Value}{H:List Dn}{W W':World}(h:Jd6 L M z D A R U E O K H W)(y:Below W.heap.size W W'):Jd6 L M z D A R U E O K H W':=
 ⟨h.run.below y,Jl h.own fun g e=>y.block g (Je h.own e).2,fun x X=>(h.cols x X).below y,h.low⟩
theorem Jd6.more {L y:Nat}{z M K:Int}{U X O R A D:Value}{Z:List Dn}{W w4:World}{x:Nat×List (Option Addr×Nat)×List (List V)}(h:Jd6 L y z M K U X O R A Z W)(bx:Jfk y A x W)(bh:Obj)
  (bi:Jo w4 L 74 D (Z.map dnV++[dnV (some x)])) (bj:(W.alloc bh).grownBy w4 A.ownBlock) (bk:D.ownBlock=A.ownBlock∨D.ownBlock=some (W.alloc bh).heap.size) :
  Jd6 L y z M K U X O R D (Z++[some x]) (w4.setCell ⟨y,7,none⟩ D)∧Jck w4 y z (.int .i64 M) (.int .i64 K) U X O R A:=by
 have bl:∀ g,A.ownBlock=some g→L≤g∧g<W.heap.size:=fun g e=>Je h.own e
 have bn:∀ g,D.ownBlock=some g→L≤g∧g<w4.heap.size:=fun g e=>Je bi e
 have bu:=h.low
 have bz:=bj.size
 rw[Oa7]at bz bk
 have ba:∀ k,k<W.heap.size→A.ownBlock≠some k→w4.heap[k]?=W.heap[k]?:=fun k h1 h2=>(bj.block k (by rw[Oa7];omega) (Oc5 h2)).trans (Oa9 _ _ _ h1)
 have bc:Jck w4 y z (.int .i64 M) (.int .i64 K) U X O R A:=(ba y (Jd h.run) (fun e=>by have:=bl _ e;omega)).trans h.run
 have bf:=Jk bc 7 D
 simp only[Oa1,List.set_cons_zero,List.set_cons_succ]at bf
 have bb:∀ H,Jfk y A H W→Jfk y D H (w4.setCell ⟨y,7,none⟩ D):=fun H E=>E.move (by simp[World.setCell];omega) fun b h1 h2 br=>⟨(Oa4 _ _ _ _ h1).trans (ba b br h2),fun e=>by
  rcases bk with q|q
  ·exact h2 (q.symm.trans e)
  rw[q]at e;cases e;omega⟩
 refine⟨⟨bf,?_,fun H E=>?_,bu⟩,bc⟩
 ·rw[Ob8]
  exact Jl bi fun g e=>Oa4 _ _ _ _ (by have:=bn g e;simp;omega)
 rw[Od2,Oc6]at E
 rcases E with E|E
 ·exact bb H (h.cols H E)
 cases E
 exact bb x bx
def Ju1 (w:World)(L A:Nat)(z M K:Int)(U X O R:Value)(H:Nat→List Dn→Prop)(Z:Nat→Value→World→Prop)(nd:Nd)(j:Nat):Prop:=
 0≤nd.op∧nd.op≤7∧∀ W y D,Below w.heap.size w W→(∀ g,y.ownBlock=some g→w.heap.size≤g)→Jd6 L A z M K U X O R y D W→D.length=j→H j D →
  Calls prog (Jej nd.op) #[.pointer (some ⟨A,0,none⟩),nd.val] W fun e W'=>W.grownBy W' y.ownBlock ∧
   ((∃ (x:Nat×List (Option Addr×Nat)×List (List V)) (E:List Dn),e=.returned (.tuple #[dnV (some x),.nilIface])∧Jd6 L A z M K U X O R y E W'∧Jfk A y x W'∧E.length=j∧H (j+1) (E++[some x])) ∨
    (∃ (ty b:Nat),e=.returned (.tuple #[.slice none 0 0,.iface ty (.pointer (some ⟨b,0,none⟩))])∧Z j (.iface ty (.pointer (some ⟨b,0,none⟩))) W'))
end Go.Proofs.YtdlgbphkaicfaaaGreatDoor
