/- A Join: what comes out of it. -/
import Derived.Test.YtpchafocmlhmbaaGreatDoorJh
namespace Go.Proofs.YtpchafocmlhmbaaGreatDoor
open Go.RowKit Go.Shelf Go.Maps
attribute [local go_sem] Oc0
abbrev Ksh (x:Int):Value:=.int .i64 x
structure Ksd (j:JnE) (M:Nat→Prop) (base:Nat) (L R:List Int) (lv rv:Value) (W:World):Prop where
 cells:W.heap[j.jb]?=some (.cells (j.cells lv rv).toArray 275 (0,0))
 left:Jo W base 3 lv (L.map Ksh)
 right:Jo W base 3 rv (R.map Ksh)
 inM:M j.jb∧(∀ g,lv.ownBlock=some g→M g)∧∀ g,rv.ownBlock=some g→M g
 apart:lv.ownBlock=none∨lv.ownBlock≠rv.ownBlock
 low:j.jb<base
def Ks5 (j:JnE)(M:Nat→Prop)(D:Nat)(L y:List Int)(W:World):Prop:=∃ lv rv,Ksd j M D L y lv rv W
section
variable {j:JnE} {M:Nat→Prop} {base:Nat} {L R:List Int} {lv rv:Value} {W:World}
theorem Ksd.blocks {D:World}(h:Ksd j M base L R lv rv W)(y:∀ k,M k→D.heap[k]?=W.heap[k]?):Ksd j M base L R lv rv D:=
 ⟨(y _ h.inM.1).trans h.cells,Jl h.left fun g e=>y g (h.inM.2.1 g e),Jl h.right fun g e=>y g (h.inM.2.2 g e),h.inM,h.apart,h.low⟩
theorem Ksd.grown {D:World}{row:Option Nat}(h:Ksd j M base L R lv rv W)(E:W.grownBy D row)(hr:∀ r,row=some r→∃ o:Obj,W.heap[r]?=some o∧o.isCells=false):Ksd j M base L R lv rv D:=by
 have y:=CK.of_grown E hr;exact⟨y.cells _ _ _ _ h.cells,Jxz h.left y,Jxz h.right y,h.inM,h.apart,h.low⟩
theorem Ksd.jn (h:Ksd j M base L R lv rv W):Kv4 j W:=⟨lv,rv,h.cells⟩
theorem Ksd.pushL {O E:World}(h:Ksd j M base L R lv rv W)(bn:∀ k,M k→k<W.heap.size)(H:Below W.heap.size W O)(K:O.grownBy E lv.ownBlock){sv:Value}{x:Int}(ba:Jo E base 3 sv (L.map Ksh++[Ksh x]))(Y:sv.ownBlock=lv.ownBlock∨sv.ownBlock=some O.heap.size) :
  Ksd j (fun k=>M k∨sv.ownBlock=some k) base (L++[x]) R sv rv (E.setCell ⟨j.jb,9,none⟩ sv)∧Krx M W (E.setCell ⟨j.jb,9,none⟩ sv)∧Kr0 M (fun k=>M k∨sv.ownBlock=some k) W (E.setCell ⟨j.jb,9,none⟩ sv)∧∀ B,KeepsFrom B W (E.setCell ⟨j.jb,9,none⟩ sv):=by
 have bD:=H.size;have bE:=K.size;have bC:∀ b,lv.ownBlock=some b→base≤b∧b<W.heap.size:=fun b e=>Je h.left e;have bf:∀ b,rv.ownBlock=some b→base≤b∧b<W.heap.size:=fun b e=>Je h.right e;have bx:=Jd h.cells;have bB:=h.low;have Z:∀ b,sv.ownBlock=some b→base≤b∧b<E.heap.size:=fun b e=>Je ba e;have bz:E.heap[j.jb]?=some (.cells (j.cells lv rv).toArray 275 (0,0)):=by
  rw[K.block _ (by omega) (fun e=>by have:=(bC _ e.symm).1;omega),H.block _ bx];exact h.cells
 have bh:=Jk bz 9 sv;simp only[Oa1]at bh;have far:∀ k,k≠j.jb→(E.setCell ⟨j.jb,9,none⟩ sv).heap[k]?=E.heap[k]?:=fun k y=>Oa4 _ _ _ _ y;have bG:(E.setCell ⟨j.jb,9,none⟩ sv).heap.size=E.heap.size:=by simp[World.setCell]
 refine⟨⟨bh,?_,?_,⟨.inl h.inM.1,fun b e=>.inr e,fun b e=>.inl (h.inM.2.2 b e)⟩,?_,bB⟩,?_,?_,fun B=>?_⟩
 ·have bi:(L++[x]).map Ksh=L.map Ksh++[Ksh x]:=by simp
  rw[bi];exact Jl ba fun b e=>far b (by have:=(Z b e).1;omega)
 ·refine Jl h.right fun b e=>?_;have br:=bf b e;rw[far b (by omega),K.block b (by omega) (fun U=>?_),H.block b br.2];rcases h.apart with D|D
  ·rw[D]at U;cases U
  exact D (U.symm.trans e.symm)
 ·rcases Y with D|D
  ·rw[D];exact h.apart
  right;rw[D];intro e;have:=(bf _ e.symm).2;omega
 ·refine⟨by omega,fun k y hn=>?_,K.os.trans H.os,K.tape.trans H.tape,K.output.trans H.output⟩;rw[far k (fun e=>hn (e▸h.inM.1)),K.block k (by omega) (fun e=>hn (h.inM.2.1 k e.symm)),H.block k y]
 ·refine⟨fun k y=>.inl y,fun k y=>y.elim .inl fun e=>?_,fun k y=>y.elim (fun D=>by have:=bn k D;omega) fun e=>by have:=(Z k e).2;omega⟩;rcases Y with D|D
  ·exact .inl (h.inM.2.1 k (D.symm.trans e))
  rw[D]at e;cases e
  exact .inr bD
 refine⟨by omega,fun k o _ y bc=>?_⟩;have bA:=(Oe2.1 y).1;rw[far k (fun e=>by subst e;rw[h.cells]at y;cases y;cases bc),K.block k (by omega) (fun e=>?_),H.block k bA]
 ·exact y
 obtain⟨bH,bj,X⟩:=Ks4 h.left e.symm;rw[bj]at y;cases y
 rw[bc]at X;cases X
theorem Ksd.pushR {O E:World}(h:Ksd j M base L R lv rv W)(bn:∀ k,M k→k<W.heap.size)(H:Below W.heap.size W O)(K:O.grownBy E rv.ownBlock){sv:Value}{x:Int}(ba:Jo E base 3 sv (R.map Ksh++[Ksh x]))(Y:sv.ownBlock=rv.ownBlock∨sv.ownBlock=some O.heap.size) :
  Ksd j (fun k=>M k∨sv.ownBlock=some k) base L (R++[x]) lv sv (E.setCell ⟨j.jb,10,none⟩ sv)∧Krx M W (E.setCell ⟨j.jb,10,none⟩ sv)∧Kr0 M (fun k=>M k∨sv.ownBlock=some k) W (E.setCell ⟨j.jb,10,none⟩ sv)∧∀ B,KeepsFrom B W (E.setCell ⟨j.jb,10,none⟩ sv):=by
 have bE:=H.size;have bG:=K.size;have bD:∀ b,rv.ownBlock=some b→base≤b∧b<W.heap.size:=fun b e=>Je h.right e;have bf:∀ b,lv.ownBlock=some b→base≤b∧b<W.heap.size:=fun b e=>Je h.left e;have bz:=Jd h.cells;have bC:=h.low;have Z:∀ b,sv.ownBlock=some b→base≤b∧b<E.heap.size:=fun b e=>Je ba e;have bA:E.heap[j.jb]?=some (.cells (j.cells lv rv).toArray 275 (0,0)):=by
  rw[K.block _ (by omega) (fun e=>by have:=(bD _ e.symm).1;omega),H.block _ bz];exact h.cells
 have bh:=Jk bA 10 sv;simp only[Oa1]at bh;have far:∀ k,k≠j.jb→(E.setCell ⟨j.jb,10,none⟩ sv).heap[k]?=E.heap[k]?:=fun k y=>Oa4 _ _ _ _ y;have bH:(E.setCell ⟨j.jb,10,none⟩ sv).heap.size=E.heap.size:=by simp[World.setCell]
 have br:∀ b,lv.ownBlock=some b→rv.ownBlock≠some b:=fun b e U=>h.apart.elim (fun D=>by rw[D]at e;cases e) fun D=>D (e.trans U.symm);refine⟨⟨bh,?_,?_,⟨.inl h.inM.1,fun b e=>.inl (h.inM.2.1 b e),fun b e=>.inr e⟩,?_,bC⟩,?_,?_,fun B=>?_⟩
 ·refine Jl h.left fun b e=>?_;have bx:=bf b e;rw[far b (by omega),K.block b (by omega) (fun U=>br b e U.symm),H.block b bx.2]
 ·have bi:(R++[x]).map Ksh=R.map Ksh++[Ksh x]:=by simp
  rw[bi];exact Jl ba fun b e=>far b (by have:=(Z b e).1;omega)
 ·rcases Y with D|D
  ·rw[D];exact h.apart
  right;rw[D];intro e;have:=(bf _ e).2;omega
 ·refine⟨by omega,fun k y hn=>?_,K.os.trans H.os,K.tape.trans H.tape,K.output.trans H.output⟩;rw[far k (fun e=>hn (e▸h.inM.1)),K.block k (by omega) (fun e=>hn (h.inM.2.2 k e.symm)),H.block k y]
 ·refine⟨fun k y=>.inl y,fun k y=>y.elim .inl fun e=>?_,fun k y=>y.elim (fun D=>by have:=bn k D;omega) fun e=>by have:=(Z k e).2;omega⟩;rcases Y with D|D
  ·exact .inl (h.inM.2.2 k (D.symm.trans e))
  rw[D]at e;cases e
  exact .inr bE
 refine⟨by omega,fun k o _ y bc=>?_⟩;have bB:=(Oe2.1 y).1;rw[far k (fun e=>by subst e;rw[h.cells]at y;cases y;cases bc),K.block k (by omega) (fun e=>?_),H.block k bB]
 ·exact y
 obtain⟨bI,bj,X⟩:=Ks4 h.right e.symm;rw[bj]at y;cases y
 rw[bc]at X;cases X
end
end Go.Proofs.YtpchafocmlhmbaaGreatDoor
