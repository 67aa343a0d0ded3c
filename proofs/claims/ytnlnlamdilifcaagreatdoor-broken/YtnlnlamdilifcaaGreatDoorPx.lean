/- The law Sorted: a Run and its fault's block, whichever comes first. -/
import Derived.Test.YtnlnlamdilifcaaGreatDoorPo
namespace Go.Proofs.YtnlnlamdilifcaaGreatDoor
open Go.RowKit Go.Shelf
theorem tkg {P K y Q S H fuel I a w v}i(hi:y[i]?=some H)(M:S w)(h:wpAnyH P K y Q S fuel (I.setIfInBounds i true) (a.put H.dst v) w)(hr:(Region.ready K y I).contains i=true:=by kernel_rfl)(U:Region.free K y I i=true:=by kernel_rfl)(hs:Region.noSelect y=true:=by kernel_rfl)(hy:∀ w,S w->(execOp a.eval H).run P w=.ok (.value v) w:=by intro w O;(try dsimp only at O);go_simp;try rfl)(hQ:∀ c a w,Q (.panic c) (a.put H.dst v) w->Q (.panic c) a w:=by exact fun _ _ _ h=>h)(Y:Region.wanted H (yielded y a.tmps)=true:=by kernel_rfl):wpAnyH P K y Q S (fuel+1) I a w:=
 wpAnyH_take hi hs U hr hQ (.inl ⟨Y,hy⟩) M h
structure Qca (M:Nat->Prop) (w:World) (fa:Nat) (G:World->Prop) (X:World):Prop where
 z:X.heap[fa]?=some (.cells #[iZ,iZ,iZ,iZ,iZ] 39 (0,0))
 low:Ju M w X
 new:w.heap.size<=fa
 fin:∀ wx,X.heap.size<=wx.heap.size->(∀ k,k<X.heap.size->k≠fa->wx.heap[k]?=X.heap[k]?)->G wx
theorem Qca.store {H w fa G X}(h:Qca H w fa G X)a b c d e:(((((X.setCell (Aq fa) (Iq a)).setCell (Ar fa 1) (Iq b)).setCell (Ar fa 2) (Iq c)).setCell (Ar fa 3) (Iq d)).setCell (Ar fa 4) (Iq e)).heap[fa]?=some (.cells #[Iq a,Iq b,Iq c,Iq d,Iq e] 39 (0,0))/\Ju H w (((((X.setCell (Aq fa) (Iq a)).setCell (Ar fa 1) (Iq b)).setCell (Ar fa 2) (Iq c)).setCell (Ar fa 3) (Iq d)).setCell (Ar fa 4) (Iq e))/\G (((((X.setCell (Aq fa) (Iq a)).setCell (Ar fa 1) (Iq b)).setCell (Ar fa 2) (Iq c)).setCell (Ar fa 3) (Iq d)).setCell (Ar fa 4) (Iq e)):=by
 have I:=Jk (Jk (Jk (Jk (Jk h.z 0 (Iq a)) 1 (Iq b)) 2 (Iq c)) 3 (Iq d)) 4 (Iq e);simp only[Oa1,List.set_cons_zero,List.set_cons_succ]at I;have y:up H w fa:=.inr h.new;exact⟨I,((((((h.low.mono fun _ _ M=>Or.inl M:Ju (up H w) w X).set y 0 _).set y 1 _).set y 2 _).set y 3 _).set y 4 _).down,h.fin _ (by rw[Jg2];exact Oa2 _) fun k _ K=>Zh _ _ _ _ _ _ _ k K⟩
theorem Jcu.lts {w B g bs R}(h:Jcu w B g bs R):∀ b∈bs,b<w.heap.size:=fun b hb=>by
 obtain⟨i,hi,e⟩:=Od5 hb;exact(h.rows i b (R[i]'(by rw[<-h.len];exact hi)) (by rw[Oa3 hi,e]) (Oa3 _)).lt
attribute [local go_sem] Oc0
theorem Qa3 {y p:Act->World->Prop}{a:Act}{w}(h:p a w)(hK:∀ a w,p a w->y a w):y a w:=hK a w h
def Ku3:Code->Code
 |.seq _ b=>b
 |c=>c
def Kr7:Nat->Code->Code
 |0,c=>c
 |n+1,c=>Kr7 n (Ku3 c)
def Kv1:Code->Code
 |.seq a _=>a
 |c=>c
