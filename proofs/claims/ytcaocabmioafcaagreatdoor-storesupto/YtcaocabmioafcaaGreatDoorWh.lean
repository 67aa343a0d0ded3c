/- The document's Load: pages written one after another. -/
import Derived.Test.YtcaocabmioafcaaGreatDoorWg
import Derived.Test.YtcaocabmioafcaaGreatDoorKe
namespace Go.Proofs.YtcaocabmioafcaaGreatDoor
open Go.RowKit Go.Shelf Tryz
attribute [local go_sem] Oc0
theorem Kvz:∀ (n:Nat)(t:List UInt8),t.length≤n→(Jb5 n t).length=(t.length+55) / 56
 |0,[],_=>rfl
 |0,b::t,h=>by simp at h
 |n+1,[],_=>by simp[Jb5]
 |n+1,b::t,h=>by
  have A:=Kvz n ((b::t).drop 56) (by simp at h ⊢;omega)
  simp only[Jb5,List.length_cons,A,Of7]
  omega
theorem Kx3 (t:List UInt8):(Qu t).length=(t.length+55) / 56:=Kvz _ _ (Oa2 _)
theorem Kwy (T:List (List UInt8))(k:Nat)(hk:k<T.length):Jch (T.take (k+1))=Jch (T.take k)+(T[k].length+55) / 56:=by
 unfold Jch
 rw[Oc4 hk,Ob8,List.sum_append]
 simp[Kx3]
theorem Kvk (T:List (List UInt8))(k:Nat):Jch (T.take k)≤Jch T:=by
 have h:Jch T=Jch (T.take k)+Jch (T.drop k):=by
  unfold Jch
  rw[←List.sum_append,←Ob8,Ok3]
 omega
theorem Qb9 {len g j:Nat}(H:1≤g)(h:j*g<len):j<ckN len g:=by
 rcases Oc1 j (ckN len g)with h1|h1
 ·exact h1
 have A:=Jxu len g H
 simp only[Jaa]at A
 have I:ckN len g*g≤j*g:=Om8 g h1
 omega
theorem Kyf (rows:List (List V))(ts hs:List Int)(m:Nat)(l:List (List UInt8))(h:Jeo rows ts hs m=.inl l)(A:(Uo rows ts hs m).2≠0):∀ k,m+1≤k→Jeo rows ts hs k=.inr m:=by
 intro k hk
 induction k with
 |zero=>omega
 |succ k H=>
  by_cases e:m=k
  ·subst e
   simp only[Jeo,h,if_neg A]
  simp only[Jeo,H (by omega)]
theorem Kwz {rs:List (List V)}{ts hs:List Int}{len g j m:Nat}{T l:List (List UInt8)}(J:j<ckN len g)(h:Jfg rs ts hs (cks len g j)=.inl T)(hk:Jeo (Uk rs (Jaa len g j)) ts hs m=.inl l)(K:m<ts.length)(I:(Uo (Uk rs (Jaa len g j)) ts hs m).2≠0):Jfg rs ts hs (cks len g (ckN len g))=.inr m:=by
 have A:Jfg rs ts hs (cks len g (j+1))=.inr m:=by
  rw[Jbj,Juv,h]
  simp only[Jiu,Kyf _ ts hs m l hk I ts.length (by omega)]
 have H:cks len g (ckN len g)=cks len g (j+1)++(cks len g (ckN len g)).drop (j+1):=by
  have:cks len g (j+1)=(cks len g (ckN len g)).take (j+1):=by
   unfold cks
   rw[←List.map_take,List.take_range,Oj1 (by omega)]
  rw[this,Ok3]
 rw[H]
 exact Kkl _ _ _ _ _ _ A
section
variable {Y:World} {st xb:Nat} {sv0 tv tyv rwv:Value} {name:ByteArray} {m:Nat} {sv pv:Value} {pl:List Value} {W W':World}
end
theorem Kum:(prog.info? 113).map (fun i=>(i.zero,i.size,i.bytes))=some (some (.agg #[.string ⟨#[]⟩,.slice none 0 0,.slice none 0 0,.slice none 0 0]),4,88):=by kernel_rfl
theorem Kvr {bi:Array Oper}{H:Oper}{a:Act}{L:Act→World→Prop}{Q:Exit→Act→World→Prop}{E:Prop}(R:H.guard=none)(s x:Operand)(X:H.op=.call {callee:=.builtin .append,args:=#[s,x],argTypes:=#[81,81]}){A:World}{tv:Value}{k:Nat}{cs:List Value}(Y:A.ownsRow 0 113 4 tv k cs)(c4:List Value)(bk:c4.length=4)(K:∀ u∈c4,u.oneCell'=true)(hk:k≤1000)(hs:a.eval s=tv)(ba:a.eval x=.slice (some ⟨A.heap.size,0,none⟩) 1 1)
  (O:∀ I J w4,w4.ownsRow 0 113 4 (.slice I (k+1) J) (k+1) (cs++c4)→(A.alloc (.cells c4.toArray 113)).grownBy w4 tv.ownBlock→((Value.slice I (k+1) J).ownBlock=tv.ownBlock∨(Value.slice I (k+1) J).ownBlock=some (A.alloc (.cells c4.toArray 113)).heap.size)→L (a.put H.dst (.slice I (k+1) J)) w4) :
  if Region.wanted H (yielded bi a.tmps)=true then Oper.wp prog H a (A.alloc (.cells c4.toArray 113)) L Q else E:=by
 obtain⟨bh,U,bb,bc,bf⟩:=info_parts Kum
 refine step_append_lies (A.alloc (.cells c4.toArray 113)) R s x 81 X 0 113 bh _ 4 88 (by kernel_rfl) U bb bc bf rfl (by decide) tv k cs hs (Jbm Y _) ⟨A.heap.size,0,none⟩ 1 1 c4 ba (by omega) (fun j u Z=>World.news_of_block (w:=A.alloc (.cells c4.toArray 113)) (heap_alloc_new A _) j u (by simpa using Z)) K (by decide) (by unfold maxLen;omega) (by omega) (Ob7 _) (A.heap.size+1) (Oa7 _ _) (fun g cap w' K M N bj=>?_)
 exact O _ _ w' K M (N.imp (fun e=>e.symm) fun e=>by rw[Oa7,e];rfl)
end Go.Proofs.YtcaocabmioafcaaGreatDoor
