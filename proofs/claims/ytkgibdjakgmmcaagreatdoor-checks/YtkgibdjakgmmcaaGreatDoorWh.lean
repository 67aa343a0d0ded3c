/- The document's Load: pages written one after another. -/
import Derived.Test.YtkgibdjakgmmcaaGreatDoorWg
import Derived.Test.YtkgibdjakgmmcaaGreatDoorRh
namespace Go.Proofs.YtkgibdjakgmmcaaGreatDoor
open Go.RowKit Go.Shelf
attribute [local go_sem] Oper.semAt_some
theorem cutUp_len:∀ (n:Nat)(t:List UInt8),t.length≤n→(cutUp n t).length=(t.length+55) / 56
 |0,[],_=>rfl
 |0,b::t,h=>by simp at h
 |n+1,[],_=>by simp[cutUp]
 |n+1,b::t,h=>by
  have ih:=cutUp_len n ((b::t).drop 56) (by simp at h ⊢;omega)
  simp only[cutUp,List.length_cons,ih,List.length_drop]
  omega
theorem pieces_len (t:List UInt8):(pieces t).length=(t.length+55) / 56:=cutUp_len _ _ (Nat.le_refl _)
theorem totalP_take (T:List (List UInt8))(k:Nat)(hk:k<T.length):totalP (T.take (k+1))=totalP (T.take k)+(T[k].length+55) / 56:=by
 unfold totalP
 rw[List.take_succ_eq_append_getElem hk,List.map_append,List.sum_append]
 simp[pieces_len]
theorem totalP_take_le (T:List (List UInt8))(k:Nat):totalP (T.take k)≤totalP T:=by
 have h:totalP T=totalP (T.take k)+totalP (T.drop k):=by
  unfold totalP
  rw[←List.sum_append,←List.map_append,List.take_append_drop]
 omega
theorem ckN_gt {len g j:Nat}(hg:1≤g)(h:j*g<len):j<ckN len g:=by
 rcases Nat.lt_or_ge j (ckN len g)with h1|h1
 ·exact h1
 have h2:=ckN_end len g hg
 simp only[ckAt]at h2
 have h3:ckN len g*g≤j*g:=Nat.mul_le_mul_right g h1
 omega
theorem packK_from (rows:List (List V))(ts hs:List Int)(m:Nat)(l:List (List UInt8))(h:packK rows ts hs m=.inl l)(hc:(colText rows ts hs m).2≠0):∀ k,m+1≤k→packK rows ts hs k=.inr m:=by
 intro k hk
 induction k with
 |zero=>omega
 |succ k ih=>
  by_cases e:m=k
  ·subst e
   simp only[packK,h,if_neg hc]
  simp only[packK,ih (by omega)]
theorem packF_badAt {rs:List (List V)}{ts hs:List Int}{len g j m:Nat}{T l:List (List UInt8)}(hj:j<ckN len g)(h:packF rs ts hs (cks len g j)=.inl T)(hk:packK (rowsOf rs (ckAt len g j)) ts hs m=.inl l)(hm:m<ts.length)(hc:(colText (rowsOf rs (ckAt len g j)) ts hs m).2≠0):packF rs ts hs (cks len g (ckN len g))=.inr m:=by
 have h1:packF rs ts hs (cks len g (j+1))=.inr m:=by
  rw[cks_succ,packF_snoc,h]
  simp only[packS,packK_from _ ts hs m l hk hc ts.length (by omega)]
 have h2:cks len g (ckN len g)=cks len g (j+1)++(cks len g (ckN len g)).drop (j+1):=by
  have:cks len g (j+1)=(cks len g (ckN len g)).take (j+1):=by
   unfold cks
   rw[←List.map_take,List.take_range,Nat.min_eq_left (by omega)]
  rw[this,List.take_append_drop]
 rw[h2]
 exact packF_bad _ _ _ _ _ _ h1
def RLoadP (N:Nat→Prop)(w:World)(st n:Nat)(Rs:List (ByteArray×List Int))(name:ByteArray)(ts:List Int)(r:LoadQ)(e:Ending)(w':World):Prop:=
 e=.returned r.fault∧Keep N w w'∧∃ N':Nat→Prop,RSto N' w' st (r.n n) (r.rs Rs name ts)∧(∀ k,N k→N' k)∧∀ k,N' k→N k∨w.heap.size≤k
theorem RLoadP.same {N:Nat→Prop}{w w':World}{st n:Nat}{Rs:List (ByteArray×List Int)}{name:ByteArray}{ts:List Int}{r:LoadQ}{e:Ending}(h:RSto N w st n Rs)(hb:Below w.heap.size w w')(he:e=.returned r.fault)(h1:r.n n=n)(h2:r.rs Rs name ts=Rs):RLoadP N w st n Rs name ts r e w':=
 ⟨he,.of_below hb,N,by rw[h1,h2];exact h.below hb,fun k h=>h,fun k h=>.inl h⟩
structure RWr (Y:World) (st xb:Nat) (sv0 tv tyv rwv:Value) (name:ByteArray) (m:Nat) (sv pv:Value) (pl:List Value) (W:World):Prop where
 store:W.heap[st]?=some (.cells #[.int .i64 1048576,.int .i64 0,.int .i64 (m:Int),sv,tv] 96 (0,0))
 own:W.ownsRow 0 182 65 sv m (pgs m)
 ne:sv.ownBlock≠some st∧sv.ownBlock≠some xb
 old:∀ g,sv.ownBlock=some g→sv0.ownBlock=some g∨Y.heap.size≤g
 tab:W.heap[xb]?=some (.cells #[.string name,tyv,rwv,pv] 116 (0,0))
 pages:OwnC W Y.heap.size 3 pv pl
 len:pl.length≤m
 apart:∀ g,pv.ownBlock=some g→sv.ownBlock≠some g
 keep:Keep (fun x=>x=st∨sv0.ownBlock=some x∨x=xb) Y W
 lt:st<Y.heap.size∧xb<Y.heap.size∧st≠xb
section
variable {Y:World} {st xb:Nat} {sv0 tv tyv rwv:Value} {name:ByteArray} {m:Nat} {sv pv:Value} {pl:List Value} {W W':World}
theorem RWr.wrote {sv':Value}(h:RWr Y st xb sv0 tv tyv rwv name m sv pv pl W)(h1:W'.heap[st]?=some (.cells #[.int .i64 1048576,.int .i64 0,.int .i64 ((m:Int)+1),sv',tv] 96 (0,0)))(h2:W'.ownsRow 0 182 65 sv' (m+1) (pgs (m+1)))(h3:Keep (fun x=>x=st∨sv.ownBlock=some x) W W')(h4:sv'.ownBlock=sv.ownBlock∨∃ g,sv'.ownBlock=some g∧W.heap.size≤g):RWr Y st xb sv0 tv tyv rwv name (m+1) sv' pv pl W':=by
 have hz:=h.keep.size
 obtain⟨l1,l2,l3⟩:=h.lt
 have hnew:∀ g,sv'.ownBlock=some g→sv.ownBlock=some g∨W.heap.size≤g:=fun g hg=>by
  rcases h4 with q|⟨x,q,hx⟩
  ·exact .inl (q▸hg)
  rw[q]at hg
  cases hg
  exact .inr hx
 have hp:∀ g,pv.ownBlock=some g→Y.heap.size≤g∧g<W.heap.size:=fun g hg=>owns_block h.pages hg
 refine⟨by rw[h1];simp,h2,⟨fun e=>?_,fun e=>?_⟩,fun g hg=>?_,?_,owns_of_block h.pages fun g hg=>?_,by have:=h.len;omega,fun g hg e=>?_,?_,h.lt⟩
 ·rcases hnew _ e with q|q
  ·exact h.ne.1 q
  omega
 ·rcases hnew _ e with q|q
  ·exact h.ne.2 q
  omega
 ·rcases hnew _ hg with q|q
  ·exact h.old g q
  exact .inr (by omega)
 ·rw[h3.block xb (by omega) fun e=>e.elim (fun q=>l3 q.symm) h.ne.2]
  exact h.tab
 ·have:=hp g hg
  exact h3.block g this.2 fun e=>e.elim (fun q=>by omega) (h.apart g hg)
 ·have:=hp g hg
  rcases hnew _ e with q|q
  ·exact h.apart g hg q
  omega
 exact h.keep.trans' h3 fun i hi hq=>hq.elim .inl fun q=>(h.old i q).elim (fun a=>.inr (.inl a)) fun a=>by omega
theorem RWr.paged {pv' x:Value}{o:Obj}{w4:World}(h:RWr Y st xb sv0 tv tyv rwv name m sv pv pl W)(t1:OwnC w4 Y.heap.size 3 pv' (pl++[x]))(t2:(W.alloc o).grownBy w4 pv.ownBlock)(t3:pv'.ownBlock=pv.ownBlock∨pv'.ownBlock=some (W.alloc o).heap.size)(hl:pl.length+1≤m):RWr Y st xb sv0 tv tyv rwv name m sv pv' (pl++[x]) (w4.setCell ⟨xb,3,none⟩ pv'):=by
 have hz:=h.keep.size
 obtain⟨l1,l2,l3⟩:=h.lt
 have hp:∀ g,pv.ownBlock=some g→Y.heap.size≤g∧g<W.heap.size:=fun g hg=>owns_block h.pages hg
 have hsz:(W.alloc o).heap.size=W.heap.size+1:=World.size_alloc W o
 have hnew:∀ g,pv'.ownBlock=some g→pv.ownBlock=some g∨g=W.heap.size+1:=fun g hg=>by
  rcases t3 with q|q
  ·exact .inl (q▸hg)
  rw[q]at hg
  cases hg
  exact .inr (by omega)
 have hk:∀ k,k<W.heap.size→pv.ownBlock≠some k→w4.heap[k]?=W.heap[k]?:=fun k hk hn=>(t2.block k (by omega) fun e=>hn e.symm).trans (Below.heap_alloc _ _ _ hk)
 have ho:∀ k,k≠xb→(w4.setCell ⟨xb,3,none⟩ pv').heap[k]?=w4.heap[k]?:=fun k hk=>Below.heap_setCell _ _ _ _ hk
 have hpx:pv.ownBlock≠some xb:=fun e=>by have:=hp _ e;omega
 have hps:pv.ownBlock≠some st:=fun e=>by have:=hp _ e;omega
 have z4:=t2.size
 have z5:(w4.setCell ⟨xb,3,none⟩ pv').heap.size=w4.heap.size:=by simp[World.setCell]
 refine⟨?_,owns_of_block h.own fun g hg=>?_,h.ne,h.old,?_,owns_of_block t1 fun g hg=>?_,by simp;omega,fun g hg e=>?_,?_,h.lt⟩
 ·rw[ho st l3,hk st (by omega) hps]
  exact h.store
 ·have hgl:=(owns_block h.own hg).2
  rw[ho g fun e=>h.ne.2 (e▸hg),hk g hgl fun e=>h.apart g e hg]
 ·have:=heap_set ((hk xb (by omega) hpx).trans h.tab) 3 pv'
  rw[this]
  simp
 ·refine ho g fun e=>?_
  rcases hnew g hg with q|q
  ·exact hpx (e▸q)
  omega
 ·rcases hnew g hg with q|q
  ·exact h.apart g q e
  have:=(owns_block h.own e).2
  omega
 refine h.keep.trans' (G:=fun x=>x=xb∨pv.ownBlock=some x) ⟨t2.os,t2.tape,t2.output,by rw[z5];omega,fun k hk' hn=>?_⟩ fun i hi hq=>hq.elim (fun a=>.inr (.inr a)) fun a=>by have:=hp i a;omega
 rw[ho k fun e=>hn (.inl e),hk k hk' fun e=>hn (.inr e)]
theorem RWr.done {N:Nat→Prop}{w:World}{n:Nat}{Rs:List (ByteArray×List Int)}{ts:List Int}{ta:Option Addr}{tc:Nat}{xs:List ((Option Addr×Nat)×(Value×Value))}{o:Obj}{tv':Value}{w4:World}(h:RWr Y st xb sv0 tv (.slice ta ts.length tc) rwv name m sv pv pl W)(hS:RSto N w st n Rs)(hb:Below w.heap.size w Y)(hxb:w.heap.size≤xb)
  (h4:xs.length=Rs.length) (h6:tv.ownBlock≠some st) (h7:∀ g,sv0.ownBlock=some g→tv.ownBlock≠some g)
  (h8:∀ (j:Nat) R x,Rs[j]?=some R→xs[j]?=some x→Ints w x.1.1 R.2∧TyI w x.1.1∧∀ b o,x.1.1=some ⟨b,o,none⟩→N b∧b≠st∧sv0.ownBlock≠some b∧tv.ownBlock≠some b) (h9:∀ k,k=st∨sv0.ownBlock=some k∨tv.ownBlock=some k→N k)
  (hi:Ints Y ta ts) (hy:TyI Y ta) (hn:∀ b o,ta=some ⟨b,o,none⟩→w.heap.size≤b∧b<Y.heap.size∧b≠xb)
  (t1:w4.ownsRow 0 116 4 tv' (Rs.length+1) (rtCs Rs xs++rtC (name,ts) ((ta,tc),(rwv,pv)))) (t2:(W.alloc o).grownBy w4 tv.ownBlock) (t3:tv'.ownBlock=tv.ownBlock∨tv'.ownBlock=some (W.alloc o).heap.size) :
  ∀ W5:World,Keep (fun k=>w.heap.size≤k∧k<Y.heap.size∧k≠xb∧∀ o,ta≠some ⟨k,o,none⟩) (w4.setCell ⟨st,4,none⟩ tv') W5→Keep N w W5∧∃ N':Nat→Prop,RSto N' W5 st m (Rs++[(name,ts)])∧(∀ k,N k→N' k)∧∀ k,N' k→N k∨w.heap.size≤k:=by
 intro W5 hk5
 have hz:=h.keep.size
 have hzY:=hb.size
 obtain⟨l1,l2,l3⟩:=h.lt
 have hN:=hS.lt
 have hstw:st<w.heap.size:=hN st (h9 st (.inl rfl))
 have hsz:(W.alloc o).heap.size=W.heap.size+1:=World.size_alloc W o
 have htl:∀ g,tv.ownBlock=some g→g<w.heap.size:=fun g hg=>hN g (h9 g (.inr (.inr hg)))
 have hsl:∀ g,sv0.ownBlock=some g→g<w.heap.size:=fun g hg=>hN g (h9 g (.inr (.inl hg)))
 have hnew:∀ g,tv'.ownBlock=some g→tv.ownBlock=some g∨g=W.heap.size+1:=fun g hg=>by
  rcases t3 with q|q
  ·exact .inl (q▸hg)
  rw[q]at hg
  cases hg
  exact .inr (by omega)
 have hk:∀ k,k<W.heap.size→tv.ownBlock≠some k→w4.heap[k]?=W.heap[k]?:=fun k hk hn=>(t2.block k (by omega) fun e=>hn e.symm).trans (Below.heap_alloc _ _ _ hk)
 have ho:∀ k,k≠st→(w4.setCell ⟨st,4,none⟩ tv').heap[k]?=w4.heap[k]?:=fun k hk=>Below.heap_setCell _ _ _ _ hk
 have z4:=t2.size
 have z5:(w4.setCell ⟨st,4,none⟩ tv').heap.size=w4.heap.size:=by simp[World.setCell]
 have z6:=hk5.size
 have k5:∀ k,k<w4.heap.size→(k<w.heap.size∨Y.heap.size≤k)→W5.heap[k]?=(w4.setCell ⟨st,4,none⟩ tv').heap[k]?:=fun k hl ho'=>hk5.block k (by omega) fun e=>by omega
 have hst4:w4.heap[st]?=some (.cells #[.int .i64 1048576,.int .i64 0,.int .i64 (m:Int),sv,tv] 96 (0,0)):=(hk st (by omega) h6).trans h.store
 have ht2:sv.ownBlock≠some st:=h.ne.1
 have hts:∀ g,tv'.ownBlock=some g→sv.ownBlock≠some g:=fun g hg e=>by
  rcases hnew g hg with q|q
  ·rcases h.old g e with a|a
   ·exact h7 g a q
   have:=htl g q;omega
  have:=(owns_block h.own e).2;omega
 have hold:∀ k,k<w.heap.size→k≠st→sv0.ownBlock≠some k→tv.ownBlock≠some k→W5.heap[k]?=w.heap[k]?:=fun k hk' n1 n2 n3=>by
  rw[k5 k (by omega) (.inl hk'),ho k n1,hk k (by omega) n3,h.keep.block k (by omega) fun e=>e.elim n1 fun e=>e.elim n2 fun e=>by omega]
  exact hb.block k hk'
 have htan:∀ b oo,ta=some ⟨b,oo,none⟩→W5.heap[b]?=Y.heap[b]?:=fun b oo e=>by
  obtain⟨q1,q2,q3⟩:=hn b oo e
  rw[hk5.block b (by omega) fun hh=>hh.2.2.2 oo e,ho b (by omega),hk b (by omega) fun e2=>by have:=htl b e2;omega]
  exact h.keep.block b q2 fun e2=>e2.elim (fun a=>by omega) fun e2=>e2.elim (fun a=>by have:=hsl b a;omega) q3
 refine⟨⟨hk5.os.trans (t2.os.trans (h.keep.os.trans hb.os)),hk5.tape.trans (t2.tape.trans (h.keep.tape.trans hb.tape)),hk5.output.trans (t2.output.trans (h.keep.output.trans hb.output)),by omega,fun k hk' hn'=>hold k hk' (fun e=>hn' (h9 k (.inl e))) (fun e=>hn' (h9 k (.inr (.inl e)))) fun e=>hn' (h9 k (.inr (.inr e)))⟩,fun k=>N k∨(w.heap.size≤k∧k<W5.heap.size),⟨⟨sv,tv',xs++[((ta,tc),(rwv,pv))],?_,owns_of_block h.own fun g hg=>?_,?_,by simp[h4],ht2,fun e=>?_,fun g hg e=>hts g e hg,fun j R x hR hx=>?_,?_⟩,?_⟩,fun k hk'=>.inl hk',fun k hk'=>hk'.imp_right fun a=>a.1⟩
 ·rw[k5 st (by omega) (.inl hstw),heap_setCell_same w4 st 4 _ _ _ hst4]
  rfl
 ·have hgl:=(owns_block h.own hg).2
  have hnt:tv.ownBlock≠some g:=fun e=>by
   rcases h.old g hg with a|a
   ·exact h7 g a e
   have:=htl g e;omega
  rw[k5 g (by omega) ((h.old g hg).imp (hsl g) id),ho g fun e=>ht2 (e▸hg),hk g hgl hnt]
 ·rw[rtCs_snoc _ _ _ _ h4,List.length_append]
  refine owns_of_block t1 fun g hg=>?_
  have hgl:=(owns_block t1 hg).2
  rw[k5 g hgl ((hnew g hg).imp (htl g) fun a=>by omega),ho g fun e=>?_]
  rcases hnew g hg with q|q
  ·exact h6 (e▸q)
  omega
 ·rcases hnew st e with q|q
  ·exact h6 q
  omega
 ·by_cases hj:j<Rs.length
  ·rw[List.getElem?_append_left hj]at hR
   rw[List.getElem?_append_left (by omega)]at hx
   obtain⟨q1,q2,q3⟩:=h8 j R x hR hx
   have hbl:∀ b o,x.1.1=some ⟨b,o,none⟩→W5.heap[b]?=w.heap[b]?:=fun b o e=>by
    obtain⟨r1,r2,r3,r4⟩:=q3 b o e
    exact hold b (hN b r1) r2 r3 r4
   refine⟨q1.of_block (by omega) fun b o e _=>hbl b o e,fun b o e=>?_,fun b o e=>?_⟩
   ·obtain⟨cur,hc⟩:=q2 b o e
    exact⟨cur,(hbl b o e).trans hc⟩
   obtain⟨r1,r2,r3,r4⟩:=q3 b o e
   have:=hN b r1
   refine⟨.inl r1,r2,fun e2=>?_,fun e2=>?_⟩
   ·rcases h.old b e2 with a|a
    ·exact r3 a
    omega
   rcases hnew b e2 with a|a
   ·exact r4 a
   omega
  have hjl:j=Rs.length:=by
   have:=(List.getElem?_eq_some_iff.1 hR).1
   rw[List.length_append]at this
   simp only[List.length_cons,List.length_nil]at this
   omega
  subst hjl
  rw[List.getElem?_append_right (Nat.le_refl _),Nat.sub_self]at hR
  rw[List.getElem?_append_right (by omega),h4,Nat.sub_self]at hx
  cases hR
  cases hx
  refine⟨hi.of_block (by omega) fun b o e _=>htan b o e,fun b o e=>?_,fun b o e=>?_⟩
  ·obtain⟨cur,hc⟩:=hy b o e
   exact⟨cur,(htan b o e).trans hc⟩
  obtain⟨q1,q2,q3⟩:=hn b o e
  refine⟨.inr ⟨q1,by omega⟩,by omega,fun e2=>?_,fun e2=>?_⟩
  ·rcases h.old b e2 with a|a
   ·have:=hsl b a;omega
   omega
  rcases hnew b e2 with a|a
  ·have:=htl b a;omega
  omega
 ·rintro k (rfl|e|e)
  ·exact .inl (h9 _ (.inl rfl))
  ·rcases h.old k e with a|a
   ·exact .inl (h9 k (.inr (.inl a)))
   have:=(owns_block h.own e).2
   exact .inr ⟨by omega,by omega⟩
  rcases hnew k e with a|a
  ·exact .inl (h9 k (.inr (.inr a)))
  have:=(owns_block t1 e).2
  exact .inr ⟨by omega,by omega⟩
 rintro k (a|a)
 ·have:=hN k a;omega
 exact a.2
end
theorem info_rTable:(Tryz.prog.info? 116).map (fun i=>(i.zero,i.size,i.bytes))=some (some (.agg #[.string ⟨#[]⟩,.slice none 0 0,.slice none 0 0,.slice none 0 0]),4,88):=by kernel_rfl
theorem step_append_T {ops:Array Oper}{op:Oper}{a:Act}{K:Act→World→Prop}{Q:Exit→Act→World→Prop}{E:Prop}(hgd:op.guard=none)(s x:Operand)(ho:op.op=.call {callee:=.builtin .append,args:=#[s,x],argTypes:=#[94,94]}){Y:World}{tv:Value}{k:Nat}{cs:List Value}(hown:Y.ownsRow 0 116 4 tv k cs)(c4:List Value)(hc4:c4.length=4)(h1:∀ u∈c4,u.oneCell'=true)(hk:k≤1000)(hs:a.eval s=tv)(hxe:a.eval x=.slice (some ⟨Y.heap.size,0,none⟩) 1 1)
  (hK:∀ a7 c7 w4,w4.ownsRow 0 116 4 (.slice a7 (k+1) c7) (k+1) (cs++c4)→(Y.alloc (.cells c4.toArray 116)).grownBy w4 tv.ownBlock→((Value.slice a7 (k+1) c7).ownBlock=tv.ownBlock∨(Value.slice a7 (k+1) c7).ownBlock=some (Y.alloc (.cells c4.toArray 116)).heap.size)→K (a.put op.dst (.slice a7 (k+1) c7)) w4) :
  if Region.wanted op (yielded ops a.tmps)=true then Oper.wp Tryz.prog op a (Y.alloc (.cells c4.toArray 116)) K Q else E:=by
 obtain⟨i0,hi0,hz0,hz1,hz2⟩:=info_parts info_rTable
 refine step_append_lies (Y.alloc (.cells c4.toArray 116)) hgd s x 94 ho 0 116 i0 _ 4 88 (by kernel_rfl) hi0 hz0 hz1 hz2 rfl (by decide) tv k cs hs (owns_alloc hown _) ⟨Y.heap.size,0,none⟩ 1 1 c4 hxe (by omega) (fun j u hu=>World.news_of_block (w:=Y.alloc (.cells c4.toArray 116)) (heap_alloc_new Y _) j u (by simpa using hu)) h1 (by decide) (by unfold maxLen;omega) (by omega) (Nat.zero_le _) (Y.heap.size+1) (World.size_alloc _ _) (fun g cap w' h1 h2 h3 h4=>?_)
 exact hK _ _ w' h1 h2 (h3.imp (fun e=>e.symm) fun e=>by rw[World.size_alloc,e];rfl)
end Go.Proofs.YtkgibdjakgmmcaaGreatDoor
