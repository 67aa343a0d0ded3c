/- The law's disk and example. -/
import Derived.Test.YtkgibdjakgmmcaaGreatDoorWd
import Derived.Test.YtkgibdjakgmmcaaGreatDoorLawP
set_option maxHeartbeats 2000000
set_option maxRecDepth 100000
namespace Go.Proofs.YtkgibdjakgmmcaaGreatDoor
open Go.RowKit Go.Shelf
attribute [local go_sem] Oper.semAt_some
theorem lRoom_any (w:World):Calls Tryz.prog 8 #[] w fun e w'=>e=.returned (.agg #[.int .i64 1048576,.int .i64 0])∧Below w.heap.size w w':=by
 go_enter Tryz.func8,Tryz.ntmps8
 go_wp2
 exact bodyPost_ret (v:=.agg #[.int .i64 1048576,.int .i64 0]) (by simp[results,Tryz.results8,go_sem]) rfl ⟨rfl,(Below.refl _ w).alloc (Nat.le_refl _) _⟩
theorem new_at (w:World)(o:Obj)(k:Nat)(h:k=w.heap.size):(w.alloc o).heap[k]?=some o:=by
 subst h
 exact heap_alloc_new w o
theorem eight_new (w:World)(o0 o1 o2 o3 o4 o5 o6 o7:Obj)(P:World→Prop)(h:∀ Z:World,Below w.heap.size w Z→Z.heap.size=w.heap.size+8→Z.heap[w.heap.size+1]?=some o1→Z.heap[w.heap.size+2]?=some o2→Z.heap[w.heap.size+3]?=some o3→Z.heap[w.heap.size+4]?=some o4→Z.heap[w.heap.size+5]?=some o5→Z.heap[w.heap.size+6]?=some o6→Z.heap[w.heap.size+7]?=some o7→P Z):P ((((((((w.alloc o0).alloc o1).alloc o2).alloc o3).alloc o4).alloc o5).alloc o6).alloc o7):=by
 refine h _ ?_ (by simp) ?_ ?_ ?_ ?_ ?_ ?_ ?_
 ·exact(((((((((Below.refl _ w).alloc (Nat.le_refl _) _).alloc (by simp only[World.size_alloc];omega) _).alloc (by simp only[World.size_alloc];omega) _).alloc (by simp only[World.size_alloc];omega) _).alloc (by simp only[World.size_alloc];omega) _).alloc (by simp only[World.size_alloc];omega) _).alloc (by simp only[World.size_alloc];omega) _).alloc (by simp only[World.size_alloc];omega) _)
 all_goals
  repeat rw[Below.heap_alloc _ _ _ (by simp only[World.size_alloc];omega)]
  exact new_at _ _ _ (by simp only[World.size_alloc])
def exRows:List (List V):=[[⟨1,1,⟨#[]⟩⟩,⟨3,0,⟨#[97]⟩⟩],[⟨1,2,⟨#[]⟩⟩,⟨3,0,⟨#[98]⟩⟩],[⟨0,0,⟨#[]⟩⟩,⟨3,0,⟨#[97]⟩⟩],[⟨1,4,⟨#[]⟩⟩,⟨0,0,⟨#[]⟩⟩]]
theorem lExample_any (w:World):Calls Tryz.prog 9 #[] w fun e w'=>∃ ta tc ra rc hs xa xc,e=.returned (.agg #[.string ⟨#[116]⟩,.slice ta 2 tc,.slice ra 4 rc,.slice xa 2 xc,.int .i64 2])∧Ints w' ta [1,3]∧Ints w' xa [0,1]∧RowsAt w' ra hs exRows∧Below w.heap.size w w'∧4≤rc:=by
 go_enter Tryz.func9,Tryz.ntmps9
 go_wp2
 refine bodyPost_ret (v:=.agg #[.string ⟨#[116]⟩,.slice (some ⟨w.heap.size+6,0,none⟩) 2 2,.slice (some ⟨w.heap.size+5,0,none⟩) 4 4,.slice (some ⟨w.heap.size+7,0,none⟩) 2 2,.int .i64 2]) (by simp[results,Tryz.results9,go_sem]) rfl ?_
 refine eight_new w _ _ _ _ _ _ _ _ (fun w'=>∃ ta tc ra rc hs xa xc,Ending.returned (.agg #[.string ⟨#[116]⟩,.slice (some ⟨w.heap.size+6,0,none⟩) 2 2,.slice (some ⟨w.heap.size+5,0,none⟩) 4 4,.slice (some ⟨w.heap.size+7,0,none⟩) 2 2,.int .i64 2])=.returned (.agg #[.string ⟨#[116]⟩,.slice ta 2 tc,.slice ra 4 rc,.slice xa 2 xc,.int .i64 2])∧Ints w' ta [1,3]∧Ints w' xa [0,1]∧RowsAt w' ra hs exRows∧Below w.heap.size w w'∧4≤rc) ?_
 intro Z hb hz g1 g2 g3 g4 g5 g6 g7
 refine⟨some ⟨w.heap.size+6,0,none⟩,2,some ⟨w.heap.size+5,0,none⟩,4,[(some ⟨w.heap.size+1,0,none⟩,2),(some ⟨w.heap.size+2,0,none⟩,2),(some ⟨w.heap.size+3,0,none⟩,2),(some ⟨w.heap.size+4,0,none⟩,2)],some ⟨w.heap.size+7,0,none⟩,2,rfl,.inr ⟨w.heap.size+6,0,rfl,by omega,fun i v hv=>?_⟩,.inr ⟨w.heap.size+7,0,rfl,by omega,fun i v hv=>?_⟩,?_,hb,by omega⟩
 ·rcases i with _|_|i<;>simp[iv]at hv<;>subst hv<;>simp[World.cell?,g6]
 ·rcases i with _|_|i<;>simp[iv]at hv<;>subst hv<;>simp[World.cell?,g7]
 refine⟨rfl,.inr ⟨w.heap.size+5,0,rfl,by omega,fun i v hv=>?_⟩,fun i x r hx hr=>?_⟩
 ·rcases i with _|_|_|_|i<;>simp[exRows,rowV]at hv<;>subst hv<;>simp[World.cell?,g5]
 rcases i with _|_|_|_|i<;>simp[exRows]at hx hr<;>subst hx hr<;>refine .inr ⟨_,0,rfl,by omega,fun i v hv=>?_⟩<;>rcases i with _|_|i<;>simp at hv<;>subst hv<;>refine⟨?_,?_,?_⟩<;>simp[World.cell?,g1,g2,g3,g4]
attribute [local go_sem] Oper.semAt_some
def rtC (R:ByteArray×List Int)(x:(Option Addr×Nat)×(Value×Value)):List Value:=[.string R.1,.slice x.1.1 R.2.length x.1.2,x.2.1,x.2.2]
def rtCs (Rs:List (ByteArray×List Int))(xs:List ((Option Addr×Nat)×(Value×Value))):List Value:=(List.zipWith rtC Rs xs).flatten
theorem rtCs_snoc (Rs:List (ByteArray×List Int))(xs:List ((Option Addr×Nat)×(Value×Value)))(R:ByteArray×List Int)(x:(Option Addr×Nat)×(Value×Value))(h:xs.length=Rs.length):rtCs (Rs++[R]) (xs++[x])=rtCs Rs xs++rtC R x:=by
 unfold rtCs
 rw[List.zipWith_append h.symm,List.flatten_append]
 simp
theorem rtCs_length:∀ (Rs:List (ByteArray×List Int))(xs:List ((Option Addr×Nat)×(Value×Value))),xs.length=Rs.length→(rtCs Rs xs).length=Rs.length*4
 |[],xs,_=>by simp[rtCs]
 |R::Rs,[],h=>by simp at h
 |R::Rs,x::xs,h=>by
  have ih:=rtCs_length Rs xs (by simpa using h)
  unfold rtCs at ih ⊢
  rw[List.zipWith_cons_cons,List.flatten_cons,List.length_append,ih]
  simp[rtC]
  omega
theorem rtCs_at:∀ (Rs:List (ByteArray×List Int))(xs:List ((Option Addr×Nat)×(Value×Value))),xs.length=Rs.length→∀ (j:Nat) R x,Rs[j]?=some R→xs[j]?=some x→(rtCs Rs xs)[j*4]?=some (.string R.1)∧(rtCs Rs xs)[j*4+1]?=some (.slice x.1.1 R.2.length x.1.2)
 |[],xs,_,j,R,x,h,_=>by simp at h
 |R::Rs,[],h,_,_,_,_,_=>by simp at h
 |R::Rs,x::xs,h,0,R',x',h1,h2=>by
  simp at h1 h2
  subst h1 h2
  unfold rtCs
  rw[List.zipWith_cons_cons,List.flatten_cons]
  simp[rtC]
 |R::Rs,x::xs,h,j+1,R',x',h1,h2=>by
  have ih:=rtCs_at Rs xs (by simpa using h) j R' x' (by simpa using h1) (by simpa using h2)
  unfold rtCs at ih ⊢
  rw[List.zipWith_cons_cons,List.flatten_cons,List.getElem?_append_right (by simp[rtC];omega),List.getElem?_append_right (by simp[rtC];omega)]
  simp only[rtC,List.length_cons,List.length_nil]
  rw[show (j+1)*4-(0+1+1+1+1)=j*4 by omega,show (j+1)*4+1-(0+1+1+1+1)=j*4+1 by omega]
  exact ih
structure RSto (N:Nat→Prop) (w:World) (st n:Nat) (Rs:List (ByteArray×List Int)):Prop where
 ex:∃ (sv tv:Value) (xs:List ((Option Addr×Nat)×(Value×Value))),w.heap[st]?=some (.cells #[.int .i64 1048576,.int .i64 0,.int .i64 n,sv,tv] 96 (0,0))∧w.ownsRow 0 182 65 sv n (pgs n)∧w.ownsRow 0 116 4 tv Rs.length (rtCs Rs xs)∧xs.length=Rs.length∧sv.ownBlock≠some st∧tv.ownBlock≠some st∧(∀ g,sv.ownBlock=some g→tv.ownBlock≠some g) ∧
  (∀ (j:Nat) R x,Rs[j]?=some R→xs[j]?=some x→Ints w x.1.1 R.2∧TyI w x.1.1∧∀ b o,x.1.1=some ⟨b,o,none⟩→N b∧b≠st∧sv.ownBlock≠some b∧tv.ownBlock≠some b)∧(∀ k,k=st∨sv.ownBlock=some k∨tv.ownBlock=some k→N k)
 lt:∀ k,N k→k<w.heap.size
theorem RSto.stands {N:Nat→Prop}{w w':World}{st n:Nat}{Rs:List (ByteArray×List Int)}(h:RSto N w st n Rs)(hs:w.heap.size≤w'.heap.size)(hk:∀ k,N k→w'.heap[k]?=w.heap[k]?):RSto N w' st n Rs:=by
 obtain⟨⟨sv,tv,xs,h1,h2,h3,h4,h5,h6,h7,h8,h9⟩,hl⟩:=h
 refine⟨⟨sv,tv,xs,(hk st (h9 st (.inl rfl))).trans h1,owns_of_block h2 fun g hg=>hk g (h9 g (.inr (.inl hg))),owns_of_block h3 fun g hg=>hk g (h9 g (.inr (.inr hg))),h4,h5,h6,h7,fun j R x hR hx=>?_,h9⟩,fun k hk'=>Nat.lt_of_lt_of_le (hl k hk') hs⟩
 obtain⟨q1,q2,q3⟩:=h8 j R x hR hx
 exact⟨q1.of_block hs fun b o e _=>hk b (q3 b o e).1,fun b o e=>by
  obtain⟨cs,hc⟩:=q2 b o e
  exact⟨cs,(hk b (q3 b o e).1).trans hc⟩,q3⟩
theorem RSto.below {N:Nat→Prop}{w w':World}{st n:Nat}{Rs:List (ByteArray×List Int)}(h:RSto N w st n Rs)(hb:Below w.heap.size w w'):RSto N w' st n Rs:=h.stands hb.size fun k hk=>hb.block k (h.lt k hk)
theorem RSto.tabs {N:Nat→Prop}{w:World}{st n:Nat}{Rs:List (ByteArray×List Int)}(h:RSto N w st n Rs):RTabs w st Rs:=by
 obtain⟨⟨sv,tv,xs,h1,h2,h3,h4,h5,h6,h7,h8,h9⟩,hl⟩:=h
 obtain⟨a,c,rfl⟩:=row_slice h3
 refine⟨a,c,by simp[World.cell?,h1],fun j R hj=>?_⟩
 have hjl:j<Rs.length:=(List.getElem?_eq_some_iff.1 hj).1
 have hx:xs[j]?=some xs[j]:=List.getElem?_eq_getElem (by omega)
 obtain⟨q1,q2,_⟩:=h8 j R _ hj hx
 obtain⟨c0,c1⟩:=rtCs_at Rs xs h4 j R _ hj hx
 obtain⟨hl3,h3⟩:=h3
 rcases h3 with⟨hv,h0⟩|⟨g,cap,cur,hv,hb,hg,h4',h5',h6',hcur⟩
 ·omega
 injection hv with hv
 have hlen:=rtCs_length Rs xs h4
 rw[←hcur]at c0 c1
 rw[List.getElem?_take_of_lt (by omega),Array.getElem?_toList]at c0 c1
 exact⟨g,0,xs[j].1.1,xs[j].1.2,hv,by simp[World.cell?,hg,c0],by simp[World.cell?,hg,c1],q1,q2⟩
theorem rNew_room (w:World) :
  Calls Tryz.prog 17 #[.agg #[.int .i64 1048576,.int .i64 0]] w fun e w'=>Below w.heap.size w w'∧∃ st N,e=.returned (.pointer (some ⟨st,0,none⟩))∧RSto N w' st 0 []∧(∀ k,N k→w.heap.size≤k):=by
 refine(rNew_any 1048576 0 w).mono fun e w' ⟨hb,st,he,hs,hc⟩=>⟨hb,st,(·=st),he,⟨⟨.slice none 0 0,.slice none 0 0,[],hc,⟨rfl,.inl ⟨rfl,rfl⟩⟩,⟨rfl,.inl ⟨rfl,rfl⟩⟩,rfl,by simp[Value.ownBlock],by simp[Value.ownBlock],by simp[Value.ownBlock],by simp,?_⟩,?_⟩,?_⟩
 ·rintro k (rfl|h|h)
  ·rfl
  ·simp[Value.ownBlock]at h
  simp[Value.ownBlock]at h
 ·rintro k rfl
  exact lt_of_heap hc
 rintro k rfl
 exact hs
abbrev LoadQ:Type:=Unit⊕(Unit⊕(Nat⊕List (List UInt8)))
def loadQ (Rs:List (ByteArray×List Int))(name:ByteArray)(ts hs:List Int)(rs:List (List V))(g:Int):LoadQ:=
 @ite _ (isTab name ts rs∧waysOk ts hs∧1≤g∧g≤64) (goodD name ts hs rs g)
  (if findR Rs name<Rs.length∨6≤Rs.length then .inr (.inl ())
  else match packF rs ts hs (cks rs.length g.toNat (ckN rs.length g.toNat))with
   |.inr c=>.inr (.inr (.inl c))
   |.inl T=>.inr (.inr (.inr T)))
  (.inl ())
def LoadQ.fault:LoadQ→Value
 |.inl _=>faultAt 1 (-1) (-1)
 |.inr (.inl _)=>faultAt 4 (-1) (-1)
 |.inr (.inr (.inl c))=>faultAt 2 (c:Int) (-1)
 |.inr (.inr (.inr _))=>faultAt 0 (-1) (-1)
def LoadQ.n (n:Nat):LoadQ→Nat
 |.inr (.inr (.inr T))=>n+totalP T
 |_=>n
def LoadQ.rs (Rs:List (ByteArray×List Int))(name:ByteArray)(ts:List Int):LoadQ→List (ByteArray×List Int)
 |.inr (.inr (.inr _))=>Rs++[(name,ts)]
 |_=>Rs
structure LoadLeft (D:DS) (Ts:List TS) (name:ByteArray) (ts:List Int) (rs:List (List V)) (E:DS) (Ts':List TS):Prop where
 quota:E.quota=1048576
 fail:E.fail=0
 writes0:0≤E.writes
 writes:E.writes+132000*(Ts.length:Int)≤D.writes+132000*(Ts'.length:Int)
 pages:E.pages.length+132000*Ts.length≤D.pages.length+132000*Ts'.length
 few:Ts.length≤6→Ts'.length≤6
 tabs:∀ T∈Ts',T∈Ts∨(T.types=ts∧isTab name ts rs)
theorem loadR_Q {D:DS}{Ts:List TS}{name:ByteArray}{ts hs:List Int}{rs:List (List V)}{g:Int}(hq:D.quota=1048576)(hf:D.fail=0)(hw0:0≤D.writes)(hw:D.writes≤1000000)(hp:Ts.length<6→D.pages.length≤660000) :
  (loadR D Ts name ts hs rs g).fault=(loadQ (Ts.map fun T=>(T.name,T.types)) name ts hs rs g).fault∧((loadR D Ts name ts hs rs g).ts Ts).map (fun T=>(T.name,T.types))=(loadQ (Ts.map fun T=>(T.name,T.types)) name ts hs rs g).rs (Ts.map fun T=>(T.name,T.types)) name ts∧LoadLeft D Ts name ts rs ((loadR D Ts name ts hs rs g).d D) ((loadR D Ts name ts hs rs g).ts Ts):=by
 have same:LoadLeft D Ts name ts rs D Ts:=⟨hq,hf,hw0,by omega,by omega,id,fun T h=>.inl h⟩
 unfold loadR loadQ
 rw[findR_map,List.length_map]
 split
 ·rename_i hgood
  split
  ·exact⟨rfl,rfl,same⟩
  rename_i hth
  rcases hX:packF rs ts hs (cks rs.length g.toNat (ckN rs.length g.toNat))with X|c
  ·obtain⟨p1,p2,p3,p4⟩:=packs_in hgood hX
   have hrl:rs.length≤200:=hgood.1.2.2.1
   have hpl:=hp (by omega)
   have hu:=usedOf_le D.pages
   have hwr:=layAll_writes X D hw0 (by omega)
   have hln:=layAll_len X D
   have hno:(layAll D X).2.2=none:=by
    cases hy:(layAll D X).2.2 with
    |none=>rfl
    |some y=>
     exfalso
     cases y with
     |true=>
      have:=(layAll_some X D true hy).2.2 rfl
      omega
     |false=>
      have:=hwr.2.1 hy
      omega
   have hl:=layAll_none X D hno
   simp only[hno]
   refine⟨rfl,?_,⟨hl.quota.trans hq,hl.fail.trans hf,?_,?_,?_,?_,?_⟩⟩
   ·simp[LoadR.ts,LoadQ.rs]
   ·have:=hwr.1.1
    show 0≤(layAll D X).1.writes
    omega
   ·have:=hwr.1.2
    show (layAll D X).1.writes+132000*(Ts.length:Int)≤D.writes+132000*((Ts++[_]).length:Int)
    rw[List.length_append]
    simp only[List.length_cons,List.length_nil]
    omega
   ·show (layAll D X).1.pages.length+132000*Ts.length≤D.pages.length+132000*(Ts++[_]).length
    rw[List.length_append]
    simp only[List.length_cons,List.length_nil]
    omega
   ·intro _
    show (Ts++[_]).length≤6
    rw[List.length_append]
    simp only[List.length_cons,List.length_nil]
    omega
   intro T hT
   rcases List.mem_append.1 (show T∈Ts++[_] from hT)with h|h
   ·exact .inl h
   rw[List.mem_singleton]at h
   subst h
   exact .inr ⟨rfl,hgood.1⟩
  exact⟨rfl,rfl,same⟩
 exact⟨rfl,rfl,same⟩
theorem loadQ_few {Rs:List (ByteArray×List Int)}{name:ByteArray}{ts hs:List Int}{rs:List (List V)}{g:Int}{n:Nat}(hn:n≤132000*Rs.length):(loadQ Rs name ts hs rs g).n n≤132000*((loadQ Rs name ts hs rs g).rs Rs name ts).length:=by
 unfold loadQ
 split
 ·rename_i hgood
  split
  ·exact hn
  rcases hX:packF rs ts hs (cks rs.length g.toNat (ckN rs.length g.toNat))with X|c
  ·obtain⟨p1,p2,p3,p4⟩:=packs_in hgood hX
   have hrl:rs.length≤200:=hgood.1.2.2.1
   show n+totalP X≤132000*(Rs++[_]).length
   rw[List.length_append]
   simp only[List.length_cons,List.length_nil]
   omega
  exact hn
 exact hn
end Go.Proofs.YtkgibdjakgmmcaaGreatDoor
