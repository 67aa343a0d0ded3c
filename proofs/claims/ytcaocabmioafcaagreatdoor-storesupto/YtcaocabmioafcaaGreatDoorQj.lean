/- The document's Load on any disk: copies, and pages written one after another. -/
import Derived.Test.YtcaocabmioafcaaGreatDoorQi
set_option maxHeartbeats 2000000
set_option maxRecDepth 100000
namespace Go.Proofs.YtcaocabmioafcaaGreatDoor
open Go.RowKit Go.Shelf Tryz
attribute [local go_sem] Oc0
theorem Qau (name:ByteArray)(L K bj:Nat)(ts:List Int)(X:Option Addr)(bi:Nat)(hs:List (Option Addr×Nat))(rs:List (List V))(w:World)(bT:Kc w (some ⟨L,K,none⟩) ts)(bU:1≤ts.length∧ts.length≤1000)(h:Zd w X hs rs)(cu:rs.length≤1000)(bR:∀ r∈rs,1≤r.length∧r.length≤1000) :
  Calls prog 66 #[.agg #[.string name,.slice (some ⟨L,K,none⟩) ts.length bj,.slice X rs.length bi]] w fun e w'=>∃ bD cB cc cA cv,e=.returned (.agg #[.string name,.slice bD ts.length cB,.slice cc rs.length cA])∧Kc w' bD ts∧TyI w' bD∧(∀ Z:World,w'.heap.size≤Z.heap.size→(∀ k,w.heap.size≤k→k<w'.heap.size→Z.heap[k]?=w'.heap[k]?)→Zd Z cc cv rs)∧Below w.heap.size w w'∧(∀ b o,bD=some ⟨b,o,none⟩→w.heap.size≤b∧b<w'.heap.size):=by
 have bB:Hid (Kc w (some ⟨L,K,none⟩) ts∧Zd w X hs rs∧(∀ r∈rs,1≤r.length∧r.length≤1000)∧1≤ts.length∧ts.length≤1000):=⟨bT,h,bR,bU⟩
 clear bT h bR bU
 go_enter func66,ntmps66
 go_upto_region 2 with fail
 obtain⟨W,hW⟩:∃ W,W=((w.alloc (.cells #[.string name,.slice (some ⟨L,K,none⟩) ts.length bj,.slice X rs.length bi] 30)).alloc (.cells #[.string ⟨#[]⟩,.slice none 0 0,.slice none 0 0] 30)).alloc (.cells #[.string name,.slice none 0 0,.slice none 0 0] 30):=⟨_,rfl⟩
 rw[←hW]
 have Y:Hid (Below w.heap.size w W∧w.heap.size=w.heap.size∧W.heap.size=w.heap.size+3∧W.heap[w.heap.size]?=some (.cells #[.string name,.slice (some ⟨L,K,none⟩) ts.length bj,.slice X rs.length bi] 30 (0,0))∧W.heap[w.heap.size+1]?=some (.cells #[.string ⟨#[]⟩,.slice none 0 0,.slice none 0 0] 30 (0,0))∧W.heap[w.heap.size+1+1]?=some (.cells #[.string name,.slice none 0 0,.slice none 0 0] 30 (0,0))):=by
  rw[hW]
  refine⟨(((Oa5 _ w).alloc (Oa2 _) _).alloc (by simp) _).alloc (by simp;omega) _,rfl,by simp,?_,?_,?_⟩
  ·rw[Oa9 _ _ _ (by simp;omega),Oa9 _ _ _ (by simp),heap_alloc_new]
  ·have bz:=heap_alloc_new (w.alloc (.cells #[.string name,.slice (some ⟨L,K,none⟩) ts.length bj,.slice X rs.length bi] 30)) (.cells #[.string ⟨#[]⟩,.slice none 0 0,.slice none 0 0] 30)
   rw[Oa7]at bz
   rw[Oa9 _ _ _ (by simp),bz]
  have bz:=heap_alloc_new ((w.alloc (.cells #[.string name,.slice (some ⟨L,K,none⟩) ts.length bj,.slice X rs.length bi] 30)).alloc (.cells #[.string ⟨#[]⟩,.slice none 0 0,.slice none 0 0] 30)) (.cells #[.string name,.slice none 0 0,.slice none 0 0] 30)
  rw[Oa7,Oa7]at bz
  exact bz
 clear hW
 have c1:W.cell? ⟨w.heap.size,1,none⟩=some (.slice (some ⟨L,K,none⟩) ts.length bj):=by simp[World.cell?,Y.out.2.2.2.1]
 have c2:W.cell? ⟨w.heap.size+1+1,1,none⟩=some (.slice none 0 0):=by simp[World.cell?,Y.out.2.2.2.2.2]
 have bL:Hid (∀ (j:Nat) u,(ts.map iv)[j]?=some u→W.cell? ((⟨L,K,none⟩:Addr).add j)=some u):=by
  have hi:Kc W (some ⟨L,K,none⟩) ts:=bB.out.1.below Y.out.1
  rcases hi with hi|⟨b,o,e,_,hi⟩
  ·intro j u bC
   rw[hi]at bC
   simp at bC
  cases e
  intro j u bC
  have:=hi j u bC
  cases j with
  |zero=>exact this
  |succ j=>simpa [Addr.add] using this
 have bE:Hid (∀ A,W.grownBy A none→A.frozen? ⟨w.heap.size+1+1,1,none⟩=false∧A.cell? ⟨w.heap.size+1+1,1,none⟩=some (.slice none 0 0)):=fun A J=>by
  have bf:A.heap[w.heap.size+1+1]?=W.heap[w.heap.size+1+1]?:=J.block _ (by rw[Y.out.2.2.1];omega) (by simp)
  exact⟨by simp[World.frozen?,bf,Y.out.2.2.2.2.2],by simp[World.cell?,bf,Y.out.2.2.2.2.2]⟩
 go_upto_region 3 with(at_builtin;go_must (refine Ks (by rfl) _ _ 27 3 _ 8 Zw (by rfl) (by decide) (by kernel_rfl) (by rfl) w.heap.size _ [] (by rfl) (Jo.nil _ _ _) ⟨L,K,none⟩ bj (ts.map iv) (by rw[Oa6];rfl) bL.out (by intro u bV;simp at bV;obtain⟨x,_,rfl⟩:=bV;rfl) (by have:=bB.out.2.2.2.2;simp;omega) (by have:=Y.out.2.2.1;omega) ?_);intro sv' bx bA bh ca;rw[List.nil_append]at bA;obtain⟨I,c5,br⟩:=Jcz bA;rw[Oa6]at br;subst br;have cC:=(bE.out bx bh).1;have cD:=(bE.out bx bh).2)
 obtain⟨A,ba⟩:∃ A,A=bx.setCell ⟨w.heap.size+1+1,1,none⟩ (.slice I ts.length c5):=⟨_,rfl⟩
 rw[←ba]
 have bk:Hid (Below w.heap.size w A∧w.heap.size+3≤A.heap.size∧A.heap[w.heap.size]?=some (.cells #[.string name,.slice (some ⟨L,K,none⟩) ts.length bj,.slice X rs.length bi] 30 (0,0))∧A.heap[w.heap.size+1]?=some (.cells #[.string ⟨#[]⟩,.slice none 0 0,.slice none 0 0] 30 (0,0))∧A.heap[w.heap.size+1+1]?=some (.cells #[.string name,.slice I ts.length c5,.slice none 0 0] 30 (0,0))∧Jo A w.heap.size 3 (.slice I ts.length c5) (ts.map iv)∧∀ b o,I=some ⟨b,o,none⟩→w.heap.size+3≤b∧b<A.heap.size):=by
  obtain⟨O,-,cj,bH,br,bN⟩:=Y.out
  have da:=bh.size
  have bf:∀ k,k<w.heap.size+3→bx.heap[k]?=W.heap[k]?:=fun k hk=>bh.block k (by omega) (by simp[Value.ownBlock])
  have bu:∀ k,k<w.heap.size+3→k≠w.heap.size+1+1→A.heap[k]?=W.heap[k]?:=fun k hk bJ=>by
   rw[ba,heap_setCell_other _ _ _ _ bJ,bf k hk]
  have cU:A.heap.size=bx.heap.size:=by rw[ba];simp[World.setCell]
  have bP:∀ g,(Value.slice I ts.length c5).ownBlock=some g→g=W.heap.size:=fun g J=>by
   rcases ca with q|q
   ·rw[q]at J
    simp[Value.ownBlock]at J
   rw[q]at J
   exact(Oj6 J).symm
  refine⟨⟨?_,?_,?_,by omega,fun k hk=>?_⟩,by omega,by rw[bu _ (by omega) (by omega)];exact bH,by rw[bu _ (by omega) (by omega)];exact br,?_,Jl bA fun g J=>?_,fun b o e=>?_⟩
  ·rw[ba];exact bh.os.trans O.os
  ·rw[ba];exact bh.tape.trans O.tape
  ·rw[ba];exact bh.output.trans O.output
  ·rw[bu k (by omega) (by omega)];exact O.block k hk
  ·rw[ba,heap_setCell_same bx _ 1 _ _ _ ((bf _ (by omega)).trans bN)]
   rfl
  ·rw[ba]
   refine heap_setCell_other _ _ _ _ ?_
   have:=bP g J
   show g≠w.heap.size+1+1
   omega
  rcases bA.2 with⟨q,_⟩|⟨g,cp,cf,q,_,cl,_⟩
  ·injection q with q
   rw[e]at q
   cases q
  have J:=bP g (by rw[q];rfl)
  injection q with q
  rw[e]at q
  injection q with q
  injection q with q
  have:=Jd cl
  omega
 clear bA bh ca cC cD ba bE bL c1 c2 Y
 have c3:A.cell? ⟨w.heap.size,2,none⟩=some (.slice X rs.length bi):=by simp[World.cell?,bk.out.2.2.1]
 have bO:=Kv0 X bi hs rs A (bB.out.2.1.below bk.out.1) cu bB.out.2.2.1
 have HZ:Hid (∀ H,Below A.heap.size A H→H.frozen? ⟨w.heap.size+1+1,2,none⟩=false∧H.cell? ⟨w.heap.size+1+1,2,none⟩=some (.slice none 0 0)):=fun H R=>by
  have bf:H.heap[w.heap.size+1+1]?=A.heap[w.heap.size+1+1]?:=R.block _ (by have:=bk.out.2.1;omega)
  exact⟨by simp[World.frozen?,bf,bk.out.2.2.2.2.1],by simp[World.cell?,bf,bk.out.2.2.2.2.1]⟩
 go_upto_region 4 with(go_at_call 78;refine bO.mono ?_;rintro e M ⟨bc,bl,bS,rfl,cb,U⟩;have cE:=(HZ.out M U).1;have cF:=(HZ.out M U).2)
 obtain⟨H,R⟩:∃ H,H=M.setCell ⟨w.heap.size+1+1,2,none⟩ (.slice bc rs.length bl):=⟨_,rfl⟩
 rw[←R]
 have N:Hid (Below w.heap.size w H∧A.heap.size≤H.heap.size∧H.heap[w.heap.size+1]?=some (.cells #[.string ⟨#[]⟩,.slice none 0 0,.slice none 0 0] 30 (0,0))∧H.heap[w.heap.size+1+1]?=some (.cells #[.string name,.slice I ts.length c5,.slice bc rs.length bl] 30 (0,0))∧(∀ k,w.heap.size+3≤k→k<M.heap.size→H.heap[k]?=M.heap[k]?)∧H.heap.size=M.heap.size):=by
  obtain⟨O,ci,cj,bH,br,bN,cS⟩:=bk.out
  have db:=U.size
  have bu:∀ k,k<A.heap.size→k≠w.heap.size+1+1→H.heap[k]?=A.heap[k]?:=fun k hk bJ=>by
   rw[R,heap_setCell_other _ _ _ _ bJ,U.block k hk]
  have cy:H.heap.size=M.heap.size:=by rw[R];simp[World.setCell]
  have bW:=O.size
  refine⟨⟨?_,?_,?_,by omega,fun k hk=>?_⟩,by omega,by rw[bu _ (by omega) (by omega)];exact bH,?_,fun k O ci=>?_,cy⟩
  ·rw[R];exact U.os.trans O.os
  ·rw[R];exact U.tape.trans O.tape
  ·rw[R];exact U.output.trans O.output
  ·rw[bu k (by omega) (by omega)];exact O.block k hk
  ·rw[R,heap_setCell_same M _ 2 _ _ _ ((U.block _ (by omega)).trans br)]
   rfl
  rw[R]
  exact heap_setCell_other _ _ _ _ (by show k≠w.heap.size+1+1;omega)
 have cJ:H.cell? ⟨w.heap.size+1+1,0,none⟩=some (.string name):=by simp[World.cell?,N.out.2.2.2.1]
 have cK:H.cell? ⟨w.heap.size+1+1,1,none⟩=some (.slice I ts.length c5):=by simp[World.cell?,N.out.2.2.2.1]
 have cL:H.cell? ⟨w.heap.size+1+1,2,none⟩=some (.slice bc rs.length bl):=by simp[World.cell?,N.out.2.2.2.1]
 have cM:H.cell? ⟨w.heap.size+1,0,none⟩=some (.string ⟨#[]⟩):=by simp[World.cell?,N.out.2.2.1]
 have cN:H.cell? ⟨w.heap.size+1,1,none⟩=some (.slice none 0 0):=by simp[World.cell?,N.out.2.2.1]
 have cO:H.cell? ⟨w.heap.size+1,2,none⟩=some (.slice none 0 0):=by simp[World.cell?,N.out.2.2.1]
 have cP:H.frozen? ⟨w.heap.size+1,0,none⟩=false:=by simp[World.frozen?,N.out.2.2.1]
 have cQ:H.frozen? ⟨w.heap.size+1,1,none⟩=false:=by simp[World.frozen?,N.out.2.2.1]
 have cR:H.frozen? ⟨w.heap.size+1,2,none⟩=false:=by simp[World.frozen?,N.out.2.2.1]
 have bG:Hid ((∀ Z:World,M.heap.size≤Z.heap.size→(∀ k,A.heap.size≤k→k<M.heap.size→Z.heap[k]?=M.heap[k]?)→Zd Z bc bS rs)∧Below A.heap.size A M):=⟨cb,U⟩
 clear cb U cE cF R bO HZ c3
 go_wp2
 obtain⟨bb,bn⟩:∃ bb,bb=(((H.setCell ⟨w.heap.size+1,0,none⟩ (.string name)).setCell ⟨w.heap.size+1,1,none⟩ (.slice I ts.length c5)).setCell ⟨w.heap.size+1,2,none⟩ (.slice bc rs.length bl)):=⟨_,rfl⟩
 rw[←bn]
 have bW:bb.heap[w.heap.size+1]?=some (.cells #[.string name,.slice I ts.length c5,.slice bc rs.length bl] 30 (0,0)):=by
  rw[bn,heap_setCell_same _ _ 2 _ _ _ (heap_setCell_same _ _ 1 _ _ _ (heap_setCell_same _ _ 0 _ _ _ N.out.2.2.1))]
  rfl
 have bK:∀ k,k≠w.heap.size+1→bb.heap[k]?=H.heap[k]?:=fun k hk=>by
  rw[bn,heap_setCell_other _ _ _ _ hk,heap_setCell_other _ _ _ _ hk,heap_setCell_other _ _ _ _ hk]
 have cW:bb.heap.size=H.heap.size:=by rw[bn];simp[World.setCell]
 obtain⟨k1,cX,-,cY,bX,cZ⟩:=N.out
 obtain⟨cz,m2,-,-,-,bY,bZ⟩:=bk.out
 have cV:=bG.out.2.size
 have bQ:Jo bb w.heap.size 3 (.slice I ts.length c5) (ts.map iv):=Jl bY fun g J=>by
  obtain⟨u1,u2⟩:w.heap.size+3≤g∧g<A.heap.size:=by
   cases I with
   |none=>simp[Value.ownBlock]at J
   |some cH=>
    rcases bY.2 with⟨q,_⟩|⟨bM,cp,cf,q,_⟩
    ·cases q
    injection q with q
    rw[q]at J
    obtain rfl:bM=g:=by simpa [Value.ownBlock] using J
    exact bZ bM 0 q
  rw[bK g (by omega),bX g u1 (by omega),bG.out.2.block g u2]
 obtain⟨cG,cI,bI,ck⟩:=bQ.cells
 injection bI with bI _ _
 subst bI
 have cn:Below w.heap.size w bb:=by
  refine⟨?_,?_,?_,by have:=k1.size;omega,fun k hk=>by rw[bK k (by omega)];exact k1.block k hk⟩
  ·rw[bn];exact k1.os
  ·rw[bn];exact k1.tape
  rw[bn];exact k1.output
 have cx:TyI bb I:=fun b o e=>by
  subst e
  exact Qb4 bQ b o rfl
 exact bodyPost_ret (v:=.agg #[.string name,.slice I ts.length c5,.slice bc rs.length bl]) (by simp[results,results66,go_sem,World.cell?,bW]) rfl ⟨I,c5,bc,bl,bS,rfl,ck,cx,(fun Z cT hk=>bG.out.1 Z (by omega) fun k u1 u2=>by rw[hk k (by have:=cz.size;omega) (by omega),bK k (by omega),bX k (by omega) u2]),cn,fun b o e=>by have:=bZ b o e;omega⟩
structure Ktt (Y:World) (st xb:Nat) (sv0 tv tyv rwv:Value) (name:ByteArray) (q f k:Int) (P:List RP) (sv pv:Value) (pl:List Nat) (W:World):Prop where
 store:W.heap[st]?=some (.cells #[.int .i64 q,.int .i64 f,.int .i64 k,sv,tv] 83 (0,0))
 own:Krz W sv P
 ne:sv.ownBlock≠some st∧sv.ownBlock≠some xb
 old:∀ g,sv.ownBlock=some g→sv0.ownBlock=some g∨Y.heap.size≤g
 tab:W.heap[xb]?=some (.cells #[.string name,tyv,rwv,pv] 113 (0,0))
 pages:Jo W Y.heap.size 3 pv (pl.map nv)
 apart:∀ g,pv.ownBlock=some g→sv.ownBlock≠some g
 keep:Ju (fun x=>x=st∨sv0.ownBlock=some x∨x=xb) Y W
 lt:st<Y.heap.size∧xb<Y.heap.size∧st≠xb
section
variable {Y:World} {st xb:Nat} {sv0 tv tyv rwv:Value} {name:ByteArray} {q f k k':Int} {P P':List RP} {sv pv:Value} {pl:List Nat} {W W':World}
theorem Ktt.wrote (h:Ktt Y st xb sv0 tv tyv rwv name q f k P sv pv pl W)(hw:WrP W st q f sv tv k' P' W'):∃ sv',Ktt Y st xb sv0 tv tyv rwv name q f k' P' sv' pv pl W':=by
 obtain⟨⟨sv',K,L,M⟩,I⟩:=hw
 have U:=h.keep.size
 obtain⟨X,Z,R⟩:=h.lt
 have H:∀ g,sv'.ownBlock=some g→sv.ownBlock=some g∨W.heap.size≤g:=fun g A=>by
  rcases M with q|⟨x,q,O⟩
  ·exact .inl (q▸A)
  rw[q]at A
  cases A
  exact .inr O
 have J:∀ g,pv.ownBlock=some g→Y.heap.size≤g∧g<W.heap.size:=fun g A=>Je h.pages A
 refine⟨sv',K,L,⟨fun e=>?_,fun e=>?_⟩,fun g A=>?_,?_,Jl h.pages fun g A=>?_,fun g A e=>?_,?_,h.lt⟩
 ·rcases H _ e with q|q
  ·exact h.ne.1 q
  omega
 ·rcases H _ e with q|q
  ·exact h.ne.2 q
  omega
 ·rcases H _ A with q|q
  ·exact h.old g q
  exact .inr (by omega)
 ·rw[I.block xb (by omega) fun e=>e.elim (fun q=>R q.symm) h.ne.2]
  exact h.tab
 ·have:=J g A
  exact I.block g this.2 fun e=>e.elim (fun q=>by omega) (h.apart g A)
 ·have:=J g A
  rcases H _ e with q|q
  ·exact h.apart g A q
  omega
 exact h.keep.trans' I fun i hi N=>N.elim .inl fun q=>(h.old i q).elim (fun a=>.inr (.inl a)) fun a=>by omega
theorem Ktt.paged {H:Value}{x:Nat}{o:Obj}{w4:World}(h:Ktt Y st xb sv0 tv tyv rwv name q f k P sv pv pl W)(ba:Jo w4 Y.heap.size 3 H (pl.map nv++[nv x]))(I:(W.alloc o).grownBy w4 pv.ownBlock)(bb:H.ownBlock=pv.ownBlock∨H.ownBlock=some (W.alloc o).heap.size):Ktt Y st xb sv0 tv tyv rwv name q f k P sv H (pl++[x]) (w4.setCell ⟨xb,3,none⟩ H):=by
 have bh:=h.keep.size
 obtain⟨bi,bj,Z⟩:=h.lt
 have L:∀ g,pv.ownBlock=some g→Y.heap.size≤g∧g<W.heap.size:=fun g A=>Je h.pages A
 have bf:(W.alloc o).heap.size=W.heap.size+1:=Oa7 W o
 have M:∀ g,H.ownBlock=some g→pv.ownBlock=some g∨g=W.heap.size+1:=fun g A=>by
  rcases bb with q|q
  ·exact .inl (q▸A)
  rw[q]at A
  cases A
  exact .inr (by omega)
 have hk:∀ k,k<W.heap.size→pv.ownBlock≠some k→w4.heap[k]?=W.heap[k]?:=fun k hk J=>(I.block k (by omega) fun e=>J e.symm).trans (Oa9 _ _ _ hk)
 have K:∀ k,k≠xb→(w4.setCell ⟨xb,3,none⟩ H).heap[k]?=w4.heap[k]?:=fun k hk=>Oa4 _ _ _ _ hk
 have N:pv.ownBlock≠some xb:=fun e=>by have:=L _ e;omega
 have U:pv.ownBlock≠some st:=fun e=>by have:=L _ e;omega
 have bk:=I.size
 have bc:(w4.setCell ⟨xb,3,none⟩ H).heap.size=w4.heap.size:=by simp[World.setCell]
 refine⟨?_,h.own.of_block fun g A=>?_,h.ne,h.old,?_,?_,fun g A e=>?_,?_,h.lt⟩
 ·rw[K st Z,hk st (by omega) U]
  exact h.store
 ·have O:=(Je h.own.own A).2
  rw[K g fun e=>h.ne.2 (e▸A),hk g O fun e=>h.apart g e A]
 ·have:=Jk ((hk xb (by omega) N).trans h.tab) 3 H
  rw[this]
  simp
 ·rw[Ob8]
  refine Jl ba fun g A=>K g fun e=>?_
  rcases M g A with q|q
  ·exact N (e▸q)
  omega
 ·rcases M g A with q|q
  ·exact h.apart g q e
  have:=(Je h.own.own e).2
  omega
 refine h.keep.trans' (G:=fun x=>x=xb∨pv.ownBlock=some x) ⟨I.os,I.tape,I.output,by rw[bc];omega,fun k R J=>?_⟩ fun i hi X=>X.elim (fun a=>.inr (.inr a)) fun a=>by have:=L i a;omega
 rw[K k fun e=>J (.inl e),hk k R fun e=>J (.inr e)]
structure Qb8 (N F:Nat→Prop) (w Y:World) (st:Nat) (q f k:Int) (P:List RP) (Rs:List RTb) (sv0 tv:Value) (cs:List (List Value)) (lo xb:Nat):Prop where
 x:Ksz F w st q f k P Rs sv0 tv cs
 n:∀ i,i=st∨sv0.ownBlock=some i∨tv.ownBlock=some i∨F i→N i
 lt:∀ i,N i→i<w.heap.size
 b:Below w.heap.size w Y
 low:w.heap.size+2≤lo
 high:lo≤xb∧xb<Y.heap.size
theorem Ktt.undone {N F:Nat→Prop}{w:World}{k0:Int}{bn:List RP}{Rs:List RTb}{cs:List (List Value)}{bD:Nat}(h:Ktt Y st xb sv0 tv tyv rwv name q f k P sv pv pl W)(bB:Qb8 N F w Y st q f k0 bn Rs sv0 tv cs bD xb){bf:List RP}{bc L:World}(bu:Krz bc sv bf)(M:Ju (fun x=>sv.ownBlock=some x) W bc)(K:Ju (fun i=>i=w.heap.size+1) bc L) :
  Ju N w L∧∃ ba:Nat→Prop,RSt ba L st q f k bf Rs∧(∀ i,N i→ba i)∧∀ i,ba i→N i∨w.heap.size≤i:=by
 obtain⟨I,H,X,U,bE,bH⟩:=bB
 have bI:=U.size
 have bJ:=h.keep.size
 have bK:=M.size
 have bL:=K.size
 have Z:∀ g,sv.ownBlock=some g→sv0.ownBlock=some g∨Y.heap.size≤g:=h.old
 have bj:∀ g,sv.ownBlock=some g→g<W.heap.size:=fun g A=>(Je h.own.own A).2
 have bb:∀ i,i<w.heap.size→i≠st→sv0.ownBlock≠some i→L.heap[i]?=w.heap[i]?:=fun i hi n1 bl=>by
  rw[K.block i (by omega) (by omega),M.block i (by omega) fun e=>(Z i e).elim bl fun a=>by omega,h.keep.block i (by omega) fun e=>e.elim n1 fun e=>e.elim bl fun e=>by omega]
  exact U.block i hi
 have bG:st<w.heap.size:=X st (H st (.inl rfl))
 have bC:L.heap[st]?=some (.cells #[.int .i64 q,.int .i64 f,.int .i64 k,sv,tv] 83 (0,0)):=by
  rw[K.block st (by omega) (by omega),M.block st (by omega) h.ne.1]
  exact h.store
 have bk:∀ g,tv.ownBlock=some g→g<w.heap.size∧g≠st∧sv0.ownBlock≠some g:=fun g A=>⟨X g (H g (.inr (.inr (.inl A)))),fun e=>I.st_.2.2 (e▸A),fun e=>(I.sv_ g e).2 A⟩
 have bh:∀ g,F g→g<w.heap.size∧g≠st∧sv0.ownBlock≠some g:=fun g A=>⟨X g (H g (.inr (.inr (.inr A)))),fun e=>I.st_.1 (e▸A),fun e=>(I.sv_ g e).1 A⟩
 refine⟨⟨K.os.trans (M.os.trans (h.keep.os.trans U.os)),K.tape.trans (M.tape.trans (h.keep.tape.trans U.tape)),K.output.trans (M.output.trans (h.keep.output.trans U.output)),by omega,fun i hi bi=>bb i hi (fun e=>bi (H i (.inl e))) fun e=>bi (H i (.inr (.inl e)))⟩,fun i=>N i∨(w.heap.size≤i∧i<L.heap.size),⟨⟨F,sv,tv,cs,⟨bC,bu.of_block fun g A=>?_,Jl I.own fun g A=>?_,I.len,fun j br c bx bz=>?_,⟨I.st_.1,h.ne.1,I.st_.2.2⟩,fun g A=>?_,I.tv_⟩,fun i hi=>?_⟩,fun i hi=>hi.elim (fun a=>by have:=X i a;omega) fun a=>a.2⟩,fun i hi=>.inl hi,fun i hi=>hi.imp_right fun a=>a.1⟩
 ·have:=bj g A
  refine K.block g (by omega) fun e=>?_
  rcases Z g A with a|a
  ·have:=X g (H g (.inr (.inl a)));omega
  omega
 ·obtain⟨O,R,J⟩:=bk g A
  exact bb g O R J
 ·exact(I.tabs j br c bx bz).stands (by omega) (fun i hi=>by obtain⟨O,R,J⟩:=bh i hi;exact bb i O R J) fun _ a=>a
 ·refine⟨fun bA=>?_,fun e=>?_⟩
  ·obtain⟨O,R,J⟩:=bh g bA
   rcases Z g A with a|a
   ·exact J a
   omega
  obtain⟨O,R,J⟩:=bk g e
  rcases Z g A with a|a
  ·exact J a
  omega
 rcases hi with e|e|e|e
 ·exact .inl (H i (.inl e))
 ·rcases Z i e with a|a
  ·exact .inl (H i (.inr (.inl a)))
  have:=bj i e
  exact .inr ⟨by omega,by omega⟩
 ·exact .inl (H i (.inr (.inr (.inl e))))
 exact .inl (H i (.inr (.inr (.inr e))))
theorem Ktt.done {X F:Nat→Prop}{w:World}{k0:Int}{bN:List RP}{Rs:List RTb}{cs:List (List Value)}{br:Nat}{ts:List Int}{rs:List (List V)}{U bh:Option Addr}{bx bu:Nat}{hs:List (Option Addr×Nat)}{o:Obj}{K:Value}{w4:World}(h:Ktt Y st xb sv0 tv (.slice U ts.length bx) (.slice bh rs.length bu) name q f k P sv pv pl W)(bY:Qb8 X F w Y st q f k0 bN Rs sv0 tv cs br xb)
  (bZ:∀ L:World,Y.heap.size≤L.heap.size→(∀ i,br≤i→i<xb→L.heap[i]?=Y.heap[i]?)→Kc L U ts∧TyI L U∧Zd L bh hs rs)
  (bM:w4.ownsRow 0 113 4 K (Rs.length+1) (cs.flatMap id++[.string name,.slice U ts.length bx,.slice bh rs.length bu,pv])) (R:(W.alloc o).grownBy w4 tv.ownBlock) (cb:K.ownBlock=tv.ownBlock∨K.ownBlock=some (W.alloc o).heap.size) {J:World} (M:Ju (fun i=>i=w.heap.size+1) (w4.setCell ⟨st,4,none⟩ K) J) :
  Ju X w J∧∃ bz:Nat→Prop,RSt bz J st q f k P (Rs++[⟨name,ts,rs,pl⟩])∧(∀ i,X i→bz i)∧∀ i,bz i→X i∨w.heap.size≤i:=by
 obtain⟨H,I,N,bb,cu,cy⟩:=bY
 have cA:=bb.size
 have cB:=h.keep.size
 have cC:=R.size
 have cx:(W.alloc o).heap.size=W.heap.size+1:=Oa7 W o
 have cD:(w4.setCell ⟨st,4,none⟩ K).heap.size=w4.heap.size:=by simp[World.setCell]
 have cE:=M.size
 have cv:st<w.heap.size:=N st (I st (.inl rfl))
 have bE:∀ g,sv.ownBlock=some g→g<W.heap.size:=fun g A=>(Je h.own.own A).2
 have O:∀ g,tv.ownBlock=some g→g<w.heap.size:=fun g A=>N g (I g (.inr (.inr (.inl A))))
 have bD:∀ g,sv0.ownBlock=some g→g<w.heap.size:=fun g A=>N g (I g (.inr (.inl A)))
 have bk:∀ g,pv.ownBlock=some g→Y.heap.size≤g∧g<W.heap.size:=fun g A=>Je h.pages A
 have bf:∀ g,K.ownBlock=some g→tv.ownBlock=some g∨g=W.heap.size+1:=fun g A=>by
  rcases cb with q|q
  ·exact .inl (q▸A)
  rw[q]at A
  cases A
  exact .inr (by omega)
 have hk:∀ i,i<W.heap.size→tv.ownBlock≠some i→i≠st→i≠w.heap.size+1→J.heap[i]?=W.heap[i]?:=fun i hi n1 bG bH=>by
  rw[M.block i (by omega) bH,Oa4 _ _ _ _ bG,R.block i (by omega) fun e=>n1 e.symm,Oa9 _ _ _ hi]
 have bL:∀ i,i<w.heap.size→i≠st→sv0.ownBlock≠some i→tv.ownBlock≠some i→J.heap[i]?=w.heap[i]?:=fun i hi n1 bG bH=>by
  rw[hk i (by omega) bH n1 (by omega),h.keep.block i (by omega) fun e=>e.elim n1 fun e=>e.elim bG fun e=>by omega]
  exact bb.block i hi
 have ca:J.heap[st]?=some (.cells #[.int .i64 q,.int .i64 f,.int .i64 k,sv,K] 83 (0,0)):=by
  have bS:w4.heap[st]?=some (.cells #[.int .i64 q,.int .i64 f,.int .i64 k,sv,tv] 83 (0,0)):=by
   rw[R.block st (by omega) fun e=>H.st_.2.2 e.symm,Oa9 _ _ _ (by omega)]
   exact h.store
  rw[M.block st (by omega) (by omega),heap_setCell_same w4 st 4 _ _ _ bS]
  rfl
 have bn:∀ g,K.ownBlock=some g→g<w4.heap.size∧g≠st∧g≠w.heap.size+1∧(∀ e,sv.ownBlock=some e→e≠g):=fun g A=>by
  have h0:=(Je bM A).2
  rcases bf g A with a|a
  ·have:=O g a
   refine⟨h0,fun e=>H.st_.2.2 (e▸a),by omega,fun e bB bJ=>?_⟩
   subst bJ
   rcases h.old e bB with b|b
   ·exact(H.sv_ e b).2 a
   omega
  refine⟨h0,by omega,by omega,fun e bB bJ=>?_⟩
  have:=bE e bB
  omega
 -- the new table's blocks
 refine⟨⟨M.os.trans (R.os.trans (h.keep.os.trans bb.os)),M.tape.trans (R.tape.trans (h.keep.tape.trans bb.tape)),M.output.trans (R.output.trans (h.keep.output.trans bb.output)),by omega,fun i hi bC=>bL i hi (fun e=>bC (I i (.inl e))) (fun e=>bC (I i (.inr (.inl e)))) fun e=>bC (I i (.inr (.inr (.inl e))))⟩,fun i=>X i∨(w.heap.size≤i∧i<J.heap.size),⟨⟨fun i=>F i∨(br≤i∧i<xb)∨pv.ownBlock=some i,sv,K,cs++[[.string name,.slice U ts.length bx,.slice bh rs.length bu,pv]],⟨ca,h.own.of_block fun g A=>?_,?_,by simp[H.len],fun j bO c ba bj=>?_,⟨fun bc=>?_,h.ne.1,fun e=>(bn st e).2.1 rfl⟩,fun g A=>⟨fun bc=>?_,fun e=>(bn g e).2.2.2 g A rfl⟩,fun g A bc=>?_⟩,fun i hi=>?_⟩,fun i hi=>hi.elim (fun a=>by have:=N i a;omega) fun a=>a.2⟩,fun i hi=>.inl hi,fun i hi=>hi.imp_right fun a=>a.1⟩
 ·refine hk g (bE g A) (fun e=>?_) (fun e=>h.ne.1 (e▸A)) fun e=>?_
  ·rcases h.old g A with a|a
   ·exact(H.sv_ g a).2 e
   have:=O g e;omega
  rcases h.old g A with a|a
  ·have:=bD g a;omega
  omega
 ·rw[Oa8,Oe8]
  refine Jl (w:=w4) ?_ fun g A=>?_
  ·simpa using bM
  obtain⟨cj,bP,bQ,_⟩:=bn g A
  rw[M.block g (by omega) bQ,Oa4 _ _ _ _ bP]
 ·have bT:∀ i,F i→J.heap[i]?=w.heap[i]?:=fun i hi=>bL i (N i (I i (.inr (.inr (.inr hi))))) (fun e=>H.st_.1 (e▸hi)) (fun e=>(H.sv_ i e).1 hi) fun e=>H.tv_ i e hi
  by_cases bK:j<Rs.length
  ·rw[Ob0 bK]at ba
   rw[Ob0 (by rw[H.len];exact bK)]at bj
   exact(H.tabs j bO c ba bj).stands (by omega) bT fun _ a=>.inl a
  have bW:j=Rs.length:=by
   have:=(Ob9.1 ba).1
   rw[Oa8]at this
   simp only[List.length_cons,List.length_nil]at this
   omega
  subst bW
  rw[Ob6 (Oa2 _),Oe1]at ba
  rw[Ob6 (by rw[H.len];exact Oa2 _),H.len,Oe1]at bj
  cases ba
  cases bj
  obtain⟨bR,cp,bl⟩:=Jcz h.pages
  rw[Oa6]at bl
  have bV:∀ i,br≤i→i<xb→J.heap[i]?=Y.heap[i]?:=fun i Z bA=>by
   rw[hk i (by omega) (fun e=>by have:=O i e;omega) (by omega) (by omega),h.keep.block i (by omega) fun e=>e.elim (fun a=>by omega) fun e=>e.elim (fun a=>by have:=bD i a;omega) fun a=>by omega]
  refine⟨U,bx,bh,bu,hs,bR,cp,by rw[bl],fun b cz e=>.inr (.inr ?_),fun L cn bI=>?_⟩
  ·rw[bl,e]
   rfl
  obtain⟨cc,cf,ci⟩:=bZ L (by omega) fun i Z bA=>(bI i (.inr (.inl ⟨Z,bA⟩))).trans (bV i Z bA)
  refine⟨cc,cf,ci,?_⟩
  have bX:Jo L Y.heap.size 3 pv (pl.map nv):=Jl h.pages fun g A=>by
   have Z:=bk g A
   rw[bI g (.inr (.inr A)),hk g Z.2 (fun e=>by have:=O g e;omega) (by omega) (by omega)]
  obtain⟨ck,cl,bi,bU⟩:=bX.cells
  rw[bl]at bi
  injection bi with bi _ _
  rw[bi]
  exact bU
 ·rcases bc with a|a|a
  ·exact H.st_.1 a
  ·omega
  have:=bk st a;omega
 ·rcases bc with a|a|a
  ·rcases h.old g A with b|b
   ·exact(H.sv_ g b).1 a
   have:=N g (I g (.inr (.inr (.inr a))));omega
  ·rcases h.old g A with b|b
   ·have:=bD g b;omega
   omega
  exact h.apart g a A
 ·rcases bc with a|a|a
  ·rcases bf g A with b|b
   ·exact H.tv_ g b a
   have:=N g (I g (.inr (.inr (.inr a))));omega
  ·rcases bf g A with b|b
   ·have:=O g b;omega
   omega
  have:=bk g a
  rcases bf g A with b|b
  ·have:=O g b;omega
  omega
 rcases hi with e|e|e|e|e|e
 ·exact .inl (I i (.inl e))
 ·rcases h.old i e with a|a
  ·exact .inl (I i (.inr (.inl a)))
  have:=bE i e
  exact .inr ⟨by omega,by omega⟩
 ·have:=bn i e
  rcases bf i e with a|a
  ·exact .inl (I i (.inr (.inr (.inl a))))
  exact .inr ⟨by omega,by omega⟩
 ·exact .inl (I i (.inr (.inr (.inr e))))
 ·exact .inr ⟨by omega,by omega⟩
 have:=bk i e
 exact .inr ⟨by omega,by omega⟩
end
end Go.Proofs.YtcaocabmioafcaaGreatDoor
