/- Plans that are right: the schemas of all nodes. -/
import Derived.Test.YtdlgbphkaicfaaaGreatDoorXv
set_option maxHeartbeats 4000000
set_option maxRecDepth 100000
namespace Go.Proofs.YtdlgbphkaicfaaaGreatDoor
open Go.RowKit Go.Shelf Tryz
attribute [local go_sem] Oc0
theorem Jrx (g cap n:Nat)(w:World)(hn:n≤1000)(D:∀ i,i<n→∃ s:Sch,w.cell? ⟨g,i*2,none⟩=some (Jbl s)∧w.cell? ⟨g,i*2+1,none⟩=some (.bool true)) :
  Calls prog 51 #[.slice (some ⟨g,0,none⟩) n cap,.func (.func 52) #[] #[]] w fun e w'=>e=.returned (.int .i64 (-1))∧Below w.heap.size w w':=by
 have H:Hid _:=D
 clear D
 go_enter func51,ntmps51
 go_wp2
 go_loopw [8] (fun i wr=>∃ k:Nat,k≤n∧i=.int .i64 k∧Below w.heap.size w wr) (fun i _=>n-(intOf i).toNat)
 case atStart=>exact⟨0,Ob7 _,rfl,Oa5 _ _⟩
 case round=>
  obtain⟨k,D,rfl,y⟩:=hrel
  by_cases E:k<n
  ·obtain⟨s,c0,c1⟩:=H.out k E
   have K:=Ja y c0
   have M:=Ja y c1
   have A:Hid (k<n):=E
   go_wp2
   go_roundw
   case rel=>exact⟨k+1,A.out,by have:=A.out;go_num,Jc y _⟩
   case measure=>have:=A.out;simp[intOf];omega
  go_wp2
  exact bodyPost_ret (v:=.int .i64 (-1)) (by simp[results,results51,go_sem]) rfl ⟨rfl,y⟩
structure Kh1 (scs:List (List Int)) (fl:Nat→Bool) (j:Nat) (ks:List Kn):Prop where
 len:ks.length=j
 sch:∀ (i:Nat) (k:Kn),ks[i]?=some k→scs[i]?=some k.1.2.2
 flg:∀ (i:Nat) (k:Kn),ks[i]?=some k→k.2=fl i
structure Jrm (w:World) (tf nv0:Value) (scs:List (List Int)) (fl:Nat→Nat→Bool) (j:Nat) (ev sv:Value) (ks:List Kn) (W:World):Prop where
 chk:Jed (w.heap.size+2) (w.heap.size+1) tf ev ks W
 kso:Kh1 scs (fl j) j ks
 own:Jo W (w.heap.size+2) 22 sv (ks.map fun k=>Jbl k.1)
 sep:∀ g,sv.ownBlock=some g→ev.ownBlock≠some g
 off:∀ k∈ks,∀ g o,k.1.1=some ⟨g,o,none⟩→sv.ownBlock≠some g
 plan:W.heap[w.heap.size]?=some (.cells #[nv0] 51 (0,0))
 low:Below w.heap.size w W
def Jvz (w:World)(E:Value)(D:List (List Int))(A:Nat→Nat→Bool)(nd:Nd)(j:Nat):Prop:=
 0≤nd.op∧nd.op≤7∧∃ sch,D[j]?=some sch∧∀ W ev ks,Below w.heap.size w W→(∀ g,ev.ownBlock=some g→w.heap.size≤g)→Jed (w.heap.size+2) (w.heap.size+1) E ev ks W→Kh1 D (A j) j ks →
  Calls prog (Jm5 nd.op) #[.pointer (some ⟨w.heap.size+1,0,none⟩),nd.val] W fun e W'=>∃ y,y.map (·.1)=ks.map (·.1)∧(∀ (i:Nat) (k:Kn),y[i]?=some k→k.2=A (j+1) i)∧Jq3 (w.heap.size+2) (w.heap.size+1) E ev y sch W e W'
theorem Jw8:(prog.info? 141).map (fun i=>(i.zero,i.size,i.bytes))=some (some (.agg #[.slice none 0 0,.bool false]),2,32):=by kernel_rfl
structure Jyq (w:World) (tf nv0:Value) (scs:List (List Int)) (fl:Nat→Nat→Bool) (j:Nat) (ev sv:Value) (ks:List Kn) (a:Option Addr) (c:Nat) (sch:List Int) (W:World):Prop where
 chk:Jed (w.heap.size+2) (w.heap.size+1) tf ev ks W
 len:ks.length=j
 sch1:∀ (i:Nat) (k:Kn),ks[i]?=some k→scs[i]?=some k.1.2.2
 sch2:scs[j]?=some sch
 flg:∀ (i:Nat) (k:Kn),ks[i]?=some k→k.2=fl (j+1) i
 own:Jo W (w.heap.size+2) 22 sv (ks.map fun k=>Jbl k.1)
 sep:∀ g,sv.ownBlock=some g→ev.ownBlock≠some g
 off:∀ k∈ks,∀ g o,k.1.1=some ⟨g,o,none⟩→sv.ownBlock≠some g
 ints:Kc W a sch
 aoff:∀ g o,a=some ⟨g,o,none⟩→ev.ownBlock≠some g∧g≠w.heap.size+1∧g<W.heap.size∧sv.ownBlock≠some g
 plan:W.heap[w.heap.size]?=some (.cells #[nv0] 51 (0,0))
 low:Below w.heap.size w W
theorem Jrm.node {w:World}{R bf:Value}{O:List (List Int)}{K:Nat→Nat→Bool}{j:Nat}{ev sv:Value}{ks D:List Kn}{W H W':World}{sch:List Int}(h:Jrm w R bf O K j ev sv ks W)(Z:Below W.heap.size W H)(E:D.map (·.1)=ks.map (·.1))(hf:∀ (i:Nat) (k:Kn),D[i]?=some k→k.2=K (j+1) i)(hs:O[j]?=some sch){a:Option Addr}{c:Nat}
  (bk:Jed (w.heap.size+2) (w.heap.size+1) R ev D W') (bl:H.grownBy W' ev.ownBlock) (hi:Kc W' a sch) (bu:∀ g o,a=some ⟨g,o,none⟩→ev.ownBlock≠some g∧g≠w.heap.size+1∧g<W'.heap.size∧(H.heap.size≤g∨∃ k∈D,k.1.1=some ⟨g,o,none⟩)):Jyq w R bf O K j ev sv D a c sch W':=by
 have M:=Ut (Qq Z) bl
 have bb:∀ k∈D,∃ A∈ks,k.1=A.1:=fun k y=>by
  have:k.1∈ks.map (·.1):=by rw[←E];exact List.mem_map_of_mem y
  obtain⟨A,h1,h2⟩:=Of0.1 this
  exact⟨A,h1,h2.symm⟩
 have bn:D.length=ks.length:=by have:=congrArg List.length E;simpa using this
 have br:D.map (fun k=>Jbl k.1)=ks.map fun k=>Jbl k.1:=by
  have:=congrArg (List.map Jbl) E
  rw[Oi6,Oi6]at this
  exact this
 have ba:∀ g,ev.ownBlock=some g→w.heap.size+2≤g:=fun g e=>(Je h.chk.own e).1
 refine⟨bk,bn.trans h.kso.len,fun i k y=>?_,hs,hf,?_,h.sep,fun k y g o e=>?_,hi,fun g o e=>?_,?_,?_⟩
 ·have:(ks.map (·.1))[i]?=some k.1:=by rw[←E,Ob1,y];rfl
  rw[Ob1,Oe9]at this
  obtain⟨A,h1,h2⟩:=this
  rw[←h2]
  exact h.kso.sch i A h1
 ·unfold Jo
  rw[br]
  exact Jl h.own fun g e=>M.block g (Je h.own e).2 (Oc5 (h.sep g e))
 ·obtain⟨A,h1,h2⟩:=bb k y
  rw[h2]at e
  exact h.off A h1 g o e
 ·obtain⟨h1,h2,bh,X⟩:=bu g o e
  refine⟨h1,h2,bh,fun U=>?_⟩
  rcases X with X|⟨k,y,bc⟩
  ·have:=(Je h.own U).2
   have:=Z.size
   omega
  obtain⟨A,bi,bj⟩:=bb k y
  rw[bj]at bc
  exact h.off A bi g o bc U
 ·rw[M.block _ (Jd h.plan) (fun e=>by have:=ba _ e.symm;omega)]
  exact h.plan
 exact Jy h.low M fun k y=>by have:=ba k y;omega
theorem Jyq.done {w:World}{bl bD:Value}{bG:List (List Int)}{X:Nat→Nat→Bool}{j:Nat}{ev ev' sv sv':Value}{ks:List Kn}{a:Option Addr}{c:Nat}{sch:List Int}{W w4 D:World}(h:Jyq w bl bD bG X j ev sv ks a c sch W)(bK:X (j+1) j=false)(bh bi:Obj)
  (bE:w4.ownsRow (w.heap.size+2) 141 2 ev' (ks.length+1) (ks.flatMap knC++[Jbl (a,c,sch),.bool false])) (bk:(W.alloc bh).grownBy w4 ev.ownBlock) (K:ev'.ownBlock=ev.ownBlock∨ev'.ownBlock=some (W.alloc bh).heap.size)
  (bL:Jo D (w.heap.size+2) 22 sv' ((ks.map fun k=>Jbl k.1)++[Jbl (a,c,sch)])) (M:((w4.setCell ⟨w.heap.size+1,1,none⟩ ev').alloc bi).grownBy D sv.ownBlock) (O:sv'.ownBlock=sv.ownBlock∨sv'.ownBlock=some ((w4.setCell ⟨w.heap.size+1,1,none⟩ ev').alloc bi).heap.size) :
  Jrm w bl bD bG X (j+1) ev' sv' (ks++[((a,c,sch),false)]) D:=by
 have R:∀ g,ev.ownBlock=some g→w.heap.size+2≤g∧g<W.heap.size:=fun g e=>Je h.chk.own e
 have E:∀ g,sv.ownBlock=some g→w.heap.size+2≤g∧g<W.heap.size:=fun g e=>Je h.own e
 have U:∀ g,ev'.ownBlock=some g→w.heap.size+2≤g∧g<w4.heap.size:=fun g e=>Je bE e
 have bM:=bk.size
 have bH:=M.size
 rw[Oa7]at bM bH K O
 have H:(w4.setCell ⟨w.heap.size+1,1,none⟩ ev').heap.size=w4.heap.size:=by simp[World.setCell]
 rw[H]at bH O
 have bn:∀ k,k<W.heap.size→ev.ownBlock≠some k→w4.heap[k]?=W.heap[k]?:=fun k h1 h2=>(bk.block k (by rw[Oa7];omega) (Oc5 h2)).trans (Oa9 _ _ _ h1)
 have br:∀ k,k<w4.heap.size→k≠w.heap.size+1→sv.ownBlock≠some k→D.heap[k]?=w4.heap[k]?:=fun k h1 h2 Z=>(M.block k (by rw[Oa7,H];omega) (Oc5 Z)).trans ((Oa9 _ _ _ (by rw[H];exact h1)).trans (Oa4 _ _ _ _ h2))
 have bu:∀ k,k<W.heap.size→ev.ownBlock≠some k→k≠w.heap.size+1→sv.ownBlock≠some k→D.heap[k]?=W.heap[k]?:=fun k h1 h2 Z ba=>(br k (by omega) Z ba).trans (bn k h1 h2)
 have bb:w4.heap[w.heap.size+1]?=_:=(bn _ (Jd h.chk.ck) (fun e=>by have:=R _ e;omega)).trans h.chk.ck
 have bz:=Jk bb 1 ev'
 simp only[Oa1,List.set_cons_zero,List.set_cons_succ]at bz
 have bJ:D.heap[w.heap.size+1]?=some (.cells #[bl,ev'] 137 (0,0)):=by
  rw[M.block _ (by rw[Oa7,H];have:=Jd bb;omega) (fun e=>by have:=E _ e.symm;omega),Oa9 _ _ _ (by rw[H];exact Jd bb)]
  exact bz
 have bB:∀ g,ev.ownBlock≠some g→g<W.heap.size→ev'.ownBlock≠some g:=fun g h1 h2 e=>by
  rcases K with q|q
  ·exact h1 (q.symm.trans e)
  rw[q]at e;cases e;omega
 have bC:∀ g,sv.ownBlock≠some g→g<W.heap.size→sv'.ownBlock≠some g:=fun g h1 h2 e=>by
  rcases O with q|q
  ·exact h1 (q.symm.trans e)
  rw[q]at e;cases e;omega
 have bA:∀ (a:Option Addr) (s:List Int),Kc W a s→(∀ g o,a=some ⟨g,o,none⟩→ev.ownBlock≠some g∧g≠w.heap.size+1∧sv.ownBlock≠some g)→Kc D a s:=fun a s hi bf=>hi.of_block (by omega) fun b o e bc=>bu b bc (bf b o e).1 (bf b o e).2.1 (bf b o e).2.2
 refine⟨⟨bJ,?_,fun k y=>?_,fun k y g o e=>?_,h.chk.low⟩,⟨?_,fun i k y=>?_,fun i k y=>?_⟩,?_,fun g e A=>?_,fun k y g o e=>?_,?_,?_⟩
 ·rw[Oa8,List.length_singleton,Oe8,Ol6]
  refine Jl bE fun g e=>br g (U g e).2 (by have:=U g e;omega) (fun A=>?_)
  rcases K with q|q
  ·exact h.sep g A (q.symm.trans e)
  rw[q]at e
  cases e
  have:=E _ A
  omega
 ·rw[Od2,Oc6]at y
  rcases y with y|rfl
  ·exact bA _ _ (h.chk.ints k y) fun g o e=>⟨(h.chk.off k y g o e).1,(h.chk.off k y g o e).2.1,h.off k y g o e⟩
  exact bA _ _ h.ints fun g o e=>⟨(h.aoff g o e).1,(h.aoff g o e).2.1,(h.aoff g o e).2.2.2⟩
 ·rw[Od2,Oc6]at y
  rcases y with y|rfl
  ·have:=h.chk.off k y g o e
   exact⟨bB g this.1 this.2.2,this.2.1,by omega⟩
  have:=h.aoff g o e
  exact⟨bB g this.1 this.2.2.1,this.2.1,by omega⟩
 ·rw[Oa8,List.length_singleton,h.len]
 ·rw[Om7]at y
  split at y
  ·exact h.sch1 i k y
  rename_i bN
  have hi:i=j:=by
   have:i-ks.length<1:=(Ob9.1 y).1
   have:=h.len
   omega
  subst hi
  rw[h.len,Oe1]at y
  cases y
  exact h.sch2
 ·rw[Om7]at y
  split at y
  ·exact h.flg i k y
  have hi:i=j:=by
   have:i-ks.length<1:=(Ob9.1 y).1
   have:=h.len
   omega
  subst hi
  rw[h.len,Oe1]at y
  cases y
  exact bK.symm
 ·rw[Ob8]
  exact bL
 ·rcases O with q|q
  ·have bx:=q.symm.trans e
   have:=E g bx
   rcases K with bj|bj
   ·exact h.sep g bx (bj.symm.trans A)
   rw[bj]at A;cases A;omega
  rw[q]at e
  cases e
  have:=(U _ A).2
  omega
 ·rw[Od2,Oc6]at y
  rcases y with y|rfl
  ·exact bC g (h.off k y g o e) (h.chk.off k y g o e).2.2
  exact bC g (h.aoff g o e).2.2.2 (h.aoff g o e).2.2.1
 ·rw[bu _ (Jd h.plan) (fun e=>by have:=R _ e;omega) (by omega) (fun e=>by have:=E _ e;omega)]
  exact h.plan
 have bc:=h.low
 have ba:Below w.heap.size w w4:=Jy (Jc bc bh) bk fun k y=>by have:=R k y;omega
 have bI:Below w.heap.size w (w4.setCell ⟨w.heap.size+1,1,none⟩ ev'):=ba.setCell (p:=⟨w.heap.size+1,1,none⟩) (by simp) _
 exact Jy (Jc bI bi) M fun k y=>by have:=E k y;omega
theorem Jcz {w:World}{B:Nat}{e:TypeId}{z:Nat}{sv:Value}{n:Nat}{xs:List Value}(h:w.ownsRow B e z sv n xs):∃ a c,sv=.slice a n c:=by
 rcases h with⟨_,⟨h1,h2⟩|⟨g,cap,_,h1,_⟩⟩
 ·exact⟨none,0,by rw[h1,h2]⟩
 exact⟨_,_,h1⟩
theorem Jrm.below {w:World}{H D:Value}{E:List (List Int)}{A:Nat→Nat→Bool}{j:Nat}{ev sv:Value}{ks:List Kn}{W W':World}(h:Jrm w H D E A j ev sv ks W)(y:Below W.heap.size W W'):Jrm w H D E A j ev sv ks W':=
 ⟨h.chk.below y,h.kso,Jl h.own fun g e=>y.block g (Je h.own e).2,h.sep,h.off,(y.block _ (Jd h.plan)).trans h.plan,Jb h.low y⟩
theorem Jyq.mid {w:World}{D K:Value}{O:List (List Int)}{H:Nat→Nat→Bool}{j:Nat}{ev ev' sv:Value}{ks:List Kn}{a:Option Addr}{c:Nat}{sch:List Int}{W w4:World}(h:Jyq w D K O H j ev sv ks a c sch W)(M:Obj)(A:(W.alloc M).grownBy w4 ev.ownBlock) :
  w4.heap[w.heap.size+1]?=some (.cells #[D,ev] 137 (0,0))∧Jo (w4.setCell ⟨w.heap.size+1,1,none⟩ ev') (w.heap.size+2) 22 sv (ks.map fun k=>Jbl k.1)∧w.heap.size+2≤w4.heap.size:=by
 have E:∀ g,ev.ownBlock=some g→w.heap.size+2≤g∧g<W.heap.size:=fun g e=>Je h.chk.own e
 have R:=A.size
 rw[Oa7]at R
 have y:∀ k,k<W.heap.size→ev.ownBlock≠some k→w4.heap[k]?=W.heap[k]?:=fun k h1 h2=>(A.block k (by rw[Oa7];omega) (Oc5 h2)).trans (Oa9 _ _ _ h1)
 refine⟨(y _ (Jd h.chk.ck) (fun e=>by have:=E _ e;omega)).trans h.chk.ck,Jl h.own fun g e=>?_,by have:=Jd h.chk.ck;omega⟩
 have:=Je h.own e
 rw[Oa4 _ _ _ _ (by simp;omega)]
 exact y g this.2 (h.sep g e)
theorem Kex (w:World)(u v:Value)(e:TypeId):∀ (j:Nat) (x:Value),[u,v][j]?=some x→(w.alloc (.cells #[u,v] e)).cell? ((⟨w.heap.size,0,none⟩:Addr).add j)=some x:=by
 intro j x y
 have hn:=heap_alloc_new w (.cells #[u,v] e)
 match j,y with
 |0,y=>cases y;unfold World.cell?;rw[show ((⟨w.heap.size,0,none⟩:Addr).add 0).block=w.heap.size from rfl,hn];rfl
 |1,y=>cases y;unfold World.cell?;rw[show ((⟨w.heap.size,0,none⟩:Addr).add 1).block=w.heap.size from rfl,hn];rfl
theorem Jrc (M no ba:Nat)(y:List Nd)(D:Nat)(E:Array Value)(O:List (List Int))(H:Nat→Nat→Bool)(w:World)
  (bP:∀ j nd,y[j]?=some nd→Zm w M (no+j*7) nd) (h1:1≤y.length) (cY:y.length≤12) (bW:O.length=y.length) (ca:∀ j nd,y[j]?=some nd→Jvz w (.func (.func D) E #[]) O H nd j) (bT:∀ j,H (j+1) j=false) (bS:∀ i,i+1<y.length→H y.length i=true) :
  Calls prog 31 #[.agg #[.slice (some ⟨M,no,none⟩) y.length ba],.func (.func D) E #[]] w fun e w'=>∃ (bK:List Sch) (sv:Value),e=.returned (.tuple #[sv,.nilIface])∧Below w.heap.size w w'∧Jo w' (w.heap.size+2) 22 sv (bK.map Jbl)∧bK.map (·.2.2)=O∧∀ s∈bK,Kc w' s.1 s.2.2:=by
 have bh:Hid ((∀ j nd,y[j]?=some nd→Zm w M (no+j*7) nd)∧O.length=y.length∧(∀ j nd,y[j]?=some nd→Jvz w (.func (.func D) E #[]) O H nd j)∧(∀ j,H (j+1) j=false)∧∀ i,i+1<y.length→H y.length i=true):=⟨bP,bW,ca,bT,bS⟩
 have dd:=run_neq_nil_nil (P:=prog)
 have de:∀ (a:Addr) (U:World),(store a (.func (.func D) E #[])).run prog U=stored prog U a (.func (.func D) E #[]) .plain:=fun a U=>run_store _ _ _ _ _ rfl
 clear bP bW ca bT bS
 go_enter func31,ntmps31
 go_upto_region 5 with fail
 have bQ:Jrm w (.func (.func D) E #[]) (.slice (some ⟨M,no,none⟩) y.length ba) O H 0 (.slice none 0 0) (.slice none 0 0) [] ((w.alloc (.cells #[(.slice (some ⟨M,no,none⟩) y.length ba)] 51)).alloc (.cells #[(.func (.func D) E #[]),.slice none 0 0] 137)):=by
  refine⟨⟨?_,⟨rfl,.inl ⟨rfl,rfl⟩⟩,fun k K=>(by cases K),fun k K=>(by cases K),by omega⟩,⟨rfl,fun i k K=>(by simp at K),fun i k K=>(by simp at K)⟩,Jo.nil _ _ _,fun g e=>(by simp[Value.ownBlock]at e),fun k K=>(by cases K),?_,Jc (Jc (Oa5 _ _) _) _⟩
  ·have:=heap_alloc_new (w.alloc (.cells #[(.slice (some ⟨M,no,none⟩) y.length ba)] 51)) (.cells #[(.func (.func D) E #[]),.slice none 0 0] 137)
   rw[Oa7]at this
   exact this
  exact(Oa9 _ _ _ (by simp)).trans (heap_alloc_new w _)
 have bA:Hid _:=bQ
 generalize (w.alloc (.cells #[(.slice (some ⟨M,no,none⟩) y.length ba)] 51)).alloc (.cells #[(.func (.func D) E #[]),.slice none 0 0] 137)=cn at bA ⊢
 have di:cn.cell? ⟨w.heap.size,0,none⟩=some (.slice (some ⟨M,no,none⟩) y.length ba):=by simp[World.cell?,bA.out.plan]
 clear bQ
 go_wp2
 go_loopw [7,34] (fun sv i wr=>∃ (j:Nat) (ev:Value) (ks:List Kn),j≤y.length∧i=.int .i64 (j:Int)∧Jrm w (.func (.func D) E #[]) (.slice (some ⟨M,no,none⟩) y.length ba) O H j ev sv ks wr) (fun _ i _=>y.length-(intOf i).toNat)
 case atStart=>exact⟨0,_,_,Ob7 _,rfl,bA.out⟩
 case round=>
  obtain⟨j,ev,ks,da,rfl,A⟩:=hrel
  have bL:Hid _:=A
  have bU:=A.kso.len
  obtain⟨cV,cW,bC⟩:=Jcz A.chk.own
  obtain⟨cQ,cS,bu⟩:=Jcz A.own
  rw[Oa6]at bu
  rw[bU]at bC bu
  by_cases bX:j<y.length
  ·obtain⟨nd,bH⟩:∃ nd,y[j]?=some nd:=⟨_,Oa3 bX⟩
   obtain⟨ci,cj,sch,cb,bR⟩:=bh.out.2.2.1 j nd bH
   obtain⟨dk,dm,dp,dq,dr,ds,dt⟩:=(bh.out.1 j nd bH).below A.low
   have bi:Below wr.heap.size wr (Jam wr nd):=Jc (Oa5 _ _) _
   have bE:∀ g,ev.ownBlock=some g→w.heap.size+2≤g∧g<wr.heap.size:=fun g e=>Je A.chk.own e
   have cG:=Kbz (w.heap.size+1) nd (Jam wr nd) (fun U v w'=>∃ Z,Z.map (·.1)=ks.map (·.1)∧(∀ (i:Nat) (k:Kn),Z[i]?=some k→k.2=H (j+1) i)∧Jq3 (w.heap.size+2) (w.heap.size+1) (.func (.func D) E #[]) ev Z sch U (.returned v) w') ci cj (fun U bk=>by
    refine(bR U ev ks (Jb A.low (Jb bi bk)) (fun g e=>by have:=bE g e;omega) (A.chk.below (Jb bi bk)) A.kso).mono ?_
    rintro e W' ⟨Z,bf,hf,a,c,rfl,bn,bc,hi,br⟩
    exact⟨_,_,rfl,⟨Z,bf,hf,a,c,rfl,bn,bc,hi,br⟩,bc.size,fun k bJ bz=>bc.block k bz (fun e=>by have:=bE k e.symm;have:=bi.size;omega)⟩)
   have bb:Hid (O[j]?=some sch∧j<y.length∧Below wr.heap.size wr (Jam wr nd)):=⟨cb,bX,bi⟩
   subst bC bu
   obtain⟨cK,cE,cH,cI,cJ⟩:=info_parts Jw8
   clear A bR bH ci cj cb bi bE
   go_wp2_with (first|(go_at_call 50;refine cG.mono ?_;rintro cu bB ⟨U,bk,v,rfl,Z,bf,hf,a,c,bI,bn,bc,hi,br⟩;injection bI with bI;subst bI;have R:Hid (Jyq w (.func (.func D) E #[]) (.slice (some ⟨M,no,none⟩) y.length ba) O H j _ _ Z a c sch bB):=bL.out.node (Jb bb.out.2.2 bk) bf hf bb.out.1 bn bc hi br;obtain⟨_,c1⟩:=R.out.chk.cells;clear bn bc hi br bf hf)|(at_builtin;refine wpList_append_own_at _ (by rfl) _ _ 135 (by rfl) (w.heap.size+2) 141 cK _ 2 32 (by kernel_rfl) cE cH cI cJ (by rfl) (by decide) _ _ _ (by rfl) (Jbm R.out.chk.own _) ⟨bB.heap.size,0,none⟩ 1 1 [Jbl (a,c,sch),.bool false] (by rfl) (by rfl) (by exact Kex bB _ _ _) (by intro u bj;simp at bj;rcases bj with rfl|rfl<;>rfl) (by have:=R.out.len;have:=bb.out;unfold maxLen;omega) (by have:=R.out.len;have:=bb.out;omega) (by simp;have:=Jd R.out.chk.ck;omega) ?_;intro ev' w4 bJ bz _ cM;go_must (obtain⟨ch,m2,m3⟩:=R.out.mid (ev':=ev') _ bz);go_must (obtain⟨bO,bM,cf⟩:=ownsRow_succ bJ);obtain⟨bx,bY⟩:∃ bx,bx=Z.length+1:=⟨_,rfl⟩;rw[←bY]at cf;clear bY;subst cf;have cU:w4.cell? ⟨w.heap.size+1,1,none⟩=some _:=(by simp[World.cell?,ch];rfl);have cX:w4.frozen? ⟨w.heap.size+1,1,none⟩=false:=(by simp[World.frozen?,ch]);have cc:(w4.setCell ⟨w.heap.size+1,1,none⟩ (.slice (some ⟨bO,0,none⟩) bx bM)).heap.size=w4.heap.size:=(by simp[World.setCell]);have bZ:=Ua (w4.setCell ⟨w.heap.size+1,1,none⟩ (.slice (some ⟨bO,0,none⟩) bx bM)) (Jbl (a,c,sch)) 22;rw[cc]at bZ)|(at_builtin;go_must (refine Ul (by rfl) _ _ 91 22 _ 24 Jzf (by rfl) (by decide) (by kernel_rfl) (by rfl) (w.heap.size+2) _ _ (by rfl) (Jo.alloc m2 _) ⟨w4.heap.size,0,none⟩ 1 [Jbl (a,c,sch)] (by rfl) (by exact bZ) (by intro u bj;simp at bj;subst bj;rfl) (by have:=R.out.len;have:=bb.out;simp only[List.length_cons,List.length_nil,Oa6];omega) (by rw[Oa7,cc];omega) ?_);intro sv' dj cN cO cP;go_must (have cy:=R.out.done (bh.out.2.2.2.1 j) _ _ bJ bz cM cN cO cP)))
   go_roundw
   case rel=>exact⟨j+1,_,_,bb.out.2.1,rfl,cy⟩
   case measure=>have:=bb.out.2.1;simp[intOf];omega
  have bG:j=y.length:=by omega
  obtain⟨g,cap,X,cC,cD,_⟩:=A.chk.at (i:=0) (by omega)
  rw[bU]at X
  have bV:∀ i,i<y.length-1→∃ s:Sch,wr.cell? ⟨g,i*2,none⟩=some (Jbl s)∧wr.cell? ⟨g,i*2+1,none⟩=some (.bool true):=fun i hi=>by
   obtain⟨cx,cr,bD,_,_,cv,bN,_⟩:=A.chk.at (i:=i) (by omega)
   rw[X]at bD
   simp only[On8,Oc9,Oh2,and_true]at bD
   have hf:=A.kso.flg i ks[i] (Oa3 (by omega))
   have cB:H j i=true:=by rw[bG];exact bh.out.2.2.2.2 i (by omega)
   rw[hf.trans cB]at bN
   rw[bD.1]
   exact⟨_,cv,bN⟩
  obtain⟨m,bf⟩:∃ m,y.length=m+1:=⟨y.length-1,by omega⟩
  have cF:=Jrx g cap m wr (by omega) (fun i hi=>bV i (by omega))
  have cA:m≤cap:=by
   rcases A.chk.own with⟨_,⟨h0,_⟩|⟨cx,cr,_,h0,_,_,cZ,_⟩⟩
   ·rw[h0]at X;cases X
   rw[h0]at X
   simp only[On8,Oc9,Oh2,and_true]at X
   omega
  obtain⟨_,c1⟩:=A.chk.cells
  rw[X]at c1
  have cl:Hid (ks.map (·.1.2.2)=O):=by
   show _=_
   have db:=bh.out.2.1
   refine Oi8 fun i=>?_
   rw[Ob1]
   cases hki:ks[i]? with
   |some k=>rw[A.kso.sch i k hki];rfl
   |none=>
    have:ks.length≤i:=List.getElem?_eq_none_iff.1 hki
    exact(List.getElem?_eq_none_iff.2 (by omega)).symm
  have df:(y.length:Int)-1=(m:Int):=by omega
  have dg:(0:Int)≤(m:Int):=by omega
  have dh:(m:Int)≤(cap:Int):=by omega
  have dc:m≤11:=by omega
  subst bu
  rw[bG]at c1 ⊢
  clear bV X bC A cC cD cA bf
  go_wp2_with (go_at_call 51;refine cF.mono ?_;rintro cu cT ⟨rfl,cz⟩)
  have bl:=bL.out.below cz
  rw[bG]at bl
  refine bodyPost_ret (v:=.tuple #[.slice cQ y.length cS,.nilIface]) (by simp[results,results31,go_sem]) rfl ⟨ks.map (·.1),_,rfl,bl.low,?_,?_,fun s hs=>?_⟩
  ·rw[Oi6];exact bl.own
  ·rw[Oi6];exact cl.out
  obtain⟨k,K,rfl⟩:=Of0.1 hs
  exact bl.chk.ints k K
end Go.Proofs.YtdlgbphkaicfaaaGreatDoor
