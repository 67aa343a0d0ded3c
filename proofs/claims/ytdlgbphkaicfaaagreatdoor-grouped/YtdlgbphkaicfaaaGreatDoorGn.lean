/- A group's number. -/
import Derived.Test.YtdlgbphkaicfaaaGreatDoorGc
import Derived.Test.YtdlgbphkaicfaaaGreatDoorTl
import Derived.Test.YtdlgbphkaicfaaaGreatDoorSb
import Derived.Test.YtdlgbphkaicfaaaGreatDoorXk
import Derived.Test.YtdlgbphkaicfaaaGreatDoorXl
set_option maxHeartbeats 4000000
set_option maxRecDepth 100000
namespace Go.Proofs.YtdlgbphkaicfaaaGreatDoor
open Go.RowKit Go.Shelf Go.Maps Tryz
abbrev mkC (a b c d:V):Array Value:=#[.int .i64 a.k,.int .i64 a.n,.string a.s,.int .i64 b.k,.int .i64 b.n,.string b.s,.int .i64 c.k,.int .i64 c.n,.string c.s,.int .i64 d.k,.int .i64 d.n,.string d.s]
theorem Knd (a b c d:V):gmV [a,b,c,d]=.agg (mkC a b c d):=rfl
theorem Kop (g K i:Nat)(bb sv:Value)(a b c d:V)(ms:List (List V))(w:World)(O:w.heap[g]?=some (.cells #[bb,.map (some K),sv] 297 (0,0)))(X:Klh w K ms)(hi:ms[i]?=some [a,b,c,d]) :
  Calls prog 150 #[.pointer (some ⟨g,0,none⟩),gmV [a,b,c,d]] w fun e w'=>e=.returned (.int .i64 (i:Nat))∧Below w.heap.size w w':=by
 rw[Knd]
 have M:Below w.heap.size w (w.alloc (.cells (mkC a b c d) 302)):=Jc (Oa5 _ _) _
 have D:=heap_alloc_new w (.cells (mkC a b c d) 302)
 have R:=(M.block _ (Jd O)).trans O
 have U:=(X.block (w':=(w.alloc (.cells (mkC a b c d) 302)).drew) (M.block K (by obtain⟨bA,h,_⟩:=X;exact h.lt))).look hi
 rw[Knd]at U
 clear X hi
 go_enter func150,ntmps150
 go_upto_region 1 with fail
 generalize w.alloc (.cells (mkC a b c d) 302)=E at M D R U ⊢
 obtain⟨y,Z⟩:∃ y,y=w.heap.size:=⟨_,rfl⟩
 rw[←Z]at D ⊢
 clear Z
 have g1:E.cell? ⟨g,1,none⟩=some (.map (some K)):=by simp[World.cell?,R]
 have bc:E.cell? ⟨y,0,none⟩=some (.int .i64 a.k):=by simp[World.cell?,D]
 have bf:E.cell? ⟨y,1,none⟩=some (.int .i64 a.n):=by simp[World.cell?,D]
 have bj:E.cell? ⟨y,2,none⟩=some (.string a.s):=by simp[World.cell?,D]
 have bk:E.cell? ⟨y,3,none⟩=some (.int .i64 b.k):=by simp[World.cell?,D]
 have bl:E.cell? ⟨y,4,none⟩=some (.int .i64 b.n):=by simp[World.cell?,D]
 have bn:E.cell? ⟨y,5,none⟩=some (.string b.s):=by simp[World.cell?,D]
 have br:E.cell? ⟨y,6,none⟩=some (.int .i64 c.k):=by simp[World.cell?,D]
 have bu:E.cell? ⟨y,7,none⟩=some (.int .i64 c.n):=by simp[World.cell?,D]
 have bx:E.cell? ⟨y,8,none⟩=some (.string c.s):=by simp[World.cell?,D]
 have bz:E.cell? ⟨y,9,none⟩=some (.int .i64 d.k):=by simp[World.cell?,D]
 have bh:E.cell? ⟨y,10,none⟩=some (.int .i64 d.n):=by simp[World.cell?,D]
 have bi:E.cell? ⟨y,11,none⟩=some (.string d.s):=by simp[World.cell?,D]
 clear D O R
 refine wp_region_held_drew (S:=fun A=>A.cell? ⟨g,1,none⟩=some (.map (some K))∧(Instr.lookup 294 (.map (some K)) (.agg (mkC a b c d)) true).run prog A=.ok (.tuple #[.int .i64 (i:Nat),.bool true]) A∧A.cell? ⟨y,0,none⟩=some (.int .i64 a.k)∧A.cell? ⟨y,1,none⟩=some (.int .i64 a.n)∧A.cell? ⟨y,2,none⟩=some (.string a.s)∧A.cell? ⟨y,3,none⟩=some (.int .i64 b.k)∧A.cell? ⟨y,4,none⟩=some (.int .i64 b.n)∧A.cell? ⟨y,5,none⟩=some (.string b.s)∧A.cell? ⟨y,6,none⟩=some (.int .i64 c.k)∧A.cell? ⟨y,7,none⟩=some (.int .i64 c.n)∧A.cell? ⟨y,8,none⟩=some (.string c.s)∧A.cell? ⟨y,9,none⟩=some (.int .i64 d.k)∧A.cell? ⟨y,10,none⟩=some (.int .i64 d.n)∧A.cell? ⟨y,11,none⟩=some (.string d.s)) (by kernel_rfl) ⟨g1,U,bc,bf,bj,bk,bl,bn,br,bu,bx,bz,bh,bi⟩ (fun H=>?_)
 refine tk 0 ?_ rfl H ?_ (tk 1 ?_ rfl H ?_ (tk 2 ?_ rfl H ?_ (tk 3 ?_ rfl H ?_ (tk 4 ?_ rfl H ?_ (tk 5 ?_ rfl H ?_ (tk 6 ?_ rfl H ?_ (tk 7 ?_ rfl H ?_ (tk 8 ?_ rfl H ?_ (tk 9 ?_ rfl H ?_ (tk 10 ?_ rfl H ?_ ?_))))))))))
 iterate 11
  rotate_left 1
  ·intro w ba;(try dsimp only at ba);go_simp;try rfl
 simp only[Act.put,List.getElem_toArray,List.getElem_cons_zero,List.getElem_cons_succ,Oa1,List.set_cons_zero,List.set_cons_succ]
 refine wpAnyH_done (by kernel_rfl) ?_ _
 go_wp2
 go_ret
 exact⟨rfl,Jj M⟩
abbrev Kls (a b c d:V):Obj:=.cells #[.int .i64 a.k,.int .i64 a.n,.string a.s,.int .i64 b.k,.int .i64 b.n,.string b.s,.int .i64 c.k,.int .i64 c.n,.string c.s,.int .i64 d.k,.int .i64 d.n,.string d.s,.int .i64 0,.int .i64 0,.int .i64 0,.int .u64 0,.int .i64 0,.int .i64 0,.string ⟨#[]⟩,.int .i64 0,.int .i64 0,.string ⟨#[]⟩,.int .i64 0,.int .i64 0,.int .i64 0,.int .u64 0,.int .i64 0,.int .i64 0,.string ⟨#[]⟩,.int .i64 0,.int .i64 0,.string ⟨#[]⟩,.int .i64 0,.int .i64 0,.int .i64 0,.int .u64 0,.int .i64 0,.int .i64 0,.string ⟨#[]⟩,.int .i64 0,.int .i64 0,.string ⟨#[]⟩,.int .i64 0,.int .i64 0,.int .i64 0,.int .u64 0,.int .i64 0,.int .i64 0,.string ⟨#[]⟩,.int .i64 0,.int .i64 0,.string ⟨#[]⟩] 352
theorem Krb (a b c d:V):Kls a b c d=.cells (grC [a,b,c,d] [Klg,Klg,Klg,Klg]).toArray 352 (0,0):=rfl
theorem Kle {y:World}{A:Nat}{a b c d:V}(h:y.heap[A]?=some (.cells (mkC a b c d) 302 (0,0))):y.cell? ⟨A,0,none⟩=some (.int .i64 a.k)∧y.cell? ⟨A,1,none⟩=some (.int .i64 a.n)∧y.cell? ⟨A,2,none⟩=some (.string a.s)∧y.cell? ⟨A,3,none⟩=some (.int .i64 b.k)∧y.cell? ⟨A,4,none⟩=some (.int .i64 b.n)∧y.cell? ⟨A,5,none⟩=some (.string b.s)∧y.cell? ⟨A,6,none⟩=some (.int .i64 c.k)∧y.cell? ⟨A,7,none⟩=some (.int .i64 c.n)∧y.cell? ⟨A,8,none⟩=some (.string c.s)∧y.cell? ⟨A,9,none⟩=some (.int .i64 d.k)∧y.cell? ⟨A,10,none⟩=some (.int .i64 d.n)∧y.cell? ⟨A,11,none⟩=some (.string d.s):=by
 simp[World.cell?,h]
theorem Kqg:(prog.info? 345).map (fun i=>(i.zero,i.size,i.bytes))=some (some (.pointer none),1,8):=by kernel_rfl
abbrev grV (b:Nat):Value:=.pointer (some ⟨b,0,none⟩)
structure Kqq (w w':World) (g mb:Nat) (kv sv:Value) (ms:List (List V)) (gs:List Nat) (m:List V) (sv':Value) (nb:Nat):Prop where
 cells:w'.heap[g]?=some (.cells #[kv,.map (some mb),sv'] 297 (0,0))
 map:Klh w' mb (ms++[m])
 own:Jo w' 0 345 sv' ((gs++[nb]).map grV)
 grp:Kl1 w' nb m [Klg,Klg,Klg,Klg]
 new:w.heap.size≤nb
 keep:Ju (fun k=>k=g∨k=mb∨sv.ownBlock=some k) w w'
 lies:∀ k,sv'.ownBlock=some k→sv.ownBlock=some k∨w.heap.size≤k∧k≠nb
theorem Kmp {F:Nat→Prop}{w w':World}{r:Option Nat}(h:w.grownBy w' r)(A:∀ k,r=some k→F k):Ju F w w':=
 ⟨h.os,h.tape,h.output,h.size,fun k y hn=>h.block k y fun e=>hn (A k e.symm)⟩
theorem Kqh {w O y K:World}{g D E M cap:Nat}{ba:Value}{H:Option Addr}{a b c d:V}{ms:List (List V)}{R:List Nat}(bl:w.heap[g]?=some (.cells #[ba,.map (some D),.slice H ms.length cap] 297 (0,0)))(bf:Below w.heap.size w O)(bk:O.drew.drew.grownBy y (some D))(bu:Klh y D (ms++[[a,b,c,d]]))(bE:D<w.heap.size)(bx:D≠g)
  (bj:∀ k,(Value.slice H ms.length cap).ownBlock=some k→k≠g∧k≠D) (bA:Jo w 0 345 (.slice H ms.length cap) (R.map grV)) (br:R.length=ms.length) (bn:K.heap[g]?=some (.cells #[ba,.map (some D),.slice H ms.length cap] 297 (0,0)))
  (bz:K.ownsRow 0 345 1 (.slice (some ⟨E,0,none⟩) (ms.length+1) M) (ms.length+1) (R.map grV++[grV y.heap.size])) (bi:((y.alloc (Kls a b c d)).alloc (.cells #[grV y.heap.size] 345)).drew.grownBy K (Value.slice H ms.length cap).ownBlock) (bc:(Value.slice H ms.length cap).ownBlock=some E∨E=y.heap.size+2) :
  Hid (Kqq w (K.setCell ⟨g,2,none⟩ (.slice (some ⟨E,0,none⟩) (ms.length+1) M)) g D ba (.slice H ms.length cap) ms R [a,b,c,d] (.slice (some ⟨E,0,none⟩) (ms.length+1) M) y.heap.size):=by
 have bD:=Jd bl
 have bH:=bf.size
 have bI:O.heap.size≤y.heap.size:=bk.size
 have bC:(y.alloc (Kls a b c d)).heap.size=y.heap.size+1:=Oa7 _ _
 have bG:((y.alloc (Kls a b c d)).alloc (.cells #[grV y.heap.size] 345)).heap.size=y.heap.size+2:=by rw[Oa7,bC]
 have bh:Below y.heap.size y (y.alloc (Kls a b c d)):=Jc (Oa5 _ _) _
 have X:Below (y.alloc (Kls a b c d)).heap.size (y.alloc (Kls a b c d)) ((y.alloc (Kls a b c d)).alloc (.cells #[grV y.heap.size] 345)):=Jc (Oa5 _ _) _
 have bB:∀ k,(Value.slice H ms.length cap).ownBlock=some k→k<w.heap.size:=fun k A=>Qk bA A
 have bb:∀ k,k<y.heap.size+2→(Value.slice H ms.length cap).ownBlock≠some k→K.heap[k]?=((y.alloc (Kls a b c d)).alloc (.cells #[grV y.heap.size] 345)).heap[k]?:=fun k A hn=>bi.block k (by show k<((y.alloc (Kls a b c d)).alloc (.cells #[grV y.heap.size] 345)).heap.size;omega) (Oc5 hn)
 have hW:∀ k,k<y.heap.size→((y.alloc (Kls a b c d)).alloc (.cells #[grV y.heap.size] 345)).heap[k]?=y.heap[k]?:=fun k A=>(X.block k (by omega)).trans (bh.block k A)
 have U:∀ k,k≠g→(K.setCell ⟨g,2,none⟩ (.slice (some ⟨E,0,none⟩) (ms.length+1) M)).heap[k]?=K.heap[k]?:=fun k A=>Oa4 _ _ _ _ A
 refine⟨?_,?_,?_,⟨?_,rfl,rfl⟩,by omega,?_,?_⟩
 ·have:=Jk bn 2 (.slice (some ⟨E,0,none⟩) (ms.length+1) M)
  simpa using this
 ·exact bu.block ((U D bx).trans ((bb D (by omega) fun e=>(bj D e).2 rfl).trans (hW D (by omega))))
 ·have:Jo K 0 345 (.slice (some ⟨E,0,none⟩) (ms.length+1) M) ((R++[y.heap.size]).map grV):=by
   unfold Jo
   rw[Oa6,Oa8,br,Ob8]
   exact bz
  refine Yd this fun k A=>U k fun e=>?_
  have Z:k=E:=by simpa [Value.ownBlock] using A.symm
  rcases bc with h|h
  ·exact(bj E h).1 (Z▸e)
  omega
 ·rw[U _ (by omega),bb _ (by omega) fun e=>by have:=bB _ e;omega,X.block _ (by omega),←Krb]
  exact heap_alloc_new y (Kls a b c d)
 ·refine((((Ju.of_below bf).trans (Klq (W:=O) (W':=O.drew.drew) (Ju.refl _ _))).trans (Kmp bk fun k A=>.inr (.inl (by simpa using A.symm)))).trans' (G:=fun k=>(Value.slice H ms.length cap).ownBlock=some k) (((Ju.of_below bh).trans (Klq (W':=((y.alloc (Kls a b c d)).alloc (.cells #[grV y.heap.size] 345)).drew) (Ju.of_below X))).trans (Kmp bi fun k A=>A)) fun k _ A=>.inr (.inr A)).set (.inl rfl) _ _
 intro k A
 have Z:k=E:=by simpa [Value.ownBlock] using A.symm
 rcases bc with h|h
 ·exact .inl (Z▸h)
 exact .inr (by omega)
theorem Kof (g O:Nat)(cv sv:Value)(a b c d:V)(ms:List (List V))(X:List Nat)(w:World)(bk:w.heap[g]?=some (.cells #[cv,.map (some O),sv] 297 (0,0)))(bn:Klh w O ms)(hn:[a,b,c,d]∉ms)(cl:okM [a,b,c,d])(dp:ms.length≤100000)(br:Jo w 0 345 sv (X.map grV))(bE:X.length=ms.length)(bC:∀ k,sv.ownBlock=some k→k≠g∧k≠O) :
  Calls prog 150 #[.pointer (some ⟨g,0,none⟩),gmV [a,b,c,d]] w fun e w'=>e=.returned (.int .i64 (ms.length:Nat))∧∃ sv' dg,Kqq w w' g O cv sv ms X [a,b,c,d] sv' dg:=by
 rw[Knd]
 have bj:Below w.heap.size w (w.alloc (.cells (mkC a b c d) 302)):=Jc (Oa5 _ _) _
 have R:=heap_alloc_new w (.cells (mkC a b c d) 302)
 have cW:=Jd bk
 have ci:O<w.heap.size:=by obtain⟨cM,h,_⟩:=bn;exact h.lt
 have ch:O≠g:=fun e=>by
  obtain⟨cM,⟨es,dj,bZ,_⟩,_⟩:=bn
  rw[e,bk]at bZ
  cases bZ
 have bc:=(bj.block _ cW).trans bk
 have bH:Klh (w.alloc (.cells (mkC a b c d) 302)) O ms:=bn.block (bj.block O ci)
 have bI:Jo (w.alloc (.cells (mkC a b c d) 302)) 0 345 sv (X.map grV):=br.alloc _
 obtain⟨Z,cap,cn,_⟩:=br.cells
 rw[Oa6,bE]at cn
 subst cn
 have bV:Hid (X.length=ms.length):=bE
 clear bE
 generalize cU:w.alloc (.cells (mkC a b c d) 302)=M at bj R bc bH bI
 obtain⟨cO,bG⟩:=(show Klh M.drew O ms from bH.block rfl).miss cl hn
 obtain⟨E,cr,cf,cc⟩:=(show Klh M.drew.drew O ms from bH.block rfl).put cl hn (by omega)
 rw[Knd]at bG cr
 clear bn
 go_enter func150,ntmps150
 go_upto_region 1 with fail
 obtain⟨y,ca⟩:∃ y,y=w.heap.size:=⟨_,rfl⟩
 rw[←ca]at R ⊢
 have cb:y≠g∧y≠O:=by omega
 have dm:w.heap.size≤y:=by omega
 clear ca cU
 have g1:M.cell? ⟨g,1,none⟩=some (.map (some O)):=by simp[World.cell?,bc]
 have g2:M.cell? ⟨g,2,none⟩=some (.slice Z ms.length cap):=by simp[World.cell?,bc]
 have bJ:M.cell? ⟨y,0,none⟩=some (.int .i64 a.k):=by simp[World.cell?,R]
 have bK:M.cell? ⟨y,1,none⟩=some (.int .i64 a.n):=by simp[World.cell?,R]
 have bN:M.cell? ⟨y,2,none⟩=some (.string a.s):=by simp[World.cell?,R]
 have bO:M.cell? ⟨y,3,none⟩=some (.int .i64 b.k):=by simp[World.cell?,R]
 have bP:M.cell? ⟨y,4,none⟩=some (.int .i64 b.n):=by simp[World.cell?,R]
 have bQ:M.cell? ⟨y,5,none⟩=some (.string b.s):=by simp[World.cell?,R]
 have bR:M.cell? ⟨y,6,none⟩=some (.int .i64 c.k):=by simp[World.cell?,R]
 have bS:M.cell? ⟨y,7,none⟩=some (.int .i64 c.n):=by simp[World.cell?,R]
 have bT:M.cell? ⟨y,8,none⟩=some (.string c.s):=by simp[World.cell?,R]
 have bU:M.cell? ⟨y,9,none⟩=some (.int .i64 d.k):=by simp[World.cell?,R]
 have bL:M.cell? ⟨y,10,none⟩=some (.int .i64 d.n):=by simp[World.cell?,R]
 have bM:M.cell? ⟨y,11,none⟩=some (.string d.s):=by simp[World.cell?,R]
 refine wp_region_held_drew (S:=fun D=>D.cell? ⟨g,1,none⟩=some (.map (some O))∧(Instr.lookup 294 (.map (some O)) (.agg (mkC a b c d)) true).run prog D=.ok (.tuple #[.int .i64 cO,.bool false]) D∧D.cell? ⟨y,0,none⟩=some (.int .i64 a.k)∧D.cell? ⟨y,1,none⟩=some (.int .i64 a.n)∧D.cell? ⟨y,2,none⟩=some (.string a.s)∧D.cell? ⟨y,3,none⟩=some (.int .i64 b.k)∧D.cell? ⟨y,4,none⟩=some (.int .i64 b.n)∧D.cell? ⟨y,5,none⟩=some (.string b.s)∧D.cell? ⟨y,6,none⟩=some (.int .i64 c.k)∧D.cell? ⟨y,7,none⟩=some (.int .i64 c.n)∧D.cell? ⟨y,8,none⟩=some (.string c.s)∧D.cell? ⟨y,9,none⟩=some (.int .i64 d.k)∧D.cell? ⟨y,10,none⟩=some (.int .i64 d.n)∧D.cell? ⟨y,11,none⟩=some (.string d.s)) (by kernel_rfl) ⟨g1,bG,bJ,bK,bN,bO,bP,bQ,bR,bS,bT,bU,bL,bM⟩ (fun A=>?_)
 refine tk 0 ?_ rfl A ?_ (tk 1 ?_ rfl A ?_ (tk 2 ?_ rfl A ?_ (tk 3 ?_ rfl A ?_ (tk 4 ?_ rfl A ?_ (tk 5 ?_ rfl A ?_ (tk 6 ?_ rfl A ?_ (tk 7 ?_ rfl A ?_ (tk 8 ?_ rfl A ?_ (tk 9 ?_ rfl A ?_ (tk 10 ?_ rfl A ?_ ?_))))))))))
 iterate 11
  rotate_left 1
  ·intro w ba;(try dsimp only at ba);go_simp;try rfl
 simp only[Act.put,List.getElem_toArray,List.getElem_cons_zero,List.getElem_cons_succ,Oa1,List.set_cons_zero,List.set_cons_succ]
 refine wpAnyH_done (by kernel_rfl) ?_ _
 clear A bG
 go_upto_region 4 with fail
 have bD:∀ k,k<M.heap.size→k≠O→E.heap[k]?=M.heap[k]?:=fun k bb cY=>cc.block k bb (by simpa using cY)
 have U:=(bD y (Jd R) cb.2).trans R
 have bf:=(bD g (Jd bc) (Oc5 ch)).trans bc
 have u1:E.cell? ⟨g,1,none⟩=some (.map (some O)):=by simp[World.cell?,bf]
 have cx:E.cell? ⟨y,0,none⟩=some (.int .i64 a.k):=by simp[World.cell?,U]
 have cy:E.cell? ⟨y,1,none⟩=some (.int .i64 a.n):=by simp[World.cell?,U]
 have cB:E.cell? ⟨y,2,none⟩=some (.string a.s):=by simp[World.cell?,U]
 have cC:E.cell? ⟨y,3,none⟩=some (.int .i64 b.k):=by simp[World.cell?,U]
 have cD:E.cell? ⟨y,4,none⟩=some (.int .i64 b.n):=by simp[World.cell?,U]
 have cE:E.cell? ⟨y,5,none⟩=some (.string b.s):=by simp[World.cell?,U]
 have cF:E.cell? ⟨y,6,none⟩=some (.int .i64 c.k):=by simp[World.cell?,U]
 have cG:E.cell? ⟨y,7,none⟩=some (.int .i64 c.n):=by simp[World.cell?,U]
 have cH:E.cell? ⟨y,8,none⟩=some (.string c.s):=by simp[World.cell?,U]
 have cI:E.cell? ⟨y,9,none⟩=some (.int .i64 d.k):=by simp[World.cell?,U]
 have cz:E.cell? ⟨y,10,none⟩=some (.int .i64 d.n):=by simp[World.cell?,U]
 have cA:E.cell? ⟨y,11,none⟩=some (.string d.s):=by simp[World.cell?,U]
 refine wp_region_held_drew (S:=fun D=>D.cell? ⟨g,1,none⟩=some (.map (some O))∧D.cell? ⟨y,0,none⟩=some (.int .i64 a.k)∧D.cell? ⟨y,1,none⟩=some (.int .i64 a.n)∧D.cell? ⟨y,2,none⟩=some (.string a.s)∧D.cell? ⟨y,3,none⟩=some (.int .i64 b.k)∧D.cell? ⟨y,4,none⟩=some (.int .i64 b.n)∧D.cell? ⟨y,5,none⟩=some (.string b.s)∧D.cell? ⟨y,6,none⟩=some (.int .i64 c.k)∧D.cell? ⟨y,7,none⟩=some (.int .i64 c.n)∧D.cell? ⟨y,8,none⟩=some (.string c.s)∧D.cell? ⟨y,9,none⟩=some (.int .i64 d.k)∧D.cell? ⟨y,10,none⟩=some (.int .i64 d.n)∧D.cell? ⟨y,11,none⟩=some (.string d.s)) (by kernel_rfl) ⟨g1,bJ,bK,bN,bO,bP,bQ,bR,bS,bT,bU,bL,bM⟩ (fun A=>?_)
 refine tk 0 ?_ rfl A ?_ (tk 1 ?_ rfl A ?_ (tk 2 ?_ rfl A ?_ (tk 3 ?_ rfl A ?_ (tk 4 ?_ rfl A ?_ (tk 5 ?_ rfl A ?_ ?_)))))
 iterate 6
  rotate_left 1
  ·intro w ba;(try dsimp only at ba);go_simp;try rfl
 simp only[Act.put,List.getElem_toArray,List.getElem_cons_zero,List.getElem_cons_succ,Oa1,List.set_cons_zero,List.set_cons_succ]
 refine wpAnyH_ready (rs:=[6]) (by kernel_rfl) (by simp) (AllReadyH.cons rfl (fun K H=>?_) AllReadyH.nil)
 go_simp
 refine H.out _ _ ⟨u1,cx,cy,cB,cC,cD,cE,cF,cG,cH,cI,cz,cA⟩ (fun _=>?_)
 clear H K A
 refine wpAnyH_done (by kernel_rfl) ?_ _
 clear cr g1 bJ bK bN bO bP bQ bR bS bT bU bL bM
 go_upto_region 5 with fail
 have cQ:E.cell? ⟨g,2,none⟩=some (.slice Z ms.length cap):=by simp[World.cell?,bf]
 have cZ:Jo E 0 345 (.slice Z ms.length cap) (X.map grV):=Yd bI fun k bb=>bD k (Qk bI bb) (bC k bb).2
 refine wp_region_held_drew (S:=fun D=>D.cell? ⟨y,0,none⟩=some (.int .i64 a.k)∧D.cell? ⟨y,1,none⟩=some (.int .i64 a.n)∧D.cell? ⟨y,2,none⟩=some (.string a.s)∧D.cell? ⟨y,3,none⟩=some (.int .i64 b.k)∧D.cell? ⟨y,4,none⟩=some (.int .i64 b.n)∧D.cell? ⟨y,5,none⟩=some (.string b.s)∧D.cell? ⟨y,6,none⟩=some (.int .i64 c.k)∧D.cell? ⟨y,7,none⟩=some (.int .i64 c.n)∧D.cell? ⟨y,8,none⟩=some (.string c.s)∧D.cell? ⟨y,9,none⟩=some (.int .i64 d.k)∧D.cell? ⟨y,10,none⟩=some (.int .i64 d.n)∧D.cell? ⟨y,11,none⟩=some (.string d.s)) (by kernel_rfl) ⟨cx,cy,cB,cC,cD,cE,cF,cG,cH,cI,cz,cA⟩ (fun A=>?_)
 refine tk 0 ?_ rfl A ?_ (tk 1 ?_ rfl A ?_ (tk 2 ?_ rfl A ?_ (tk 3 ?_ rfl A ?_ (tk 5 ?_ rfl A ?_ (tk 6 ?_ rfl A ?_ ?_)))))
 iterate 6
  rotate_left 1
  ·intro w ba;(try dsimp only at ba);go_simp;try rfl
 simp only[Act.put,List.getElem_toArray,List.getElem_cons_zero,List.getElem_cons_succ,Oa1,List.set_cons_zero,List.set_cons_succ]
 have bz:Below E.heap.size E (E.alloc (Kls a b c d)):=Jc (Oa5 _ _) _
 have bA:Below (E.alloc (Kls a b c d)).heap.size (E.alloc (Kls a b c d)) ((E.alloc (Kls a b c d)).alloc (.cells #[grV E.heap.size] 345)):=Jc (Oa5 _ _) _
 have cu:(E.alloc (Kls a b c d)).heap.size=E.heap.size+1:=Oa7 _ _
 have bx:=(bz.block y (Jd U)).trans U
 have bh:=(bA.block y (Jd bx)).trans bx
 have cS:=Ja bz cQ
 obtain⟨df,cX,dc,dd,de⟩:=info_parts Kqg
 have db:∀ k,(Value.slice Z ms.length cap).ownBlock=some k→k<y:=fun k bb=>by have:=Qk br bb;omega
 have da:((E.alloc (Kls a b c d)).alloc (.cells #[grV E.heap.size] 345)).drew.ownsRow 0 345 1 (.slice Z ms.length cap) ms.length (X.map grV):=by
  have:Jo ((E.alloc (Kls a b c d)).alloc (.cells #[grV E.heap.size] 345)) 0 345 (.slice Z ms.length cap) (X.map grV):=(cZ.alloc _).alloc _
  unfold Jo at this
  rw[Oa6,bV.out]at this
  exact this
 have cT:((E.alloc (Kls a b c d)).alloc (.cells #[grV E.heap.size] 345)).drew.heap[E.heap.size+1]?=some (.cells #[grV E.heap.size] 345 (0,0)):=by
  have:=heap_alloc_new (E.alloc (Kls a b c d)) (.cells #[grV E.heap.size] 345)
  rwa [cu]at this
 have bY:=(bA.block g (by rw[cu];exact Nat.lt_succ_of_lt (Jd bf))).trans ((bz.block g (Jd bf)).trans bf)
 have dk:=Ja bA cS
 refine wpAnyH_ready (rs:=[4,7]) (by kernel_rfl) (by simp) (AllReadyH.cons rfl (fun K H=>?_) (AllReadyH.cons rfl (fun K H=>?_) AllReadyH.nil))
 focus
  go_simp
  refine H.out _ _ A (fun A=>?_)
  clear H K
  refine wpAnyH_ready (rs:=[7]) (by kernel_rfl) (by simp) (AllReadyH.cons rfl (fun K H=>?_) AllReadyH.nil)
  go_simp
  refine H.out _ _ (Kle bx) (fun A=>?_)
  clear H K
  refine wpAnyH_ready (rs:=[8]) (by kernel_rfl) (by simp) (AllReadyH.cons rfl (fun K H=>?_) AllReadyH.nil)
  go_simp
  refine H.out _ _ (Kle bh) (fun A=>?_)
  clear H K
 rotate_left 1
 focus
  go_simp
  refine H.out _ _ (Kle bx) (fun A=>?_)
  clear H K
  refine wpAnyH_ready (rs:=[4,8]) (by kernel_rfl) (by simp) (AllReadyH.cons rfl (fun K H=>?_) (AllReadyH.cons rfl (fun K H=>?_) AllReadyH.nil))
 focus
  go_simp
  refine H.out _ _ A (fun A=>?_)
  clear H K
  refine wpAnyH_ready (rs:=[8]) (by kernel_rfl) (by simp) (AllReadyH.cons rfl (fun K H=>?_) AllReadyH.nil)
  go_simp
  refine H.out _ _ (Kle bh) (fun A=>?_)
  clear H K
 rotate_left 1
 focus
  go_simp
  refine H.out _ _ (Kle bh) (fun A=>?_)
  clear H K
  refine wpAnyH_ready (rs:=[4]) (by kernel_rfl) (by simp) (AllReadyH.cons rfl (fun K H=>?_) AllReadyH.nil)
  go_simp
  refine H.out _ _ A (fun A=>?_)
  clear H K
 all_goals
  refine wpAnyH_ready (rs:=[9]) (by kernel_rfl) (by simp) (AllReadyH.cons rfl (fun K H=>?_) AllReadyH.nil)
  refine step_append_lies ((E.alloc (Kls a b c d)).alloc (.cells #[grV E.heap.size] 345)).drew rfl (.tmp 33) (.tmp 37) 295 rfl 0 345 df (.pointer none) 1 8 underlying295 cX dc dd de rfl (by decide) (.slice Z ms.length cap) ms.length (X.map grV) rfl da ⟨E.heap.size+1,0,none⟩ 1 1 [grV E.heap.size] rfl rfl (fun j u bu=>World.news_of_block cT j u (by simpa using bu)) (fun u bu=>by simp at bu;subst bu;rfl) (by decide) (by unfold maxLen;omega) (by omega) (Ob7 _) (E.heap.size+2) (by simp) (fun bX bW bi cj bB cV dq=>?_)
  have cJ:=(bB.block y (Jd bh) (fun e=>by have:=db y e.symm;omega)).trans bh
  refine H.out _ _ (Kle cJ) (fun A=>?_)
  clear H K
  have bl:=(bB.block g (Jd bY) (fun e=>(bC g e.symm).1 rfl)).trans bY
  have dh:bi.cell? ⟨g,2,none⟩=some (.slice Z ms.length cap):=by simp[World.cell?,bl]
  have cP:bi.frozen? ⟨g,2,none⟩=false:=by simp[World.frozen?,bl]
  simp only[Act.put,List.getElem_toArray,List.getElem_cons_zero,List.getElem_cons_succ,Oa1,List.set_cons_zero,List.set_cons_succ]
  refine tk 10 ?_ rfl A ?_ (tk 11 ?_ rfl A ?_ ?_)
  iterate 2
   rotate_left 1
   ·intro w ba;(try dsimp only at ba);go_simp;try rfl
  simp only[Act.put,List.getElem_toArray,List.getElem_cons_zero,List.getElem_cons_succ,Oa1,List.set_cons_zero,List.set_cons_succ]
  refine wpAnyH_ready (rs:=[12]) (by kernel_rfl) (by simp) (AllReadyH.cons rfl (fun K H=>?_) AllReadyH.nil)
  go_simp
  have cK:=(Oa4 bi ⟨g,2,none⟩ (.slice (some ⟨bX,0,none⟩) (ms.length+1) bW) y cb.1).trans cJ
  refine H.out _ _ (Kle cK) (fun A=>?_)
  clear H K
  refine wpAnyH_done (by kernel_rfl) ?_ _
  have cN:=Kqh bk bj cc cf ci ch bC br bV.out bl cj bB cV
  clear dh cP cK A cf cj bl
  generalize bi.setCell ⟨g,2,none⟩ (.slice (some ⟨bX,0,none⟩) (ms.length+1) bW)=di at *
  go_wp2
  go_ret
  exact⟨rfl,_,_,cN.out⟩
def eqV (a b:V):Bool:=decide (a.k=b.k)&&decide (a.n=b.n)&&decide (a.s=b.s)
theorem Kq4 (a b:V):eqV a b=true↔a=b:=by
 unfold eqV
 simp only[Og5,decide_eq_true_eq]
 exact⟨fun h=>V.ext' h.1.1 h.1.2 h.2,fun h=>by rw[h];exact⟨⟨rfl,rfl⟩,rfl⟩⟩
def eqM:List V→List V→Bool
 |[],[]=>true
 |a::m,b::u=>eqV a b&&eqM m u
 |_,_=>false
theorem Kl0:∀ m u:List V,eqM m u=true↔m=u
 |[],[]=>by simp[eqM]
 |a::m,b::u=>by simp[eqM,Kq4,Kl0 m u]
 |[],b::u=>by simp[eqM]
 |a::m,[]=>by simp[eqM]
def Knh (ms:List (List V))(m:List V):Bool:=ms.any (eqM m)
theorem Kmi (ms:List (List V))(m:List V):Knh ms m=true↔m∈ms:=by
 unfold Knh
 rw[List.any_eq_true]
 exact⟨fun ⟨x,h1,h2⟩=>by rw[(Kl0 m x).1 h2];exact h1,fun h=>⟨m,h,(Kl0 m m).2 rfl⟩⟩
def Klm (ms:List (List V))(m:List V):List (List V):=if Knh ms m=true then ms else ms++[m]
def Kqi:List Tly:=[Klg,Klg,Klg,Klg]
structure Klc (M:Nat→Prop) (w:World) (g mb:Nat) (kv sv:Value) (ms:List (List V)) (gs:List Nat) (tf:List V→List Tly):Prop where
 cells:w.heap[g]?=some (.cells #[kv,.map (some mb),sv] 297 (0,0))
 map:Klh w mb ms
 own:Jo w 0 345 sv (gs.map grV)
 len:gs.length=ms.length
 row:∀ k,sv.ownBlock=some k→k≠g∧k≠mb∧k∉gs
 grp:∀ (i:Nat) b m,gs[i]?=some b→ms[i]?=some m→Kl1 w b m (tf m)
 nodup:gs.Nodup
 inM:M g∧M mb∧(∀ k,sv.ownBlock=some k→M k)∧∀ b∈gs,M b
 lt:∀ k,M k→k<w.heap.size
theorem Kl1.block {w w':World}{b:Nat}{m:List V}{y:List Tly}(h:Kl1 w b m y)(A:w'.heap[b]?=w.heap[b]?):Kl1 w' b m y:=⟨A.trans h.cells,h.lm,h.lt⟩
theorem Klc.at {D:Nat→Prop}{w:World}{g K:Nat}{H sv:Value}{ms:List (List V)}{y:List Nat}{A:List V→List Tly}(h:Klc D w g K H sv ms y A){b:Nat}(E:b∈y):∃ m,Kl1 w b m (A m):=by
 obtain⟨i,hi,rfl⟩:=Od5 E
 exact⟨_,h.grp i _ _ (Oa3 hi) (Oa3 (by rw[←h.len];exact hi))⟩
theorem Klc.apart {M:Nat→Prop}{w:World}{g H:Nat}{R sv:Value}{ms:List (List V)}{A:List Nat}{U:List V→List Tly}(h:Klc M w g H R sv ms A U):g∉A∧H∉A∧H≠g:=by
 refine⟨fun D=>?_,fun D=>?_,fun e=>?_⟩
 ·obtain⟨m,E⟩:=h.at D
  have:=E.cells
  rw[h.cells,Oc9,Obj.cells.injEq]at this
  exact absurd this.2.1 (by decide)
 ·obtain⟨m,E⟩:=h.at D
  obtain⟨K,⟨es,O,y,_⟩,_⟩:=h.map
  have:=E.cells
  rw[y]at this
  cases this
 obtain⟨K,⟨es,O,y,_⟩,_⟩:=h.map
 rw[e,h.cells]at y
 cases y
theorem Klc.stands {A:Nat→Prop}{w w':World}{g E:Nat}{M sv:Value}{ms:List (List V)}{H:List Nat}{O:List V→List Tly}(h:Klc A w g E M sv ms H O)(U:w.heap.size≤w'.heap.size)(y:∀ k,A k→w'.heap[k]?=w.heap[k]?):Klc A w' g E M sv ms H O:=
 ⟨(y g h.inM.1).trans h.cells,h.map.block (y E h.inM.2.1),Yd h.own fun k R=>y k (h.inM.2.2.1 k R),h.len,h.row,fun i b m K D=>(h.grp i b m K D).block (y b (h.inM.2.2.2 b (Of6 K))),h.nodup,h.inM,fun k D=>Oc2 (h.lt k D) U⟩
theorem Klc.below {y:Nat→Prop}{w w':World}{g H:Nat}{E sv:Value}{ms:List (List V)}{A:List Nat}{K:List V→List Tly}(h:Klc y w g H E sv ms A K)(D:Below w.heap.size w w'):Klc y w' g H E sv ms A K:=h.stands D.size fun k M=>D.block k (h.lt k M)
theorem Kmm {F G:Nat→Prop}{w w':World}(h:Ju F w w')(hf:∀ k,F k→G k):Ju G w w':=⟨h.os,h.tape,h.output,h.size,fun k A hn=>h.block k A fun y=>hn (hf k y)⟩
def Kpg (y:Nat→Prop)(w:World)(g H:Nat)(E:Value)(ms:List (List V))(K:List V→List Tly)(m:List V)(i:Nat)(w':World):Prop:=
 Ju y w w'∧(Klm ms m)[i]?=some m∧∃ (A:Nat→Prop) (sv':Value) (D:List Nat),Klc A w' g H E sv' (Klm ms m) D K∧(∀ k,y k→A k)∧∀ k,A k→y k∨w.heap.size≤k
theorem Kom (U:Nat→Prop)(g K:Nat)(Z sv:Value)(a b c d:V)(ms:List (List V))(D:List Nat)(bc:List V→List Tly)(w:World)(h:Klc U w g K Z sv ms D bc)(bu:okM [a,b,c,d])(bl:ms.length≤100000)(bA:[a,b,c,d]∉ms→bc [a,b,c,d]=Kqi) :
  Calls prog 150 #[.pointer (some ⟨g,0,none⟩),gmV [a,b,c,d]] w fun e w'=>∃ i:Nat,e=.returned (.int .i64 (i:Nat))∧Kpg U w g K Z ms bc [a,b,c,d] i w':=by
 by_cases O:[a,b,c,d]∈ms
 ·obtain⟨i,hi⟩:=List.getElem?_of_mem O
  have e:Klm ms [a,b,c,d]=ms:=by unfold Klm;rw[if_pos ((Kmi _ _).2 O)]
  refine(Kop g K i Z sv a b c d ms w h.cells h.map hi).mono fun bj w' ⟨ba,A⟩=>⟨i,ba,Ju.of_below A,by rw[e];exact hi,U,sv,D,by rw[e];exact h.below A,fun _ h=>h,fun _ h=>.inl h⟩
 have e:Klm ms [a,b,c,d]=ms++[[a,b,c,d]]:=by unfold Klm;rw[if_neg fun h=>O ((Kmi _ _).1 h)]
 obtain⟨bC,bD,bE⟩:=h.apart
 refine(Kof g K Z sv a b c d ms D w h.cells h.map O bu bl h.own h.len fun k M=>⟨(h.row k M).1,(h.row k M).2.1⟩).mono fun bj w' ⟨ba,sv',E,hn⟩=>⟨ms.length,ba,?_⟩
 have br:E∉D:=fun A=>by have:=h.lt E (h.inM.2.2.2 E A);have:=hn.new;omega
 have bn:E<w'.heap.size:=Jd hn.grp.cells
 have M:∀ k,k<w.heap.size→k≠g→k≠K→sv.ownBlock≠some k→w'.heap[k]?=w.heap[k]?:=fun k h1 h2 bf bh=>hn.keep.block k h1 fun bb=>by rcases bb with e|e|e;exact h2 e;exact bf e;exact bh e
 have bx:∀ k,sv'.ownBlock=some k→k∉D∧k≠E∧k≠g∧k≠K:=fun k y=>by
  rcases hn.lies k y with h1|h1
  ·have:=h.row k h1
   have h2:=h.lt k (h.inM.2.2.1 k h1)
   exact⟨this.2.2,by have:=hn.new;omega,this.1,this.2.1⟩
  have bf:=h.lt g h.inM.1
  have bh:=h.lt K h.inM.2.1
  exact⟨fun A=>by have:=h.lt k (h.inM.2.2.2 k A);omega,h1.2,by omega,by omega⟩
 refine⟨Kmm hn.keep ?_,by rw[e];simp,fun k=>U k∨k=E∨sv'.ownBlock=some k,sv',D++[E],?_,fun k M=>.inl M,?_⟩
 ·intro k bb
  rcases bb with e|e|e
  ·rw[e];exact h.inM.1
  ·rw[e];exact h.inM.2.1
  exact h.inM.2.2.1 k e
 ·rw[e]
  refine⟨hn.cells,hn.map,hn.own,by simp[h.len],fun k y=>?_,fun i H bB A R=>?_,?_,⟨.inl h.inM.1,.inl h.inM.2.1,fun k y=>.inr (.inr y),fun H A=>?_⟩,fun k y=>?_⟩
  ·have:=bx k y
   exact⟨this.2.2.1,this.2.2.2,by simp[this.1,this.2.1]⟩
  ·by_cases hi:i<D.length
   ·rw[Ob0 hi]at A
    rw[Ob0 (by rw[←h.len];exact hi)]at R
    have X:=Of6 A
    exact(h.grp i H bB A R).block (M H (h.lt H (h.inM.2.2.2 H X)) (fun e=>bC (e▸X)) (fun e=>bD (e▸X)) fun e=>(h.row H e).2.2 X)
   have bk:i<(D++[E]).length:=(Ob9.1 A).1
   obtain rfl:i=D.length:=by simp at bk;omega
   rw[h.len]at R
   simp at A R
   subst A R
   rw[bA O]
   exact hn.grp
  ·rw[Op3]
   exact⟨h.nodup,by simp,fun x bz bG bi e=>br (by simp at bi;rw[←bi,←e];exact bz)⟩
  ·rcases Od2.1 A with A|A
   ·exact .inl (h.inM.2.2.2 H A)
   simp at A;exact .inr (.inl A)
  rcases y with y|y|y
  ·exact Oc2 (h.lt k y) hn.keep.size
  ·rw[y];exact bn
  exact Qk hn.own y
 intro k y
 rcases y with y|y|y
 ·exact .inl y
 ·rw[y];exact .inr hn.new
 rcases hn.lies k y with h1|h1
 ·exact .inl (h.inM.2.2.1 k h1)
 exact .inr h1.1
structure Krv where
 c:Nat
 o:Int
 d:Bool
 f:Nat
def kyC (k:Krv):List Value:=[.int .i64 (k.c:Nat),.int .i64 k.o,.bool k.d,.int .i64 (k.f:Nat)]
def Klj (w:World)(kb ko:Nat)(ks:List Krv):Prop:=∀ (j:Nat) k,ks[j]?=some k→w.cell? ⟨kb,ko+j*4,none⟩=some (.int .i64 (k.c:Nat))∧w.cell? ⟨kb,ko+j*4+1,none⟩=some (.int .i64 k.o)∧w.cell? ⟨kb,ko+j*4+2,none⟩=some (.bool k.d)∧w.cell? ⟨kb,ko+j*4+3,none⟩=some (.int .i64 (k.f:Nat))
theorem Klj.below {w w':World}{kb ko:Nat}{ks:List Krv}(h:Klj w kb ko ks)(y:Below w.heap.size w w'):Klj w' kb ko ks:=fun j k E=>by
 obtain⟨h1,h2,A,D⟩:=h j k E
 exact⟨Ja y h1,Ja y h2,Ja y A,Ja y D⟩
def rfL (n:Nat)(mf:Nat→Nat→V):List V:=(List.range (4*n)).map fun x=>mf (x / 4) (x % 4)
def Klx (w:World)(b n:Nat)(mf:Nat→Nat→V):Prop:=w.heap[b]?=some (.cells ((rfL n mf).flatMap vC).toArray 302 (0,0))
theorem Kq2 (n:Nat)(mf:Nat→Nat→V):(rfL n mf).length=4*n:=by simp[rfL]
theorem Krp {n:Nat}{mf:Nat→Nat→V}{i k:Nat}(hi:i<n)(y:k<4):(rfL n mf)[4*i+k]?=some (mf i k):=by
 unfold rfL
 rw[Ob1,Oh6 (by omega),Option.map_some,show (4*i+k) / 4=i by omega,show (4*i+k) % 4=k by omega]
theorem Knf {l:List V}{x:Nat}{v:V}(h:l[x]?=some v):l.flatMap vC=(l.take x).flatMap vC++vC v++(l.drop (x+1)).flatMap vC:=by
 conv=>lhs;rw[Kmx l x v h]
 rw[Oe8,Og7,Od8]
theorem Kqz {l:List V}{x:Nat}(h:x≤l.length):((l.take x).flatMap vC).length=x*3:=by
 rw[Ko7,Oc7]
 omega
theorem Klx.put {w:World}{b n i k:Nat}{mf:Nat→Nat→V}(h:Klx w b n mf)(hi:i<n)(M:k<4)(v:V) :
  (w.cell? ⟨b,i*12+k*3,none⟩=some (.int .i64 (mf i k).k)∧w.cell? ⟨b,i*12+k*3+1,none⟩=some (.int .i64 (mf i k).n)∧w.cell? ⟨b,i*12+k*3+2,none⟩=some (.string (mf i k).s)) ∧
  Klx (((w.setCell ⟨b,i*12+k*3,none⟩ (.int .i64 v.k)).setCell ⟨b,i*12+k*3+1,none⟩ (.int .i64 v.n)).setCell ⟨b,i*12+k*3+2,none⟩ (.string v.s)) b n (fun r j=>if r=i∧j=k then v else mf r j):=by
 have K:=Krp (mf:=mf) hi M
 have O:4*i+k<(rfL n mf).length:=by rw[Kq2];omega
 have A:w.heap[b]?=some (.cells (((rfL n mf).take (4*i+k)).flatMap vC++vC (mf i k)++((rfL n mf).drop (4*i+k+1)).flatMap vC).toArray 302 (0,0)):=by
  have:=h
  unfold Klx at this
  rw[Knf K]at this
  exact this
 have y:(((rfL n mf).take (4*i+k)).flatMap vC).length=i*12+k*3:=by rw[Kqz (by omega)];omega
 refine⟨⟨Klb (i:=0) A y rfl,Klb (i:=1) A y rfl,Klb (i:=2) A y rfl⟩,?_⟩
 have H:=Kli (i:=2) (.string v.s) (Kli (i:=1) (.int .i64 v.n) (Kli (i:=0) (.int .i64 v.k) A y (by simp[vC])) y (by simp[vC])) y (by simp[vC])
 unfold Klx
 have e:rfL n (fun r j=>if r=i∧j=k then v else mf r j)=(rfL n mf).set (4*i+k) v:=by
  apply Oi8
  intro x
  rw[Op2]
  unfold rfL
  by_cases D:x<4*n
  ·rw[Ob1,Oh6 D,Option.map_some]
   show some (if x / 4=i∧x % 4=k then v else mf (x / 4) (x % 4))=_
   by_cases E:4*i+k=x
   ·rw[if_pos (by omega),if_pos E,if_pos (by simp;omega)]
   rw[if_neg E,if_neg (by omega),Ob1,Oh6 D,Option.map_some]
  rw[Ob4 (by simp;omega),if_neg (by omega),Ob4 (by simp;omega)]
 rw[e,Knf (x:=4*i+k) (v:=v) (by simp[O])]
 rw[List.take_set_of_le (Oa2 _),List.drop_set_of_lt (by omega)]
 exact H
def Klo (ks:List Krv)(cols:List (List V))(r j:Nat):V:=match ks[j]? with|some k=>if k.f=0 then (cols.getD k.c []).getD r Jf else Jf|none=>Jf
def mfI (ks:List Krv)(cols:List (List V))(k i r j:Nat):V:=if j<k∨j=k∧r<i then Klo ks cols r j else Jf
theorem Kpc:(prog.info? 302).map (fun i=>(i.zero,i.size,i.bytes))=some (some (.agg (([Jf,Jf,Jf,Jf]:List V).flatMap vC).toArray),12,128):=by kernel_rfl
theorem Kov (n:Nat)(hn:n≤100000)(W:World):∃ C,(Instr.makeSlice 388 (.int .i64 (n:Int)) (.int .i64 (n:Int))).run prog W=.ok (.slice (some ⟨W.heap.size,0,none⟩) n n) (W.alloc (.cells C 302))∧Klx (W.alloc (.cells C 302)) W.heap.size n (fun _ _=>Jf):=by
 obtain⟨i,hi,O,M,K⟩:=info_parts Kpc
 have y:=run_make (P:=prog) W 388 302 i _ (by kernel_rfl) hi O .i64 .i64 (n:Int) (n:Int) (by omega) (Int.le_refl _) (by rw[K];omega) (by omega)
 rw[Int.toNat_natCast,M]at y
 refine⟨_,y,(Oh1 W _).1.trans ?_⟩
 have A:rfL n (fun _ _=>Jf)=List.replicate (4*n) Jf:=by
  unfold rfL
  rw[List.map_const',Op1]
 have D:=Jt9 (4*n)
 have H:∀ r,r<12→(((([Jf,Jf,Jf,Jf]:List V).flatMap vC).toArray)[r]!)=(#[Value.int .i64 0,.int .i64 0,.string ⟨#[]⟩]:Array Value)[r % 3]!:=by
  intro r y
  rcases(show r=0∨r=1∨r=2∨r=3∨r=4∨r=5∨r=6∨r=7∨r=8∨r=9∨r=10∨r=11 by omega)with rfl|rfl|rfl|rfl|rfl|rfl|rfl|rfl|rfl|rfl|rfl|rfl<;>rfl
 have E:madeCells (([Jf,Jf,Jf,Jf]:List V).flatMap vC).toArray (n*12)=madeCells #[.int .i64 0,.int .i64 0,.string ⟨#[]⟩] (4*n*3):=by
  unfold madeCells
  rw[show 4*n*3=n*12 by omega]
  refine congrArg (fun f=>(Array.range (n*12)).map f) (funext fun j=>?_)
  show ((([Jf,Jf,Jf,Jf]:List V).flatMap vC).toArray[j % 12]!)=(#[Value.int .i64 0,.int .i64 0,.string ⟨#[]⟩]:Array Value)[j % 3]!
  rw[H (j % 12) (Ol0 _ (by omega)),show j % 12 % 3=j % 3 by omega]
 show some (Obj.cells (madeCells (([Jf,Jf,Jf,Jf]:List V).flatMap vC).toArray (n*12)) 302 (0,0))=_
 rw[E,A,show (List.replicate (4*n) Jf).flatMap vC=(List.replicate (4*n) Jf).flatMap V.cells from rfl,←D]
theorem Kmu (k:Krv)(w:World):Calls prog 149 #[.agg #[.int .i64 (k.c:Nat),.int .i64 k.o,.bool k.d,.int .i64 (k.f:Nat)]] w fun e w'=>e=.returned (.bool (decide (k.f=0)))∧Below w.heap.size w w':=by
 have e:Hid ((((k.f:Nat):Int)==0)=decide (k.f=0)):=by
  show _=_
  rw[On7]
  simp only[beq_iff_eq,decide_eq_true_eq]
  omega
 go_enter func149,ntmps149
 go_wp2
 go_ret
 rw[e.out]
 exact⟨rfl,Jc (Oa5 _ _) _⟩
theorem Kn2 {l:List V}{x:Nat}(h:x<l.length):l[x]=l.getD x Jf:=by simp[h]
theorem Kpt (l:List Nat)(x:Nat):(l++[x]).getD l.length 0=x:=by simp[List.getD_eq_getElem?_getD]
theorem Km0 {l:List Nat}{x j:Nat}(h:j≠l.length):(l++[x]).getD j 0=l.getD j 0:=by
 rw[Oa0,Oa0]
 by_cases y:j<l.length
 ·rw[Ob0 y]
 rw[Ob4 (by simp;omega),Ob4 (by omega)]
theorem Klx.congr {w:World}{b n:Nat}{mf y:Nat→Nat→V}(h:Klx w b n mf)(A:∀ r j,r<n→j<4→mf r j=y r j):Klx w b n y:=by
 unfold Klx at *
 rw[h,show rfL n mf=rfL n y from Oj9 fun x D=>A _ _ (by have:=Oj4.1 D;omega) (by omega)]
theorem Klx.block {w w':World}{b n:Nat}{mf:Nat→Nat→V}(h:Klx w b n mf)(y:w'.heap[b]?=w.heap[b]?):Klx w' b n mf:=y.trans h
theorem Kqw (ks:List Krv)(cols:List (List V))(r j:Nat):mfI ks cols 0 0 r j=Jf:=by unfold mfI;rw[if_neg (by omega)]
theorem Kqo {ks:List Krv}{cols:List (List V)}{k:Nat}{ky:Krv}(h:ks[k]?=some ky)(hf:¬ ky.f=0)(r j:Nat):mfI ks cols k 0 r j=mfI ks cols (k+1) 0 r j:=by
 unfold mfI
 by_cases y:j=k
 ·subst y
  rw[if_neg (by omega),if_pos (by omega)]
  unfold Klo
  rw[h]
  simp only
  rw[if_neg hf]
 by_cases A:j<k
 ·rw[if_pos (by omega),if_pos (by omega)]
 rw[if_neg (by omega),if_neg (by omega)]
theorem Kq5 {ks:List Krv}{cols:List (List V)}{k n r j:Nat}(A:r<n):mfI ks cols k n r j=mfI ks cols (k+1) 0 r j:=by
 unfold mfI
 by_cases y:j≤k
 ·rw[if_pos (by omega),if_pos (by omega)]
 rw[if_neg (by omega),if_neg (by omega)]
theorem Kra (ks:List Krv)(cols:List (List V))(r j:Nat):mfI ks cols ks.length 0 r j=Klo ks cols r j:=by
 unfold mfI
 by_cases h:j<ks.length
 ·rw[if_pos (by omega)]
 rw[if_neg (by omega)]
 unfold Klo
 rw[Ob4 (by omega)]
theorem Kri {ks:List Krv}{cols:List (List V)}{k i:Nat}{ky:Krv}(h:ks[k]?=some ky)(hf:ky.f=0)(r j:Nat):(if r=i∧j=k then (cols.getD ky.c []).getD i Jf else mfI ks cols k i r j)=mfI ks cols k (i+1) r j:=by
 unfold mfI
 by_cases y:r=i∧j=k
 ·rw[if_pos y,if_pos (by omega),y.1,y.2]
  unfold Klo
  rw[h]
  simp only
  rw[if_pos hf]
 rw[if_neg y]
 by_cases A:j<k∨j=k∧r<i
 ·rw[if_pos A,if_pos (by omega)]
 rw[if_neg A,if_neg (by omega)]
def mkL (ks:List Krv)(cols:List (List V))(r:Nat):List V:=[Klo ks cols r 0,Klo ks cols r 1,Klo ks cols r 2,Klo ks cols r 3]
def Kld (ms:List (List V))(f:Nat→List V):Nat→List (List V)
 |0=>ms
 |i+1=>Klm (Kld ms f i) (f i)
theorem Koq {ms:List (List V)}{m u:List V}{i:Nat}(h:ms[i]?=some u):(Klm ms m)[i]?=some u:=by
 unfold Klm
 split
 ·exact h
 rw[Ob0 (Ob9.1 h).1];exact h
theorem Kol {ms:List (List V)}{m u:List V}(h:u∈ms):u∈Klm ms m:=by
 obtain⟨i,hi⟩:=List.getElem?_of_mem h
 exact Of6 (Koq hi)
theorem Kok (ms:List (List V))(m:List V):(Klm ms m).length≤ms.length+1:=by
 unfold Klm
 split
 ·omega
 simp
theorem Knr {ms:List (List V)}{f:Nat→List V}{u:List V}(h:u∈ms):∀ i,u∈Kld ms f i
 |0=>h
 |i+1=>Kol (Knr h i)
theorem Knk (ms:List (List V))(f:Nat→List V):∀ i,(Kld ms f i).length≤ms.length+i
 |0=>Oa2 _
 |i+1=>by have:=Knk ms f i;have:=Kok (Kld ms f i) (f i);unfold Kld;omega
theorem Klx.cells {w:World}{b n i:Nat}{mf:Nat→Nat→V}(h:Klx w b n mf)(hi:i<n) :
  (w.cell? ⟨b,i*12,none⟩=some (.int .i64 (mf i 0).k)∧w.cell? ⟨b,i*12+1,none⟩=some (.int .i64 (mf i 0).n)∧w.cell? ⟨b,i*12+2,none⟩=some (.string (mf i 0).s))∧(w.cell? ⟨b,i*12+3,none⟩=some (.int .i64 (mf i 1).k)∧w.cell? ⟨b,i*12+4,none⟩=some (.int .i64 (mf i 1).n)∧w.cell? ⟨b,i*12+5,none⟩=some (.string (mf i 1).s)) ∧
  (w.cell? ⟨b,i*12+6,none⟩=some (.int .i64 (mf i 2).k)∧w.cell? ⟨b,i*12+7,none⟩=some (.int .i64 (mf i 2).n)∧w.cell? ⟨b,i*12+8,none⟩=some (.string (mf i 2).s))∧(w.cell? ⟨b,i*12+9,none⟩=some (.int .i64 (mf i 3).k)∧w.cell? ⟨b,i*12+10,none⟩=some (.int .i64 (mf i 3).n)∧w.cell? ⟨b,i*12+11,none⟩=some (.string (mf i 3).s)):=
 ⟨(h.put hi (k:=0) (by omega) Jf).1,(h.put hi (k:=1) (by omega) Jf).1,(h.put hi (k:=2) (by omega) Jf).1,(h.put hi (k:=3) (by omega) Jf).1⟩
theorem Kp4:(prog.info? 3).map (fun i=>(i.zero,i.size,i.bytes))=some (some (.int .i64 0),1,8):=by kernel_rfl
def Kq1 (A:Nat→Prop)(w:World)(g H:Nat)(E:Value)(ms:List (List V))(K:List V→List Tly)(f:Nat→List V)(n:Nat):Ending→World→Prop:=fun e w'=>
 ∃ (b:Nat) (y:Nat→Prop) (sv':Value) (D:List Nat) (ns:List Nat),e=.returned (.slice (some ⟨b,0,none⟩) n n)∧w'.rowIs b 3 n (fun j=>.int .i64 (ns.getD j 0:Nat))∧Klc y w' g H E sv' (Kld ms f n) D K∧(∀ j,j<n→(Kld ms f n)[ns.getD j 0]?=some (f j))∧Ju A w w'∧(∀ k,A k→y k)∧(∀ k,y k→A k∨w.heap.size≤k)∧¬ y b∧w.heap.size≤b
theorem Kos (U:Nat→Prop)(g ba kb ko Z:Nat)(sv:Value)(ks:List Krv)(ms:List (List V))(bD:List Nat)(R:List V→List Tly)(bP cap n:Nat)(hs:List (Option Addr×Nat))(cols:List (List V))(w:World)
  (cB:Klc U w g ba (.slice (some ⟨kb,ko,none⟩) ks.length Z) sv ms bD R) (bE:Klj w kb ko ks) (fp:ks.length≤4) (cA:Qd w bP hs cols) (cP:1≤cols.length) (cD:∀ j,j<cols.length→(cols.getD j []).length=n) (hn:n≤100000) (dq:∀ k∈ks,k.c<cols.length) (fr:ms.length+n≤100000) (bA:∀ r,r<n→okM (mkL ks cols r)) (cS:∀ r,r<n→mkL ks cols r∉ms→R (mkL ks cols r)=Kqi) :
  Calls prog 198 #[.pointer (some ⟨g,0,none⟩),.slice (some ⟨bP,0,none⟩) cols.length cap] w (Kq1 U w g ba (.slice (some ⟨kb,ko,none⟩) ks.length Z) ms R (mkL ks cols) n):=by
 have dc:Hid ((∀ r,r<n→okM (mkL ks cols r))∧∀ r,r<n→mkL ks cols r∉ms→R (mkL ks cols r)=Kqi):=⟨bA,cS⟩
 clear bA cS
 have cy:=cA.row.cell cP
 rw[cD 0 cP]at cy
 have ds:=Jlg bP cols.length cap (Yo hs 0).1 n (Yo hs 0).2 w cP cy
 clear cy
 obtain⟨C,fd,cN⟩:=Kov n hn w
 have bC:Hid (Qd w bP hs cols∧(∀ j,j<cols.length→(cols.getD j []).length=n)∧∀ k∈ks,k.c<cols.length):=⟨cA,cD,dq⟩
 have dL:Hid (Klj w kb ko ks):=bE
 have cf:Hid (Klc U w g ba (.slice (some ⟨kb,ko,none⟩) ks.length Z) sv ms bD R):=cB
 have dU:w.cell? ⟨g,0,none⟩=some (.slice (some ⟨kb,ko,none⟩) ks.length Z):=by simp[World.cell?,cB.cells]
 clear cA cD dq bE cB
 go_enter func198,ntmps198
 go_upto_region 2 with(go_at_call 54;refine ds.mono ?_;rintro e fl ⟨rfl,dZ⟩;rw[dZ])
 have bc:Below w.heap.size w (w.alloc (.cells C 302)):=Jc (Oa5 _ _) _
 have dV:=Ja bc dU
 clear ds fd
 generalize w.alloc (.cells C 302)=fo at cN bc dV ⊢
 obtain⟨B,cz⟩:∃ B,B=w.heap.size:=⟨_,rfl⟩
 rw[←cz]at cN ⊢
 have bO:Hid (B=w.heap.size):=cz
 clear cz
 go_upto_region 3 with fail
 go_loopw [21] (fun i wr=>∃ k:Nat,k≤ks.length∧i=.int .i64 k∧Klx wr B n (mfI ks cols k 0)∧Below w.heap.size w wr) (fun i _=>ks.length-(intOf i).toNat)
 case atStart=>exact⟨0,Ob7 _,rfl,cN.congr fun r j _ _=>(Kqw ks cols r j).symm,bc⟩
 case round=>
  obtain⟨k,X,rfl,bl,bb⟩:=hrel
  by_cases cH:k<ks.length
  ·obtain⟨dA,dB,dC,dD⟩:=dL.out.below bb k ks[k] (Oa3 cH)
   have bL:ks[k]?=some ks[k]:=Oa3 cH
   have bJ:=bC.out.2.2 ks[k] (Ob3 cH)
   have bx:=fun A=>Kmu ks[k] A
   generalize ks[k]=ky at dA dB dC dD bL bJ bx
   by_cases hf:ky.f=0
   ·rw[decide_eq_true hf]at bx
    have cc:Hid (ky.f=0):=hf
    have ci:Hid (ks[k]?=some ky):=bL
    clear hf bL
    have dj:Below wr.heap.size wr (wr.alloc (.cells #[.int .i64 (ky.c:Nat),.int .i64 ky.o,.bool ky.d,.int .i64 (ky.f:Nat)] 38)):=Jc (Oa5 _ _) _
    have cU:=heap_alloc_new wr (.cells #[.int .i64 (ky.c:Nat),.int .i64 ky.o,.bool ky.d,.int .i64 (ky.f:Nat)] 38)
    have cY:Hid (∀ A,Calls prog 149 #[.agg #[.int .i64 (ky.c:Nat),.int .i64 ky.o,.bool ky.d,.int .i64 (ky.f:Nat)]] A fun e w'=>e=.returned (.bool true)∧Below A.heap.size A w'):=bx
    clear bx
    go_upto_region 7 with fail
    refine(cY.out _).mono ?_
    rintro e dd ⟨rfl,bI⟩
    have bk:=Jb dj bI
    have dJ:=(bI.block _ (Jd cU)).trans cU
    have fk:dd.cell? ⟨wr.heap.size,0,none⟩=some (.int .i64 (ky.c:Nat)):=by simp[World.cell?,dJ]
    have dh:=bC.out.1.below (Jb bb bk)
    have bU:=dh.row.cell bJ
    rw[bC.out.2.1 ky.c bJ]at bU
    have dv:=bC.out.1.vals ky.c bJ
    have dt:=bl.block (bk.block B (Jd bl))
    have dm:=Jb bb bk
    have cl:Hid (Jv w (Yo hs ky.c).1 (cols.getD ky.c [])∧(cols.getD ky.c []).length=n):=⟨dv,bC.out.2.1 ky.c bJ⟩
    clear dh dv dJ cU bI dj cY bl bk
    generalize (Yo hs ky.c).1=H at bU cl
    generalize (Yo hs ky.c).2=K at bU
    go_upto_region 7 with fail
    go_loopw [35] (fun i dE=>∃ x:Nat,x≤n∧i=.int .i64 x∧Klx dE B n (mfI ks cols k x)∧Below w.heap.size w dE) (fun i _=>n-(intOf i).toNat)
    case atStart=>exact⟨0,Ob7 _,rfl,dt,dm⟩
    case round=>
     obtain⟨x,fs,rfl,bZ,bu⟩:=hrel
     clear dt dm bU fk dA dB dC dD
     by_cases dw:x<n
     ·have cQ:x<(cols.getD ky.c []).length:=by rw[cl.out.2];exact dw
      obtain⟨b2,fu,rfl,bH,dG,dH,dI⟩:=(cl.out.1.below bu).at cQ
      rw[Kn2 cQ]at dG dH dI
      clear cQ
      obtain⟨v,bA⟩:∃ v,v=(cols.getD ky.c []).getD x Jf:=⟨_,rfl⟩
      rw[←bA]at dG dH dI
      have db:Hid (∀ r j,(if r=x∧j=k then v else mfI ks cols k x r j)=mfI ks cols k (x+1) r j):=fun r j=>by rw[bA];exact Kri ci.out cc.out r j
      clear bA
      have bT:Below wr.heap.size wr (wr.alloc (.cells #[.int .i64 v.k,.int .i64 v.n,.string v.s] 63)):=Jc (Oa5 _ _) _
      have bN:=heap_alloc_new wr (.cells #[.int .i64 v.k,.int .i64 v.n,.string v.s] 63)
      have bi:=Jd bZ
      obtain⟨⟨c0,c1,c2⟩,du⟩:=(bZ.block (bT.block B bi)).put dw (show k<4 by omega) v
      have dK:=Km8 ((bT.block B bi).trans bZ)
      have cj:Hid (Klx ((((wr.alloc (.cells #[.int .i64 v.k,.int .i64 v.n,.string v.s] 63)).setCell ⟨B,x*12+k*3,none⟩ (.int .i64 v.k)).setCell ⟨B,x*12+k*3+1,none⟩ (.int .i64 v.n)).setCell ⟨B,x*12+k*3+2,none⟩ (.string v.s)) B n (mfI ks cols k (x+1))):=du.congr fun r j _ _=>db.out r j
      clear du db
      have fq:(k:Int)<4:=by omega
      go_upto_region 9 with fail
      have dp:=Jb bu bT
      have di:wr.heap.size≠B:=by omega
      generalize wr.alloc (.cells #[.int .i64 v.k,.int .i64 v.n,.string v.s] 63)=bh at bT bN c0 c1 c2 dK cj dp ⊢
      generalize wr.heap.size=bv at bN di ⊢
      have cr:bh.cell? ⟨bv,0,none⟩=some (.int .i64 v.k):=by simp[World.cell?,bN]
      have cu:bh.cell? ⟨bv,1,none⟩=some (.int .i64 v.n):=by simp[World.cell?,bN]
      have cv:bh.cell? ⟨bv,2,none⟩=some (.string v.s):=by simp[World.cell?,bN]
      have ca:(((bh.setCell ⟨B,x*12+k*3,none⟩ (.int .i64 v.k)).setCell ⟨B,x*12+k*3+1,none⟩ (.int .i64 v.n)).setCell ⟨B,x*12+k*3+2,none⟩ (.string v.s)).heap[bv]?=bh.heap[bv]?:=Kmc di _ _ _ _
      refine wp_region_held_drew (S:=fun A=>A.cell? ⟨bv,0,none⟩=some (.int .i64 v.k)∧A.cell? ⟨bv,1,none⟩=some (.int .i64 v.n)∧A.cell? ⟨bv,2,none⟩=some (.string v.s)) (by kernel_rfl) ⟨cr,cu,cv⟩ (fun bj=>?_)
      refine tk 0 ?_ rfl bj ?_ (tk 1 ?_ rfl bj ?_ (tk 2 ?_ rfl bj ?_ (tk 3 ?_ rfl bj ?_ (tk 4 ?_ rfl bj ?_ (tk 5 ?_ rfl bj ?_ ?_)))))
      iterate 6
       rotate_left 1
       ·intro w dY;(try dsimp only at dY);go_simp;try rfl
      simp only[Act.put,List.getElem_toArray,List.getElem_cons_zero,List.getElem_cons_succ,Oa1,List.set_cons_zero,List.set_cons_succ]
      refine wpAnyH_ready (rs:=[6]) (by kernel_rfl) (by simp) (AllReadyH.cons rfl (fun dR bE=>?_) AllReadyH.nil)
      go_simp
      refine bE.out _ _ ⟨(Oc3 ca).trans cr,(Oc3 ca).trans cu,(Oc3 ca).trans cv⟩ (fun _=>?_)
      clear bE dR bj
      refine wpAnyH_done (by kernel_rfl) ?_ _
      clear ca c0 c1 c2 dK cr cu cv
      have dk:Below w.heap.size w (((bh.setCell ⟨B,x*12+k*3,none⟩ (.int .i64 v.k)).setCell ⟨B,x*12+k*3+1,none⟩ (.int .i64 v.n)).setCell ⟨B,x*12+k*3+2,none⟩ (.string v.s)):=((dp.setCell (p:=⟨B,x*12+k*3,none⟩) (by show w.heap.size≤B;have:=bO.out;omega) _).setCell (p:=⟨B,x*12+k*3+1,none⟩) (by show w.heap.size≤B;have:=bO.out;omega) _).setCell (p:=⟨B,x*12+k*3+2,none⟩) (by show w.heap.size≤B;have:=bO.out;omega) _
      generalize ((bh.setCell ⟨B,x*12+k*3,none⟩ (.int .i64 v.k)).setCell ⟨B,x*12+k*3+1,none⟩ (.int .i64 v.n)).setCell ⟨B,x*12+k*3+2,none⟩ (.string v.s)=fm at cj dk ⊢
      go_wp2
      exact⟨⟨x+1,by omega,by go_num,cj.out,Jj dk⟩,by simp[intOf];omega⟩
     obtain rfl:x=n:=by omega
     go_wp2
     exact⟨⟨k+1,by omega,by go_num,bZ.congr fun r j fe _=>Kq5 fe,bu⟩,by simp[intOf];omega⟩
   rw[decide_eq_false hf]at bx
   have cc:Hid (¬ ky.f=0):=hf
   have ci:Hid (ks[k]?=some ky):=bL
   clear hf bL
   go_wp2_with (go_at_call 149;refine(bx _).mono ?_;rintro e dd ⟨rfl,bI⟩)
   have bk:=Jb (Jc (Oa5 wr.heap.size wr) (.cells #[.int .i64 (ky.c:Nat),.int .i64 ky.o,.bool ky.d,.int .i64 (ky.f:Nat)] 38)) bI
   exact⟨⟨k+1,by omega,by go_num,(bl.block (bk.block B (Jd bl))).congr fun r j _ _=>Kqo ci.out cc.out r j,Jb bb bk⟩,by simp[intOf];omega⟩
  obtain rfl:k=ks.length:=by omega
  have cO:Klx wr B n (Klo ks cols):=bl.congr fun r j _ _=>Kra ks cols r j
  have cX:Hid (Klc U wr g ba (.slice (some ⟨kb,ko,none⟩) ks.length Z) sv ms bD R):=cf.out.stands bb.size fun k y=>bb.block k (cf.out.lt k y)
  have bi:=Jd cO
  clear bl
  have fc:∀ W,(Instr.makeSlice 22 (.int .i64 (n:Int)) (.int .i64 (n:Int))).run prog W=.ok (.slice (some ⟨W.heap.size,0,none⟩) n n) (W.alloc (.cells (madeCells #[.int .i64 0] n) 3)):=
   fun W=>run_make_row' 22 3 (.int .i64 0) 8 (by kernel_rfl) Kp4 rfl .i64 .i64 n (by omega) (by omega) W
  go_upto_region 14 with fail
  clear fc
  have bH:Below wr.heap.size wr (wr.alloc (.cells (madeCells #[.int .i64 0] n) 3)):=Jc (Oa5 _ _) _
  have bX:=Ol3 wr (.int .i64 0) n 3
  have cK:=cO.block (bH.block B bi)
  have ch:Hid (Klc U (wr.alloc (.cells (madeCells #[.int .i64 0] n) 3)) g ba (.slice (some ⟨kb,ko,none⟩) ks.length Z) sv ms bD R):=cX.out.below bH
  have bu:=Jb bb bH
  have dx:(wr.alloc (.cells (madeCells #[.int .i64 0] n) 3)).heap.size=wr.heap.size+1:=Oa7 _ _
  clear cO cX bH
  generalize (wr.alloc (.cells (madeCells #[.int .i64 0] n) 3))=cn at bX cK ch bu dx ⊢
  have fg:=bb.size
  obtain⟨D,dg⟩:∃ D,D=wr.heap.size:=⟨_,rfl⟩
  rw[←dg]at bX ⊢
  have cb:Hid (B<D∧cn.heap.size=D+1∧w.heap.size≤B):=⟨by omega,by omega,by have:=bO.out;omega⟩
  clear dx fg dg bi bb
  have da:Hid (∀ k,U k→k<w.heap.size):=cf.out.lt
  go_loopw [53] (fun s wr=>∃ (i:Nat) (E:Nat→Prop) (sv':Value) (bQ:List Nat) (ns:List Nat),i≤n∧s=.int .i64 i∧Hid (ns.length=i)∧wr.rowIs D 3 n (fun j=>.int .i64 (ns.getD j 0:Nat))∧Klx wr B n (Klo ks cols)∧Hid (Klc E wr g ba (.slice (some ⟨kb,ko,none⟩) ks.length Z) sv' (Kld ms (mkL ks cols) i) bQ R)∧Hid (∀ j,j<i→(Kld ms (mkL ks cols) i)[ns.getD j 0]?=some (mkL ks cols j))∧Ju (fun k=>U k∨k=D) cn wr∧Hid ((∀ k,U k→E k)∧∀ k,E k→U k∨cn.heap.size≤k)) (fun s _=>n-(intOf s).toNat)
  case atStart=>exact⟨0,U,sv,bD,[],Ob7 _,rfl,rfl,bX.congr fun j _=>by simp,cK,ch.out,fun j bK=>by omega,Ju.refl _ _,fun _ h=>h,fun _ h=>.inl h⟩
  case round=>
   obtain⟨i,E,sv',bQ,ns,hi,rfl,dO,cM,cJ,cW,cZ,cG,bf⟩:=hrel
   clear bX cK ch
   by_cases bV:i<n
   ·obtain⟨⟨c0,c1,c2⟩,⟨c3,c4,c5⟩,⟨c6,c7,c8⟩,⟨c9,de,df⟩⟩:=cJ.cells bV
    have bz:=fun A fb=>Kom E g ba (.slice (some ⟨kb,ko,none⟩) ks.length Z) sv' (Klo ks cols i 0) (Klo ks cols i 1) (Klo ks cols i 2) (Klo ks cols i 3) (Kld ms (mkL ks cols) i) bQ R A (cW.out.below fb) (dc.out.1 i bV) (by have:=Knk ms (mkL ks cols) i;omega) fun hn=>dc.out.2 i bV fun y=>hn (Knr y i)
    have bn:Hid (mkL ks cols i=[Klo ks cols i 0,Klo ks cols i 1,Klo ks cols i 2,Klo ks cols i 3]):=rfl
    generalize Klo ks cols i 0=H at c0 c1 c2 bz bn
    generalize Klo ks cols i 1=M at c3 c4 c5 bz bn
    generalize Klo ks cols i 2=K at c6 c7 c8 bz bn
    generalize Klo ks cols i 3=O at c9 de df bz bn
    have bc:Below wr.heap.size wr (wr.alloc (.cells (mkC H M K O) 302)):=Jc (Oa5 _ _) _
    have cC:=bz (wr.alloc (.cells (mkC H M K O) 302)) bc
    rw[Knd]at cC
    have cV:Hid (Calls prog 150 #[.pointer (some ⟨g,0,none⟩),.agg (mkC H M K O)] (wr.alloc (.cells (mkC H M K O) 302)) fun e w'=>∃ dz:Nat,e=.returned (.int .i64 (dz:Nat))∧Kpg E (wr.alloc (.cells (mkC H M K O) 302)) g ba (.slice (some ⟨kb,ko,none⟩) ks.length Z) (Kld ms (mkL ks cols) i) R [H,M,K,O] dz w'):=cC
    clear bz cC
    go_upto_region 16 with fail
    clear c0 c1 c2 c3 c4 c5 c6 c7 c8 c9 de df
    have ft:=cG.size
    have cI:¬ E B∧¬ E D:=by
     obtain⟨fh,fi,fj⟩:=cb.out
     constructor<;>intro y<;>rcases bf.out.2 _ y with h|h<;>(try have:=da.out _ h)<;>omega
    have dW:=cM.lt
    have bi:=Jd cJ
    go_upto_region 17 with fail
    refine cV.out.mono ?_
    rintro e A ⟨bB,rfl,cE,bW,br,cT,cx,bR,bS,bG⟩
    have cF:∀ k,k<wr.heap.size→¬ E k→A.heap[k]?=wr.heap[k]?:=fun k X y=>(cE.block k (Oc2 X bc.size) y).trans (bc.block k X)
    have bY:=cM.of_block (cF D dW cI.2)
    have ff:=cJ.block (cF B bi cI.1)
    have dS:=bY.cell bV
    have dT:=bY.frozen i
    have dP:Hid (A.rowIs D 3 n (fun j=>.int .i64 (ns.getD j 0:Nat))):=bY
    have dN:Hid (Klc br A g ba (.slice (some ⟨kb,ko,none⟩) ks.length Z) cT (Klm (Kld ms (mkL ks cols) i) [H,M,K,O]) cx R∧(Klm (Kld ms (mkL ks cols) i) [H,M,K,O])[bB]?=some [H,M,K,O]∧(∀ k,E k→br k)∧∀ k,br k→E k∨(wr.alloc (.cells (mkC H M K O) 302)).heap.size≤k):=⟨bR,bW,bS,bG⟩
    have dM:Hid (Ju E (wr.alloc (.cells (mkC H M K O) 302)) A):=cE
    have dy:(wr.alloc (.cells (mkC H M K O) 302)).heap.size=wr.heap.size+1:=Oa7 _ _
    have dQ:Hid ((wr.alloc (.cells (mkC H M K O) 302)).heap.size=wr.heap.size+1):=dy
    clear cF bY bR bW bS bG cE dy cV
    go_upto_region 17 with fail
    clear dS dT
    go_wp2
    obtain⟨bR,bW,bS,bG⟩:=dN.out
    have bM:=dO.out
    have cS:=dQ.out
    have dX:¬ br D:=fun y=>by
     rcases bG D y with h|h
     ·exact cI.2 h
     omega
    refine⟨⟨i+1,br,cT,cx,ns++[bB],by omega,by go_num,by show (ns++[bB]).length=i+1;simp[bM],(dP.out.set i _).congr fun j _=>?_,ff.block (Oa4 _ _ _ _ (by show B≠D;have:=cb.out;omega)),?_,fun j bK=>?_,?_,fun k X=>bS k (bf.out.1 k X),fun k X=>?_⟩,by simp[intOf];omega⟩
    ·by_cases bK:j=i
     ·subst bK
      rw[if_pos rfl,←bM,Kpt]
     rw[if_neg bK,Km0 (by rw[bM];exact bK)]
    ·show Klc br _ g ba (.slice (some ⟨kb,ko,none⟩) ks.length Z) cT (Klm (Kld ms (mkL ks cols) i) (mkL ks cols i)) cx R
     rw[bn.out]
     refine bR.stands (by simp[World.setCell]) fun k y=>Oa4 _ _ _ _ fun e=>dX (by rw[show k=D from e]at y;exact y)
    ·show (Klm (Kld ms (mkL ks cols) i) (mkL ks cols i))[(ns++[bB]).getD j 0]?=_
     by_cases dr:j=i
     ·subst dr
      rw[show (ns++[bB]).getD j 0=bB by rw[←bM,Kpt],bn.out]
      exact bW
     rw[Km0 (by rw[bM];exact dr)]
     exact Koq (cZ.out j (by omega))
    ·refine((cG.trans (Ju.of_below bc)).trans' (G:=E) dM.out fun k X y=>?_).set (.inr rfl) _ _
     rcases bf.out.2 k y with h|h
     ·exact .inl h
     omega
    rcases bG k X with h|h
    ·exact bf.out.2 k h
    exact .inr (by omega)
   obtain rfl:i=n:=by omega
   go_wp2
   go_ret
   obtain⟨fh,fi,fj⟩:=cb.out
   refine⟨D,E,sv',bQ,ns,rfl,cM,cW.out,cZ.out,(Ju.of_below bu).trans' (G:=fun k=>U k∨k=D) cG fun k X y=>?_,bf.out.1,fun k X=>?_,fun y=>?_,by omega⟩
   ·rcases y with h|h
    ·exact h
    omega
   ·rcases bf.out.2 k X with h|h
    ·exact .inl h
    exact .inr (by omega)
   rcases bf.out.2 _ y with h|h
   ·have:=da.out _ h;omega
   omega
def Kl2 (c:Nat)(t:Tly):Prop:=t.rows≤c∧t.held≤c∧-((c:Int)*9223372036854775808)≤t.sum∧t.sum≤(c:Int)*9223372036854775808
theorem Kl2.add {c:Nat}{t:Tly}{v:V}(h:Kl2 c t)(y:Jg v.n):Kl2 (c+1) (t.add v):=by
 obtain⟨h1,h2,A,D⟩:=h
 unfold Jg at y
 unfold Tly.add
 split
 ·exact⟨by show t.rows+1≤c+1;omega,by show t.held≤c+1;omega,by show _≤t.sum;omega,by show t.sum≤_;omega⟩
 exact⟨by show t.rows+1≤c+1;omega,by show t.held+1≤c+1;omega,by show _≤t.sum+v.n;omega,by show t.sum+v.n≤_;omega⟩
theorem Kl2.mono {c d:Nat}{t:Tly}(h:Kl2 c t)(y:c≤d):Kl2 d t:=⟨by have:=h.1;omega,by have:=h.2.1;omega,by have:=h.2.2.1;omega,by have:=h.2.2.2;omega⟩
def Knj (t:Tly)(f:Nat→List V)(m:List V)(val:Nat→V):Nat→Tly
 |0=>t
 |i+1=>if eqM (f i) m=true then (Knj t f m val i).add (val i)else Knj t f m val i
theorem Km3 {c:Nat}{t:Tly}{f:Nat→List V}{m:List V}{val:Nat→V}(h:Kl2 c t):∀ i,(∀ r,r<i→Jg (val r).n)→Kl2 (c+i) (Knj t f m val i)
 |0,_=>h
 |i+1,y=>by
  have A:=Km3 (f:=f) (m:=m) h i fun r D=>y r (by omega)
  unfold Knj
  split
  ·exact A.add (y i (by omega))
  exact A.mono (by omega)
def kyV (cols:List (List V))(ky:Krv)(r:Nat):V:=(cols.getD (if ky.f=1 then 0 else ky.c) []).getD r Jf
def tlI (ks:List Krv)(cols:List (List V))(n:Nat)(f:Nat→List V)(y:List V→List Tly)(k i:Nat)(m:List V)(j:Nat):Tly:=match ks[j]? with|some ky=>Knj ((y m).getD j Klg) f m (kyV cols ky) (if j<k then n else if j=k then i else 0)|none=>(y m).getD j Klg
def tfI (ks:List Krv)(cols:List (List V))(n:Nat)(f:Nat→List V)(y:List V→List Tly)(k i:Nat)(m:List V):List Tly:=[tlI ks cols n f y k i m 0,tlI ks cols n f y k i m 1,tlI ks cols n f y k i m 2,tlI ks cols n f y k i m 3]
theorem Krq (ks:List Krv)(cols:List (List V))(n:Nat)(f:Nat→List V)(y:List V→List Tly)(k i:Nat)(m:List V){j:Nat}(A:j<4):(tfI ks cols n f y k i m)[j]?=some (tlI ks cols n f y k i m j):=by
 rcases(show j=0∨j=1∨j=2∨j=3 by omega)with rfl|rfl|rfl|rfl<;>rfl
theorem Kmg (ks:List Krv)(cols:List (List V))(n:Nat)(f:Nat→List V)(y:List V→List Tly)(m:List V)(j:Nat):tlI ks cols n f y 0 0 m j=(y m).getD j Klg:=by
 unfold tlI
 split
 ·rw[if_neg (by omega)]
  split<;>rfl
 rfl
theorem Kq0 {ks:List Krv}{cols:List (List V)}{n:Nat}{f:Nat→List V}{y:List V→List Tly}{m:List V}(h:(y m).length=4):tfI ks cols n f y 0 0 m=y m:=by
 unfold tfI
 rw[Kmg,Kmg,Kmg,Kmg]
 match y m,h with
 |[a,b,c,d],_=>rfl
theorem Kqj (ks:List Krv)(cols:List (List V))(n:Nat)(f:Nat→List V)(y:List V→List Tly)(k:Nat)(m:List V):tfI ks cols n f y k n m=tfI ks cols n f y (k+1) 0 m:=by
 have h:∀ j,tlI ks cols n f y k n m j=tlI ks cols n f y (k+1) 0 m j:=fun j=>by
  unfold tlI
  split
  ·congr 1
   by_cases h1:j<k
   ·rw[if_pos h1,if_pos (by omega)]
   by_cases h2:j=k
   ·rw[if_neg h1,if_pos h2,if_pos (by omega)]
   rw[if_neg h1,if_neg h2,if_neg (by omega)]
   split<;>rfl
  rfl
 unfold tfI
 rw[h,h,h,h]
theorem Kqv {ks:List Krv}{cols:List (List V)}{n:Nat}{f:Nat→List V}{y:List V→List Tly}{k i:Nat}{ky:Krv}(D:ks[k]?=some ky)(E:k<4):tfI ks cols n f y k (i+1) (f i)=(tfI ks cols n f y k i (f i)).set k ((tlI ks cols n f y k i (f i) k).add (kyV cols ky i)):=by
 have h1:∀ j,j≠k→tlI ks cols n f y k (i+1) (f i) j=tlI ks cols n f y k i (f i) j:=fun j A=>by
  unfold tlI
  split
  ·rw[if_neg A,if_neg A]
  rfl
 have h2:tlI ks cols n f y k (i+1) (f i) k=(tlI ks cols n f y k i (f i) k).add (kyV cols ky i):=by
  unfold tlI
  rw[D]
  simp only[Oe3,if_false,if_true]
  show (if eqM (f i) (f i)=true then _ else _)=_
  rw[if_pos ((Kl0 _ _).2 rfl)]
 unfold tfI
 rcases(show k=0∨k=1∨k=2∨k=3 by omega)with rfl|rfl|rfl|rfl
 ·rw[h2,h1 1 (by omega),h1 2 (by omega),h1 3 (by omega)];rfl
 ·rw[h2,h1 0 (by omega),h1 2 (by omega),h1 3 (by omega)];rfl
 ·rw[h2,h1 0 (by omega),h1 1 (by omega),h1 3 (by omega)];rfl
 rw[h2,h1 0 (by omega),h1 1 (by omega),h1 2 (by omega)];rfl
theorem Kp7 {ks:List Krv}{cols:List (List V)}{n:Nat}{f:Nat→List V}{y:List V→List Tly}{k i:Nat}{m:List V}(A:m≠f i):tfI ks cols n f y k (i+1) m=tfI ks cols n f y k i m:=by
 have h:∀ j,tlI ks cols n f y k (i+1) m j=tlI ks cols n f y k i m j:=fun j=>by
  unfold tlI
  split
  ·by_cases h1:j<k
   ·rw[if_pos h1,if_pos h1]
   by_cases h2:j=k
   ·rw[if_neg h1,if_pos h2,if_neg h1,if_pos h2]
    show (if eqM (f i) m=true then _ else _)=_
    rw[if_neg fun e=>A ((Kl0 _ _).1 e).symm]
   rw[if_neg h1,if_neg h2,if_neg h1,if_neg h2]
  rfl
 unfold tfI
 rw[h,h,h,h]
theorem Krc {ks:List Krv}{cols:List (List V)}{n c:Nat}{f:Nat→List V}{H:List V→List Tly}{k i:Nat}{m:List V}(y:∀ j,Kl2 c ((H m).getD j Klg))(hi:i≤n)(E:∀ ky∈ks,∀ r,r<n→Jg (kyV cols ky r).n)(j:Nat):Kl2 (c+n) (tlI ks cols n f H k i m j):=by
 unfold tlI
 split
 ·rename_i ky K
  have A:=Of6 K
  split
  ·exact Km3 (y j) n fun r D=>E ky A r D
  split
  ·exact(Km3 (y j) i fun r D=>E ky A r (by omega)).mono (by omega)
  exact(y j).mono (by omega)
 exact(y j).mono (by omega)
theorem Klh.inj {w:World}{D i j:Nat}{ms:List (List V)}{m:List V}(h:Klh w D ms)(hi:ms[i]?=some m)(A:ms[j]?=some m):i=j:=by
 obtain⟨E,_,_,y,_⟩:=h
 have a:=(y i m hi).2
 have b:=(y j m A).2
 rw[a]at b
 simp only[DataW.lit.injEq,Lit.int.injEq,true_and]at b
 omega
theorem Klc.turn {H:Nat→Prop}{w w':World}{g U:Nat}{bf sv:Value}{ms:List (List V)}{K:List Nat}{bh X:List V→List Tly}(h:Klc H w g U bf sv ms K bh){x b:Nat}{m:List V}(M:K[x]?=some b)(A:ms[x]?=some m)(bb:Ju (·=b) w w')(bj:Kl1 w' b m (X m))(bk:∀ u,u≠m→X u=bh u):Klc H w' g U bf sv ms K X:=by
 have O:=Of6 M
 obtain⟨bn,br,bu⟩:=h.apart
 have E:∀ k,H k→k≠b→w'.heap[k]?=w.heap[k]?:=fun k A hn=>bb.block k (h.lt k A) hn
 refine⟨(E g h.inM.1 fun e=>bn (e▸O)).trans h.cells,h.map.block (E U h.inM.2.1 fun e=>br (e▸O)),Yd h.own fun k bc=>E k (h.inM.2.2.1 k bc) fun e=>(h.row k bc).2.2 (e▸O),h.len,h.row,fun i c u y D=>?_,h.nodup,h.inM,fun k A=>Oc2 (h.lt k A) bb.size⟩
 by_cases hi:i=x
 ·subst hi
  rw[M]at y
  rw[A]at D
  simp only[Oc9]at y D
  subst y D
  exact bj
 have bi:c≠b:=fun e=>by
  subst e
  obtain⟨l1,Z⟩:=Ob9.1 M
  obtain⟨l2,ba⟩:=Ob9.1 y
  rcases Nat.lt_or_gt_of_ne hi with R|R
  ·exact List.pairwise_iff_getElem.1 h.nodup i x l2 l1 R (ba.trans Z.symm)
  ·exact List.pairwise_iff_getElem.1 h.nodup x i l1 l2 R (Z.trans ba.symm)
 have bl:u≠m:=fun e=>hi (h.map.inj D (e▸A))
 rw[bk u bl]
 exact(h.grp i c u y D).block (E c (h.inM.2.2.2 c (Of6 y)) bi)
theorem Klc.congr {y:Nat→Prop}{w:World}{g H:Nat}{E sv:Value}{ms:List (List V)}{A:List Nat}{K M:List V→List Tly}(h:Klc y w g H E sv ms A K)(R:∀ m∈ms,K m=M m):Klc y w g H E sv ms A M:=
 ⟨h.cells,h.map,h.own,h.len,h.row,fun i b m O D=>by rw[←R m (Of6 D)];exact h.grp i b m O D,h.nodup,h.inM,h.lt⟩
theorem Kl1.add {y:World}{b k c:Nat}{m:List V}{H:List Tly}{t:Tly}(h:Kl1 y b m H)(E:H[k]?=some t)(D:Kl2 c t)(U:c≤100000)(v:V)(O:Jg v.n):Calls prog 199 #[.pointer (some ⟨b,12+k*10,none⟩),v.val] y fun e A=>e=.returned (.tuple #[])∧Ju (·=b) y A∧Kl1 A b m (H.set k (t.add v)):=by
 have M:=h.cells
 rw[Kny E]at M
 have X:=(Ob9.1 E).1
 refine(Kp9 b (12+k*10) t v _ _ 352 y O ?_ (by have:=D.1;omega) (by have:=D.2.1;omega) M (Kpp h.lm (by omega))).mono fun e A ⟨h1,h2,K⟩=>⟨h1,h2,?_,h.lm,by simp[h.lt]⟩
 ·unfold Kpn
  obtain⟨_,_,K,R⟩:=D
  omega
 rw[Kq9 E]
 exact K
theorem Klc.ptr {M:Nat→Prop}{w:World}{g bi L K:Nat}{bh:Value}{A:Option Addr}{ms:List (List V)}{E:List Nat}{bj:List V→List Tly}(h:Klc M w g bi bh (.slice A L K) ms E bj){x b:Nat}(H:E[x]?=some b):∃ y D,A=some ⟨y,D,none⟩∧w.cell? ⟨y,D+x,none⟩=some (grV b)∧M y∧y≠b∧L=E.length:=by
 obtain⟨a,cap,U,bc⟩:=h.own.cells
 have X:=(Ob9.1 H).1
 obtain⟨y,D,bb,_,bf⟩:=bc.at (i:=x) (by simpa using X)
 simp only[On8]at U
 obtain⟨Z,ba,_⟩:=U
 have O:A=some ⟨y,D,none⟩:=Z.trans bb
 have bk:=(Value.slice A L K).ownBlock
 have R:(Value.slice A L K).ownBlock=some y:=by rw[O];rfl
 refine⟨y,D,O,?_,h.inM.2.2.1 y R,fun e=>(h.row y R).2.2 (by rw[e];exact Of6 H),by rw[ba,Oa6]⟩
 rw[bf]
 have:E[x]=b:=by rw[Oa3 X]at H;simpa using H
 simp[this]
def Kn9 (y:Nat→Prop)(w:World)(g H:Nat)(E:Value)(ms:List (List V))(K:List V→List Tly):Ending→World→Prop:=fun e w'=>
 e=.returned (.tuple #[])∧∃ (A:Nat→Prop) (sv':Value) (D:List Nat),Klc A w' g H E sv' ms D K∧Ju y w w'∧(∀ k,y k→A k)∧∀ k,A k→y k∨w.heap.size≤k
theorem Kp6 (U:Nat→Prop)(g Z kb ko X:Nat)(sv:Value)(ks:List Krv)(ms:List (List V))(cQ:List Nat)(D:List V→List Tly)(ba cap n:Nat)(hs:List (Option Addr×Nat))(cols:List (List V))(w:World)(c:Nat)
  (cW:Klc U w g Z (.slice (some ⟨kb,ko,none⟩) ks.length X) sv ms cQ D) (bz:Klj w kb ko ks) (dI:ks.length≤4) (cv:Qd w ba hs cols) (dN:1≤cols.length) (cB:∀ j,j<cols.length→(cols.getD j []).length=n) (hn:n≤100000) (cC:∀ k∈ks,k.c<cols.length) (dk:ms.length+n≤100000) (bN:∀ r,r<n→okM (mkL ks cols r)) (du:∀ r,r<n→mkL ks cols r∉ms→D (mkL ks cols r)=Kqi)
  (dc:∀ m j,Kl2 c ((D m).getD j Klg)) (dG:c+n≤100000) (dt:∀ ky∈ks,∀ r,r<n→Jg (kyV cols ky r).n) (cY:¬ U kb∧kb<w.heap.size) (cU:Jbo ba hs cols.length (fun b=>¬ U b∧b<w.heap.size)) :
  Calls prog 151 #[.pointer (some ⟨g,0,none⟩),.slice (some ⟨ba,0,none⟩) cols.length cap] w (Kn9 U w g Z (.slice (some ⟨kb,ko,none⟩) ks.length X) (Kld ms (mkL ks cols) n) (tfI ks cols n (mkL ks cols) D ks.length 0)):=by
 have dd:=Kos U g Z kb ko X sv ks ms cQ D ba cap n hs cols w cW bz dI cv dN cB hn cC dk bN du
 have cc:Hid ((∀ j,j<cols.length→(cols.getD j []).length=n)∧∀ k∈ks,k.c<cols.length):=⟨cB,cC⟩
 have cb:Hid ((∀ m j,Kl2 c ((D m).getD j Klg))∧∀ ky∈ks,∀ r,r<n→Jg (kyV cols ky r).n):=⟨dc,dt⟩
 have ch:Hid (Klj w kb ko ks∧Qd w ba hs cols):=⟨bz,cv⟩
 have K:Hid ((¬ U kb∧kb<w.heap.size)∧Jbo ba hs cols.length (fun b=>¬ U b∧b<w.heap.size)):=⟨cY,cU⟩
 clear cW bz cv cB cC dk bN du dc dt cY cU
 go_enter func151,ntmps151
 go_upto_region 1 with fail
 refine dd.mono ?_
 clear dd
 rintro e E ⟨bG,A,dU,y,ns,rfl,bM,br,dj,bk,cZ,cx,cS,dP⟩
 obtain⟨bS,bi,dr,_⟩:=br.own.cells
 rw[Oa6]at dr
 subst dr
 have cX:Klj E kb ko ks:=fun j ky bK=>by
  have bc:=bk.block kb K.out.1.2 K.out.1.1
  obtain⟨h1,h2,cu,dD⟩:=ch.out.1 j ky bK
  exact⟨(Oc3 bc).trans h1,(Oc3 bc).trans h2,(Oc3 bc).trans cu,(Oc3 bc).trans dD⟩
 have cT:Qd E ba hs cols:=ch.out.2.kp (Fx:=fun b=>¬ U b∧b<w.heap.size) ⟨bk.size,fun k bb=>bk.block k bb.2 bb.1⟩ K.out.2
 have bY:∀ k,k<w.heap.size→¬ U k→¬ A k:=fun k h1 h2 cu=>by
  rcases cx k cu with h|h
  ·exact h2 h
  omega
 have cM:Hid (Klc A E g Z (.slice (some ⟨kb,ko,none⟩) ks.length X) (.slice bS y.length bi) (Kld ms (mkL ks cols) n) y (tfI ks cols n (mkL ks cols) D 0 0)):=br.congr fun m cF=>by
  obtain⟨i,hi⟩:=List.getElem?_of_mem cF
  have bC:i<y.length:=by rw[br.len];exact(Ob9.1 hi).1
  exact(Kq0 (br.grp i _ m (Oa3 bC) hi).lt).symm
 have dC:E.cell? ⟨g,0,none⟩=some (.slice (some ⟨kb,ko,none⟩) ks.length X):=by simp[World.cell?,br.cells]
 have bU:Hid (Ju U w E∧(∀ k,U k→A k)∧∀ k,A k→U k∨w.heap.size≤k):=⟨bk,cZ,cx⟩
 have dx:Hid (∀ j,j<n→(Kld ms (mkL ks cols) n)[ns.getD j 0]?=some (mkL ks cols j)):=dj
 have bn:Hid (Klj E kb ko ks∧Qd E ba hs cols∧¬ A kb∧Jbo ba hs cols.length (fun b=>¬ A b∧b<E.heap.size)∧kb<E.heap.size):=⟨cX,cT,bY kb K.out.1.2 K.out.1.1,⟨⟨bY _ K.out.2.1.2 K.out.2.1.1,Oc2 K.out.2.1.2 bk.size⟩,fun j bK b o e=>⟨bY b (K.out.2.2 j bK b o e).2 (K.out.2.2 j bK b o e).1,Oc2 (K.out.2.2 j bK b o e).2 bk.size⟩⟩,Oc2 K.out.1.2 bk.size⟩
 have cN:Hid (E.rowIs bG 3 n (fun j=>.int .i64 (ns.getD j 0:Nat))):=bM
 clear dj bk cZ cx cX cT bY bM ch K
 have dz:Hid ((Kld ms (mkL ks cols) n).length=y.length):=br.len.symm
 clear br
 go_upto_region 2 with fail
 go_loopw [17] (fun s wr=>∃ k:Nat,k≤ks.length∧s=.int .i64 k∧Hid (Klc A wr g Z (.slice (some ⟨kb,ko,none⟩) ks.length X) (.slice bS y.length bi) (Kld ms (mkL ks cols) n) y (tfI ks cols n (mkL ks cols) D k 0))∧Ju A E wr) (fun s _=>ks.length-(intOf s).toNat)
 case atStart=>exact⟨0,Ob7 _,rfl,cM,Ju.refl _ _⟩
 case round=>
  obtain⟨k,bb,rfl,bI,R⟩:=hrel
  clear cM dC
  by_cases cE:k<ks.length
  ·have bc:=R.block kb bn.out.2.2.2.2 bn.out.2.2.1
   obtain⟨bO,bP,bQ,bR⟩:=bn.out.1 k ks[k] (Oa3 cE)
   replace bO:=(Oc3 bc).trans bO
   replace bP:=(Oc3 bc).trans bP
   replace bQ:=(Oc3 bc).trans bQ
   replace bR:=(Oc3 bc).trans bR
   have ci:Hid (ks[k]?=some ks[k]):=Oa3 cE
   have dK:=cc.out.2 ks[k] (Ob3 cE)
   clear bc
   generalize ks[k]=ky at bO bP bQ bR ci dK
   obtain⟨O,bu⟩:∃ O,O=if ky.f=1 then 0 else ky.c:=⟨_,rfl⟩
   have bV:O<cols.length:=by rw[bu];split<;>omega
   have dy:Hid (∀ r,kyV cols ky r=(cols.getD O []).getD r Jf):=fun r=>by unfold kyV;rw[bu]
   have de:Below wr.heap.size wr (wr.alloc (.cells #[.int .i64 (ky.c:Nat),.int .i64 ky.o,.bool ky.d,.int .i64 (ky.f:Nat)] 38)):=Jc (Oa5 _ _) _
   have dv:=heap_alloc_new wr (.cells #[.int .i64 (ky.c:Nat),.int .i64 ky.o,.bool ky.d,.int .i64 (ky.f:Nat)] 38)
   have cV:Qd wr ba hs cols:=bn.out.2.1.kp (Fx:=fun b=>¬ A b∧b<E.heap.size) ⟨R.size,fun k bb=>R.block k bb.2 bb.1⟩ bn.out.2.2.2.1
   have bf:=cV.row.cell bV
   rw[cc.out.1 O bV]at bf
   have cj:Hid ((∀ M,Ju A E M→Jv M (Yo hs O).1 (cols.getD O []))∧(cols.getD O []).length=n):=⟨fun M da=>(bn.out.2.1.kp (Fx:=fun b=>¬ A b∧b<E.heap.size) ⟨da.size,fun k bb=>da.block k bb.2 bb.1⟩ bn.out.2.2.2.1).vals O bV,cc.out.1 O bV⟩
   clear cV
   generalize (Yo hs O).1=dV at bf cj
   generalize (Yo hs O).2=dW at bf
   by_cases hf:ky.f=1
   focus
    have q:(((ky.f:Nat):Int)==1)=true:=by simp[hf]
    rw[if_pos hf]at bu
    rw[bu]at bf
    have cA:=Kf (o:=(.cells #[.int .i64 0,.int .i64 ky.o,.bool ky.d,.int .i64 1] 38)) bf
    go_upto_region 7 with fail
    have bH:Hid (Klc A (wr.alloc (.cells #[.int .i64 0,.int .i64 ky.o,.bool ky.d,.int .i64 1] 38)) g Z (.slice (some ⟨kb,ko,none⟩) ks.length X) (.slice bS y.length bi) (Kld ms (mkL ks cols) n) y (tfI ks cols n (mkL ks cols) D k 0)):=bI.out.below (Jc (Oa5 _ _) _)
    have bL:=R.alloc (.cells #[.int .i64 0,.int .i64 ky.o,.bool ky.d,.int .i64 1] 38)
    clear cA bf bI R dv de bO bP bQ bR q
    generalize wr.alloc (.cells #[.int .i64 0,.int .i64 ky.o,.bool ky.d,.int .i64 1] 38)=dB at bH bL ⊢
   rotate_left 1
   focus
    have q:(((ky.f:Nat):Int)==1)=false:=by rw[beq_eq_false_iff_ne];omega
    rw[if_neg hf]at bu
    rw[bu]at bf
    have cA:=Kf (o:=(.cells #[.int .i64 (ky.c:Nat),.int .i64 ky.o,.bool ky.d,.int .i64 (ky.f:Nat)] 38)) bf
    go_upto_region 7 with fail
    have bH:Hid (Klc A (wr.alloc (.cells #[.int .i64 (ky.c:Nat),.int .i64 ky.o,.bool ky.d,.int .i64 (ky.f:Nat)] 38)) g Z (.slice (some ⟨kb,ko,none⟩) ks.length X) (.slice bS y.length bi) (Kld ms (mkL ks cols) n) y (tfI ks cols n (mkL ks cols) D k 0)):=bI.out.below (Jc (Oa5 _ _) _)
    have bL:=R.alloc (.cells #[.int .i64 (ky.c:Nat),.int .i64 ky.o,.bool ky.d,.int .i64 (ky.f:Nat)] 38)
    clear cA bf bI R dv de bO bP bQ bR q
    generalize wr.alloc (.cells #[.int .i64 (ky.c:Nat),.int .i64 ky.o,.bool ky.d,.int .i64 (ky.f:Nat)] 38)=dB at bH bL ⊢
   all_goals
    clear bu
    go_loopw [32] (fun s wr=>∃ i:Nat,i≤n∧s=.int .i64 i∧Hid (Klc A wr g Z (.slice (some ⟨kb,ko,none⟩) ks.length X) (.slice bS y.length bi) (Kld ms (mkL ks cols) n) y (tfI ks cols n (mkL ks cols) D k i))∧Ju A E wr) (fun s _=>n-(intOf s).toNat)
    case atStart=>exact⟨0,Ob7 _,rfl,bH,bL⟩
    case round=>
     obtain⟨i,hi,rfl,bj,R⟩:=hrel
     clear bH bL
     by_cases bC:i<n
     ·have cH:i<(cols.getD O []).length:=by rw[cj.out.2];exact bC
      obtain⟨b2,dT,rfl,_,cI,cJ,cK⟩:=(cj.out.1 wr R).at cH
      rw[Kn2 cH,←dy.out i]at cI cJ cK
      have ds:=cb.out.2 ky (Of6 ci.out) i bC
      have cO:Hid ((tfI ks cols n (mkL ks cols) D k (i+1)) (mkL ks cols i)=((tfI ks cols n (mkL ks cols) D k i) (mkL ks cols i)).set k ((tlI ks cols n (mkL ks cols) D k i (mkL ks cols i) k).add (kyV cols ky i))):=Kqv ci.out (by omega)
      obtain⟨v,bN⟩:∃ v,v=kyV cols ky i:=⟨_,rfl⟩
      rw[←bN]at cI cJ cK ds cO
      clear bN cH
      obtain⟨x,cG⟩:∃ x,x=ns.getD i 0:=⟨_,rfl⟩
      have bX:=dx.out i bC
      rw[←cG]at bX
      have bM:=cN.out.of_block (R.block bG cN.out.lt cS)
      have bl:=bM.cell bC
      rw[←cG]at bl
      clear cG bM
      have dO:x<y.length:=by rw[←dz.out];exact(Ob9.1 bX).1
      have bB:y[x]?=some y[x]:=Oa3 dO
      generalize y[x]=b at bB
      obtain⟨bD,bT,rfl,bx,dR,dL,_⟩:=bj.out.ptr bB
      have dh:=bj.out.cells
      have g2:wr.cell? ⟨g,2,none⟩=some (.slice (some ⟨bD,bT,none⟩) y.length bi):=by simp[World.cell?,dh]
      have di:=bj.out.grp x b _ bB bX
      have cz:=bj.out.inM.2.2.2 b (Of6 bB)
      have dH:g≠b:=fun e=>bj.out.apart.1 (by rw[e];exact Of6 bB)
      have dE:bG≠b:=fun e=>cS (by rw[e];exact cz)
      have df:=bj.out.lt b cz
      have bA:Below wr.heap.size wr (wr.alloc (.cells #[.int .i64 v.k,.int .i64 v.n,.string v.s] 63)):=Jc (Oa5 _ _) _
      have bE:=heap_alloc_new wr (.cells #[.int .i64 v.k,.int .i64 v.n,.string v.s] 63)
      have db:=(show Kl1 (wr.alloc (.cells #[.int .i64 v.k,.int .i64 v.n,.string v.s] 63)).drew b _ _ from di.block (bA.block b df)).add (k:=k) (Krq ks cols n (mkL ks cols) D k i _ (by omega)) (Krc (fun j=>cb.out.1 _ j) hi cb.out.2 k) dG v ds
      have ca:Hid (Calls prog 199 #[.pointer (some ⟨b,12+k*10,none⟩),v.val] (wr.alloc (.cells #[.int .i64 v.k,.int .i64 v.n,.string v.s] 63)).drew fun e cP=>e=.returned (.tuple #[])∧Ju (·=b) (wr.alloc (.cells #[.int .i64 v.k,.int .i64 v.n,.string v.s] 63)).drew cP∧Kl1 cP b (mkL ks cols i) (((tfI ks cols n (mkL ks cols) D k i) (mkL ks cols i)).set k ((tlI ks cols n (mkL ks cols) D k i (mkL ks cols i) k).add v))):=db
      clear db di dh
      go_upto_region 9 with fail
      have cD:=R.alloc (.cells #[.int .i64 v.k,.int .i64 v.n,.string v.s] 63)
      have cf:Hid (Klc A (wr.alloc (.cells #[.int .i64 v.k,.int .i64 v.n,.string v.s] 63)) g Z (.slice (some ⟨kb,ko,none⟩) ks.length X) (.slice (some ⟨bD,bT,none⟩) y.length bi) (Kld ms (mkL ks cols) n) y (tfI ks cols n (mkL ks cols) D k i)):=bj.out.below bA
      have bZ:wr.heap.size≠b:=by omega
      replace g2:=Ja bA g2
      replace bl:=Ja bA bl
      replace bx:=Ja bA bx
      generalize wr.alloc (.cells #[.int .i64 v.k,.int .i64 v.n,.string v.s] 63)=bJ at bA bE ca cD cf g2 bl bx ⊢
      generalize wr.heap.size=bv at bE bZ ⊢
      have cl:bJ.cell? ⟨bv,0,none⟩=some (.int .i64 v.k):=by simp[World.cell?,bE]
      have cn:bJ.cell? ⟨bv,1,none⟩=some (.int .i64 v.n):=by simp[World.cell?,bE]
      have cr:bJ.cell? ⟨bv,2,none⟩=some (.string v.s):=by simp[World.cell?,bE]
      have dS:(x:Int)<(y.length:Nat):=by omega
      have dQ:(k:Int)<4:=by omega
      clear cI cJ cK df
      refine wp_region_held_drew (S:=fun M=>M.cell? ⟨g,2,none⟩=some (.slice (some ⟨bD,bT,none⟩) y.length bi)∧M.cell? ⟨bG,i,none⟩=some (.int .i64 (x:Nat))∧M.cell? ⟨bD,bT+x,none⟩=some (grV b)∧M.cell? ⟨bv,0,none⟩=some (.int .i64 v.k)∧M.cell? ⟨bv,1,none⟩=some (.int .i64 v.n)∧M.cell? ⟨bv,2,none⟩=some (.string v.s)) (by kernel_rfl) ⟨g2,bl,bx,cl,cn,cr⟩ (fun H=>?_)
      refine tk 0 ?_ rfl H ?_ (tk 1 ?_ rfl H ?_ (tk 2 ?_ rfl H ?_ (tk 3 ?_ rfl H ?_ (tk 4 ?_ rfl H ?_ (tk 5 ?_ rfl H ?_ (tk 6 ?_ rfl H ?_ (tk 7 ?_ rfl H ?_ ?_)))))))
      iterate 8
       rotate_left 1
       ·intro w cy;(try dsimp only at cy);go_simp;try rfl
      simp only[Act.put,List.getElem_toArray,List.getElem_cons_zero,List.getElem_cons_succ,Oa1,List.set_cons_zero,List.set_cons_succ]
      refine tk 8 ?_ rfl H ?_ (tk 9 ?_ rfl H ?_ (tk 10 ?_ rfl H ?_ (tk 11 ?_ rfl H ?_ (tk 12 ?_ rfl H ?_ (tk 13 ?_ rfl H ?_ (tk 14 ?_ rfl H ?_ ?_))))))
      iterate 7
       rotate_left 1
       ·intro w cy;(try dsimp only at cy);go_simp;try rfl
      simp only[Act.put,List.getElem_toArray,List.getElem_cons_zero,List.getElem_cons_succ,Oa1,List.set_cons_zero,List.set_cons_succ]
      refine wpAnyH_ready (rs:=[15]) (by kernel_rfl) (by simp) (AllReadyH.cons rfl (fun dA bz=>?_) AllReadyH.nil)
      go_simp
      refine ca.out.mono ?_
      rintro e M ⟨rfl,bh,dg⟩
      go_simp
      have dp:=Jm g2
      have dm:=Jm bl
      have dq:=Jm bx
      have bW:=Jd bE
      refine bz.out _ _ ⟨(Oc3 (bh.block g dp dH)).trans g2,(Oc3 (bh.block bG dm dE)).trans bl,(Oc3 (bh.block bD dq dL)).trans bx,(Oc3 (bh.block bv bW bZ)).trans cl,(Oc3 (bh.block bv bW bZ)).trans cn,(Oc3 (bh.block bv bW bZ)).trans cr⟩ (fun _=>?_)
      clear bz dA H
      refine wpAnyH_done (by kernel_rfl) ?_ _
      have dw:Hid (Klc A M g Z (.slice (some ⟨kb,ko,none⟩) ks.length X) (.slice (some ⟨bD,bT,none⟩) y.length bi) (Kld ms (mkL ks cols) n) y (tfI ks cols n (mkL ks cols) D k (i+1))):=(show Klc A bJ.drew g Z _ _ _ y _ from cf.out.stands (Oa2 _) fun _ _=>rfl).turn bB bX bh (by rw[cO.out];exact dg) fun u dM=>Kp7 dM
      have dJ:Ju A E M:=(Klq (W':=bJ.drew) cD).trans (Kmm bh fun k e=>by rw[e];exact cz)
      clear bh dg cf cD ca g2 bl bx cl cn cr dp dm dq bW
      go_wp2
      exact⟨⟨i+1,by omega,by go_num,dw,dJ⟩,by simp[intOf];omega⟩
     obtain rfl:i=n:=by omega
     go_wp2
     exact⟨⟨k+1,by omega,by go_num,bj.out.congr fun m _=>Kqj ks cols i (mkL ks cols) D k m,R⟩,by simp[intOf];omega⟩
  obtain rfl:k=ks.length:=by omega
  go_wp2
  go_end0
  refine⟨rfl,A,_,y,bI.out,bU.out.1.trans' (G:=A) R fun k bb cF=>?_,bU.out.2.1,bU.out.2.2⟩
  rcases bU.out.2.2 k cF with h|h
  ·exact h
  omega
def kyF (ks:List Krv)(j:Nat):Nat:=match ks[j]? with|some k=>k.f|none=>0
def tdV (ks:List Krv)(y:List V→List Tly)(m:List V)(j:Nat):V×Bool:=Km5 m (y m) j (kyF ks j)
def tcI (ks:List Krv)(ms:List (List V))(y:List V→List Tly)(x k:Nat):List (List V):=(List.range ks.length).map fun j=>(ms.take (if j<k then x+1 else x)).map fun m=>(tdV ks y m j).1
theorem Kl9 (ks:List Krv)(ms:List (List V))(y:List V→List Tly)(x k:Nat):(tcI ks ms y x k).length=ks.length:=by simp[tcI]
theorem Kot {ks:List Krv}{ms:List (List V)}{y:List V→List Tly}{x k j:Nat}(A:j<ks.length):(tcI ks ms y x k).getD j []=(ms.take (if j<k then x+1 else x)).map fun m=>(tdV ks y m j).1:=by
 unfold tcI
 rw[Oa0,Ob1,Oh6 A]
 rfl
theorem Kqn (ks:List Krv)(ms:List (List V))(y:List V→List Tly):tcI ks ms y 0 0=List.replicate ks.length []:=by
 unfold tcI
 rw[Oj9 (g:=fun _=>[]) fun j _=>by simp,List.map_const',Op1]
theorem Kqm (ks:List Krv)(ms:List (List V))(y:List V→List Tly)(x:Nat):tcI ks ms y x ks.length=tcI ks ms y (x+1) 0:=by
 unfold tcI
 refine Oj9 fun j A=>?_
 rw[if_pos (Oj4.1 A),if_neg (by omega)]
theorem Kqx {ks:List Krv}{ms:List (List V)}{y:List V→List Tly}{x k:Nat}{m:List V}(D:k<ks.length)(K:ms[x]?=some m):tcI ks ms y x (k+1)=(tcI ks ms y x k).set k ((tcI ks ms y x k).getD k []++[(tdV ks y m k).1]):=by
 apply Oi8
 intro j
 rw[Op2]
 by_cases A:j<ks.length
 ·have E:(tcI ks ms y x (k+1))[j]?=some ((ms.take (if j<k+1 then x+1 else x)).map fun m=>(tdV ks y m j).1):=by
   unfold tcI;rw[Ob1,Oh6 A];rfl
  have H:(tcI ks ms y x k)[j]?=some ((ms.take (if j<k then x+1 else x)).map fun m=>(tdV ks y m j).1):=by
   unfold tcI;rw[Ob1,Oh6 A];rfl
  rw[E,H]
  by_cases h:k=j
  ·subst h
   rw[if_pos (show k<k+1 by omega),if_pos rfl,if_pos (by rw[Kl9];exact D),Kot D,if_neg (Oe3 _),Oi7,K]
   simp
  rw[if_neg h]
  by_cases h2:j<k
  ·rw[if_pos (by omega),if_pos h2]
  rw[if_neg (by omega),if_neg h2]
 rw[Ob4 (by rw[Kl9];omega),if_neg (by omega),Ob4 (by rw[Kl9];omega)]
def Klz (ks:List Krv)(ms:List (List V))(A:List V→List Tly)(x k:Nat):Prop:=∀ (y:Nat) m j,ms[y]?=some m→j<ks.length→(y<x∨y=x∧j<k)→(tdV ks A m j).2=true
def Kmj (w:World)(E:Addr)(ks:List Krv)(ms:List (List V))(A:List V→List Tly):Ending→World→Prop:=fun e w'=>Below w.heap.size w w' ∧
 ((∃ (y:Nat) (H:List Value),e=.returned (.tuple #[.slice (some ⟨y,0,none⟩) ks.length ks.length,.nilIface])∧w.heap.size≤y∧Jar w' y y H (tcI ks ms A ms.length 0)∧Klz ks ms A ms.length 0) ∨
  (∃ (D x k:Nat) (m:List V),e=.returned (.tuple #[.slice none 0 0,.iface 152 (.pointer (some ⟨D,0,none⟩))])∧w.heap.size≤D∧w'.heap[D]?=some (.cells #[.int .i64 (x:Nat),.int .i64 (k:Nat),.iface 435 (.pointer (some E))] 158 (0,0))∧ms[x]?=some m∧k<ks.length∧(tdV ks A m k).2=false∧Klz ks ms A x k))
theorem Kpw (ca:Nat→Prop)(g cA kb ko bH:Nat)(sv:Value)(ks:List Krv)(ms:List (List V))(bf:List Nat)(E:List V→List Tly)(w:World)(bi:Addr)
  (bz:Klc ca w g cA (.slice (some ⟨kb,ko,none⟩) ks.length bH) sv ms bf E) (D:Klj w kb ko ks) (dD:ks.length≤4) (hf:∀ k∈ks,k.f≤5) (dG:ms.length≤100000) (dg:w.cell? ⟨12,0,none⟩=some (.iface 435 (.pointer (some bi)))) :
  Calls prog 152 #[.pointer (some ⟨g,0,none⟩)] w (Kmj w bi ks ms E):=by
 have bG:=Jiz ks.length w (by omega)
 obtain⟨cB,cC,cQ,_⟩:=bz.own.cells
 rw[Oa6,bz.len]at cQ
 subst cQ
 have cn:=bz.cells
 have bK:w.cell? ⟨g,0,none⟩=some (.slice (some ⟨kb,ko,none⟩) ks.length bH):=by simp[World.cell?,cn]
 have g2:w.cell? ⟨g,2,none⟩=some (.slice cB ms.length cC):=by simp[World.cell?,cn]
 have bc:Hid (Klc ca w g cA (.slice (some ⟨kb,ko,none⟩) ks.length bH) (.slice cB ms.length cC) ms bf E):=bz
 have cE:Hid (Klj w kb ko ks∧∀ k∈ks,k.f≤5):=⟨D,hf⟩
 clear bz D hf cn
 go_enter func152,ntmps152
 go_upto_region 2 with(go_at_call 78;refine bG.mono ?_;rintro e dA ⟨rfl,cj,bM⟩)
 have dh:=Ja bM bK
 have di:=Ja bM g2
 obtain⟨y,cz⟩:∃ y,y=w.heap.size:=⟨_,rfl⟩
 rw[←cz]at cj ⊢
 have bZ:Hid (y=w.heap.size):=cz
 clear cz bG bK g2
 go_upto_region 3 with fail
 go_loopw [22] (fun s wr=>∃ (x:Nat) (br:List Value),x≤ms.length∧s=.int .i64 x∧Jar wr y y br (tcI ks ms E x 0)∧Hid (Klz ks ms E x 0)∧Below w.heap.size w wr) (fun s _=>ms.length-(intOf s).toNat)
 case atStart=>exact⟨0,_,Ob7 _,rfl,by rw[Kqn];exact cj,fun bI m j _ _ h=>by omega,bM⟩
 case round=>
  obtain⟨x,br,dI,rfl,cl,bV,bj⟩:=hrel
  clear cj bM dh di
  by_cases cU:x<ms.length
  ·have bQ:ms[x]?=some ms[x]:=Oa3 cU
   have cD:Hid (Klc ca wr g cA (.slice (some ⟨kb,ko,none⟩) ks.length bH) (.slice cB ms.length cC) ms bf E):=bc.out.stands bj.size fun k dk=>bj.block k (bc.out.lt k dk)
   have cT:x<bf.length:=by rw[bc.out.len];exact cU
   have bD:bf[x]?=some bf[x]:=Oa3 cT
   generalize ms[x]=m at bQ
   generalize bf[x]=b at bD
   obtain⟨dJ,dK,rfl,dx,-,-,-⟩:=cD.out.ptr bD
   have bK:=Ja bj (show w.cell? ⟨g,0,none⟩=some (.slice (some ⟨kb,ko,none⟩) ks.length bH) by simp[World.cell?,bc.out.cells])
   have cZ:Hid (∀ H,Below w.heap.size w H→Kl1 H b m (E m)):=fun H dd=>(bc.out.grp x b m bD bQ).block (dd.block b (bc.out.lt b (bc.out.inM.2.2.2 b (Of6 bD))))
   have bW:Hid (ms[x]?=some m):=bQ
   clear bQ bD cT
   go_upto_region 6 with fail
   clear dx bK
   go_loopw [32] (fun s wr=>∃ (k:Nat) (br:List Value),k≤ks.length∧s=.int .i64 k∧Jar wr y y br (tcI ks ms E x k)∧Hid (Klz ks ms E x k)∧Below w.heap.size w wr) (fun s _=>ks.length-(intOf s).toNat)
   case atStart=>exact⟨0,br,Ob7 _,rfl,cl,bV,bj⟩
   case round=>
    obtain⟨k,ba,dC,rfl,bE,bU,bO⟩:=hrel
    clear cl bV bj cD
    by_cases X:k<ks.length
    ·obtain⟨cV,cW,cX,cY⟩:=cE.out.1.below bO k ks[k] (Oa3 X)
     have cF:Hid (ks[k]?=some ks[k]):=Oa3 X
     have cI:=cE.out.2 ks[k] (Ob3 X)
     generalize ks[k]=ky at cV cW cX cY cF cI
     have bA:Below wr.heap.size wr (wr.alloc (.cells #[.int .i64 (ky.c:Nat),.int .i64 ky.o,.bool ky.d,.int .i64 (ky.f:Nat)] 38)):=Jc (Oa5 _ _) _
     have bC:=Jb bO bA
     have bl:=Kp1 b k ky.f m (E m) (wr.alloc (.cells #[.int .i64 (ky.c:Nat),.int .i64 ky.o,.bool ky.d,.int .i64 (ky.f:Nat)] 38)) bi (cZ.out _ bC) (by omega) cI (Ja bC dg)
     have cS:Km5 m (E m) k ky.f=tdV ks E m k:=by unfold tdV kyF;rw[cF.out]
     rw[cS]at bl
     obtain⟨v,ok,cx⟩:∃ v ok,tdV ks E m k=(v,ok):=⟨_,_,rfl⟩
     have bY:Hid (tdV ks E m k=(v,ok)):=cx
     rw[cx]at bl
     clear cS cx
     cases ok
     ·have bR:Calls prog 200 #[.pointer (some ⟨b,0,none⟩),.int .i64 (k:Nat),.int .i64 (ky.f:Nat)] (wr.alloc (.cells #[.int .i64 (ky.c:Nat),.int .i64 ky.o,.bool ky.d,.int .i64 (ky.f:Nat)] 38)) fun e w'=>e=.returned (.tuple #[v.val,.iface 435 (.pointer (some bi))])∧Below (wr.alloc (.cells #[.int .i64 (ky.c:Nat),.int .i64 ky.o,.bool ky.d,.int .i64 (ky.f:Nat)] 38)).heap.size (wr.alloc (.cells #[.int .i64 (ky.c:Nat),.int .i64 ky.o,.bool ky.d,.int .i64 (ky.f:Nat)] 38)) w':=bl
      clear bl
      go_wp2_with (go_at_call 200;refine bR.mono ?_;rintro e H ⟨rfl,bh⟩)
      go_ret2
      have bB:=Jb bC bh
      have df:=Jc (Jc bB (.cells #[.int .i64 v.k,.int .i64 v.n,.string v.s] 63)) (.cells #[.int .i64 (x:Nat),.int .i64 (k:Nat),.iface 435 (.pointer (some bi))] 158)
      refine⟨df,.inr ⟨H.heap.size+1,x,k,m,rfl,by have:=bB.size;omega,?_,bW.out,X,by rw[bY.out],bU.out⟩⟩
      have:=heap_alloc_new (H.alloc (.cells #[.int .i64 v.k,.int .i64 v.n,.string v.s] 63)) (.cells #[.int .i64 (x:Nat),.int .i64 (k:Nat),.iface 435 (.pointer (some bi))] 158)
      rwa [Oa7]at this
     have bR:Calls prog 200 #[.pointer (some ⟨b,0,none⟩),.int .i64 (k:Nat),.int .i64 (ky.f:Nat)] (wr.alloc (.cells #[.int .i64 (ky.c:Nat),.int .i64 ky.o,.bool ky.d,.int .i64 (ky.f:Nat)] 38)) fun e w'=>e=.returned (.tuple #[v.val,.nilIface])∧Below (wr.alloc (.cells #[.int .i64 (ky.c:Nat),.int .i64 ky.o,.bool ky.d,.int .i64 (ky.f:Nat)] 38)).heap.size (wr.alloc (.cells #[.int .i64 (ky.c:Nat),.int .i64 ky.o,.bool ky.d,.int .i64 (ky.f:Nat)] 38)) w':=bl
     clear bl
     have dm:=run_neq_nil_nil (P:=prog)
     go_upto_region 11 with(go_at_call 200;refine bR.mono ?_;rintro e H ⟨rfl,bh⟩)
     have bB:=Jb bC bh
     have ci:Below H.heap.size H (H.alloc (.cells #[.int .i64 v.k,.int .i64 v.n,.string v.s] 63)):=Jc (Oa5 _ _) _
     have bu:=heap_alloc_new H (.cells #[.int .i64 v.k,.int .i64 v.n,.string v.s] 63)
     have cH:=Jb bB ci
     have R:=bE.below (Jb (Jb bA bh) ci)
     have cP:y≠H.heap.size:=by have:=bE.row.lt;have:=(Jb bA bh).size;omega
     have cJ:k<(tcI ks ms E x k).length:=by rw[Kl9];exact X
     have cv:∀ z,(Uq ba k).ownBlock=some z→z≠H.heap.size:=fun z Z=>by have:=(Je (bE.own k cJ) Z).2;have:=(Jb bA bh).size;omega
     clear bR dm bh bA bC ci bB bE bO cV cW cX cY cJ
     generalize H.alloc (.cells #[.int .i64 v.k,.int .i64 v.n,.string v.s] 63)=K at bu cH R ⊢
     generalize H.heap.size=bv at bu cP cv ⊢
     have bP:k<(tcI ks ms E x k).length:=by rw[Kl9];exact X
     have c5:=R.row.cell (i:=k) (by rw[R.len];exact bP)
     have bk:=R.own k bP
     have bX:Hid (∀ (w':World) (sv':Value),Yt w' y sv' ((tcI ks ms E x k).getD k []++[v])→(K.alloc (.cells #[.int .i64 v.k,.int .i64 v.n,.string v.s] 63)).grownBy w' (Uq ba k).ownBlock→(sv'.ownBlock=(Uq ba k).ownBlock∨sv'.ownBlock=some (K.alloc (.cells #[.int .i64 v.k,.int .i64 v.n,.string v.s] 63)).heap.size)→Jar (w'.setCell ⟨y,k,none⟩ sv') y y (ba.set k sv') (tcI ks ms E x (k+1))):=fun w' sv' h1 h2 dc=>by
      rw[Kqx X bW.out,bY.out]
      exact(R.below (Jc (Oa5 _ _) _)).put bP h1 h2 dc
     have dq:((tcI ks ms E x k).getD k []).length≤100000:=by rw[Kot X,Oa6,Oc7];omega
     have cK:(Uq ba k).ownBlock≠some y:=R.ne k bP
     have cN:∀ z,(Uq ba k).ownBlock=some z→z<K.heap.size∧y≤z:=fun z Z=>⟨(Je bk Z).2,(Je bk Z).1⟩
     have dv:=R.row.lt
     have dp:=R.row
     generalize (tcI ks ms E x k).getD k []=bb at bk bX dq
     generalize Uq ba k=sv at c5 bk bX cK cN cv
     have cb:K.cell? ⟨bv,0,none⟩=some (.int .i64 v.k):=by simp[World.cell?,bu]
     have cc:K.cell? ⟨bv,1,none⟩=some (.int .i64 v.n):=by simp[World.cell?,bu]
     have cf:K.cell? ⟨bv,2,none⟩=some (.string v.s):=by simp[World.cell?,bu]
     have dE:(k:Int)<(ks.length:Nat):=by omega
     have O:Below K.heap.size K (K.alloc (.cells #[.int .i64 v.k,.int .i64 v.n,.string v.s] 63)):=Jc (Oa5 _ _) _
     have da:=Ja O c5
     have dz:=heap_alloc_new K (.cells #[.int .i64 v.k,.int .i64 v.n,.string v.s] 63)
     obtain⟨dw,dj,ds,dt,du⟩:=info_parts Jow
     have cO:(K.alloc (.cells #[.int .i64 v.k,.int .i64 v.n,.string v.s] 63)).drew.ownsRow y 63 3 sv bb.length (bb.flatMap V.cells):=bk.alloc _
     refine wp_region_held_drew (S:=fun H=>H.cell? ⟨bv,0,none⟩=some (.int .i64 v.k)∧H.cell? ⟨bv,1,none⟩=some (.int .i64 v.n)∧H.cell? ⟨bv,2,none⟩=some (.string v.s)) (by kernel_rfl) ⟨cb,cc,cf⟩ (fun A=>?_)
     refine tk 0 ?_ rfl A ?_ (tk 1 ?_ rfl A ?_ (tk 2 ?_ rfl A ?_ (tk 3 ?_ rfl A ?_ (tk 4 ?_ rfl A ?_ (tk 6 ?_ rfl A ?_ ?_)))))
     iterate 6
      rotate_left 1
      ·intro w ch;(try dsimp only at ch);go_simp;try rfl
     simp only[Act.put,List.getElem_toArray,List.getElem_cons_zero,List.getElem_cons_succ,Oa1,List.set_cons_zero,List.set_cons_succ]
     refine wpAnyH_ready (rs:=[5,7]) (by kernel_rfl) (by simp) (AllReadyH.cons rfl (fun M D=>?_) (AllReadyH.cons rfl (fun M D=>?_) AllReadyH.nil))
     focus
      go_simp
      refine D.out _ _ A (fun A=>?_)
      clear D M
      refine wpAnyH_ready (rs:=[7]) (by kernel_rfl) (by simp) (AllReadyH.cons rfl (fun M D=>?_) AllReadyH.nil)
      go_simp
      refine D.out _ _ ⟨Ja O A.1,Ja O A.2.1,Ja O A.2.2⟩ (fun A=>?_)
      clear D M
     rotate_left 1
     focus
      go_simp
      refine D.out _ _ ⟨Ja O A.1,Ja O A.2.1,Ja O A.2.2⟩ (fun A=>?_)
      clear D M
      refine wpAnyH_ready (rs:=[5]) (by kernel_rfl) (by simp) (AllReadyH.cons rfl (fun M D=>?_) AllReadyH.nil)
      go_simp
      refine D.out _ _ A (fun A=>?_)
      clear D M
     all_goals
      refine wpAnyH_ready (rs:=[8]) (by kernel_rfl) (by simp) (AllReadyH.cons rfl (fun M D=>?_) AllReadyH.nil)
      refine step_append_lies (K.alloc (.cells #[.int .i64 v.k,.int .i64 v.n,.string v.s] 63)).drew rfl (.tmp 58) (.tmp 60) 54 rfl y 63 dw (.agg #[.int .i64 0,.int .i64 0,.string ⟨#[]⟩]) 3 32 (by kernel_rfl) dj ds dt du rfl (by decide) sv bb.length (bb.flatMap V.cells) rfl cO ⟨K.heap.size,0,none⟩ 1 1 (V.cells v) rfl rfl (fun j u bS=>World.news_of_block dz j u (by simpa [V.cells] using bS)) (fun u bS=>by simp[V.cells]at bS;rcases bS with rfl|rfl|rfl<;>rfl) (by decide) (by unfold maxLen;omega) (by omega) (by show y≤(K.alloc (.cells #[.int .i64 v.k,.int .i64 v.n,.string v.s] 63)).heap.size;rw[Oa7];omega) (K.heap.size+1) (by simp) (fun bL bJ bx cM U de dH=>?_)
      have cu:∀ z,z<K.heap.size→sv.ownBlock≠some z→bx.heap[z]?=K.heap[z]?:=fun z Z hn=>(U.block z (by show z<(K.alloc (.cells #[.int .i64 v.k,.int .i64 v.n,.string v.s] 63)).heap.size;rw[Oa7];omega) (Oc5 hn)).trans (O.block z Z)
      have bT:=cu bv (Jd bu) fun e=>cv bv e rfl
      have cy:=cu y dv cK
      have dy:=(Oc3 (a:=⟨y,k,none⟩) cy).trans c5
      have db:=(Ol7 (a:=⟨y,k,none⟩) cy).trans (dp.frozen k)
      refine D.out _ _ ⟨(Oc3 bT).trans cb,(Oc3 bT).trans cc,(Oc3 bT).trans cf⟩ (fun A=>?_)
      clear D M
      simp only[Act.put,List.getElem_toArray,List.getElem_cons_zero,List.getElem_cons_succ,Oa1,List.set_cons_zero,List.set_cons_succ]
      refine tk 9 ?_ rfl A ?_ ?_
      rotate_left 1
      ·intro w ch;(try dsimp only at ch);go_simp;try rfl
      simp only[Act.put,List.getElem_toArray,List.getElem_cons_zero,List.getElem_cons_succ,Oa1,List.set_cons_zero,List.set_cons_succ]
      refine wpAnyH_ready (rs:=[10]) (by kernel_rfl) (by simp) (AllReadyH.cons rfl (fun M D=>?_) AllReadyH.nil)
      go_simp
      have bN:=Oa4 bx ⟨y,k,none⟩ (.slice (some ⟨bL,0,none⟩) (bb.length+1) bJ) bv (Oc5 cP)
      refine D.out _ _ ⟨(Oc3 bN).trans A.1,(Oc3 bN).trans A.2.1,(Oc3 bN).trans A.2.2⟩ (fun _=>?_)
      clear D M A
      refine wpAnyH_done (by kernel_rfl) ?_ _
      have bG:=bX.out bx (.slice (some ⟨bL,0,none⟩) (bb.length+1) bJ) (by unfold Yt;rw[Oa8,Oe8];simpa using cM) ⟨U.os,U.tape,U.output,U.size,U.block⟩ (by rcases de with h|h;exact .inl h.symm;exact .inr (by rw[Oa7,←h];rfl))
      have cG:Below w.heap.size w (bx.setCell ⟨y,k,none⟩ (.slice (some ⟨bL,0,none⟩) (bb.length+1) bJ)):=(Jy (Jj (Jb cH O)) U fun z Z=>by have:=(cN z Z).2;have:=bZ.out;omega).setCell (p:=⟨y,k,none⟩) (by show w.heap.size≤y;have:=bZ.out;omega) _
      clear dy db cu bT cy bN cM U c5 da cb cc cf bk cO
      generalize bx.setCell ⟨y,k,none⟩ (.slice (some ⟨bL,0,none⟩) (bb.length+1) bJ)=dB at bG cG ⊢
      go_wp2
      go_roundw
      case rel=>
       refine⟨k+1,_,by omega,by go_num,bG,fun bI u j bn cr h=>?_,cG⟩
       by_cases dr:bI=x∧j=k
       ·obtain⟨rfl,rfl⟩:=dr
        rw[bW.out]at bn
        simp only[Oc9]at bn
        rw[←bn,bY.out]
       exact bU.out bI u j bn cr (by omega)
      case measure=>simp[intOf];omega
    obtain rfl:k=ks.length:=by omega
    go_wp2
    exact⟨⟨x+1,ba,by omega,by go_num,by rw[←Kqm];exact bE,fun bI u j bn cr h=>bU.out bI u j bn cr (by omega),bO⟩,by simp[intOf];omega⟩
  obtain rfl:x=ms.length:=by omega
  go_wp2
  go_ret2
  exact⟨bj,.inl ⟨y,br,rfl,by have:=bZ.out;omega,cl,bV.out⟩⟩
end Go.Proofs.YtdlgbphkaicfaaaGreatDoor
namespace Go.Proofs.YtdlgbphkaicfaaaGreatDoor
open Go.RowKit Go.Shelf Go.Maps
theorem Kpq (f m:Nat)(c:List V){r:Nat}(y:r<m):(Jbx f (f+m) c).getD r Jf=c.getD (f+r) Jf:=by
 unfold Jbx
 rw[Oa0,Oa0,Oh9,Oe7,if_pos (by omega)]
theorem Kn6 (f t:Nat)(cols:List (List V))(c:Nat):(cols.map (Jbx f t)).getD c []=Jbx f t (cols.getD c []):=by
 rw[Oa0,Oa0,Ob1]
 cases cols[c]? with
 |none=>simp[Jbx]
 |some x=>rfl
theorem Kmk (ks:List Krv)(cols:List (List V))(f m:Nat){r:Nat}(y:r<m)(j:Nat):Klo ks (cols.map (Jbx f (f+m))) r j=Klo ks cols (f+r) j:=by
 unfold Klo
 split
 ·rw[Kn6,Kpq f m _ y]
 rfl
theorem Kn4 (ks:List Krv)(cols:List (List V))(f m:Nat){r:Nat}(y:r<m):mkL ks (cols.map (Jbx f (f+m))) r=mkL ks cols (f+r):=by
 unfold mkL
 rw[Kmk ks cols f m y,Kmk ks cols f m y,Kmk ks cols f m y,Kmk ks cols f m y]
theorem Kpl (cols:List (List V))(ky:Krv)(f m:Nat){r:Nat}(y:r<m):kyV (cols.map (Jbx f (f+m))) ky r=kyV cols ky (f+r):=by
 unfold kyV
 rw[Kn6,Kpq f m _ y]
end Go.Proofs.YtdlgbphkaicfaaaGreatDoor
namespace Go.Proofs.YtdlgbphkaicfaaaGreatDoor
open Go.RowKit Go.Shelf Go.Maps Tryz
theorem Knb (kb ko U:Nat)(ks:List Krv)(ky:Krv)(w:World)(D:Klj w kb ko ks)(h0:ks[0]?=some ky)(hf:ky.f=0) :
  Calls prog 197 #[.slice (some ⟨kb,ko,none⟩) ks.length U,.func (.func 149) #[] #[]] w fun e w'=>e=.returned (.int .i64 0)∧Below w.heap.size w w':=by
 obtain⟨E,H,K,M⟩:=D 0 ky h0
 rw[Nat.zero_mul,Nat.add_zero]at E H K M
 have bc:0<ks.length:=(Ob9.1 h0).1
 have O:Hid (∀ y,Calls prog 149 #[.agg #[.int .i64 (ky.c:Nat),.int .i64 ky.o,.bool ky.d,.int .i64 (ky.f:Nat)]] y fun e w'=>e=.returned (.bool true)∧Below y.heap.size y w'):=fun y=>by
  have:=Kmu ky y
  rwa [decide_eq_true hf]at this
 clear hf h0 D
 go_enter func197,ntmps197
 go_wp2
 go_loopw [8] (fun i wr=>i=.int .i64 (0:Nat)∧Below w.heap.size w wr) (fun _ _=>1)
 case atStart=>exact⟨rfl,Oa5 _ _⟩
 case round=>
  obtain⟨rfl,A⟩:=hrel
  have X:=Ja A E
  have Z:=Ja A H
  have ba:=Ja A K
  have bb:=Ja A M
  have bf:(0:Int)<(ks.length:Nat):=by omega
  go_wp2_with (go_at_call 149;refine(O.out _).mono ?_;rintro e y ⟨rfl,R⟩)
  go_ret
  exact⟨rfl,Jb A R⟩
theorem Kmf (kb ko y:Nat)(ks:List Krv)(ky:Krv)(w:World)(A:Klj w kb ko ks)(h0:ks[0]?=some ky)(hf:ky.f=0) :
  Calls prog 148 #[.slice (some ⟨kb,ko,none⟩) ks.length y,.func (.func 149) #[] #[]] w fun e w'=>e=.returned (.bool true)∧Below w.heap.size w w':=by
 have hi:=Knb kb ko y ks ky w A h0 hf
 go_enter func148,ntmps148
 go_wp2_with (go_at_call 197;refine hi.mono ?_;rintro e E ⟨rfl,D⟩)
 go_ret
 exact⟨rfl,D⟩
end Go.Proofs.YtdlgbphkaicfaaaGreatDoor
namespace Go.Proofs.YtdlgbphkaicfaaaGreatDoor
open Go.RowKit Go.Shelf Go.Maps
def Kma (ps:List (Nat×Nat)):List Nat:=ps.flatMap fun x=>(List.range x.2).map fun i=>x.1+i
theorem Knn (ps:List (Nat×Nat))(f m:Nat):Kma (ps++[(f,m)])=Kma ps++(List.range m).map fun i=>f+i:=by simp[Kma]
theorem Kqk (N z:Nat)(y:1≤z):Kma (cks N z (ckN N z))=List.range N:=by
 have:=Jm9 N z (fun i=>i) (ckN N z)
 rw[Ol4 (Jcy y),List.map_id']at this
 exact this
theorem Kqe (z:Nat):∀ ps:List (Nat×Nat),(∀ x∈ps,x.2≤z)→(Kma ps).length≤ps.length*z:=fun ps h=>Jsd (fun x=>(List.range x.2).map fun i=>x.1+i) z (fun x=>by simp) ps h
def Klt (ms:List (List V))(F:Nat→List V)(l:List Nat):List (List V):=l.foldl (fun a r=>Klm a (F r)) ms
def tlL (t:Tly)(F:Nat→List V)(mk:List V)(val:Nat→V)(l:List Nat):Tly:=l.foldl (fun a r=>if eqM (F r) mk=true then a.add (val r)else a) t
theorem Klv (ms:List (List V))(F:Nat→List V)(l u:List Nat):Klt ms F (l++u)=Klt (Klt ms F l) F u:=Ol1 ..
theorem Kmt (t:Tly)(F:Nat→List V)(mk:List V)(val:Nat→V)(l u:List Nat):tlL t F mk val (l++u)=tlL (tlL t F mk val l) F mk val u:=Ol1 ..
theorem Kpr {ms:List (List V)}{F G:Nat→List V}{f:Nat}:∀ m,(∀ r,r<m→G r=F (f+r))→Kld ms G m=Klt ms F ((List.range m).map fun i=>f+i)
 |0,_=>rfl
 |m+1,h=>by
  rw[Oj7,Ob8,Klv,←Kpr m fun r y=>h r (by omega)]
  show Klm (Kld ms G m) (G m)=Klm (Kld ms G m) (F (f+m))
  rw[h m (by omega)]
theorem Kqb {t:Tly}{F G:Nat→List V}{mk:List V}{val y:Nat→V}{f:Nat}:∀ m,(∀ r,r<m→G r=F (f+r)∧y r=val (f+r))→Knj t G mk y m=tlL t F mk val ((List.range m).map fun i=>f+i)
 |0,_=>rfl
 |m+1,h=>by
  rw[Oj7,Ob8,Kmt,←Kqb m fun r A=>h r (by omega)]
  show (if eqM (G m) mk=true then (Knj t G mk y m).add (y m)else Knj t G mk y m)=if eqM (F (f+m)) mk=true then (Knj t G mk y m).add (val (f+m))else Knj t G mk y m
  rw[(h m (by omega)).1,(h m (by omega)).2]
def tlB (ks:List Krv)(cols:List (List V))(l:List Nat)(mk:List V)(j:Nat):Tly:=match ks[j]? with|some ky=>tlL Klg (mkL ks cols) mk (kyV cols ky) l|none=>Klg
def tfB (ks:List Krv)(cols:List (List V))(l:List Nat)(mk:List V):List Tly:=[tlB ks cols l mk 0,tlB ks cols l mk 1,tlB ks cols l mk 2,tlB ks cols l mk 3]
theorem Kn5 (ks:List Krv)(cols:List (List V))(l:List Nat)(mk:List V){j:Nat}(y:j<4):(tfB ks cols l mk).getD j Klg=tlB ks cols l mk j:=by
 rcases(show j=0∨j=1∨j=2∨j=3 by omega)with rfl|rfl|rfl|rfl<;>rfl
theorem Kps {ks:List Krv}{cols:List (List V)}{l:List Nat}{f m:Nat}{mk:List V}{j:Nat}(y:j<4):tlI ks (cols.map (Jbx f (f+m))) m (mkL ks (cols.map (Jbx f (f+m)))) (tfB ks cols l) ks.length 0 mk j=tlB ks cols (l++(List.range m).map fun i=>f+i) mk j:=by
 unfold tlI
 cases hky:ks[j]? with
 |none=>
  simp only
  rw[Kn5 _ _ _ _ y]
  unfold tlB
  rw[hky]
 |some ky=>
  have D:=(Ob9.1 hky).1
  simp only
  rw[if_pos D,Kn5 _ _ _ _ y]
  unfold tlB
  rw[hky]
  simp only
  rw[Kmt]
  exact Kqb m fun r A=>⟨Kn4 ks cols f m A,Kpl cols ky f m A⟩
theorem Krt {ks:List Krv}{cols:List (List V)}{l:List Nat}{f m:Nat}:tfI ks (cols.map (Jbx f (f+m))) m (mkL ks (cols.map (Jbx f (f+m)))) (tfB ks cols l) ks.length 0=tfB ks cols (l++(List.range m).map fun i=>f+i):=by
 funext mk
 unfold tfI
 rw[Kps (by omega),Kps (by omega),Kps (by omega),Kps (by omega)]
 rfl
theorem Kob {F:Nat→List V}{u:List V}:∀ (l:List Nat) {ms:List (List V)},u∈ms→u∈Klt ms F l
 |[],_,h=>h
 |r::l,ms,h=>Kob l (ms:=Klm ms (F r)) (Kol h)
theorem Kpx (ms:List (List V))(m:List V):m∈Klm ms m:=by
 unfold Klm
 split
 ·rename_i y;exact(Kmi _ _).1 y
 simp
theorem Kmw {F:Nat→List V}:∀ {l:List Nat} {ms:List (List V)} {r:Nat},r∈l→F r∈Klt ms F l
 |x::l,ms,r,h=>by
  rcases Of1.1 h with e|e
  ·rw[e];exact Kob l (ms:=Klm ms (F x)) (Kpx _ _)
  exact Kmw (ms:=Klm ms (F x)) e
theorem Kmd (F:Nat→List V):∀ (l:List Nat) (ms:List (List V)),(Klt ms F l).length≤ms.length+l.length
 |[],_=>Oa2 _
 |r::l,ms=>by
  have h1:=Kmd F l (Klm ms (F r))
  have h2:=Kok ms (F r)
  show (Klt (Klm ms (F r)) F l).length≤_
  rw[List.length_cons]
  omega
theorem Kn8 {F:Nat→List V}{mk:List V}{val:Nat→V}:∀ {l:List Nat} {t:Tly},(∀ r∈l,F r≠mk)→tlL t F mk val l=t
 |[],_,_=>rfl
 |r::l,t,h=>by
  show tlL (if eqM (F r) mk=true then t.add (val r)else t) F mk val l=t
  rw[if_neg fun e=>h r (by simp) ((Kl0 _ _).1 e)]
  exact Kn8 fun x y=>h x (by simp[y])
theorem Krj {ks:List Krv}{cols:List (List V)}{l:List Nat}{mk:List V}(h:mk∉Klt [] (mkL ks cols) l):tfB ks cols l mk=Kqi:=by
 have hn:∀ r∈l,mkL ks cols r≠mk:=fun r A e=>h (e▸Kmw A)
 have y:∀ j,tlB ks cols l mk j=Klg:=fun j=>by
  unfold tlB
  split
  ·exact Kn8 hn
  rfl
 unfold tfB
 rw[y,y,y,y]
 rfl
theorem Kph {F:Nat→List V}{mk:List V}{val:Nat→V}:∀ {l:List Nat} {c:Nat} {t:Tly},Kl2 c t→(∀ r∈l,Jg (val r).n)→Kl2 (c+l.length) (tlL t F mk val l)
 |[],_,_,h,_=>h
 |r::l,c,t,h,y=>by
  have h1:Kl2 (c+1) (if eqM (F r) mk=true then t.add (val r)else t):=by
   split
   ·exact h.add (y r (by simp))
   exact h.mono (by omega)
  have:=Kph (F:=F) (mk:=mk) (val:=val) (l:=l) h1 fun x A=>y x (by simp[A])
  rw[List.length_cons,show c+(l.length+1)=c+1+l.length by omega]
  exact this
theorem Kpo {ks:List Krv}{cols:List (List V)}{l:List Nat}(E:∀ ky∈ks,∀ r∈l,Jg (kyV cols ky r).n)(mk:List V)(j:Nat):Kl2 l.length ((tfB ks cols l mk).getD j Klg):=by
 have h0:Kl2 0 Klg:=⟨Oa2 _,Oa2 _,by decide,by decide⟩
 by_cases y:j<4
 ·rw[Kn5 _ _ _ _ y]
  unfold tlB
  split
  ·rename_i ky A
   have:=Kph (F:=mkL ks cols) (mk:=mk) (val:=kyV cols ky) (l:=l) h0 fun r D=>E ky (Of6 A) r D
   rwa [Od0]at this
  exact h0.mono (Ob7 _)
 rw[Oa0,Ob4 (by simp[tfB];omega)]
 exact h0.mono (Ob7 _)
def Kmb (g A:Nat)(sv:Value)(y:List Nat):Nat→Prop:=fun k=>k=g∨k=A∨sv.ownBlock=some k∨k∈y
theorem Klc.exact {E:Nat→Prop}{w:World}{g D:Nat}{K sv:Value}{ms:List (List V)}{y:List Nat}{M:List V→List Tly}(h:Klc E w g D K sv ms y M):Klc (Kmb g D sv y) w g D K sv ms y M∧∀ k,Kmb g D sv y k→E k:=by
 have H:∀ k,Kmb g D sv y k→E k:=fun k A=>by
  rcases A with e|e|e|e
  ·rw[e];exact h.inM.1
  ·rw[e];exact h.inM.2.1
  ·exact h.inM.2.2.1 k e
  exact h.inM.2.2.2 k e
 exact⟨⟨h.cells,h.map,h.own,h.len,h.row,h.grp,h.nodup,⟨.inl rfl,.inr (.inl rfl),fun k A=>.inr (.inr (.inl A)),fun b O=>.inr (.inr (.inr O))⟩,fun k A=>h.lt k (H k A)⟩,H⟩
theorem Klc.kind {w:World}{g y:Nat}{M sv:Value}{ms:List (List V)}{A:List Nat}{O:List V→List Tly}(h:Klc (Kmb g y sv A) w g y M sv ms A O){k:Nat}(H:Kmb g y sv A k)(K:k≠y):∃ cs ty,w.heap[k]?=some (.cells cs ty (0,0))∧ty≠54:=by
 rcases H with e|e|e|e
 ·rw[e];exact⟨_,_,h.cells,by decide⟩
 ·exact absurd e K
 ·obtain⟨R,D⟩:=Ja4 h.own e
  exact⟨_,_,D,by decide⟩
 obtain⟨m,E⟩:=h.at e
 exact⟨_,_,E.cells,by decide⟩
structure Kni (w:World) (z N L tb g mb:Nat) (kv:Value) (ks:List Krv) (cols:List (List V)) (ps:List (Nat×Nat)) (W:World):Prop where
 bt:W.heap[tb]?=some (.cells #[.pointer (some ⟨g,0,none⟩)] 293 (0,0))
 gp:∃ (sv:Value) (gs:List Nat),Klc (Kmb g mb sv gs) W g mb kv sv (Klt [] (mkL ks cols) (Kma ps)) gs (tfB ks cols (Kma ps))∧∀ k,Kmb g mb sv gs k→k=g∨k=mb∨L≤k
 tot:∀ x∈ps,x.2≤z
 ok:∀ r∈Kma ps,r<N
 below:Below w.heap.size w W
 size:L≤W.heap.size
theorem Kni.kept {w:World}{z N L M g A:Nat}{K:Value}{ks:List Krv}{cols:List (List V)}{ps:List (Nat×Nat)}{W W':World}{row:Option Nat}(h:Kni w z N L M g A K ks cols ps W)(hL:w.heap.size≤L∧A<L)(y:W.grownBy W' row)(E:∀ r,row=some r→L≤r∧∃ o:Obj,W.heap[r]?=some o∧o.isCells=false):Kni w z N L M g A K ks cols ps W':=by
 have D:=CK.of_grown y fun r e=>(E r e).2
 obtain⟨sv,R,h1,h2⟩:=h.gp
 refine⟨D.cells _ _ _ _ h.bt,⟨sv,R,h1.stands y.size fun k U=>?_,h2⟩,h.tot,h.ok,⟨y.os.trans h.below.os,y.tape.trans h.below.tape,y.output.trans h.below.output,Ob2 h.below.size y.size,fun k D=>(y.block k (Oc2 D h.below.size) fun e=>by have:=(E k e.symm).1;omega).trans (h.below.block k D)⟩,Ob2 h.size y.size⟩
 by_cases e:k=A
 ·rw[e]
  exact y.block A (Oc2 hL.2 h.size) fun O=>by have:=(E A O.symm).1;omega
 obtain⟨cs,ty,H,_⟩:=h1.kind U e
 exact(D.cells _ _ _ _ H).trans H.symm
theorem Kni.step {w W W':World}{z N L D g y f m:Nat}{R:Value}{ks:List Krv}{cols:List (List V)}{ps:List (Nat×Nat)}{sv:Value}{O:List Nat}(h:Kni w z N L D g y R ks cols ps W)(h2:∀ k,Kmb g y sv O k→k=g∨k=y∨L≤k)(bj:g<L∧y<L∧w.heap.size≤y∧w.heap.size≤g)(bl:D<L∧D≠g∧D≠y)(H:m≤z)(hf:f+m≤N)
  (bc:Kn9 (Kmb g y sv O) W g y R (Kld (Klt [] (mkL ks cols) (Kma ps)) (mkL ks (cols.map (Jbx f (f+m)))) m) (tfI ks (cols.map (Jbx f (f+m))) m (mkL ks (cols.map (Jbx f (f+m)))) (tfB ks cols (Kma ps)) ks.length 0) (.returned (.tuple #[])) W'):Kni w z N L D g y R ks cols (ps++[(f,m)]) W'∧Ju (Kmb g y sv O) W W':=by
 obtain⟨_,bh,sv',U,X,A,bi,Z⟩:=bc
 obtain⟨ba,bb⟩:=X.exact
 have bk:=h.size
 refine⟨⟨?_,⟨sv',U,?_,fun k K=>?_⟩,fun x bf=>?_,fun r M=>?_,?_,Ob2 h.size A.size⟩,A⟩
 ·rw[A.block D (by omega) fun H=>?_]
  ·exact h.bt
  rcases h2 D H with e|e|e<;>omega
 ·rw[Knn,Klv,←Kpr m fun r M=>Kn4 ks cols f m M,←Krt]
  exact ba
 ·rcases Z k (bb k K)with e|e
  ·exact h2 k e
  exact .inr (.inr (by omega))
 ·rcases Od2.1 bf with e|e
  ·exact h.tot x e
  simp at e;rw[e];exact H
 ·rw[Knn]at M
  rcases Od2.1 M with e|e
  ·exact h.ok r e
  obtain⟨i,hi,rfl⟩:=Of0.1 e
  have:=Oj4.1 hi
  omega
 have E:=h.below
 refine⟨A.os.trans E.os,A.tape.trans E.tape,A.output.trans E.output,Ob2 E.size A.size,fun k K=>(A.block k (Oc2 K E.size) fun H=>?_).trans (E.block k K)⟩
 rcases h2 k H with e|e|e<;>omega
end Go.Proofs.YtdlgbphkaicfaaaGreatDoor
namespace Go.Proofs.YtdlgbphkaicfaaaGreatDoor
open Go.RowKit Go.Shelf Go.Maps Tryz
attribute [local go_sem] Oc0
theorem Ko0 (kb ko K E cap:Nat)(ks:List Krv)(ky:Krv)(hs:List (Option Addr×Nat))(cols:List (List V))(N z:Nat)(w:World)(bG:Addr)
  (bn:Klj w kb ko ks) (cN:ks[0]?=some ky) (cQ:ky.f=0) (cO:ks.length≤4) (cP:kb<w.heap.size) (cz:Qd w E hs cols) (cA:Jbo E hs cols.length (fun b=>b<w.heap.size)) (db:1≤cols.length) (dD:cols.length≤1000) (cI:∀ j,j<cols.length→(cols.getD j []).length=N) (dM:N≤20000) (cf:1≤z) (dQ:z≤20000) (cJ:∀ k∈ks,k.c<cols.length) (cK:∀ k∈ks,k.f≤5)
  (bL:∀ r,r<N→okM (mkL ks cols r)) (da:∀ ky∈ks,∀ r,r<N→Jg (kyV cols ky r).n) (bx:w.cell? ⟨12,0,none⟩=some (.iface 435 (.pointer (some bG)))) :
  Calls prog 110 #[.slice (some ⟨E,0,none⟩) cols.length cap,.slice (some ⟨kb,ko,none⟩) ks.length K,.int .i64 (z:Nat)] w (Kmj w bG ks (Klt [] (mkL ks cols) (List.range N)) (tfB ks cols (List.range N))):=by
 have bE:Hid (Klj w kb ko ks∧kb<w.heap.size):=⟨bn,cP⟩
 have bb:Hid (Qd w E hs cols∧Jbo E hs cols.length (fun b=>b<w.heap.size)∧∀ j,j<cols.length→(cols.getD j []).length=N):=⟨cz,cA,cI⟩
 have bl:Hid ((∀ k∈ks,k.c<cols.length)∧(∀ k∈ks,k.f≤5)∧(∀ r,r<N→okM (mkL ks cols r))∧∀ ky∈ks,∀ r,r<N→Jg (kyV cols ky r).n):=⟨cJ,cK,bL,da⟩
 have cl:Hid (∀ Z,Below w.heap.size w Z→Calls prog 148 #[.slice (some ⟨kb,ko,none⟩) ks.length K,.func (.func 149) #[] #[]] Z fun e w'=>e=.returned (.bool true)∧Below Z.heap.size Z w'):=fun Z dt=>Kmf kb ko K ks ky Z (bn.below dt) cN cQ
 have dz:=@run_makeMap prog
 clear bn cz cA cI cJ cK bL da cN cQ cP
 refine(callsIn_wide (n:=3)).1 ?_
 refine callsIn_of_wp_marks func110 rfl trivial ?_ rfl
 simp only[ntmps110,Om3,List.length_cons,List.length_nil,Nat.reduceAdd,Nat.reduceSub,Ok9,Array.replicate_zero,Om4,Ol2,List.nil_append,List.cons_append]
 refine wpIn_wide.2 ?_
 go_upto_region 2 with fail
 clear dz
 have cT:=Klh.made w
 generalize cD:((w.alloc (.map #[] 0)).alloc _).alloc _=cr
 obtain⟨cX,bP,bQ,bR,bV⟩:=Jur w _ _ _ cr cD
 have cU:Klh cr w.heap.size []:=cT.block (bP.trans (heap_alloc_new w _).symm)
 clear cD cT
 go_upto_region 4 with(go_at_call 148;refine(cl.out _ bV).mono ?_;rintro e D ⟨rfl,O⟩)
 have cH:=fun Z=>Jh4 (.slice (some ⟨E,0,none⟩) cols.length cap) (z:Int) (some ⟨E,0,none⟩) cols.length cap rfl Z
 go_wp2_with (go_at_call 105;refine(cH _).mono ?_;rintro e X ⟨rfl,bj⟩)
 obtain⟨A,bB⟩:∃ A,A=D.heap.size:=⟨_,rfl⟩
 rw[←bj]
 have cE:Below D.heap.size D X:=by rw[bj];exact Jc (Jc (Oa5 _ _) _) _
 have dm:X.heap[A]?=some (.cells #[.slice (some ⟨E,0,none⟩) cols.length cap] 74 (0,0)):=by
  rw[bj,Oa9 _ _ _ (by rw[Oa7];omega),bB]
  exact heap_alloc_new D _
 have dk:X.heap[A+1]?=some (.cells #[.int .i64 (z:Int)] 3 (0,0)):=by
  have:=heap_alloc_new (D.alloc (.cells #[.slice (some ⟨E,0,none⟩) cols.length cap] 74)) (.cells #[.int .i64 (z:Int)] 3)
  rw[Oa7,←bB]at this
  rw[bj]
  exact this
 have bK:X.heap.size=A+2:=by rw[bj,Oa7,Oa7,bB]
 have bu:=Jb O cE
 have bI:=Jb bV bu
 have dG:=O.size
 have cv:=bu.block _ (Jd bP)
 have cx:=(bu.block _ (Jd bQ)).trans bQ
 have cy:=(bu.block _ (Jd bR)).trans bR
 have dh:Hid (Kni w z N (A+2) (w.heap.size+1+1) (w.heap.size+1) w.heap.size (.slice (some ⟨kb,ko,none⟩) ks.length K) ks cols [] X):=by
  refine⟨cy,⟨.slice none 0 0,[],⟨cx,cU.block cv,Jo.nil _ _ _,rfl,fun k y=>(by cases y),fun i b m bU=>(by simp at bU),List.nodup_nil,⟨.inl rfl,.inr (.inl rfl),fun k y=>(by cases y),fun b bU=>(by simp at bU)⟩,fun k y=>?_⟩,fun k y=>?_⟩,fun x dE=>(by simp at dE),fun r H=>(by simp[Kma]at H),bI,by omega⟩
  ·rcases y with e|e|e|e
   ·omega
   ·omega
   ·cases e
   simp at e
  rcases y with e|e|e|e
  ·exact .inl e
  ·exact .inr (.inl e)
  ·cases e
  simp at e
 have dq:Qd X E hs cols:=bb.out.1.below bI
 have bO:Hid (w.heap.size+3≤A∧X.heap.size=A+2):=⟨by omega,bK⟩
 have dI:Hid (Below w.heap.size w X):=bI
 rw[←bB]
 clear cH bj cE bu O bV cv cx cy bP bQ bR cU cX bB cl bI dG
 clear D
 refine(wpIn_wide (n:=3)).1 ?_
 have bD:=bO.out
 refine Jg8 rfl (by omega) (gf:=139) (lb:=#[.pointer (some ⟨A,0,none⟩),.pointer (some ⟨A+1,0,none⟩)]) rfl trivial (enters_of func139 (by kernel_rfl) rfl)
  (Jjx 2 (by omega) A (A+1) E cap hs cols N z cf (by omega) (by omega) db dD X dq bb.out.2.2 (by simp[World.cell?,dm]) (by simp[World.cell?,dk]) (fun k=>k=A∨k=A+1∨k<w.heap.size) ⟨.inl rfl,.inr (.inl rfl),.inr (.inr bb.out.2.1.1),fun j M b o e=>.inr (.inr (bb.out.2.1.2 j M b o e))⟩ (fun k y=>by omega))
  (fun h k=>h.trans k) ?hKb (Oa5 _ _) (fun _=>rfl)
  (fun U W=>Kni w z N (A+2) (w.heap.size+1+1) (w.heap.size+1) w.heap.size (.slice (some ⟨kb,ko,none⟩) ks.length K) ks cols (U.map fun x=>(x.1,x.2.1)) W)
  (fun _ _ _=>False)
  ?hI ?hIx ?hR dh.out (fun x=>{tmps:=#[.slice (some ⟨E,0,none⟩) cols.length cap,(.slice (some ⟨kb,ko,none⟩) ks.length K),.int .i64 (z:Nat),undef,undef,undef,.slice none 0 0,.nilIface,.pointer (some ⟨w.heap.size+1+1,0,none⟩),undef,.slice (some ⟨x.2.2,0,none⟩) cols.length cols.length,(.slice (some ⟨kb,ko,none⟩) ks.length K),.map (some w.heap.size),.agg #[(.slice (some ⟨kb,ko,none⟩) ks.length K),.map (some w.heap.size),.slice none 0 0],.pointer (some ⟨w.heap.size+1,0,none⟩),(.slice (some ⟨kb,ko,none⟩) ks.length K),.bool true,.bool false,undef,undef,undef,.slice (some ⟨E,0,none⟩) cols.length cap,.int .i64 (z:Nat),.func (.func 139) #[] #[.pointer (some ⟨A,0,none⟩),.pointer (some ⟨A+1,0,none⟩)],.int .i64 (x.1:Int),.slice (some ⟨x.2.2,0,none⟩) cols.length cols.length,undef,undef,undef,undef,undef,undef,undef],defers:=[]}) ?assign ?body ?done ?stop
 case hKb=>
  intro W l o dS cS bA _ _
  exact⟨by simp,fun k y=>World.putObj_heap_other (by omega)⟩
 case hI=>
  intro s W W' row h bx H
  exact h.kept ⟨by omega,by omega⟩ bx fun r e=>⟨by have:=(H r e).1;omega,(H r e).2⟩
 case hIx=>
  rintro c s W W' row h
  exact h.elim
 case hR=>
  rintro x W W' row ⟨h1,h2,bS,dp⟩ bx H
  exact⟨h1,h2,bS,dp.ck (CK.of_grown bx fun r e=>(H r e).2)⟩
 case assign=>
  clear bD bK
  intro l x W dJ bn
  gi_wp2
  exact bn
 case stop=>
  rintro bi c U W dr _ h
  exact h.elim
 case body=>
  rintro dH U ⟨f,m,bH⟩ W hI ⟨bM,⟨cb,cc⟩,dc,bC⟩ cV
  simp only at bM cb cc dc bC
  obtain⟨sv,R,ba,br⟩:=hI.gp
  have bk:(cols.map (Jbx f (f+m))).length=cols.length:=by rw[Oa6]
  have hcut:∀ j,j<(cols.map (Jbx f (f+m))).length→((cols.map (Jbx f (f+m))).getD j []).length=m:=fun j M=>by
   rw[bk]at M
   rw[Kn6,Jca (by rw[bb.out.2.2 j M];exact bM)]
   omega
  have dy:(Kma (U.map fun x=>(x.1,x.2.1))).length≤N:=by
   have h1:=Kqe z _ hI.tot
   rw[Oa6]at h1
   have h2:=Jxx (N:=N) cf cV
   omega
  have bz:=Kmd (mkL ks cols) (Kma (U.map fun x=>(x.1,x.2.1))) []
  have bZ:∀ k,k<w.heap.size→¬ Kmb (w.heap.size+1) w.heap.size sv R k:=fun k y bh=>by rcases br k bh with e|e|e<;>omega
  have bW:∀ j,j<(cols.map (Jbx f (f+m))).length→∀ b o,(Yo (Jnt hs cols.length f (f+m)) j).1=some ⟨b,o,none⟩→b<w.heap.size:=fun j M b o e=>by
   rw[bk]at M
   rcases bb.out.1.vals j M with h0|⟨dK,dL,du,cS,_⟩
   ·have:=bb.out.2.2 j M
    rw[h0]at this
    simp at this
    omega
   rw[Jmn M du e]
   exact cS
  have cM:¬ Kmb (w.heap.size+1) w.heap.size sv R bH:=fun bh=>by
   by_cases e:bH=w.heap.size
   ·omega
   obtain⟨cs,ty,bX,dC⟩:=ba.kind bh e
   obtain⟨c,ca,_⟩:=bC.row
   rw[bX]at ca
   simp only[Oc9,Obj.cells.injEq]at ca
   exact dC ca.2.1
  have cY:=Kp6 (Kmb (w.heap.size+1) w.heap.size sv R) (w.heap.size+1) w.heap.size kb ko K sv ks _ R _ bH cols.length m (Jnt hs cols.length f (f+m)) (cols.map (Jbx f (f+m))) W (Kma (U.map fun x=>(x.1,x.2.1))).length ba (bE.out.1.below hI.below) cO bC (by rw[bk];exact db) hcut (by omega) (fun k y=>by rw[bk];exact bl.out.1 k y) (by simp only[List.length_nil]at bz;omega)
   (fun r H=>by rw[Kn4 ks cols f m H];exact bl.out.2.2.1 _ (by omega)) (fun r H hn=>Krj hn) (fun mk j=>Kpo (fun ky y r H=>bl.out.2.2.2 ky y r (hI.ok r H)) mk j) (by omega) (fun ky y r H=>by rw[Kpl cols ky f m H];exact bl.out.2.2.2 ky y _ (by omega)) ⟨bZ kb bE.out.2,Oc2 bE.out.2 hI.below.size⟩ ⟨⟨cM,bC.row.lt⟩,fun j M b o e=>⟨bZ b (bW j M b o e),Oc2 (bW j M b o e) hI.below.size⟩⟩
  rw[bk]at cY
  have ct:W.cell? ⟨w.heap.size+1+1,0,none⟩=some (.pointer (some ⟨w.heap.size+1,0,none⟩)):=by simp[World.cell?,hI.bt]
  have cn:Hid (Kni w z N (A+2) (w.heap.size+1+1) (w.heap.size+1) w.heap.size (.slice (some ⟨kb,ko,none⟩) ks.length K) ks cols (U.map fun x=>(x.1,x.2.1)) W):=hI
  have bN:Hid (Klc (Kmb (w.heap.size+1) w.heap.size sv R) W (w.heap.size+1) w.heap.size (.slice (some ⟨kb,ko,none⟩) ks.length K) sv (Klt [] (mkL ks cols) (Kma (U.map fun x=>(x.1,x.2.1)))) R (tfB ks cols (Kma (U.map fun x=>(x.1,x.2.1))))∧∀ k,Kmb (w.heap.size+1) w.heap.size sv R k→k=w.heap.size+1∨k=w.heap.size∨A+2≤k):=⟨ba,br⟩
  have dj:Hid (f+m≤N∧1≤m∧m≤z):=⟨bM,cb,cc⟩
  clear hI ba br bM cb cc dc bC cV bk hcut dy bz bZ bW cM bD bK
  gi_wp2_with (first|(refine⟨trivial,?_⟩;gi_at_call 151;refine(CallsIn.inRound dH (callsIn_wide.2 cY)).mono ?_;rintro e D ⟨rfl,dA⟩))
  have bD:=bO.out
  have dd:=dj.out
  obtain⟨dB,bJ⟩:=cn.out.step bN.out.2 ⟨by omega,by omega,by omega,by omega⟩ ⟨by omega,by omega,by omega⟩ dd.2.2 dd.1 ⟨rfl,dA⟩
  have cX:=cn.out.size
  refine⟨⟨bJ.size,fun k o y bA bX=>?_⟩,⟨bJ.size,fun k y=>bJ.block k (by omega) fun bh=>?_⟩,?_⟩
  ·rw[bJ.block k (Jd bA) fun bh=>?_]
   ·exact bA
   obtain⟨cs,ty,dv,_⟩:=bN.out.1.kind bh (by omega)
   rw[dv]at bA
   cases bA
   simp[Obj.isCells]at bX
  ·rcases bN.out.2 k bh with e|e|e<;>omega
  show Kni w z N _ _ _ _ _ ks cols ((U++[(f,m,bH)]).map fun x=>(x.1,x.2.1)) D
  rw[Ob8]
  exact dB
 case done=>
  rintro bi dT W dr de hI cC
  rw[de]at hI
  obtain⟨sv,R,ba,br⟩:=hI.gp
  rw[Kqk N z cf]at ba
  have bz:=Kmd (mkL ks cols) (List.range N) []
  rw[Op1,List.length_nil]at bz
  have cZ:=Kpw (Kmb (w.heap.size+1) w.heap.size sv R) (w.heap.size+1) w.heap.size kb ko K sv ks (Klt [] (mkL ks cols) (List.range N)) R (tfB ks cols (List.range N)) W bG ba (bE.out.1.below hI.below) cO bl.out.2.1 (by omega) (Ja hI.below bx)
  have ct:W.cell? ⟨w.heap.size+1+1,0,none⟩=some (.pointer (some ⟨w.heap.size+1,0,none⟩)):=by simp[World.cell?,hI.bt]
  have cG:=hI.below
  have dP:=hI.size
  clear hI de ba br bz bD bK
  go_wp2_with fail
  refine cZ.mono ?_
  rintro e D ⟨cF,bT⟩
  have cB:=(cF.block bi (Jd cC)).trans cC
  have bD:=bO.out
  have cW:∀ r,some bi=some r→∃ o:Obj,D.heap[r]?=some o∧o.isCells=false:=fun r e=>by cases e;exact⟨_,cB,rfl⟩
  have bf:=grownBy_putObj' D bi (.deferred none)
  have bY:=CK.of_grown bf cW
  have O:=Jb cG cF
  have dR:=cG.size
  have cj:Hid (Below w.heap.size w (D.putObj bi (.deferred none))):=⟨bf.os.trans O.os,bf.tape.trans O.tape,bf.output.trans O.output,Ob2 O.size bf.size,fun k y=>(bf.block k (Oc2 y O.size) fun e=>by cases e;omega).trans (O.block k y)⟩
  have di:Hid (Kmj w bG ks (Klt [] (mkL ks cols) (List.range N)) (tfB ks cols (List.range N)) e (D.putObj bi (.deferred none))):=by
   refine⟨cj.out,?_⟩
   rcases bT with⟨df,dg,bc,dO,dw,dx⟩|⟨cu,x,k,mk,bc,dN,ds,bS⟩
   ·exact .inl ⟨df,dg,bc,by omega,dw.ck bY,dx⟩
   exact .inr ⟨cu,x,k,mk,bc,by omega,bY.cells _ _ _ _ ds,bS⟩
  have bL:∃ ch ci,e=.returned (.tuple #[ch,ci]):=by
   rcases bT with⟨df,dg,bc,_⟩|⟨cu,x,k,mk,bc,_⟩
   ·exact⟨_,_,bc⟩
   exact⟨_,_,bc⟩
  obtain⟨ch,ci,rfl⟩:=bL
  clear bT cZ bf bY O cj cW
  go_wp2_with fail
  refine⟨by simp,.inl ⟨_,_,rfl,run_takeDeferred cB,?_⟩⟩
  exact⟨.tuple #[ch,ci],by simp[results,Tryz.f110,go_sem],di.out⟩
end Go.Proofs.YtdlgbphkaicfaaaGreatDoor
