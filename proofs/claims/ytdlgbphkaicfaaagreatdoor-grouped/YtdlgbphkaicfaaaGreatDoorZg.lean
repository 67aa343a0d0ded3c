/- The law's own check: runs. -/
import Derived.Test.YtdlgbphkaicfaaaGreatDoorZh
import Derived.Test.YtdlgbphkaicfaaaGreatDoorYf
set_option maxHeartbeats 4000000
set_option maxRecDepth 100000
namespace Go.Proofs.YtdlgbphkaicfaaaGreatDoor
open Go.RowKit Go.Shelf Tryz
attribute [local go_sem] Oc0
abbrev Jtx:V:=⟨1,42,⟨#[]⟩⟩
theorem Jy2 (w:World)(bf bh bi bn q wr pg bk ex bl:Addr)(bJ:Jax w bf bh bi bn q wr pg bk ex bl) :
  Calls prog 4 #[] w fun e w'=>e=.returned (.bool true)∧Below w.heap.size w w':=by
 have bS:Hid (Jax w bf bh bi bn q wr pg bk ex bl):=bJ
 have cB:=Kev w bf bh bi bn q wr pg bk ex bl bJ
 clear bJ
 go_enter func4,ntmps4
 go_upto_region 4 with(go_at_call 16;refine cB.mono ?_;rintro bI A ⟨rfl,ca⟩)
 have bE:Hid (Jax A bf bh bi bn q wr pg bk ex bl):=bS.out.below ca
 clear cB
 go_upto_region 5 with fail
 obtain⟨W,hW⟩:∃ W,W=((((A.alloc (.cells #[.int .i64 1] 3)).alloc (.cells #[.int .i64 1,.int .i64 41,.string ⟨#[]⟩] 63)).alloc (.cells #[.slice (some ⟨A.heap.size+1,0,none⟩) 1 1] 55)).alloc (.cells #[.string ⟨#[111,110,101]⟩,.slice (some ⟨A.heap.size,0,none⟩) 1 1,.slice (some ⟨A.heap.size+1+1,0,none⟩) 1 1] 25)):=⟨_,rfl⟩
 rw[←hW]
 have ci:Below A.heap.size A W:=by rw[hW];exact((((Oa5 _ A).alloc (Oa2 _) _).alloc (by simp) _).alloc (by simp;omega) _).alloc (by simp;omega) _
 have bz:W.heap[A.heap.size+1+1+1]?=some (.cells #[.string ⟨#[111,110,101]⟩,.slice (some ⟨A.heap.size,0,none⟩) 1 1,.slice (some ⟨A.heap.size+1+1,0,none⟩) 1 1] 25 (0,0)):=by rw[hW];exact Jb4 _ _ _ (by simp)
 have bX:W.heap[A.heap.size+1+1]?=some (.cells #[.slice (some ⟨A.heap.size+1,0,none⟩) 1 1] 55 (0,0)):=by rw[hW,Oa9 _ _ _ (by simp)];exact Jb4 _ _ _ (by simp)
 have bW:W.heap[A.heap.size+1]?=some (.cells #[.int .i64 1,.int .i64 41,.string ⟨#[]⟩] 63 (0,0)):=by rw[hW,Oa9 _ _ _ (by simp),Oa9 _ _ _ (by simp)];exact Jb4 _ _ _ (by simp)
 have bV:W.heap[A.heap.size]?=some (.cells #[.int .i64 1] 3 (0,0)):=by rw[hW,Oa9 _ _ _ (by simp;omega),Oa9 _ _ _ (by simp;omega),Oa9 _ _ _ (by simp)];exact Jb4 _ _ _ rfl
 have bx:Hid (Uw W Yh (some ⟨A.heap.size,0,none⟩) (some ⟨A.heap.size+1+1,0,none⟩) 1 [1] [(some ⟨A.heap.size+1,0,none⟩,1)] [[Za]]):=Jxy (v:=Za) bV bW bX (by decide) (by decide) (by simp[okB,okK]) (by simp[Jg])
 have cE:W.cell? ⟨A.heap.size+1+1+1,0,none⟩=some (.string ⟨#[111,110,101]⟩):=by simp[World.cell?,bz]
 have cF:W.cell? ⟨A.heap.size+1+1+1,1,none⟩=some (.slice (some ⟨A.heap.size,0,none⟩) 1 1):=by simp[World.cell?,bz]
 have cG:W.cell? ⟨A.heap.size+1+1+1,2,none⟩=some (.slice (some ⟨A.heap.size+1+1,0,none⟩) 1 1):=by simp[World.cell?,bz]
 clear hW bV bW bX bz
 have bR:Hid (∀ E b,Below W.heap.size W E→E.heap[b]?=some (.cells #[.string ⟨#[111,110,101]⟩,.slice (some ⟨A.heap.size,0,none⟩) 1 1,.slice (some ⟨A.heap.size+1+1,0,none⟩) 1 1] 25 (0,0))→Calls prog 6 #[.agg #[.int .i64 1048576,.int .i64 0],.slice (some ⟨b,0,none⟩) 1 1] E fun e bH=>∃ st,e=.returned (.pointer (some ⟨st,0,none⟩))∧Jhr A bH st Yh [1] [[Za]]∧Below E.heap.size E bH):=fun E b bK bM=>
  (Jl3 b Yh (some ⟨A.heap.size,0,none⟩) (some ⟨A.heap.size+1+1,0,none⟩) 1 1 [1] [(some ⟨A.heap.size+1,0,none⟩,1)] [[Za]] E (bx.out.below bK) (by simp[World.cell?,bM]) (by simp[World.cell?,bM]) (by simp[World.cell?,bM]) bf bh bi bn q wr pg bk ex bl (bE.out.below (Jb ci bK))).mono fun e bH ⟨cl,st,bG,cN,cO,da⟩=>⟨st,cN,Jlx cO (Jb ci bK) cl,cl⟩
 go_cut [3] from 15 to 18 (fun s cX=>∃ st:Nat,s=.pointer (some ⟨st,0,none⟩)∧Jhr A cX st Yh [1] [[Za]])
 case first=>
  refine wp_region_held_drew (S:=fun E=>E.cell? ⟨A.heap.size+1+1+1,0,none⟩=some (.string ⟨#[111,110,101]⟩)∧E.cell? ⟨A.heap.size+1+1+1,1,none⟩=some (.slice (some ⟨A.heap.size,0,none⟩) 1 1)∧E.cell? ⟨A.heap.size+1+1+1,2,none⟩=some (.slice (some ⟨A.heap.size+1+1,0,none⟩) 1 1)) (by kernel_rfl) ⟨cE,cF,cG⟩ (fun y=>?_)
  refine tk 1 ?_ rfl y ?_ ?_
  rotate_left 1
  ·intro w O;(try dsimp only at O);go_simp;try rfl
  simp only[Act.put,List.getElem_toArray,List.getElem_cons_zero,List.getElem_cons_succ,Oa1,List.set_cons_zero,List.set_cons_succ]
  have cn:Below W.heap.size W W.drew:=⟨rfl,rfl,rfl,Oa2 _,fun _ _=>rfl⟩
  refine wpAnyH_ready (rs:=[0,2]) (by kernel_rfl) (by simp) (AllReadyH.cons rfl (fun R H=>?_) (AllReadyH.cons rfl (fun R H=>?_) AllReadyH.nil))
  focus
   go_simp
   refine(Jen _).mono ?_
   rintro e X ⟨rfl,M⟩
   have bQ:Below W.heap.size W X:=Jb cn M
   go_simp
   refine H.out _ _ ⟨Ja M y.1,Ja M y.2.1,Ja M y.2.2⟩ (fun y=>?_)
   clear H R
   refine wpAnyH_ready (rs:=[2]) (by kernel_rfl) (by simp) (AllReadyH.cons rfl (fun R H=>?_) AllReadyH.nil)
   go_simp
   have U:Below X.heap.size X (X.alloc (.cells #[.string ⟨#[111,110,101]⟩,.slice (some ⟨A.heap.size,0,none⟩) 1 1,.slice (some ⟨A.heap.size+1+1,0,none⟩) 1 1] 25)):=(Oa5 _ _).alloc (Oa2 _) _
   have bC:=heap_alloc_new X (.cells #[.string ⟨#[111,110,101]⟩,.slice (some ⟨A.heap.size,0,none⟩) 1 1,.slice (some ⟨A.heap.size+1+1,0,none⟩) 1 1] 25)
   refine H.out _ _ ⟨Ja U y.1,Ja U y.2.1,Ja U y.2.2⟩ (fun y=>?_)
   clear H R
   refine wpAnyH_ready (rs:=[3]) (by kernel_rfl) (by simp) (AllReadyH.cons rfl (fun R H=>?_) AllReadyH.nil)
   go_simp
   refine(bR.out _ _ (Jb bQ U) bC).mono ?_
  rotate_left 1
  focus
   go_simp
   have U:Below W.heap.size W ((W.alloc (.cells #[.string ⟨#[111,110,101]⟩,.slice (some ⟨A.heap.size,0,none⟩) 1 1,.slice (some ⟨A.heap.size+1+1,0,none⟩) 1 1] 25)).drew):=Jb cn ((Oa5 _ W.drew).alloc (Oa2 _) (.cells #[.string ⟨#[111,110,101]⟩,.slice (some ⟨A.heap.size,0,none⟩) 1 1,.slice (some ⟨A.heap.size+1+1,0,none⟩) 1 1] 25))
   have bC:((W.alloc (.cells #[.string ⟨#[111,110,101]⟩,.slice (some ⟨A.heap.size,0,none⟩) 1 1,.slice (some ⟨A.heap.size+1+1,0,none⟩) 1 1] 25)).drew).heap[W.heap.size]?=_:=heap_alloc_new W (.cells #[.string ⟨#[111,110,101]⟩,.slice (some ⟨A.heap.size,0,none⟩) 1 1,.slice (some ⟨A.heap.size+1+1,0,none⟩) 1 1] 25)
   refine H.out _ _ ⟨Ja U cE,Ja U cF,Ja U cG⟩ (fun y=>?_)
   clear H R
   refine wpAnyH_ready (rs:=[0]) (by kernel_rfl) (by simp) (AllReadyH.cons rfl (fun R H=>?_) AllReadyH.nil)
   go_simp
   refine(Jen _).mono ?_
   rintro e X ⟨rfl,M⟩
   have bQ:Below W.heap.size W X:=Jb U M
   have cM:X.heap[W.heap.size]?=_:=(M.block _ (Jd bC)).trans bC
   go_simp
   refine H.out _ _ ⟨Ja M y.1,Ja M y.2.1,Ja M y.2.2⟩ (fun y=>?_)
   clear H R
   refine wpAnyH_ready (rs:=[3]) (by kernel_rfl) (by simp) (AllReadyH.cons rfl (fun R H=>?_) AllReadyH.nil)
   go_simp
   refine(bR.out _ _ bQ cM).mono ?_
  all_goals
   rintro e bb ⟨st,rfl,cy,bc⟩
   have cJ:Hid (Jhr A bb st Yh [1] [[Za]]):=cy
   clear cy
   go_simp
   refine H.out _ _ ⟨Ja bc y.1,Ja bc y.2.1,Ja bc y.2.2⟩ (fun y=>?_)
   clear H R
   refine tk 4 ?_ rfl y ?_ ?_
   rotate_left 1
   ·intro w O;(try dsimp only at O);go_simp;try rfl
   simp only[Act.put,List.getElem_toArray,List.getElem_cons_zero,List.getElem_cons_succ,Oa1,List.set_cons_zero,List.set_cons_succ]
   refine wpAnyH_done (by kernel_rfl) ?_ _
   go_wp2_with fail
   go_meet
   case rel=>exact⟨st,rfl,cJ.out⟩
 case rest=>
  obtain⟨st,rfl,cj,bG,bD,T,cA,cz,cv,cC⟩:=hcut
  have ba:Hid (Sto bG wc st bD [T]∧Jbc bD [(T,[[Za]])]∧T.name=Yh∧T.types=[1]∧Below A.heap.size A wc):=⟨cA,cz,cv,cC,cj⟩
  clear cA cz cv cC cj
  go_upto_region 9 with fail
  have bL:(wc.alloc (.cells #[.int .i64 0,.int .i64 0,.int .i64 0,.int .i64 0,.int .i64 0,.int .i64 0,.string ⟨#[]⟩,.int .i64 1,.int .i64 0,.int .i64 0,.int .i64 1,.int .i64 1,.int .i64 1,.string ⟨#[]⟩,.int .i64 2,.int .i64 0,.int .i64 1,.int .i64 0,.int .i64 0,.int .i64 0,.string ⟨#[]⟩] 65)).heap[wc.heap.size]?=some (.cells (Jkp.flatMap ptC).toArray 65 (0,0)):=heap_alloc_new wc (.cells #[.int .i64 0,.int .i64 0,.int .i64 0,.int .i64 0,.int .i64 0,.int .i64 0,.string ⟨#[]⟩,.int .i64 1,.int .i64 0,.int .i64 0,.int .i64 1,.int .i64 1,.int .i64 1,.string ⟨#[]⟩,.int .i64 2,.int .i64 0,.int .i64 1,.int .i64 0,.int .i64 0,.int .i64 0,.string ⟨#[]⟩] 65)
  have bN:Below wc.heap.size wc (wc.alloc (.cells #[.int .i64 0,.int .i64 0,.int .i64 0,.int .i64 0,.int .i64 0,.int .i64 0,.string ⟨#[]⟩,.int .i64 1,.int .i64 0,.int .i64 0,.int .i64 1,.int .i64 1,.int .i64 1,.string ⟨#[]⟩,.int .i64 2,.int .i64 0,.int .i64 1,.int .i64 0,.int .i64 0,.int .i64 0,.string ⟨#[]⟩] 65)):=Jc (Oa5 _ _) _
  generalize wc.alloc (.cells #[.int .i64 0,.int .i64 0,.int .i64 0,.int .i64 0,.int .i64 0,.int .i64 0,.string ⟨#[]⟩,.int .i64 1,.int .i64 0,.int .i64 0,.int .i64 1,.int .i64 1,.int .i64 1,.string ⟨#[]⟩,.int .i64 2,.int .i64 0,.int .i64 1,.int .i64 0,.int .i64 0,.int .i64 0,.string ⟨#[]⟩] 65)=bU at bL bN ⊢
  have br:Hid (bU.heap[wc.heap.size]?=some (.cells (Jkp.flatMap ptC).toArray 65 (0,0))∧Below wc.heap.size wc bU):=⟨bL,bN⟩
  clear bL bN
  go_wp2_with (first|(go_at_call 10;refine(Jor _ _).mono ?_;rintro bI K ⟨rfl,cb⟩)|(go_at_call 17;refine(Kbg _).mono ?_;rintro bI bT ⟨rfl,bA⟩))
  have M:((K.alloc (.cells #[.slice (some ⟨wc.heap.size,0,none⟩) 3 3] 66)).alloc (.cells #[.int .i64 0,.int .i64 0,.int .i64 0,.string ⟨#[111,110,101]⟩,.slice none 0 0,.slice none 0 0,.int .i64 0,.int .i64 2,.int .i64 0,.int .i64 0,.string ⟨#[]⟩,.slice (some ⟨K.heap.size,0,none⟩) 1 1,.slice none 0 0,.int .i64 0] 47)).heap[K.heap.size]?=some (.cells #[.slice (some ⟨wc.heap.size,0,none⟩) 3 3] 66 (0,0)):=(Oa9 _ _ _ (by simp)).trans (heap_alloc_new K _)
  have bc:((K.alloc (.cells #[.slice (some ⟨wc.heap.size,0,none⟩) 3 3] 66)).alloc (.cells #[.int .i64 0,.int .i64 0,.int .i64 0,.string ⟨#[111,110,101]⟩,.slice none 0 0,.slice none 0 0,.int .i64 0,.int .i64 2,.int .i64 0,.int .i64 0,.string ⟨#[]⟩,.slice (some ⟨K.heap.size,0,none⟩) 1 1,.slice none 0 0,.int .i64 0] 47)).heap[K.heap.size+1]?=some (.cells ((Jvf K.heap.size).flatMap ndC).toArray 47 (0,0)):=by
   have:=heap_alloc_new (K.alloc (.cells #[.slice (some ⟨wc.heap.size,0,none⟩) 3 3] 66)) (.cells #[.int .i64 0,.int .i64 0,.int .i64 0,.string ⟨#[111,110,101]⟩,.slice none 0 0,.slice none 0 0,.int .i64 0,.int .i64 2,.int .i64 0,.int .i64 0,.string ⟨#[]⟩,.slice (some ⟨K.heap.size,0,none⟩) 1 1,.slice none 0 0,.int .i64 0] 47)
   rw[Oa7]at this
   exact this
  have ch:Below K.heap.size K ((K.alloc (.cells #[.slice (some ⟨wc.heap.size,0,none⟩) 3 3] 66)).alloc (.cells #[.int .i64 0,.int .i64 0,.int .i64 0,.string ⟨#[111,110,101]⟩,.slice none 0 0,.slice none 0 0,.int .i64 0,.int .i64 2,.int .i64 0,.int .i64 0,.string ⟨#[]⟩,.slice (some ⟨K.heap.size,0,none⟩) 1 1,.slice none 0 0,.int .i64 0] 47)):=Jc (Jc (Oa5 _ _) _) _
  have cc:=Jb ch bA
  have bO:=Jb cb cc
  have bB:=Jb br.out.2 bO
  obtain⟨cs,cr⟩:=Jx2 ba.out.2.1 ba.out.2.2.1 ba.out.2.2.2.1 bx.out.tab bx.out.vals
  have cD:=(bA.block _ (Jd M)).trans M
  have cx:=Ke9 bG st bD T cs bT (ba.out.1.below bB) cr bf bh bi bn q wr pg bk ex bl (bE.out.below (Jb ba.out.2.2.2.2 bB)) (K.heap.size+1) K.heap.size wc.heap.size ((bA.block _ (Jd bc)).trans bc) (by simp[World.cell?,cD]) ((bO.block _ (Jd br.out.1)).trans br.out.1)
  refine cx.mono ?_
  rintro bI D ⟨cf,g,bs,rfl,cu⟩
  have bu:Hid (Jcu D bT.heap.size g bs [[Jtx]]):=cu
  have cI:Hid (Below w.heap.size w D):=Jb ca (Jb ba.out.2.2.2.2 (Jb bB cf))
  clear cu cx cD cr bB bO cc ch M bc cb bA cf ba br bx bE bS
  go_wp2_with fail
  obtain⟨b1,rfl⟩:∃ b1,bs=[b1]:=by
   have:=bu.out.len
   match bs,this with
   |[x],_=>exact⟨x,rfl⟩
  have bY:D.cell? ⟨g,0,none⟩=some (.slice (some ⟨b1,0,none⟩) 1 1):=bu.out.outer.cell (i:=0) (by simp)
  have cH:D.cell? ⟨b1,1,none⟩=some (.int .i64 42):=by
   rcases(bu.out.rows 0 b1 [Jtx] rfl rfl).vals with h|⟨cZ,dc,bZ,_,cP⟩
   ·simp at h
   simp at bZ
   obtain⟨rfl,rfl⟩:=bZ
   have:=(cP 0 Jtx rfl).2.1
   simpa using this
  have db:=Jjl 0
  have bP:Below D.heap.size D (D.alloc (.cells #[.int .i64 0,.int .i64 (-1),.int .i64 (-1),.int .i64 (-1),.int .i64 (-1)] 42)):=(Oa5 _ _).alloc (Oa2 _) _
  have bj:=heap_alloc_new D (.cells #[.int .i64 0,.int .i64 (-1),.int .i64 (-1),.int .i64 (-1),.int .i64 (-1)] 42)
  have cK:=Ja bP bY
  have cW:=Ja bP cH
  generalize D.alloc (.cells #[.int .i64 0,.int .i64 (-1),.int .i64 (-1),.int .i64 (-1),.int .i64 (-1)] 42)=bb at *
  have cQ:bb.cell? ⟨D.heap.size,0,none⟩=some (.int .i64 0):=by simp[World.cell?,bj]
  have cS:bb.cell? ⟨D.heap.size,1,none⟩=some (.int .i64 (-1)):=by simp[World.cell?,bj]
  have cT:bb.cell? ⟨D.heap.size,2,none⟩=some (.int .i64 (-1)):=by simp[World.cell?,bj]
  have cU:bb.cell? ⟨D.heap.size,3,none⟩=some (.int .i64 (-1)):=by simp[World.cell?,bj]
  have cV:bb.cell? ⟨D.heap.size,4,none⟩=some (.int .i64 (-1)):=by simp[World.cell?,bj]
  clear bY cH bj bu
  refine wp_region_held_drew (S:=fun E=>E.cell? ⟨D.heap.size,0,none⟩=some (.int .i64 0)∧E.cell? ⟨D.heap.size,1,none⟩=some (.int .i64 (-1))∧E.cell? ⟨D.heap.size,2,none⟩=some (.int .i64 (-1))∧E.cell? ⟨D.heap.size,3,none⟩=some (.int .i64 (-1))∧E.cell? ⟨D.heap.size,4,none⟩=some (.int .i64 (-1))∧E.cell? ⟨g,0,none⟩=some (.slice (some ⟨b1,0,none⟩) 1 1)∧E.cell? ⟨b1,1,none⟩=some (.int .i64 42)) (by kernel_rfl) ⟨cQ,cS,cT,cU,cV,cK,cW⟩ (fun y=>?_)
  refine tk 0 ?_ rfl y ?_ ?_
  rotate_left 1
  ·intro w O;(try dsimp only at O);go_simp;try rfl
  simp only[Act.put,List.getElem_toArray,List.getElem_cons_zero,Oa1,List.set_cons_zero,List.set_cons_succ]
  refine wpAnyH_ready (rs:=[1]) (by kernel_rfl) (by simp) (AllReadyH.cons rfl (fun R H=>?_) AllReadyH.nil)
  go_simp
  refine(Jfu _).mono ?_
  rintro e cY ⟨rfl,Z⟩
  go_simp
  refine H.out _ _ ⟨Ja Z y.1,Ja Z y.2.1,Ja Z y.2.2.1,Ja Z y.2.2.2.1,Ja Z y.2.2.2.2.1,Ja Z y.2.2.2.2.2.1,Ja Z y.2.2.2.2.2.2⟩ (fun y=>?_)
  clear H R
  refine tk 2 ?_ rfl y ?_ (tk 3 ?_ rfl y ?_ ?_)
  iterate 2
   rotate_left 1
   ·intro w O;(try dsimp only at O);go_simp;try rfl
  simp only[Act.put,List.getElem_toArray,List.getElem_cons_zero,List.getElem_cons_succ,Oa1,List.set_cons_zero,List.set_cons_succ]
  refine tk 4 ?_ rfl y ?_ (tk 5 ?_ rfl y ?_ (tk 6 ?_ rfl y ?_ (tk 7 ?_ rfl y ?_ (tk 8 ?_ rfl y ?_ ?_))))
  iterate 5
   rotate_left 1
   ·intro w O;(try dsimp only at O);go_simp;try rfl
  simp only[Act.put,List.getElem_toArray,List.getElem_cons_zero,List.getElem_cons_succ,Oa1,List.set_cons_zero,List.set_cons_succ]
  refine tk 9 ?_ rfl y ?_ (tk 10 ?_ rfl y ?_ (tk 11 ?_ rfl y ?_ (tk 12 ?_ rfl y ?_ (tk 13 ?_ rfl y ?_ (tk 14 ?_ rfl y ?_ (tk 15 ?_ rfl y ?_ ?_))))))
  iterate 7
   rotate_left 1
   ·intro w O;(try dsimp only at O);go_simp;try rfl
  simp only[Act.put,List.getElem_toArray,List.getElem_cons_zero,List.getElem_cons_succ,Oa1,List.set_cons_zero,List.set_cons_succ]
  refine tk 16 ?_ rfl y ?_ (tk 17 ?_ rfl y ?_ (tk 18 ?_ rfl y ?_ (tk 19 ?_ rfl y ?_ (tk 20 ?_ rfl y ?_ (tk 21 ?_ rfl y ?_ (tk 22 ?_ rfl y ?_ (tk 23 ?_ rfl y ?_ (tk 24 ?_ rfl y ?_ ?_))))))))
  iterate 9
   rotate_left 1
   ·intro w O;(try dsimp only at O);go_simp;try rfl
  simp only[Act.put,List.getElem_toArray,List.getElem_cons_zero,List.getElem_cons_succ,Oa1,List.set_cons_zero,List.set_cons_succ]
  refine wpAnyH_done (by kernel_rfl) ?_ _
  go_wp2
  go_ret
  exact⟨rfl,Jb cI.out (Jb bP (Jw Z))⟩
end Go.Proofs.YtdlgbphkaicfaaaGreatDoor
