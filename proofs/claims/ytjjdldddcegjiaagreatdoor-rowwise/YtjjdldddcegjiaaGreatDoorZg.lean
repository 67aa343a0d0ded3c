/- The law's own check: runs. -/
import Derived.Test.YtjjdldddcegjiaaGreatDoorZh
import Derived.Test.YtjjdldddcegjiaaGreatDoorYf
set_option maxHeartbeats 4000000
set_option maxRecDepth 100000
namespace Go.Proofs.YtjjdldddcegjiaaGreatDoor
open Go.RowKit Go.Shelf Tryz
attribute [local go_sem] Oc0
abbrev Jtx:V:=⟨1,42,⟨#[]⟩⟩
theorem Jy2 (w:World)(bf bh bi br q wr pg bl ex bn:Addr)(bK:Jax w bf bh bi br q wr pg bl ex bn) :
  Calls prog 4 #[] w fun e w'=>e=.returned (.bool true)∧Below w.heap.size w w':=by
 have bT:Hid (Jax w bf bh bi br q wr pg bl ex bn):=bK
 have cC:=Kev w bf bh bi br q wr pg bl ex bn bK
 clear bK
 go_enter func4,ntmps4
 go_upto_region 4 with(go_at_call 18;refine cC.mono ?_;rintro bJ z ⟨rfl,cb⟩)
 have bG:Hid (Jax z bf bh bi br q wr pg bl ex bn):=bT.out.below cb
 clear cC
 go_upto_region 5 with fail
 obtain⟨W,hW⟩:∃ W,W=((((z.alloc (.cells #[.int .i64 1] 3)).alloc (.cells #[.int .i64 1,.int .i64 41,.string ⟨#[]⟩] 49)).alloc (.cells #[.slice (some ⟨z.heap.size+1,0,none⟩) 1 1] 59)).alloc (.cells #[.string ⟨#[111,110,101]⟩,.slice (some ⟨z.heap.size,0,none⟩) 1 1,.slice (some ⟨z.heap.size+1+1,0,none⟩) 1 1] 25)):=⟨_,rfl⟩
 rw[←hW]
 have cj:Below z.heap.size z W:=by rw[hW];exact((((Oa5 _ z).alloc (Oa2 _) _).alloc (by simp) _).alloc (by simp;omega) _).alloc (by simp;omega) _
 have bA:W.heap[z.heap.size+1+1+1]?=some (.cells #[.string ⟨#[111,110,101]⟩,.slice (some ⟨z.heap.size,0,none⟩) 1 1,.slice (some ⟨z.heap.size+1+1,0,none⟩) 1 1] 25 (0,0)):=by rw[hW];exact Jb4 _ _ _ (by simp)
 have bY:W.heap[z.heap.size+1+1]?=some (.cells #[.slice (some ⟨z.heap.size+1,0,none⟩) 1 1] 59 (0,0)):=by rw[hW,Oa9 _ _ _ (by simp)];exact Jb4 _ _ _ (by simp)
 have bX:W.heap[z.heap.size+1]?=some (.cells #[.int .i64 1,.int .i64 41,.string ⟨#[]⟩] 49 (0,0)):=by rw[hW,Oa9 _ _ _ (by simp),Oa9 _ _ _ (by simp)];exact Jb4 _ _ _ (by simp)
 have bW:W.heap[z.heap.size]?=some (.cells #[.int .i64 1] 3 (0,0)):=by rw[hW,Oa9 _ _ _ (by simp;omega),Oa9 _ _ _ (by simp;omega),Oa9 _ _ _ (by simp)];exact Jb4 _ _ _ rfl
 have bz:Hid (Uw W Yh (some ⟨z.heap.size,0,none⟩) (some ⟨z.heap.size+1+1,0,none⟩) 1 [1] [(some ⟨z.heap.size+1,0,none⟩,1)] [[Za]]):=Jxy (v:=Za) bW bX bY (by decide) (by decide) (by simp[okB,okK]) (by simp[Jg])
 have cF:W.cell? ⟨z.heap.size+1+1+1,0,none⟩=some (.string ⟨#[111,110,101]⟩):=by simp[World.cell?,bA]
 have cG:W.cell? ⟨z.heap.size+1+1+1,1,none⟩=some (.slice (some ⟨z.heap.size,0,none⟩) 1 1):=by simp[World.cell?,bA]
 have cH:W.cell? ⟨z.heap.size+1+1+1,2,none⟩=some (.slice (some ⟨z.heap.size+1+1,0,none⟩) 1 1):=by simp[World.cell?,bA]
 clear hW bW bX bY bA
 have bS:Hid (∀ C b,Below W.heap.size W C→C.heap[b]?=some (.cells #[.string ⟨#[111,110,101]⟩,.slice (some ⟨z.heap.size,0,none⟩) 1 1,.slice (some ⟨z.heap.size+1+1,0,none⟩) 1 1] 25 (0,0))→Calls prog 6 #[.agg #[.int .i64 1048576,.int .i64 0],.slice (some ⟨b,0,none⟩) 1 1] C fun e bI=>∃ st,e=.returned (.pointer (some ⟨st,0,none⟩))∧Jhr z bI st Yh [1] [[Za]]∧Below C.heap.size C bI):=fun C b bL bN=>
  (Jl3 b Yh (some ⟨z.heap.size,0,none⟩) (some ⟨z.heap.size+1+1,0,none⟩) 1 1 [1] [(some ⟨z.heap.size+1,0,none⟩,1)] [[Za]] C (bz.out.below bL) (by simp[World.cell?,bN]) (by simp[World.cell?,bN]) (by simp[World.cell?,bN]) bf bh bi br q wr pg bl ex bn (bG.out.below (Jb cj bL))).mono fun e bI ⟨cn,st,bH,cO,cP,db⟩=>⟨st,cO,Jlx cP (Jb cj bL) cn,cn⟩
 go_cut [3] from 15 to 18 (fun s cY=>∃ st:Nat,s=.pointer (some ⟨st,0,none⟩)∧Jhr z cY st Yh [1] [[Za]])
 case first=>
  refine wp_region_held_drew (S:=fun C=>C.cell? ⟨z.heap.size+1+1+1,0,none⟩=some (.string ⟨#[111,110,101]⟩)∧C.cell? ⟨z.heap.size+1+1+1,1,none⟩=some (.slice (some ⟨z.heap.size,0,none⟩) 1 1)∧C.cell? ⟨z.heap.size+1+1+1,2,none⟩=some (.slice (some ⟨z.heap.size+1+1,0,none⟩) 1 1)) (by kernel_rfl) ⟨cF,cG,cH⟩ (fun y=>?_)
  refine tk 1 ?_ rfl y ?_ ?_
  rotate_left 1
  ·intro w K;(try dsimp only at K);go_simp;try rfl
  simp only[Act.put,List.getElem_toArray,List.getElem_cons_zero,List.getElem_cons_succ,Oa1,List.set_cons_zero,List.set_cons_succ]
  have cr:Below W.heap.size W W.drew:=⟨rfl,rfl,rfl,Oa2 _,fun _ _=>rfl⟩
  refine wpAnyH_ready (rs:=[0,2]) (by kernel_rfl) (by simp) (AllReadyH.cons rfl (fun M D=>?_) (AllReadyH.cons rfl (fun M D=>?_) AllReadyH.nil))
  focus
   go_simp
   refine(Jen _).mono ?_
   rintro e R ⟨rfl,H⟩
   have bR:Below W.heap.size W R:=Jb cr H
   go_simp
   refine D.out _ _ ⟨Ja H y.1,Ja H y.2.1,Ja H y.2.2⟩ (fun y=>?_)
   clear D M
   refine wpAnyH_ready (rs:=[2]) (by kernel_rfl) (by simp) (AllReadyH.cons rfl (fun M D=>?_) AllReadyH.nil)
   go_simp
   have O:Below R.heap.size R (R.alloc (.cells #[.string ⟨#[111,110,101]⟩,.slice (some ⟨z.heap.size,0,none⟩) 1 1,.slice (some ⟨z.heap.size+1+1,0,none⟩) 1 1] 25)):=(Oa5 _ _).alloc (Oa2 _) _
   have bD:=heap_alloc_new R (.cells #[.string ⟨#[111,110,101]⟩,.slice (some ⟨z.heap.size,0,none⟩) 1 1,.slice (some ⟨z.heap.size+1+1,0,none⟩) 1 1] 25)
   refine D.out _ _ ⟨Ja O y.1,Ja O y.2.1,Ja O y.2.2⟩ (fun y=>?_)
   clear D M
   refine wpAnyH_ready (rs:=[3]) (by kernel_rfl) (by simp) (AllReadyH.cons rfl (fun M D=>?_) AllReadyH.nil)
   go_simp
   refine(bS.out _ _ (Jb bR O) bD).mono ?_
  rotate_left 1
  focus
   go_simp
   have O:Below W.heap.size W ((W.alloc (.cells #[.string ⟨#[111,110,101]⟩,.slice (some ⟨z.heap.size,0,none⟩) 1 1,.slice (some ⟨z.heap.size+1+1,0,none⟩) 1 1] 25)).drew):=Jb cr ((Oa5 _ W.drew).alloc (Oa2 _) (.cells #[.string ⟨#[111,110,101]⟩,.slice (some ⟨z.heap.size,0,none⟩) 1 1,.slice (some ⟨z.heap.size+1+1,0,none⟩) 1 1] 25))
   have bD:((W.alloc (.cells #[.string ⟨#[111,110,101]⟩,.slice (some ⟨z.heap.size,0,none⟩) 1 1,.slice (some ⟨z.heap.size+1+1,0,none⟩) 1 1] 25)).drew).heap[W.heap.size]?=_:=heap_alloc_new W (.cells #[.string ⟨#[111,110,101]⟩,.slice (some ⟨z.heap.size,0,none⟩) 1 1,.slice (some ⟨z.heap.size+1+1,0,none⟩) 1 1] 25)
   refine D.out _ _ ⟨Ja O cF,Ja O cG,Ja O cH⟩ (fun y=>?_)
   clear D M
   refine wpAnyH_ready (rs:=[0]) (by kernel_rfl) (by simp) (AllReadyH.cons rfl (fun M D=>?_) AllReadyH.nil)
   go_simp
   refine(Jen _).mono ?_
   rintro e R ⟨rfl,H⟩
   have bR:Below W.heap.size W R:=Jb O H
   have cN:R.heap[W.heap.size]?=_:=(H.block _ (Jd bD)).trans bD
   go_simp
   refine D.out _ _ ⟨Ja H y.1,Ja H y.2.1,Ja H y.2.2⟩ (fun y=>?_)
   clear D M
   refine wpAnyH_ready (rs:=[3]) (by kernel_rfl) (by simp) (AllReadyH.cons rfl (fun M D=>?_) AllReadyH.nil)
   go_simp
   refine(bS.out _ _ bR cN).mono ?_
  all_goals
   rintro e Z ⟨st,rfl,cz,bc⟩
   have cK:Hid (Jhr z Z st Yh [1] [[Za]]):=cz
   clear cz
   go_simp
   refine D.out _ _ ⟨Ja bc y.1,Ja bc y.2.1,Ja bc y.2.2⟩ (fun y=>?_)
   clear D M
   refine tk 4 ?_ rfl y ?_ ?_
   rotate_left 1
   ·intro w K;(try dsimp only at K);go_simp;try rfl
   simp only[Act.put,List.getElem_toArray,List.getElem_cons_zero,List.getElem_cons_succ,Oa1,List.set_cons_zero,List.set_cons_succ]
   refine wpAnyH_done (by kernel_rfl) ?_ _
   go_wp2_with fail
   go_meet
   case rel=>exact⟨st,rfl,cK.out⟩
 case rest=>
  obtain⟨st,rfl,cl,bH,bE,T,cB,cA,cx,cD⟩:=hcut
  have X:Hid (Sto bH wc st bE [T]∧Jbc bE [(T,[[Za]])]∧T.name=Yh∧T.types=[1]∧Below z.heap.size z wc):=⟨cB,cA,cx,cD,cl⟩
  clear cB cA cx cD cl
  go_upto_region 9 with fail
  have bM:(wc.alloc (.cells #[.int .i64 0,.int .i64 0,.int .i64 0,.int .i64 0,.int .i64 0,.int .i64 0,.string ⟨#[]⟩,.int .i64 1,.int .i64 0,.int .i64 0,.int .i64 1,.int .i64 1,.int .i64 1,.string ⟨#[]⟩,.int .i64 2,.int .i64 0,.int .i64 1,.int .i64 0,.int .i64 0,.int .i64 0,.string ⟨#[]⟩] 51)).heap[wc.heap.size]?=some (.cells (Jkp.flatMap ptC).toArray 51 (0,0)):=heap_alloc_new wc (.cells #[.int .i64 0,.int .i64 0,.int .i64 0,.int .i64 0,.int .i64 0,.int .i64 0,.string ⟨#[]⟩,.int .i64 1,.int .i64 0,.int .i64 0,.int .i64 1,.int .i64 1,.int .i64 1,.string ⟨#[]⟩,.int .i64 2,.int .i64 0,.int .i64 1,.int .i64 0,.int .i64 0,.int .i64 0,.string ⟨#[]⟩] 51)
  have bO:Below wc.heap.size wc (wc.alloc (.cells #[.int .i64 0,.int .i64 0,.int .i64 0,.int .i64 0,.int .i64 0,.int .i64 0,.string ⟨#[]⟩,.int .i64 1,.int .i64 0,.int .i64 0,.int .i64 1,.int .i64 1,.int .i64 1,.string ⟨#[]⟩,.int .i64 2,.int .i64 0,.int .i64 1,.int .i64 0,.int .i64 0,.int .i64 0,.string ⟨#[]⟩] 51)):=Jc (Oa5 _ _) _
  generalize wc.alloc (.cells #[.int .i64 0,.int .i64 0,.int .i64 0,.int .i64 0,.int .i64 0,.int .i64 0,.string ⟨#[]⟩,.int .i64 1,.int .i64 0,.int .i64 0,.int .i64 1,.int .i64 1,.int .i64 1,.string ⟨#[]⟩,.int .i64 2,.int .i64 0,.int .i64 1,.int .i64 0,.int .i64 0,.int .i64 0,.string ⟨#[]⟩] 51)=bV at bM bO ⊢
  have bu:Hid (bV.heap[wc.heap.size]?=some (.cells (Jkp.flatMap ptC).toArray 51 (0,0))∧Below wc.heap.size wc bV):=⟨bM,bO⟩
  clear bM bO
  go_wp2_with (first|(go_at_call 11;refine(Jor _ _).mono ?_;rintro bJ E ⟨rfl,cc⟩)|(go_at_call 19;refine(Kbg _).mono ?_;rintro bJ bU ⟨rfl,bB⟩))
  have H:((E.alloc (.cells #[.slice (some ⟨wc.heap.size,0,none⟩) 3 3] 26)).alloc (.cells #[.int .i64 0,.int .i64 0,.int .i64 0,.string ⟨#[111,110,101]⟩,.slice none 0 0,.slice none 0 0,.int .i64 0,.int .i64 2,.int .i64 0,.int .i64 0,.string ⟨#[]⟩,.slice (some ⟨E.heap.size,0,none⟩) 1 1,.slice none 0 0,.int .i64 0] 46)).heap[E.heap.size]?=some (.cells #[.slice (some ⟨wc.heap.size,0,none⟩) 3 3] 26 (0,0)):=(Oa9 _ _ _ (by simp)).trans (heap_alloc_new E _)
  have bc:((E.alloc (.cells #[.slice (some ⟨wc.heap.size,0,none⟩) 3 3] 26)).alloc (.cells #[.int .i64 0,.int .i64 0,.int .i64 0,.string ⟨#[111,110,101]⟩,.slice none 0 0,.slice none 0 0,.int .i64 0,.int .i64 2,.int .i64 0,.int .i64 0,.string ⟨#[]⟩,.slice (some ⟨E.heap.size,0,none⟩) 1 1,.slice none 0 0,.int .i64 0] 46)).heap[E.heap.size+1]?=some (.cells ((Jvf E.heap.size).flatMap ndC).toArray 46 (0,0)):=by
   have:=heap_alloc_new (E.alloc (.cells #[.slice (some ⟨wc.heap.size,0,none⟩) 3 3] 26)) (.cells #[.int .i64 0,.int .i64 0,.int .i64 0,.string ⟨#[111,110,101]⟩,.slice none 0 0,.slice none 0 0,.int .i64 0,.int .i64 2,.int .i64 0,.int .i64 0,.string ⟨#[]⟩,.slice (some ⟨E.heap.size,0,none⟩) 1 1,.slice none 0 0,.int .i64 0] 46)
   rw[Oa7]at this
   exact this
  have ci:Below E.heap.size E ((E.alloc (.cells #[.slice (some ⟨wc.heap.size,0,none⟩) 3 3] 26)).alloc (.cells #[.int .i64 0,.int .i64 0,.int .i64 0,.string ⟨#[111,110,101]⟩,.slice none 0 0,.slice none 0 0,.int .i64 0,.int .i64 2,.int .i64 0,.int .i64 0,.string ⟨#[]⟩,.slice (some ⟨E.heap.size,0,none⟩) 1 1,.slice none 0 0,.int .i64 0] 46)):=Jc (Jc (Oa5 _ _) _) _
  have cf:=Jb ci bB
  have bP:=Jb cc cf
  have bC:=Jb bu.out.2 bP
  obtain⟨cs,cu⟩:=Jx2 X.out.2.1 X.out.2.2.1 X.out.2.2.2.1 bz.out.tab bz.out.vals
  have cE:=(bB.block _ (Jd H)).trans H
  have cy:=Ke9 bH st bE T cs bU (X.out.1.below bC) cu bf bh bi br q wr pg bl ex bn (bG.out.below (Jb X.out.2.2.2.2 bC)) (E.heap.size+1) E.heap.size wc.heap.size ((bB.block _ (Jd bc)).trans bc) (by simp[World.cell?,cE]) ((bP.block _ (Jd bu.out.1)).trans bu.out.1)
  refine cy.mono ?_
  rintro bJ A ⟨ch,g,bs,rfl,cv⟩
  have bx:Hid (Jcu A bU.heap.size g bs [[Jtx]]):=cv
  have cJ:Hid (Below w.heap.size w A):=Jb cb (Jb X.out.2.2.2.2 (Jb bC ch))
  clear cv cy cE cu bC bP cf ci H bc cc bB ch X bu bz bG bT
  go_wp2_with fail
  obtain⟨b1,rfl⟩:∃ b1,bs=[b1]:=by
   have:=bx.out.len
   match bs,this with
   |[x],_=>exact⟨x,rfl⟩
  have bZ:A.cell? ⟨g,0,none⟩=some (.slice (some ⟨b1,0,none⟩) 1 1):=bx.out.outer.cell (i:=0) (by simp)
  have cI:A.cell? ⟨b1,1,none⟩=some (.int .i64 42):=by
   rcases(bx.out.rows 0 b1 [Jtx] rfl rfl).vals with h|⟨da,dd,ca,_,cQ⟩
   ·simp at h
   simp at ca
   obtain⟨rfl,rfl⟩:=ca
   have:=(cQ 0 Jtx rfl).2.1
   simpa using this
  have dc:=Jjl 0
  have bQ:Below A.heap.size A (A.alloc (.cells #[.int .i64 0,.int .i64 (-1),.int .i64 (-1),.int .i64 (-1),.int .i64 (-1)] 40)):=(Oa5 _ _).alloc (Oa2 _) _
  have bj:=heap_alloc_new A (.cells #[.int .i64 0,.int .i64 (-1),.int .i64 (-1),.int .i64 (-1),.int .i64 (-1)] 40)
  have cM:=Ja bQ bZ
  have cX:=Ja bQ cI
  generalize A.alloc (.cells #[.int .i64 0,.int .i64 (-1),.int .i64 (-1),.int .i64 (-1),.int .i64 (-1)] 40)=Z at *
  have cS:Z.cell? ⟨A.heap.size,0,none⟩=some (.int .i64 0):=by simp[World.cell?,bj]
  have cT:Z.cell? ⟨A.heap.size,1,none⟩=some (.int .i64 (-1)):=by simp[World.cell?,bj]
  have cU:Z.cell? ⟨A.heap.size,2,none⟩=some (.int .i64 (-1)):=by simp[World.cell?,bj]
  have cV:Z.cell? ⟨A.heap.size,3,none⟩=some (.int .i64 (-1)):=by simp[World.cell?,bj]
  have cW:Z.cell? ⟨A.heap.size,4,none⟩=some (.int .i64 (-1)):=by simp[World.cell?,bj]
  clear bZ cI bj bx
  refine wp_region_held_drew (S:=fun C=>C.cell? ⟨A.heap.size,0,none⟩=some (.int .i64 0)∧C.cell? ⟨A.heap.size,1,none⟩=some (.int .i64 (-1))∧C.cell? ⟨A.heap.size,2,none⟩=some (.int .i64 (-1))∧C.cell? ⟨A.heap.size,3,none⟩=some (.int .i64 (-1))∧C.cell? ⟨A.heap.size,4,none⟩=some (.int .i64 (-1))∧C.cell? ⟨g,0,none⟩=some (.slice (some ⟨b1,0,none⟩) 1 1)∧C.cell? ⟨b1,1,none⟩=some (.int .i64 42)) (by kernel_rfl) ⟨cS,cT,cU,cV,cW,cM,cX⟩ (fun y=>?_)
  refine tk 0 ?_ rfl y ?_ ?_
  rotate_left 1
  ·intro w K;(try dsimp only at K);go_simp;try rfl
  simp only[Act.put,List.getElem_toArray,List.getElem_cons_zero,Oa1,List.set_cons_zero,List.set_cons_succ]
  refine wpAnyH_ready (rs:=[1]) (by kernel_rfl) (by simp) (AllReadyH.cons rfl (fun M D=>?_) AllReadyH.nil)
  go_simp
  refine(Jfu _).mono ?_
  rintro e cZ ⟨rfl,U⟩
  go_simp
  refine D.out _ _ ⟨Ja U y.1,Ja U y.2.1,Ja U y.2.2.1,Ja U y.2.2.2.1,Ja U y.2.2.2.2.1,Ja U y.2.2.2.2.2.1,Ja U y.2.2.2.2.2.2⟩ (fun y=>?_)
  clear D M
  refine tk 2 ?_ rfl y ?_ (tk 3 ?_ rfl y ?_ ?_)
  iterate 2
   rotate_left 1
   ·intro w K;(try dsimp only at K);go_simp;try rfl
  simp only[Act.put,List.getElem_toArray,List.getElem_cons_zero,List.getElem_cons_succ,Oa1,List.set_cons_zero,List.set_cons_succ]
  refine tk 4 ?_ rfl y ?_ (tk 5 ?_ rfl y ?_ (tk 6 ?_ rfl y ?_ (tk 7 ?_ rfl y ?_ (tk 8 ?_ rfl y ?_ ?_))))
  iterate 5
   rotate_left 1
   ·intro w K;(try dsimp only at K);go_simp;try rfl
  simp only[Act.put,List.getElem_toArray,List.getElem_cons_zero,List.getElem_cons_succ,Oa1,List.set_cons_zero,List.set_cons_succ]
  refine tk 9 ?_ rfl y ?_ (tk 10 ?_ rfl y ?_ (tk 11 ?_ rfl y ?_ (tk 12 ?_ rfl y ?_ (tk 13 ?_ rfl y ?_ (tk 14 ?_ rfl y ?_ (tk 15 ?_ rfl y ?_ ?_))))))
  iterate 7
   rotate_left 1
   ·intro w K;(try dsimp only at K);go_simp;try rfl
  simp only[Act.put,List.getElem_toArray,List.getElem_cons_zero,List.getElem_cons_succ,Oa1,List.set_cons_zero,List.set_cons_succ]
  refine tk 16 ?_ rfl y ?_ (tk 17 ?_ rfl y ?_ (tk 18 ?_ rfl y ?_ (tk 19 ?_ rfl y ?_ (tk 20 ?_ rfl y ?_ (tk 21 ?_ rfl y ?_ (tk 22 ?_ rfl y ?_ (tk 23 ?_ rfl y ?_ (tk 24 ?_ rfl y ?_ ?_))))))))
  iterate 9
   rotate_left 1
   ·intro w K;(try dsimp only at K);go_simp;try rfl
  simp only[Act.put,List.getElem_toArray,List.getElem_cons_zero,List.getElem_cons_succ,Oa1,List.set_cons_zero,List.set_cons_succ]
  refine wpAnyH_done (by kernel_rfl) ?_ _
  go_wp2
  go_ret
  exact⟨rfl,Jb cJ.out (Jb bQ (Jw U))⟩
end Go.Proofs.YtjjdldddcegjiaaGreatDoor
