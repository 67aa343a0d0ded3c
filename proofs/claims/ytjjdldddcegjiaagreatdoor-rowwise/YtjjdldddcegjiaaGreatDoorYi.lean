/- The law's options. -/
import Derived.Test.YtjjdldddcegjiaaGreatDoorYh
set_option maxHeartbeats 1000000
set_option maxRecDepth 100000
namespace Go.Proofs.YtjjdldddcegjiaaGreatDoor
open Go.RowKit Go.Shelf Tryz
attribute [local go_sem] Oc0
theorem Juj {lo:Nat}{w W:World}{g:Nat}(h:Below lo w W)(y:lo≤g)(z A C D:Value):Below lo w ((((W.setCell ⟨g,0,none⟩ z).setCell ⟨g,1,none⟩ A).setCell ⟨g,2,none⟩ C).setCell ⟨g,3,none⟩ D):=
 (((h.setCell (p:=⟨g,0,none⟩) y _).setCell (p:=⟨g,1,none⟩) y _).setCell (p:=⟨g,2,none⟩) y _).setCell (p:=⟨g,3,none⟩) y _
theorem Jg1 {W:World}{g:Nat}(y z A C:Value)(b:Nat)(o:Nat)(h:b≠g):((((W.setCell ⟨g,0,none⟩ y).setCell ⟨g,1,none⟩ z).setCell ⟨g,2,none⟩ A).setCell ⟨g,3,none⟩ C).cell? ⟨b,o,none⟩=W.cell? ⟨b,o,none⟩:=by
 simp only[World.cell?]
 rw[Oa4 _ _ _ _ (show b≠g from h),Oa4 _ _ _ _ (show b≠g from h),Oa4 _ _ _ _ (show b≠g from h),Oa4 _ _ _ _ (show b≠g from h)]
theorem Jqk (a b c d:Int)(w:World)(bD:Jg a)(bE:Jg b)(bc:Jg c):Calls prog 12 #[.agg #[.int .i64 a,.int .i64 b,.int .i64 c,.int .i64 d]] w fun e w'=>(∃ X:Nat,∃ O M:Int,e=.returned (.agg #[.int .i64 X,.int .i64 O,.int .i64 M,.int .i64 d])∧1≤X∧X≤1000∧2≤O∧O≤1000∧0≤M∧M≤4096)∧Below w.heap.size w w':=by
 have K:Hid (∀ (c m:Int) (W:World),Jg c→0<m→m≤5000→Calls prog 29 #[.int .i64 c,.int .i64 m] W fun e w'=>(∃ r:Nat,e=.returned (.int .i64 r)∧(r:Int)<m)∧w'=W):=fun c m W bc bG bH=>by
  obtain⟨n,rfl⟩:∃ n:Nat,m=(n:Int):=⟨m.toNat,by omega⟩
  refine(Jfw c n W bc (by omega) (by omega)).mono ?_
  rintro e w' ⟨⟨r,rfl,bI⟩,rfl⟩
  exact⟨⟨r,rfl,by omega⟩,rfl⟩
 go_enter func12,ntmps12
 go_upto_region 1 with fail
 have b0:((w.alloc (.cells #[.int .i64 a,.int .i64 b,.int .i64 c,.int .i64 d] 28)).alloc (.cells #[.int .i64 0,.int .i64 0,.int .i64 0,.int .i64 0] 28)).heap[w.heap.size]?=some (.cells #[.int .i64 a,.int .i64 b,.int .i64 c,.int .i64 d] 28 (0,0)):=(Oa9 _ _ _ (by simp)).trans (heap_alloc_new w _)
 have b1:((w.alloc (.cells #[.int .i64 a,.int .i64 b,.int .i64 c,.int .i64 d] 28)).alloc (.cells #[.int .i64 0,.int .i64 0,.int .i64 0,.int .i64 0] 28)).heap[w.heap.size+1]?=some (.cells #[.int .i64 0,.int .i64 0,.int .i64 0,.int .i64 0] 28 (0,0)):=by
  have:=heap_alloc_new (w.alloc (.cells #[.int .i64 a,.int .i64 b,.int .i64 c,.int .i64 d] 28)) (.cells #[.int .i64 0,.int .i64 0,.int .i64 0,.int .i64 0] 28)
  rw[Oa7]at this
  exact this
 have R:Below w.heap.size w ((w.alloc (.cells #[.int .i64 a,.int .i64 b,.int .i64 c,.int .i64 d] 28)).alloc (.cells #[.int .i64 0,.int .i64 0,.int .i64 0,.int .i64 0] 28)):=Jc (Jc (Oa5 _ _) _) _
 generalize (w.alloc (.cells #[.int .i64 a,.int .i64 b,.int .i64 c,.int .i64 d] 28)).alloc (.cells #[.int .i64 0,.int .i64 0,.int .i64 0,.int .i64 0] 28)=y at b0 b1 R ⊢
 have bf:y.cell? ⟨w.heap.size,0,none⟩=some (.int .i64 a):=by simp[World.cell?,b0]
 have bh:y.cell? ⟨w.heap.size,1,none⟩=some (.int .i64 b):=by simp[World.cell?,b0]
 have bi:y.cell? ⟨w.heap.size,2,none⟩=some (.int .i64 c):=by simp[World.cell?,b0]
 have bj:y.cell? ⟨w.heap.size,3,none⟩=some (.int .i64 d):=by simp[World.cell?,b0]
 have bn:y.cell? ⟨w.heap.size+1,0,none⟩=some (.int .i64 0):=by simp[World.cell?,b1]
 have br:y.cell? ⟨w.heap.size+1,1,none⟩=some (.int .i64 0):=by simp[World.cell?,b1]
 have bu:y.cell? ⟨w.heap.size+1,2,none⟩=some (.int .i64 0):=by simp[World.cell?,b1]
 have bx:y.cell? ⟨w.heap.size+1,3,none⟩=some (.int .i64 0):=by simp[World.cell?,b1]
 have bz:y.frozen? ⟨w.heap.size+1,0,none⟩=false:=by simp[World.frozen?,b1]
 have bA:y.frozen? ⟨w.heap.size+1,1,none⟩=false:=by simp[World.frozen?,b1]
 have bB:y.frozen? ⟨w.heap.size+1,2,none⟩=false:=by simp[World.frozen?,b1]
 have bC:y.frozen? ⟨w.heap.size+1,3,none⟩=false:=by simp[World.frozen?,b1]
 have bl:Hid (Below w.heap.size w y):=R
 have E:Hid (y.cell? ⟨w.heap.size,0,none⟩=some (.int .i64 a)∧y.cell? ⟨w.heap.size,1,none⟩=some (.int .i64 b)∧y.cell? ⟨w.heap.size,2,none⟩=some (.int .i64 c)∧y.cell? ⟨w.heap.size,3,none⟩=some (.int .i64 d)):=⟨bf,bh,bi,bj⟩
 clear b0 b1 R
 refine wp_region_held_drew (S:=fun H=>H.cell? ⟨w.heap.size,0,none⟩=some (.int .i64 a)∧H.cell? ⟨w.heap.size,1,none⟩=some (.int .i64 b)∧H.cell? ⟨w.heap.size,2,none⟩=some (.int .i64 c)∧H.cell? ⟨w.heap.size,3,none⟩=some (.int .i64 d)) (by kernel_rfl) ⟨Jh bf,Jh bh,Jh bi,Jh bj⟩ (fun z=>?_)
 refine tk 0 ?_ rfl z ?_ (tk 1 ?_ rfl z ?_ (tk 4 ?_ rfl z ?_ (tk 5 ?_ rfl z ?_ (tk 8 ?_ rfl z ?_ (tk 9 ?_ rfl z ?_ (tk 11 ?_ rfl z ?_ (tk 12 ?_ rfl z ?_ ?_)))))))
 iterate 8
  rotate_left 1
  ·intro w D;(try dsimp only at D);go_simp;try rfl
 simp only[Act.put,List.getElem_toArray,List.getElem_cons_zero,List.getElem_cons_succ,Oa1,List.set_cons_zero,List.set_cons_succ]
 refine wpAnyH_ready (rs:=[2]) (by kernel_rfl) (by simp) (AllReadyH.cons rfl (fun C A=>?_) AllReadyH.nil)
 go_simp
 refine(K.out _ 1000 y.drew (by assumption) (by omega) (by omega)).mono ?_
 rintro e Z ⟨⟨x,rfl,bK⟩,rfl⟩
 go_simp
 refine A.out _ _ z (fun z=>?_)
 clear A C
 refine tk 3 ?_ rfl z ?_ ?_
 rotate_left 1
 ·intro w D;(try dsimp only at D);go_simp;try rfl
 simp only[Act.put,List.getElem_toArray,List.getElem_cons_zero,List.getElem_cons_succ,Oa1,List.set_cons_zero,List.set_cons_succ]
 rw[show IntKind.i64.wrap (1+(x:Int))=((x+1:Nat):Int) by rw[Od4];omega]
 refine wpAnyH_ready (rs:=[6]) (by kernel_rfl) (by simp) (AllReadyH.cons rfl (fun C A=>?_) AllReadyH.nil)
 go_simp
 refine(K.out _ 999 y.drew (by assumption) (by omega) (by omega)).mono ?_
 rintro e Z ⟨⟨U,rfl,bL⟩,rfl⟩
 go_simp
 refine A.out _ _ z (fun z=>?_)
 clear A C
 refine tk 7 ?_ rfl z ?_ ?_
 rotate_left 1
 ·intro w D;(try dsimp only at D);go_simp;try rfl
 simp only[Act.put,List.getElem_toArray,List.getElem_cons_zero,List.getElem_cons_succ,Oa1,List.set_cons_zero,List.set_cons_succ]
 rw[show IntKind.i64.wrap (2+(U:Int))=((U+2:Nat):Int) by rw[Od4];omega]
 refine wpAnyH_ready (rs:=[10]) (by kernel_rfl) (by simp) (AllReadyH.cons rfl (fun C A=>?_) AllReadyH.nil)
 go_simp
 refine(K.out _ 4097 y.drew (by assumption) (by omega) (by omega)).mono ?_
 rintro e Z ⟨⟨u,rfl,bJ⟩,rfl⟩
 go_simp
 refine A.out _ _ z (fun z=>?_)
 clear A C
 refine tk 13 ?_ rfl z ?_ ?_
 rotate_left 1
 ·intro w D;(try dsimp only at D);go_simp;try rfl
 simp only[Act.put,List.getElem_toArray,List.getElem_cons_zero,List.getElem_cons_succ,Oa1,List.set_cons_zero,List.set_cons_succ]
 refine wpAnyH_ready (rs:=[14]) (by kernel_rfl) (by simp) (AllReadyH.cons rfl (fun C A=>?_) AllReadyH.nil)
 go_simp
 refine A.out _ _ ?_ (fun z=>?_)
 ·exact⟨Jh ((Jg1 _ _ _ _ w.heap.size 0 (by omega)).trans E.out.1),Jh ((Jg1 _ _ _ _ w.heap.size 1 (by omega)).trans E.out.2.1),Jh ((Jg1 _ _ _ _ w.heap.size 2 (by omega)).trans E.out.2.2.1),Jh ((Jg1 _ _ _ _ w.heap.size 3 (by omega)).trans E.out.2.2.2)⟩
 clear A C
 refine wpAnyH_done (by kernel_rfl) ?_ _
 go_wp2
 exact bodyPost_ret (v:=.agg #[.int .i64 ((x+1:Nat):Int),.int .i64 ((U+2:Nat):Int),.int .i64 (u:Int),.int .i64 d]) (by simp[results,results12,go_sem,bn,br,bu,bx]) rfl ⟨⟨x+1,_,_,rfl,by omega,by omega,by omega,by omega,by omega,by omega⟩,Jj (Juj bl.out (by omega) _ _ _ _)⟩
end Go.Proofs.YtjjdldddcegjiaaGreatDoor
