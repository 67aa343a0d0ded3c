/- The law's own expressions: expr. -/
import Derived.Test.YtdlgbphkaicfaaaGreatDoorYf
import Derived.Test.YtdlgbphkaicfaaaGreatDoorXw
set_option maxHeartbeats 1000000
set_option maxRecDepth 100000
namespace Go.Proofs.YtdlgbphkaicfaaaGreatDoor
open Go.RowKit Go.Shelf
attribute [local go_sem] Oc0
def ptC (p:Pt):List Value:=[.int .i64 p.op,.int .i64 p.l,.int .i64 p.r,.int .i64 p.c,.int .i64 p.v.k,.int .i64 p.v.n,.string p.v.s]
theorem Jeg.more {sch T y:List Int}{j:Nat}{p:Pt}(h:Jeg sch T j p)(E:∀ k,k<j→y.getD k 0=T.getD k 0):Jeg sch y j p:=by
 have A:2≤p.op→y.getD p.l.toNat 0=T.getD p.l.toNat 0:=fun h2=>E _ (by have:=h.ok.left h2;omega)
 have D:2≤p.op→y.getD p.r.toNat 0=T.getD p.r.toNat 0:=fun h2=>E _ (by have:=h.r h2;omega)
 exact⟨h.ok,h.r,h.con,fun a b=>by rw[A a,D a];exact h.num a b,fun a b=>by rw[A (by omega),D (by omega)];exact h.same a b,fun a b=>by rw[A (by omega),D (by omega)];exact h.tru a b,fun a=>by rw[A (by omega)];exact h.nt a⟩
theorem Jmm (T:List Int)(t:Int)(k:Nat)(y:k<T.length):(T++[t]).getD k 0=T.getD k 0:=by
 rw[Oa0,Oa0,Ob0 y]
theorem Uj.snoc {sch:List Int}{es:List Pt}{p:Pt}(h:Uj sch es)(K:Jeg sch (es.map (tyP sch)) es.length p):Uj sch (es++[p]):=fun j q y=>by
 rw[Ob8,List.map_singleton]
 rw[Om7]at y
 split at y
 ·rename_i A
  exact(h j q y).more fun k H=>Jmm _ _ _ (by rw[Oa6];omega)
 rename_i A
 have D:j-es.length=0:=by
  have:=(Ob9.1 y).1
  simp at this
  omega
 rw[D]at y
 cases y
 have E:j=es.length:=by omega
 subst E
 exact K.more fun k H=>Jmm _ _ _ (by rw[Oa6];omega)
attribute [local go_sem] Oc0
end Go.Proofs.YtdlgbphkaicfaaaGreatDoor
namespace Go.Proofs.YtdlgbphkaicfaaaGreatDoor
open Go.RowKit Go.Shelf Tryz
attribute [local go_sem] Oc0
theorem Juj {lo:Nat}{w W:World}{g:Nat}(h:Below lo w W)(y:lo≤g)(A D E H:Value):Below lo w ((((W.setCell ⟨g,0,none⟩ A).setCell ⟨g,1,none⟩ D).setCell ⟨g,2,none⟩ E).setCell ⟨g,3,none⟩ H):=
 (((h.setCell (p:=⟨g,0,none⟩) y _).setCell (p:=⟨g,1,none⟩) y _).setCell (p:=⟨g,2,none⟩) y _).setCell (p:=⟨g,3,none⟩) y _
theorem Jg1 {W:World}{g:Nat}(y A D E:Value)(b:Nat)(o:Nat)(h:b≠g):((((W.setCell ⟨g,0,none⟩ y).setCell ⟨g,1,none⟩ A).setCell ⟨g,2,none⟩ D).setCell ⟨g,3,none⟩ E).cell? ⟨b,o,none⟩=W.cell? ⟨b,o,none⟩:=by
 simp only[World.cell?]
 rw[Oa4 _ _ _ _ (show b≠g from h),Oa4 _ _ _ _ (show b≠g from h),Oa4 _ _ _ _ (show b≠g from h),Oa4 _ _ _ _ (show b≠g from h)]
theorem Jqk (a b c d:Int)(w:World)(bB:Jg a)(bC:Jg b)(bb:Jg c):Calls prog 11 #[.agg #[.int .i64 a,.int .i64 b,.int .i64 c,.int .i64 d]] w fun e w'=>(∃ z:Nat,∃ U R:Int,e=.returned (.agg #[.int .i64 z,.int .i64 U,.int .i64 R,.int .i64 d])∧1≤z∧z≤1000∧2≤U∧U≤1000∧0≤R∧R≤4096)∧Below w.heap.size w w':=by
 have O:Hid (∀ (c m:Int) (W:World),Jg c→0<m→m≤5000→Calls prog 8 #[.int .i64 c,.int .i64 m] W fun e w'=>(∃ r:Nat,e=.returned (.int .i64 r)∧(r:Int)<m)∧w'=W):=fun c m W bb bD bE=>by
  obtain⟨n,rfl⟩:∃ n:Nat,m=(n:Int):=⟨m.toNat,by omega⟩
  refine(Jfw c n W bb (by omega) (by omega)).mono ?_
  rintro e w' ⟨⟨r,rfl,bG⟩,rfl⟩
  exact⟨⟨r,rfl,by omega⟩,rfl⟩
 go_enter func11,ntmps11
 go_upto_region 1 with fail
 have b0:((w.alloc (.cells #[.int .i64 a,.int .i64 b,.int .i64 c,.int .i64 d] 27)).alloc (.cells #[.int .i64 0,.int .i64 0,.int .i64 0,.int .i64 0] 27)).heap[w.heap.size]?=some (.cells #[.int .i64 a,.int .i64 b,.int .i64 c,.int .i64 d] 27 (0,0)):=(Oa9 _ _ _ (by simp)).trans (heap_alloc_new w _)
 have b1:((w.alloc (.cells #[.int .i64 a,.int .i64 b,.int .i64 c,.int .i64 d] 27)).alloc (.cells #[.int .i64 0,.int .i64 0,.int .i64 0,.int .i64 0] 27)).heap[w.heap.size+1]?=some (.cells #[.int .i64 0,.int .i64 0,.int .i64 0,.int .i64 0] 27 (0,0)):=by
  have:=heap_alloc_new (w.alloc (.cells #[.int .i64 a,.int .i64 b,.int .i64 c,.int .i64 d] 27)) (.cells #[.int .i64 0,.int .i64 0,.int .i64 0,.int .i64 0] 27)
  rw[Oa7]at this
  exact this
 have X:Below w.heap.size w ((w.alloc (.cells #[.int .i64 a,.int .i64 b,.int .i64 c,.int .i64 d] 27)).alloc (.cells #[.int .i64 0,.int .i64 0,.int .i64 0,.int .i64 0] 27)):=Jc (Jc (Oa5 _ _) _) _
 generalize (w.alloc (.cells #[.int .i64 a,.int .i64 b,.int .i64 c,.int .i64 d] 27)).alloc (.cells #[.int .i64 0,.int .i64 0,.int .i64 0,.int .i64 0] 27)=y at b0 b1 X ⊢
 have bc:y.cell? ⟨w.heap.size,0,none⟩=some (.int .i64 a):=by simp[World.cell?,b0]
 have bf:y.cell? ⟨w.heap.size,1,none⟩=some (.int .i64 b):=by simp[World.cell?,b0]
 have bh:y.cell? ⟨w.heap.size,2,none⟩=some (.int .i64 c):=by simp[World.cell?,b0]
 have bi:y.cell? ⟨w.heap.size,3,none⟩=some (.int .i64 d):=by simp[World.cell?,b0]
 have bk:y.cell? ⟨w.heap.size+1,0,none⟩=some (.int .i64 0):=by simp[World.cell?,b1]
 have bl:y.cell? ⟨w.heap.size+1,1,none⟩=some (.int .i64 0):=by simp[World.cell?,b1]
 have bn:y.cell? ⟨w.heap.size+1,2,none⟩=some (.int .i64 0):=by simp[World.cell?,b1]
 have br:y.cell? ⟨w.heap.size+1,3,none⟩=some (.int .i64 0):=by simp[World.cell?,b1]
 have bu:y.frozen? ⟨w.heap.size+1,0,none⟩=false:=by simp[World.frozen?,b1]
 have bx:y.frozen? ⟨w.heap.size+1,1,none⟩=false:=by simp[World.frozen?,b1]
 have bz:y.frozen? ⟨w.heap.size+1,2,none⟩=false:=by simp[World.frozen?,b1]
 have bA:y.frozen? ⟨w.heap.size+1,3,none⟩=false:=by simp[World.frozen?,b1]
 have bj:Hid (Below w.heap.size w y):=X
 have K:Hid (y.cell? ⟨w.heap.size,0,none⟩=some (.int .i64 a)∧y.cell? ⟨w.heap.size,1,none⟩=some (.int .i64 b)∧y.cell? ⟨w.heap.size,2,none⟩=some (.int .i64 c)∧y.cell? ⟨w.heap.size,3,none⟩=some (.int .i64 d)):=⟨bc,bf,bh,bi⟩
 clear b0 b1 X
 refine wp_region_held_drew (S:=fun M=>M.cell? ⟨w.heap.size,0,none⟩=some (.int .i64 a)∧M.cell? ⟨w.heap.size,1,none⟩=some (.int .i64 b)∧M.cell? ⟨w.heap.size,2,none⟩=some (.int .i64 c)∧M.cell? ⟨w.heap.size,3,none⟩=some (.int .i64 d)) (by kernel_rfl) ⟨Jh bc,Jh bf,Jh bh,Jh bi⟩ (fun A=>?_)
 refine tk 0 ?_ rfl A ?_ (tk 1 ?_ rfl A ?_ (tk 4 ?_ rfl A ?_ (tk 5 ?_ rfl A ?_ (tk 8 ?_ rfl A ?_ (tk 9 ?_ rfl A ?_ (tk 11 ?_ rfl A ?_ (tk 12 ?_ rfl A ?_ ?_)))))))
 iterate 8
  rotate_left 1
  ·intro w H;(try dsimp only at H);go_simp;try rfl
 simp only[Act.put,List.getElem_toArray,List.getElem_cons_zero,List.getElem_cons_succ,Oa1,List.set_cons_zero,List.set_cons_succ]
 refine wpAnyH_ready (rs:=[2]) (by kernel_rfl) (by simp) (AllReadyH.cons rfl (fun E D=>?_) AllReadyH.nil)
 go_simp
 refine(O.out _ 1000 y.drew (by assumption) (by omega) (by omega)).mono ?_
 rintro e ba ⟨⟨x,rfl,bI⟩,rfl⟩
 go_simp
 refine D.out _ _ A (fun A=>?_)
 clear D E
 refine tk 3 ?_ rfl A ?_ ?_
 rotate_left 1
 ·intro w H;(try dsimp only at H);go_simp;try rfl
 simp only[Act.put,List.getElem_toArray,List.getElem_cons_zero,List.getElem_cons_succ,Oa1,List.set_cons_zero,List.set_cons_succ]
 rw[show IntKind.i64.wrap (1+(x:Int))=((x+1:Nat):Int) by rw[Od4];omega]
 refine wpAnyH_ready (rs:=[6]) (by kernel_rfl) (by simp) (AllReadyH.cons rfl (fun E D=>?_) AllReadyH.nil)
 go_simp
 refine(O.out _ 999 y.drew (by assumption) (by omega) (by omega)).mono ?_
 rintro e ba ⟨⟨Z,rfl,bJ⟩,rfl⟩
 go_simp
 refine D.out _ _ A (fun A=>?_)
 clear D E
 refine tk 7 ?_ rfl A ?_ ?_
 rotate_left 1
 ·intro w H;(try dsimp only at H);go_simp;try rfl
 simp only[Act.put,List.getElem_toArray,List.getElem_cons_zero,List.getElem_cons_succ,Oa1,List.set_cons_zero,List.set_cons_succ]
 rw[show IntKind.i64.wrap (2+(Z:Int))=((Z+2:Nat):Int) by rw[Od4];omega]
 refine wpAnyH_ready (rs:=[10]) (by kernel_rfl) (by simp) (AllReadyH.cons rfl (fun E D=>?_) AllReadyH.nil)
 go_simp
 refine(O.out _ 4097 y.drew (by assumption) (by omega) (by omega)).mono ?_
 rintro e ba ⟨⟨u,rfl,bH⟩,rfl⟩
 go_simp
 refine D.out _ _ A (fun A=>?_)
 clear D E
 refine tk 13 ?_ rfl A ?_ ?_
 rotate_left 1
 ·intro w H;(try dsimp only at H);go_simp;try rfl
 simp only[Act.put,List.getElem_toArray,List.getElem_cons_zero,List.getElem_cons_succ,Oa1,List.set_cons_zero,List.set_cons_succ]
 refine wpAnyH_ready (rs:=[14]) (by kernel_rfl) (by simp) (AllReadyH.cons rfl (fun E D=>?_) AllReadyH.nil)
 go_simp
 refine D.out _ _ ?_ (fun A=>?_)
 ·exact⟨Jh ((Jg1 _ _ _ _ w.heap.size 0 (by omega)).trans K.out.1),Jh ((Jg1 _ _ _ _ w.heap.size 1 (by omega)).trans K.out.2.1),Jh ((Jg1 _ _ _ _ w.heap.size 2 (by omega)).trans K.out.2.2.1),Jh ((Jg1 _ _ _ _ w.heap.size 3 (by omega)).trans K.out.2.2.2)⟩
 clear D E
 refine wpAnyH_done (by kernel_rfl) ?_ _
 go_wp2
 exact bodyPost_ret (v:=.agg #[.int .i64 ((x+1:Nat):Int),.int .i64 ((Z+2:Nat):Int),.int .i64 (u:Int),.int .i64 d]) (by simp[results,results11,go_sem,bk,bl,bn,br]) rfl ⟨⟨x+1,_,_,rfl,by omega,by omega,by omega,by omega,by omega,by omega⟩,Jj (Juj bj.out (by omega) _ _ _ _)⟩
end Go.Proofs.YtdlgbphkaicfaaaGreatDoor
