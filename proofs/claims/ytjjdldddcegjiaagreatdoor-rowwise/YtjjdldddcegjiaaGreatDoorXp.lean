/- The types of an expression's parts, as the program asks for them. -/
import Derived.Test.YtjjdldddcegjiaaGreatDoorYb
import Derived.Test.YtjjdldddcegjiaaGreatDoorIv
import Derived.Test.YtjjdldddcegjiaaGreatDoorXl
set_option maxHeartbeats 2000000
set_option maxRecDepth 100000
namespace Go.Proofs.YtjjdldddcegjiaaGreatDoor
open Go.RowKit Go.Shelf Tryz
attribute [local go_sem] Oc0
theorem Jef (a:Option Addr)(cap:Nat)(y:List Int)(i:Nat)(w:World)(hi:i<y.length)(h:Kc w a y) :
  Calls prog 147 #[.slice a y.length cap,.int .i64 (i:Int)] w fun e w'=>e=.returned (.tuple #[.int .i64 (y.getD i 0),.bool true])∧w'=w:=by
 obtain⟨b,o,rfl,C,A⟩:=h.at hi
 have z:y.getD i 0=y[i]:=by rw[Oa0,Oa3 hi];rfl
 rw[z]
 generalize y[i]=t at A ⊢
 clear z h
 have D:(0:Int)≤(i:Int):=by omega
 have E:(i:Int)<(y.length:Int):=by omega
 go_enter func147,ntmps147
 go_wp2
 exact bodyPost_ret (v:=.tuple #[.int .i64 t,.bool true]) (by simp[results,results147,go_sem]) rfl ⟨rfl,rfl⟩
def Jg6 (w:World)(z:Nat)(y ev:Value):Prop:=w.heap[z]?=some (.cells #[y,ev] 341 (0,0))
theorem Jg6.cells {w:World}{y:Nat}{z ev:Value}(h:Jg6 w y z ev):w.cell? ⟨y,0,none⟩=some z∧w.cell? ⟨y,1,none⟩=some ev:=by
 constructor<;>simp[World.cell?,show w.heap[y]?=_ from h]
abbrev Zj (w:World)(p:Pt):World:=w.alloc (.cells #[.int .i64 p.op,.int .i64 p.l,.int .i64 p.r,.int .i64 p.c,.int .i64 p.v.k,.int .i64 p.v.n,.string p.v.s] 51)
abbrev TyP (w:World)(t:Int):Ending→World→Prop:=fun e w'=>e=.returned (.tuple #[.int .i64 t,.bool true])∧Below w.heap.size w w'
theorem Jgj (w:World)(p:Pt):(Zj w p).cell? ⟨w.heap.size,1,none⟩=some (.int .i64 p.l)∧(Zj w p).cell? ⟨w.heap.size,2,none⟩=some (.int .i64 p.r)∧(Zj w p).cell? ⟨w.heap.size,3,none⟩=some (.int .i64 p.c):=by
 have:=heap_alloc_new w (.cells #[.int .i64 p.op,.int .i64 p.l,.int .i64 p.r,.int .i64 p.c,.int .i64 p.v.k,.int .i64 p.v.n,.string p.v.s] 51)
 refine⟨?_,?_,?_⟩<;>(unfold World.cell?;rw[this];rfl)
theorem Jbr {w:World}{z:Nat}{y ev:Value}(h:Jg6 w z y ev)(o:Obj):Jg6 (w.alloc o) z y ev:=(Oa9 _ _ _ (Jd h)).trans h
theorem Kfz (E:Nat)(X:Value)(A:Option Addr)(C:Nat)(T:List Int)(p:Pt)(L:Nat)(hL:p.l=(L:Int))(M:L<T.length)(w:World)(Z:Jg6 w E X (.slice A T.length C))(H:Kc w A T) :
  Calls prog 270 #[.pointer (some ⟨E,0,none⟩),p.val] w (TyP w 2):=by
 obtain⟨_,c1⟩:=Z.cells
 obtain⟨b1,b2,_⟩:=Jgj w p
 have O:Below w.heap.size w (Zj w p):=Jc (Oa5 _ _) _
 have R:Hid (∀ z,Below w.heap.size w z→Calls prog 147 #[.slice A T.length C,.int .i64 (L:Int)] z fun e w'=>e=.returned (.tuple #[.int .i64 (T.getD L 0),.bool true])∧w'=z):=fun z bc=>Jef A C T L z M (H.below bc)
 rw[hL]at b1
 clear hL M H
 go_enter func270,ntmps270
 go_upto_region 1 with fail
 refine wp_region_held_drew (S:=fun z=>z.cell? ⟨E,1,none⟩=some (.slice A T.length C)∧z.cell? ⟨w.heap.size,1,none⟩=some (.int .i64 (L:Int))) (by kernel_rfl) ⟨Jh (Kf c1),Jh b1⟩ (fun y=>?_)
 refine tk 0 ?_ rfl y ?_ (tk 1 ?_ rfl y ?_ (tk 2 ?_ rfl y ?_ (tk 3 ?_ rfl y ?_ (tk 4 ?_ rfl y ?_ (tk 5 ?_ rfl y ?_ ?_)))))
 iterate 6
  rotate_left 1
  ·intro w D;(try dsimp only at D);go_simp;try rfl
 simp only[Act.put,List.getElem_toArray,List.getElem_cons_zero,List.getElem_cons_succ,Oa1,List.set_cons_zero,List.set_cons_succ]
 refine wpAnyH_ready (rs:=[6]) (by kernel_rfl) (by simp) (AllReadyH.cons rfl (fun U K=>?_) AllReadyH.nil)
 go_simp
 refine(R.out (Zj w p).drew (Jj O)).mono ?_
 rintro e bf ⟨rfl,rfl⟩
 go_simp
 refine K.out _ _ ⟨y.1,y.2⟩ (fun y=>?_)
 clear K U
 refine tk 7 ?_ rfl y ?_ (tk 8 ?_ rfl y ?_ (tk 9 ?_ rfl y ?_ (tk 10 ?_ rfl y ?_ (tk 11 ?_ rfl y ?_ ?_))))
 iterate 5
  rotate_left 1
  ·intro w D;(try dsimp only at D);go_simp;try rfl
 simp only[Act.put,List.getElem_toArray,List.getElem_cons_zero,List.getElem_cons_succ,Oa1,List.set_cons_zero,List.set_cons_succ]
 refine wpAnyH_done (by kernel_rfl) ?_ _
 go_wp2
 exact bodyPost_ret (v:=.tuple #[.int .i64 2,.bool true]) (by simp[results,results270,go_sem]) rfl ⟨rfl,Jj O⟩
theorem Kaj (E:Nat)(Z:Value)(A:Option Addr)(C:Nat)(T:List Int)(p:Pt)(L:Nat)(hL:p.l=(L:Int))(R:L<T.length)(K:T.getD L 0=2)(w:World)(bc:Jg6 w E Z (.slice A T.length C))(M:Kc w A T) :
  Calls prog 269 #[.pointer (some ⟨E,0,none⟩),p.val] w (TyP w 2):=by
 obtain⟨_,c1⟩:=bc.cells
 obtain⟨b1,b2,_⟩:=Jgj w p
 have U:Below w.heap.size w (Zj w p):=Jc (Oa5 _ _) _
 have H:Hid (∀ z,Below w.heap.size w z→Calls prog 147 #[.slice A T.length C,.int .i64 (L:Int)] z fun e w'=>e=.returned (.tuple #[.int .i64 (T.getD L 0),.bool true])∧w'=z):=fun z bf=>Jef A C T L z R (M.below bf)
 rw[hL]at b1
 clear hL R M
 rw[K]at H
 clear K
 go_enter func269,ntmps269
 go_upto_region 1 with fail
 refine wp_region_held_drew (S:=fun z=>z.cell? ⟨E,1,none⟩=some (.slice A T.length C)∧z.cell? ⟨w.heap.size,1,none⟩=some (.int .i64 (L:Int))) (by kernel_rfl) ⟨Jh (Kf c1),Jh b1⟩ (fun y=>?_)
 refine tk 0 ?_ rfl y ?_ (tk 1 ?_ rfl y ?_ (tk 2 ?_ rfl y ?_ (tk 3 ?_ rfl y ?_ (tk 4 ?_ rfl y ?_ (tk 5 ?_ rfl y ?_ ?_)))))
 iterate 6
  rotate_left 1
  ·intro w D;(try dsimp only at D);go_simp;try rfl
 simp only[Act.put,List.getElem_toArray,List.getElem_cons_zero,List.getElem_cons_succ,Oa1,List.set_cons_zero,List.set_cons_succ]
 refine wpAnyH_ready (rs:=[6]) (by kernel_rfl) (by simp) (AllReadyH.cons rfl (fun X O=>?_) AllReadyH.nil)
 go_simp
 refine(H.out (Zj w p).drew (Jj U)).mono ?_
 rintro e bh ⟨rfl,rfl⟩
 go_simp
 refine O.out _ _ ⟨y.1,y.2⟩ (fun y=>?_)
 clear O X
 refine tk 7 ?_ rfl y ?_ (tk 8 ?_ rfl y ?_ (tk 9 ?_ rfl y ?_ (tk 10 ?_ rfl y ?_ (tk 11 ?_ rfl y ?_ ?_))))
 iterate 5
  rotate_left 1
  ·intro w D;(try dsimp only at D);go_simp;try rfl
 simp only[Act.put,List.getElem_toArray,List.getElem_cons_zero,List.getElem_cons_succ,Oa1,List.set_cons_zero,List.set_cons_succ]
 refine wpAnyH_done (by kernel_rfl) ?_ _
 go_wp2
 exact bodyPost_ret (v:=.tuple #[.int .i64 2,.bool true]) (by simp[results,results269,go_sem]) rfl ⟨rfl,Jj U⟩
theorem Jtu (H:Nat)(K:Value)(bf:Option Addr)(bh:Nat)(T:List Int)(p:Pt)(C:Option Addr)(D z:Nat)(sch:List Int)(bl:K=.slice C sch.length D)(M:p.c=(z:Int))(O:z<sch.length)(w:World)(bi:Jg6 w H K (.slice bf T.length bh))(U:Kc w C sch) :
  Calls prog 264 #[.pointer (some ⟨H,0,none⟩),p.val] w (TyP w (sch.getD z 0)):=by
 subst bl
 obtain⟨c0,_⟩:=bi.cells
 obtain⟨_,_,b3⟩:=Jgj w p
 have X:Below w.heap.size w (Zj w p):=Jc (Oa5 _ _) _
 have Z:Hid (∀ A,Below w.heap.size w A→Calls prog 147 #[.slice C sch.length D,.int .i64 (z:Int)] A fun e w'=>e=.returned (.tuple #[.int .i64 (sch.getD z 0),.bool true])∧w'=A):=fun A bj=>Jef C D sch z A O (U.below bj)
 rw[M]at b3
 clear M O U
 go_enter func264,ntmps264
 go_upto_region 1 with fail
 refine wp_region_held_drew (S:=fun A=>A.cell? ⟨H,0,none⟩=some (.slice C sch.length D)∧A.cell? ⟨w.heap.size,3,none⟩=some (.int .i64 (z:Int))) (by kernel_rfl) ⟨Jh (Kf c0),Jh b3⟩ (fun y=>?_)
 refine tk 0 ?_ rfl y ?_ (tk 1 ?_ rfl y ?_ (tk 2 ?_ rfl y ?_ (tk 3 ?_ rfl y ?_ (tk 4 ?_ rfl y ?_ (tk 5 ?_ rfl y ?_ ?_)))))
 iterate 6
  rotate_left 1
  ·intro w E;(try dsimp only at E);go_simp;try rfl
 simp only[Act.put,List.getElem_toArray,List.getElem_cons_zero,List.getElem_cons_succ,Oa1,List.set_cons_zero,List.set_cons_succ]
 refine wpAnyH_ready (rs:=[6]) (by kernel_rfl) (by simp) (AllReadyH.cons rfl (fun bc R=>?_) AllReadyH.nil)
 go_simp
 refine(Z.out (Zj w p).drew (Jj X)).mono ?_
 rintro e bn ⟨rfl,rfl⟩
 go_simp
 refine R.out _ _ ⟨y.1,y.2⟩ (fun y=>?_)
 clear R bc
 refine tk 7 ?_ rfl y ?_ (tk 8 ?_ rfl y ?_ (tk 9 ?_ rfl y ?_ (tk 10 ?_ rfl y ?_ ?_)))
 iterate 4
  rotate_left 1
  ·intro w E;(try dsimp only at E);go_simp;try rfl
 simp only[Act.put,List.getElem_toArray,List.getElem_cons_zero,List.getElem_cons_succ,Oa1,List.set_cons_zero,List.set_cons_succ]
 refine wpAnyH_done (by kernel_rfl) ?_ _
 go_wp2
 exact bodyPost_ret (v:=.tuple #[.int .i64 (sch.getD z 0),.bool true]) (by simp[results,results264,go_sem]) rfl ⟨rfl,Jj X⟩
theorem Jhp (K:Nat)(bj:Value)(A:Option Addr)(D:Nat)(T:List Int)(p:Pt)(L:Nat)(hL:p.l=(L:Int))(bc:L<T.length)(C:Nat)(hR:p.r=(C:Int))(bf:C<T.length)(bh:T.getD L 0=T.getD C 0)(w:World)(bl:Jg6 w K bj (.slice A T.length D))(R:Kc w A T) :
  Calls prog 297 #[.pointer (some ⟨K,0,none⟩),p.val] w (TyP w (T.getD L 0)):=by
 obtain⟨_,c1⟩:=bl.cells
 obtain⟨b1,b2,_⟩:=Jgj w p
 have X:Below w.heap.size w (Zj w p):=Jc (Oa5 _ _) _
 have Z:Hid (∀ z,Below w.heap.size w z→Calls prog 147 #[.slice A T.length D,.int .i64 (L:Int)] z fun e w'=>e=.returned (.tuple #[.int .i64 (T.getD L 0),.bool true])∧w'=z):=fun z U=>Jef A D T L z bc (R.below U)
 have M:Hid (∀ z,Below w.heap.size w z→Calls prog 147 #[.slice A T.length D,.int .i64 (C:Int)] z fun e w'=>e=.returned (.tuple #[.int .i64 (T.getD C 0),.bool true])∧w'=z):=fun z U=>Jef A D T C z bf (R.below U)
 rw[hL]at b1
 rw[hR]at b2
 rw[←bh]at M
 generalize T.getD L 0=t at Z M ⊢
 clear hL bc R hR bf bh
 go_enter func297,ntmps297
 go_upto_region 1 with fail
 refine wp_region_held_drew (S:=fun z=>z.cell? ⟨K,1,none⟩=some (.slice A T.length D)∧z.cell? ⟨w.heap.size,1,none⟩=some (.int .i64 (L:Int))) (by kernel_rfl) ⟨Jh (Kf c1),Jh b1⟩ (fun y=>?_)
 refine tk 0 ?_ rfl y ?_ (tk 1 ?_ rfl y ?_ (tk 2 ?_ rfl y ?_ (tk 3 ?_ rfl y ?_ (tk 4 ?_ rfl y ?_ (tk 5 ?_ rfl y ?_ ?_)))))
 iterate 6
  rotate_left 1
  ·intro w E;(try dsimp only at E);go_simp;try rfl
 simp only[Act.put,List.getElem_toArray,List.getElem_cons_zero,List.getElem_cons_succ,Oa1,List.set_cons_zero,List.set_cons_succ]
 refine wpAnyH_ready (rs:=[6]) (by kernel_rfl) (by simp) (AllReadyH.cons rfl (fun O H=>?_) AllReadyH.nil)
 go_simp
 refine(Z.out (Zj w p).drew (Jj X)).mono ?_
 rintro e bi ⟨rfl,rfl⟩
 go_simp
 refine H.out _ _ ⟨y.1,y.2⟩ (fun y=>?_)
 clear H O
 refine tk 7 ?_ rfl y ?_ (tk 8 ?_ rfl y ?_ (tk 9 ?_ rfl y ?_ (tk 10 ?_ rfl y ?_ (tk 11 ?_ rfl y ?_ ?_))))
 iterate 5
  rotate_left 1
  ·intro w E;(try dsimp only at E);go_simp;try rfl
 simp only[Act.put,List.getElem_toArray,List.getElem_cons_zero,List.getElem_cons_succ,Oa1,List.set_cons_zero,List.set_cons_succ]
 refine wpAnyH_done (by kernel_rfl) ?_ _
 go_upto_region 2 with fail
 refine wp_region_held_drew (S:=fun z=>z.cell? ⟨K,1,none⟩=some (.slice A T.length D)∧z.cell? ⟨w.heap.size,2,none⟩=some (.int .i64 (C:Int))) (by kernel_rfl) ⟨Jh (Jh (Kf c1)),Jh (Jh b2)⟩ (fun y=>?_)
 refine tk 0 ?_ rfl y ?_ (tk 1 ?_ rfl y ?_ (tk 2 ?_ rfl y ?_ (tk 3 ?_ rfl y ?_ (tk 4 ?_ rfl y ?_ (tk 5 ?_ rfl y ?_ ?_)))))
 iterate 6
  rotate_left 1
  ·intro w E;(try dsimp only at E);go_simp;try rfl
 simp only[Act.put,List.getElem_toArray,List.getElem_cons_zero,List.getElem_cons_succ,Oa1,List.set_cons_zero,List.set_cons_succ]
 refine wpAnyH_ready (rs:=[6]) (by kernel_rfl) (by simp) (AllReadyH.cons rfl (fun O H=>?_) AllReadyH.nil)
 go_simp
 refine(M.out (Zj w p).drew.drew (Jj (Jj X))).mono ?_
 rintro e bi ⟨rfl,rfl⟩
 go_simp
 refine H.out _ _ ⟨y.1,y.2⟩ (fun y=>?_)
 clear H O
 refine tk 7 ?_ rfl y ?_ (tk 8 ?_ rfl y ?_ (tk 9 ?_ rfl y ?_ (tk 10 ?_ rfl y ?_ (tk 11 ?_ rfl y ?_ ?_))))
 iterate 5
  rotate_left 1
  ·intro w E;(try dsimp only at E);go_simp;try rfl
 simp only[Act.put,List.getElem_toArray,List.getElem_cons_zero,List.getElem_cons_succ,Oa1,List.set_cons_zero,List.set_cons_succ]
 refine wpAnyH_done (by kernel_rfl) ?_ _
 go_wp2
 exact bodyPost_ret (v:=.tuple #[.int .i64 t,.bool true]) (by simp[results,results297,go_sem]) rfl ⟨rfl,Jj (Jj X)⟩
theorem Jtk (A:Nat)(C:Value)(z:Option Addr)(D:Nat)(T:List Int)(p:Pt)(L:Nat)(hL:p.l=(L:Int))(K:L<T.length)(y:Nat)(hR:p.r=(y:Int))(M:y<T.length)(R:T.getD L 0=T.getD y 0)(E:T.getD L 0=1)(w:World)(U:Jg6 w A C (.slice z T.length D))(H:Kc w z T) :
  Calls prog 266 #[.pointer (some ⟨A,0,none⟩),p.val] w (TyP w 1):=by
 have O:=Jhp A C z D T p L hL K y hR M R (Zj w p) (Jbr U _) (H.below (Jc (Oa5 _ _) _))
 rw[E]at O
 clear hL K H hR M R E
 go_enter func266,ntmps266
 go_wp2_with (go_at_call 297;refine O.mono ?_;rintro bc Z ⟨rfl,X⟩)
 exact bodyPost_ret (v:=.tuple #[.int .i64 1,.bool true]) (by simp[results,results266,go_sem]) rfl ⟨rfl,Jb (Jc (Oa5 _ _) _) X⟩
theorem Jsl (A:Nat)(C:Value)(z:Option Addr)(D:Nat)(T:List Int)(p:Pt)(L:Nat)(hL:p.l=(L:Int))(H:L<T.length)(y:Nat)(hR:p.r=(y:Int))(K:y<T.length)(O:T.getD L 0=T.getD y 0)(w:World)(R:Jg6 w A C (.slice z T.length D))(E:Kc w z T) :
  Calls prog 267 #[.pointer (some ⟨A,0,none⟩),p.val] w (TyP w 2):=by
 have M:=Jhp A C z D T p L hL H y hR K O (Zj w p) (Jbr R _) (E.below (Jc (Oa5 _ _) _))
 generalize T.getD L 0=t at M
 clear hL H E hR K O
 go_enter func267,ntmps267
 go_wp2_with (go_at_call 297;refine M.mono ?_;rintro Z X ⟨rfl,U⟩)
 exact bodyPost_ret (v:=.tuple #[.int .i64 2,.bool true]) (by simp[results,results267,go_sem]) rfl ⟨rfl,Jb (Jc (Oa5 _ _) _) U⟩
theorem Juq (A:Nat)(C:Value)(z:Option Addr)(D:Nat)(T:List Int)(p:Pt)(L:Nat)(hL:p.l=(L:Int))(K:L<T.length)(y:Nat)(hR:p.r=(y:Int))(M:y<T.length)(R:T.getD L 0=T.getD y 0)(E:T.getD L 0=2)(w:World)(U:Jg6 w A C (.slice z T.length D))(H:Kc w z T) :
  Calls prog 268 #[.pointer (some ⟨A,0,none⟩),p.val] w (TyP w 2):=by
 have O:=Jhp A C z D T p L hL K y hR M R (Zj w p) (Jbr U _) (H.below (Jc (Oa5 _ _) _))
 rw[E]at O
 clear hL K H hR M R E
 go_enter func268,ntmps268
 go_wp2_with (go_at_call 297;refine O.mono ?_;rintro bc Z ⟨rfl,X⟩)
 exact bodyPost_ret (v:=.tuple #[.int .i64 2,.bool true]) (by simp[results,results268,go_sem]) rfl ⟨rfl,Jb (Jc (Oa5 _ _) _) X⟩
attribute [local go_sem] Oc0
theorem Jpx (bh:Nat)(p:Pt)(w:World)(D:1≤p.c)(E:p.c≤3)(K:okV p.c p.v) :
  Calls prog 265 #[.pointer (some ⟨bh,0,none⟩),p.val] w (TyP w p.c):=by
 have O:∀ y,Calls prog 98 #[.agg #[.int .i64 p.v.k,.int .i64 p.v.n,.string p.v.s],.int .i64 p.c] y fun e w'=>e=.returned (.bool true)∧Below y.heap.size y w':=fun y=>by
  have:=Jmd p.v.k p.v.n p.v.s p.c y
  rwa [show okB p.c p.v.k p.v.n p.v.s=true from K]at this
 have hI:∀ y,Calls prog 97 #[.int .i64 p.c] y fun e w'=>e=.returned (.bool true)∧w'=y:=fun y=>by
  have:=Jlh p.c y
  rwa [show decide (1≤p.c∧p.c≤3)=true from decide_eq_true ⟨D,E⟩]at this
 clear D E K
 go_enter func265,ntmps265
 go_upto_region 1 with fail
 have A:(Zj w p).heap[w.heap.size]?=_:=heap_alloc_new w (.cells #[.int .i64 p.op,.int .i64 p.l,.int .i64 p.r,.int .i64 p.c,.int .i64 p.v.k,.int .i64 p.v.n,.string p.v.s] 51)
 have H:Below w.heap.size w (Zj w p):=Jc (Oa5 _ _) _
 show Code.wp _ _ _ _ (Zj w p)
 generalize Zj w p=z at A H ⊢
 have X:z.cell? ⟨w.heap.size,3,none⟩=some (.int .i64 p.c):=by simp[World.cell?,A]
 have Z:z.cell? ⟨w.heap.size,4,none⟩=some (.int .i64 p.v.k):=by simp[World.cell?,A]
 have bc:z.cell? ⟨w.heap.size,5,none⟩=some (.int .i64 p.v.n):=by simp[World.cell?,A]
 have bf:z.cell? ⟨w.heap.size,6,none⟩=some (.string p.v.s):=by simp[World.cell?,A]
 have U:w.heap.size<z.heap.size:=Jd A
 clear A
 go_region_held3 (fun y=>y.cell? ⟨w.heap.size,3,none⟩=some (.int .i64 p.c)∧y.cell? ⟨w.heap.size,4,none⟩=some (.int .i64 p.v.k)∧y.cell? ⟨w.heap.size,5,none⟩=some (.int .i64 p.v.n)∧y.cell? ⟨w.heap.size,6,none⟩=some (.string p.v.s))
  (first|go_keep|(go_split_ands;refine⟨?_,?_,?_,?_⟩<;>(rw[(Kx C).1 _ _ (by first|exact U|assumption)];assumption)))
  (first|(go_at_call 97;refine(hI _).mono ?_;rintro e M ⟨rfl,rfl⟩)|(go_at_call 98;refine(O _).mono ?_;rintro e M ⟨rfl,C⟩;have R:Below z.heap.size z M:=(by first|exact Jw C|exact C)))
 clear X Z bc bf
 go_wp2
 exact bodyPost_ret (v:=.tuple #[.int .i64 p.c,.bool true]) (by simp[results,results265,go_sem]) rfl ⟨rfl,Jb H R⟩
def tyF (op:Int):Nat:=if op=0 then 264 else if op=1 then 265 else if op≤5 then 266 else if op≤7 then 267 else if op≤9 then 268 else if op=10 then 269 else 270
abbrev tyC (y:Nat):Array Value:=#[.func (.func 264) #[.pointer (some ⟨y,0,none⟩)] #[],.func (.func 265) #[.pointer (some ⟨y,0,none⟩)] #[],.func (.func 266) #[.pointer (some ⟨y,0,none⟩)] #[],.func (.func 266) #[.pointer (some ⟨y,0,none⟩)] #[],.func (.func 266) #[.pointer (some ⟨y,0,none⟩)] #[],.func (.func 266) #[.pointer (some ⟨y,0,none⟩)] #[],.func (.func 267) #[.pointer (some ⟨y,0,none⟩)] #[],.func (.func 267) #[.pointer (some ⟨y,0,none⟩)] #[],.func (.func 268) #[.pointer (some ⟨y,0,none⟩)] #[],.func (.func 268) #[.pointer (some ⟨y,0,none⟩)] #[],.func (.func 269) #[.pointer (some ⟨y,0,none⟩)] #[],.func (.func 270) #[.pointer (some ⟨y,0,none⟩)] #[]]
theorem Jwc (b:Nat)(w:World):Calls prog 226 #[.pointer (some ⟨b,0,none⟩)] w fun e w'=>e=.returned (.agg (tyC b))∧Below w.heap.size w w':=by
 have y:∀ (f:Nat) (a:Addr) (W:World),(store a (.func (.func f) #[.pointer (some ⟨b,0,none⟩)] #[])).run prog W=stored prog W a (.func (.func f) #[.pointer (some ⟨b,0,none⟩)] #[]) .plain:=fun f a W=>run_store _ _ _ _ _ rfl
 go_enter func226,ntmps226
 go_wp2
 exact bodyPost_ret (v:=.agg (tyC b)) (by simp[results,results226,go_sem]) rfl ⟨rfl,(by repeat (first|exact Oa5 _ _|refine Jc ?_ _|refine Jj ?_))⟩
theorem Jy9 (op:Int)(args:Array Value)(W:World):(callFunc (tyF op) args).run prog W=.ok (.enter (tyF op) args) W:=by
 unfold tyF
 repeat' split
 all_goals kernel_rfl
theorem Jzr (A:Nat)(X:Option Addr)(bh:Nat)(sch:List Int)(D:Option Addr)(H:Nat)(T F:List Int)(p:Pt)(w:World)(M:Jg6 w A (.slice X sch.length bh) (.slice D T.length H))(bu:Kc w X sch)(U:Kc w D T)(hF:∀ k,k<T.length→F.getD k 0=T.getD k 0)(y:Jeg sch F T.length p) :
  Calls prog (tyF p.op) #[.pointer (some ⟨A,0,none⟩),p.val] w (TyP w (tyP sch p)):=by
 have bA:=y.ok.lo
 have bz:=y.ok.hi
 by_cases h0:p.op=0
 ·obtain⟨z,E⟩:=y.ok.col h0
  have:=Jtu A (.slice X sch.length bh) D H T p X bh p.c.toNat sch rfl (by omega) (by omega) w M bu
  unfold tyF tyP
  rw[if_pos h0,if_pos h0]
  exact this
 by_cases O:p.op=1
 ·obtain⟨⟨z,E⟩,bx⟩:=y.con O
  unfold tyF tyP
  rw[if_neg h0,if_neg h0,if_pos O,if_pos O]
  exact Jpx A p w z E bx
 obtain⟨bB,bC⟩:=y.ok.left (by omega)
 obtain⟨bD,bE⟩:=y.r (by omega)
 obtain⟨L,hL⟩:∃ L:Nat,p.l=(L:Int):=⟨p.l.toNat,by omega⟩
 obtain⟨C,hR⟩:∃ C:Nat,p.r=(C:Int):=⟨p.r.toNat,by omega⟩
 have Z:p.l.toNat=L:=by omega
 have bi:p.r.toNat=C:=by omega
 have K:L<T.length:=by omega
 have bf:C<T.length:=by omega
 have bc:=hF L K
 have bj:=hF C bf
 unfold tyF tyP
 rw[if_neg h0,if_neg h0,if_neg O,if_neg O]
 by_cases R:p.op≤5
 ·rw[if_pos R,if_pos R]
  obtain⟨z,E⟩:=y.num (by omega) R
  rw[Z,bc]at z
  rw[bi,bj]at E
  exact Jtk A _ D H T p L hL K C hR bf (z.trans E.symm) z w M U
 rw[if_neg R,if_neg R]
 by_cases bn:p.op≤7
 ·rw[if_pos bn]
  have q:=y.same (by omega) bn
  rw[Z,bi,bc,bj]at q
  exact Jsl A _ D H T p L hL K C hR bf q w M U
 rw[if_neg bn]
 by_cases br:p.op≤9
 ·rw[if_pos br]
  obtain⟨z,E⟩:=y.tru (by omega) br
  rw[Z,bc]at z
  rw[bi,bj]at E
  exact Juq A _ D H T p L hL K C hR bf (z.trans E.symm) z w M U
 rw[if_neg br]
 by_cases bl:p.op=10
 ·rw[if_pos bl]
  have q:=y.nt bl
  rw[Z,bc]at q
  exact Kaj A _ D H T p L hL K q w M U
 rw[if_neg bl]
 exact Kfz A _ D H T p L hL K w M U
theorem Kg3 (y n:Nat)(z:n<12):(tyC y)[n]?=some (.func (.func (tyF (n:Int))) #[.pointer (some ⟨y,0,none⟩)] #[]):=by
 have:n=0∨n=1∨n=2∨n=3∨n=4∨n=5∨n=6∨n=7∨n=8∨n=9∨n=10∨n=11:=by omega
 rcases this with rfl|rfl|rfl|rfl|rfl|rfl|rfl|rfl|rfl|rfl|rfl|rfl<;>rfl
theorem Ke5 (A:Nat)(Z:Option Addr)(bn:Nat)(sch:List Int)(bc:Option Addr)(br:Nat)(T F:List Int)(p:Pt)(w:World)(bh:Jg6 w A (.slice Z sch.length bn) (.slice bc T.length br))(bu:Kc w Z sch)(bx:Kc w bc T)(hF:∀ k,k<T.length→F.getD k 0=T.getD k 0)(R:Jeg sch F T.length p) :
  Calls prog 183 #[.pointer (some ⟨A,0,none⟩),p.val] w (TyP w (tyP sch p)):=by
 have bJ:=R.ok.lo
 have bI:=R.ok.hi
 have K:Hid (∀ y,Below w.heap.size w y→Calls prog (tyF p.op) #[.pointer (some ⟨A,0,none⟩),p.val] y (TyP y (tyP sch p))):=fun y bi=>Jzr A Z bn sch bc br T F p y ((bi.block _ (Jd bh)).trans bh) (bu.below bi) (bx.below bi) hF R
 clear bh bu bx hF R
 generalize tyP sch p=bM at K ⊢
 obtain⟨n,hn⟩:∃ n:Nat,p.op=(n:Int):=⟨p.op.toNat,by omega⟩
 have bK:n<12:=by omega
 have bE:Hid (p.op=(n:Int)):=hn
 clear hn
 have bL:∀ (f:Nat) (a:Addr) (y:World),(store a (.func (.func f) #[.pointer (some ⟨A,0,none⟩)] #[])).run prog y=stored prog y a (.func (.func f) #[.pointer (some ⟨A,0,none⟩)] #[]) .plain:=fun f a y=>run_store _ _ _ _ _ rfl
 have bA:Below w.heap.size w (Zj w p):=Jc (Oa5 _ _) _
 have U:(Zj w p).heap[w.heap.size]?=_:=heap_alloc_new w (.cells #[.int .i64 p.op,.int .i64 p.l,.int .i64 p.r,.int .i64 p.c,.int .i64 p.v.k,.int .i64 p.v.n,.string p.v.s] 51)
 have bD:=Jwc A (Zj w p)
 go_enter func183,ntmps183
 go_upto_region 2 with(go_at_call 226;refine bD.mono ?_;rintro e H ⟨rfl,M⟩)
 have hn:=bE.out
 have bj:Below H.heap.size H (H.alloc (.cells (tyC A) 388)):=Jc (Oa5 _ _) _
 have O:=heap_alloc_new H (.cells (tyC A) 388)
 have D:=(bj.block _ (Oc2 (Jd U) M.size)).trans ((M.block _ (Jd U)).trans U)
 have bl:Below w.heap.size w (H.alloc (.cells (tyC A) 388)):=Jb (Jb bA M) bj
 obtain⟨X,bB⟩:∃ X,X=H.heap.size:=⟨_,rfl⟩
 rw[←bB]at O ⊢
 clear bB
 generalize H.alloc (.cells (tyC A) 388)=C at O D bl ⊢
 have bN:C.cell? ⟨w.heap.size,0,none⟩=some (.int .i64 (n:Int)):=by rw[←hn];simp[World.cell?,D]
 have bO:C.cell? ⟨w.heap.size,1,none⟩=some (.int .i64 p.l):=by simp[World.cell?,D]
 have bP:C.cell? ⟨w.heap.size,2,none⟩=some (.int .i64 p.r):=by simp[World.cell?,D]
 have bQ:C.cell? ⟨w.heap.size,3,none⟩=some (.int .i64 p.c):=by simp[World.cell?,D]
 have bR:C.cell? ⟨w.heap.size,4,none⟩=some (.int .i64 p.v.k):=by simp[World.cell?,D]
 have bS:C.cell? ⟨w.heap.size,5,none⟩=some (.int .i64 p.v.n):=by simp[World.cell?,D]
 have bT:C.cell? ⟨w.heap.size,6,none⟩=some (.string p.v.s):=by simp[World.cell?,D]
 have bC:C.cell? ⟨X,n,none⟩=some (.func (.func (tyF p.op)) #[.pointer (some ⟨A,0,none⟩)] #[]):=by
  have:=Kg3 A n bK
  rw[←hn]at this
  rw[←this]
  simp only[World.cell?,O]
  rfl
 have bH:=Jy9 p.op
 obtain⟨f,hf⟩:∃ f,f=tyF p.op:=⟨_,rfl⟩
 rw[←hf]at bC bH K
 rw[Pt.val,hn]at K
 have bV:(0:Int)≤(n:Int):=by omega
 have bW:(n:Int)<12:=by omega
 clear hf hn bj M bD U D O bA bL H bJ bI
 go_upto_region 4 with fail
 refine wp_region_held_drew (S:=fun y=>y.cell? ⟨w.heap.size,0,none⟩=some (.int .i64 (n:Int))∧y.cell? ⟨w.heap.size,1,none⟩=some (.int .i64 p.l)∧y.cell? ⟨w.heap.size,2,none⟩=some (.int .i64 p.r)∧y.cell? ⟨w.heap.size,3,none⟩=some (.int .i64 p.c)∧y.cell? ⟨w.heap.size,4,none⟩=some (.int .i64 p.v.k)∧y.cell? ⟨w.heap.size,5,none⟩=some (.int .i64 p.v.n)∧y.cell? ⟨w.heap.size,6,none⟩=some (.string p.v.s)∧y.cell? ⟨X,n,none⟩=some (.func (.func f) #[.pointer (some ⟨A,0,none⟩)] #[])) (by kernel_rfl) ⟨Jh bN,Jh bO,Jh bP,Jh bQ,Jh bR,Jh bS,Jh bT,Jh bC⟩ (fun z=>?_)
 refine tk 0 ?_ rfl z ?_ (tk 1 ?_ rfl z ?_ (tk 2 ?_ rfl z ?_ (tk 3 ?_ rfl z ?_ (tk 4 ?_ rfl z ?_ ?_))))
 iterate 5
  rotate_left 1
  ·intro w bf;(try dsimp only at bf);go_simp;try rfl
 simp only[Act.put,List.getElem_toArray,List.getElem_cons_zero,List.getElem_cons_succ,Oa1,List.set_cons_zero,List.set_cons_succ]
 refine wpAnyH_ready (rs:=[5]) (by kernel_rfl) (by simp) (AllReadyH.cons rfl (fun bG bz=>?_) AllReadyH.nil)
 go_simp
 refine(K.out C.drew (Jj bl)).mono ?_
 rintro e bU ⟨rfl,E⟩
 go_simp
 refine bz.out _ _ ⟨Ja E z.1,Ja E z.2.1,Ja E z.2.2.1,Ja E z.2.2.2.1,Ja E z.2.2.2.2.1,Ja E z.2.2.2.2.2.1,Ja E z.2.2.2.2.2.2.1,Ja E z.2.2.2.2.2.2.2⟩ (fun z=>?_)
 clear bz bG
 refine tk 6 ?_ rfl z ?_ (tk 7 ?_ rfl z ?_ (tk 8 ?_ rfl z ?_ (tk 9 ?_ rfl z ?_ ?_)))
 iterate 4
  rotate_left 1
  ·intro w bf;(try dsimp only at bf);go_simp;try rfl
 simp only[Act.put,List.getElem_toArray,List.getElem_cons_zero,List.getElem_cons_succ,Oa1,List.set_cons_zero,List.set_cons_succ]
 refine wpAnyH_done (by kernel_rfl) ?_ _
 go_wp2
 exact bodyPost_ret (v:=.tuple #[.int .i64 bM,.bool true]) (by simp[results,results183,go_sem]) rfl ⟨rfl,Jb (Jj bl) E⟩
attribute [local go_sem] Oc0
theorem Jk5 (ba z y:Int)(M:Value)(w:World)(A:1≤ba)(C:ba≤1000)(D:2≤z)(E:z≤1000)(H:0≤y)(K:y≤4096):Calls prog 43 #[.agg #[.int .i64 ba,.int .i64 z,.int .i64 y,M]] w fun e w'=>e=.returned (.bool true)∧Below w.heap.size w w':=by
 have O:decide (1≤ba)=true:=by simp[A]
 have R:decide (ba≤1000)=true:=by simp[C]
 have U:decide (2≤z)=true:=by simp[D]
 have X:decide (z≤1000)=true:=by simp[E]
 have Z:decide (0≤y)=true:=by simp[H]
 have bc:decide (y≤4096)=true:=by simp[K]
 go_enter func43,ntmps43
 go_wp2
 go_ret
 exact⟨rfl,Jc (Oa5 _ _) _⟩
abbrev Jd5 (b:Nat):Array Value:=#[.func (.func 81) #[.pointer (some ⟨b,0,none⟩)] #[],.func (.func 82) #[.pointer (some ⟨b,0,none⟩)] #[],.func (.func 83) #[.pointer (some ⟨b,0,none⟩)] #[],.func (.func 84) #[.pointer (some ⟨b,0,none⟩)] #[],.func (.func 85) #[.pointer (some ⟨b,0,none⟩)] #[],.func (.func 86) #[.pointer (some ⟨b,0,none⟩)] #[],.func (.func 87) #[.pointer (some ⟨b,0,none⟩)] #[],.func (.func 88) #[.pointer (some ⟨b,0,none⟩)] #[]]
theorem Juh (b:Nat)(w:World):Calls prog 64 #[.pointer (some ⟨b,0,none⟩)] w fun e w'=>e=.returned (.agg (Jd5 b))∧Below w.heap.size w w':=by
 have y:∀ (f:Nat) (a:Addr) (W:World),(store a (.func (.func f) #[.pointer (some ⟨b,0,none⟩)] #[])).run prog W=stored prog W a (.func (.func f) #[.pointer (some ⟨b,0,none⟩)] #[]) .plain:=fun f a W=>run_store _ _ _ _ _ rfl
 go_enter func64,ntmps64
 go_wp2
 exact bodyPost_ret (v:=.agg (Jd5 b)) (by simp[results,results64,go_sem]) rfl ⟨rfl,(by repeat (first|exact Oa5 _ _|refine Jc ?_ _|refine Jj ?_))⟩
theorem Jos (E s:Nat)(br:Int)(bf bc bn bh bl dn:Value)(op l r:Int)(tn:ByteArray)(xs ky:Value)(kk:Int)(w:World)(P:World→Value→Value→World→Prop)(O:Jck w E br bf bc bn (.pointer (some ⟨s,0,none⟩)) bh bl dn)
  (R:∀ z,Below w.heap.size w z→Calls prog 48 #[.pointer (some ⟨s,0,none⟩),.string tn] z fun e w'=>Below z.heap.size z w'∧∃ a b,e=.returned (.tuple #[a,b])∧P z a b w') :
  Calls prog 81 #[.pointer (some ⟨E,0,none⟩),.agg #[.int .i64 op,.int .i64 l,.int .i64 r,.string tn,xs,ky,.int .i64 kk]] w fun e w'=>Below w.heap.size w w'∧∃ z,Below w.heap.size w z∧∃ a b,e=.returned (.tuple #[a,b])∧P z a b w':=by
 obtain⟨_,c4,_,_,_⟩:=O.cells
 have C:Below w.heap.size w (w.alloc (.cells #[.int .i64 op,.int .i64 l,.int .i64 r,.string tn,xs,ky,.int .i64 kk] 46)).drew:=Jj (Jc (Oa5 _ _) _)
 have bi:=R _ C
 have H:Hid (Below w.heap.size w (w.alloc (.cells #[.int .i64 op,.int .i64 l,.int .i64 r,.string tn,xs,ky,.int .i64 kk] 46)).drew):=C
 have hn:=heap_alloc_new w (.cells #[.int .i64 op,.int .i64 l,.int .i64 r,.string tn,xs,ky,.int .i64 kk] 46)
 have bj:(w.alloc (.cells #[.int .i64 op,.int .i64 l,.int .i64 r,.string tn,xs,ky,.int .i64 kk] 46)).drew.cell? ⟨w.heap.size,3,none⟩=some (.string tn):=by unfold World.cell?;rw[heap_drew,hn];rfl
 clear O R C hn
 go_enter func81,ntmps81
 go_upto_region 1 with fail
 refine wp_region_held_drew (S:=fun z=>z.cell? ⟨E,4,none⟩=some (.pointer (some ⟨s,0,none⟩))∧z.cell? ⟨w.heap.size,3,none⟩=some (.string tn)) (by kernel_rfl) ⟨Jh (Kf c4),bj⟩ (fun y=>?_)
 refine tk 0 ?_ rfl y ?_ (tk 1 ?_ rfl y ?_ (tk 2 ?_ rfl y ?_ (tk 3 ?_ rfl y ?_ (tk 4 ?_ rfl y ?_ (tk 5 ?_ rfl y ?_ ?_)))))
 iterate 6
  rotate_left 1
  ·intro w A;(try dsimp only at A);go_simp;try rfl
 simp only[Act.put,List.getElem_toArray,List.getElem_cons_zero,List.getElem_cons_succ,Oa1,List.set_cons_zero,List.set_cons_succ]
 refine wpAnyH_ready (rs:=[6]) (by kernel_rfl) (by simp) (AllReadyH.cons rfl (fun X K=>?_) AllReadyH.nil)
 go_simp
 refine bi.mono ?_
 rintro e Z ⟨D,a,b,rfl,M⟩
 have U:Hid (P (w.alloc (.cells #[.int .i64 op,.int .i64 l,.int .i64 r,.string tn,xs,ky,.int .i64 kk] 46)).drew a b Z):=M
 clear M
 go_simp
 refine K.out _ _ ⟨Ja D y.1,Ja D y.2⟩ (fun y=>?_)
 clear K X
 refine tk 7 ?_ rfl y ?_ (tk 8 ?_ rfl y ?_ (tk 9 ?_ rfl y ?_ (tk 10 ?_ rfl y ?_ ?_)))
 iterate 4
  rotate_left 1
  ·intro w A;(try dsimp only at A);go_simp;try rfl
 simp only[Act.put,List.getElem_toArray,List.getElem_cons_zero,List.getElem_cons_succ,Oa1,List.set_cons_zero,List.set_cons_succ]
 refine wpAnyH_done (by kernel_rfl) ?_ _
 go_wp2_with fail
 exact bodyPost_ret (v:=.tuple #[a,b]) (by simp[results,results81,go_sem]) rfl ⟨Jb H.out D,_,H.out,a,b,rfl,U.out⟩
attribute [local go_sem] Oc0
structure Nd where
 op:Int
 l:Int
 r:Int
 tn:ByteArray
 xs:Option Addr×Nat×Nat
 ky:Option Addr×Nat×Nat
 kk:Int
abbrev Nd.val (p:Nd):Value:=.agg #[.int .i64 p.op,.int .i64 p.l,.int .i64 p.r,.string p.tn,.slice p.xs.1 p.xs.2.1 p.xs.2.2,.slice p.ky.1 p.ky.2.1 p.ky.2.2,.int .i64 p.kk]
def Zm (w:World)(g o:Nat)(p:Nd):Prop:=
 w.cell? ⟨g,o,none⟩=some (.int .i64 p.op)∧w.cell? ⟨g,o+1,none⟩=some (.int .i64 p.l)∧w.cell? ⟨g,o+2,none⟩=some (.int .i64 p.r)∧w.cell? ⟨g,o+3,none⟩=some (.string p.tn)∧w.cell? ⟨g,o+4,none⟩=some (.slice p.xs.1 p.xs.2.1 p.xs.2.2)∧w.cell? ⟨g,o+5,none⟩=some (.slice p.ky.1 p.ky.2.1 p.ky.2.2)∧w.cell? ⟨g,o+6,none⟩=some (.int .i64 p.kk)
theorem Zm.below {w w':World}{g o:Nat}{p:Nd}(h:Zm w g o p)(y:Below w.heap.size w w'):Zm w' g o p:=
 ⟨Ja y h.1,Ja y h.2.1,Ja y h.2.2.1,Ja y h.2.2.2.1,Ja y h.2.2.2.2.1,Ja y h.2.2.2.2.2.1,Ja y h.2.2.2.2.2.2⟩
def Jej (op:Int):Nat:=if op=0 then 81 else if op=1 then 82 else if op=2 then 83 else if op=3 then 84 else if op=4 then 85 else if op=5 then 86 else if op=6 then 87 else 88
theorem Js3 (op:Int)(args:Array Value)(W:World):(callFunc (Jej op) args).run prog W=.ok (.enter (Jej op) args) W:=by
 unfold Jej
 repeat (split;(first|kernel_rfl|skip))
 kernel_rfl
theorem Jy7 (b:Nat)(k:Nat)(y:k<8):(Jd5 b)[k]?=some (.func (.func (Jej (k:Int))) #[.pointer (some ⟨b,0,none⟩)] #[]):=by
 match k,y with
 |0,_=>rfl
 |1,_=>rfl
 |2,_=>rfl
 |3,_=>rfl
 |4,_=>rfl
 |5,_=>rfl
 |6,_=>rfl
 |7,_=>rfl
 |k+8,h=>omega
def Jbu (b:Nat)(p:Nd):List Value:=[.int .i64 p.op,.int .i64 p.l,.int .i64 p.r,.string p.tn,.slice p.xs.1 p.xs.2.1 p.xs.2.2,.slice p.ky.1 p.ky.2.1 p.ky.2.2,.int .i64 p.kk,.func (.func (Jej p.op)) #[.pointer (some ⟨b,0,none⟩)] #[]]
theorem Jvj:(prog.info? 110).map (fun i=>(i.zero,i.size,i.bytes))=some (some (.agg #[.int .i64 0,.int .i64 0,.int .i64 0,.string ⟨#[]⟩,.slice none 0 0,.slice none 0 0,.int .i64 0,.nilFunc]),8,104):=by kernel_rfl
theorem Jxb (z K no X:Nat)(C:List Nd)(w:World)(bC:∀ j p,C[j]?=some p→Zm w K (no+j*7) p)(bN:∀ p∈C,0≤p.op∧p.op≤7)(cE:C.length≤1000) :
  Calls prog 44 #[.pointer (some ⟨z,0,none⟩),.agg #[.slice (some ⟨K,no,none⟩) C.length X]] w fun e w'=>Below w.heap.size w w'∧∃ sv,e=.returned sv∧w'.ownsRow w.heap.size 110 8 sv C.length (C.flatMap (Jbu z)):=by
 have bB:Hid ((∀ j p,C[j]?=some p→Zm w K (no+j*7) p)∧∀ p∈C,0≤p.op∧p.op≤7):=⟨bC,bN⟩
 clear bC bN
 have cF:∀ (f:Nat) (a:Addr) (D:World),(store a (.func (.func f) #[.pointer (some ⟨z,0,none⟩)] #[])).run prog D=stored prog D a (.func (.func f) #[.pointer (some ⟨z,0,none⟩)] #[]) .plain:=fun f a D=>run_store _ _ _ _ _ rfl
 have bK:=Juh z (w.alloc (.cells #[.slice (some ⟨K,no,none⟩) C.length X] 54))
 have bP:=heap_alloc_new w (.cells #[.slice (some ⟨K,no,none⟩) C.length X] 54)
 have bD:Below w.heap.size w (w.alloc (.cells #[.slice (some ⟨K,no,none⟩) C.length X] 54)):=Jc (Oa5 _ _) _
 have bi:Hid (Below w.heap.size w (w.alloc (.cells #[.slice (some ⟨K,no,none⟩) C.length X] 54))∧(w.alloc (.cells #[.slice (some ⟨K,no,none⟩) C.length X] 54)).heap[w.heap.size]?=some (.cells #[.slice (some ⟨K,no,none⟩) C.length X] 54 (0,0))):=⟨bD,bP⟩
 clear bP bD
 go_enter func44,ntmps44
 go_upto_region 2 with(go_at_call 64;refine bK.mono ?_;rintro e H ⟨rfl,bA⟩)
 have E:Below H.heap.size H (H.alloc (.cells (Jd5 z) 151)):=Jc (Oa5 _ _) _
 have bh:=heap_alloc_new H (.cells (Jd5 z) 151)
 have bH:=Jb bi.out.1 (Jb bA E)
 have bQ:=(Jb bA E).block _ (Jd bi.out.2) |>.trans bi.out.2
 have R:Hid ((H.alloc (.cells (Jd5 z) 151)).heap[H.heap.size]?=some (.cells (Jd5 z) 151 (0,0))∧Below w.heap.size w (H.alloc (.cells (Jd5 z) 151))):=⟨bh,bH⟩
 have bR:(H.alloc (.cells (Jd5 z) 151)).cell? ⟨w.heap.size,0,none⟩=some (.slice (some ⟨K,no,none⟩) C.length X):=by simp only[World.cell?,bQ];rfl
 clear bK bA E bh bH bQ bi
 obtain⟨M,bh⟩:∃ M,M=H.heap.size:=⟨_,rfl⟩
 rw[←bh]at R ⊢
 clear bh
 generalize H.alloc (.cells (Jd5 z) 151)=O at R bR ⊢
 go_wp2
 go_loopw [6,14] (fun s i wr=>∃ k:Nat,k≤C.length∧i=.int .i64 (k:Int)∧Hid (wr.ownsRow O.heap.size 110 8 s k ((C.take k).flatMap (Jbu z)))∧Below O.heap.size O wr) (fun _ i _=>C.length-(intOf i).toNat)
 case atStart=>exact⟨0,Ob7 _,rfl,⟨rfl,.inl ⟨rfl,rfl⟩⟩,Oa5 _ _⟩
 case round=>
  obtain⟨k,cC,rfl,Z,bf⟩:=hrel
  have cG:=bf.size
  clear bR
  by_cases ch:k<C.length
  ·obtain⟨p,br⟩:∃ p,C[k]?=some p:=⟨_,Oa3 ch⟩
   obtain⟨bS,cv,cx,cy,cz,cA,cB⟩:=(bB.out.1 k p br).below (Jb R.out.2 bf)
   have cj:=bB.out.2 p (Of6 br)
   obtain⟨y,bn⟩:∃ y:Nat,p.op=(y:Int):=⟨p.op.toNat,by omega⟩
   have ci:y<8:=by omega
   have bJ:wr.cell? ⟨M,y,none⟩=some (.func (.func (Jej p.op)) #[.pointer (some ⟨z,0,none⟩)] #[]):=by
    have cb:=(bf.block _ (Jd R.out.1)).trans R.out.1
    have:=Jy7 z y ci
    rw[←bn]at this
    rw[←this]
    simp only[World.cell?,cb]
    rfl
   obtain⟨f,hf⟩:∃ f,f=Jej p.op:=⟨_,rfl⟩
   have bV:Hid (Jbu z p=[.int .i64 (y:Int),.int .i64 p.l,.int .i64 p.r,.string p.tn,.slice p.xs.1 p.xs.2.1 p.xs.2.2,.slice p.ky.1 p.ky.2.1 p.ky.2.2,.int .i64 p.kk,.func (.func f) #[.pointer (some ⟨z,0,none⟩)] #[]]):=by
    show _=_
    unfold Jbu
    rw[hf,bn]
   rw[←hf]at bJ
   rw[bn]at bS
   have bU:Hid (C[k]?=some p):=br
   have cH:(0:Int)≤(k:Int):=by omega
   have cI:(k:Int)<(C.length:Int):=by omega
   have cJ:(0:Int)≤(y:Int):=by omega
   have cK:(y:Int)<8:=by omega
   clear hf bn br cj
   go_upto_region 6 with fail
   have bL:=heap_alloc_new wr (.cells #[.int .i64 (y:Int),.int .i64 p.l,.int .i64 p.r,.string p.tn,.slice p.xs.1 p.xs.2.1 p.xs.2.2,.slice p.ky.1 p.ky.2.1 p.ky.2.2,.int .i64 p.kk] 46)
   have cc:(wr.alloc (.cells #[.int .i64 (y:Int),.int .i64 p.l,.int .i64 p.r,.string p.tn,.slice p.xs.1 p.xs.2.1 p.xs.2.2,.slice p.ky.1 p.ky.2.1 p.ky.2.2,.int .i64 p.kk] 46)).drew.cell? ⟨M,y,none⟩=some (.func (.func f) #[.pointer (some ⟨z,0,none⟩)] #[]):=Jh (Kf bJ)
   obtain⟨cu,ca,cl,cn,cr⟩:=info_parts Jvj
   refine wp_region_held_drew (S:=fun D=>D.cell? ⟨wr.heap.size,0,none⟩=some (.int .i64 (y:Int))∧D.cell? ⟨wr.heap.size,1,none⟩=some (.int .i64 p.l)∧D.cell? ⟨wr.heap.size,2,none⟩=some (.int .i64 p.r)∧D.cell? ⟨wr.heap.size,3,none⟩=some (.string p.tn)∧D.cell? ⟨wr.heap.size,4,none⟩=some (.slice p.xs.1 p.xs.2.1 p.xs.2.2)∧D.cell? ⟨wr.heap.size,5,none⟩=some (.slice p.ky.1 p.ky.2.1 p.ky.2.2)∧D.cell? ⟨wr.heap.size,6,none⟩=some (.int .i64 p.kk)∧D.cell? ⟨M,y,none⟩=some (.func (.func f) #[.pointer (some ⟨z,0,none⟩)] #[])) (by kernel_rfl) (by refine⟨?_,?_,?_,?_,?_,?_,?_,cc⟩<;>(unfold World.cell?;rw[heap_drew,bL];rfl)) (fun A=>?_)
   refine tk 0 ?_ rfl A ?_ (tk 1 ?_ rfl A ?_ (tk 2 ?_ rfl A ?_ (tk 3 ?_ rfl A ?_ (tk 4 ?_ rfl A ?_ (tk 5 ?_ rfl A ?_ (tk 6 ?_ rfl A ?_ ?_))))))
   iterate 7
    rotate_left 1
    ·intro w bz;(try dsimp only at bz);go_simp;try rfl
   simp only[Act.put,List.getElem_toArray,List.getElem_cons_zero,List.getElem_cons_succ,Oa1,List.set_cons_zero,List.set_cons_succ]
   clear bL bS cv cx cy cz cA cB
   refine wpAnyH_ready (rs:=[7]) (by kernel_rfl) (by simp) (AllReadyH.cons rfl (fun bx bc=>?_) AllReadyH.nil)
   go_simp
   have E:Below (wr.alloc (.cells #[.int .i64 (y:Int),.int .i64 p.l,.int .i64 p.r,.string p.tn,.slice p.xs.1 p.xs.2.1 p.xs.2.2,.slice p.ky.1 p.ky.2.1 p.ky.2.2,.int .i64 p.kk] 46)).drew.heap.size (wr.alloc (.cells #[.int .i64 (y:Int),.int .i64 p.l,.int .i64 p.r,.string p.tn,.slice p.xs.1 p.xs.2.1 p.xs.2.2,.slice p.ky.1 p.ky.2.1 p.ky.2.2,.int .i64 p.kk] 46)).drew (((wr.alloc (.cells #[.int .i64 (y:Int),.int .i64 p.l,.int .i64 p.r,.string p.tn,.slice p.xs.1 p.xs.2.1 p.xs.2.2,.slice p.ky.1 p.ky.2.1 p.ky.2.2,.int .i64 p.kk] 46)).alloc (.cells #[.int .i64 (y:Int),.int .i64 p.l,.int .i64 p.r,.string p.tn,.slice p.xs.1 p.xs.2.1 p.xs.2.2,.slice p.ky.1 p.ky.2.1 p.ky.2.2,.int .i64 p.kk,.func (.func f) #[.pointer (some ⟨z,0,none⟩)] #[]] 110)).drew):=by
    have:=Jc (Oa5 _ (wr.alloc (.cells #[.int .i64 (y:Int),.int .i64 p.l,.int .i64 p.r,.string p.tn,.slice p.xs.1 p.xs.2.1 p.xs.2.2,.slice p.ky.1 p.ky.2.1 p.ky.2.2,.int .i64 p.kk] 46))) (.cells #[.int .i64 (y:Int),.int .i64 p.l,.int .i64 p.r,.string p.tn,.slice p.xs.1 p.xs.2.1 p.xs.2.2,.slice p.ky.1 p.ky.2.1 p.ky.2.2,.int .i64 p.kk,.func (.func f) #[.pointer (some ⟨z,0,none⟩)] #[]] 110)
    exact⟨this.os,this.tape,this.output,this.size,this.block⟩
   refine bc.out _ _ ⟨Ja E A.1,Ja E A.2.1,Ja E A.2.2.1,Ja E A.2.2.2.1,Ja E A.2.2.2.2.1,Ja E A.2.2.2.2.2.1,Ja E A.2.2.2.2.2.2.1,Ja E A.2.2.2.2.2.2.2⟩ (fun A=>?_)
   clear bc bx
   refine wpAnyH_ready (rs:=[8]) (by kernel_rfl) (by simp) (AllReadyH.cons rfl (fun bx bc=>?_) AllReadyH.nil)
   have bG:Below wr.heap.size wr (((wr.alloc (.cells #[.int .i64 (y:Int),.int .i64 p.l,.int .i64 p.r,.string p.tn,.slice p.xs.1 p.xs.2.1 p.xs.2.2,.slice p.ky.1 p.ky.2.1 p.ky.2.2,.int .i64 p.kk] 46)).alloc (.cells #[.int .i64 (y:Int),.int .i64 p.l,.int .i64 p.r,.string p.tn,.slice p.xs.1 p.xs.2.1 p.xs.2.2,.slice p.ky.1 p.ky.2.1 p.ky.2.2,.int .i64 p.kk,.func (.func f) #[.pointer (some ⟨z,0,none⟩)] #[]] 110)).drew):=Jj (Jc (Jc (Oa5 _ _) _) _)
   have bO:(((wr.alloc (.cells #[.int .i64 (y:Int),.int .i64 p.l,.int .i64 p.r,.string p.tn,.slice p.xs.1 p.xs.2.1 p.xs.2.2,.slice p.ky.1 p.ky.2.1 p.ky.2.2,.int .i64 p.kk] 46)).alloc (.cells #[.int .i64 (y:Int),.int .i64 p.l,.int .i64 p.r,.string p.tn,.slice p.xs.1 p.xs.2.1 p.xs.2.2,.slice p.ky.1 p.ky.2.1 p.ky.2.2,.int .i64 p.kk,.func (.func f) #[.pointer (some ⟨z,0,none⟩)] #[]] 110)).drew).ownsRow O.heap.size 110 8 u6 k ((C.take k).flatMap (Jbu z)):=Jaw Z.out bG
   have bE:(((wr.alloc (.cells #[.int .i64 (y:Int),.int .i64 p.l,.int .i64 p.r,.string p.tn,.slice p.xs.1 p.xs.2.1 p.xs.2.2,.slice p.ky.1 p.ky.2.1 p.ky.2.2,.int .i64 p.kk] 46)).alloc (.cells #[.int .i64 (y:Int),.int .i64 p.l,.int .i64 p.r,.string p.tn,.slice p.xs.1 p.xs.2.1 p.xs.2.2,.slice p.ky.1 p.ky.2.1 p.ky.2.2,.int .i64 p.kk,.func (.func f) #[.pointer (some ⟨z,0,none⟩)] #[]] 110)).drew).heap[wr.heap.size+1]?=some (.cells #[.int .i64 (y:Int),.int .i64 p.l,.int .i64 p.r,.string p.tn,.slice p.xs.1 p.xs.2.1 p.xs.2.2,.slice p.ky.1 p.ky.2.1 p.ky.2.2,.int .i64 p.kk,.func (.func f) #[.pointer (some ⟨z,0,none⟩)] #[]] 110 (0,0)):=by
    have:=heap_alloc_new (wr.alloc (.cells #[.int .i64 (y:Int),.int .i64 p.l,.int .i64 p.r,.string p.tn,.slice p.xs.1 p.xs.2.1 p.xs.2.2,.slice p.ky.1 p.ky.2.1 p.ky.2.2,.int .i64 p.kk] 46)) (.cells #[.int .i64 (y:Int),.int .i64 p.l,.int .i64 p.r,.string p.tn,.slice p.xs.1 p.xs.2.1 p.xs.2.2,.slice p.ky.1 p.ky.2.1 p.ky.2.2,.int .i64 p.kk,.func (.func f) #[.pointer (some ⟨z,0,none⟩)] #[]] 110)
    rw[Oa7]at this
    exact this
   refine step_append_lies (((wr.alloc (.cells #[.int .i64 (y:Int),.int .i64 p.l,.int .i64 p.r,.string p.tn,.slice p.xs.1 p.xs.2.1 p.xs.2.2,.slice p.ky.1 p.ky.2.1 p.ky.2.2,.int .i64 p.kk] 46)).alloc (.cells #[.int .i64 (y:Int),.int .i64 p.l,.int .i64 p.r,.string p.tn,.slice p.xs.1 p.xs.2.1 p.xs.2.2,.slice p.ky.1 p.ky.2.1 p.ky.2.2,.int .i64 p.kk,.func (.func f) #[.pointer (some ⟨z,0,none⟩)] #[]] 110)).drew) rfl (.tmp 18) (.tmp 25) 106 rfl O.heap.size 110 cu (.agg #[.int .i64 0,.int .i64 0,.int .i64 0,.string ⟨#[]⟩,.slice none 0 0,.slice none 0 0,.int .i64 0,.nilFunc]) 8 104 underlying106 ca cl cn cr rfl (by decide) u6 k ((C.take k).flatMap (Jbu z)) rfl bO ⟨wr.heap.size+1,0,none⟩ 1 1 [.int .i64 (y:Int),.int .i64 p.l,.int .i64 p.r,.string p.tn,.slice p.xs.1 p.xs.2.1 p.xs.2.2,.slice p.ky.1 p.ky.2.1 p.ky.2.2,.int .i64 p.kk,.func (.func f) #[.pointer (some ⟨z,0,none⟩)] #[]] rfl rfl (fun j u bu=>World.news_of_block bE j u (by simpa using bu)) (fun u bu=>by simp at bu;rcases bu with rfl|rfl|rfl|rfl|rfl|rfl|rfl|rfl<;>rfl) (by decide) (by unfold maxLen;omega) (by omega) (by rw[heap_drew,Oa7,Oa7];omega) (wr.heap.size+2) (by rw[heap_drew,Oa7,Oa7]) (fun bX bW bj bM bl bY cf=>?_)
   have cM:=bl.size
   have cD:M<O.heap.size:=Jd R.out.1
   have U:∀ o:Nat,bj.cell? ⟨wr.heap.size,o,none⟩=(((wr.alloc (.cells #[.int .i64 (y:Int),.int .i64 p.l,.int .i64 p.r,.string p.tn,.slice p.xs.1 p.xs.2.1 p.xs.2.2,.slice p.ky.1 p.ky.2.1 p.ky.2.2,.int .i64 p.kk] 46)).alloc (.cells #[.int .i64 (y:Int),.int .i64 p.l,.int .i64 p.r,.string p.tn,.slice p.xs.1 p.xs.2.1 p.xs.2.2,.slice p.ky.1 p.ky.2.1 p.ky.2.2,.int .i64 p.kk,.func (.func f) #[.pointer (some ⟨z,0,none⟩)] #[]] 110)).drew).cell? ⟨wr.heap.size,o,none⟩:=fun o=>by simp only[World.cell?,bl.block wr.heap.size (Jm A.1) (fun e=>by have:=Je Z.out e.symm;omega)]
   have bI:bj.cell? ⟨M,y,none⟩=(((wr.alloc (.cells #[.int .i64 (y:Int),.int .i64 p.l,.int .i64 p.r,.string p.tn,.slice p.xs.1 p.xs.2.1 p.xs.2.2,.slice p.ky.1 p.ky.2.1 p.ky.2.2,.int .i64 p.kk] 46)).alloc (.cells #[.int .i64 (y:Int),.int .i64 p.l,.int .i64 p.r,.string p.tn,.slice p.xs.1 p.xs.2.1 p.xs.2.2,.slice p.ky.1 p.ky.2.1 p.ky.2.2,.int .i64 p.kk,.func (.func f) #[.pointer (some ⟨z,0,none⟩)] #[]] 110)).drew).cell? ⟨M,y,none⟩:=by simp only[World.cell?,bl.block M (by rw[heap_drew,Oa7,Oa7];omega) (fun e=>by have:=Je Z.out e.symm;omega)]
   refine bc.out _ _ ⟨(U 0).trans A.1,(U 1).trans A.2.1,(U 2).trans A.2.2.1,(U 3).trans A.2.2.2.1,(U 4).trans A.2.2.2.2.1,(U 5).trans A.2.2.2.2.2.1,(U 6).trans A.2.2.2.2.2.2.1,bI.trans A.2.2.2.2.2.2.2⟩ (fun A=>?_)
   clear bc bx U bI
   simp only[Act.put,List.getElem_toArray,List.getElem_cons_zero,List.getElem_cons_succ,Oa1,List.set_cons_zero,List.set_cons_succ]
   refine tk 9 ?_ rfl A ?_ ?_
   rotate_left 1
   ·intro w bz;(try dsimp only at bz);go_simp;try rfl
   simp only[Act.put,List.getElem_toArray,List.getElem_cons_zero,List.getElem_cons_succ,Oa1,List.set_cons_zero,List.set_cons_succ]
   refine wpAnyH_done (by kernel_rfl) ?_ _
   have bT:Hid (bj.ownsRow O.heap.size 110 8 (.slice (some ⟨bX,0,none⟩) (k+1) bW) (k+1) ((C.take (k+1)).flatMap (Jbu z))):=by
    show World.ownsRow _ _ _ _ _ _ _
    rw[Oi7,bU.out,Oe8]
    show World.ownsRow _ _ _ _ _ _ ((C.take k).flatMap (Jbu z)++(Jbu z p++[]))
    rw[Od7,bV.out]
    exact bM
   have bZ:Below O.heap.size O bj:=Jy (Jb bf bG) bl fun g e=>(Je Z.out e).1
   clear A bM bY cf bO bE
   go_wp2
   go_roundw
   case rel=>exact⟨k+1,by omega,by go_num,bT,bZ⟩
   case measure=>simp[intOf];omega
  obtain rfl:k=C.length:=by omega
  go_wp2
  go_ret
  have:=Z.out
  rw[Oc8 (Oa2 _)]at this
  exact⟨Jb R.out.2 bf,_,rfl,Jgl this R.out.2.size⟩
end Go.Proofs.YtjjdldddcegjiaaGreatDoor
namespace Go.Proofs.YtjjdldddcegjiaaGreatDoor
open Go.RowKit Go.Shelf
attribute [local go_sem] Oc0
def Jcd (e:List Pt)(cols:List (List V))(f m:Nat):List Nat:=(List.range m).filterMap fun i=>if (pv1 e (Ji cols (f+i))).n=1 then some (f+i)else none
theorem Jwt (e:List Pt)(cols:List (List V))(f:Nat):Jcd e cols f 0=[]:=rfl
theorem Jwn (e:List Pt)(cols:List (List V))(f m:Nat):Jcd e cols f (m+1)=if (pv1 e (Ji cols (f+m))).n=1 then Jcd e cols f m++[f+m]else Jcd e cols f m:=by
 unfold Jcd
 rw[Oj7,List.filterMap_append]
 split
 ·rename_i h
  simp[h]
 rename_i h
 simp[h]
theorem Jpg (e:List Pt)(cols:List (List V))(f m:Nat):(Jcd e cols f m).length≤m:=by
 unfold Jcd
 have:=List.length_filterMap_le (fun i=>if (pv1 e (Ji cols (f+i))).n=1 then some (f+i)else none) (List.range m)
 simpa using this
def Jbe (e:List Pt)(cols:List (List V))(ps:List (Nat×Nat)):List Nat:=ps.flatMap fun x=>Jcd e cols x.1 x.2
theorem Jw5 (e:List Pt)(cols:List (List V))(ps:List (Nat×Nat))(f m:Nat):Jbe e cols (ps++[(f,m)])=Jbe e cols ps++Jcd e cols f m:=by
 unfold Jbe
 rw[Oe8,Ol6]
theorem Jy6 (e:List Pt)(cols:List (List V))(z:Nat):∀ ps:List (Nat×Nat),(∀ x∈ps,x.2≤z)→(Jbe e cols ps).length≤ps.length*z:=by
 intro ps
 induction ps with
 |nil=>intro _;simp[Jbe]
 |cons x ps y=>
  intro h
  unfold Jbe at y ⊢
  rw[Og7,Oa8,List.length_cons,Of5]
  have D:=h x (Of4 ..)
  have E:=y fun C A=>h C (Og1 _ A)
  have H:=Jpg e cols x.1 x.2
  omega
def Yf (e:List Pt)(cols:List (List V))(N:Nat):List Nat:=(List.range N).filter fun i=>decide ((pv1 e (Ji cols i)).n=1)
theorem Jy8 (e:List Pt)(cols:List (List V))(N y:Nat)(D:1≤y):Jbe e cols (cks N y (ckN N y))=Yf e cols N:=by
 have h:=Jm9 N y (fun i=>i) (ckN N y)
 rw[Ol4 (Jcy D)]at h
 have C:Jbe e cols (cks N y (ckN N y))=((cks N y (ckN N y)).flatMap fun x=>(List.range x.2).map fun i=>x.1+i).filter fun i=>decide ((pv1 e (Ji cols i)).n=1):=by
  unfold Jbe Jcd
  rw[List.filter_flatMap]
  congr 1
  funext x
  rw[List.filter_map]
  induction List.range x.2 with
  |nil=>rfl
  |cons i l A=>
   rw[List.filterMap_cons,List.filter_cons]
   by_cases z:(pv1 e (Ji cols (x.1+i))).n=1
   ·simp[z,A]
   simp[z,A]
 rw[C,h]
 unfold Yf
 simp
structure Jir (w:World) (z db l L b wb kb:Nat) (ex:Value) (e:List Pt) (cols:List (List V)) (ps:List (Nat×Nat)) (W:World):Prop where
 b1:W.heap[w.heap.size+1]?=some (.cells #[.slice none 0 0] 75 (0,0))
 b2:W.heap[w.heap.size+2]?=some (.cells #[.nilIface] 77 (0,0))
 bw:W.heap[wb]?=some (.cells #[.pointer (some ⟨b,0,none⟩)] 220 (0,0))
 bk:∃ kv,W.heap[kb]?=some (.cells #[kv] 22 (0,0))∧Jo W L 3 kv ((Jbe e cols ps).map nv)
 wk:∃ (ba:Value) (f n:Int) (pv er:Value),Uz W b ex ba f n pv er
 exs:Jd3 (w.heap.size+3) wb W b ex [e]
 tot:∀ x∈ps,x.2≤z
 low:L≤W.heap.size∧wb<L
 keep:Ju (·=db) w W
 run:∀ x∈ps,∀ i,i<x.2→∀ e'∈[e],∃ v,Kl e' (Ji cols (x.1+i))=.inl v
 dl:db<w.heap.size
 dn:W.heap[db]?=Jdc w db l
theorem Jir.kept {w:World}{K A l L b H E:Nat}{ex:Value}{e:List Pt}{cols:List (List V)}{ps:List (Nat×Nat)}{W D:World}{row:Option Nat}(h:Jir w K A l L b H E ex e cols ps W)(hL:w.heap.size≤L)(z:W.grownBy D row)(C:∀ r,row=some r→L≤r∧∃ o:Obj,W.heap[r]?=some o∧o.isCells=false):Jir w K A l L b H E ex e cols ps D:=by
 have y:=CK.of_grown z fun r e=>(C r e).2
 obtain⟨ba,f,Z,bc,M,U⟩:=h.wk
 obtain⟨X,O,R⟩:=h.bk
 exact⟨y.cells _ _ _ _ h.b1,y.cells _ _ _ _ h.b2,y.cells _ _ _ _ h.bw,⟨X,y.cells _ _ _ _ O,Jxz R y⟩,⟨ba,f,Z,bc,M,y.cells _ _ _ _ U⟩,h.exs.of_blocks (fun k bf bh _=>z.block k (by have:=h.low;omega) (fun e=>by have:=(C k e.symm).1;have:=h.low;omega)),h.tot,⟨Ob2 h.low.1 z.size,h.low.2⟩,Jau h.keep z fun r e=>Ob2 hL (C r e).1,h.run,h.dl,(z.block A (by have:=h.dl;have:=h.low;omega) (fun e=>by have:=(C A e.symm).1;have:=h.dl;omega)).trans h.dn⟩
end Go.Proofs.YtjjdldddcegjiaaGreatDoor
namespace Go.Proofs.YtjjdldddcegjiaaGreatDoor
open Go.RowKit Go.Shelf Tryz
attribute [local go_sem] Oc0
theorem Jjd {w:World}{p q:Addr}{v x u:Value}(z:w.cell? q=some x)(y:w.cell? p=some u)(A:u≠x):(w.setCell q v).cell? p=some u:=Uc (fun e=>by subst e;rw[z]at y;cases y;exact A rfl) y
theorem Jv.setBox {W:World}{b:Nat}{v x:Value}{a:Option Addr}{vs:List V}(h:Jv W a vs)(A:W.cell? ⟨b,0,none⟩=some x)(hi:∀ n,x≠.int .i64 n)(E:∀ s,x≠.string s):Jv (W.setCell ⟨b,0,none⟩ v) a vs:=by
 rcases h with h|⟨g,o,C,D,y⟩
 ·exact .inl h
 exact .inr ⟨g,o,C,by simpa [World.setCell] using D,fun i u z=>⟨Jjd A (y i u z).1 (fun e=>hi _ e.symm),Jjd A (y i u z).2.1 (fun e=>hi _ e.symm),Jjd A (y i u z).2.2 (fun e=>E _ e.symm)⟩⟩
theorem Kgc {m j:Nat}(h:j<m)(y:wrap64 ((j:Int)+1)=((j+1:Nat):Int)):m-(intOf (.int .i64 (wrap64 ((j:Int)+1)))).toNat<m-(intOf (.int .i64 (j:Int))).toNat:=by
 rw[y]
 simp only[intOf,Int.toNat_natCast]
 omega
structure Jkb (W1:World) (L kb:Nat) (kv0:Value) (xs:List Nat) (kv:Value) (wr:World):Prop where
 bk:wr.heap[kb]?=some (.cells #[kv] 22 (0,0))
 own:Jo wr L 3 kv (xs.map nv)
 size:W1.heap.size≤wr.heap.size
 os:wr.os=W1.os
 tape:wr.tape=W1.tape
 output:wr.output=W1.output
 same:∀ k,k<W1.heap.size→k≠kb→kv0.ownBlock≠some k→wr.heap[k]?=W1.heap[k]?
 ob:∀ g,kv.ownBlock=some g→kv0.ownBlock=some g∨W1.heap.size≤g
theorem Jkb.box {y:World}{L z:Nat}{C:Value}{xs:List Nat}{A:Value}{wr:World}(h:Jkb y L z C xs A wr)(o:Obj):Jkb y L z C xs A (wr.alloc o):=
 ⟨(Oa9 _ _ _ (Jd h.bk)).trans h.bk,h.own.alloc o,by rw[Oa7];have:=h.size;omega,h.os,h.tape,h.output,fun k D E H=>(Oa9 _ _ _ (by have:=h.size;omega)).trans (h.same k D E H),h.ob⟩
theorem Jkb.more {E:World}{L y:Nat}{U:Value}{xs:List Nat}{z kv':Value}{wr w4:World}(h:Jkb E L y U xs z wr)(hL:y<L)(x:Nat)(O:Jo w4 L 3 kv' (xs.map nv++[nv x]))(A:wr.grownBy w4 z.ownBlock)(Z:kv'.ownBlock=z.ownBlock∨kv'.ownBlock=some wr.heap.size) :
  Jkb E L y U (xs++[x]) kv' (w4.setCell ⟨y,0,none⟩ kv')∧w4.heap[y]?=some (.cells #[z] 22 (0,0)):=by
 have R:∀ k,k<wr.heap.size→z.ownBlock≠some k→w4.heap[k]?=wr.heap[k]?:=fun k bf D=>A.block k bf (Oc5 D)
 have D:z.ownBlock≠some y:=fun e=>by have:=(Je h.own e).1;omega
 have M:=(R y (Jd h.bk) D).trans h.bk
 have bi:(w4.setCell ⟨y,0,none⟩ kv').heap.size=w4.heap.size:=by simp[World.setCell]
 have bh:=h.size
 have bj:=A.size
 refine⟨⟨(show Boxed w4 y 22 z from M).set kv',?_,by omega,?_,?_,?_,fun k X H K=>?_,fun g e=>?_⟩,M⟩
 ·rw[Ob8]
  exact Jl O fun g bc=>Oa4 _ _ _ _ (by have:=(Je O bc).1;simp;omega)
 ·exact A.os.trans h.os
 ·exact A.tape.trans h.tape
 ·exact A.output.trans h.output
 ·rw[Oa4 _ _ _ _ H,R k (by omega) (fun e=>?_)]
  ·exact h.same k X H K
  rcases h.ob k e with h|h
  ·exact K h
  omega
 rcases Z with C|C
 ·exact h.ob g (C.symm.trans e)
 rw[C]at e
 cases e
 exact .inr bh
def Kd0 (y l:Nat)(C E:Addr)(e:List Pt)(cols:List (List V))(N:Nat)(w:World):Ending→World→Prop:=fun A w'=>
 Ju (·=y) w w' ∧
 ((∃ (g:Nat) (hs:List (Option Addr×Nat)),A=.returned (.tuple #[.slice (some ⟨g,0,none⟩) cols.length cols.length,.nilIface])∧w.heap.size≤g∧Qd w' g hs (cols.map (Yq ((Yf e cols N).map fun (i:Nat)=>(i:Int))))∧(∀ i,i<N→∃ v,Kl e (Ji cols i)=.inl v)∧(∀ j,j<cols.length→∀ b o,(Yo hs j).1=some ⟨b,o,none⟩→w.heap.size≤b∧b<w'.heap.size)∧w'.heap[y]?=Jdc w y l) ∨
  (∃ z kk r:Nat,A=.returned (.tuple #[.slice none 0 0,Qv z])∧r<N∧w.heap.size≤z∧Kr [e] (Ji cols r)≠0∧Ja8 w' z (r:Int) kk (Jdb C E (Kr [e] (Ji cols r)))∧∀ i,i<r→∀ D∈[e],∃ v,Kl D (Ji cols i)=.inl v))
theorem Js8 (bu A k dJ l:Nat)(E:Nat)(dI dH fq fr dK fp:Value)(op r:Int)(tn:ByteArray)(ky:Value)(kk:Int)(bL eo ne bM:Nat)(e:List Pt)(g cap:Nat)(hs:List (Option Addr×Nat))(cols:List (List V))(N:Nat)(w:World)(cb cB:Addr)
  (bE:Jck w bu E dI dH fq fr dK fp (.slice (some ⟨A,0,none⟩) k dJ)) (cQ:l<k) (bD:w.cell? ⟨A,l,none⟩=some (.slice (some ⟨g,0,none⟩) cols.length cap)) (fV:w.frozen? ⟨A,l,none⟩=false) (gw:bu≠A)
  (fE:∀ cE:World,(∀ k,k<w.heap.size→k≠A→cE.heap[k]?=w.heap[k]?)→Jaz cE bL eo [e]) (go:Jga cols.length [e]) (jZ:1≤bM) (dx:1≤E) (jz:E≤100000)
  (fC:Qd w g hs cols) (gD:1≤cols.length) (gE:cols.length≤1000) (fQ:∀ j,j<cols.length→(cols.getD j []).length=N) (jj:N≤100000) (fY:∀ i,i<N→∀ v∈Ji cols i,Jg v.n) (fW:Jbo g hs cols.length (fun b=>b≠A)) (fX:Jbo g hs cols.length (fun b=>b<w.heap.size)) (fG:Jdo w cb cB) (fF:A≠10∧A≠11) :
  Calls prog 82 #[.pointer (some ⟨bu,0,none⟩),.agg #[.int .i64 op,.int .i64 (l:Int),.int .i64 r,.string tn,.slice (some ⟨bL,eo,none⟩) ne bM,ky,.int .i64 kk]] w (Kd0 A l cb cB e cols N w):=by
 have cn:A<w.heap.size:=by have:=Jm bD;exact this
 have bZ:Hid (Jck w bu E dI dH fq fr dK fp (.slice (some ⟨A,0,none⟩) k dJ)∧l<k∧w.cell? ⟨A,l,none⟩=some (.slice (some ⟨g,0,none⟩) cols.length cap)∧w.frozen? ⟨A,l,none⟩=false∧bu≠A):=⟨bE,cQ,bD,fV,gw⟩
 have R:Hid (Qd w g hs cols∧(∀ j,j<cols.length→(cols.getD j []).length=N)∧(∀ i,i<N→∀ v∈Ji cols i,Jg v.n)∧Jbo g hs cols.length (fun b=>b≠A)∧Jbo g hs cols.length (fun b=>b<w.heap.size)):=⟨fC,fQ,fY,fW,fX⟩
 have bY:Hid (Jdo w cb cB∧A≠10∧A≠11):=⟨fG,fF⟩
 have dB:Hid ((∀ cE:World,(∀ k,k<w.heap.size→k≠A→cE.heap[k]?=w.heap[k]?)→Jaz cE bL eo [e])∧Jga cols.length [e]):=⟨fE,go⟩
 clear bE cQ bD fV gw fE go fC fQ fY fW fX fG fF
 refine(callsIn_wide (n:=3)).1 ?_
 refine callsIn_of_wp_marks func82 rfl trivial ?_ rfl
 simp only[ntmps82,Om3,List.length_cons,List.length_nil,Nat.reduceAdd,Nat.reduceSub,Ok9,Array.replicate_zero,Om4,Ol2,List.nil_append,List.cons_append]
 refine wpIn_wide.2 ?_
 go_upto_region 1 with fail
 generalize fJ:((w.alloc (.cells #[.int .i64 op,.int .i64 (l:Int),.int .i64 r,.string tn,.slice (some ⟨bL,eo,none⟩) ne bM,ky,.int .i64 kk] 46)).alloc _).alloc _=ca
 obtain⟨gy,dL,cF,cG,cl⟩:=Jur w _ _ _ ca fJ
 clear fJ
 have gz:=Jjb bu A k dJ l E dI dH fq fr dK fp (some ⟨g,0,none⟩) cols.length cap ca (bZ.out.1.below cl) bZ.out.2.1 (Ja cl bZ.out.2.2.1) (by rw[←bZ.out.2.2.2.1];exact Ol7 (cl.block A cn))
 have fm:ca.cell? ⟨w.heap.size,1,none⟩=some (.int .i64 (l:Int)):=by simp[World.cell?,dL]
 go_upto_region 2 with(go_at_call 45;refine gz.mono ?_;rintro bc y ⟨rfl,fK⟩;have bK:Hid (y=ca.setCell ⟨A,l,none⟩ (.slice none 0 0)):=fK;clear fK)
 have dj:∀ k,k≠A→y.heap[k]?=ca.heap[k]?:=fun k M=>by rw[bK.out,Oa4 _ _ _ _ M]
 have fd:y.heap.size=w.heap.size+3:=by rw[bK.out];simp[World.setCell,gy]
 have D:Ju (·=A) w y:=by rw[bK.out];exact Ju.set (F:=fun x=>x=A) (Ju.of_below cl) rfl l _
 have fs:Hid (y.heap[A]?=Jdc w A l):=by show _=_;rw[bK.out];exact Jol (cl.block A cn)
 have cc:=(dj w.heap.size (by omega)).trans dL
 have cI:=(dj (w.heap.size+1) (by omega)).trans cF
 have df:=(dj (w.heap.size+2) (by omega)).trans cG
 have dg:=Jsm bL eo bM cols.length [e] y (dB.out.1 y fun k M bn=>D.block k M bn) dB.out.2 (by simp) (by simp)
 rw[fd]at dg
 simp only[List.length_cons,List.length_nil,Od0]at dg
 have jE:y.cell? ⟨w.heap.size,4,none⟩=some (.slice (some ⟨bL,eo,none⟩) ne bM):=by simp[World.cell?,cc]
 have ke:(1:Int)≤(bM:Int):=by omega
 have cC:Hid (Ju (·=A) w y∧y.heap.size=w.heap.size+3):=⟨D,fd⟩
 clear gz fm dL cF cG dj D cl bK gy
 clear fd
 go_upto_region 3 with(go_at_call 115;refine dg.mono ?_;rintro bc Z ⟨ci,rfl,ex,cy,fT⟩)
 have di:Below Z.heap.size Z ((Z.alloc (.cells #[.pointer (some ⟨w.heap.size+3,0,none⟩)] 220)).alloc (.cells #[.slice none 0 0] 22)):=Jc (Jc (Oa5 _ _) _) _
 have fA:=heap_alloc_new Z (.cells #[.pointer (some ⟨w.heap.size+3,0,none⟩)] 220)
 have cH:=heap_alloc_new (Z.alloc (.cells #[.pointer (some ⟨w.heap.size+3,0,none⟩)] 220)) (.cells #[.slice none 0 0] 22)
 rw[Oa7]at cH
 have de:((Z.alloc (.cells #[.pointer (some ⟨w.heap.size+3,0,none⟩)] 220)).alloc (.cells #[.slice none 0 0] 22)).heap[Z.heap.size]?=some (.cells #[.pointer (some ⟨w.heap.size+3,0,none⟩)] 220 (0,0)):=(Oa9 _ _ _ (by rw[Oa7];omega)).trans fA
 have cj:Below y.heap.size y ((Z.alloc (.cells #[.pointer (some ⟨w.heap.size+3,0,none⟩)] 220)).alloc (.cells #[.slice none 0 0] 22)):=by rw[cC.out.2];exact ci.trans (di.mono (by have:=ci.size;rw[cC.out.2]at this;exact this))
 have gX:=(cj.block _ (Jd cc)).trans cc
 have g1:=(cj.block _ (Jd cI)).trans cI
 have g2:=(cj.block _ (Jd df)).trans df
 have gG:=cy.below di
 have dT:=fT.of_blocks (fun k _ M _=>di.block k M)
 have dU:Ju (·=A) w ((Z.alloc (.cells #[.pointer (some ⟨w.heap.size+3,0,none⟩)] 220)).alloc (.cells #[.slice none 0 0] 22)):=cC.out.1.trans (Ju.of_below cj)
 have ft:Hid (((Z.alloc (.cells #[.pointer (some ⟨w.heap.size+3,0,none⟩)] 220)).alloc (.cells #[.slice none 0 0] 22)).heap[A]?=Jdc w A l):=(cj.block A (by have:=cC.out.2;omega)).trans fs.out
 have dc:w.heap.size+3<Z.heap.size:=Jd cy
 have cz:((Z.alloc (.cells #[.pointer (some ⟨w.heap.size+3,0,none⟩)] 220)).alloc (.cells #[.slice none 0 0] 22)).heap.size=Z.heap.size+2:=by rw[Oa7,Oa7]
 clear dg jE cc cI df cy fT ci di fA cj cC
 go_upto_region 4 with fail
 generalize (Z.alloc (.cells #[.pointer (some ⟨w.heap.size+3,0,none⟩)] 220)).alloc (.cells #[.slice none 0 0] 22)=bP at de cH gX g1 g2 gG dT dU ft cz ⊢
 generalize Z.heap.size=z at de cH dT dc cz ⊢
 have bx:Hid (w.heap.size+3<z∧bP.heap.size=z+2):=⟨dc,cz⟩
 clear fs dc cz ca y Z
 have kf:=dU.cell bZ.out.1.cells.1 bZ.out.2.2.2.2
 have jl:=Jh4 (.slice (some ⟨g,0,none⟩) cols.length cap) (E:Int) (some ⟨g,0,none⟩) cols.length cap rfl bP
 go_wp2_with (go_at_call 116;refine jl.mono ?_;rintro bc bi ⟨rfl,fL⟩;have dd:Hid (bi=(bP.alloc (.cells #[.slice (some ⟨g,0,none⟩) cols.length cap] 75)).alloc (.cells #[.int .i64 (E:Int)] 3)):=fL;clear fL)
 refine(wpIn_wide (n:=3)).1 ?_
 have bN:bP.heap.size=z+2:=bx.out.2
 have bQ:Below bP.heap.size bP bi:=by rw[dd.out];exact Jc (Jc (Oa5 _ _) _) _
 have bG:bi.heap.size=z+4:=by rw[dd.out,Oa7,Oa7,bN]
 have gV:bi.heap[z+2]?=some (.cells #[.slice (some ⟨g,0,none⟩) cols.length cap] 75 (0,0)):=by
  have:=heap_alloc_new bP (.cells #[.slice (some ⟨g,0,none⟩) cols.length cap] 75)
  rw[dd.out,Oa9 _ _ _ (by rw[Oa7,bN];omega),←bN]
  exact this
 have gU:bi.heap[z+2+1]?=some (.cells #[.int .i64 (E:Int)] 3 (0,0)):=by
  have:=heap_alloc_new (bP.alloc (.cells #[.slice (some ⟨g,0,none⟩) cols.length cap] 75)) (.cells #[.int .i64 (E:Int)] 3)
  rw[Oa7,bN]at this
  rw[dd.out]
  exact this
 have dV:Ju (·=A) w bi:=dU.trans (Ju.of_below bQ)
 have bB:=bx.out
 have jg:Jir w E A l (z+4) (w.heap.size+3) z (z+1) ex e cols [] bi:=
  ⟨(bQ.block _ (Jd g1)).trans g1,(bQ.block _ (Jd g2)).trans g2,(bQ.block _ (Jd de)).trans de,⟨_,(bQ.block _ (Jd cH)).trans cH,Jo.nil _ _ _⟩,⟨_,_,_,_,_,gG.below bQ⟩,dT.of_blocks (fun k _ M _=>bQ.block k (by omega)),fun x O=>by simp at O,⟨by omega,by omega⟩,dV,fun x O=>(by simp at O),cn,(bQ.block A (by have:=bx.out;omega)).trans ft.out⟩
 have gN:Hid (Jir w E A l (z+4) (w.heap.size+3) z (z+1) ex e cols [] bi):=jg
 have jb:Qd bi g hs cols:=R.out.1.kp (Fx:=fun k=>k<w.heap.size∧k≠A) ⟨dV.size,fun k M=>dV.block k M.1 M.2⟩ ⟨⟨R.out.2.2.2.2.1,R.out.2.2.2.1.1⟩,fun j H b o e=>⟨R.out.2.2.2.2.2 j H b o e,R.out.2.2.2.1.2 j H b o e⟩⟩
 rw[bN]
 refine Jg8 rfl (by omega) (gf:=150) (lb:=#[.pointer (some ⟨z+2,0,none⟩),.pointer (some ⟨z+2+1,0,none⟩)]) rfl trivial (enters_of func150 (by kernel_rfl) rfl)
  (Jjx 2 (by omega) (z+2) (z+2+1) g cap hs cols N E dx jz jj gD gE bi jb R.out.2.1 (by simp[World.cell?,gV]) (by simp[World.cell?,gU]) (fun k=>k=z+2∨k=z+2+1∨(k<w.heap.size∧k≠A)) ⟨.inl rfl,.inr (.inl rfl),.inr (.inr ⟨R.out.2.2.2.2.1,R.out.2.2.2.1.1⟩),fun j H b o e=>.inr (.inr ⟨R.out.2.2.2.2.2 j H b o e,R.out.2.2.2.1.2 j H b o e⟩)⟩ (fun k M=>by omega))
  (fun h k=>h.trans k) ?hKb (Oa5 _ _) (fun _=>rfl)
  (fun U W=>Jir w E A l (z+4) (w.heap.size+3) z (z+1) ex e cols (U.map fun x=>(x.1,x.2.1)) W)
  (fun c U W=>c=.ret∧Jq9 w A cb cB [e] cols (U.map fun x=>(x.1,x.2.1)) W)
  ?hI ?hIx ?hR gN.out (fun x=>{tmps:=#[.pointer (some ⟨bu,0,none⟩),.agg #[.int .i64 op,.int .i64 (l:Int),.int .i64 r,.string tn,.slice (some ⟨bL,eo,none⟩) ne bM,ky,.int .i64 kk],undef,.pointer (some ⟨w.heap.size,0,none⟩),.pointer (some ⟨w.heap.size+1,0,none⟩),.pointer (some ⟨w.heap.size+1+1,0,none⟩),.slice (some ⟨g,0,none⟩) cols.length cap,.pointer (some ⟨z,0,none⟩),.pointer (some ⟨z+1,0,none⟩),.int .i64 (x.1:Int),.slice (some ⟨x.2.2,0,none⟩) cols.length cols.length,undef,undef,undef,undef,.pointer (some ⟨bu,0,none⟩),.pointer (some ⟨w.heap.size,1,none⟩),.int .i64 (l:Int),.slice (some ⟨g,0,none⟩) cols.length cap,.pointer (some ⟨w.heap.size,4,none⟩),.slice (some ⟨bL,eo,none⟩) ne bM,.slice (some ⟨bL,eo,none⟩) 1 bM,.pointer (some ⟨w.heap.size+3,0,none⟩),.slice (some ⟨g,0,none⟩) cols.length cap,.pointer (some ⟨bu,0,none⟩),.pointer (some ⟨bu,0,none⟩),.pointer (some ⟨bu,0,none⟩),.pointer (some ⟨bu,0,none⟩),.int .i64 (E:Int),.func (.func 150) #[] #[.pointer (some ⟨z+2,0,none⟩),.pointer (some ⟨z+2+1,0,none⟩)],.int .i64 (x.1:Int),.slice (some ⟨x.2.2,0,none⟩) cols.length cols.length,undef,undef,undef,undef,undef,undef,undef,undef,undef,undef,undef,undef,undef,undef,undef,undef,undef,undef,undef,undef,undef,undef,undef,undef,undef,undef,undef,undef,undef,undef,undef,undef],defers:=[]}) ?assign ?body ?done ?stop
 case hKb=>
  intro W l o kg cQ bR _ _
  exact⟨by simp,fun k M=>World.putObj_heap_other (by omega)⟩
 case hI=>
  intro s W fx row h cO bE
  exact h.kept (by omega) cO fun r e=>⟨by have:=(bE r e).1;omega,(bE r e).2⟩
 case hIx=>
  rintro c s W fx row ⟨bD,h⟩ cO bE
  exact⟨bD,h.kept (L:=z+4) (by omega) cO fun r e=>⟨by have:=(bE r e).1;omega,(bE r e).2⟩⟩
 case hR=>
  rintro x W fx row ⟨K,bh,bA,cf⟩ cO bE
  exact⟨K,bh,bA,cf.ck (CK.of_grown cO fun r e=>(bE r e).2)⟩
 case assign=>
  clear bB bG bN
  intro l x W jN ch
  gi_wp2
  exact ch
 case body=>
  rintro gK U ⟨f,m,fB⟩ W hI ⟨fg,⟨fh,fi⟩,fj,dw⟩ cW
  simp only at fg fh fi fj dw
  obtain⟨ba,cc,jD,fo,dM,cy⟩:=hI.wk
  have cu:(cols.map (Jbx f (f+m))).length=cols.length:=by rw[Oa6]
  have dO:∀ j,j<(cols.map (Jbx f (f+m))).length→∀ cJ o,(Yo (Jnt hs cols.length f (f+m)) j).1=some ⟨cJ,o,none⟩→cJ<w.heap.size:=fun j H cJ o e=>by
   rw[cu]at H
   rcases R.out.1.vals j H with h0|⟨bj,bT,dh,cQ,_⟩
   ·have:=R.out.2.1 j H
    rw[h0]at this
    simp at this
    omega
   rw[Jmn H dh e]
   exact cQ
  have hcut:∀ j,j<(cols.map (Jbx f (f+m))).length→((cols.map (Jbx f (f+m))).getD j []).length=m:=fun j H=>by
   rw[cu]at H
   rw[Oa0,Ob1,Oa3 H]
   have:=R.out.2.1 j H
   rw[Oa0,Oa3 H]at this
   simp only[Option.map_some,Option.getD_some]at this ⊢
   rw[Jca (by omega)]
   omega
  have dp:=hI.keep
  have fR:=Jm bY.out.1.d
  have gq:=Jm bY.out.1.o
  simp only at fR gq
  have cU:=Jx4 w.heap.size (w.heap.size+3) ex ba cc jD fo dM fB cols.length (Jnt hs cols.length f (f+m)) (cols.map (Jbx f (f+m))) f m [e] cb cB W cy hI.exs.at (by rw[cu];exact dB.out.2) (by simp) ⟨by omega,fun j H=>dw.row.cell H,dw.vals,fun j H cJ o e=>by have:=dO j H cJ o e;omega⟩ (by rw[cu];exact gD) hcut dO (fun i hi v gB=>by rw[Yw cols f m i hi]at gB;exact R.out.2.2.1 (f+i) (by omega) v gB) (by omega) (by omega) ⟨dp.cell bY.out.1.d (fun e=>bY.out.2.1 e.symm),dp.cell bY.out.1.o (fun e=>bY.out.2.2 e.symm)⟩ dp.size ⟨by omega,by omega⟩
  rw[cu]at cU
  have cw:W.cell? ⟨z,0,none⟩=some (.pointer (some ⟨w.heap.size+3,0,none⟩)):=by simp[World.cell?,hI.bw]
  have C:Hid (Jir w E A l (z+4) (w.heap.size+3) z (z+1) ex e cols (U.map fun x=>(x.1,x.2.1)) W):=hI
  have cD:Hid (f+m≤N∧1≤m∧m≤E∧bi.heap.size≤fB∧U.length<ckN N E):=⟨fg,fh,fi,fj,cW⟩
  have bO:Hid (bi.heap.size=z+4∧A<w.heap.size):=⟨bG,cn⟩
  clear hI fg fh fi fj dw cW cy dO hcut cu fR gq dp bB bG bN
  by_cases fP:∀ i,i<m→Kr [e] (Ji (cols.map (Jbx f (f+m))) i)=0
  ·have dZ:=cU.mono fun e w' h=>h.ok fP
   clear cU
   have bB:=bx.out
   have cS:=C.out.low
   have da:=C.out.keep.size
   obtain⟨bX,gh,gg⟩:=C.out.bk
   have gs:∀ (sv:Value) (bH:List (Option Addr×Nat×List V)) (y:World),Ju (·=w.heap.size+3) W y→Jo y W.heap.size 58 sv (bH.map slV)→bH.length=[e].length→(∀ q∈bH,Jv y q.1 q.2.2∧q.2.2.length=m)→(∀ q∈bH,∀ g o,q.1=some ⟨g,o,none⟩→g≠w.heap.size+3∧g<y.heap.size∧(g<w.heap.size∨W.heap.size≤g))→(∀ i,i<m→∀ k bc,[e][k]?=some bc→Kl bc (Ji (cols.map (Jbx f (f+m))) i)=.inl (((bH.map (·.2.2)).getD k []).getD i Jf)) →
     ∃ (g2 cp bj bT c0:Nat) (bI:List V),sv=.slice (some ⟨g2,0,none⟩) 1 cp∧Hid (W.heap.size≤g2)∧y.cell? ⟨g2,0,none⟩=some (.slice (some ⟨bj,bT,none⟩) m c0)∧Hid (bI.length=m∧bj<y.heap.size∧(∀ i v,bI[i]?=some v→VAt y bj (bT+i*3) v)∧(bj<w.heap.size∨W.heap.size≤bj)∧∀ i (hi:i<bI.length),Kl e (Ji cols (f+i))=.inl bI[i]):=by
    intro sv bH y D cV cx cY cT dt
    have kn:=D.size
    obtain⟨g2,cp,gx,jm⟩:=Jcs (b:=w.heap.size+3) cV (by omega) (fun e=>by rw[e]at cx;simp at cx) (fun q fb=>(cY q fb).1) fun q fb g o e=>(cT q fb g o e).1
    match bH,cx with
    |[q],_=>
     obtain⟨jx,dq⟩:=cY q (Oc6.2 rfl)
     have gH:=cD.out
     rcases jx with h0|⟨bj,bT,dh,cM,du⟩
     ·rw[h0]at dq;simp at dq;omega
     have bD:=jm.cell 0 (by simp)
     have jo:W.heap.size≤g2∧g2<y.heap.size:=Je cV (by rw[gx];rfl)
     have jv:=cT q (Oc6.2 rfl) bj bT dh
     refine⟨g2,cp,bj,bT,q.2.1,q.2.2,gx,jo.1,?_,dq,cM,du,jv.2.2,fun i hi=>?_⟩
     ·rw[←dq,←dh];exact bD
     have:=dt i (by omega) 0 e rfl
     rw[Yw cols f m i (by omega)]at this
     rw[this]
     simp[hi]
   have gP:Hid _:=gs
   have bJ:Hid (W.heap[z+1]?=some (.cells #[bX] 22 (0,0))∧Jo W (z+4) 3 bX ((Jbe e cols (U.map fun x=>(x.1,x.2.1))).map nv)):=⟨gh,gg⟩
   clear gs gh gg bB cS da
   gi_wp2_with (refine⟨trivial,?_⟩;gi_at_call 117;refine(CallsIn.inRound gK (callsIn_wide.2 dZ)).mono ?_;rintro bc y ⟨sv,bH,rfl,D,dv,cV,cx,cY,cT,dt⟩;obtain⟨g2,cp,bj,bT,c0,bI,rfl,jL,jR,fw⟩:=gP.out sv bH y D cV cx cY cT dt;have bK:Hid (Ju (·=w.heap.size+3) W y∧∃ (ba:Value) (f n:Int) (fo dM:Value),Uz y (w.heap.size+3) ex ba f n fo dM):=⟨D,dv⟩;clear cV cx cY cT dt D dv)
   have ji:Jkb y (z+4) (z+1) bX (Jbe e cols (U.map fun x=>(x.1,x.2.1))++Jcd e cols f 0) bX y:=by
    have bB:=bx.out
    have cS:=C.out.low
    have da:=C.out.keep.size
    have D:=bK.out.1
    rw[Jwt,Od7]
    refine⟨(D.block _ (Jd bJ.out.1) (by show ¬ z+1=w.heap.size+3;omega)).trans bJ.out.1,Jl bJ.out.2 fun g e=>D.block g (Je bJ.out.2 e).2 (by have:=(Je bJ.out.2 e).1;show ¬ g=w.heap.size+3;omega),Oa2 _,rfl,rfl,rfl,fun _ _ _ _=>rfl,fun g e=>.inl e⟩
   have gb:(Jbe e cols (U.map fun x=>(x.1,x.2.1))).length≤100000:=by
    have K:=Jy6 e cols E (U.map fun x=>(x.1,x.2.1)) C.out.tot
    have bA:=cD.out
    have cf:=Jxx (N:=N) dx bA.2.2.2.2
    rw[Oa6]at K
    omega
   have gO:Hid ((Jbe e cols (U.map fun x=>(x.1,x.2.1))).length≤100000):=gb
   clear gb
   gi_loopw [46] (fun i wr=>∃ (j:Nat) (cA:Value),j≤m∧i=.int .i64 j∧Jkb y (z+4) (z+1) bX (Jbe e cols (U.map fun x=>(x.1,x.2.1))++Jcd e cols f j) cA wr) (fun i _=>m-(intOf i).toNat)
   case atStart=>exact⟨0,bX,Ob7 _,rfl,ji⟩
   case round=>
    obtain⟨j,cA,H,rfl,hF⟩:=hrel
    by_cases ju:j<m
    ·have dD:Hid (j<m):=ju
     obtain⟨cZ,cM,du,fM,ds⟩:=fw.out
     have dm:j<bI.length:=by omega
     have fe:wr.heap[bj]?=y.heap[bj]?:=hF.same bj cM (by have:=bx.out;have:=C.out.low;have:=C.out.keep.size;omega) (fun e=>by have:=Je bJ.out.2 e;have:=bx.out;omega)
     obtain⟨jH,jI,jJ⟩:=(du j bI[j] (Oa3 dm)).of_block fe
     have gv:=Jgd (ds j dm)
     have bS:=Jwn e cols f j
     rw[gv]at bS
     have fZ:=Jpg e cols f j
     have fU:=cD.out.1
     generalize bI[j]=v at jH jI jJ bS
     clear gv ds du
     by_cases K:v.n=1
     ·rw[if_pos K]at bS
      have dE:Hid _:=bS
      clear bS
      have gZ:(v.n==1)=true:=by simp[K]
      have gM:Hid (v.n=1):=K
      have dC:Hid (bI.length=m∧(Jcd e cols f j).length≤j∧f+m≤N):=⟨cZ,fZ,fU⟩
      clear K cZ dm cM fM fe fZ fU
      have dN:Boxed wr (z+1) 22 cA:=hF.bk
      have jt:=hF.own
      obtain⟨jB,jC,cr,_⟩:=jt.cells
      rw[Oa6]at cr
      obtain⟨dz,cP⟩:∃ dz,dz=(Jbe e cols (U.map fun x=>(x.1,x.2.1))++Jcd e cols f j).length:=⟨_,rfl⟩
      rw[←cP]at cr
      have jM:Hid (dz=(Jbe e cols (U.map fun x=>(x.1,x.2.1))++Jcd e cols f j).length):=cP
      clear cP
      subst cr
      have ck:(wr.alloc (.cells #[.int .i64 v.k,.int .i64 v.n,.string v.s] 49)).cell? ⟨z+1,0,none⟩=some (.slice jB dz jC):=by
       have:=(hF.box (.cells #[.int .i64 v.k,.int .i64 v.n,.string v.s] 49)).bk
       simp[World.cell?,this]
      have ka:wrap64 ((f:Int)+(j:Int))=((f+j:Nat):Int):=by have:=dC.out;unfold wrap64;omega
      obtain⟨jA,hi,jy,dc,cz⟩:=info_parts Zw
      have je:=hF.box (.cells #[.int .i64 v.k,.int .i64 v.n,.string v.s] 49)
      have fH:=je.box (.cells #[.int .i64 ((f+j:Nat):Int)] 3)
      have jY:(z+4)≤wr.heap.size:=by have:=C.out.low;have:=bK.out.1.size;have:=hF.size;omega
      have kc:(((Jbe e cols (U.map fun x=>(x.1,x.2.1))++Jcd e cols f j).map nv).length+1)*8≤140737488355328:=by rw[Oa6,Oa8];have:=dC.out;have:=gO.out;omega
      have fu:Hid (wrap64 ((j:Int)+1)=((j+1:Nat):Int)):=by have:=dD.out;have:=cD.out;show _=_;unfold wrap64;omega
      have gm:=Ua (wr.alloc (.cells #[.int .i64 v.k,.int .i64 v.n,.string v.s] 49)) (nv (f+j)) 3
      rw[Oa7]at gm
      gi_wp2_with (gi_at_builtin;go_must (refine wpListIn_append_own_at _ rfl _ _ 22 rfl (z+4) 3 jA _ 1 8 underlying22 hi jy dc cz rfl (by decide) _ _ _ rfl fH.own ⟨wr.heap.size+1,0,none⟩ 1 1 [nv (f+j)] rfl rfl gm (by intro u gA;simp at gA;subst gA;rfl) (by unfold maxLen;omega) (by omega) (by simp;omega) ?_);intro jG w4 gt jp _ jk;go_must (obtain⟨jf,fO⟩:=fH.more (kv':=jG) (w4:=w4) (by omega) (f+j) (by unfold Jo;rw[Oa8];exact gt) jp jk);go_must (obtain⟨jV,jQ,gC⟩:=ownsRow_succ gt);obtain⟨gL,gi⟩:∃ gL,gL=((Jbe e cols (U.map fun x=>(x.1,x.2.1))++Jcd e cols f j).map nv).length+1:=⟨_,rfl⟩;rw[←gi]at gC;clear gi;subst gC;have jO:=(show Boxed w4 (z+1) 22 _ from fO).cell;have jU:=(show Boxed w4 (z+1) 22 _ from fO).frozen)
      go_roundw
      case rel=>exact⟨j+1,_,dD.out,congrArg (Value.int IntKind.i64) fu.out,by rw[dE.out,←Od8];exact jf⟩
      case measure=>exact Kgc dD.out fu.out
     rw[if_neg K]at bS
     have dE:Hid _:=bS
     clear bS
     have gZ:(v.n==1)=false:=by simp[K]
     have gM:Hid (¬ v.n=1):=K
     have dC:Hid (bI.length=m):=cZ
     clear K cZ dm cM fM fe
     gi_wp2
     go_roundw
     case rel=>exact⟨j+1,cA,by omega,by go_num,by rw[dE.out];exact hF.box _⟩
     case measure=>simp[intOf];omega
    obtain rfl:j=m:=by omega
    gi_wp2
    have bB:=bx.out
    have cS:=C.out.low
    have da:=C.out.keep.size
    obtain⟨D,gS,cI,fm,jF,gW,dv⟩:=bK.out
    have dX:=D.size
    have jW:=hF.size
    have gH:=cD.out
    have bG:=bO.out
    have gn:∀ k,bX.ownBlock≠some k→k<W.heap.size→k≠z+1→k≠w.heap.size+3→wr.heap[k]?=W.heap[k]?:=fun k K bh bA cf=>by rw[hF.same k (by omega) bA K,D.block k bh cf]
    have bU:∀ k,k<z+4→k≠z+1→k≠w.heap.size+3→wr.heap[k]?=W.heap[k]?:=fun k K bh bA=>gn k (fun e=>by have:=Je bJ.out.2 e;omega) (by omega) bh bA
    have jq:Ju (·=A) w wr:=by
     have bl:=C.out.keep
     exact⟨hF.os.trans (D.os.trans bl.os),hF.tape.trans (D.tape.trans bl.tape),hF.output.trans (D.output.trans bl.output),by omega,fun k M bn=>(bU k (by omega) (by omega) (by omega)).trans (bl.block k M bn)⟩
    refine⟨⟨by omega,fun k o M bR bD=>?_⟩,⟨by omega,fun k M=>bU k (by omega) (by omega) (by omega)⟩,?_⟩
    ·rw[gn k (fun e=>?_) (Jd bR) (by omega) (by omega)]
     ·exact bR
     obtain⟨jS,jn⟩:=Ja4 bJ.out.2 e
     rw[jn]at bR
     cases bR
     simp[Obj.isCells]at bD
    show Jir w E A l (z+4) (w.heap.size+3) z (z+1) ex e cols (List.map (fun x=>(x.1,x.2.1)) (U++[_])) wr
    rw[Ob8]
    refine⟨(bU _ (by omega) (by omega) (by omega)).trans C.out.b1,(bU _ (by omega) (by omega) (by omega)).trans C.out.b2,(bU _ (by omega) (by omega) (by omega)).trans C.out.bw,⟨cA,hF.bk,?_⟩,⟨gS,cI,fm,jF,gW,?_⟩,C.out.exs.of_blocks (fun k K bh bA=>bU k (by omega) (by omega) bA),?_,⟨by omega,cS.2⟩,jq,?_,C.out.dl,(bU A (by omega) (by omega) (by omega)).trans C.out.dn⟩
    ·rw[Oe4,Oi4,Jw5]
     exact hF.own
    ·show wr.heap[w.heap.size+3]?=_
     rw[hF.same _ (by omega) (by omega) (fun e=>by have:=Je bJ.out.2 e;omega)]
     exact dv
    ·intro x O
     rw[Od2]at O
     rcases O with O|O
     ·exact C.out.tot x O
     simp only[Oe4,Oi4,Oc6]at O
     subst O
     exact gH.2.2.1
    intro x O i hi bc dR
    rw[Od2]at O
    rcases O with O|O
    ·exact C.out.run x O i hi bc dR
    simp only[Oe4,Oi4,Oc6]at O
    subst O
    rw[Oc6]at dR
    subst dR
    obtain⟨cZ,_,_,_,ds⟩:=fw.out
    exact⟨_,ds i (by simp only at hi;omega)⟩
  have dZ:=cU.mono fun e w' h=>h.bad fP
  clear cU
  have b2:=C.out.b2
  have b1:=C.out.b1
  gi_wp2_with (first|(refine⟨trivial,?_⟩;gi_at_call 117;refine(CallsIn.inRound gK (callsIn_wide.2 dZ)).mono ?_;rintro e y ⟨bf,dy,br,rfl,D,cv,dS,bn,db,dk⟩;have bz:=(D.block _ (Jd b1) (by show ¬ w.heap.size+1=w.heap.size+3;omega)).trans b1;have bC:=(D.block _ (Jd b2) (by show ¬ w.heap.size+2=w.heap.size+3;omega)).trans b2;have kh:y.cell? ⟨w.heap.size+1,0,none⟩=some (.slice none 0 0):=(by simp[World.cell?,bz]);have ki:y.frozen? ⟨w.heap.size+1,0,none⟩=false:=(by simp[World.frozen?,bz]);have kj:y.cell? ⟨w.heap.size+1+1,0,none⟩=some .nilIface:=(by simp[World.cell?,bC]);have kl:y.frozen? ⟨w.heap.size+1+1,0,none⟩=false:=(by simp[World.frozen?,bC]);have dA:Hid (y.heap[w.heap.size+1]?=some (.cells #[.slice none 0 0] 75 (0,0))∧y.heap[w.heap.size+1+1]?=some (.cells #[.nilIface] 77 (0,0))):=⟨bz,bC⟩;clear bz bC))
  have bB:=bx.out
  have jX:=C.out.low.1
  have da:=C.out.keep.size
  have bz:=Jk dA.out.1 0 (.slice none 0 0)
  have bC:=Jk dA.out.2 0 (Qv bf)
  simp only[Oa1,List.set_cons_zero]at bz bC
  have cF:((y.setCell ⟨w.heap.size+1,0,none⟩ (.slice none 0 0)).setCell ⟨w.heap.size+1+1,0,none⟩ (Qv bf)).heap[w.heap.size+1]?=some (.cells #[.slice none 0 0] 75 (0,0)):=by rw[Oa4 _ _ _ _ (by show w.heap.size+1≠w.heap.size+1+1;omega)];exact bz
  have cG:((y.setCell ⟨w.heap.size+1,0,none⟩ (.slice none 0 0)).setCell ⟨w.heap.size+1+1,0,none⟩ (Qv bf)).heap[w.heap.size+1+1]?=some (.cells #[Qv bf] 77 (0,0)):=by
   have:=Jk (w:=y.setCell ⟨w.heap.size+1,0,none⟩ (.slice none 0 0)) (b:=w.heap.size+1+1) (cs:=#[.nilIface]) (t:=77) (by rw[Oa4 _ _ _ _ (by show w.heap.size+1+1≠w.heap.size+1;omega)];exact dA.out.2) 0 (Qv bf)
   simpa only[Oa1,List.set_cons_zero] using this
  have bV:∀ k,k≠w.heap.size+1→k≠w.heap.size+1+1→((y.setCell ⟨w.heap.size+1,0,none⟩ (.slice none 0 0)).setCell ⟨w.heap.size+1+1,0,none⟩ (Qv bf)).heap[k]?=y.heap[k]?:=fun k K bh=>by rw[Oa4 _ _ _ _ bh,Oa4 _ _ _ _ K]
  have cX:((y.setCell ⟨w.heap.size+1,0,none⟩ (.slice none 0 0)).setCell ⟨w.heap.size+1+1,0,none⟩ (Qv bf)).heap.size=y.heap.size:=by simp[World.setCell]
  have dX:=D.size
  refine⟨⟨Ob2 dX (Oo0 cX.symm),fun k o M bR bD=>?_⟩,rfl,cF,⟨bf,dy,br,U.map (fun x=>(x.1,x.2.1)),(f,m),by rw[Ob8];rfl,cv,cG,by omega,?_,?_,C.out.run,fun i hi=>?_⟩,?_⟩
  ·have js:=Jd bR
   rw[bV k (by have:=bO.out;omega) (by have:=bO.out;omega),D.block k js (by show ¬ k=w.heap.size+3;have:=bO.out;omega)]
   exact bR
  ·rw[Yw cols f m br cv]at bn
   exact bn
  ·rw[Yw cols f m br cv]at db
   exact db.of_block (bV bf (by omega) (by omega))
  ·have:=dk i hi
   rwa [Yw cols f m i (by omega)]at this
  have bl:=C.out.keep
  refine⟨D.os.trans bl.os,D.tape.trans bl.tape,D.output.trans bl.output,Ob2 (Ob2 da dX) (Oo0 cX.symm),fun k M bn=>?_⟩
  rw[bV k (by omega) (by omega),D.block k (by omega) (by show ¬ k=w.heap.size+3;omega)]
  exact bl.block k M bn
 case done=>
  rintro X km W jc gJ hI ch
  rw[gJ]at hI
  obtain⟨cA,dN,dW⟩:=hI.bk
  rw[Jy8 e cols N E dx]at dW
  obtain⟨dG,fz,cr,ga⟩:=dW.cells
  rw[Oa6]at cr
  subst cr
  have bl:=hI.keep
  have fD:Qd W g hs cols:=R.out.1.kp (Fx:=fun k=>k<w.heap.size∧k≠A) ⟨bl.size,fun k M=>bl.block k M.1 M.2⟩ ⟨⟨R.out.2.2.2.2.1,R.out.2.2.2.1.1⟩,fun j H b o e=>⟨R.out.2.2.2.2.2 j H b o e,R.out.2.2.2.1.2 j H b o e⟩⟩
  have dY:((Yf e cols N).map fun (i:Nat)=>(i:Int)).length=(Yf e cols N).length:=by rw[Oa6]
  have cP:(Yf e cols N).length≤N:=by
   unfold Yf
   have:=Ok1 (fun i=>decide ((pv1 e (Ji cols i)).n=1)) (List.range N)
   simpa using this
  have gu:=Jzq g cap hs cols N dG fz ((Yf e cols N).map fun (i:Nat)=>(i:Int)) W fD R.out.2.1 (by
   show Uh W dG _
   rw[Oi6]
   exact ga) (fun m cv=>by
   rw[Of0]at cv
   obtain⟨i,hi,rfl⟩:=cv
   have:i<N:=by
    unfold Yf at hi
    rw[Om0,Oj4]at hi
    exact hi.1
   exact .inr ⟨by omega,by omega⟩) gE (by rw[dY];omega)
  rw[dY]at gu
  have jP:W.cell? ⟨z+1,0,none⟩=some (.slice dG (Yf e cols N).length fz):=by simp[World.cell?,dN]
  have C:Hid (Jir w E A l (z+4) (w.heap.size+3) z (z+1) ex e cols (cks N E (ckN N E)) W):=hI
  have bO:Hid (bi.heap.size=z+4∧A<w.heap.size):=⟨bG,cn⟩
  have fv:Hid (W.heap[X]?=some (.deferred (some []))):=ch
  clear hI gJ dW dN ga dY cP bB bG bN bl fD
  go_wp2_with (go_at_call 118;refine gu.mono ?_;rintro bc y ⟨cN,rfl,jw,dQ,gj⟩;have bz:=(cN.block _ (Jd C.out.b1)).trans C.out.b1;have bC:y.heap[w.heap.size+1+1]?=some (.cells #[.nilIface] 77 (0,0)):=(cN.block _ (Jd C.out.b2)).trans C.out.b2;have c2:y.cell? ⟨w.heap.size+1,0,none⟩=some (.slice none 0 0):=(by simp[World.cell?,bz]);have df:y.frozen? ⟨w.heap.size+1,0,none⟩=false:=(by simp[World.frozen?,bz]);have c3:y.cell? ⟨w.heap.size+1+1,0,none⟩=some .nilIface:=(by simp[World.cell?,bC]);have jT:y.frozen? ⟨w.heap.size+1+1,0,none⟩=false:=(by simp[World.frozen?,bC]);clear bz bC)
  have bB:=bx.out
  have bG:=bO.out
  have cS:=C.out.low
  have jd:X<W.heap.size:=(Oe2.1 fv.out).1
  have jh:=(cN.block X jd).trans fv.out
  have fI:=((KeepsOthers.setCell y ⟨w.heap.size+1,0,none⟩ (.slice (some ⟨W.heap.size,0,none⟩) cols.length cols.length)).trans (KeepsOthers.setCell _ ⟨w.heap.size+1+1,0,none⟩ .nilIface)).same X _ jh rfl
  refine⟨by simp,.inl ⟨_,_,rfl,run_takeDeferred fI,?_⟩⟩
  have g2:((y.setCell ⟨w.heap.size+1,0,none⟩ (.slice (some ⟨W.heap.size,0,none⟩) cols.length cols.length)).setCell ⟨w.heap.size+1+1,0,none⟩ .nilIface).cell? ⟨w.heap.size+1,0,none⟩=some (.slice (some ⟨W.heap.size,0,none⟩) cols.length cols.length):=by
   rw[Ob5 _ _ _ _ (by simp)]
   exact Oj0 _ _ _ (by rw[c2];rfl)
  have gY:((y.setCell ⟨w.heap.size+1,0,none⟩ (.slice (some ⟨W.heap.size,0,none⟩) cols.length cols.length)).setCell ⟨w.heap.size+1+1,0,none⟩ .nilIface).cell? ⟨w.heap.size+1+1,0,none⟩=some .nilIface:=
   Oj0 _ _ _ (by rw[Ob5 _ _ _ _ (by simp),c3];rfl)
  have bW:∀ r,some X=some r→∃ o:Obj,((y.setCell ⟨w.heap.size+1,0,none⟩ (.slice (some ⟨W.heap.size,0,none⟩) cols.length cols.length)).setCell ⟨w.heap.size+1+1,0,none⟩ .nilIface).heap[r]?=some o∧o.isCells=false:=fun r e=>by cases e;exact⟨_,fI,rfl⟩
  have bV:∀ k,k≠w.heap.size+1→k≠w.heap.size+1+1→((y.setCell ⟨w.heap.size+1,0,none⟩ (.slice (some ⟨W.heap.size,0,none⟩) cols.length cols.length)).setCell ⟨w.heap.size+1+1,0,none⟩ .nilIface).heap[k]?=y.heap[k]?:=fun k K bh=>by rw[Oa4 _ _ _ _ bh,Oa4 _ _ _ _ K]
  have cX:((y.setCell ⟨w.heap.size+1,0,none⟩ (.slice (some ⟨W.heap.size,0,none⟩) cols.length cols.length)).setCell ⟨w.heap.size+1+1,0,none⟩ .nilIface).heap.size=y.heap.size:=by simp[World.setCell]
  have D:Ju (·=A) w y:=C.out.keep.trans (Ju.of_below cN)
  have jr:Ju (·=A) w ((y.setCell ⟨w.heap.size+1,0,none⟩ (.slice (some ⟨W.heap.size,0,none⟩) cols.length cols.length)).setCell ⟨w.heap.size+1+1,0,none⟩ .nilIface):=⟨D.os,D.tape,D.output,Ob2 D.size (Oo0 cX.symm),fun k M bn=>(bV k (by omega) (by omega)).trans (D.block k M bn)⟩
  have fk:=cell_kept g2 (grownBy_putObj' _ X (.deferred none)) bW
  have fl:=cell_kept gY (grownBy_putObj' _ X (.deferred none)) bW
  have dP:=CK.of_grown (grownBy_putObj' _ X (.deferred none)) bW
  refine⟨.tuple #[(.slice (some ⟨W.heap.size,0,none⟩) cols.length cols.length),.nilIface],by simp[results,Tryz.f82,go_sem,fk,fl],?_⟩
  refine⟨Jau jr (grownBy_putObj' _ X (.deferred none)) (fun r e=>by cases e;omega),.inl ⟨W.heap.size,jw,rfl,by omega,?_,fun i hi=>?_,fun j H b o e=>⟨Ob2 C.out.keep.size (gj j H b o e).1,Oc2 (gj j H b o e).2 (Ob2 (Oo0 cX.symm) (grownBy_putObj' _ X (.deferred none)).size)⟩,(World.putObj_heap_other (by omega)).trans ((bV A (by omega) (by omega)).trans ((cN.block A (by omega)).trans C.out.dn))⟩⟩
  ·have gT:(y.setCell ⟨w.heap.size+1,0,none⟩ (.slice (some ⟨W.heap.size,0,none⟩) cols.length cols.length)).cell? ⟨w.heap.size+1+1,0,none⟩=some .nilIface:=Uc (by simp) c3
   exact Qd.ck ⟨dQ.row.of_block (bV W.heap.size (by omega) (by omega)),fun j H=>((dQ.vals j H).setBox c2 (fun n e=>by cases e) (fun s e=>by cases e)).setBox gT (fun n e=>by cases e) (fun s e=>by cases e),dQ.cap⟩ dP
  obtain⟨x,O,t,ff,rfl⟩:=Jgt N E (ckN N E) i (by rw[Ol4 (Jcy dx)];exact hi)
  exact C.out.run x O t ff e (Oc6.2 rfl)
 case stop=>
  rintro X c U W jc ⟨k,M,cW⟩ ⟨rfl,cK⟩ ch
  rw[cW]at cK
  obtain⟨bf,dy,br,bH,x,dr,kd,ci,dS,bn,db,fN,dk⟩:=cK.err
  have c2:W.cell? ⟨w.heap.size+1,0,none⟩=some (.slice none 0 0):=by simp[World.cell?,cK.b1]
  have fy:W.heap[w.heap.size+1+1]?=some (.cells #[Qv bf] 77 (0,0)):=ci
  have c3:W.cell? ⟨w.heap.size+1+1,0,none⟩=some (Qv bf):=by simp[World.cell?,fy]
  have gR:Hid (Ju (·=A) w W):=cK.keep
  have fc:x.1+br<N∧∀ i,i<x.1+br→∀ bc∈[e],∃ v,Kl bc (Ji cols i)=.inl v:=by
   cases k with
   |zero=>simp[cks]at dr
   |succ k=>
    rw[Jbj]at dr
    obtain⟨K,bh⟩:=List.append_inj' dr rfl
    simp only[List.cons.injEq,and_true]at bh
    have cF:x.1=k*E:=by rw[←bh];rfl
    have cG:x.2=min E (N-k*E):=by rw[←bh];rfl
    refine⟨by omega,fun i hi bc fS=>?_⟩
    by_cases kb:i<k*E
    ·obtain⟨jK,gI,t,ff,rfl⟩:=Jgt N E k i (by omega)
     rw[K]at gI
     exact fN jK gI t ff bc fS
    have:=dk (i-x.1) (by omega) bc fS
    rwa [show x.1+(i-x.1)=i by omega]at this
  have gQ:Hid (x.1+br<N∧(∀ i,i<x.1+br→∀ bc∈[e],∃ v,Kl bc (Ji cols i)=.inl v)∧Kr [e] (Ji cols (x.1+br))≠0∧Ja8 W bf ((x.1+br:Nat):Int) dy (Jdb cb cB (Kr [e] (Ji cols (x.1+br))))∧w.heap.size≤bf):=⟨fc.1,fc.2,bn,db,dS⟩
  have bO:Hid (bi.heap.size=z+4∧A<w.heap.size):=⟨bG,cn⟩
  clear cK cW dr fc bn db fN dk ci fy bB bG bN dS
  gi_wp2
  have bB:=bx.out
  have bG:=bO.out
  have bW:∀ r,some X=some r→∃ o:Obj,W.heap[r]?=some o∧o.isCells=false:=fun r e=>by cases e;exact⟨_,ch,rfl⟩
  refine⟨by simp,.inl ⟨_,_,rfl,run_takeDeferred ch,?_⟩⟩
  have fk:=cell_kept c2 (grownBy_putObj' _ X (.deferred none)) bW
  have fl:=cell_kept c3 (grownBy_putObj' _ X (.deferred none)) bW
  have dP:=CK.of_grown (grownBy_putObj' W X (.deferred none)) bW
  refine⟨.tuple #[.slice none 0 0,Qv bf],by simp[results,Tryz.f82,go_sem,fk,fl],?_⟩
  obtain⟨K,bh,bA,cf,ja⟩:=gQ.out
  exact⟨Jau gR.out (grownBy_putObj' _ X (.deferred none)) (fun r e=>by cases e;omega),.inr ⟨bf,dy,x.1+br,rfl,K,ja,bA,dP.cells _ _ _ _ cf,bh⟩⟩
end Go.Proofs.YtjjdldddcegjiaaGreatDoor
