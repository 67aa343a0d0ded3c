/- The law Checks, walked: it answers true, whatever the tables and the plan. -/
import Derived.Test.YtkgibdjakgmmcaaGreatDoorWr
set_option maxHeartbeats 1000000
set_option maxRecDepth 100000
namespace Go.Proofs.YtkgibdjakgmmcaaGreatDoor
open Go.RowKit Go.Shelf
attribute [local go_sem] Oper.semAt_some
def fltNs:List QN:=[⟨0,0,0,⟨#[116]⟩,[],[],0⟩,⟨1,0,0,⟨#[]⟩,[[⟨1,0,0,1,⟨1,1,⟨#[]⟩⟩⟩,⟨0,0,0,0,⟨0,0,⟨#[]⟩⟩⟩,⟨7,0,1,0,⟨0,0,⟨#[]⟩⟩⟩]],[],0⟩]
theorem flt_sz:PlnSz fltNs:=by
 refine⟨by decide,fun n hn=>?_⟩
 simp[fltNs]at hn
 rcases hn with rfl|rfl
 ·exact⟨by decide,by decide,by simp⟩
 refine⟨by decide,by decide,fun es hes=>?_⟩
 simp at hes
 subst hes
 decide
theorem flt_at {w:World}{b1 b2 b3:Nat}(h1:w.heap[b1]?=some (.cells #[.int .i64 1,.int .i64 0,.int .i64 0,.int .i64 1,.int .i64 1,.int .i64 1,.string ⟨#[]⟩,.int .i64 0,.int .i64 0,.int .i64 0,.int .i64 0,.int .i64 0,.int .i64 0,.string ⟨#[]⟩,.int .i64 7,.int .i64 0,.int .i64 1,.int .i64 0,.int .i64 0,.int .i64 0,.string ⟨#[]⟩] 63 (0,0)))(h2:w.heap[b2]?=some (.cells #[.slice (some ⟨b1,0,none⟩) 3 3] 64 (0,0)))(h3:w.heap[b3]?=some (.cells #[.int .i64 0,.int .i64 0,.int .i64 0,.string ⟨#[116]⟩,.slice none 0 0,.slice none 0 0,.int .i64 0,.int .i64 1,.int .i64 0,.int .i64 0,.string ⟨#[]⟩,.slice (some ⟨b2,0,none⟩) 1 1,.slice none 0 0,.int .i64 0] 68 (0,0))) :
  PlnAt w (some ⟨b3,0,none⟩) [⟨0,0,0,⟨#[116]⟩,(none,0,0),(none,0,0),0⟩,⟨1,0,0,⟨#[]⟩,(some ⟨b2,0,none⟩,1,1),(none,0,0),0⟩] fltNs:=by
 refine⟨rfl,fun j nd hj=>⟨b3,0,rfl,?_⟩,fun j nd n hj hn=>?_⟩
 ·rcases j with _|_|j<;>simp at hj<;>subst hj<;>refine⟨?_,?_,?_,?_,?_,?_,?_⟩<;>simp[World.cell?,h3]
 rcases j with _|_|j<;>simp[fltNs]at hj hn<;>subst hj hn
 ·exact⟨rfl,rfl,rfl,rfl,rfl,rfl,fun j es h=>by simp at h,rfl,fun j k h=>by simp at h⟩
 refine⟨rfl,rfl,rfl,rfl,rfl,rfl,fun j es h=>?_,rfl,fun j k h=>by simp at h⟩
 rcases j with _|j<;>simp at h
 subst h
 refine⟨b2,0,some ⟨b1,0,none⟩,3,rfl,by simp[World.cell?,h2],fun k p hk=>⟨b1,0,rfl,?_⟩⟩
 rcases k with _|_|_|k<;>simp at hk<;>subst hk<;>refine⟨?_,?_,?_,?_,?_,?_,?_⟩<;>simp[World.cell?,h1]
theorem lFiltered_any (w:World):Calls Tryz.prog 6 #[] w fun e w'=>Below w.heap.size w w'∧∃ b nds,e=.returned (.agg #[.slice (some ⟨b,0,none⟩) 2 2])∧PlnAt w' (some ⟨b,0,none⟩) nds fltNs:=by
 go_enter Tryz.func6,Tryz.ntmps6
 go_upto_region 2 with fail
 obtain⟨W,hW⟩:∃ W,W=(w.alloc (.cells #[.slice none 0 0] 25)).alloc (.cells #[.int .i64 1,.int .i64 0,.int .i64 0,.int .i64 1,.int .i64 1,.int .i64 1,.string ⟨#[]⟩,.int .i64 0,.int .i64 0,.int .i64 0,.int .i64 0,.int .i64 0,.int .i64 0,.string ⟨#[]⟩,.int .i64 7,.int .i64 0,.int .i64 1,.int .i64 0,.int .i64 0,.int .i64 0,.string ⟨#[]⟩] 63):=⟨_,rfl⟩
 rw[←hW]
 have hWz:W.heap.size=w.heap.size+2:=by rw[hW];simp
 have HW:Hid (Below w.heap.size w W∧W.heap[w.heap.size]?=some (.cells #[.slice none 0 0] 25 (0,0))∧W.heap[w.heap.size+1]?=some (.cells #[.int .i64 1,.int .i64 0,.int .i64 0,.int .i64 1,.int .i64 1,.int .i64 1,.string ⟨#[]⟩,.int .i64 0,.int .i64 0,.int .i64 0,.int .i64 0,.int .i64 0,.int .i64 0,.string ⟨#[]⟩,.int .i64 7,.int .i64 0,.int .i64 1,.int .i64 0,.int .i64 0,.int .i64 0,.string ⟨#[]⟩] 63 (0,0))):=by
  rw[hW]
  refine⟨((Below.refl _ w).alloc (Nat.le_refl _) _).alloc (by simp) _,?_,new_at _ _ _ (by simp only[World.size_alloc])⟩
  rw[Below.heap_alloc _ _ _ (by simp only[World.size_alloc];omega)]
  exact heap_alloc_new _ _
 clear hW
 have c0:W.cell? ⟨w.heap.size,0,none⟩=some (.slice none 0 0):=by simp[World.cell?,HW.out.2.1]
 have z0:W.frozen? ⟨w.heap.size,0,none⟩=false:=by simp[World.frozen?,HW.out.2.1]
 have i0:w.heap.size<W.heap.size:=by omega
 go_wp2
 obtain⟨X,hX⟩:∃ X,X=W.setCell ⟨w.heap.size,0,none⟩ (.slice (some ⟨w.heap.size+2+1,0,none⟩) 2 2):=⟨_,rfl⟩
 rw[←hX]
 have hx0:X.heap[w.heap.size]?=some (.cells #[.slice (some ⟨w.heap.size+2+1,0,none⟩) 2 2] 25 (0,0)):=by rw[hX,heap_setCell_same _ _ _ _ _ _ HW.out.2.1];rfl
 have ho1:X.heap[w.heap.size+1]?=W.heap[w.heap.size+1]?:=by rw[hX];exact heap_setCell_other _ _ _ _ (by show w.heap.size+1≠w.heap.size;omega)
 have hx1:=ho1.trans HW.out.2.2
 have hxz:X.heap.size=w.heap.size+2:=by rw[hX];simp[World.setCell];exact hWz
 have hbX:Below w.heap.size w X:=by rw[hX];exact HW.out.1.setCell (p:=⟨w.heap.size,0,none⟩) (Nat.le_refl _) _
 obtain⟨Y,hY⟩:∃ Y,Y=(X.alloc (.cells #[.slice (some ⟨w.heap.size+1,0,none⟩) 3 3] 64)).alloc (.cells #[.int .i64 0,.int .i64 0,.int .i64 0,.string ⟨#[116]⟩,.slice none 0 0,.slice none 0 0,.int .i64 0,.int .i64 1,.int .i64 0,.int .i64 0,.string ⟨#[]⟩,.slice (some ⟨w.heap.size+2,0,none⟩) 1 1,.slice none 0 0,.int .i64 0] 68):=⟨_,rfl⟩
 rw[←hY]
 have hbY:Below X.heap.size X Y:=by rw[hY];exact((Below.refl _ _).alloc (Nat.le_refl _) _).alloc (by simp) _
 have hy0:=(hbY.block w.heap.size (by omega)).trans hx0
 have hy1:=(hbY.block (w.heap.size+1) (by omega)).trans hx1
 have hy2:Y.heap[w.heap.size+2]?=some (.cells #[.slice (some ⟨w.heap.size+1,0,none⟩) 3 3] 64 (0,0)):=by
  rw[hY,Below.heap_alloc _ _ _ (by simp only[World.size_alloc];omega)]
  exact new_at _ _ _ hxz.symm
 have hy3:Y.heap[w.heap.size+2+1]?=some (.cells #[.int .i64 0,.int .i64 0,.int .i64 0,.string ⟨#[116]⟩,.slice none 0 0,.slice none 0 0,.int .i64 0,.int .i64 1,.int .i64 0,.int .i64 0,.string ⟨#[]⟩,.slice (some ⟨w.heap.size+2,0,none⟩) 1 1,.slice none 0 0,.int .i64 0] 68 (0,0)):=by
  rw[hY]
  exact new_at _ _ _ (by simp only[World.size_alloc];omega)
 exact bodyPost_ret (v:=.agg #[.slice (some ⟨w.heap.size+2+1,0,none⟩) 2 2]) (by simp[results,Tryz.results6,go_sem,World.cell?,hy0]) rfl ⟨below_then hbX hbY,_,_,rfl,flt_at hy1 hy2 hy3⟩
theorem checks_any (la:Option Addr)(lc:Nat)(L:List Dx)(a:Option Addr)(nc:Nat)(nds:List Nd)(ns:List QN)(w:World)(hL:DxsAt w la L)(hl:L.length≤1000000000000000)(hP:PlnAt w a nds ns)(hz:PlnSz ns)(a0 a1 a2 tt q wr_ pg pl ex ta:Addr)(hN:Names w a0 a1 a2 tt q wr_ pg pl ex ta) :
  Calls Tryz.prog 3 #[.slice la L.length lc,.agg #[.slice a ns.length nc]] w fun e w'=>e=.returned (.bool true)∧Below w.heap.size w w':=by
 have HH:Hid (DxsAt w la L∧PlnAt w a nds ns∧PlnSz ns∧Names w a0 a1 a2 tt q wr_ pg pl ex ta∧L.length≤1000000000000000):=⟨hL,hP,hz,hN,hl⟩
 clear hL hP hz hN
 go_enter Tryz.func3,Tryz.ntmps3
 go_upto_region 1 with fail
 obtain⟨W,hW⟩:∃ W,W=w.alloc (.cells #[.slice a ns.length nc] 25):=⟨_,rfl⟩
 rw[←hW]
 have hbW:Below w.heap.size w W:=by rw[hW];exact(Below.refl _ w).alloc (Nat.le_refl _) _
 have hWb:W.heap[w.heap.size]?=some (.cells #[.slice a ns.length nc] 25 (0,0)):=by rw[hW];exact heap_alloc_new _ _
 have HW:Hid (Below w.heap.size w W∧W.heap[w.heap.size]?=some (.cells #[.slice a ns.length nc] 25 (0,0))):=⟨hbW,hWb⟩
 clear hW hbW hWb
 have hk:=lKnown_any W a0 a1 a2 tt q wr_ pg pl ex ta (HH.out.2.2.2.1.below HW.out.1)
 go_upto_region 4 with(go_at_call 4;refine hk.mono ?_;rintro e w1 ⟨D1,T1,hb1,pb1,sx1,sy1,M1,N1,n1,rfl,hp1,_⟩)
 clear hk
 have HB1:Hid (Below W.heap.size W w1∧PairAt w1 pb1 sx1 sy1 M1 N1 D1 T1 n1∧Below w.heap.size w w1):=⟨hb1,hp1,below_then HW.out.1 hb1⟩
 clear hb1 hp1
 go_wp2_with fail
 refine(lFiltered_any w1).mono ?_
 rintro e w2 ⟨hb2,fb,fnds,rfl,hfp⟩
 have hck:=lCheck_any pb1 sx1 sy1 M1 N1 D1 T1 n1 (some ⟨fb,0,none⟩) 2 fnds fltNs w2 (HB1.out.2.1.below hb2) hfp flt_sz a0 a1 a2 tt q wr_ pg pl ex ta (HH.out.2.2.2.1.below (below_then HB1.out.2.2 hb2))
 have HB2:Hid (Below W.heap.size W w2∧Below w.heap.size w w2):=⟨below_then HB1.out.1 hb2,below_then HB1.out.2.2 hb2⟩
 clear hb2 hfp
 go_upto_region 5 with(go_at_call 5;refine hck.mono ?_;rintro e w3 ⟨hb3,lv,rfl⟩)
 clear hck
 have HB3:Hid (Below W.heap.size W w3∧Below w.heap.size w w3):=⟨below_then HB2.out.1 hb3,below_then HB2.out.2 hb3⟩
 clear hb3
 go_wp2_with fail
 refine(lRoom_any w3).mono ?_
 rintro e w4 ⟨rfl,hb4⟩
 have HB4:Hid (Below W.heap.size W w4∧Below w.heap.size w w4):=⟨below_then HB3.out.1 hb4,below_then HB3.out.2 hb4⟩
 clear hb4
 have hbg:=lBegun_any la lc L w4 (fun i d hi=>by
  obtain⟨q1,b,o,e,q2,q3,q4,q5,q6⟩:=HH.out.1 i d hi
  exact⟨q1.below HB4.out.2,b,o,e,cell_below HB4.out.2 q2,cell_below HB4.out.2 q3,cell_below HB4.out.2 q4,cell_below HB4.out.2 q5,cell_below HB4.out.2 q6⟩) HH.out.2.2.2.2 a0 a1 a2 tt q wr_ pg pl ex ta (HH.out.2.2.2.1.below HB4.out.2)
 go_upto_region 8 with(go_at_call 7;refine hbg.mono ?_;rintro e w5 ⟨hb5,pb,sx,sy,M,N,n,rfl,hp5,_⟩)
 clear hbg
 have HB5:Hid (Below W.heap.size W w5∧Below w.heap.size w w5):=⟨below_then HB4.out.1 hb5,below_then HB4.out.2 hb5⟩
 have hbx:=(HB5.out.1.block _ (lt_of_heap HW.out.2)).trans HW.out.2
 have c0:w5.cell? ⟨w.heap.size,0,none⟩=some (.slice a ns.length nc):=by simp[World.cell?,hbx]
 have hc2:=lCheck_any pb sx sy M N _ _ n a nc nds ns w5 hp5 (HH.out.2.1.below HB5.out.2) HH.out.2.2.1 a0 a1 a2 tt q wr_ pg pl ex ta (HH.out.2.2.2.1.below HB5.out.2)
 clear hb5 hp5 hbx
 go_wp2_with (go_at_call 5;refine hc2.mono ?_;rintro e w6 ⟨hb6,lv6,rfl⟩)
 go_ret
 exact⟨rfl,below_then HB5.out.2 hb6⟩
end Go.Proofs.YtkgibdjakgmmcaaGreatDoor
