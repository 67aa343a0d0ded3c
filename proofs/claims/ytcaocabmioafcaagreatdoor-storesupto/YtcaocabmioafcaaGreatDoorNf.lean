/- A step of the law's script of the kind 6. -/
import Derived.Test.YtcaocabmioafcaaGreatDoorQl
set_option maxHeartbeats 2000000
set_option maxRecDepth 100000
namespace Go.Proofs.YtcaocabmioafcaaGreatDoor
open Go.RowKit Go.Shelf Tryz
attribute [local go_sem] Oc0
theorem Qbc (o:Opx)(wb pa bf p R L u:Nat)(O M br:Nat→Prop)(D:DS)(bh:List TS)(P:List RP)(Rs:List RTb)(bO:Int)(bM:Ksl)(G:Nat→Prop)(w bj:World)(ba:Kt4 o bj wb pa bf p R L u O M br D bh P Rs bO bM G w)(bi:p=if bits BinOp.and IntKind.i64 o.h 1=1 then bf else pa)(cH:o.kind=6)(bu bx bz bJ q bK pg pl ex bI:Addr)(bD:Jax bj bu bx bz bJ q bK pg pl ex bI) :
  Calls prog 8 #[.pointer (some ⟨wb,0,none⟩),o.val] w fun e w'=>e=.returned (.bool true)∧Kst w wb pa bf p R L O M br (u+1000) D.writes w':=by
 unfold Opx.val
 rw[cH]
 go_enter func8,ntmps8
 go_upto_region 1 with fail
 obtain⟨H,bE⟩:∃ H,H=w.alloc (.cells #[.int .i64 6,.int .i64 o.h,.int .i64 o.a,.int .i64 o.b,.int .i64 o.c,.string o.s,.string o.d.name,.slice o.d.at_ o.d.ts.length o.d.ct,.slice o.d.ar o.d.rs.length o.d.cr,.slice o.d.ah o.d.hs.length o.d.ch,.int .i64 o.d.g,.slice o.pa o.pl o.pc,.int .i64 o.o0,.int .i64 o.o1,.int .i64 o.o2,.int .i64 o.o3] 40):=⟨_,rfl⟩
 rw[←bE]
 have HZ:Hid (Below w.heap.size w H∧H.heap.size=w.heap.size+1∧H.heap[w.heap.size]?=some (.cells #[.int .i64 6,.int .i64 o.h,.int .i64 o.a,.int .i64 o.b,.int .i64 o.c,.string o.s,.string o.d.name,.slice o.d.at_ o.d.ts.length o.d.ct,.slice o.d.ar o.d.rs.length o.d.cr,.slice o.d.ah o.d.hs.length o.d.ch,.int .i64 o.d.g,.slice o.pa o.pl o.pc,.int .i64 o.o0,.int .i64 o.o1,.int .i64 o.o2,.int .i64 o.o3] 40 (0,0))):=by
  rw[bE]
  exact⟨(Oa5 _ w).alloc (Oa2 _) _,by simp,heap_alloc_new _ _⟩
 clear bE
 have J:Hid (Kt4 o bj wb pa bf p R L u O M br D bh P Rs bO bM G H∧Jax H bu bx bz bJ q bK pg pl ex bI∧Jax bj bu bx bz bJ q bK pg pl ex bI):=by
  obtain⟨cz,cA,cB,cC,cD,bP,cE,cF,cG⟩:=ba
  exact⟨⟨cz.below HZ.out.1,cA.below HZ.out.1,cB,cC,cD,Jb bP HZ.out.1,cE,cF,cG⟩,bD.below (Jb bP HZ.out.1),bD⟩
 have X:Hid (¬ O w.heap.size∧¬ M w.heap.size∧p<w.heap.size):=⟨fun bc=>by have:=ba.1.x.lt _ bc;omega,fun bc=>by have:=ba.1.y.lt _ bc;omega,Jd ba.1.cells⟩
 clear ba bD
 have bH:=J.out.1.2.1.law.cells
 have bG:=J.out.1.1.cells
 have ca:H.cell? ⟨wb,0,none⟩=some (.pointer (some ⟨pa,0,none⟩)):=by simp[World.cell?,bH]
 have cb:H.cell? ⟨wb,1,none⟩=some (.pointer (some ⟨bf,0,none⟩)):=by simp[World.cell?,bH]
 have bX:H.cell? ⟨p,0,none⟩=some (.pointer (some ⟨R,0,none⟩)):=by simp[World.cell?,bG]
 have bY:H.cell? ⟨p,1,none⟩=some (.pointer (some ⟨L,0,none⟩)):=by simp[World.cell?,bG]
 have c0:H.cell? ⟨w.heap.size,0,none⟩=some (.int .i64 6):=by simp[World.cell?,HZ.out.2.2]
 have c1:H.cell? ⟨w.heap.size,1,none⟩=some (.int .i64 o.h):=by simp[World.cell?,HZ.out.2.2]
 have c2:H.cell? ⟨w.heap.size,2,none⟩=some (.int .i64 o.a):=by simp[World.cell?,HZ.out.2.2]
 have c3:H.cell? ⟨w.heap.size,3,none⟩=some (.int .i64 o.b):=by simp[World.cell?,HZ.out.2.2]
 have c4:H.cell? ⟨w.heap.size,4,none⟩=some (.int .i64 o.c):=by simp[World.cell?,HZ.out.2.2]
 have c5:H.cell? ⟨w.heap.size,5,none⟩=some (.string o.s):=by simp[World.cell?,HZ.out.2.2]
 have cu:H.cell? ⟨w.heap.size,6,none⟩=some (.string o.d.name):=by simp[World.cell?,HZ.out.2.2]
 have cv:H.cell? ⟨w.heap.size,7,none⟩=some (.slice o.d.at_ o.d.ts.length o.d.ct):=by simp[World.cell?,HZ.out.2.2]
 have cx:H.cell? ⟨w.heap.size,8,none⟩=some (.slice o.d.ar o.d.rs.length o.d.cr):=by simp[World.cell?,HZ.out.2.2]
 have cy:H.cell? ⟨w.heap.size,9,none⟩=some (.slice o.d.ah o.d.hs.length o.d.ch):=by simp[World.cell?,HZ.out.2.2]
 have cf:H.cell? ⟨w.heap.size,10,none⟩=some (.int .i64 o.d.g):=by simp[World.cell?,HZ.out.2.2]
 have ci:H.cell? ⟨w.heap.size,11,none⟩=some (.slice o.pa o.pl o.pc):=by simp[World.cell?,HZ.out.2.2]
 have cj:H.cell? ⟨w.heap.size,12,none⟩=some (.int .i64 o.o0):=by simp[World.cell?,HZ.out.2.2]
 have ck:H.cell? ⟨w.heap.size,13,none⟩=some (.int .i64 o.o1):=by simp[World.cell?,HZ.out.2.2]
 have cl:H.cell? ⟨w.heap.size,14,none⟩=some (.int .i64 o.o2):=by simp[World.cell?,HZ.out.2.2]
 have cn:H.cell? ⟨w.heap.size,15,none⟩=some (.int .i64 o.o3):=by simp[World.cell?,HZ.out.2.2]
 clear bH bG
 by_cases N:bits BinOp.and IntKind.i64 o.h 1=1
 focus
  rw[if_pos N]at bi
  subst bi
  go_upto_region 4 with fail
  clear ca cb N
 rotate_left 1
 focus
  rw[if_neg N]at bi
  have cI:(bits BinOp.and IntKind.i64 o.h 1==1)=false:=by simpa using N
  subst bi
  go_upto_region 4 with fail
  clear ca cb N cI
 all_goals
  obtain⟨b,U,bL,bV,bQ,bR,bT⟩:=J.out.1.1.spoil o.a o.b o.c
  have bk:Hid (U.writes=D.writes∧Ksb U bh bL Rs∧∀ Z:World,RSt M Z L D.quota D.fail D.writes P Rs→Calls prog 23 #[.pointer (some ⟨L,0,none⟩),.int .i64 o.a,.int .i64 o.b,.int .i64 o.c] Z fun e bN=>e=.returned (.bool b)∧Ju M Z bN∧RSt M bN L U.quota U.fail U.writes bL Rs):=⟨bV,bQ,bT⟩
  have bS:=bR H.drew (J.out.1.1.x.below (Jj (Oa5 _ _)))
  clear bV bQ bT bR
  go_upto_region 23 with fail
  refine wp_region_held_drew (S:=fun I=>I.cell? ⟨p,0,none⟩=some (.pointer (some ⟨R,0,none⟩))∧I.cell? ⟨w.heap.size,2,none⟩=some (.int .i64 o.a)∧I.cell? ⟨w.heap.size,3,none⟩=some (.int .i64 o.b)∧I.cell? ⟨w.heap.size,4,none⟩=some (.int .i64 o.c)) (by kernel_rfl) ⟨Jh bX,Jh c2,Jh c3,Jh c4⟩ (fun A=>?_)
  refine Kn 0 rfl A ?_
  refine Kn 1 rfl A ?_
  refine Kn 2 rfl A ?_
  refine Kn 3 rfl A ?_
  refine Kn 4 rfl A ?_
  refine Kn 5 rfl A ?_
  refine Kn 6 rfl A ?_
  refine Kn 7 rfl A ?_
  refine Kn 8 rfl A ?_
  refine Kn 9 rfl A ?_
  refine tkn ?_
  refine tkr 10 rfl fun bn bb=>?_
  go_simp
  refine bS.mono ?_
  rintro e I ⟨rfl,K,N⟩
  have bl:Hid (Ju O H I∧Sto O I R U bh∧RSt M I L D.quota D.fail D.writes P Rs):=⟨⟨K.os,K.tape,K.output,K.size,K.block⟩,N,J.out.1.1.y.stands K.size fun k hk=>K.block k (J.out.1.1.y.lt k hk) fun bc=>J.out.1.1.apart k bc hk⟩
  have bZ:=K.cell (Jh bY) J.out.1.1.np.1
  have bA:=K.cell (Jh c2) X.out.1
  have bB:=K.cell (Jh c3) X.out.1
  have bC:=K.cell (Jh c4) X.out.1
  go_simp
  refine bb.out _ _ ⟨K.cell A.1 J.out.1.1.np.1,bA,bB,bC⟩ (fun A=>?_)
  clear K N bS bX bY c0 c1 c2 c3 c4 c5 cu cv cx cy cf ci cj ck cl cn bb bn
  refine Kn 11 rfl A ?_
  refine tkn ?_
  refine wpAnyH_done (by kernel_rfl) ?_ _
  clear A
  have bU:=bk.out.2.2 I.drew (bl.out.2.2.below (Jj (Oa5 _ _)))
  go_upto_region 24 with fail
  refine wp_region_held_drew (S:=fun I=>I.cell? ⟨p,1,none⟩=some (.pointer (some ⟨L,0,none⟩))∧I.cell? ⟨w.heap.size,2,none⟩=some (.int .i64 o.a)∧I.cell? ⟨w.heap.size,3,none⟩=some (.int .i64 o.b)∧I.cell? ⟨w.heap.size,4,none⟩=some (.int .i64 o.c)) (by kernel_rfl) ⟨Jh bZ,Jh bA,Jh bB,Jh bC⟩ (fun A=>?_)
  refine Kn 0 rfl A ?_
  refine Kn 1 rfl A ?_
  refine Kn 2 rfl A ?_
  refine Kn 3 rfl A ?_
  refine Kn 4 rfl A ?_
  refine Kn 5 rfl A ?_
  refine Kn 6 rfl A ?_
  refine Kn 7 rfl A ?_
  refine Kn 8 rfl A ?_
  refine Kn 9 rfl A ?_
  refine tkn ?_
  refine tkr 10 rfl fun bn bb=>?_
  go_simp
  refine bU.mono ?_
  rintro e Z ⟨rfl,Y,bW⟩
  have cc:Hid (Kuh H p R L O M D.writes Z):=J.out.1.1.after bl.out.1 bl.out.2.1 (Jj (Oa5 _ _)) Y bW (fun k hk=>.inl hk) bk.out.2.1 bk.out.1
  go_simp
  refine bb.out _ _ ⟨Y.cell A.1 J.out.1.1.np.2,Y.cell A.2.1 X.out.2.1,Y.cell A.2.2.1 X.out.2.1,Y.cell A.2.2.2 X.out.2.1⟩ (fun A=>?_)
  clear Y bW bU bZ bA bB bC bb bn
  refine Kn 11 rfl A ?_
  refine tkn ?_
  refine wpAnyH_done (by kernel_rfl) ?_ _
  clear A
  go_wp2
  go_ret
  exact⟨by cases b<;>simp,(Kst.of_pair J.out.1.2.1 J.out.1.2.2.1 (by omega) cc.out).before HZ.out.1⟩
end Go.Proofs.YtcaocabmioafcaaGreatDoor
