/- A step of the law's script of the kind 5. -/
import Derived.Test.YtcaocabmioafcaaGreatDoorQl
set_option maxHeartbeats 2000000
set_option maxRecDepth 100000
namespace Go.Proofs.YtcaocabmioafcaaGreatDoor
open Go.RowKit Go.Shelf Tryz
attribute [local go_sem] Oc0
theorem Qas (o:Opx)(wb pa M p N O u:Nat)(I J U:Nat→Prop)(D:DS)(bi:List TS)(P:List RP)(Rs:List RTb)(bj:Int)(bh:Ksl)(G:Nat→Prop)(w R:World)(K:Kt4 o R wb pa M p N O u I J U D bi P Rs bj bh G w)(ba:p=if bits BinOp.and IntKind.i64 o.h 1=1 then M else pa)(bA:o.kind=5)(X Y Z bc q bf pg pl ex bb:Addr)(bk:Jax R X Y Z bc q bf pg pl ex bb) :
  Calls prog 8 #[.pointer (some ⟨wb,0,none⟩),o.val] w fun e w'=>e=.returned (.bool true)∧Kst w wb pa M p N O I J U (u+1000) D.writes w':=by
 unfold Opx.val
 rw[bA]
 go_enter func8,ntmps8
 go_upto_region 1 with fail
 obtain⟨A,bl⟩:∃ A,A=w.alloc (.cells #[.int .i64 5,.int .i64 o.h,.int .i64 o.a,.int .i64 o.b,.int .i64 o.c,.string o.s,.string o.d.name,.slice o.d.at_ o.d.ts.length o.d.ct,.slice o.d.ar o.d.rs.length o.d.cr,.slice o.d.ah o.d.hs.length o.d.ch,.int .i64 o.d.g,.slice o.pa o.pl o.pc,.int .i64 o.o0,.int .i64 o.o1,.int .i64 o.o2,.int .i64 o.o3] 40):=⟨_,rfl⟩
 rw[←bl]
 have HZ:Hid (Below w.heap.size w A∧A.heap.size=w.heap.size+1∧A.heap[w.heap.size]?=some (.cells #[.int .i64 5,.int .i64 o.h,.int .i64 o.a,.int .i64 o.b,.int .i64 o.c,.string o.s,.string o.d.name,.slice o.d.at_ o.d.ts.length o.d.ct,.slice o.d.ar o.d.rs.length o.d.cr,.slice o.d.ah o.d.hs.length o.d.ch,.int .i64 o.d.g,.slice o.pa o.pl o.pc,.int .i64 o.o0,.int .i64 o.o1,.int .i64 o.o2,.int .i64 o.o3] 40 (0,0))):=by
  rw[bl]
  exact⟨(Oa5 _ w).alloc (Oa2 _) _,by simp,heap_alloc_new _ _⟩
 clear bl
 have H:Hid (Kt4 o R wb pa M p N O u I J U D bi P Rs bj bh G A∧Jax A X Y Z bc q bf pg pl ex bb∧Jax R X Y Z bc q bf pg pl ex bb):=by
  obtain⟨bD,bE,bG,bH,bI,bz,bJ,bK,bL⟩:=K
  exact⟨⟨bD.below HZ.out.1,bE.below HZ.out.1,bG,bH,bI,Jb bz HZ.out.1,bJ,bK,bL⟩,bk.below (Jb bz HZ.out.1),bk⟩
 have bN:Hid (¬ I w.heap.size∧¬ J w.heap.size∧p<w.heap.size):=⟨fun bn=>by have:=K.1.x.lt _ bn;omega,fun bn=>by have:=K.1.y.lt _ bn;omega,Jd K.1.cells⟩
 clear K bk
 have bx:=H.out.1.2.1.law.cells
 have br:=H.out.1.1.cells
 have bB:A.cell? ⟨wb,0,none⟩=some (.pointer (some ⟨pa,0,none⟩)):=by simp[World.cell?,bx]
 have bC:A.cell? ⟨wb,1,none⟩=some (.pointer (some ⟨M,0,none⟩)):=by simp[World.cell?,bx]
 have bY:A.cell? ⟨p,0,none⟩=some (.pointer (some ⟨N,0,none⟩)):=by simp[World.cell?,br]
 have bZ:A.cell? ⟨p,1,none⟩=some (.pointer (some ⟨O,0,none⟩)):=by simp[World.cell?,br]
 have c0:A.cell? ⟨w.heap.size,0,none⟩=some (.int .i64 5):=by simp[World.cell?,HZ.out.2.2]
 have c1:A.cell? ⟨w.heap.size,1,none⟩=some (.int .i64 o.h):=by simp[World.cell?,HZ.out.2.2]
 have c2:A.cell? ⟨w.heap.size,2,none⟩=some (.int .i64 o.a):=by simp[World.cell?,HZ.out.2.2]
 have c3:A.cell? ⟨w.heap.size,3,none⟩=some (.int .i64 o.b):=by simp[World.cell?,HZ.out.2.2]
 have c4:A.cell? ⟨w.heap.size,4,none⟩=some (.int .i64 o.c):=by simp[World.cell?,HZ.out.2.2]
 have c5:A.cell? ⟨w.heap.size,5,none⟩=some (.string o.s):=by simp[World.cell?,HZ.out.2.2]
 have bU:A.cell? ⟨w.heap.size,6,none⟩=some (.string o.d.name):=by simp[World.cell?,HZ.out.2.2]
 have bV:A.cell? ⟨w.heap.size,7,none⟩=some (.slice o.d.at_ o.d.ts.length o.d.ct):=by simp[World.cell?,HZ.out.2.2]
 have bW:A.cell? ⟨w.heap.size,8,none⟩=some (.slice o.d.ar o.d.rs.length o.d.cr):=by simp[World.cell?,HZ.out.2.2]
 have bX:A.cell? ⟨w.heap.size,9,none⟩=some (.slice o.d.ah o.d.hs.length o.d.ch):=by simp[World.cell?,HZ.out.2.2]
 have bO:A.cell? ⟨w.heap.size,10,none⟩=some (.int .i64 o.d.g):=by simp[World.cell?,HZ.out.2.2]
 have bP:A.cell? ⟨w.heap.size,11,none⟩=some (.slice o.pa o.pl o.pc):=by simp[World.cell?,HZ.out.2.2]
 have bQ:A.cell? ⟨w.heap.size,12,none⟩=some (.int .i64 o.o0):=by simp[World.cell?,HZ.out.2.2]
 have bR:A.cell? ⟨w.heap.size,13,none⟩=some (.int .i64 o.o1):=by simp[World.cell?,HZ.out.2.2]
 have bS:A.cell? ⟨w.heap.size,14,none⟩=some (.int .i64 o.o2):=by simp[World.cell?,HZ.out.2.2]
 have bT:A.cell? ⟨w.heap.size,15,none⟩=some (.int .i64 o.o3):=by simp[World.cell?,HZ.out.2.2]
 clear bx br
 by_cases L:bits BinOp.and IntKind.i64 o.h 1=1
 focus
  rw[if_pos L]at ba
  subst ba
  go_upto_region 4 with fail
  clear bB bC L
 rotate_left 1
 focus
  rw[if_neg L]at ba
  have bM:(bits BinOp.and IntKind.i64 o.h 1==1)=false:=by simpa using L
  subst ba
  go_upto_region 4 with fail
  clear bB bC L bM
 all_goals
  have bu:=Qb3 o wb _ _ p N O u I J U D bi P Rs bj bh G A R H.out.1.1 H.out.1.2.1 H.out.1.2.2.1 H.out.1.2.2.2.1 H.out.1.2.2.2.2.2.1 X Y Z bc q bf pg pl ex bb H.out.2.2
  unfold Opx.val at bu
  rw[bA]at bu
  go_wp2_with (go_at_call 21;refine bu.mono ?_;rintro e ca ⟨rfl,hs⟩)
  go_ret
  exact⟨rfl,hs.before HZ.out.1⟩
end Go.Proofs.YtcaocabmioafcaaGreatDoor
