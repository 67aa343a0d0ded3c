/- The law's stores on any disk: both begun, with no table. -/
import Derived.Test.YtcaocabmioafcaaGreatDoorQv
import Derived.Test.YtcaocabmioafcaaGreatDoorQl
set_option maxHeartbeats 4000000
set_option maxRecDepth 100000
namespace Go.Proofs.YtcaocabmioafcaaGreatDoor
open Go.RowKit Go.Shelf Tryz
attribute [local go_sem] Oc0
def Qcm (w:World)(q f:Int)(e:Ending)(w':World):Prop:=Below w.heap.size w w'∧∃ (A J K:Nat) (H I:Nat→Prop),e=.returned (.tuple #[.pointer (some ⟨A,0,none⟩),.bool true])∧Kso w' A J K H I (Ku q f) [] [] []∧∀ k,H k∨I k∨k=A→w.heap.size≤k
theorem Ky5 (q f:Int)(w:World):Calls prog 7 #[.agg #[.int .i64 q,.int .i64 f],.slice none 0 0] w (Qcm w q f):=by
 go_enter func7,ntmps7
 go_upto_region 1 with fail
 obtain⟨W,hW⟩:∃ W,W=w.alloc (.cells #[.int .i64 q,.int .i64 f] 23):=⟨_,rfl⟩
 rw[←hW]
 have br:Below w.heap.size w W:=by rw[hW];exact(Oa5 _ w).alloc (Oa2 _) _
 have bb:W.heap[w.heap.size]?=some (.cells #[.int .i64 q,.int .i64 f] 23 (0,0)):=by rw[hW];exact heap_alloc_new _ _
 have c0:W.cell? ⟨w.heap.size,0,none⟩=some (.int .i64 q):=by simp[World.cell?,bb]
 have c1:W.cell? ⟨w.heap.size,1,none⟩=some (.int .i64 f):=by simp[World.cell?,bb]
 have bi:Hid (Below w.heap.size w W):=br
 clear hW bb br
 refine wp_region_held_drew (S:=fun bj=>bj.cell? ⟨w.heap.size,0,none⟩=some (.int .i64 q)∧bj.cell? ⟨w.heap.size,1,none⟩=some (.int .i64 f)) (by kernel_rfl) ⟨Jh c0,Jh c1⟩ (fun A=>?_)
 refine Kn 0 rfl A ?_
 refine Kn 2 rfl A ?_
 refine tkn ?_
 refine tkr 1 rfl fun N I=>?_
 go_simp
 refine(Kfq q f _).mono ?_
 rintro e bE ⟨O,J,Y,rfl,X,bn⟩
 go_simp
 refine I.out _ _ ⟨Ja O A.1,Ja O A.2⟩ (fun A=>?_)
 clear I N
 refine tkr 3 rfl fun N I=>?_
 go_simp
 refine(Qcl q f _).mono ?_
 rintro e H ⟨L,K,Z,rfl,bh,ba⟩
 go_simp
 refine I.out _ _ ⟨Ja L A.1,Ja L A.2⟩ (fun A=>?_)
 clear I N
 refine Kn 4 rfl A ?_
 refine tkn ?_
 refine tkr 5 rfl fun N I=>?_
 go_simp
 have M:Below H.heap.size H (H.alloc (.cells #[.pointer (some ⟨J,0,none⟩),.pointer (some ⟨K,0,none⟩)] 64)):=Jc (Oa5 _ _) _
 refine I.out _ _ ⟨Ja M A.1,Ja M A.2⟩ (fun A=>?_)
 clear I N
 have R:=heap_alloc_new H (.cells #[.pointer (some ⟨J,0,none⟩),.pointer (some ⟨K,0,none⟩)] 64)
 have bB:=O.size
 have bC:=L.size
 have bA:=bi.out.size
 have bz:W.drew.heap.size=W.heap.size:=rfl
 have U:Hid (Below w.heap.size w (H.alloc (.cells #[.pointer (some ⟨J,0,none⟩),.pointer (some ⟨K,0,none⟩)] 64))∧Kso (H.alloc (.cells #[.pointer (some ⟨J,0,none⟩),.pointer (some ⟨K,0,none⟩)] 64)) H.heap.size J K Y Z (Ku q f) [] [] []∧∀ k,Y k∨Z k∨k=H.heap.size→w.heap.size≤k):=by
  refine⟨Jb bi.out (Jb (Jw O) (Jb L M)),⟨R,(X.below L).below M,bh.below M,fun k bc bf=>?_,⟨fun bc=>?_,fun bf=>?_⟩,Ksb.start q f,by simp[Ku]⟩,fun k hk=>?_⟩
  ·have bl:=X.lt k bc
   have bG:=ba k bf
   omega
  ·have bl:=X.lt _ bc
   omega
  ·have bl:=bh.lt _ bf
   omega
  rcases hk with a|a|a
  ·have:=bn k a;omega
  ·have:=ba k a;omega
  omega
 generalize H.alloc (.cells #[.pointer (some ⟨J,0,none⟩),.pointer (some ⟨K,0,none⟩)] 64)=bk at U A R ⊢
 generalize H.heap.size=bx at U R ⊢
 have bD:bk.cell? ⟨bx,0,none⟩=some (.pointer (some ⟨J,0,none⟩)):=by simp[World.cell?,R]
 clear R M L O X bh bn ba bA bB bC bz c0 c1
 refine Kn 6 rfl A ?_
 refine tkn ?_
 refine wpAnyH_done (by kernel_rfl) ?_ _
 clear A
 go_upto_region 5 with fail
 clear bD
 go_loopw [7] (fun bu wr=>bu=.int .i64 0∧wr=bk) (fun bu _=>0)
 case atStart=>exact⟨rfl,rfl⟩
 case round=>
  obtain⟨rfl,rfl⟩:=hrel
  go_wp2
  go_ret2
  exact⟨U.out.1,bx,J,K,Y,Z,by simp,U.out.2⟩
attribute [local go_sem] Oc0
theorem Qbl (o:Opx)(wb pa M p N O u:Nat)(I J bf:Nat→Prop)(D:DS)(bh:List TS)(P:List RP)(Rs:List RTb)(bu:Int)(br:Ksl)(G:Nat→Prop)(w R:World)(K:Kt4 o R wb pa M p N O u I J bf D bh P Rs bu br G w)(Z:p=if bits BinOp.and IntKind.i64 o.h 1=1 then M else pa)(bL:o.kind=1)(U X Y bb q bc pg pl ex ba:Addr)(bi:Jax R U X Y bb q bc pg pl ex ba) :
  Calls prog 8 #[.pointer (some ⟨wb,0,none⟩),o.val] w fun e w'=>e=.returned (.bool true)∧Kst w wb pa M p N O I J bf (u+1000) D.writes w':=by
 unfold Opx.val
 rw[bL]
 go_enter func8,ntmps8
 go_upto_region 1 with fail
 obtain⟨A,bj⟩:∃ A,A=w.alloc (.cells #[.int .i64 1,.int .i64 o.h,.int .i64 o.a,.int .i64 o.b,.int .i64 o.c,.string o.s,.string o.d.name,.slice o.d.at_ o.d.ts.length o.d.ct,.slice o.d.ar o.d.rs.length o.d.cr,.slice o.d.ah o.d.hs.length o.d.ch,.int .i64 o.d.g,.slice o.pa o.pl o.pc,.int .i64 o.o0,.int .i64 o.o1,.int .i64 o.o2,.int .i64 o.o3] 40):=⟨_,rfl⟩
 rw[←bj]
 have HZ:Hid (Below w.heap.size w A∧A.heap.size=w.heap.size+1∧A.heap[w.heap.size]?=some (.cells #[.int .i64 1,.int .i64 o.h,.int .i64 o.a,.int .i64 o.b,.int .i64 o.c,.string o.s,.string o.d.name,.slice o.d.at_ o.d.ts.length o.d.ct,.slice o.d.ar o.d.rs.length o.d.cr,.slice o.d.ah o.d.hs.length o.d.ch,.int .i64 o.d.g,.slice o.pa o.pl o.pc,.int .i64 o.o0,.int .i64 o.o1,.int .i64 o.o2,.int .i64 o.o3] 40 (0,0))):=by
  rw[bj]
  exact⟨(Oa5 _ w).alloc (Oa2 _) _,by simp,heap_alloc_new _ _⟩
 clear bj
 have H:Hid (Kt4 o R wb pa M p N O u I J bf D bh P Rs bu br G A∧Jax A U X Y bb q bc pg pl ex ba∧Jax R U X Y bb q bc pg pl ex ba):=by
  obtain⟨bC,bD,bE,bG,bH,bx,bI,bJ,bK⟩:=K
  exact⟨⟨bC.below HZ.out.1,bD.below HZ.out.1,bE,bG,bH,Jb bx HZ.out.1,bI,bJ,bK⟩,bi.below (Jb bx HZ.out.1),bi⟩
 have bN:Hid (¬ I w.heap.size∧¬ J w.heap.size∧p<w.heap.size):=⟨fun bk=>by have:=K.1.x.lt _ bk;omega,fun bk=>by have:=K.1.y.lt _ bk;omega,Jd K.1.cells⟩
 clear K bi
 have bn:=H.out.1.2.1.law.cells
 have bl:=H.out.1.1.cells
 have bA:A.cell? ⟨wb,0,none⟩=some (.pointer (some ⟨pa,0,none⟩)):=by simp[World.cell?,bn]
 have bB:A.cell? ⟨wb,1,none⟩=some (.pointer (some ⟨M,0,none⟩)):=by simp[World.cell?,bn]
 have bY:A.cell? ⟨p,0,none⟩=some (.pointer (some ⟨N,0,none⟩)):=by simp[World.cell?,bl]
 have bZ:A.cell? ⟨p,1,none⟩=some (.pointer (some ⟨O,0,none⟩)):=by simp[World.cell?,bl]
 have c0:A.cell? ⟨w.heap.size,0,none⟩=some (.int .i64 1):=by simp[World.cell?,HZ.out.2.2]
 have c1:A.cell? ⟨w.heap.size,1,none⟩=some (.int .i64 o.h):=by simp[World.cell?,HZ.out.2.2]
 have c2:A.cell? ⟨w.heap.size,2,none⟩=some (.int .i64 o.a):=by simp[World.cell?,HZ.out.2.2]
 have c3:A.cell? ⟨w.heap.size,3,none⟩=some (.int .i64 o.b):=by simp[World.cell?,HZ.out.2.2]
 have c4:A.cell? ⟨w.heap.size,4,none⟩=some (.int .i64 o.c):=by simp[World.cell?,HZ.out.2.2]
 have c5:A.cell? ⟨w.heap.size,5,none⟩=some (.string o.s):=by simp[World.cell?,HZ.out.2.2]
 have bU:A.cell? ⟨w.heap.size,6,none⟩=some (.string o.d.name):=by simp[World.cell?,HZ.out.2.2]
 have bV:A.cell? ⟨w.heap.size,7,none⟩=some (.slice o.d.at_ o.d.ts.length o.d.ct):=by simp[World.cell?,HZ.out.2.2]
 have bW:A.cell? ⟨w.heap.size,8,none⟩=some (.slice o.d.ar o.d.rs.length o.d.cr):=by simp[World.cell?,HZ.out.2.2]
 have bX:A.cell? ⟨w.heap.size,9,none⟩=some (.slice o.d.ah o.d.hs.length o.d.ch):=by simp[World.cell?,HZ.out.2.2]
 have bO:A.cell? ⟨w.heap.size,10,none⟩=some (.int .i64 o.d.g):=by simp[World.cell?,HZ.out.2.2]
 have bP:A.cell? ⟨w.heap.size,11,none⟩=some (.slice o.pa o.pl o.pc):=by simp[World.cell?,HZ.out.2.2]
 have bQ:A.cell? ⟨w.heap.size,12,none⟩=some (.int .i64 o.o0):=by simp[World.cell?,HZ.out.2.2]
 have bR:A.cell? ⟨w.heap.size,13,none⟩=some (.int .i64 o.o1):=by simp[World.cell?,HZ.out.2.2]
 have bS:A.cell? ⟨w.heap.size,14,none⟩=some (.int .i64 o.o2):=by simp[World.cell?,HZ.out.2.2]
 have bT:A.cell? ⟨w.heap.size,15,none⟩=some (.int .i64 o.o3):=by simp[World.cell?,HZ.out.2.2]
 clear bn bl
 by_cases L:bits BinOp.and IntKind.i64 o.h 1=1
 focus
  rw[if_pos L]at Z
  subst Z
  go_upto_region 4 with fail
  clear bA bB L
 rotate_left 1
 focus
  rw[if_neg L]at Z
  have bM:(bits BinOp.and IntKind.i64 o.h 1==1)=false:=by simpa using L
  subst Z
  go_upto_region 4 with fail
  clear bA bB L bM
 all_goals
  have bz:=Qce o.d p N O I J D bh P Rs A R H.out.1.1 H.out.1.2.2.2.2.1 H.out.1.2.2.2.2.2.2.2.1 H.out.1.2.2.2.2.2.2.2.2 H.out.1.2.2.2.2.2.1 H.out.1.2.2.2.2.2.2.1 U X Y bb q bc pg pl ex ba H.out.2.2
  unfold Dx.val at bz
  go_wp2_with (go_at_call 12;refine bz.mono ?_;rintro e ca ⟨rfl,hs⟩)
  go_ret
  exact⟨rfl,(Kst.of_pair H.out.1.2.1 H.out.1.2.2.1 (by omega) hs).before HZ.out.1⟩
attribute [local go_sem] Oc0
theorem Qa3 (o:Opx)(wb pa R p U X u:Nat)(L Z bi:Nat→Prop)(D:DS)(H:List TS)(P:List RP)(Rs:List RTb)(bM:Int)(ba:Ksl)(G:Nat→Prop)(w bf:World)(N:Kt4 o bf wb pa R p U X u L Z bi D H P Rs bM ba G w)(J:p=if bits BinOp.and IntKind.i64 o.h 1=1 then R else pa)(cu:o.kind=3)(bl bn br bH q bI pg pl ex bG:Addr)(bu:Jax bf bl bn br bH q bI pg pl ex bG) :
  Calls prog 8 #[.pointer (some ⟨wb,0,none⟩),o.val] w fun e w'=>e=.returned (.bool true)∧Kst w wb pa R p U X L Z bi (u+1000) D.writes w':=by
 unfold Opx.val
 rw[cu]
 go_enter func8,ntmps8
 go_upto_region 1 with fail
 obtain⟨A,bx⟩:∃ A,A=w.alloc (.cells #[.int .i64 3,.int .i64 o.h,.int .i64 o.a,.int .i64 o.b,.int .i64 o.c,.string o.s,.string o.d.name,.slice o.d.at_ o.d.ts.length o.d.ct,.slice o.d.ar o.d.rs.length o.d.cr,.slice o.d.ah o.d.hs.length o.d.ch,.int .i64 o.d.g,.slice o.pa o.pl o.pc,.int .i64 o.o0,.int .i64 o.o1,.int .i64 o.o2,.int .i64 o.o3] 40):=⟨_,rfl⟩
 rw[←bx]
 have HZ:Hid (Below w.heap.size w A∧A.heap.size=w.heap.size+1∧A.heap[w.heap.size]?=some (.cells #[.int .i64 3,.int .i64 o.h,.int .i64 o.a,.int .i64 o.b,.int .i64 o.c,.string o.s,.string o.d.name,.slice o.d.at_ o.d.ts.length o.d.ct,.slice o.d.ar o.d.rs.length o.d.cr,.slice o.d.ah o.d.hs.length o.d.ch,.int .i64 o.d.g,.slice o.pa o.pl o.pc,.int .i64 o.o0,.int .i64 o.o1,.int .i64 o.o2,.int .i64 o.o3] 40 (0,0))):=by
  rw[bx]
  exact⟨(Oa5 _ w).alloc (Oa2 _) _,by simp,heap_alloc_new _ _⟩
 clear bx
 have I:Hid (Kt4 o bf wb pa R p U X u L Z bi D H P Rs bM ba G A∧Jax A bl bn br bH q bI pg pl ex bG∧Jax bf bl bn br bH q bI pg pl ex bG):=by
  obtain⟨bb,bZ,ca,cb,cc,bN,cf,ci,cj⟩:=N
  exact⟨⟨bb.below HZ.out.1,bZ.below HZ.out.1,ca,cb,cc,Jb bN HZ.out.1,cf,ci,cj⟩,bu.below (Jb bN HZ.out.1),bu⟩
 have cA:Hid (¬ L w.heap.size∧¬ Z w.heap.size∧p<w.heap.size):=⟨fun bB=>by have:=N.1.x.lt _ bB;omega,fun bB=>by have:=N.1.y.lt _ bB;omega,Jd N.1.cells⟩
 clear N bu
 have bE:=I.out.1.2.1.law.cells
 have bC:=I.out.1.1.cells
 have bW:A.cell? ⟨wb,0,none⟩=some (.pointer (some ⟨pa,0,none⟩)):=by simp[World.cell?,bE]
 have bX:A.cell? ⟨wb,1,none⟩=some (.pointer (some ⟨R,0,none⟩)):=by simp[World.cell?,bE]
 have cy:A.cell? ⟨p,0,none⟩=some (.pointer (some ⟨U,0,none⟩)):=by simp[World.cell?,bC]
 have bV:A.cell? ⟨p,1,none⟩=some (.pointer (some ⟨X,0,none⟩)):=by simp[World.cell?,bC]
 have c0:A.cell? ⟨w.heap.size,0,none⟩=some (.int .i64 3):=by simp[World.cell?,HZ.out.2.2]
 have c1:A.cell? ⟨w.heap.size,1,none⟩=some (.int .i64 o.h):=by simp[World.cell?,HZ.out.2.2]
 have c2:A.cell? ⟨w.heap.size,2,none⟩=some (.int .i64 o.a):=by simp[World.cell?,HZ.out.2.2]
 have c3:A.cell? ⟨w.heap.size,3,none⟩=some (.int .i64 o.b):=by simp[World.cell?,HZ.out.2.2]
 have c4:A.cell? ⟨w.heap.size,4,none⟩=some (.int .i64 o.c):=by simp[World.cell?,HZ.out.2.2]
 have c5:A.cell? ⟨w.heap.size,5,none⟩=some (.string o.s):=by simp[World.cell?,HZ.out.2.2]
 have cI:A.cell? ⟨w.heap.size,6,none⟩=some (.string o.d.name):=by simp[World.cell?,HZ.out.2.2]
 have cJ:A.cell? ⟨w.heap.size,7,none⟩=some (.slice o.d.at_ o.d.ts.length o.d.ct):=by simp[World.cell?,HZ.out.2.2]
 have cK:A.cell? ⟨w.heap.size,8,none⟩=some (.slice o.d.ar o.d.rs.length o.d.cr):=by simp[World.cell?,HZ.out.2.2]
 have cL:A.cell? ⟨w.heap.size,9,none⟩=some (.slice o.d.ah o.d.hs.length o.d.ch):=by simp[World.cell?,HZ.out.2.2]
 have cC:A.cell? ⟨w.heap.size,10,none⟩=some (.int .i64 o.d.g):=by simp[World.cell?,HZ.out.2.2]
 have cD:A.cell? ⟨w.heap.size,11,none⟩=some (.slice o.pa o.pl o.pc):=by simp[World.cell?,HZ.out.2.2]
 have cE:A.cell? ⟨w.heap.size,12,none⟩=some (.int .i64 o.o0):=by simp[World.cell?,HZ.out.2.2]
 have cF:A.cell? ⟨w.heap.size,13,none⟩=some (.int .i64 o.o1):=by simp[World.cell?,HZ.out.2.2]
 have cG:A.cell? ⟨w.heap.size,14,none⟩=some (.int .i64 o.o2):=by simp[World.cell?,HZ.out.2.2]
 have cH:A.cell? ⟨w.heap.size,15,none⟩=some (.int .i64 o.o3):=by simp[World.cell?,HZ.out.2.2]
 clear bE bC
 by_cases O:bits BinOp.and IntKind.i64 o.h 1=1
 focus
  rw[if_pos O]at J
  subst J
  go_upto_region 4 with fail
  clear bW bX O
 rotate_left 1
 focus
  rw[if_neg O]at J
  have cx:(bits BinOp.and IntKind.i64 o.h 1==1)=false:=by simpa using O
  subst J
  go_upto_region 4 with fail
  clear bW bX O cx
 all_goals
  have bS:=I.out.1.1.ag.names
  have bP:H.length≤6:=I.out.1.1.ag.few
  have bQ:Rs.length=H.length:=I.out.1.1.ag.len
  have bU:=Kyt L U D H A I.out.1.1.x
  have bK:Hid (∀ M,Below A.heap.size A M→Calls prog 16 #[.pointer (some ⟨X,0,none⟩)] M fun e w'=>Below M.heap.size M w'∧∃ a c,e=.returned (.slice a H.length c)∧Uh w' a ((H.map TS.name).map .string)):=fun M cl=>by
   refine(Qbm (I.out.1.1.y.below cl) (by omega)).mono fun e w' J=>?_
   rw[bQ]at J
   have bY:(Rs.map fun ba=>Value.string ba.name)=(H.map TS.name).map .string:=by
    have bb:=congrArg (List.map fun x:ByteArray×List Int=>Value.string x.1) bS
    rw[Oi6,Oi6]at bb
    rw[Oi6]
    exact bb
   rw[bY]at J
   exact J
  have bJ:Hid (H.length≤6):=bP
  clear bS bQ bP
  go_upto_region 13 with(go_at_call 15;refine bU.mono ?_;rintro e bj ⟨rfl,bT,bc⟩)
  have Y:Hid (bj.rowIs A.heap.size 9 H.length (Kty H)∧Below A.heap.size A bj):=⟨bT,bc⟩
  have cz:=Ja bc bV
  have bR:=bK.out bj bc
  clear bU bT bc cy bV bK
  go_upto_region 14 with(go_at_call 16;refine bR.mono ?_;rintro e bk ⟨bz,a,c,rfl,bO⟩)
  have K:Hid (bk.rowIs A.heap.size 9 H.length (Kty H)∧Below A.heap.size A bk):=⟨Y.out.1.of_block (bz.block _ Y.out.1.lt),Jb Y.out.2 bz⟩
  clear bR cz
  have bD:=Kuu (some ⟨A.heap.size,0,none⟩) a H.length c (H.map TS.name) bk (by rw[Oa6];have:=bJ.out;omega) (Kxq K.out.1 (by rw[Oa6]) fun i hi=>by unfold Kty;rw[Oa0,Oa3 hi];rfl) bO
  rw[Oa6]at bD
  clear bO
  go_upto_region 15 with(go_at_call 17;refine bD.mono ?_;rintro e bL ⟨rfl,bA⟩)
  have bh:Hid (bL.rowIs A.heap.size 9 H.length (Kty H)∧Below A.heap.size A bL):=⟨K.out.1.of_block (bA.block _ K.out.1.lt),Jb K.out.2 bA⟩
  clear bD bA bz Y K
  have cv:=Kvo (I.out.1.2.1.below bh.out.2) (by have:=I.out.1.2.2.2.1;omega) A.heap.size H.length (Kty H) bh.out.1 (by have:=bJ.out;omega) (fun ck=>by have:=I.out.1.2.1.lt _ ck;omega)
  go_wp2_with (go_at_call 18;refine cv.mono ?_;rintro e cB ⟨rfl,cn⟩)
  go_ret
  exact⟨rfl,(Kst.of_took I.out.1.1 I.out.1.2.2.1 bh.out.2 (fun i hi=>by rw[hi];exact Oa2 _) cn (by omega)).before HZ.out.1⟩
attribute [local go_sem] Oc0
theorem Qat (o:Opx)(wb pa L p M R u:Nat)(I N X:Nat→Prop)(D:DS)(Y:List TS)(P:List RP)(Rs:List RTb)(bu:Int)(br:Ksl)(G:Nat→Prop)(w U:World)(J:Kt4 o U wb pa L p M R u I N X D Y P Rs bu br G w)(O:p=if bits BinOp.and IntKind.i64 o.h 1=1 then L else pa)(bO:o.kind=4)(Z ba bb bl q bn pg pl ex bk:Addr)(bc:Jax U Z ba bb bl q bn pg pl ex bk) :
  Calls prog 8 #[.pointer (some ⟨wb,0,none⟩),o.val] w fun e w'=>e=.returned (.bool true)∧Kst w wb pa L p M R I N X (u+1000) D.writes w':=by
 unfold Opx.val
 rw[bO]
 go_enter func8,ntmps8
 go_upto_region 1 with fail
 obtain⟨A,bf⟩:∃ A,A=w.alloc (.cells #[.int .i64 4,.int .i64 o.h,.int .i64 o.a,.int .i64 o.b,.int .i64 o.c,.string o.s,.string o.d.name,.slice o.d.at_ o.d.ts.length o.d.ct,.slice o.d.ar o.d.rs.length o.d.cr,.slice o.d.ah o.d.hs.length o.d.ch,.int .i64 o.d.g,.slice o.pa o.pl o.pc,.int .i64 o.o0,.int .i64 o.o1,.int .i64 o.o2,.int .i64 o.o3] 40):=⟨_,rfl⟩
 rw[←bf]
 have HZ:Hid (Below w.heap.size w A∧A.heap.size=w.heap.size+1∧A.heap[w.heap.size]?=some (.cells #[.int .i64 4,.int .i64 o.h,.int .i64 o.a,.int .i64 o.b,.int .i64 o.c,.string o.s,.string o.d.name,.slice o.d.at_ o.d.ts.length o.d.ct,.slice o.d.ar o.d.rs.length o.d.cr,.slice o.d.ah o.d.hs.length o.d.ch,.int .i64 o.d.g,.slice o.pa o.pl o.pc,.int .i64 o.o0,.int .i64 o.o1,.int .i64 o.o2,.int .i64 o.o3] 40 (0,0))):=by
  rw[bf]
  exact⟨(Oa5 _ w).alloc (Oa2 _) _,by simp,heap_alloc_new _ _⟩
 clear bf
 have H:Hid (Kt4 o U wb pa L p M R u I N X D Y P Rs bu br G A∧Jax A Z ba bb bl q bn pg pl ex bk∧Jax U Z ba bb bl q bn pg pl ex bk):=by
  obtain⟨bD,bE,bG,bH,bI,bx,bJ,bK,bL⟩:=J
  exact⟨⟨bD.below HZ.out.1,bE.below HZ.out.1,bG,bH,bI,Jb bx HZ.out.1,bJ,bK,bL⟩,bc.below (Jb bx HZ.out.1),bc⟩
 have bS:Hid (¬ I w.heap.size∧¬ N w.heap.size∧p<w.heap.size):=⟨fun bh=>by have:=J.1.x.lt _ bh;omega,fun bh=>by have:=J.1.y.lt _ bh;omega,Jd J.1.cells⟩
 clear J bc
 have bj:=H.out.1.2.1.law.cells
 have bi:=H.out.1.1.cells
 have bB:A.cell? ⟨wb,0,none⟩=some (.pointer (some ⟨pa,0,none⟩)):=by simp[World.cell?,bj]
 have bC:A.cell? ⟨wb,1,none⟩=some (.pointer (some ⟨L,0,none⟩)):=by simp[World.cell?,bj]
 have ck:A.cell? ⟨p,0,none⟩=some (.pointer (some ⟨M,0,none⟩)):=by simp[World.cell?,bi]
 have cl:A.cell? ⟨p,1,none⟩=some (.pointer (some ⟨R,0,none⟩)):=by simp[World.cell?,bi]
 have c0:A.cell? ⟨w.heap.size,0,none⟩=some (.int .i64 4):=by simp[World.cell?,HZ.out.2.2]
 have c1:A.cell? ⟨w.heap.size,1,none⟩=some (.int .i64 o.h):=by simp[World.cell?,HZ.out.2.2]
 have c2:A.cell? ⟨w.heap.size,2,none⟩=some (.int .i64 o.a):=by simp[World.cell?,HZ.out.2.2]
 have c3:A.cell? ⟨w.heap.size,3,none⟩=some (.int .i64 o.b):=by simp[World.cell?,HZ.out.2.2]
 have c4:A.cell? ⟨w.heap.size,4,none⟩=some (.int .i64 o.c):=by simp[World.cell?,HZ.out.2.2]
 have c5:A.cell? ⟨w.heap.size,5,none⟩=some (.string o.s):=by simp[World.cell?,HZ.out.2.2]
 have cc:A.cell? ⟨w.heap.size,6,none⟩=some (.string o.d.name):=by simp[World.cell?,HZ.out.2.2]
 have cf:A.cell? ⟨w.heap.size,7,none⟩=some (.slice o.d.at_ o.d.ts.length o.d.ct):=by simp[World.cell?,HZ.out.2.2]
 have ci:A.cell? ⟨w.heap.size,8,none⟩=some (.slice o.d.ar o.d.rs.length o.d.cr):=by simp[World.cell?,HZ.out.2.2]
 have cj:A.cell? ⟨w.heap.size,9,none⟩=some (.slice o.d.ah o.d.hs.length o.d.ch):=by simp[World.cell?,HZ.out.2.2]
 have bW:A.cell? ⟨w.heap.size,10,none⟩=some (.int .i64 o.d.g):=by simp[World.cell?,HZ.out.2.2]
 have bX:A.cell? ⟨w.heap.size,11,none⟩=some (.slice o.pa o.pl o.pc):=by simp[World.cell?,HZ.out.2.2]
 have bY:A.cell? ⟨w.heap.size,12,none⟩=some (.int .i64 o.o0):=by simp[World.cell?,HZ.out.2.2]
 have bZ:A.cell? ⟨w.heap.size,13,none⟩=some (.int .i64 o.o1):=by simp[World.cell?,HZ.out.2.2]
 have ca:A.cell? ⟨w.heap.size,14,none⟩=some (.int .i64 o.o2):=by simp[World.cell?,HZ.out.2.2]
 have cb:A.cell? ⟨w.heap.size,15,none⟩=some (.int .i64 o.o3):=by simp[World.cell?,HZ.out.2.2]
 clear bj bi
 by_cases K:bits BinOp.and IntKind.i64 o.h 1=1
 focus
  rw[if_pos K]at O
  subst O
  go_upto_region 4 with fail
  clear bB bC K
 rotate_left 1
 focus
  rw[if_neg K]at O
  have bR:(bits BinOp.and IntKind.i64 o.h 1==1)=false:=by simpa using K
  subst O
  go_upto_region 4 with fail
  clear bB bC K bR
 all_goals
  have bA:=Qaw I M D Y A H.out.1.1.x
  have bQ:=Qb5 H.out.1.1.y (by have:=H.out.1.1.ag.small;omega)
  have bz:Js D.pages=Kr6 P:=by
   obtain⟨C,bT,bP,_⟩:=H.out.1.1.ag.ex
   exact bP.used.1
  rw[bz]at bA
  clear bz
  go_wp2_with (first|(go_at_call 19;refine bA.mono ?_;rintro e bU ⟨rfl,bM⟩;obtain rfl:=bM.symm)|(go_at_call 20;refine bQ.mono ?_;rintro e bV ⟨rfl,bN⟩;obtain rfl:=bN.symm))
  go_ret
  exact⟨by simp,(Kst.still H.out.1.1 H.out.1.2.1 H.out.1.2.2.1 (by omega) (Oa5 _ _)).before HZ.out.1⟩
attribute [local go_sem] Oc0
theorem Qak (o:Opx)(wb pa L p R U u:Nat)(M N Y:Nat→Prop)(D:DS)(bz:List TS)(P:List RP)(Rs:List RTb)(bA:Int)(bx:Ksl)(G:Nat→Prop)(w X:World)(J:Kt4 o X wb pa L p R U u M N Y D bz P Rs bA bx G w)(O:p=if bits BinOp.and IntKind.i64 o.h 1=1 then L else pa)(H:o.kind≠1∧o.kind≠2∧o.kind≠3∧o.kind≠4∧o.kind≠5∧o.kind≠6∧o.kind≤6)(Z ba bb br q bu pg pl ex bn:Addr)(bh:Jax X Z ba bb br q bu pg pl ex bn) :
  Calls prog 8 #[.pointer (some ⟨wb,0,none⟩),o.val] w fun e w'=>e=.returned (.bool true)∧Kst w wb pa L p R U M N Y (u+1000) D.writes w':=by
 unfold Opx.val
 go_enter func8,ntmps8
 go_upto_region 1 with fail
 obtain⟨A,bi⟩:∃ A,A=w.alloc (.cells #[.int .i64 o.kind,.int .i64 o.h,.int .i64 o.a,.int .i64 o.b,.int .i64 o.c,.string o.s,.string o.d.name,.slice o.d.at_ o.d.ts.length o.d.ct,.slice o.d.ar o.d.rs.length o.d.cr,.slice o.d.ah o.d.hs.length o.d.ch,.int .i64 o.d.g,.slice o.pa o.pl o.pc,.int .i64 o.o0,.int .i64 o.o1,.int .i64 o.o2,.int .i64 o.o3] 40):=⟨_,rfl⟩
 rw[←bi]
 have HZ:Hid (Below w.heap.size w A∧A.heap.size=w.heap.size+1∧A.heap[w.heap.size]?=some (.cells #[.int .i64 o.kind,.int .i64 o.h,.int .i64 o.a,.int .i64 o.b,.int .i64 o.c,.string o.s,.string o.d.name,.slice o.d.at_ o.d.ts.length o.d.ct,.slice o.d.ar o.d.rs.length o.d.cr,.slice o.d.ah o.d.hs.length o.d.ch,.int .i64 o.d.g,.slice o.pa o.pl o.pc,.int .i64 o.o0,.int .i64 o.o1,.int .i64 o.o2,.int .i64 o.o3] 40 (0,0))):=by
  rw[bi]
  exact⟨(Oa5 _ w).alloc (Oa2 _) _,by simp,heap_alloc_new _ _⟩
 clear bi
 have I:Hid (Kt4 o X wb pa L p R U u M N Y D bz P Rs bA bx G A∧Jax A Z ba bb br q bu pg pl ex bn∧Jax X Z ba bb br q bu pg pl ex bn):=by
  obtain⟨bE,bG,bH,bI,bJ,bB,bc,bf,bK⟩:=J
  exact⟨⟨bE.below HZ.out.1,bG.below HZ.out.1,bH,bI,bJ,Jb bB HZ.out.1,bc,bf,bK⟩,bh.below (Jb bB HZ.out.1),bh⟩
 have bM:Hid (¬ M w.heap.size∧¬ N w.heap.size∧p<w.heap.size):=⟨fun bj=>by have:=J.1.x.lt _ bj;omega,fun bj=>by have:=J.1.y.lt _ bj;omega,Jd J.1.cells⟩
 clear J bh
 have bl:=I.out.1.2.1.law.cells
 have bk:=I.out.1.1.cells
 have bC:A.cell? ⟨wb,0,none⟩=some (.pointer (some ⟨pa,0,none⟩)):=by simp[World.cell?,bl]
 have bD:A.cell? ⟨wb,1,none⟩=some (.pointer (some ⟨L,0,none⟩)):=by simp[World.cell?,bl]
 have ci:A.cell? ⟨p,0,none⟩=some (.pointer (some ⟨R,0,none⟩)):=by simp[World.cell?,bk]
 have cj:A.cell? ⟨p,1,none⟩=some (.pointer (some ⟨U,0,none⟩)):=by simp[World.cell?,bk]
 have c0:A.cell? ⟨w.heap.size,0,none⟩=some (.int .i64 o.kind):=by simp[World.cell?,HZ.out.2.2]
 have c1:A.cell? ⟨w.heap.size,1,none⟩=some (.int .i64 o.h):=by simp[World.cell?,HZ.out.2.2]
 have c2:A.cell? ⟨w.heap.size,2,none⟩=some (.int .i64 o.a):=by simp[World.cell?,HZ.out.2.2]
 have c3:A.cell? ⟨w.heap.size,3,none⟩=some (.int .i64 o.b):=by simp[World.cell?,HZ.out.2.2]
 have c4:A.cell? ⟨w.heap.size,4,none⟩=some (.int .i64 o.c):=by simp[World.cell?,HZ.out.2.2]
 have c5:A.cell? ⟨w.heap.size,5,none⟩=some (.string o.s):=by simp[World.cell?,HZ.out.2.2]
 have bT:A.cell? ⟨w.heap.size,6,none⟩=some (.string o.d.name):=by simp[World.cell?,HZ.out.2.2]
 have bU:A.cell? ⟨w.heap.size,7,none⟩=some (.slice o.d.at_ o.d.ts.length o.d.ct):=by simp[World.cell?,HZ.out.2.2]
 have bV:A.cell? ⟨w.heap.size,8,none⟩=some (.slice o.d.ar o.d.rs.length o.d.cr):=by simp[World.cell?,HZ.out.2.2]
 have bW:A.cell? ⟨w.heap.size,9,none⟩=some (.slice o.d.ah o.d.hs.length o.d.ch):=by simp[World.cell?,HZ.out.2.2]
 have bN:A.cell? ⟨w.heap.size,10,none⟩=some (.int .i64 o.d.g):=by simp[World.cell?,HZ.out.2.2]
 have bO:A.cell? ⟨w.heap.size,11,none⟩=some (.slice o.pa o.pl o.pc):=by simp[World.cell?,HZ.out.2.2]
 have bP:A.cell? ⟨w.heap.size,12,none⟩=some (.int .i64 o.o0):=by simp[World.cell?,HZ.out.2.2]
 have bQ:A.cell? ⟨w.heap.size,13,none⟩=some (.int .i64 o.o1):=by simp[World.cell?,HZ.out.2.2]
 have bR:A.cell? ⟨w.heap.size,14,none⟩=some (.int .i64 o.o2):=by simp[World.cell?,HZ.out.2.2]
 have bS:A.cell? ⟨w.heap.size,15,none⟩=some (.int .i64 o.o3):=by simp[World.cell?,HZ.out.2.2]
 clear bl bk
 by_cases K:bits BinOp.and IntKind.i64 o.h 1=1
 focus
  rw[if_pos K]at O
  subst O
  go_upto_region 4 with fail
  clear bC bD K
 rotate_left 1
 focus
  rw[if_neg K]at O
  have bL:(bits BinOp.and IntKind.i64 o.h 1==1)=false:=by simpa using K
  subst O
  go_upto_region 4 with fail
  clear bC bD K bL
 all_goals
  have n1:(o.kind==1)=false:=by have:=H.1;simpa using this
  have bX:(o.kind==2)=false:=by have:=H.2.1;simpa using this
  have bY:(o.kind==3)=false:=by have:=H.2.2.1;simpa using this
  have bZ:(o.kind==4)=false:=by have:=H.2.2.2.1;simpa using this
  have ca:(o.kind==5)=false:=by have:=H.2.2.2.2.1;simpa using this
  have cb:(o.kind==6)=false:=by have:=H.2.2.2.2.2.1;simpa using this
  have bc:o.kind≠7:=by have:=H.2.2.2.2.2.2;omega
  have bf:o.kind≠8:=by have:=H.2.2.2.2.2.2;omega
  have cc:(o.kind==7)=false:=by simpa using bc
  have cf:(o.kind==8)=false:=by simpa using bf
  clear H
  go_wp2
  go_ret
  exact⟨rfl,(Kst.still I.out.1.1 I.out.1.2.1 I.out.1.2.2.1 (by omega) (Oa5 _ _)).before HZ.out.1⟩
end Go.Proofs.YtcaocabmioafcaaGreatDoor
