/- A step of the law's script of the kind 2. -/
import Derived.Test.YtcaocabmioafcaaGreatDoorQl
set_option maxHeartbeats 2000000
set_option maxRecDepth 100000
namespace Go.Proofs.YtcaocabmioafcaaGreatDoor
open Go.RowKit Go.Shelf Tryz
attribute [local go_sem] Oc0
theorem Qbi (o:Opx)(wb pa ck p bu br u:Nat)(bk bb cG:Nat→Prop)(D:DS)(cR:List TS)(P:List RP)(Rs:List RTb)(cT:Int)(cQ:Ksl)(G:Nat→Prop)(w cB:World)(cj:Kt4 o cB wb pa ck p bu br u bk bb cG D cR P Rs cT cQ G w)(cy:p=if bits BinOp.and IntKind.i64 o.h 1=1 then ck else pa)(dy:o.kind=2)(cn cu cv cA q cC pg pl ex cz:Addr)(cI:Jax cB cn cu cv cA q cC pg pl ex cz) :
  Calls prog 8 #[.pointer (some ⟨wb,0,none⟩),o.val] w fun e w'=>e=.returned (.bool true)∧Kst w wb pa ck p bu br bk bb cG (u+1000) D.writes w':=by
 unfold Opx.val
 rw[dy]
 go_enter func8,ntmps8
 go_upto_region 1 with fail
 obtain⟨I,cJ⟩:∃ I,I=w.alloc (.cells #[.int .i64 2,.int .i64 o.h,.int .i64 o.a,.int .i64 o.b,.int .i64 o.c,.string o.s,.string o.d.name,.slice o.d.at_ o.d.ts.length o.d.ct,.slice o.d.ar o.d.rs.length o.d.cr,.slice o.d.ah o.d.hs.length o.d.ch,.int .i64 o.d.g,.slice o.pa o.pl o.pc,.int .i64 o.o0,.int .i64 o.o1,.int .i64 o.o2,.int .i64 o.o3] 40):=⟨_,rfl⟩
 rw[←cJ]
 have HZ:Hid (Below w.heap.size w I∧I.heap.size=w.heap.size+1∧I.heap[w.heap.size]?=some (.cells #[.int .i64 2,.int .i64 o.h,.int .i64 o.a,.int .i64 o.b,.int .i64 o.c,.string o.s,.string o.d.name,.slice o.d.at_ o.d.ts.length o.d.ct,.slice o.d.ar o.d.rs.length o.d.cr,.slice o.d.ah o.d.hs.length o.d.ch,.int .i64 o.d.g,.slice o.pa o.pl o.pc,.int .i64 o.o0,.int .i64 o.o1,.int .i64 o.o2,.int .i64 o.o3] 40 (0,0))):=by
  rw[cJ]
  exact⟨(Oa5 _ w).alloc (Oa2 _) _,by simp,heap_alloc_new _ _⟩
 clear cJ
 have bf:Hid (Kt4 o cB wb pa ck p bu br u bk bb cG D cR P Rs cT cQ G I∧Jax I cn cu cv cA q cC pg pl ex cz∧Jax cB cn cu cv cA q cC pg pl ex cz):=by
  obtain⟨X,bB,bC,ds,dt,cU,du,dv,dw⟩:=cj
  exact⟨⟨X.below HZ.out.1,bB.below HZ.out.1,bC,ds,dt,Jb cU HZ.out.1,du,dv,dw⟩,cI.below (Jb cU HZ.out.1),cI⟩
 have cf:Hid (¬ bk w.heap.size∧¬ bb w.heap.size∧p<w.heap.size):=⟨fun bE=>by have:=cj.1.x.lt _ bE;omega,fun bE=>by have:=cj.1.y.lt _ bE;omega,Jd cj.1.cells⟩
 clear cj cI
 have cM:=bf.out.1.2.1.law.cells
 have cL:=bf.out.1.1.cells
 have de:I.cell? ⟨wb,0,none⟩=some (.pointer (some ⟨pa,0,none⟩)):=by simp[World.cell?,cM]
 have df:I.cell? ⟨wb,1,none⟩=some (.pointer (some ⟨ck,0,none⟩)):=by simp[World.cell?,cM]
 have cN:I.cell? ⟨p,0,none⟩=some (.pointer (some ⟨bu,0,none⟩)):=by simp[World.cell?,cL]
 have dc:I.cell? ⟨p,1,none⟩=some (.pointer (some ⟨br,0,none⟩)):=by simp[World.cell?,cL]
 have c0:I.cell? ⟨w.heap.size,0,none⟩=some (.int .i64 2):=by simp[World.cell?,HZ.out.2.2]
 have c1:I.cell? ⟨w.heap.size,1,none⟩=some (.int .i64 o.h):=by simp[World.cell?,HZ.out.2.2]
 have c2:I.cell? ⟨w.heap.size,2,none⟩=some (.int .i64 o.a):=by simp[World.cell?,HZ.out.2.2]
 have c3:I.cell? ⟨w.heap.size,3,none⟩=some (.int .i64 o.b):=by simp[World.cell?,HZ.out.2.2]
 have c4:I.cell? ⟨w.heap.size,4,none⟩=some (.int .i64 o.c):=by simp[World.cell?,HZ.out.2.2]
 have c5:I.cell? ⟨w.heap.size,5,none⟩=some (.string o.s):=by simp[World.cell?,HZ.out.2.2]
 have dn:I.cell? ⟨w.heap.size,6,none⟩=some (.string o.d.name):=by simp[World.cell?,HZ.out.2.2]
 have dp:I.cell? ⟨w.heap.size,7,none⟩=some (.slice o.d.at_ o.d.ts.length o.d.ct):=by simp[World.cell?,HZ.out.2.2]
 have dq:I.cell? ⟨w.heap.size,8,none⟩=some (.slice o.d.ar o.d.rs.length o.d.cr):=by simp[World.cell?,HZ.out.2.2]
 have dr:I.cell? ⟨w.heap.size,9,none⟩=some (.slice o.d.ah o.d.hs.length o.d.ch):=by simp[World.cell?,HZ.out.2.2]
 have dh:I.cell? ⟨w.heap.size,10,none⟩=some (.int .i64 o.d.g):=by simp[World.cell?,HZ.out.2.2]
 have di:I.cell? ⟨w.heap.size,11,none⟩=some (.slice o.pa o.pl o.pc):=by simp[World.cell?,HZ.out.2.2]
 have dj:I.cell? ⟨w.heap.size,12,none⟩=some (.int .i64 o.o0):=by simp[World.cell?,HZ.out.2.2]
 have dk:I.cell? ⟨w.heap.size,13,none⟩=some (.int .i64 o.o1):=by simp[World.cell?,HZ.out.2.2]
 have dl:I.cell? ⟨w.heap.size,14,none⟩=some (.int .i64 o.o2):=by simp[World.cell?,HZ.out.2.2]
 have dm:I.cell? ⟨w.heap.size,15,none⟩=some (.int .i64 o.o3):=by simp[World.cell?,HZ.out.2.2]
 clear cM cL
 by_cases bG:bits BinOp.and IntKind.i64 o.h 1=1
 focus
  rw[if_pos bG]at cy
  subst cy
  go_upto_region 4 with fail
  clear de df bG
 rotate_left 1
 focus
  rw[if_neg bG]at cy
  have ca:(bits BinOp.and IntKind.i64 o.h 1==1)=false:=by simpa using bG
  subst cy
  go_upto_region 4 with fail
  clear de df bG ca
 all_goals
  obtain⟨c,Y,bX,bV,bW,da,cW,cX,cY⟩:=bf.out.1.1.drop o.s
  have cD:Hid (Y.writes=D.writes∧Ksb Y bX bV bW∧∀ cl:World,RSt bb cl br D.quota D.fail D.writes P Rs→Calls prog 14 #[.pointer (some ⟨br,0,none⟩),.string o.s] cl fun e cS=>e=.returned (fault c)∧Ju bb cl cS∧∃ bi:Nat→Prop,RSt bi cS br Y.quota Y.fail Y.writes bV bW∧∀ k,bi k→bb k∨cl.heap.size≤k):=⟨da,cW,cY⟩
  have cE:Hid (∀ bj,Below I.heap.size I bj→Calls prog 13 #[.pointer (some ⟨bu,0,none⟩),.string o.s] bj fun e ci=>e=.returned (fault c)∧Ju bk bj ci∧Sto bk ci bu Y bX):=fun bj cx=>cX bj cn cu cv cA q cC pg pl ex cz (bf.out.1.1.x.below cx) (bf.out.2.1.below cx)
  have bl:Hid (p<I.heap.size∧w.heap.size<I.heap.size∧∀ k,bk k→k<I.heap.size):=⟨Jd bf.out.1.1.cells,by have:=HZ.out.2.1;omega,bf.out.1.1.x.lt⟩
  clear da cW cX cY
  go_upto_region 8 with fail
  clear c0 c1 c2 c3 c4 dn dp dq dr dh di dj dk dl dm
  go_cut [6] from 42 to 48 (fun f bU=>∃ A,f=.pointer (some ⟨A,0,none⟩)∧bU.heap[A]?=some (.cells #[.int .i64 c,.int .i64 (-1),.int .i64 (-1),.int .i64 (-1),.int .i64 (-1)] 68 (0,0))∧I.heap.size≤A∧Ju bk I bU∧Sto bk bU bu Y bX)
  case first=>
   refine wp_region_held_drew (S:=fun bj=>bj.cell? ⟨p,0,none⟩=some (.pointer (some ⟨bu,0,none⟩))∧bj.cell? ⟨w.heap.size,5,none⟩=some (.string o.s)) (by kernel_rfl) ⟨Jh cN,Jh c5⟩ (fun K=>?_)
   refine Kn 0 rfl K ?_
   refine Kn 1 rfl K ?_
   refine Kn 2 rfl K ?_
   refine Kn 3 rfl K ?_
   refine Kn 4 rfl K ?_
   refine Kn 5 rfl K ?_
   refine tkn ?_
   refine wpAnyH_ready (rs:=[6,7]) (by kernel_rfl) (by simp) (AllReadyH.cons rfl (fun U N=>?_) (AllReadyH.cons rfl (fun U N=>?_) AllReadyH.nil))
   ·go_simp
    refine(cE.out I.drew (Jj (Oa5 _ _))).mono ?_
    rintro e H ⟨rfl,M,bP⟩
    have ba:Hid (Ju bk I H∧Sto bk H bu Y bX):=⟨⟨M.os,M.tape,M.output,M.size,M.block⟩,bP⟩
    go_simp
    refine N.out _ _ ⟨M.cell K.1 bf.out.1.1.np.1,M.cell K.2 cf.out.1⟩ (fun K=>?_)
    clear N U M
    refine tkr 7 rfl fun U N=>?_
    go_simp
    have bD:Below H.heap.size H (H.alloc Ka):=(Oa5 _ H).alloc (Oa2 _) Ka
    have J:=heap_alloc_new H Ka
    refine N.out _ _ ⟨Ja bD K.1,Ja bD K.2⟩ (fun K=>?_)
    clear N U
    have cc:Hid (Ju (fun k=>k=H.heap.size) H (H.alloc Ka)):=Ju.of_below bD
    obtain⟨A,Z⟩:∃ A,A=H.heap.size:=⟨_,rfl⟩
    have bc:Hid (A=H.heap.size∧I.heap.size≤A∧Ju (fun k=>k=A) H (H.alloc Ka)):=⟨Z,by rw[Z];exact ba.out.1.size,by rw[Z];exact cc.out⟩
    generalize H.alloc Ka=O at J K bc ⊢
    rw[←Z]at J ⊢
    clear bD cc Z
    have k0:O.cell? ⟨A,0,none⟩=some (.int .i64 0):=by simp[World.cell?,J]
    have k1:O.cell? ⟨A,1,none⟩=some (.int .i64 0):=by simp[World.cell?,J]
    have bR:O.cell? ⟨A,2,none⟩=some (.int .i64 0):=by simp[World.cell?,J]
    have bS:O.cell? ⟨A,3,none⟩=some (.int .i64 0):=by simp[World.cell?,J]
    have bT:O.cell? ⟨A,4,none⟩=some (.int .i64 0):=by simp[World.cell?,J]
    have bK:O.frozen? ⟨A,0,none⟩=false:=by simp[World.frozen?,J]
    have bL:O.frozen? ⟨A,1,none⟩=false:=by simp[World.frozen?,J]
    have bM:O.frozen? ⟨A,2,none⟩=false:=by simp[World.frozen?,J]
    have bN:O.frozen? ⟨A,3,none⟩=false:=by simp[World.frozen?,J]
    have bO:O.frozen? ⟨A,4,none⟩=false:=by simp[World.frozen?,J]
    have bn:=Jk (Jk (Jk (Jk (Jk J 0 (.int .i64 c)) 1 (.int .i64 (-1))) 2 (.int .i64 (-1))) 3 (.int .i64 (-1))) 4 (.int .i64 (-1))
    simp only[Oa1,List.set_cons_zero,List.set_cons_succ]at bn
    have bH:Hid _:=bn
    have R:Hid (Ju (fun k=>k=A) O (((((O.setCell ⟨A,0,none⟩ (.int .i64 c)).setCell ⟨A,1,none⟩ (.int .i64 (-1))).setCell ⟨A,2,none⟩ (.int .i64 (-1))).setCell ⟨A,3,none⟩ (.int .i64 (-1))).setCell ⟨A,4,none⟩ (.int .i64 (-1)))):=Ksa _ _ _ _ _ _ _
    clear J bn
    refine tkr 8 rfl fun U N=>?_
    go_simp
    refine N.out _ _ ⟨R.out.cell K.1 (by have X:=bc.out;have bC:=bl.out;omega),R.out.cell K.2 (by have X:=bc.out;have bC:=bl.out;omega)⟩ (fun _=>?_)
    clear N U k0 k1 bR bS bT bK bL bM bN bO K
    refine wpAnyH_done (by kernel_rfl) ?_ _
    go_wp2_with fail
    go_meet
    case rel=>exact⟨A,rfl,bH.out,bc.out.2.1,Ks6 ba.out.1 (bc.out.2.2.trans R.out) bc.out.2.1,ba.out.2.stands (bc.out.2.2.trans R.out).size fun k hk=>(bc.out.2.2.trans R.out).block k (ba.out.2.lt k hk) fun e=>by have X:=bl.out.2.2 k hk;have bB:=bc.out.2.1;omega⟩
   go_simp
   have bx:Below I.heap.size I (I.alloc Ka).drew:=Jj ((Oa5 _ I).alloc (Oa2 _) Ka)
   have bz:(I.alloc Ka).drew.heap[I.heap.size]?=some Ka:=heap_alloc_new I Ka
   have bQ:(I.alloc Ka).drew.heap.size=I.heap.size+1:=Oa7 I Ka
   refine N.out _ _ ⟨Ja bx cN,Ja bx c5⟩ (fun K=>?_)
   clear N U
   generalize (I.alloc Ka).drew=bJ at bz bQ K bx ⊢
   obtain⟨A,Z⟩:∃ A,A=I.heap.size:=⟨_,rfl⟩
   rw[←Z]at bz ⊢
   have bh:Hid (Below I.heap.size I bJ∧bJ.heap.size=I.heap.size+1∧A=I.heap.size):=⟨bx,bQ,Z⟩
   clear Z bQ bx
   refine tkr 6 rfl fun U N=>?_
   go_simp
   refine(cE.out bJ (bh.out.1)).mono ?_
   rintro e H ⟨rfl,M,bP⟩
   go_simp
   have cb:¬ bk A:=fun bE=>by have X:=bl.out.2.2 _ bE;have bB:=bh.out.2.2;omega
   have J:=(M.block _ (Jd bz) cb).trans bz
   have ba:Hid (Ju bk I H∧Sto bk H bu Y bX):=⟨(Ju.of_below bh.out.1).trans M,bP⟩
   refine N.out _ _ ⟨M.cell K.1 bf.out.1.1.np.1,M.cell K.2 cf.out.1⟩ (fun K=>?_)
   clear N U M bz cb
   have k0:H.cell? ⟨A,0,none⟩=some (.int .i64 0):=by simp[World.cell?,J]
   have k1:H.cell? ⟨A,1,none⟩=some (.int .i64 0):=by simp[World.cell?,J]
   have bR:H.cell? ⟨A,2,none⟩=some (.int .i64 0):=by simp[World.cell?,J]
   have bS:H.cell? ⟨A,3,none⟩=some (.int .i64 0):=by simp[World.cell?,J]
   have bT:H.cell? ⟨A,4,none⟩=some (.int .i64 0):=by simp[World.cell?,J]
   have bK:H.frozen? ⟨A,0,none⟩=false:=by simp[World.frozen?,J]
   have bL:H.frozen? ⟨A,1,none⟩=false:=by simp[World.frozen?,J]
   have bM:H.frozen? ⟨A,2,none⟩=false:=by simp[World.frozen?,J]
   have bN:H.frozen? ⟨A,3,none⟩=false:=by simp[World.frozen?,J]
   have bO:H.frozen? ⟨A,4,none⟩=false:=by simp[World.frozen?,J]
   have bn:=Jk (Jk (Jk (Jk (Jk J 0 (.int .i64 c)) 1 (.int .i64 (-1))) 2 (.int .i64 (-1))) 3 (.int .i64 (-1))) 4 (.int .i64 (-1))
   simp only[Oa1,List.set_cons_zero,List.set_cons_succ]at bn
   have bH:Hid _:=bn
   have R:Hid (Ju (fun k=>k=A) H (((((H.setCell ⟨A,0,none⟩ (.int .i64 c)).setCell ⟨A,1,none⟩ (.int .i64 (-1))).setCell ⟨A,2,none⟩ (.int .i64 (-1))).setCell ⟨A,3,none⟩ (.int .i64 (-1))).setCell ⟨A,4,none⟩ (.int .i64 (-1)))):=Ksa _ _ _ _ _ _ _
   clear J bn
   refine tkr 8 rfl fun U N=>?_
   go_simp
   refine N.out _ _ ⟨R.out.cell K.1 (by have X:=bh.out;have bC:=bl.out;omega),R.out.cell K.2 (by have X:=bh.out;have bC:=bl.out;omega)⟩ (fun _=>?_)
   clear N U k0 k1 bR bS bT bK bL bM bN bO K
   refine wpAnyH_done (by kernel_rfl) ?_ _
   go_wp2_with fail
   go_meet
   case rel=>exact⟨A,rfl,bH.out,(by have X:=bh.out.2.2;omega),Ks6 ba.out.1 R.out (by have X:=bh.out.2.2;omega),ba.out.2.stands R.out.size fun k hk=>R.out.block k (ba.out.2.lt k hk) fun e=>by have X:=bl.out.2.2 k hk;have bB:=bh.out.2.2;omega⟩
  case rest=>
   obtain⟨A,rfl,Z,cZ,M,bG⟩:=hcut
   obtain⟨L,rfl⟩:∃ L,L=wc:=⟨_,rfl⟩
   have bI:Hid (Ju bk I L∧Sto bk L bu Y bX∧RSt bb L br D.quota D.fail D.writes P Rs∧L.heap[A]?=some (.cells #[.int .i64 c,.int .i64 (-1),.int .i64 (-1),.int .i64 (-1),.int .i64 (-1)] 68 (0,0))∧I.heap.size≤A):=⟨M,bG,bf.out.1.1.y.stands M.size fun k hk=>M.block k (bf.out.1.1.y.lt k hk) fun bE=>bf.out.1.1.apart k bE hk,Z,cZ⟩
   have cO:=M.cell dc bf.out.1.1.np.1
   have cH:=M.cell c5 cf.out.1
   have cF:Hid (∀ bj,Below L.heap.size L bj→Calls prog 14 #[.pointer (some ⟨br,0,none⟩),.string o.s] bj fun e ci=>e=.returned (fault c)∧Ju bb bj ci∧∃ bi:Nat→Prop,RSt bi ci br Y.quota Y.fail Y.writes bV bW∧∀ k,bi k→bb k∨bj.heap.size≤k):=fun bj cx=>cD.out.2.2 bj (bI.out.2.2.1.below cx)
   have cP:Hid (p<L.heap.size∧w.heap.size<L.heap.size∧∀ k,bb k→k<L.heap.size):=⟨by have X:=bl.out.1;have bB:=M.size;omega,by have X:=bl.out.2.1;have bB:=M.size;omega,bI.out.2.2.1.lt⟩
   clear bl
   have bl:Hid (p<L.heap.size∧w.heap.size<L.heap.size∧∀ k,bb k→k<L.heap.size):=cP.out
   clear cP Z cZ M bG cN dc c5 cE
   go_upto_region 9 with fail
   go_cut [7] from 49 to 55 (fun f bU=>∃ bA,f=.pointer (some ⟨bA,0,none⟩)∧bU.heap[bA]?=some (.cells #[.int .i64 c,.int .i64 (-1),.int .i64 (-1),.int .i64 (-1),.int .i64 (-1)] 68 (0,0))∧L.heap.size≤bA∧Ju bb L bU∧∃ bi:Nat→Prop,RSt bi bU br Y.quota Y.fail Y.writes bV bW∧∀ k,bi k→bb k∨L.heap.size≤k)
   case first=>
    refine wp_region_held_drew (S:=fun bj=>bj.cell? ⟨p,1,none⟩=some (.pointer (some ⟨br,0,none⟩))∧bj.cell? ⟨w.heap.size,5,none⟩=some (.string o.s)) (by kernel_rfl) ⟨Jh cO,Jh cH⟩ (fun K=>?_)
    refine Kn 0 rfl K ?_
    refine Kn 1 rfl K ?_
    refine Kn 2 rfl K ?_
    refine Kn 3 rfl K ?_
    refine Kn 4 rfl K ?_
    refine Kn 5 rfl K ?_
    refine tkn ?_
    refine wpAnyH_ready (rs:=[6,7]) (by kernel_rfl) (by simp) (AllReadyH.cons rfl (fun U N=>?_) (AllReadyH.cons rfl (fun U N=>?_) AllReadyH.nil))
    ·go_simp
     refine(cF.out L.drew (Jj (Oa5 _ _))).mono ?_
     rintro e H ⟨rfl,M,bi,bP,ca⟩
     have ba:Hid (Ju bb L H∧RSt bi H br Y.quota Y.fail Y.writes bV bW∧(∀ k,bi k→bb k∨L.heap.size≤k)∧True):=⟨⟨M.os,M.tape,M.output,M.size,M.block⟩,bP,ca,trivial⟩
     go_simp
     refine N.out _ _ ⟨M.cell K.1 bf.out.1.1.np.2,M.cell K.2 cf.out.2.1⟩ (fun K=>?_)
     clear N U M
     refine tkr 7 rfl fun U N=>?_
     go_simp
     have bD:Below H.heap.size H (H.alloc Ka):=(Oa5 _ H).alloc (Oa2 _) Ka
     have J:=heap_alloc_new H Ka
     refine N.out _ _ ⟨Ja bD K.1,Ja bD K.2⟩ (fun K=>?_)
     clear N U
     have cc:Hid (Ju (fun k=>k=H.heap.size) H (H.alloc Ka)):=Ju.of_below bD
     obtain⟨A,Z⟩:∃ A,A=H.heap.size:=⟨_,rfl⟩
     have bc:Hid (A=H.heap.size∧L.heap.size≤A∧Ju (fun k=>k=A) H (H.alloc Ka)):=⟨Z,by rw[Z];exact ba.out.1.size,by rw[Z];exact cc.out⟩
     generalize H.alloc Ka=O at J K bc ⊢
     rw[←Z]at J ⊢
     clear bD cc Z
     have k0:O.cell? ⟨A,0,none⟩=some (.int .i64 0):=by simp[World.cell?,J]
     have k1:O.cell? ⟨A,1,none⟩=some (.int .i64 0):=by simp[World.cell?,J]
     have bR:O.cell? ⟨A,2,none⟩=some (.int .i64 0):=by simp[World.cell?,J]
     have bS:O.cell? ⟨A,3,none⟩=some (.int .i64 0):=by simp[World.cell?,J]
     have bT:O.cell? ⟨A,4,none⟩=some (.int .i64 0):=by simp[World.cell?,J]
     have bK:O.frozen? ⟨A,0,none⟩=false:=by simp[World.frozen?,J]
     have bL:O.frozen? ⟨A,1,none⟩=false:=by simp[World.frozen?,J]
     have bM:O.frozen? ⟨A,2,none⟩=false:=by simp[World.frozen?,J]
     have bN:O.frozen? ⟨A,3,none⟩=false:=by simp[World.frozen?,J]
     have bO:O.frozen? ⟨A,4,none⟩=false:=by simp[World.frozen?,J]
     have bn:=Jk (Jk (Jk (Jk (Jk J 0 (.int .i64 c)) 1 (.int .i64 (-1))) 2 (.int .i64 (-1))) 3 (.int .i64 (-1))) 4 (.int .i64 (-1))
     simp only[Oa1,List.set_cons_zero,List.set_cons_succ]at bn
     have bH:Hid _:=bn
     have R:Hid (Ju (fun k=>k=A) O (((((O.setCell ⟨A,0,none⟩ (.int .i64 c)).setCell ⟨A,1,none⟩ (.int .i64 (-1))).setCell ⟨A,2,none⟩ (.int .i64 (-1))).setCell ⟨A,3,none⟩ (.int .i64 (-1))).setCell ⟨A,4,none⟩ (.int .i64 (-1)))):=Ksa _ _ _ _ _ _ _
     clear J bn
     refine tkr 8 rfl fun U N=>?_
     go_simp
     refine N.out _ _ ⟨R.out.cell K.1 (by have X:=bc.out;have bC:=bl.out;omega),R.out.cell K.2 (by have X:=bc.out;have bC:=bl.out;omega)⟩ (fun _=>?_)
     clear N U k0 k1 bR bS bT bK bL bM bN bO K
     refine wpAnyH_done (by kernel_rfl) ?_ _
     go_wp2_with fail
     go_meet
     case rel=>exact⟨A,rfl,bH.out,bc.out.2.1,Ks6 ba.out.1 (bc.out.2.2.trans R.out) bc.out.2.1,bi,ba.out.2.1.stands (bc.out.2.2.trans R.out).size (fun k hk=>(bc.out.2.2.trans R.out).block k (ba.out.2.1.lt k hk) fun e=>by have X:=ba.out.2.1.lt k hk;have bB:=bc.out.1;omega),ba.out.2.2.1⟩
    go_simp
    have bx:Below L.heap.size L (L.alloc Ka).drew:=Jj ((Oa5 _ L).alloc (Oa2 _) Ka)
    have bz:(L.alloc Ka).drew.heap[L.heap.size]?=some Ka:=heap_alloc_new L Ka
    have bQ:(L.alloc Ka).drew.heap.size=L.heap.size+1:=Oa7 L Ka
    refine N.out _ _ ⟨Ja bx cO,Ja bx cH⟩ (fun K=>?_)
    clear N U
    generalize (L.alloc Ka).drew=bJ at bz bQ K bx ⊢
    obtain⟨A,Z⟩:∃ A,A=L.heap.size:=⟨_,rfl⟩
    rw[←Z]at bz ⊢
    have bh:Hid (Below L.heap.size L bJ∧bJ.heap.size=L.heap.size+1∧A=L.heap.size):=⟨bx,bQ,Z⟩
    clear Z bQ bx
    refine tkr 6 rfl fun U N=>?_
    go_simp
    refine(cF.out bJ (bh.out.1)).mono ?_
    rintro e H ⟨rfl,M,bi,bP,ca⟩
    go_simp
    have cb:¬ bb A:=fun bE=>by have X:=bl.out.2.2 _ bE;have bB:=bh.out.2.2;omega
    have J:=(M.block _ (Jd bz) cb).trans bz
    have ba:Hid (Ju bb L H∧RSt bi H br Y.quota Y.fail Y.writes bV bW∧(∀ k,bi k→bb k∨L.heap.size≤k)∧¬ bi A):=⟨(Ju.of_below bh.out.1).trans M,bP,fun k hk=>(ca k hk).imp_right fun a=>by have X:=bh.out.2.1;omega,fun e=>(ca _ e).elim cb fun a=>by have X:=bh.out.2;omega⟩
    refine N.out _ _ ⟨M.cell K.1 bf.out.1.1.np.2,M.cell K.2 cf.out.2.1⟩ (fun K=>?_)
    clear N U M bz cb
    have k0:H.cell? ⟨A,0,none⟩=some (.int .i64 0):=by simp[World.cell?,J]
    have k1:H.cell? ⟨A,1,none⟩=some (.int .i64 0):=by simp[World.cell?,J]
    have bR:H.cell? ⟨A,2,none⟩=some (.int .i64 0):=by simp[World.cell?,J]
    have bS:H.cell? ⟨A,3,none⟩=some (.int .i64 0):=by simp[World.cell?,J]
    have bT:H.cell? ⟨A,4,none⟩=some (.int .i64 0):=by simp[World.cell?,J]
    have bK:H.frozen? ⟨A,0,none⟩=false:=by simp[World.frozen?,J]
    have bL:H.frozen? ⟨A,1,none⟩=false:=by simp[World.frozen?,J]
    have bM:H.frozen? ⟨A,2,none⟩=false:=by simp[World.frozen?,J]
    have bN:H.frozen? ⟨A,3,none⟩=false:=by simp[World.frozen?,J]
    have bO:H.frozen? ⟨A,4,none⟩=false:=by simp[World.frozen?,J]
    have bn:=Jk (Jk (Jk (Jk (Jk J 0 (.int .i64 c)) 1 (.int .i64 (-1))) 2 (.int .i64 (-1))) 3 (.int .i64 (-1))) 4 (.int .i64 (-1))
    simp only[Oa1,List.set_cons_zero,List.set_cons_succ]at bn
    have bH:Hid _:=bn
    have R:Hid (Ju (fun k=>k=A) H (((((H.setCell ⟨A,0,none⟩ (.int .i64 c)).setCell ⟨A,1,none⟩ (.int .i64 (-1))).setCell ⟨A,2,none⟩ (.int .i64 (-1))).setCell ⟨A,3,none⟩ (.int .i64 (-1))).setCell ⟨A,4,none⟩ (.int .i64 (-1)))):=Ksa _ _ _ _ _ _ _
    clear J bn
    refine tkr 8 rfl fun U N=>?_
    go_simp
    refine N.out _ _ ⟨R.out.cell K.1 (by have X:=bh.out;have bC:=bl.out;omega),R.out.cell K.2 (by have X:=bh.out;have bC:=bl.out;omega)⟩ (fun _=>?_)
    clear N U k0 k1 bR bS bT bK bL bM bN bO K
    refine wpAnyH_done (by kernel_rfl) ?_ _
    go_wp2_with fail
    go_meet
    case rel=>exact⟨A,rfl,bH.out,(by have X:=bh.out.2.2;omega),Ks6 ba.out.1 R.out (by have X:=bh.out.2.2;omega),bi,ba.out.2.1.stands R.out.size (fun k hk=>R.out.block k (ba.out.2.1.lt k hk) fun e=>by exact ba.out.2.2.2 (e▸hk)),ba.out.2.2.1⟩
   case rest=>
    obtain⟨bA,rfl,bZ,dx,cK,bi,db,cV⟩:=hcut
    have bY:=(cK.block A (Jd bI.out.2.2.2.1) fun dz=>by have X:=bf.out.1.1.y.lt _ dz;have bB:=bI.out.2.2.2.2;omega).trans bI.out.2.2.2.1
    have dg:Hid (Kuh I p bu br bk bb D.writes wc):=bf.out.1.1.after bI.out.1 bI.out.2.1 (Oa5 _ _) cK db cV cD.out.2.1 cD.out.1
    have u0:wc.cell? ⟨A,0,none⟩=some (.int .i64 c):=by simp[World.cell?,bY]
    have u1:wc.cell? ⟨A,1,none⟩=some (.int .i64 (-1)):=by simp[World.cell?,bY]
    have u2:wc.cell? ⟨A,2,none⟩=some (.int .i64 (-1)):=by simp[World.cell?,bY]
    have u3:wc.cell? ⟨A,3,none⟩=some (.int .i64 (-1)):=by simp[World.cell?,bY]
    have u4:wc.cell? ⟨A,4,none⟩=some (.int .i64 (-1)):=by simp[World.cell?,bY]
    have dB:wc.cell? ⟨bA,0,none⟩=some (.int .i64 c):=by simp[World.cell?,bZ]
    have dC:wc.cell? ⟨bA,1,none⟩=some (.int .i64 (-1)):=by simp[World.cell?,bZ]
    have dD:wc.cell? ⟨bA,2,none⟩=some (.int .i64 (-1)):=by simp[World.cell?,bZ]
    have dE:wc.cell? ⟨bA,3,none⟩=some (.int .i64 (-1)):=by simp[World.cell?,bZ]
    have dG:wc.cell? ⟨bA,4,none⟩=some (.int .i64 (-1)):=by simp[World.cell?,bZ]
    have dA:=Ktl c (-1) (-1) (-1) (-1)
    clear bZ dx cK db cV bY cO cH cF
    go_wp2
    go_ret
    exact⟨rfl,(Kst.of_pair bf.out.1.2.1 bf.out.1.2.2.1 (by omega) dg.out).before HZ.out.1⟩
end Go.Proofs.YtcaocabmioafcaaGreatDoor
