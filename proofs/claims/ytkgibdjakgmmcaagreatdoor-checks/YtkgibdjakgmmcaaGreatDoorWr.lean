/- One Check in both stores. -/
import Derived.Test.YtkgibdjakgmmcaaGreatDoorWq
set_option maxHeartbeats 4000000
set_option maxRecDepth 100000
namespace Go.Proofs.YtkgibdjakgmmcaaGreatDoor
open Go.RowKit Go.Shelf
attribute [local go_sem] Oper.semAt_some
def LvIs (B:Nat)(o:Option Int)(sch:List Int)(lv:Value)(w:World):Prop:=match o with
 |some _=>lv=.slice none 0 0
 |none=>∃ a c,lv=.slice a sch.length c∧Ints w a sch∧∀ b o,a=some ⟨b,o,none⟩→B≤b
def MvIs (o:Option Int)(scs:List (List Int))(mv:Value)(w:World):Prop:=match o with
 |some _=>mv=.slice none 0 0
 |none=>∃ b off c,mv=.slice (some ⟨b,off,none⟩) scs.length c∧KnAt w (some ⟨b,off,none⟩) scs
theorem lv_below {B:Nat}{o:Option Int}{sch:List Int}{lv:Value}{w X:World}(h:LvIs B o sch lv w)(hb:Below w.heap.size w X):LvIs 0 o sch lv X:=by
 unfold LvIs at h ⊢
 cases o with
 |some i=>exact h
 |none=>
  obtain⟨a,c,h1,h2,_⟩:=h
  exact⟨a,c,h1,h2.below hb,fun _ _ _=>Nat.zero_le _⟩
theorem lv_keep {B fa:Nat}{o:Option Int}{sch:List Int}{lv:Value}{w X:World}(h:LvIs B o sch lv w)(hf:fa<B)(hk:Keep (fun k=>k=fa) w X):LvIs 0 o sch lv X:=by
 unfold LvIs at h ⊢
 cases o with
 |some i=>exact h
 |none=>
  obtain⟨a,c,h1,h2,h3⟩:=h
  exact⟨a,c,h1,h2.of_block hk.size fun b o e hb=>hk.block b hb (by have:=h3 b o e;omega),fun _ _ _=>Nat.zero_le _⟩
theorem mv_below {o:Option Int}{scs:List (List Int)}{mv:Value}{w X:World}(h:MvIs o scs mv w)(hb:Below w.heap.size w X):MvIs o scs mv X:=by
 unfold MvIs at h ⊢
 cases o with
 |some i=>exact h
 |none=>
  obtain⟨b,off,c,h1,h2⟩:=h
  exact⟨b,off,c,h1,h2.below hb⟩
theorem mv_keep {fa:Nat}{o:Option Int}{scs:List (List Int)}{mv:Value}{w X:World}(h:MvIs o scs mv w)(hz:w.heap[fa]?=some zeroFault)(hk:Keep (fun k=>k=fa) w X):MvIs o scs mv X:=by
 unfold MvIs at h ⊢
 cases o with
 |some i=>exact h
 |none=>
  obtain⟨b,off,c,h1,h2⟩:=h
  refine⟨b,off,c,h1,fun i s hi=>?_⟩
  obtain⟨b',o',sa,sc,e,q1,q2,q3⟩:=h2 i s hi
  cases e
  have hb:b≠fa:=fun e=>by
   subst e
   simp only[World.cell?,hz]at q1
   generalize off+i=m at q1
   rcases m with _|_|_|_|_|m<;>simp at q1
  have hsa:∀ g o,sa=some ⟨g,o,none⟩→X.heap[g]?=w.heap[g]?:=fun g o e=>by
   obtain⟨cur,hc⟩:=q3 g o e
   refine hk.block g (lt_of_heap hc) fun e2=>?_
   subst e2
   rw[hz]at hc
   simp at hc
  exact⟨b,off,sa,sc,rfl,by rw[World.cell?_of_block (hk.block b (lt_of_cell q1) hb)];exact q1,q2.of_block hk.size fun g o e _=>hsa g o e,fun g o e=>by
   obtain⟨cur,hc⟩:=q3 g o e
   exact⟨cur,(hsa g o e).trans hc⟩⟩
def LChkP (w:World)(e:Ending)(w':World):Prop:=Below w.heap.size w w'∧∃ lv,e=.returned (.tuple #[lv,.bool true])
theorem lCheck_any (pb sx sy:Nat)(M N:Nat→Prop)(D:DS)(Ts:List TS)(np:Nat)(a:Option Addr)(nc:Nat)(nds:List Nd)(ns:List QN)(w:World)(h:PairAt w pb sx sy M N D Ts np)(hP:PlnAt w a nds ns)(hz:PlnSz ns)(a0 a1 a2 tt q wr_ pg pl ex ta:Addr)(hN:Names w a0 a1 a2 tt q wr_ pg pl ex ta) :
  Calls Tryz.prog 5 #[.pointer (some ⟨pb,0,none⟩),.agg #[.slice a ns.length nc]] w (LChkP w):=by
 obtain⟨scs,hscs⟩:=pchk_ex (tysOf Ts) ns
 obtain⟨o,ho⟩:∃ o,badN ns scs=o:=⟨_,rfl⟩
 obtain⟨sch,hsch⟩:∃ sch,lastS ns scs=sch:=⟨_,rfl⟩
 obtain⟨cd,nn,hcn⟩:∃ cd nn:Int,(cd,nn)=match o with|some i=>(8,i)|none=>(0,-1):=⟨_,_,rfl⟩
 have HP:Hid (PairAt w pb sx sy M N D Ts np∧PlnAt w a nds ns∧PlnSz ns∧Names w a0 a1 a2 tt q wr_ pg pl ex ta):=⟨h,hP,hz,hN⟩
 have HO:Hid (((∃ i,o=some i)∧cd=8∨o=none∧cd=0∧nn=-1∧1≤scs.length∧scs[scs.length-1]?=some sch∧sch.length≤12∧scs.length≤12)):=by
  cases o with
  |some i=>cases hcn;exact .inl ⟨⟨_,rfl⟩,rfl⟩
  |none=>
   cases hcn
   refine .inr ⟨rfl,rfl,rfl,?_⟩
   have hty:∀ n s,tysOf Ts n=some s→SchOk s:=fun n s hs=>by
    obtain⟨T,hT',rfl⟩:=Option.map_eq_some_iff.1 hs
    exact h.tys T (List.mem_of_getElem? hT')
   have hin:=hscs.schs hty
   unfold badN at ho
   split at ho
   ·rename_i hnn
    have hle:scs.length=ns.length:=by
     cases hb:badAt ns scs with
     |some i=>rw[hb]at ho;cases ho
     |none=>
      unfold badAt at hb
      split at hb
      ·cases hb
      have:=hscs.le;omega
    have hl:scs.length-1<scs.length:=by omega
    have e:scs[scs.length-1]?=some sch:=by
     rw[←hsch]
     unfold lastS
     rw[←hle,List.getD_eq_getElem?_getD,List.getElem?_eq_getElem hl]
     rfl
    exact⟨by omega,e,(hin sch (List.mem_of_getElem? e)).1.2,by omega⟩
   cases ho
 have HCX:Hid (∀ X nb nds',Below w.heap.size w X→PlnOwn X nb nds' ns→Calls Tryz.prog 12 #[.pointer (some ⟨sx,0,none⟩),.agg #[.slice (some ⟨nb,0,none⟩) ns.length (ns.length+1)]] X fun e X'=>∃ lv,e=.returned (.tuple #[lv,faultR cd nn (-1) (-1) (-1)])∧Below X.heap.size X X'∧LvIs X.heap.size o sch lv X'):=fun X nb nds' hX hO=>by
  refine(Check_any M sx D Ts X (HP.out.1.x.below hX) HP.out.1.tys (some ⟨nb,0,none⟩) (ns.length+1) nds' ns hO.pln scs hscs a0 a1 a2 tt q wr_ pg pl ex ta (HP.out.2.2.2.below hX)).mono fun e X' hp=>?_
  rw[ho,hsch]at hp
  obtain⟨hb,hp⟩:=hp
  cases o with
  |some i=>cases hcn;exact⟨_,hp,hb,rfl⟩
  |none=>
   cases hcn
   obtain⟨a',c',h1,h2,h3⟩:=hp
   exact⟨_,h1,hb,a',c',rfl,h2,h3⟩
 have HCY:Hid (∀ X,Below w.heap.size w X→Calls Tryz.prog 14 #[.pointer (some ⟨sy,0,none⟩),.agg #[.slice a ns.length nc]] X fun e X'=>∃ mv,e=.returned (.tuple #[mv,faultR cd nn (-1) (-1) (-1)])∧Below X.heap.size X X'∧MvIs o scs mv X'):=fun X hX=>by
  refine(rCheck_any sy (Ts.map fun T=>(T.name,T.types)) a nc nds ns scs X (HP.out.2.1.below hX) (HP.out.1.y.below hX).tabs (by rw[List.length_map];have:=HP.out.1.few;omega) (fun R hR=>by
   obtain⟨T,hT,rfl⟩:=List.mem_map.1 hR
   exact HP.out.1.tys T hT) (by rw[tysR_map];exact hscs) (fun n hn=>(HP.out.2.2.1.2 n hn).1)).mono fun e X' hp=>?_
  rw[ho]at hp
  obtain⟨hb,hp⟩:=hp
  cases o with
  |some i=>cases hcn;exact⟨_,hp,hb,rfl⟩
  |none=>
   cases hcn
   obtain⟨b',o',c',h1,h2⟩:=hp
   exact⟨_,h1,hb,b',o',c',rfl,h2⟩
 clear h hP hz hN hscs ho hsch hcn
 go_enter Tryz.func5,Tryz.ntmps5
 go_upto_region 1 with fail
 obtain⟨W,hW⟩:∃ W,W=w.alloc (.cells #[.slice a ns.length nc] 25):=⟨_,rfl⟩
 rw[←hW]
 have HW:Hid (Below w.heap.size w W∧W.heap.size=w.heap.size+1∧W.heap[w.heap.size]?=some (.cells #[.slice a ns.length nc] 25 (0,0))):=by
  rw[hW]
  exact⟨(Below.refl _ w).alloc (Nat.le_refl _) _,by simp,heap_alloc_new _ _⟩
 clear hW
 have c0:W.cell? ⟨w.heap.size,0,none⟩=some (.slice a ns.length nc):=by simp[World.cell?,HW.out.2.2]
 have hpl:=lPlan_any a nc nds ns W (HP.out.2.1.below HW.out.1) HP.out.2.2.1
 go_upto_region 2 with(go_at_call 11;refine hpl.mono ?_;rintro e W1 ⟨hb1,nb,nds',rfl,hO1⟩)
 clear hpl c0
 obtain⟨Z,hZ⟩:∃ Z,Z=W1.alloc (.cells #[.slice (some ⟨nb,0,none⟩) ns.length (ns.length+1)] 25):=⟨_,rfl⟩
 rw[←hZ]
 obtain⟨ob,hob⟩:∃ ob,ob=W1.heap.size:=⟨_,rfl⟩
 rw[←hob]
 have HZ:Hid (Below w.heap.size w Z∧PlnOwn Z nb nds' ns∧Z.heap[ob]?=some (.cells #[.slice (some ⟨nb,0,none⟩) ns.length (ns.length+1)] 25 (0,0))∧Z.heap[w.heap.size]?=some (.cells #[.slice a ns.length nc] 25 (0,0))):=by
  have hbZ:Below W1.heap.size W1 Z:=by rw[hZ];exact(Below.refl _ _).alloc (Nat.le_refl _) _
  exact⟨below_then HW.out.1 (below_then hb1 hbZ),hO1.below hbZ,by rw[hZ,hob];exact heap_alloc_new _ _,((below_then hb1 hbZ).block _ (by have:=HW.out.2.1;omega)).trans HW.out.2.2⟩
 clear hZ hob hb1 hO1 HW
 have p0:Z.cell? ⟨pb,0,none⟩=some (.pointer (some ⟨sx,0,none⟩)):=by
  have hp:=(HZ.out.1.block _ (lt_of_heap HP.out.1.cells)).trans HP.out.1.cells
  simp[World.cell?,hp]
 have d0:Z.cell? ⟨ob,0,none⟩=some (.slice (some ⟨nb,0,none⟩) ns.length (ns.length+1)):=by simp[World.cell?,HZ.out.2.2.1]
 go_cut [7,8] from 15 to 23 (fun lv fv wx=>∃ fa,fv=.pointer (some ⟨fa,0,none⟩)∧wx.heap[fa]?=some (.cells #[.int .i64 cd,.int .i64 nn,.int .i64 (-1),.int .i64 (-1),.int .i64 (-1)] 52 (0,0))∧Z.heap.size≤fa∧Below Z.heap.size Z wx∧LvIs 0 o sch lv wx)
 case first=>
  refine wp_region_held_drew (S:=fun X=>(X.cell? ⟨pb,0,none⟩=some (.pointer (some ⟨sx,0,none⟩))∧X.cell? ⟨ob,0,none⟩=some (.slice (some ⟨nb,0,none⟩) ns.length (ns.length+1)))∧Below Z.heap.size Z X) (by kernel_rfl) ⟨⟨cell_drew p0,cell_drew d0⟩,below_drew1 (Below.refl _ _)⟩ (fun hH=>?_)
  refine tkj 0 rfl hH ?_
  refine tkj 1 rfl hH ?_
  refine tkj 2 rfl hH ?_
  refine tkj 3 rfl hH ?_
  refine tkj 4 rfl hH ?_
  refine tkn ?_
  refine wpAnyH_ready (rs:=[5,9]) (by kernel_rfl) (by simp) (AllReadyH.cons rfl (fun K hK=>?_) (AllReadyH.cons rfl (fun K hK=>?_) AllReadyH.nil))
  ·go_simp
   refine(HCX.out _ nb nds' (below_then HZ.out.1 hH.2) (HZ.out.2.1.below hH.2)).mono ?_
   rintro e X1 ⟨lv,rfl,hx1,hlv⟩
   have HLV:Hid _:=hlv
   clear hlv
   go_simp
   refine hK.out _ _ ⟨⟨cell_below hx1 hH.1.1,cell_below hx1 hH.1.2⟩,below_then hH.2 hx1⟩ (fun hH=>?_)
   clear hK K hx1
   refine tkj 6 rfl hH ?_
   refine tkj 7 rfl hH ?_
   refine tkj 8 rfl hH ?_
   refine tkn ?_
   refine tkr 9 rfl fun K hK=>?_
   go_simp
   have hby:Below X1.heap.size X1 (X1.alloc zeroFault):=(Below.refl _ X1).alloc (Nat.le_refl _) zeroFault
   have hz:=heap_alloc_new X1 zeroFault
   have HFA:Hid (Z.heap.size≤X1.heap.size):=hH.2.size
   have HLV2:Hid (∀ X,Below X1.heap.size X1 X→LvIs 0 o sch lv X):=fun X hX=>lv_below HLV.out hX
   refine hK.out _ _ ⟨⟨cell_below hby hH.1.1,cell_below hby hH.1.2⟩,below_then hH.2 hby⟩ (fun hH=>?_)
   clear hK K HLV
   have HB1:Hid (Below X1.heap.size X1 (X1.alloc zeroFault)):=hby
   clear hby
   obtain⟨Y0,hY0⟩:∃ Y0,Y0=X1.alloc zeroFault:=⟨_,rfl⟩
   rw[←hY0]at hz hH HB1 ⊢
   clear hY0
   obtain⟨fa,hfa⟩:∃ fa,fa=X1.heap.size:=⟨_,rfl⟩
   rw[←hfa]at hz ⊢
   have HFB:Hid (fa=X1.heap.size∧Z.heap.size≤fa):=⟨hfa,by rw[hfa];exact HFA.out⟩
   clear HFA hfa
   have HFA:Hid (Z.heap.size≤fa):=HFB.out.2
   refine tkj 10 rfl hH ?_
   refine tkn ?_
   have k0:Y0.cell? ⟨fa,0,none⟩=some (.int .i64 0):=by simp[World.cell?,hz]
   have k1:Y0.cell? ⟨fa,1,none⟩=some (.int .i64 0):=by simp[World.cell?,hz]
   have k2:Y0.cell? ⟨fa,2,none⟩=some (.int .i64 0):=by simp[World.cell?,hz]
   have k3:Y0.cell? ⟨fa,3,none⟩=some (.int .i64 0):=by simp[World.cell?,hz]
   have k4:Y0.cell? ⟨fa,4,none⟩=some (.int .i64 0):=by simp[World.cell?,hz]
   have f0:Y0.frozen? ⟨fa,0,none⟩=false:=by simp[World.frozen?,hz]
   have f1:Y0.frozen? ⟨fa,1,none⟩=false:=by simp[World.frozen?,hz]
   have f2:Y0.frozen? ⟨fa,2,none⟩=false:=by simp[World.frozen?,hz]
   have f3:Y0.frozen? ⟨fa,3,none⟩=false:=by simp[World.frozen?,hz]
   have f4:Y0.frozen? ⟨fa,4,none⟩=false:=by simp[World.frozen?,hz]
   have hk5:=heap_set (heap_set (heap_set (heap_set (heap_set hz 0 (.int .i64 cd)) 1 (.int .i64 nn)) 2 (.int .i64 (-1))) 3 (.int .i64 (-1))) 4 (.int .i64 (-1))
   simp only[List.setIfInBounds_toArray,List.set_cons_zero,List.set_cons_succ]at hk5
   have HK5:Hid _:=hk5
   have HLO:Hid (Below Z.heap.size Z (((((Y0.setCell ⟨fa,0,none⟩ (.int .i64 cd)).setCell ⟨fa,1,none⟩ (.int .i64 nn)).setCell ⟨fa,2,none⟩ (.int .i64 (-1))).setCell ⟨fa,3,none⟩ (.int .i64 (-1))).setCell ⟨fa,4,none⟩ (.int .i64 (-1)))):=below_set5 hH.2 HFA.out _ _ _ _ _
   have HKE:Hid (Keep (fun k=>k=fa) Y0 (((((Y0.setCell ⟨fa,0,none⟩ (.int .i64 cd)).setCell ⟨fa,1,none⟩ (.int .i64 nn)).setCell ⟨fa,2,none⟩ (.int .i64 (-1))).setCell ⟨fa,3,none⟩ (.int .i64 (-1))).setCell ⟨fa,4,none⟩ (.int .i64 (-1)))):=keep_set5 _ _ _ _ _ _ _
   clear hz hk5
   refine tkr 11 rfl fun K hK=>?_
   go_simp
   refine hK.out _ _ ⟨⟨cell_below HLO.out p0,cell_below HLO.out d0⟩,HLO.out⟩ (fun _=>?_)
   clear hK K k0 k1 k2 k3 k4 f0 f1 f2 f3 f4 hH
   refine wpAnyH_done (by kernel_rfl) ?_ _
   go_wp2_with fail
   go_meet
   case rel=>exact⟨fa,rfl,HK5.out,HFA.out,HLO.out,HLV2.out _ ⟨HKE.out.os.trans HB1.out.os,HKE.out.tape.trans HB1.out.tape,HKE.out.output.trans HB1.out.output,Nat.le_trans HB1.out.size HKE.out.size,fun k hk=>(HKE.out.block k (Nat.lt_of_lt_of_le hk HB1.out.size) (by have:=HFB.out.1;omega)).trans (HB1.out.block k hk)⟩⟩
  go_simp
  have hb2:Below Z.heap.size Z (Z.alloc zeroFault).drew:=below_drew1 ((Below.refl _ Z).alloc (Nat.le_refl _) zeroFault)
  have hz0:(Z.alloc zeroFault).drew.heap[Z.heap.size]?=some zeroFault:=heap_alloc_new Z zeroFault
  refine hK.out _ _ ⟨⟨cell_below hb2 p0,cell_below hb2 d0⟩,hb2⟩ (fun hH=>?_)
  clear hK K
  generalize (Z.alloc zeroFault).drew=X2 at hz0 hH hb2 ⊢
  have HFA:Hid (Z.heap.size≤Z.heap.size):=Nat.le_refl _
  clear hb2
  refine tkr 5 rfl fun K hK=>?_
  go_simp
  refine(HCX.out _ nb nds' (below_then HZ.out.1 hH.2) (HZ.out.2.1.below hH.2)).mono ?_
  rintro e X1 ⟨lv,rfl,hx1,hlv⟩
  go_simp
  have hz:=(hx1.block _ (lt_of_heap hz0)).trans hz0
  have HLV2:Hid (∀ X,Keep (fun k=>k=Z.heap.size) X1 X→LvIs 0 o sch lv X):=fun X hX=>lv_keep hlv (lt_of_heap hz0) hX
  refine hK.out _ _ ⟨⟨cell_below hx1 hH.1.1,cell_below hx1 hH.1.2⟩,below_then hH.2 hx1⟩ (fun hH=>?_)
  clear hK K hx1 hz0 hlv
  refine tkj 6 rfl hH ?_
  refine tkj 7 rfl hH ?_
  refine tkj 8 rfl hH ?_
  refine tkj 10 rfl hH ?_
  refine tkn ?_
  have k0:X1.cell? ⟨Z.heap.size,0,none⟩=some (.int .i64 0):=by simp[World.cell?,hz]
  have k1:X1.cell? ⟨Z.heap.size,1,none⟩=some (.int .i64 0):=by simp[World.cell?,hz]
  have k2:X1.cell? ⟨Z.heap.size,2,none⟩=some (.int .i64 0):=by simp[World.cell?,hz]
  have k3:X1.cell? ⟨Z.heap.size,3,none⟩=some (.int .i64 0):=by simp[World.cell?,hz]
  have k4:X1.cell? ⟨Z.heap.size,4,none⟩=some (.int .i64 0):=by simp[World.cell?,hz]
  have f0:X1.frozen? ⟨Z.heap.size,0,none⟩=false:=by simp[World.frozen?,hz]
  have f1:X1.frozen? ⟨Z.heap.size,1,none⟩=false:=by simp[World.frozen?,hz]
  have f2:X1.frozen? ⟨Z.heap.size,2,none⟩=false:=by simp[World.frozen?,hz]
  have f3:X1.frozen? ⟨Z.heap.size,3,none⟩=false:=by simp[World.frozen?,hz]
  have f4:X1.frozen? ⟨Z.heap.size,4,none⟩=false:=by simp[World.frozen?,hz]
  have hk5:=heap_set (heap_set (heap_set (heap_set (heap_set hz 0 (.int .i64 cd)) 1 (.int .i64 nn)) 2 (.int .i64 (-1))) 3 (.int .i64 (-1))) 4 (.int .i64 (-1))
  simp only[List.setIfInBounds_toArray,List.set_cons_zero,List.set_cons_succ]at hk5
  have HK5:Hid _:=hk5
  have HLO:Hid (Below Z.heap.size Z (((((X1.setCell ⟨Z.heap.size,0,none⟩ (.int .i64 cd)).setCell ⟨Z.heap.size,1,none⟩ (.int .i64 nn)).setCell ⟨Z.heap.size,2,none⟩ (.int .i64 (-1))).setCell ⟨Z.heap.size,3,none⟩ (.int .i64 (-1))).setCell ⟨Z.heap.size,4,none⟩ (.int .i64 (-1)))):=below_set5 hH.2 HFA.out _ _ _ _ _
  have HKE:Hid (Keep (fun k=>k=Z.heap.size) X1 (((((X1.setCell ⟨Z.heap.size,0,none⟩ (.int .i64 cd)).setCell ⟨Z.heap.size,1,none⟩ (.int .i64 nn)).setCell ⟨Z.heap.size,2,none⟩ (.int .i64 (-1))).setCell ⟨Z.heap.size,3,none⟩ (.int .i64 (-1))).setCell ⟨Z.heap.size,4,none⟩ (.int .i64 (-1)))):=keep_set5 _ _ _ _ _ _ _
  clear hz hk5
  refine tkr 11 rfl fun K hK=>?_
  go_simp
  refine hK.out _ _ ⟨⟨cell_below HLO.out p0,cell_below HLO.out d0⟩,HLO.out⟩ (fun _=>?_)
  clear hK K k0 k1 k2 k3 k4 f0 f1 f2 f3 f4 hH
  refine wpAnyH_done (by kernel_rfl) ?_ _
  go_wp2_with fail
  go_meet
  case rel=>exact⟨Z.heap.size,rfl,HK5.out,HFA.out,HLO.out,HLV2.out _ HKE.out⟩
 case rest=>
  obtain⟨fa,rfl,hfa,hfz,hbc,hlv⟩:=hcut
  clear p0 d0
  have HC:Hid (wc.heap[fa]?=some (.cells #[.int .i64 cd,.int .i64 nn,.int .i64 (-1),.int .i64 (-1),.int .i64 (-1)] 52 (0,0))∧Z.heap.size≤fa∧Below Z.heap.size Z wc):=⟨hfa,hfz,hbc⟩
  have hbo:=(hbc.block ob (lt_of_heap HZ.out.2.2.1)).trans HZ.out.2.2.1
  have hbq:=(hbc.block w.heap.size (lt_of_heap HZ.out.2.2.2)).trans HZ.out.2.2.2
  have o0:wc.cell? ⟨ob,0,none⟩=some (.slice (some ⟨nb,0,none⟩) ns.length (ns.length+1)):=by simp[World.cell?,hbo]
  have q0:wc.cell? ⟨w.heap.size,0,none⟩=some (.slice a ns.length nc):=by simp[World.cell?,hbq]
  have hin:=lIntact_any nb nds' a nc nds ns wc (HZ.out.2.1.below hbc) (HP.out.2.1.below (below_then HZ.out.1 hbc)) HP.out.2.2.1
  have HLV:Hid _:=hlv
  clear hfa hfz hbc hbo hbq hlv
  go_upto_region 4 with(go_at_call 13;refine hin.mono ?_;rintro e Z3 ⟨rfl,hb3⟩)
  clear hin o0 q0
  have HB3:Hid (Below w.heap.size w Z3∧Z3.heap[fa]?=some (.cells #[.int .i64 cd,.int .i64 nn,.int .i64 (-1),.int .i64 (-1),.int .i64 (-1)] 52 (0,0))∧fa<Z3.heap.size):=⟨below_then (below_then HZ.out.1 HC.out.2.2) hb3,(hb3.block fa (lt_of_heap HC.out.1)).trans HC.out.1,by have h1:=lt_of_heap HC.out.1;have h2:=hb3.size;omega⟩
  have hlv3:=lv_below HLV.out hb3
  have HLV3:Hid _:=hlv3
  clear hlv3 HLV
  have hpp:=(HB3.out.1.block _ (lt_of_heap HP.out.1.cells)).trans HP.out.1.cells
  have p1:Z3.cell? ⟨pb,1,none⟩=some (.pointer (some ⟨sy,0,none⟩)):=by simp[World.cell?,hpp]
  have hbq:=((below_then HC.out.2.2 hb3).block w.heap.size (lt_of_heap HZ.out.2.2.2)).trans HZ.out.2.2.2
  have q0:Z3.cell? ⟨w.heap.size,0,none⟩=some (.slice a ns.length nc):=by simp[World.cell?,hbq]
  clear hpp hbq hb3
  go_cut [10,11] from 27 to 35 (fun mv fv wx=>∃ ga,fv=.pointer (some ⟨ga,0,none⟩)∧wx.heap[ga]?=some (.cells #[.int .i64 cd,.int .i64 nn,.int .i64 (-1),.int .i64 (-1),.int .i64 (-1)] 52 (0,0))∧Z3.heap.size≤ga∧Below Z3.heap.size Z3 wx∧MvIs o scs mv wx)
  case first=>
   refine wp_region_held_drew (S:=fun X=>(X.cell? ⟨pb,1,none⟩=some (.pointer (some ⟨sy,0,none⟩))∧X.cell? ⟨w.heap.size,0,none⟩=some (.slice a ns.length nc))∧Below Z3.heap.size Z3 X) (by kernel_rfl) ⟨⟨cell_drew p1,cell_drew q0⟩,below_drew1 (Below.refl _ _)⟩ (fun hH=>?_)
   refine tkj 0 rfl hH ?_
   refine tkj 1 rfl hH ?_
   refine tkj 2 rfl hH ?_
   refine tkj 3 rfl hH ?_
   refine tkj 4 rfl hH ?_
   refine tkn ?_
   refine wpAnyH_ready (rs:=[5,9]) (by kernel_rfl) (by simp) (AllReadyH.cons rfl (fun K hK=>?_) (AllReadyH.cons rfl (fun K hK=>?_) AllReadyH.nil))
   ·go_simp
    refine(HCY.out _ (below_then HB3.out.1 hH.2)).mono ?_
    rintro e X1 ⟨lv,rfl,hx1,hlv⟩
    have HLV:Hid _:=hlv
    clear hlv
    go_simp
    refine hK.out _ _ ⟨⟨cell_below hx1 hH.1.1,cell_below hx1 hH.1.2⟩,below_then hH.2 hx1⟩ (fun hH=>?_)
    clear hK K hx1
    refine tkj 6 rfl hH ?_
    refine tkj 7 rfl hH ?_
    refine tkj 8 rfl hH ?_
    refine tkn ?_
    refine tkr 9 rfl fun K hK=>?_
    go_simp
    have hby:Below X1.heap.size X1 (X1.alloc zeroFault):=(Below.refl _ X1).alloc (Nat.le_refl _) zeroFault
    have hz:=heap_alloc_new X1 zeroFault
    have HFA:Hid (Z3.heap.size≤X1.heap.size):=hH.2.size
    have HLV2:Hid (∀ X,Below X1.heap.size X1 X→MvIs o scs lv X):=fun X hX=>mv_below HLV.out hX
    refine hK.out _ _ ⟨⟨cell_below hby hH.1.1,cell_below hby hH.1.2⟩,below_then hH.2 hby⟩ (fun hH=>?_)
    clear hK K HLV
    have HB1:Hid (Below X1.heap.size X1 (X1.alloc zeroFault)):=hby
    clear hby
    obtain⟨Y0,hY0⟩:∃ Y0,Y0=X1.alloc zeroFault:=⟨_,rfl⟩
    rw[←hY0]at hz hH HB1 ⊢
    clear hY0
    obtain⟨fa,hfa⟩:∃ fa,fa=X1.heap.size:=⟨_,rfl⟩
    rw[←hfa]at hz ⊢
    have HFB:Hid (fa=X1.heap.size∧Z3.heap.size≤fa):=⟨hfa,by rw[hfa];exact HFA.out⟩
    clear HFA hfa
    have HFA:Hid (Z3.heap.size≤fa):=HFB.out.2
    refine tkj 10 rfl hH ?_
    refine tkn ?_
    have k0:Y0.cell? ⟨fa,0,none⟩=some (.int .i64 0):=by simp[World.cell?,hz]
    have k1:Y0.cell? ⟨fa,1,none⟩=some (.int .i64 0):=by simp[World.cell?,hz]
    have k2:Y0.cell? ⟨fa,2,none⟩=some (.int .i64 0):=by simp[World.cell?,hz]
    have k3:Y0.cell? ⟨fa,3,none⟩=some (.int .i64 0):=by simp[World.cell?,hz]
    have k4:Y0.cell? ⟨fa,4,none⟩=some (.int .i64 0):=by simp[World.cell?,hz]
    have f0:Y0.frozen? ⟨fa,0,none⟩=false:=by simp[World.frozen?,hz]
    have f1:Y0.frozen? ⟨fa,1,none⟩=false:=by simp[World.frozen?,hz]
    have f2:Y0.frozen? ⟨fa,2,none⟩=false:=by simp[World.frozen?,hz]
    have f3:Y0.frozen? ⟨fa,3,none⟩=false:=by simp[World.frozen?,hz]
    have f4:Y0.frozen? ⟨fa,4,none⟩=false:=by simp[World.frozen?,hz]
    have hk5:=heap_set (heap_set (heap_set (heap_set (heap_set hz 0 (.int .i64 cd)) 1 (.int .i64 nn)) 2 (.int .i64 (-1))) 3 (.int .i64 (-1))) 4 (.int .i64 (-1))
    simp only[List.setIfInBounds_toArray,List.set_cons_zero,List.set_cons_succ]at hk5
    have HK5:Hid _:=hk5
    have HLO:Hid (Below Z3.heap.size Z3 (((((Y0.setCell ⟨fa,0,none⟩ (.int .i64 cd)).setCell ⟨fa,1,none⟩ (.int .i64 nn)).setCell ⟨fa,2,none⟩ (.int .i64 (-1))).setCell ⟨fa,3,none⟩ (.int .i64 (-1))).setCell ⟨fa,4,none⟩ (.int .i64 (-1)))):=below_set5 hH.2 HFA.out _ _ _ _ _
    have HKE:Hid (Keep (fun k=>k=fa) Y0 (((((Y0.setCell ⟨fa,0,none⟩ (.int .i64 cd)).setCell ⟨fa,1,none⟩ (.int .i64 nn)).setCell ⟨fa,2,none⟩ (.int .i64 (-1))).setCell ⟨fa,3,none⟩ (.int .i64 (-1))).setCell ⟨fa,4,none⟩ (.int .i64 (-1)))):=keep_set5 _ _ _ _ _ _ _
    clear hz hk5
    refine tkr 11 rfl fun K hK=>?_
    go_simp
    refine hK.out _ _ ⟨⟨cell_below HLO.out p1,cell_below HLO.out q0⟩,HLO.out⟩ (fun _=>?_)
    clear hK K k0 k1 k2 k3 k4 f0 f1 f2 f3 f4 hH
    refine wpAnyH_done (by kernel_rfl) ?_ _
    go_wp2_with fail
    go_meet
    case rel=>exact⟨fa,rfl,HK5.out,HFA.out,HLO.out,HLV2.out _ ⟨HKE.out.os.trans HB1.out.os,HKE.out.tape.trans HB1.out.tape,HKE.out.output.trans HB1.out.output,Nat.le_trans HB1.out.size HKE.out.size,fun k hk=>(HKE.out.block k (Nat.lt_of_lt_of_le hk HB1.out.size) (by have:=HFB.out.1;omega)).trans (HB1.out.block k hk)⟩⟩
   go_simp
   have hb2:Below Z3.heap.size Z3 (Z3.alloc zeroFault).drew:=below_drew1 ((Below.refl _ Z3).alloc (Nat.le_refl _) zeroFault)
   have hz0:(Z3.alloc zeroFault).drew.heap[Z3.heap.size]?=some zeroFault:=heap_alloc_new Z3 zeroFault
   refine hK.out _ _ ⟨⟨cell_below hb2 p1,cell_below hb2 q0⟩,hb2⟩ (fun hH=>?_)
   clear hK K
   generalize (Z3.alloc zeroFault).drew=X2 at hz0 hH hb2 ⊢
   have HFA:Hid (Z3.heap.size≤Z3.heap.size):=Nat.le_refl _
   clear hb2
   refine tkr 5 rfl fun K hK=>?_
   go_simp
   refine(HCY.out _ (below_then HB3.out.1 hH.2)).mono ?_
   rintro e X1 ⟨lv,rfl,hx1,hlv⟩
   go_simp
   have hz:=(hx1.block _ (lt_of_heap hz0)).trans hz0
   have HLV2:Hid (∀ X,Keep (fun k=>k=Z3.heap.size) X1 X→MvIs o scs lv X):=fun X hX=>mv_keep hlv hz hX
   refine hK.out _ _ ⟨⟨cell_below hx1 hH.1.1,cell_below hx1 hH.1.2⟩,below_then hH.2 hx1⟩ (fun hH=>?_)
   clear hK K hx1 hz0 hlv
   refine tkj 6 rfl hH ?_
   refine tkj 7 rfl hH ?_
   refine tkj 8 rfl hH ?_
   refine tkj 10 rfl hH ?_
   refine tkn ?_
   have k0:X1.cell? ⟨Z3.heap.size,0,none⟩=some (.int .i64 0):=by simp[World.cell?,hz]
   have k1:X1.cell? ⟨Z3.heap.size,1,none⟩=some (.int .i64 0):=by simp[World.cell?,hz]
   have k2:X1.cell? ⟨Z3.heap.size,2,none⟩=some (.int .i64 0):=by simp[World.cell?,hz]
   have k3:X1.cell? ⟨Z3.heap.size,3,none⟩=some (.int .i64 0):=by simp[World.cell?,hz]
   have k4:X1.cell? ⟨Z3.heap.size,4,none⟩=some (.int .i64 0):=by simp[World.cell?,hz]
   have f0:X1.frozen? ⟨Z3.heap.size,0,none⟩=false:=by simp[World.frozen?,hz]
   have f1:X1.frozen? ⟨Z3.heap.size,1,none⟩=false:=by simp[World.frozen?,hz]
   have f2:X1.frozen? ⟨Z3.heap.size,2,none⟩=false:=by simp[World.frozen?,hz]
   have f3:X1.frozen? ⟨Z3.heap.size,3,none⟩=false:=by simp[World.frozen?,hz]
   have f4:X1.frozen? ⟨Z3.heap.size,4,none⟩=false:=by simp[World.frozen?,hz]
   have hk5:=heap_set (heap_set (heap_set (heap_set (heap_set hz 0 (.int .i64 cd)) 1 (.int .i64 nn)) 2 (.int .i64 (-1))) 3 (.int .i64 (-1))) 4 (.int .i64 (-1))
   simp only[List.setIfInBounds_toArray,List.set_cons_zero,List.set_cons_succ]at hk5
   have HK5:Hid _:=hk5
   have HLO:Hid (Below Z3.heap.size Z3 (((((X1.setCell ⟨Z3.heap.size,0,none⟩ (.int .i64 cd)).setCell ⟨Z3.heap.size,1,none⟩ (.int .i64 nn)).setCell ⟨Z3.heap.size,2,none⟩ (.int .i64 (-1))).setCell ⟨Z3.heap.size,3,none⟩ (.int .i64 (-1))).setCell ⟨Z3.heap.size,4,none⟩ (.int .i64 (-1)))):=below_set5 hH.2 HFA.out _ _ _ _ _
   have HKE:Hid (Keep (fun k=>k=Z3.heap.size) X1 (((((X1.setCell ⟨Z3.heap.size,0,none⟩ (.int .i64 cd)).setCell ⟨Z3.heap.size,1,none⟩ (.int .i64 nn)).setCell ⟨Z3.heap.size,2,none⟩ (.int .i64 (-1))).setCell ⟨Z3.heap.size,3,none⟩ (.int .i64 (-1))).setCell ⟨Z3.heap.size,4,none⟩ (.int .i64 (-1)))):=keep_set5 _ _ _ _ _ _ _
   clear hz hk5
   refine tkr 11 rfl fun K hK=>?_
   go_simp
   refine hK.out _ _ ⟨⟨cell_below HLO.out p1,cell_below HLO.out q0⟩,HLO.out⟩ (fun _=>?_)
   clear hK K k0 k1 k2 k3 k4 f0 f1 f2 f3 f4 hH
   refine wpAnyH_done (by kernel_rfl) ?_ _
   go_wp2_with fail
   go_meet
   case rel=>exact⟨Z3.heap.size,rfl,HK5.out,HFA.out,HLO.out,HLV2.out _ HKE.out⟩
  case rest=>
   obtain⟨ga,rfl,hga,hgz,hbc,hmv⟩:=hcut
   have hff:=(hbc.block fa HB3.out.2.2).trans HB3.out.2.1
   have hq:=run_eql_FT cd nn (-1) (-1) (-1)
   have u0:wc.cell? ⟨fa,0,none⟩=some (.int .i64 cd):=by simp[World.cell?,hff]
   have u1:wc.cell? ⟨fa,1,none⟩=some (.int .i64 nn):=by simp[World.cell?,hff]
   have u2:wc.cell? ⟨fa,2,none⟩=some (.int .i64 (-1)):=by simp[World.cell?,hff]
   have u3:wc.cell? ⟨fa,3,none⟩=some (.int .i64 (-1)):=by simp[World.cell?,hff]
   have u4:wc.cell? ⟨fa,4,none⟩=some (.int .i64 (-1)):=by simp[World.cell?,hff]
   have v0:wc.cell? ⟨ga,0,none⟩=some (.int .i64 cd):=by simp[World.cell?,hga]
   have v1:wc.cell? ⟨ga,1,none⟩=some (.int .i64 nn):=by simp[World.cell?,hga]
   have v2:wc.cell? ⟨ga,2,none⟩=some (.int .i64 (-1)):=by simp[World.cell?,hga]
   have v3:wc.cell? ⟨ga,3,none⟩=some (.int .i64 (-1)):=by simp[World.cell?,hga]
   have v4:wc.cell? ⟨ga,4,none⟩=some (.int .i64 (-1)):=by simp[World.cell?,hga]
   have hlw:=lv_below HLV3.out hbc
   have HBC:Hid (Below w.heap.size w wc):=below_then HB3.out.1 hbc
   clear p1 q0 hga hgz hff hbc
   rcases HO.out with⟨⟨i,hi⟩,hcd⟩|⟨hi,hcd,hnn,h1,h2,h3,h4⟩
   ·subst hi hcd
    obtain rfl:_=Value.slice none 0 0:=hlw
    clear hmv
    go_upto_region 6 with fail
    refine wp_region_held_drew (S:=fun X=>X.cell? ⟨fa,0,none⟩=some (.int .i64 8)∧X.cell? ⟨fa,1,none⟩=some (.int .i64 nn)∧X.cell? ⟨fa,2,none⟩=some (.int .i64 (-1))∧X.cell? ⟨fa,3,none⟩=some (.int .i64 (-1))∧X.cell? ⟨fa,4,none⟩=some (.int .i64 (-1))∧X.cell? ⟨ga,0,none⟩=some (.int .i64 8)∧X.cell? ⟨ga,1,none⟩=some (.int .i64 nn)∧X.cell? ⟨ga,2,none⟩=some (.int .i64 (-1))∧X.cell? ⟨ga,3,none⟩=some (.int .i64 (-1))∧X.cell? ⟨ga,4,none⟩=some (.int .i64 (-1))) (by kernel_rfl) ⟨cell_drew u0,cell_drew u1,cell_drew u2,cell_drew u3,cell_drew u4,cell_drew v0,cell_drew v1,cell_drew v2,cell_drew v3,cell_drew v4⟩ (fun hH=>?_)
    refine tkj 0 rfl hH ?_
    refine tkj 1 rfl hH ?_
    refine tkj 2 rfl hH ?_
    refine tkn ?_
    refine tkj 3 rfl hH ?_
    refine tkj 4 rfl hH ?_
    refine tkj 5 rfl hH ?_
    refine tkn ?_
    refine tkj 6 rfl hH ?_
    refine tkj 7 rfl hH ?_
    refine tkj 8 rfl hH ?_
    refine tkn ?_
    refine tkj 9 rfl hH ?_
    refine tkj 10 rfl hH ?_
    refine tkj 11 rfl hH ?_
    refine tkn ?_
    refine tkj 12 rfl hH ?_
    refine tkj 13 rfl hH ?_
    refine tkn ?_
    refine wpAnyH_done (by kernel_rfl) ?_ _
    clear hH u0 u1 u2 u3 u4 v0 v1 v2 v3 v4 hq
    go_wp2
    go_ret2
    exact⟨below_drew1 HBC.out,.slice none 0 0,by simp⟩
   subst hi hcd hnn
   obtain⟨la,lc,hle,hli,_⟩:=hlw
   obtain⟨mb,mo,mc,hme,hkn⟩:=hmv
   subst hle hme
   obtain⟨b',o',sa,sc,e,z0,z1,_⟩:=hkn _ _ h2
   cases e
   have hsm:=lSame_any la sa lc sc sch sch wc hli z1 (by omega)
   simp only[decide_true]at hsm
   have i1:(0:Int)≤(scs.length:Int)-1:=by omega
   have i2:(scs.length:Int)-1<(scs.length:Int):=by omega
   have i3:((scs.length:Int)-1).toNat=scs.length-1:=by omega
   go_upto_region 8 with(go_at_call 15;refine hsm.mono ?_;rintro e w5 ⟨rfl,hb5⟩)
   have u0':=cell_below hb5 u0
   have u1':=cell_below hb5 u1
   have u2':=cell_below hb5 u2
   have u3':=cell_below hb5 u3
   have u4':=cell_below hb5 u4
   have v0':=cell_below hb5 v0
   have v1':=cell_below hb5 v1
   have v2':=cell_below hb5 v2
   have v3':=cell_below hb5 v3
   have v4':=cell_below hb5 v4
   have HB5:Hid (Below w.heap.size w w5):=below_then HBC.out hb5
   clear u0 u1 u2 u3 u4 v0 v1 v2 v3 v4 hsm i1 i2 i3 z0 z1 hb5
   refine wp_region_held_drew (S:=fun X=>X.cell? ⟨fa,0,none⟩=some (.int .i64 0)∧X.cell? ⟨fa,1,none⟩=some (.int .i64 (-1))∧X.cell? ⟨fa,2,none⟩=some (.int .i64 (-1))∧X.cell? ⟨fa,3,none⟩=some (.int .i64 (-1))∧X.cell? ⟨fa,4,none⟩=some (.int .i64 (-1))∧X.cell? ⟨ga,0,none⟩=some (.int .i64 0)∧X.cell? ⟨ga,1,none⟩=some (.int .i64 (-1))∧X.cell? ⟨ga,2,none⟩=some (.int .i64 (-1))∧X.cell? ⟨ga,3,none⟩=some (.int .i64 (-1))∧X.cell? ⟨ga,4,none⟩=some (.int .i64 (-1))) (by kernel_rfl) ⟨cell_drew u0',cell_drew u1',cell_drew u2',cell_drew u3',cell_drew u4',cell_drew v0',cell_drew v1',cell_drew v2',cell_drew v3',cell_drew v4'⟩ (fun hH=>?_)
   refine tkj 0 rfl hH ?_
   refine tkj 1 rfl hH ?_
   refine tkj 2 rfl hH ?_
   refine tkn ?_
   refine tkj 3 rfl hH ?_
   refine tkj 4 rfl hH ?_
   refine tkj 5 rfl hH ?_
   refine tkn ?_
   refine tkj 6 rfl hH ?_
   refine tkj 7 rfl hH ?_
   refine tkj 8 rfl hH ?_
   refine tkn ?_
   refine tkj 9 rfl hH ?_
   refine tkj 10 rfl hH ?_
   refine tkj 11 rfl hH ?_
   refine tkn ?_
   refine wpAnyH_done (by kernel_rfl) ?_ _
   clear hH u0' u1' u2' u3' u4' v0' v1' v2' v3' v4' hq
   go_wp2
   go_ret2
   exact⟨below_drew1 HB5.out,.slice la sch.length lc,by simp⟩
end Go.Proofs.YtkgibdjakgmmcaaGreatDoor
