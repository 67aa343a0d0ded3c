/- Does a table that was handed over read as it did? -/
import Derived.Test.YtkgibdjakgmmcaaGreatDoorWj
set_option maxHeartbeats 4000000
set_option maxRecDepth 100000
namespace Go.Proofs.YtkgibdjakgmmcaaGreatDoor
open Go.RowKit Go.Shelf
attribute [local go_sem] Oper.semAt_some
theorem ints_of_list {w:World}{g:Nat}{ts:List Int}{tl:List Value}(h:w.heap[g]?=some (.cells (ts.map iv++tl).toArray 3 (0,0))):Ints w (some ⟨g,0,none⟩) ts:=by
 refine .inr ⟨g,0,rfl,lt_of_heap h,fun i v hv=>?_⟩
 have hi:i<(ts.map iv).length:=(List.getElem?_eq_some_iff.1 hv).1
 rw[Nat.zero_add]
 exact cell_of_list h (by rw[List.getElem?_append_left hi];exact hv)
theorem hdrs_length {bs:List Nat}{rs:List (List V)}(h:bs.length=rs.length):(hdrs bs rs).length=rs.length:=by
 unfold hdrs
 rw[List.length_zipWith,h,Nat.min_self]
theorem hdrs_at {bs:List Nat}{rs:List (List V)}{i b:Nat}{r:List V}(hb:bs[i]?=some b)(hr:rs[i]?=some r):(hdrs bs rs)[i]?=some (.slice (some ⟨b,0,none⟩) r.length (r.length+2)):=by
 unfold hdrs
 rw[List.getElem?_zipWith,hb,hr]
structure LeftD (w wr:World) (d:Dx) (tb hb rb zb:Nat) (bs:List Nat) (i:Nat):Prop where
 ty:wr.heap[tb]?=w.heap[tb]?
 hw:wr.heap[hb]?=w.heap[hb]?
 rw:∃ cs,wr.heap[rb]?=some (.cells cs 73 (0,0))∧cs.size=d.rs.length+1∧∀ k,i≤k→k<d.rs.length→cs[k]?=(hdrs bs d.rs)[k]?
 row:∀ (k:Nat) b,i≤k→bs[k]?=some b→wr.heap[b]?=w.heap[b]?
 keep:Keep (fun k=>tb≤k∧k≤zb) w wr
theorem lRead_any (d:Dx)(tb hb rb zb:Nat)(bs:List Nat)(w w0:World)(hO:OwnD w d tb hb rb zb bs)(hD:DxAt w0 d)(hbw:Below w0.heap.size w0 w)(htb:w0.heap.size≤tb) :
  Calls Tryz.prog 32 #[.agg #[.string d.name,.slice (some ⟨tb,0,none⟩) d.ts.length (d.ts.length+1),.slice (some ⟨rb,0,none⟩) d.rs.length (d.rs.length+1),.slice (some ⟨hb,0,none⟩) d.hs.length (d.hs.length+1),.int .i64 d.g],d.val] w fun e w'=>e=.returned (.bool true)∧Keep (fun k=>tb≤k∧k≤zb) w w':=by
 have HO:Hid (OwnD w d tb hb rb zb bs∧DxAt w0 d∧Below w0.heap.size w0 w∧w0.heap.size≤tb):=⟨hO,hD,hbw,htb⟩
 have l1:=hD.lt
 have l2:=hD.lr
 have l3:=hD.lh
 obtain⟨o1,o2,o3,o4,o5,o6⟩:=hO.ord
 unfold Dx.val
 obtain⟨W,hW⟩:∃ W,W=(w.alloc (.cells #[.string d.name,.slice (some ⟨tb,0,none⟩) d.ts.length (d.ts.length+1),.slice (some ⟨rb,0,none⟩) d.rs.length (d.rs.length+1),.slice (some ⟨hb,0,none⟩) d.hs.length (d.hs.length+1),.int .i64 d.g] 42)).alloc (.cells #[.string d.name,.slice d.at_ d.ts.length d.ct,.slice d.ar d.rs.length d.cr,.slice d.ah d.hs.length d.ch,.int .i64 d.g] 42):=⟨_,rfl⟩
 have HW:Hid (Below w.heap.size w W∧W.heap.size=w.heap.size+2∧W.heap[w.heap.size]?=some (.cells #[.string d.name,.slice (some ⟨tb,0,none⟩) d.ts.length (d.ts.length+1),.slice (some ⟨rb,0,none⟩) d.rs.length (d.rs.length+1),.slice (some ⟨hb,0,none⟩) d.hs.length (d.hs.length+1),.int .i64 d.g] 42 (0,0))∧W.heap[w.heap.size+1]?=some (.cells #[.string d.name,.slice d.at_ d.ts.length d.ct,.slice d.ar d.rs.length d.cr,.slice d.ah d.hs.length d.ch,.int .i64 d.g] 42 (0,0))):=by
  rw[hW]
  refine⟨((Below.refl _ w).alloc (Nat.le_refl _) _).alloc (by simp) _,by simp,?_,new_at _ _ _ (by simp only[World.size_alloc])⟩
  rw[Below.heap_alloc _ _ _ (by simp only[World.size_alloc];omega)]
  exact heap_alloc_new _ _
 clear hO hD hbw htb
 go_enter Tryz.func32,Tryz.ntmps32
 go_upto_region 1 with fail
 rw[←hW]
 clear hW
 have c1:W.cell? ⟨w.heap.size,1,none⟩=some (.slice (some ⟨tb,0,none⟩) d.ts.length (d.ts.length+1)):=by simp[World.cell?,HW.out.2.2.1]
 have c2:W.cell? ⟨w.heap.size,2,none⟩=some (.slice (some ⟨rb,0,none⟩) d.rs.length (d.rs.length+1)):=by simp[World.cell?,HW.out.2.2.1]
 have c3:W.cell? ⟨w.heap.size,3,none⟩=some (.slice (some ⟨hb,0,none⟩) d.hs.length (d.hs.length+1)):=by simp[World.cell?,HW.out.2.2.1]
 have e1:W.cell? ⟨w.heap.size+1,1,none⟩=some (.slice d.at_ d.ts.length d.ct):=by simp[World.cell?,HW.out.2.2.2]
 have e2:W.cell? ⟨w.heap.size+1,2,none⟩=some (.slice d.ar d.rs.length d.cr):=by simp[World.cell?,HW.out.2.2.2]
 have e3:W.cell? ⟨w.heap.size+1,3,none⟩=some (.slice d.ah d.hs.length d.ch):=by simp[World.cell?,HW.out.2.2.2]
 have hs1:=lSame_any (some ⟨tb,0,none⟩) d.at_ (d.ts.length+1) d.ct d.ts d.ts W ((ints_of_list HO.out.1.ty).below HW.out.1) (HO.out.2.1.types.below (below_then HO.out.2.2.1 HW.out.1)) (by omega)
 simp only[decide_true]at hs1
 go_upto_region 2 with(go_at_call 15;refine hs1.mono ?_;rintro e W1 ⟨rfl,hb1⟩)
 have HB1:Hid (Below W.heap.size W W1∧Below w.heap.size w W1):=⟨hb1,below_then HW.out.1 hb1⟩
 have hk0:=(hb1.block _ (by have:=HW.out.2.1;omega)).trans HW.out.2.2.1
 have hk1:=(hb1.block _ (by have:=HW.out.2.1;omega)).trans HW.out.2.2.2
 clear hs1 hb1 c1 c2 c3 e1 e2 e3
 have c1:W1.cell? ⟨w.heap.size,1,none⟩=some (.slice (some ⟨tb,0,none⟩) d.ts.length (d.ts.length+1)):=by simp[World.cell?,hk0]
 have c2:W1.cell? ⟨w.heap.size,2,none⟩=some (.slice (some ⟨rb,0,none⟩) d.rs.length (d.rs.length+1)):=by simp[World.cell?,hk0]
 have c3:W1.cell? ⟨w.heap.size,3,none⟩=some (.slice (some ⟨hb,0,none⟩) d.hs.length (d.hs.length+1)):=by simp[World.cell?,hk0]
 have e1:W1.cell? ⟨w.heap.size+1,1,none⟩=some (.slice d.at_ d.ts.length d.ct):=by simp[World.cell?,hk1]
 have e2:W1.cell? ⟨w.heap.size+1,2,none⟩=some (.slice d.ar d.rs.length d.cr):=by simp[World.cell?,hk1]
 have e3:W1.cell? ⟨w.heap.size+1,3,none⟩=some (.slice d.ah d.hs.length d.ch):=by simp[World.cell?,hk1]
 have hs2:=lSame_any (some ⟨hb,0,none⟩) d.ah (d.hs.length+1) d.ch d.hs d.hs W1 ((ints_of_list HO.out.1.hw).below HB1.out.2) (HO.out.2.1.hows.below (below_then HO.out.2.2.1 HB1.out.2)) (by omega)
 simp only[decide_true]at hs2
 go_upto_region 3 with(go_at_call 15;refine hs2.mono ?_;rintro e W2 ⟨rfl,hb2⟩)
 have HB2:Hid (Below w.heap.size w W2∧w.heap.size+2≤W2.heap.size):=⟨below_then HB1.out.2 hb2,by have h1:=HB1.out.1.size;have h2:=hb2.size;have h3:=HW.out.2.1;omega⟩
 have hk0':=(hb2.block _ (lt_of_heap hk0)).trans hk0
 have hk1':=(hb2.block _ (lt_of_heap hk1)).trans hk1
 clear hs2 hb2 c1 c2 c3 e1 e2 e3 hk0 hk1
 have c1:W2.cell? ⟨w.heap.size,1,none⟩=some (.slice (some ⟨tb,0,none⟩) d.ts.length (d.ts.length+1)):=by simp[World.cell?,hk0']
 have c2:W2.cell? ⟨w.heap.size,2,none⟩=some (.slice (some ⟨rb,0,none⟩) d.rs.length (d.rs.length+1)):=by simp[World.cell?,hk0']
 have c3:W2.cell? ⟨w.heap.size,3,none⟩=some (.slice (some ⟨hb,0,none⟩) d.hs.length (d.hs.length+1)):=by simp[World.cell?,hk0']
 have e1:W2.cell? ⟨w.heap.size+1,1,none⟩=some (.slice d.at_ d.ts.length d.ct):=by simp[World.cell?,hk1']
 have e2:W2.cell? ⟨w.heap.size+1,2,none⟩=some (.slice d.ar d.rs.length d.cr):=by simp[World.cell?,hk1']
 have e3:W2.cell? ⟨w.heap.size+1,3,none⟩=some (.slice d.ah d.hs.length d.ch):=by simp[World.cell?,hk1']
 have HK:Hid (W2.heap[w.heap.size]?=_∧W2.heap[w.heap.size+1]?=_):=⟨hk0',hk1'⟩
 clear hk0' hk1'
 go_upto_region 6 with fail
 clear e1 e2 e3
 have v1:W2.cell? ⟨tb,d.ts.length,none⟩=some (.int .i64 (-7)):=cell_below HB2.out.1 (cell_of_list HO.out.1.ty (by rw[List.getElem?_append_right (by simp)];simp[iv]))
 have v2:W2.cell? ⟨hb,d.hs.length,none⟩=some (.int .i64 (-7)):=cell_below HB2.out.1 (cell_of_list HO.out.1.hw (by rw[List.getElem?_append_right (by simp)];simp[iv]))
 have v3:W2.cell? ⟨rb,d.rs.length,none⟩=some (.slice (some ⟨zb,0,none⟩) 1 1):=cell_below HB2.out.1 (cell_of_list HO.out.1.rw (by rw[List.getElem?_append_right (by rw[hdrs_length HO.out.1.len];exact Nat.le_refl _),hdrs_length HO.out.1.len,Nat.sub_self];rfl))
 obtain⟨m0,m1,m2⟩:=HO.out.1.zz.of_block (HB2.out.1.block zb o4)
 simp only[markV]at m0 m1 m2
 have hq:∀ W,(binOp .eql 61 (.agg #[.int .i64 (-7),.int .i64 0,.string ⟨#[109,97,114,107]⟩]) (.agg #[.int .i64 (-7),.int .i64 0,.string ⟨#[109,97,114,107]⟩])).run Tryz.prog W=.ok (.bool true) W:=run_eql_same markV markV rfl
 have j0:(0:Int)≤(d.ts.length:Int):=by omega
 have j1:(d.ts.length:Int)<(d.ts.length:Int)+1:=by omega
 have j2:(0:Int)≤(d.hs.length:Int):=by omega
 have j3:(d.hs.length:Int)<(d.hs.length:Int)+1:=by omega
 have j4:(0:Int)≤(d.rs.length:Int):=by omega
 have j5:(d.rs.length:Int)<(d.rs.length:Int)+1:=by omega
 have j6:((d.ts.length:Int)+1).toNat=d.ts.length+1:=by omega
 have j7:((d.hs.length:Int)+1).toNat=d.hs.length+1:=by omega
 have j8:((d.rs.length:Int)+1).toNat=d.rs.length+1:=by omega
 have j9:(0:Int)≤(d.ts.length:Int)+1:=by omega
 have j10:(0:Int)≤(d.hs.length:Int)+1:=by omega
 have j11:(0:Int)≤(d.rs.length:Int)+1:=by omega
 have k0:IntKind.i64.wrap ((d.ts.length:Int)+1)=(d.ts.length:Int)+1:=by rw[IntKind.wrap_i64];omega
 have k1:IntKind.i64.wrap ((d.hs.length:Int)+1)=(d.hs.length:Int)+1:=by rw[IntKind.wrap_i64];omega
 have k2:IntKind.i64.wrap ((d.rs.length:Int)+1)=(d.rs.length:Int)+1:=by rw[IntKind.wrap_i64];omega
 refine wp_region_held_drew (S:=fun X=>(X.cell? ⟨w.heap.size,1,none⟩=some (.slice (some ⟨tb,0,none⟩) d.ts.length (d.ts.length+1))∧X.cell? ⟨w.heap.size,2,none⟩=some (.slice (some ⟨rb,0,none⟩) d.rs.length (d.rs.length+1))∧X.cell? ⟨w.heap.size,3,none⟩=some (.slice (some ⟨hb,0,none⟩) d.hs.length (d.hs.length+1))∧X.cell? ⟨tb,d.ts.length,none⟩=some (.int .i64 (-7))∧X.cell? ⟨hb,d.hs.length,none⟩=some (.int .i64 (-7))∧X.cell? ⟨rb,d.rs.length,none⟩=some (.slice (some ⟨zb,0,none⟩) 1 1)∧X.cell? ⟨zb,0,none⟩=some (.int .i64 (-7))∧X.cell? ⟨zb,1,none⟩=some (.int .i64 0)∧X.cell? ⟨zb,2,none⟩=some (.string ⟨#[109,97,114,107]⟩))∧Below W2.heap.size W2 X) (by kernel_rfl) ⟨⟨cell_drew c1,cell_drew c2,cell_drew c3,cell_drew v1,cell_drew v2,cell_drew v3,cell_drew m0,cell_drew m1,cell_drew m2⟩,below_drew1 (Below.refl _ _)⟩ (fun hH=>?_)
 clear c1 c2 c3 v1 v2 v3 m0 m1 m2
 refine tkj 0 rfl hH ?_
 refine tkj 1 rfl hH ?_
 refine tkj 2 rfl hH ?_
 refine tkn ?_
 refine tkj 3 rfl hH ?_
 refine tkj 4 rfl hH ?_
 refine tkj 5 rfl hH ?_
 refine tkn ?_
 refine tkj 6 rfl hH ?_
 refine tkj 7 rfl hH ?_
 refine tkj 8 rfl hH ?_
 refine tkn ?_
 refine tkj 9 rfl hH ?_
 refine tkj 10 rfl hH ?_
 refine tkj 11 rfl hH ?_
 refine tkn ?_
 refine tkj 12 rfl hH ?_
 refine tkj 13 rfl hH ?_
 refine tkj 14 rfl hH ?_
 refine tkn ?_
 refine tkj 15 rfl hH ?_
 refine tkj 16 rfl hH ?_
 refine tkj 17 rfl hH ?_
 refine tkn ?_
 refine tkj 18 rfl hH ?_
 refine tkj 19 rfl hH ?_
 refine tkj 20 rfl hH ?_
 refine tkn ?_
 refine tkj 21 rfl hH ?_
 refine tkj 22 rfl hH ?_
 refine tkj 23 rfl hH ?_
 refine tkn ?_
 refine tkj 24 rfl hH ?_
 refine tkj 25 rfl hH ?_
 refine tkj 26 rfl hH ?_
 refine tkn ?_
 refine tkj 27 rfl hH ?_
 refine tkj 28 rfl hH ?_
 refine tkj 29 rfl hH ?_
 refine tkn ?_
 refine tkj 30 rfl hH ?_
 refine tkj 31 rfl hH ?_
 refine tkj 32 rfl hH ?_
 refine tkn ?_
 refine tkj 33 rfl hH ?_
 refine tkj 34 rfl hH ?_
 refine tkj 35 rfl hH ?_
 refine tkn ?_
 refine tkj 36 rfl hH ?_
 refine tkj 37 rfl hH ?_
 refine tkj 38 rfl hH ?_
 refine tkn ?_
 refine tkj 39 rfl hH ?_
 refine tkj 40 rfl hH ?_
 refine tkj 41 rfl hH ?_
 refine tkn ?_
 refine tkj 42 rfl hH ?_
 refine tkj 43 rfl hH ?_
 refine tkj 44 rfl hH ?_
 refine tkn ?_
 refine tkj 45 rfl hH ?_
 refine tkj 46 rfl hH ?_
 refine tkj 47 rfl hH ?_
 refine tkn ?_
 refine tkj 48 rfl hH ?_
 refine tkj 49 rfl hH ?_
 refine tkj 50 rfl hH ?_
 refine tkn ?_
 refine tkj 51 rfl hH ?_
 refine tkn ?_
 refine tkr 52 rfl fun K hK=>?_
 go_simp
 refine(mark_any 0 _).mono ?_
 rintro e X1 ⟨rfl,hx1⟩
 go_simp
 refine hK.out _ _ ⟨⟨cell_below hx1 hH.1.1,cell_below hx1 hH.1.2.1,cell_below hx1 hH.1.2.2.1,cell_below hx1 hH.1.2.2.2.1,cell_below hx1 hH.1.2.2.2.2.1,cell_below hx1 hH.1.2.2.2.2.2.1,cell_below hx1 hH.1.2.2.2.2.2.2.1,cell_below hx1 hH.1.2.2.2.2.2.2.2.1,cell_below hx1 hH.1.2.2.2.2.2.2.2.2⟩,below_then hH.2 hx1⟩ (fun hH=>?_)
 clear hK K hx1
 refine tkj 53 rfl hH ?_
 refine tkj 54 rfl hH ?_
 refine tkn ?_
 refine tkj 55 rfl hH ?_
 refine tkn ?_
 refine wpAnyH_done (by kernel_rfl) ?_ _
 clear k0 k1 k2 j0 j1 j2 j3 j4 j5 j6 j7 j8 j9 j10 j11 hq
 have HX:Hid (Below w.heap.size w X1∧w.heap.size+2≤X1.heap.size∧X1.heap[w.heap.size]?=W2.heap[w.heap.size]?∧X1.heap[w.heap.size+1]?=W2.heap[w.heap.size+1]?):=⟨below_then HB2.out.1 hH.2,by have h1:=hH.2.size;have h2:=HB2.out.2;omega,hH.2.block _ (by have:=HB2.out.2;omega),hH.2.block _ (by have:=HB2.out.2;omega)⟩
 clear hH
 have HL0:Hid (LeftD w X1 d tb hb rb zb bs 0):=by
  have hb:=HX.out.1
  refine⟨hb.block _ (by omega),hb.block _ (by omega),⟨_,(hb.block _ (by omega)).trans HO.out.1.rw,by simp[hdrs_length HO.out.1.len],fun k _ hk=>?_⟩,fun k b _ hb'=>hb.block b (by have:=o5 b (List.mem_of_getElem? hb');omega),.of_below hb⟩
  rw[List.getElem?_toArray,List.getElem?_append_left (by rw[hdrs_length HO.out.1.len];exact hk)]
 go_upto_region 8 with fail
 go_loopw [5,10] (fun okv iv' wr=>∃ j:Nat,okv=.bool true∧iv'=.int .i64 (j:Int)∧j≤d.rs.length∧Hid (LeftD w wr d tb hb rb zb bs j∧w.heap.size+2≤wr.heap.size∧wr.heap[w.heap.size]?=W2.heap[w.heap.size]?∧wr.heap[w.heap.size+1]?=W2.heap[w.heap.size+1]?)) (fun _ iv' _=>d.rs.length-(intOf iv').toNat)
 case atStart=>exact⟨0,rfl,rfl,Nat.zero_le _,HL0.out,HX.out.2⟩
 case round=>
  clear HL0
  obtain⟨j,rfl,rfl,hj,HJ⟩:=hrel
  have hk0:=HJ.out.2.2.1.trans HK.out.1
  have hk1:=HJ.out.2.2.2.trans HK.out.2
  by_cases hlt:j<d.rs.length
  ·have HLW:Hid (Below w0.heap.size w0 wr):=HO.out.2.2.1.trans (HJ.out.1.keep.below (fun k hk hh=>by have:=HO.out.2.2.2;omega) HO.out.2.2.1.size)
   obtain⟨b3,o3',ra,rc,har,hb3,x3,hv⟩:=HO.out.2.1.rows.at hlt
   have hjb:j<bs.length:=by rw[HO.out.1.len];exact hlt
   have HRJ:Hid (d.rs[j]?=some d.rs[j]∧bs[j]?=some bs[j]∧j<d.rs.length):=⟨List.getElem?_eq_getElem hlt,List.getElem?_eq_getElem hjb,hlt⟩
   have hrl:=HO.out.2.1.lrr _ (List.getElem_mem hlt)
   generalize d.rs[j]=r at x3 hv hrl HRJ
   generalize bs[j]=b at HRJ
   have hbo:=o5 b (List.mem_of_getElem? HRJ.out.2.1)
   have c2:wr.cell? ⟨w.heap.size,2,none⟩=some (.slice (some ⟨rb,0,none⟩) d.rs.length (d.rs.length+1)):=by simp[World.cell?,hk0]
   have e2:wr.cell? ⟨w.heap.size+1,2,none⟩=some (.slice d.ar d.rs.length d.cr):=by simp[World.cell?,hk1]
   rw[har]at e2
   have y3:=cell_below HLW.out x3
   have y2:wr.cell? ⟨rb,j,none⟩=some (.slice (some ⟨b,0,none⟩) r.length (r.length+2)):=by
    obtain⟨cs,q1,q2,q3⟩:=HJ.out.1.rw
    have q4:=q3 j (Nat.le_refl _) HRJ.out.2.2
    rw[hdrs_at HRJ.out.2.1 HRJ.out.1]at q4
    simp[World.cell?,q1,q4]
   have HST:Hid (∀ X,X.heap[b]?=wr.heap[b]?→Below w0.heap.size w0 X→Calls Tryz.prog 53 #[.slice (some ⟨b,0,none⟩) r.length (r.length+2),.slice ra r.length rc] X fun e w'=>e=.returned (.bool true)∧X.grownBy w' (some b)):=fun X h1 h2=>
    still_any b ra rc r X hrl ((HO.out.1.row j b r HRJ.out.2.1 HRJ.out.1).of_block (h1.trans (HJ.out.1.row j b (Nat.le_refl _) HRJ.out.2.1))) (hv.below h2)
   have i1:(0:Int)≤(j:Int):=by omega
   have i2:(j:Int)<(d.rs.length:Int):=by omega
   have HNE:Hid (b3<tb):=by have:=HO.out.2.2.2;show b3<tb;omega
   clear har hv hk0 hk1 x3 hb3 hjb hlt
   go_upto_region 10 with fail
   refine wp_region_held_drew (S:=fun X=>X.cell? ⟨w.heap.size,2,none⟩=some (.slice (some ⟨rb,0,none⟩) d.rs.length (d.rs.length+1))∧X.cell? ⟨w.heap.size+1,2,none⟩=some (.slice (some ⟨b3,o3',none⟩) d.rs.length d.cr)∧X.cell? ⟨rb,j,none⟩=some (.slice (some ⟨b,0,none⟩) r.length (r.length+2))∧X.cell? ⟨b3,o3'+j,none⟩=some (.slice ra r.length rc)) (by kernel_rfl) ⟨cell_drew c2,cell_drew e2,cell_drew y2,cell_drew y3⟩ (fun hH=>?_)
   refine tkj 0 rfl hH ?_
   refine tkj 1 rfl hH ?_
   refine tkj 2 rfl hH ?_
   refine tkj 3 rfl hH ?_
   refine tkj 4 rfl hH ?_
   refine tkj 5 rfl hH ?_
   refine tkj 6 rfl hH ?_
   refine tkj 7 rfl hH ?_
   refine tkj 8 rfl hH ?_
   refine tkj 9 rfl hH ?_
   refine tkj 10 rfl hH ?_
   refine tkj 11 rfl hH ?_
   refine tkn ?_
   refine tkr 12 rfl fun K hK=>?_
   go_simp
   refine(HST.out wr.drew rfl (below_drew1 HLW.out)).mono ?_
   rintro e w2 ⟨rfl,hg2⟩
   go_simp
   have hoth:∀ (k o:Nat) u,k≠b→wr.cell? ⟨k,o,none⟩=some u→w2.cell? ⟨k,o,none⟩=some u:=fun k o u hk hu=>by
    rw[←hu]
    exact World.cell?_of_block (hg2.block k (lt_of_cell hu) fun e=>hk (Option.some.inj e))
   have hS2:w2.cell? ⟨w.heap.size,2,none⟩=some (.slice (some ⟨rb,0,none⟩) d.rs.length (d.rs.length+1)):=hoth _ _ _ (by omega) c2
   refine hK.out _ _ ⟨hS2,hoth _ _ _ (by omega) e2,hoth _ _ _ (by omega) y2,hoth _ _ _ (by have:=HNE.out;omega) y3⟩ (fun hH=>?_)
   clear hK K
   refine tkj 13 rfl hH ?_
   refine tkn ?_
   refine wpAnyH_done (by kernel_rfl) ?_ _
   have HN2:Hid (LeftD w (w2.setCell ⟨rb,j,none⟩ (.slice none 0 0)) d tb hb rb zb bs (j+1)∧w.heap.size+2≤(w2.setCell ⟨rb,j,none⟩ (.slice none 0 0)).heap.size∧(w2.setCell ⟨rb,j,none⟩ (.slice none 0 0)).heap[w.heap.size]?=W2.heap[w.heap.size]?∧(w2.setCell ⟨rb,j,none⟩ (.slice none 0 0)).heap[w.heap.size+1]?=W2.heap[w.heap.size+1]?):=by
    obtain⟨⟨k1,k2,⟨cs,k3,k4,k5⟩,k6,k7⟩,k8,k9,k10⟩:=HJ.out
    have hz:=hg2.size
    have hzz:(w2.setCell ⟨rb,j,none⟩ (.slice none 0 0)).heap.size=w2.heap.size:=by simp[World.setCell]
    have hz':wr.heap.size≤w2.heap.size:=hz
    have ho:∀ k,k<wr.heap.size→k≠rb→k≠b→(w2.setCell ⟨rb,j,none⟩ (.slice none 0 0)).heap[k]?=wr.heap[k]?:=fun k hk n1 n2=>(heap_setCell_other _ _ _ _ n1).trans (hg2.block k hk fun e=>n2 (Option.some.inj e))
    have hrb:=(hg2.block rb (lt_of_heap k3) fun e=>by have:=Option.some.inj e;omega).trans k3
    have kz:=k7.size
    refine⟨⟨(ho tb (by omega) (by omega) (by omega)).trans k1,(ho hb (by omega) (by omega) (by omega)).trans k2,⟨_,heap_set hrb j _,by simp[k4],fun k h1 h2=>?_⟩,fun k b' h1 h2=>?_,?_⟩,by omega,(ho _ (by omega) (by omega) (by omega)).trans k9,(ho _ (by omega) (by omega) (by omega)).trans k10⟩
    ·rw[Array.getElem?_setIfInBounds_ne (by omega)]
     exact k5 k (by omega) h2
    ·have h3:=o5 b' (List.mem_of_getElem? h2)
     refine(ho b' (by omega) (by omega) fun e=>?_).trans (k6 k b' (by omega) h2)
     subst e
     obtain⟨q1,q2⟩:=List.getElem?_eq_some_iff.1 h2
     obtain⟨q3,q4⟩:=List.getElem?_eq_some_iff.1 HRJ.out.2.1
     have:=List.pairwise_iff_getElem.1 o6 j k q3 q1 (by omega)
     omega
    refine k7.trans ⟨hg2.os,hg2.tape,hg2.output,by omega,fun k hk hn=>?_⟩
    exact ho k hk (fun e=>hn (by omega)) fun e=>hn (by omega)
   have z2:w2.frozen? ⟨rb,j,none⟩=false:=by
    obtain⟨cs,k3,_,_⟩:=HJ.out.1.rw
    have hrb:=(hg2.block rb (lt_of_heap k3) fun e=>by have:=Option.some.inj e;omega).trans k3
    simp[World.frozen?,hrb]
   have y4:=hH.2.2.1
   have i3:(j:Int)<(d.rs.length:Int):=i2
   clear hH c2 e2 y2 y3 hoth hg2
   go_wp2
   go_roundw
   case rel=>exact⟨j+1,rfl,by have:=HRJ.out.2.2;go_num,HRJ.out.2.2,HN2.out⟩
   case measure=>have:=HRJ.out.2.2;simp[intOf];omega
  have x1:¬ ((j:Int)<(d.rs.length:Int)):=by omega
  have HQ:Hid (Keep (fun k=>tb≤k∧k≤zb) w wr∧w.heap.size+2≤wr.heap.size∧wr.heap[w.heap.size]?=W2.heap[w.heap.size]?∧(∃ cs,wr.heap[tb]?=some (.cells cs 3 (0,0))∧cs.size=d.ts.length+1)∧(∃ cs,wr.heap[hb]?=some (.cells cs 3 (0,0))∧cs.size=d.hs.length+1)):=⟨HJ.out.1.keep,HJ.out.2.1,HJ.out.2.2.1,⟨_,HJ.out.1.ty.trans HO.out.1.ty,by simp⟩,⟨_,HJ.out.1.hw.trans HO.out.1.hw,by simp⟩⟩
  clear HJ hk0 hk1
  go_upto_region 14 with fail
  clear x1
  go_loopw [12] (fun iv' wx=>∃ k:Nat,iv'=.int .i64 (k:Int)∧k≤d.ts.length∧Hid (Keep (fun k=>tb≤k∧k≤zb) w wx∧w.heap.size+2≤wx.heap.size∧wx.heap[w.heap.size]?=W2.heap[w.heap.size]?∧(∃ cs,wx.heap[tb]?=some (.cells cs 3 (0,0))∧cs.size=d.ts.length+1)∧(∃ cs,wx.heap[hb]?=some (.cells cs 3 (0,0))∧cs.size=d.hs.length+1))) (fun iv' _=>d.ts.length-(intOf iv').toNat)
  case atStart=>exact⟨0,rfl,Nat.zero_le _,HQ.out⟩
  case round=>
   clear HQ
   obtain⟨k,rfl,hk,HQ⟩:=hrel
   have hk0:=HQ.out.2.2.1.trans HK.out.1
   by_cases hlt2:k<d.ts.length
   ·have c1:wr.cell? ⟨w.heap.size,1,none⟩=some (.slice (some ⟨tb,0,none⟩) d.ts.length (d.ts.length+1)):=by simp[World.cell?,hk0]
    obtain⟨cs,q1,q2⟩:=HQ.out.2.2.2.1
    have y1:wr.cell? ⟨tb,k,none⟩=some (cs[k]'(by omega)):=by simp[World.cell?,q1,show k<cs.size by omega]
    have z1:wr.frozen? ⟨tb,k,none⟩=false:=by simp[World.frozen?,q1]
    generalize cs[k]'(by omega)=u at y1
    have i1:(0:Int)≤(k:Int):=by omega
    have i2:(k:Int)<(d.ts.length:Int):=by omega
    have HLT:Hid (k<d.ts.length):=hlt2
    have HN2:Hid (Keep (fun k=>tb≤k∧k≤zb) w (wr.setCell ⟨tb,k,none⟩ (.int .i64 3))∧w.heap.size+2≤(wr.setCell ⟨tb,k,none⟩ (.int .i64 3)).heap.size∧(wr.setCell ⟨tb,k,none⟩ (.int .i64 3)).heap[w.heap.size]?=W2.heap[w.heap.size]?∧(∃ cs,(wr.setCell ⟨tb,k,none⟩ (.int .i64 3)).heap[tb]?=some (.cells cs 3 (0,0))∧cs.size=d.ts.length+1)∧(∃ cs,(wr.setCell ⟨tb,k,none⟩ (.int .i64 3)).heap[hb]?=some (.cells cs 3 (0,0))∧cs.size=d.hs.length+1)):=by
     obtain⟨k1,k2,k3,k4,k5⟩:=HQ.out
     obtain⟨cs',k5,k6⟩:=k5
     exact⟨k1.set ⟨Nat.le_refl _,by omega⟩ _ _,by simp[World.setCell];omega,(heap_setCell_other _ _ _ _ (by show w.heap.size≠tb;omega)).trans k3,⟨_,heap_set q1 k _,by simp[q2]⟩,⟨cs',(heap_setCell_other _ _ _ _ (by show hb≠tb;omega)).trans k5,k6⟩⟩
    clear hk0 q1 q2 hlt2
    go_wp2
    go_roundw
    case rel=>exact⟨k+1,by have:=HLT.out;go_num,HLT.out,HN2.out⟩
    case measure=>have:=HLT.out;simp[intOf];omega
   have x1:¬ ((k:Int)<(d.ts.length:Int)):=by omega
   clear hk0
   go_upto_region 18 with fail
   clear x1
   go_loopw [13] (fun iv' wx=>∃ k:Nat,iv'=.int .i64 (k:Int)∧k≤d.hs.length∧Hid (Keep (fun k=>tb≤k∧k≤zb) w wx∧w.heap.size+2≤wx.heap.size∧wx.heap[w.heap.size]?=W2.heap[w.heap.size]?∧(∃ cs,wx.heap[hb]?=some (.cells cs 3 (0,0))∧cs.size=d.hs.length+1))) (fun iv' _=>d.hs.length-(intOf iv').toNat)
   case atStart=>exact⟨0,rfl,Nat.zero_le _,HQ.out.1,HQ.out.2.1,HQ.out.2.2.1,HQ.out.2.2.2.2⟩
   case round=>
    clear HQ
    obtain⟨k,rfl,hk,HQ⟩:=hrel
    have hk0:=HQ.out.2.2.1.trans HK.out.1
    by_cases hlt3:k<d.hs.length
    ·have c3:wr.cell? ⟨w.heap.size,3,none⟩=some (.slice (some ⟨hb,0,none⟩) d.hs.length (d.hs.length+1)):=by simp[World.cell?,hk0]
     obtain⟨cs,q1,q2⟩:=HQ.out.2.2.2
     have y1:wr.cell? ⟨hb,k,none⟩=some (cs[k]'(by omega)):=by simp[World.cell?,q1,show k<cs.size by omega]
     have z1:wr.frozen? ⟨hb,k,none⟩=false:=by simp[World.frozen?,q1]
     generalize cs[k]'(by omega)=u at y1
     have i1:(0:Int)≤(k:Int):=by omega
     have i2:(k:Int)<(d.hs.length:Int):=by omega
     have HLT:Hid (k<d.hs.length):=hlt3
     have HN2:Hid (Keep (fun k=>tb≤k∧k≤zb) w (wr.setCell ⟨hb,k,none⟩ (.int .i64 2))∧w.heap.size+2≤(wr.setCell ⟨hb,k,none⟩ (.int .i64 2)).heap.size∧(wr.setCell ⟨hb,k,none⟩ (.int .i64 2)).heap[w.heap.size]?=W2.heap[w.heap.size]?∧(∃ cs,(wr.setCell ⟨hb,k,none⟩ (.int .i64 2)).heap[hb]?=some (.cells cs 3 (0,0))∧cs.size=d.hs.length+1)):=by
      obtain⟨k1,k2,k3,k4⟩:=HQ.out
      exact⟨k1.set ⟨by omega,by omega⟩ _ _,by simp[World.setCell];omega,(heap_setCell_other _ _ _ _ (by show w.heap.size≠hb;omega)).trans k3,⟨_,heap_set q1 k _,by simp[q2]⟩⟩
     clear hk0 q1 q2 hlt3
     go_wp2
     go_roundw
     case rel=>exact⟨k+1,by have:=HLT.out;go_num,HLT.out,HN2.out⟩
     case measure=>have:=HLT.out;simp[intOf];omega
    have x1:¬ ((k:Int)<(d.hs.length:Int)):=by omega
    clear hk0
    go_wp2
    go_ret
    exact⟨rfl,HQ.out.1⟩
end Go.Proofs.YtkgibdjakgmmcaaGreatDoor
