/- The document's Check. -/
import Derived.Test.YtkgibdjakgmmcaaGreatDoorVr
import Derived.Test.YtkgibdjakgmmcaaGreatDoorSe
import Derived.Test.YtkgibdjakgmmcaaGreatDoorXb
import Derived.Test.YtkgibdjakgmmcaaGreatDoorTp
import Derived.Test.YtkgibdjakgmmcaaGreatDoorYa
import Derived.Test.YtkgibdjakgmmcaaGreatDoorKa
import Derived.Test.YtkgibdjakgmmcaaGreatDoorRh
import Derived.Deep.RegionWith
import Derived.Test.YtkgibdjakgmmcaaGreatDoorKk
set_option maxHeartbeats 40000000
set_option maxRecDepth 100000
namespace Go.Proofs.YtkgibdjakgmmcaaGreatDoor
section
open Go.RowKit Go.Shelf
attribute [local go_sem] Oper.semAt_some
def RCk (w:World)(o:Option Int)(scs:List (List Int))(e:Ending)(w':World):Prop:=Below w.heap.size w w'∧match o with
 |some i=>e=.returned (.tuple #[.slice none 0 0,faultR 8 i (-1) (-1) (-1)])
 |none=>∃ b off c,e=.returned (.tuple #[.slice (some ⟨b,off,none⟩) scs.length c,faultR 0 (-1) (-1) (-1) (-1)])∧KnAt w' (some ⟨b,off,none⟩) scs
theorem rCheck_size (st:Nat)(a:Option Addr)(n nc:Nat)(scs:List (List Int))(w:World)(hn:¬ (1≤n∧n≤12)) :
  Calls Tryz.prog 14 #[.pointer (some ⟨st,0,none⟩),.agg #[.slice a n nc]] w (RCk w (some (-1)) scs):=by
 have hb0:Below w.heap.size w ((w.alloc (.cells #[.slice a n nc] 25)).alloc zeroFault):=below_alloc (below_alloc (Below.refl _ _) _) _
 have hk5:((w.alloc (.cells #[.slice a n nc] 25)).alloc zeroFault).heap[w.heap.size+1]?=some (.cells #[.int .i64 0,.int .i64 0,.int .i64 0,.int .i64 0,.int .i64 0] 52 (0,0)):=by
  have:=heap_alloc_new (w.alloc (.cells #[.slice a n nc] 25)) zeroFault
  rwa [World.size_alloc]at this
 have hp0:((w.alloc (.cells #[.slice a n nc] 25)).alloc zeroFault).cell? ⟨w.heap.size,0,none⟩=some (.slice a n nc):=by rw[World.cell?_alloc_lt _ _ _ (by simp)];simp
 obtain⟨W0,hW0⟩:∃ W0,W0=(w.alloc (.cells #[.slice a n nc] 25)).alloc zeroFault:=⟨_,rfl⟩
 rw[←hW0]at hb0 hk5 hp0
 have H0:Hid (Below w.heap.size w W0∧W0.heap[w.heap.size+1]?=some (.cells #[.int .i64 0,.int .i64 0,.int .i64 0,.int .i64 0,.int .i64 0] 52 (0,0))∧W0.cell? ⟨w.heap.size,0,none⟩=some (.slice a n nc)):=⟨hb0,hk5,hp0⟩
 have hbad:=rBad_any 8 W0
 have HN:Hid (¬ (1≤n∧n≤12)):=hn
 rw[hW0]at hbad
 clear hb0 hk5 hp0 hn
 go_enter Tryz.func14,Tryz.ntmps14
 go_upto_region 2 with(go_at_call 24;refine hbad.mono ?_;rintro e' X1 ⟨rfl,hb1⟩)
 rw[←hW0]at hb1
 have hb2:Below X1.heap.size X1 (X1.alloc (.cells #[.int .i64 8,.int .i64 (-1),.int .i64 (-1),.int .i64 (-1),.int .i64 (-1)] 52)):=below_alloc (Below.refl _ _) _
 have hk6:=heap_alloc_new X1 (.cells #[.int .i64 8,.int .i64 (-1),.int .i64 (-1),.int .i64 (-1),.int .i64 (-1)] 52)
 obtain⟨f6,hf6⟩:∃ f6,f6=X1.heap.size:=⟨_,rfl⟩
 have hz:w.heap.size+1<X1.heap.size:=Nat.lt_of_lt_of_le (lt_of_heap H0.out.2.1) hb1.size
 have hk5:=(hb2.block _ hz).trans ((hb1.block _ (lt_of_heap H0.out.2.1)).trans H0.out.2.1)
 have hp2:=cell_below hb2 (cell_below hb1 H0.out.2.2)
 have hlow:=below_then (below_then H0.out.1 hb1) hb2
 have HNE:Hid (f6≠w.heap.size+1):=by show _≠_;omega
 rw[←hf6]at hk6 ⊢
 generalize X1.alloc (.cells #[.int .i64 8,.int .i64 (-1),.int .i64 (-1),.int .i64 (-1),.int .i64 (-1)] 52)=W2 at hk5 hk6 hp2 hlow ⊢
 clear hb1 hb2 hz hf6 hbad hW0
 by_cases h0:n=0
 focus
  subst h0
  clear HN
 rotate_left 1
 focus
  have h1:((n:Int)==0)=false:=by simp[h0]
  have h2:(12:Int)<(n:Int):=by have:=HN.out;omega
  clear HN h0
 all_goals
  go_upto_region 3 with fail
  have g0:W2.cell? ⟨f6,0,none⟩=some (.int .i64 8):=by simp[World.cell?,hk6]
  have g1:W2.cell? ⟨f6,1,none⟩=some (.int .i64 (-1)):=by simp[World.cell?,hk6]
  have g2:W2.cell? ⟨f6,2,none⟩=some (.int .i64 (-1)):=by simp[World.cell?,hk6]
  have g3:W2.cell? ⟨f6,3,none⟩=some (.int .i64 (-1)):=by simp[World.cell?,hk6]
  have g4:W2.cell? ⟨f6,4,none⟩=some (.int .i64 (-1)):=by simp[World.cell?,hk6]
  have a0:W2.cell? ⟨w.heap.size+1,0,none⟩=some (.int .i64 0):=by simp[World.cell?,hk5]
  have a1:W2.cell? ⟨w.heap.size+1,1,none⟩=some (.int .i64 0):=by simp[World.cell?,hk5]
  have a2:W2.cell? ⟨w.heap.size+1,2,none⟩=some (.int .i64 0):=by simp[World.cell?,hk5]
  have a3:W2.cell? ⟨w.heap.size+1,3,none⟩=some (.int .i64 0):=by simp[World.cell?,hk5]
  have a4:W2.cell? ⟨w.heap.size+1,4,none⟩=some (.int .i64 0):=by simp[World.cell?,hk5]
  have b0:W2.frozen? ⟨w.heap.size+1,0,none⟩=false:=by simp[World.frozen?,hk5]
  have b1:W2.frozen? ⟨w.heap.size+1,1,none⟩=false:=by simp[World.frozen?,hk5]
  have b2:W2.frozen? ⟨w.heap.size+1,2,none⟩=false:=by simp[World.frozen?,hk5]
  have b3:W2.frozen? ⟨w.heap.size+1,3,none⟩=false:=by simp[World.frozen?,hk5]
  have b4:W2.frozen? ⟨w.heap.size+1,4,none⟩=false:=by simp[World.frozen?,hk5]
  have hk5':=heap_set (heap_set (heap_set (heap_set (heap_set hk5 0 (.int .i64 8)) 1 (.int .i64 (-1))) 2 (.int .i64 (-1))) 3 (.int .i64 (-1))) 4 (.int .i64 (-1))
  simp only[List.setIfInBounds_toArray,List.set_cons_zero,List.set_cons_succ]at hk5'
  have HK5:Hid _:=hk5'
  clear hk5'
  refine wp_region_held_drew (S:=fun X=>X.cell? ⟨f6,0,none⟩=some (.int .i64 8)∧X.cell? ⟨f6,1,none⟩=some (.int .i64 (-1))∧X.cell? ⟨f6,2,none⟩=some (.int .i64 (-1))∧X.cell? ⟨f6,3,none⟩=some (.int .i64 (-1))∧X.cell? ⟨f6,4,none⟩=some (.int .i64 (-1))) (by kernel_rfl) ⟨cell_drew g0,cell_drew g1,cell_drew g2,cell_drew g3,cell_drew g4⟩ (fun hH=>?_)
  refine tkj 0 rfl hH ?_
  refine tkj 1 rfl hH ?_
  refine tkn ?_
  clear g0 g1 g2 g3 g4
  refine tkr 2 rfl fun K hK=>?_
  go_simp
  have hcs:∀ (b o:Nat),b≠w.heap.size+1→(((((W2.setCell ⟨w.heap.size+1,0,none⟩ (.int .i64 8)).setCell ⟨w.heap.size+1,1,none⟩ (.int .i64 (-1))).setCell ⟨w.heap.size+1,2,none⟩ (.int .i64 (-1))).setCell ⟨w.heap.size+1,3,none⟩ (.int .i64 (-1))).setCell ⟨w.heap.size+1,4,none⟩ (.int .i64 (-1))).drew.cell? ⟨b,o,none⟩=W2.drew.cell? ⟨b,o,none⟩:=fun b o hb=>by
   show World.cell? _ _=World.cell? W2 _
   simp only[World.cell?,World.drew,set5_other _ _ _ _ _ _ _ b hb]
  refine hK.out _ _ ⟨(hcs _ _ HNE.out).trans hH.1,(hcs _ _ HNE.out).trans hH.2.1,(hcs _ _ HNE.out).trans hH.2.2.1,(hcs _ _ HNE.out).trans hH.2.2.2.1,(hcs _ _ HNE.out).trans hH.2.2.2.2⟩ (fun hH=>?_)
  clear hK K hcs hH a0 a1 a2 a3 a4 b0 b1 b2 b3 b4
  refine wpAnyH_done (by kernel_rfl) ?_ _
  go_wp2
  exact bodyPost_ret (v:=.tuple #[.slice none 0 0,faultR 8 (-1) (-1) (-1) (-1)]) (by simp[results,Tryz.results14,go_sem,World.cell?,HK5.out,World.drew]) rfl ⟨drew_below (below_set5 hlow (by omega) _ _ _ _ _),rfl⟩
attribute [local go_sem] Oper.semAt_some
theorem rSchema_b (st:Nat)(Rs:List (ByteArray×List Int))(a ka:Option Addr)(nc kc:Nat)(nds:List Nd)(ns:List QN)(scs:List (List Int))(n:QN)(w:World)(h:ScIn w st Rs a ka nds ns scs)(hn:ns[scs.length]?=some n)(hks:n.ks.length≤4400000000000)(hX:(1≤n.op∧n.op≤7∧n.op≠3∧n.op≠7)∧freeQ scs (flQ ns scs.length) n.l≠none) :
  Calls Tryz.prog 25 #[.pointer (some ⟨st,0,none⟩),.agg #[.slice a ns.length nc],.int .i64 (scs.length:Int),.slice ka scs.length kc] w (RS w (nodeQ (tysR Rs) scs (flQ ns scs.length) n)):=by
 have HX:Hid _:=hX
 clear hX
 obtain⟨nd,hnd⟩:∃ nd,nds[scs.length]?=some nd:=⟨_,List.getElem?_eq_getElem (by rw[h.pln.len];exact h.lt)⟩
 obtain⟨pb,po,rfl,hat⟩:=h.pln.at_ _ nd hnd
 have hq:=h.pln.is _ nd n hnd hn
 have hb0:Below w.heap.size w (ndBox (plBox w (some ⟨pb,po,none⟩) ns.length nc) nd):=below_alloc (below_alloc (Below.refl _ _) _) _
 have hNA:NodeAt (ndBox (plBox w (some ⟨pb,po,none⟩) ns.length nc) nd) (w.heap.size+1) 0 nd:=by
  have:=ndBox_at (plBox w (some ⟨pb,po,none⟩) ns.length nc) nd
  rwa [World.size_alloc]at this
 have hPA:(ndBox (plBox w (some ⟨pb,po,none⟩) ns.length nc) nd).cell? ⟨w.heap.size,0,none⟩=some (.slice (some ⟨pb,po,none⟩) ns.length nc):=by
  rw[World.cell?_alloc_lt _ _ _ (by simp)];simp
 obtain⟨y0,y1,y2,y3,y4,y5,y6⟩:=hat.below (below_alloc (Below.refl w.heap.size w) (.cells #[.slice (some ⟨pb,po,none⟩) ns.length nc] 25))
 obtain⟨R,hR⟩:∃ R,nodeQ (tysR Rs) scs (flQ ns scs.length) n=R:=⟨_,rfl⟩
 rw[hR]
 have HR:Hid (nodeQ (tysR Rs) scs (flQ ns scs.length) n=R):=hR
 have HH:Hid (ScIn w st Rs (some ⟨pb,po,none⟩) ka nds ns scs∧NdQ w nd n∧n.ks.length≤4400000000000):=⟨h,hq,hks⟩
 have i1:(0:Int)≤(scs.length:Int):=by omega
 have i2:(scs.length:Int)<(ns.length:Int):=by have:=h.lt;omega
 have i3:(ns.length:Int)≤12:=by have:=h.n12;omega
 obtain⟨W0,hW0⟩:∃ W0,W0=ndBox (plBox w (some ⟨pb,po,none⟩) ns.length nc) nd:=⟨_,rfl⟩
 rw[←hW0]at hb0 hNA hPA
 have H0:Hid (Below w.heap.size w W0∧NodeAt W0 (w.heap.size+1) 0 nd∧W0.cell? ⟨w.heap.size,0,none⟩=some (.slice (some ⟨pb,po,none⟩) ns.length nc)):=⟨hb0,hNA,hPA⟩
 obtain⟨kk,hkk⟩:∃ kk,kk=scs.length:=⟨_,rfl⟩
 have HK:Hid (kk=scs.length):=hkk
 rw[←hkk]at y0 y1 y2 y3 y4 y5 y6 i1 i2 ⊢
 obtain⟨m,hm⟩:∃ m,m=ns.length:=⟨_,rfl⟩
 have HM:Hid (m=ns.length):=hm
 rw[←hm]at i2 i3 hW0 y0 y1 y2 y3 y4 y5 y6 ⊢
 clear hR h hq hnd hat hb0 hNA hPA hkk hm hn hks
 go_enter Tryz.func25,Tryz.ntmps25
 go_upto_region 2 with fail
 rw[show (w.alloc (.cells #[.slice (some ⟨pb,po,none⟩) m nc] 25)).alloc (.cells #[.int .i64 nd.op,.int .i64 nd.l,.int .i64 nd.r,.string nd.tn,.slice nd.xs.1 nd.xs.2.1 nd.xs.2.2,.slice nd.ky.1 nd.ky.2.1 nd.ky.2.2,.int .i64 nd.kk] 68)=W0 from hW0.symm]
 clear hW0 y0 y1 y2 y3 y4 y5 y6
 obtain⟨z0,z1,z2,z3,z4,z5,z6⟩:=H0.out.2.1
 rw[Nat.zero_add]at z1 z2 z3 z4 z5 z6
 rw[HH.out.2.1.op]at z0
 rw[HH.out.2.1.l]at z1
 rw[HH.out.2.1.r]at z2
 have zp:=H0.out.2.2
 rw[←HM.out]at zp
 generalize hop:n.op=op at z0
 have HOP:Hid (n.op=op):=hop
 clear hop
 by_cases hlo:op<0
 ·exfalso;have h1:=HOP.out;have h2:=HX.out.1;omega
 have h0:(0:Int)≤op:=by omega
 by_cases hhi:7<op
 ·exfalso;have h1:=HOP.out;have h2:=HX.out.1;omega
 have h7:op≤7:=by omega
 clear hlo hhi
 by_cases e0:op=0
 ·exfalso;have h1:=HOP.out;have h2:=HX.out.1;omega
 have hne:n.op≠0:=by rw[HOP.out];exact e0
 have hops:op=1∨op=2∨op=3∨op=4∨op=5∨op=6∨op=7:=by omega
 generalize hll:n.l=ll at z1
 have HLL:Hid (n.l=ll):=hll
 clear hll
 by_cases hl0:ll<0
 ·exfalso;exact HX.out.2 (freeQ_neg (by have:=HLL.out;have:=HK.out;omega))
 have l0:(0:Int)≤ll:=by omega
 by_cases hlk:(kk:Int)≤ll
 ·exfalso;exact HX.out.2 (freeQ_neg (by have:=HLL.out;have:=HK.out;omega))
 have lk:ll<(kk:Int):=by omega
 clear hl0 hlk
 obtain⟨i,rfl⟩:∃ i:Nat,ll=(i:Int):=⟨ll.toNat,by omega⟩
 have hnm:=rNamed_any (some ⟨pb,po,none⟩) nc nds ns (i:Int) scs.length W0 (HH.out.1.pln.below H0.out.1) (Nat.le_of_lt HH.out.1.lt) HH.out.1.n12
 have hfl:((ns.take scs.length).any fun n=>namI n (i:Int))=flQ ns scs.length i:=rfl
 rw[hfl,←HK.out,←HM.out]at hnm
 rcases hfi:flQ ns kk i with _|_
 rotate_left
 ·exfalso;refine HX.out.2 ?_;rw[HLL.out];exact freeQ_named (by rw[←HK.out];exact hfi)
 rw[hfi]at hnm
 obtain⟨s,hs⟩:∃ s,scs[i]?=some s:=⟨_,List.getElem?_eq_getElem (by have:=HK.out;omega)⟩
 have hfr:freeQ scs (flQ ns scs.length) n.l=some s:=by rw[HLL.out];exact freeQ_ok hs (by rw[←HK.out];exact hfi)
 have HFR:Hid (freeQ scs (flQ ns scs.length) n.l=some s∧SchOk s):=⟨hfr,HH.out.1.sch s (List.mem_of_getElem? hs)⟩
 have HKN:Hid (∀ X,Below w.heap.size w X→∃ b o sa so sc,ka=some ⟨b,o,none⟩∧X.cell? ⟨b,o+i,none⟩=some (.slice (some ⟨sa,so,none⟩) s.length sc)∧Ints X (some ⟨sa,so,none⟩) s∧TyI X (some ⟨sa,so,none⟩)):=fun X hX=>by
  obtain⟨b,o,sa,sc,e,c,hi,hty⟩:=(HH.out.1.kn.below hX) i s hs
  obtain⟨xb,xo,rfl,-,-⟩:=Ints.at (ns:=s) hi (i:=0) (by have:=HFR.out.2.1.1;omega)
  exact⟨b,o,xb,xo,sc,e,c,hi,hty⟩
 clear hfr hs hfi hfl e0 h0 h7
 have HNE:Hid (n.op≠0):=hne
 clear hne
 have hbox:∀ X,Below W0.heap.size W0 X→NodeAt X (w.heap.size+1) 0 nd:=fun X hX=>H0.out.2.1.below hX
 have HBX:Hid _:=hbox
 clear hbox
 obtain⟨kb,ko,sa,so,sc,rfl,cK,hI,hTK⟩:=HKN.out w (Below.refl _ _)
 have HC:Hid (∀ X,Below W0.heap.size W0 X→X.cell? ⟨kb,ko+i,none⟩=some (.slice (some ⟨sa,so,none⟩) s.length sc)∧Ints X (some ⟨sa,so,none⟩) s∧NdQ X nd n):=fun X hX=>⟨cell_below (below_then H0.out.1 hX) cK,hI.below (below_then H0.out.1 hX),HH.out.2.1.below (below_then H0.out.1 hX)⟩
 have HTK:Hid (TyI w (some ⟨sa,so,none⟩)):=hTK
 clear cK hI hTK HKN z0 z1 z2 z3 z4 z5 z6
 obtain⟨z0,z1,z2,z3,z4,z5,z6⟩:=H0.out.2.1
 rw[Nat.zero_add]at z1 z2 z3 z4 z5 z6
 rw[HH.out.2.1.op,HOP.out]at z0
 rw[HH.out.2.1.l,HLL.out]at z1
 rw[HH.out.2.1.r]at z2
 have HQ:Hid (NdQ w nd n):=HH.out.2.1
 have hCW:∀ X,Below W0.heap.size W0 X→X.cell? ⟨w.heap.size+1,0,none⟩=some (.int .i64 op)∧X.cell? ⟨w.heap.size+1,1,none⟩=some (.int .i64 (i:Int))∧X.cell? ⟨w.heap.size+1,2,none⟩=some (.int .i64 n.r)∧X.cell? ⟨w.heap.size+1,3,none⟩=some (.string nd.tn)∧X.cell? ⟨w.heap.size+1,4,none⟩=some (.slice nd.xs.1 nd.xs.2.1 nd.xs.2.2)∧X.cell? ⟨w.heap.size+1,5,none⟩=some (.slice nd.ky.1 nd.ky.2.1 nd.ky.2.2)∧X.cell? ⟨w.heap.size+1,6,none⟩=some (.int .i64 nd.kk)∧X.cell? ⟨w.heap.size,0,none⟩=some (.slice (some ⟨pb,po,none⟩) m nc):=fun X hX=>⟨cell_below hX z0,cell_below hX z1,cell_below hX z2,cell_below hX z3,cell_below hX z4,cell_below hX z5,cell_below hX z6,cell_below hX zp⟩
 have hval:nd.val=.agg #[.int .i64 op,.int .i64 (i:Int),.int .i64 n.r,.string nd.tn,.slice nd.xs.1 nd.xs.2.1 nd.xs.2.2,.slice nd.ky.1 nd.ky.2.1 nd.ky.2.2,.int .i64 nd.kk]:=by rw[Nd.val,HH.out.2.1.op,HOP.out,HH.out.2.1.l,HLL.out,HH.out.2.1.r]
 have HV:Hid _:=hval
 have HCW:Hid _:=hCW
 clear hval hCW
 have j1:(0:Int)≤(i:Int):=by omega
 by_cases h37:op=3∨op=7
 ·exfalso;have h1:=HOP.out;have h2:=HX.out.1;omega
 have hfive:op=1∨op=2∨op=4∨op=5∨op=6:=by omega
 have hq1:nodeQ (tysR Rs) scs (flQ ns scs.length) n=if op=1 then filtQ s n else if op=2 then projQ s n else if op=4 then grpQ s n else if op=5 then srtQ s n else limQ s n:=by
  unfold nodeQ
  rw[HFR.out.1,HOP.out]
  rcases hfive with e|e|e|e|e<;>subst e<;>simp
 rw[HR.out]at hq1
 have HQ1:Hid _:=hq1
 clear HR hq1 hops h37
 rcases hfive with rfl|rfl|rfl|rfl|rfl
 ·-- Filter
  have hRe:R=filtQ s n:=HQ1.out
  go_upto_region 16 with(go_at_call 26;refine hnm.mono ?_;rintro e' W1 ⟨rfl,hb1⟩;obtain⟨v0,v1,v2,v3,v4,v5,v6,v7⟩:=HCW.out W1 hb1;obtain⟨cK,-,-⟩:=HC.out W1 hb1)
  have HB1:Hid (Below W0.heap.size W0 W1∧Below w.heap.size w W1):=⟨hb1,below_then H0.out.1 hb1⟩
  have hqx:=(HC.out W1 hb1).2.2
  rw[hqx.xl]at v4
  have hxs:=hqx.xs
  clear hqx hb1 hnm z0 z1 z2 z3 z4 z5 z6 zp
  rcases hes:n.es with _|⟨e,es⟩
  ·obtain rfl:R=none:=by rw[hRe];unfold filtQ;rw[hes]
   rw[hes]at v4
   simp only[List.length_nil]at v4
   clear hes hxs HQ1 hRe
   go_wp2
   exact bodyPost_ret (v:=.slice none 0 0) (by simp[results,Tryz.results25,go_sem]) rfl ⟨HB1.out.2,rfl⟩
  obtain⟨b,o,pa,pc,e1,q1,q2⟩:=hxs 0 e (by rw[hes];rfl)
  have hRf:R=if typX s e=some 2 then some s else none:=by rw[hRe];unfold filtQ;rw[hes]
  have hxt:=rExpr_any pa pc e (some ⟨sa,so,none⟩) sc s W1 q2 (HC.out W1 HB1.out.1).2.1 HFR.out.2
  rw[e1,hes]at v4
  rw[Nat.add_zero]at q1
  obtain⟨l,hl⟩:∃ l,l=(e::es).length:=⟨_,rfl⟩
  rw[←hl]at v4
  have k0:(0:Int)<(l:Int):=by rw[hl,List.length_cons];omega
  clear hes e1 q2 hxs hl HQ1 hRe
  by_cases hx:typX s e=some 2
  ·rw[hx]at hxt
   obtain rfl:R=some s:=by rw[hRf,if_pos hx]
   simp only[Option.getD_some]at hxt
   clear hx hRf
   go_wp2_with (go_at_call 43;refine hxt.mono ?_;rintro e' W2 ⟨rfl,hb2⟩)
   exact bodyPost_ret (v:=.slice (some ⟨sa,so,none⟩) s.length sc) (by simp[results,Tryz.results25,go_sem]) rfl ⟨below_then HB1.out.2 hb2,sa,so,sc,rfl,(HC.out W1 HB1.out.1).2.1.below hb2,HTK.out.below (below_then HB1.out.2 hb2)⟩
  obtain rfl:R=none:=by rw[hRf,if_neg hx]
  obtain⟨t,ht⟩:∃ t,t=(typX s e).getD 0:=⟨_,rfl⟩
  have ht2:¬ t=2:=fun e2=>by
   rw[ht]at e2
   cases hc:typX s e with
   |none=>rw[hc]at e2;simp at e2
   |some y=>rw[hc]at e2;exact hx (hc.trans (congrArg some e2))
  rw[←ht]at hxt
  clear hx hRf ht
  go_wp2_with (go_at_call 43;refine hxt.mono ?_;rintro e' W2 ⟨rfl,hb2⟩)
  exact bodyPost_ret (v:=.slice none 0 0) (by simp[results,Tryz.results25,go_sem]) rfl ⟨below_then HB1.out.2 hb2,rfl⟩
 ·-- Project
  have hRe:R=projQ s n:=HQ1.out
  subst hRe
  have hp:=fun X (hX:Below W0.heap.size W0 X)=>(rProj_any nd n (some ⟨sa,so,none⟩) sc s X (HC.out X hX).2.2 (HC.out X hX).2.1 HFR.out.2).mono fun _ _ h=>RS.ret h
  rw[HV.out]at hp
  have HPR:Hid _:=hp
  clear hp HQ1
  go_upto_region 16 with(go_at_call 26;refine hnm.mono ?_;rintro e' W1 ⟨rfl,hb1⟩;obtain⟨v0,v1,v2,v3,v4,v5,v6,v7⟩:=HCW.out W1 hb1;obtain⟨cK,-,-⟩:=HC.out W1 hb1)
  have hp:=HPR.out W1 hb1
  have HB1:Hid (Below w.heap.size w W1):=below_then H0.out.1 hb1
  clear hnm hb1 z0 z1 z2 z3 z4 z5 z6 zp
  go_wp2_with (go_at_call 44;refine hp.mono ?_;rintro e' W2 ⟨v,rfl,hrs⟩)
  exact bodyPost_ret (v:=v) (by simp[results,Tryz.results25,go_sem]) rfl (RS.low HB1.out hrs)
 ·-- Group
  have hRe:R=grpQ s n:=HQ1.out
  subst hRe
  have hp:=fun X (hX:Below W0.heap.size W0 X)=>(rGrouped_any nd n (some ⟨sa,so,none⟩) sc s X (HC.out X hX).2.2 (HC.out X hX).2.1 HFR.out.2).mono fun _ _ h=>RS.ret h
  rw[HV.out]at hp
  have HPR:Hid _:=hp
  clear hp HQ1
  go_upto_region 16 with(go_at_call 26;refine hnm.mono ?_;rintro e' W1 ⟨rfl,hb1⟩;obtain⟨v0,v1,v2,v3,v4,v5,v6,v7⟩:=HCW.out W1 hb1;obtain⟨cK,-,-⟩:=HC.out W1 hb1)
  have hp:=HPR.out W1 hb1
  have HB1:Hid (Below w.heap.size w W1):=below_then H0.out.1 hb1
  clear hnm hb1 z0 z1 z2 z3 z4 z5 z6 zp
  go_wp2_with (go_at_call 46;refine hp.mono ?_;rintro e' W2 ⟨v,rfl,hrs⟩)
  exact bodyPost_ret (v:=v) (by simp[results,Tryz.results25,go_sem]) rfl (RS.low HB1.out hrs)
 ·-- Sort
  have hRe:R=srtQ s n:=HQ1.out
  go_upto_region 16 with(go_at_call 26;refine hnm.mono ?_;rintro e' W1 ⟨rfl,hb1⟩;obtain⟨v0,v1,v2,v3,v4,v5,v6,v7⟩:=HCW.out W1 hb1;obtain⟨cK,-,-⟩:=HC.out W1 hb1)
  have HB1:Hid (Below W0.heap.size W0 W1):=hb1
  have hkeys:=rKeys_any nd W1
  have hkl:=HQ.out.kl
  rw[hkl]at hkeys
  rw[HV.out]at hkeys
  have hky:=HQ.out.ky
  have HRS:Hid (R=if (1≤n.ks.length∧n.ks.length≤4)∧∀ k∈n.ks,(tyI s k.c).isSome=true then some s else none):=by rw[hRe];rfl
  obtain⟨bk,hbk⟩:∃ b,b=decide (1≤n.ks.length∧n.ks.length≤4):=⟨_,rfl⟩
  rw[←hbk]at hkeys
  have HBK:Hid (bk=decide (1≤n.ks.length∧n.ks.length≤4)):=hbk
  have HKS:Hid (n.ks.length≤4400000000000):=HH.out.2.2
  clear hnm hb1 z0 z1 z2 z3 z4 z5 z6 zp HQ1 hRe hbk
  have HKY:Hid (∀ X,Below W0.heap.size W0 X→∀ (j:Nat) (k:Kz),n.ks[j]?=some k→∃ b o,nd.ky.1=some ⟨b,o,none⟩∧X.cell? ⟨b,o+j*4,none⟩=some (.int .i64 k.c)):=fun X hX j k hk=>by
   obtain⟨b',o',e',q0,_⟩:=hky.cells (below_then H0.out.1 hX) hk
   exact⟨b',o',e',q0⟩
  have HSI:Hid (∀ X,Below W0.heap.size W0 X→Ints X (some ⟨sa,so,none⟩) s):=fun X hX=>(HC.out X hX).2.1
  have HKL:Hid (nd.ky.2.1=n.ks.length):=hkl
  clear hky hkl
  go_upto_region 31 with(go_at_call 47;refine hkeys.mono ?_;rintro e' W2 ⟨rfl,hb2⟩)
  have HB2:Hid (Below W0.heap.size W0 W2):=below_then HB1.out hb2
  have HP5:Hid (∀ X,Below W2.heap.size W2 X→X.cell? ⟨w.heap.size+1,5,none⟩=some (.slice nd.ky.1 n.ks.length nd.ky.2.2)):=fun X hX=>by
   have:=(HCW.out X (below_then HB2.out hX)).2.2.2.2.2.1
   rwa [HKL.out]at this
  generalize n.ks=kz at HRS HBK HKS HKY HKL HP5
  clear v0 v1 v2 v3 v4 v5 v6 v7 cK hkeys hb2
  have hsm:kz.length≤4400000000000:=HKS.out
  go_loopw [14,15] (fun bv x wr=>∃ j:Nat,j≤kz.length∧x=.int .i64 (j:Int)∧bv=.bool (bk&&(kz.take j).all fun k=>(tyI s k.c).isSome)∧Below W2.heap.size W2 wr) (fun _ x _=>kz.length-(intOf x).toNat)
  case atStart=>exact⟨0,Nat.zero_le _,rfl,by simp,Below.refl _ _⟩
  case round=>
   obtain⟨j,hj,rfl,rfl,hbw⟩:=hrel
   have HBW:Hid (Below W2.heap.size W2 wr):=hbw
   have p5:=HP5.out wr hbw
   clear hbw
   by_cases hlt:j<kz.length
   ·obtain⟨k,hk⟩:∃ k,kz[j]?=some k:=⟨_,List.getElem?_eq_getElem hlt⟩
    obtain⟨b,o,hka,q0⟩:=HKY.out wr (below_then HB2.out HBW.out) j k hk
    rw[hka]at p5
    have hat:=rAt_any (some ⟨sa,so,none⟩) sc s k.c wr (HSI.out wr (below_then HB2.out HBW.out))
    have hnx:(kz.take (j+1)).all (fun k=>(tyI s k.c).isSome)=((kz.take j).all (fun k=>(tyI s k.c).isSome)&&(tyI s k.c).isSome):=by
     rw[List.take_add_one,hk,List.all_append]
     simp
    have HNX:Hid _:=hnx
    have HJ:Hid (j<kz.length):=hlt
    have hpos:=fun t=>tyI_in (t:=t) (i:=k.c) HFR.out.2.2
    have i6:(j:Int)<(kz.length:Int):=by omega
    have i5:(0:Int)≤(j:Int):=by omega
    obtain⟨ok,hok⟩:∃ ok,ok=(bk&&(kz.take j).all fun k=>(tyI s k.c).isSome):=⟨_,rfl⟩
    rw[←hok]
    have HOK:Hid (ok=(bk&&(kz.take j).all fun k=>(tyI s k.c).isSome)):=hok
    clear hka hk hnx hlt hok
    cases ok with
    |false=>
     clear hat
     go_wp2
     go_roundw
     case rel=>exact⟨j+1,HJ.out,by have:=HJ.out;go_num,by rw[HNX.out,←Bool.and_assoc,←HOK.out];rfl,HBW.out⟩
     case measure=>have:=HJ.out;simp[intOf];omega
    |true=>
     rcases hx:tyI s k.c with _|t
     ·rw[hx]at hat
      simp only[Option.getD_none]at hat
      have HX:Hid ((tyI s k.c).isSome=false):=by rw[hx];rfl
      clear hx hpos
      go_wp2_with (go_at_call 48;refine hat.mono ?_;rintro e' W3 ⟨rfl,hw3⟩;rw[hw3];clear hw3)
      go_roundw
      case rel=>exact⟨j+1,HJ.out,by have:=HJ.out;go_num,by rw[HNX.out,HX.out];simp,HBW.out⟩
      case measure=>have:=HJ.out;simp[intOf];omega
     rw[hx]at hat
     simp only[Option.getD_some]at hat
     have ht:=hpos t hx
     have ht0:0<t:=by omega
     have HX:Hid ((tyI s k.c).isSome=true):=by rw[hx];rfl
     clear hx hpos ht
     go_wp2_with (go_at_call 48;refine hat.mono ?_;rintro e' W3 ⟨rfl,hw3⟩;rw[hw3];clear hw3)
     go_roundw
     case rel=>exact⟨j+1,HJ.out,by have:=HJ.out;go_num,by rw[HNX.out,HX.out,Bool.and_true,←HOK.out],HBW.out⟩
     case measure=>have:=HJ.out;simp[intOf];omega
   have hje:j=kz.length:=by omega
   have i6:¬ ((j:Int)<(kz.length:Int)):=by omega
   obtain⟨ok,hok⟩:∃ ok,ok=(bk&&(kz.take j).all fun k=>(tyI s k.c).isSome):=⟨_,rfl⟩
   rw[←hok]
   have hRo:R=if ok=true then some s else none:=by
    rw[HRS.out,hok,hje,List.take_length,HBK.out]
    by_cases q1:1≤kz.length∧kz.length≤4
    ·by_cases q2:∀ k∈kz,(tyI s k.c).isSome=true
     ·rw[if_pos ⟨q1,q2⟩,if_pos (by rw[decide_eq_true q1,Bool.true_and];exact List.all_eq_true.2 q2)]
     rw[if_neg fun h=>q2 h.2,if_neg fun h=>q2 (by rw[decide_eq_true q1,Bool.true_and]at h;exact List.all_eq_true.1 h)]
    rw[if_neg fun h=>q1 h.1,decide_eq_false q1,Bool.false_and,if_neg (by simp)]
   have HEN:Hid (Below w.heap.size w wr∧Ints wr (some ⟨sa,so,none⟩) s):=⟨below_then H0.out.1 (below_then HB2.out HBW.out),HSI.out wr (below_then HB2.out HBW.out)⟩
   clear hok hje hlt hj
   cases ok with
   |true=>
    obtain rfl:R=some s:=hRo
    go_wp2
    exact bodyPost_ret (v:=.slice (some ⟨sa,so,none⟩) s.length sc) (by simp[results,Tryz.results25,go_sem]) rfl ⟨HEN.out.1,sa,so,sc,rfl,HEN.out.2,HTK.out.below HEN.out.1⟩
   |false=>
    obtain rfl:R=none:=hRo
    go_wp2
    exact bodyPost_ret (v:=.slice none 0 0) (by simp[results,Tryz.results25,go_sem]) rfl ⟨HEN.out.1,rfl⟩
 -- Limit
 have hRe:R=limQ s n:=HQ1.out
 go_upto_region 16 with(go_at_call 26;refine hnm.mono ?_;rintro e' W1 ⟨rfl,hb1⟩;obtain⟨v0,v1,v2,v3,v4,v5,v6,v7⟩:=HCW.out W1 hb1;obtain⟨cK,-,-⟩:=HC.out W1 hb1)
 have HB1:Hid (Below w.heap.size w W1∧Ints W1 (some ⟨sa,so,none⟩) s):=⟨below_then H0.out.1 hb1,(HC.out W1 hb1).2.1⟩
 rw[HQ.out.kk]at v6
 generalize hgk:n.kk=gk at v6
 have hRl:R=if 0≤gk∧gk≤1000 then some s else none:=by rw[hRe];unfold limQ;rw[hgk]
 clear hnm hb1 z0 z1 z2 z3 z4 z5 z6 zp HQ1 hRe hgk
 by_cases g0:0≤gk
 ·by_cases g1:gk≤1000
  ·obtain rfl:R=some s:=by rw[hRl,if_pos ⟨g0,g1⟩]
   clear hRl
   go_wp2
   exact bodyPost_ret (v:=.slice (some ⟨sa,so,none⟩) s.length sc) (by simp[results,Tryz.results25,go_sem]) rfl ⟨HB1.out.1,sa,so,sc,rfl,HB1.out.2,HTK.out.below HB1.out.1⟩
  obtain rfl:R=none:=by rw[hRl,if_neg fun h=>g1 h.2]
  have g1':1000<gk:=by omega
  clear hRl g1
  go_wp2
  exact bodyPost_ret (v:=.slice none 0 0) (by simp[results,Tryz.results25,go_sem]) rfl ⟨HB1.out.1,rfl⟩
 obtain rfl:R=none:=by rw[hRl,if_neg fun h=>g0 h.1]
 have g0':gk<0:=by omega
 clear hRl g0
 go_wp2
 exact bodyPost_ret (v:=.slice none 0 0) (by simp[results,Tryz.results25,go_sem]) rfl ⟨HB1.out.1,rfl⟩
attribute [local go_sem] Oper.semAt_some
theorem rWhole_any (name:ByteArray)(at_ ar ah:Option Addr)(ct cr ch:Nat)(ts hs:List Int)(xs:List (Option Addr×Nat))(rs:List (List V))(g:Int)(w:World)(hA:ArgAt w name at_ ar ah cr ts hs xs rs)(b:Bool)(hb:b=true↔isTab name ts rs∧waysOk ts hs∧1≤g∧g≤64) :
  Calls Tryz.prog 54 #[tabArg name at_ ar ct cr ts rs,.slice ah hs.length ch,.int .i64 g] w fun e w'=>e=.returned (.bool b)∧Below w.heap.size w w':=by
 unfold tabArg
 have l1:=hA.ln
 have l2:=hA.lt
 have l3:=hA.lr
 have l4:=hA.lh
 unfold maxLen at l1 l2 l3 l4
 have HA:Hid (ArgAt w name at_ ar ah cr ts hs xs rs):=hA
 have HB:Hid (b=true↔isTab name ts rs∧waysOk ts hs∧1≤g∧g≤64):=hb
 have NO:Hid (¬ (isTab name ts rs∧waysOk ts hs∧1≤g∧g≤64)→Hid (b=false)):=fun h=>by
  show b=false
  cases hb:b with
  |false=>rfl
  |true=>exact absurd (HB.out.1 hb) h
 clear hA hb
 have hB0:Below w.heap.size w (w.alloc (.cells #[.string name,.slice at_ ts.length ct,.slice ar rs.length cr] 40)):=(Below.refl _ _).alloc (Nat.le_refl _) _
 have HB0:Hid (Below w.heap.size w (w.alloc (.cells #[.string name,.slice at_ ts.length ct,.slice ar rs.length cr] 40))):=hB0
 clear hB0
 by_cases h1:name.size=0
 ·have H0:Hid (b=false):=NO.out fun h=>by have:=h.1.1;omega
  go_enter Tryz.func54,Tryz.ntmps54
  go_wp2
  all_goals
   go_ret
   exact⟨ret_bool H0.out.symm,(Below.refl _ _).alloc (Nat.le_refl _) _⟩
 by_cases h2:20<name.size
 ·have H0:Hid (b=false):=NO.out fun h=>by have:=h.1.1;omega
  go_enter Tryz.func54,Tryz.ntmps54
  go_wp2
  all_goals
   go_ret
   exact⟨ret_bool H0.out.symm,(Below.refl _ _).alloc (Nat.le_refl _) _⟩
 by_cases h3:ts.length=0
 ·have H0:Hid (b=false):=NO.out fun h=>by have:=h.1.2.1.1;omega
  go_enter Tryz.func54,Tryz.ntmps54
  go_wp2
  all_goals
   go_ret
   exact⟨ret_bool H0.out.symm,(Below.refl _ _).alloc (Nat.le_refl _) _⟩
 by_cases h4:6<ts.length
 ·have H0:Hid (b=false):=NO.out fun h=>by have:=h.1.2.1.1;omega
  go_enter Tryz.func54,Tryz.ntmps54
  go_wp2
  all_goals
   go_ret
   exact⟨ret_bool H0.out.symm,(Below.refl _ _).alloc (Nat.le_refl _) _⟩
 by_cases h5:200<rs.length
 ·have H0:Hid (b=false):=NO.out fun h=>by have:=h.1.2.2.1;omega
  go_enter Tryz.func54,Tryz.ntmps54
  go_wp2
  all_goals
   go_ret
   exact⟨ret_bool H0.out.symm,(Below.refl _ _).alloc (Nat.le_refl _) _⟩
 by_cases h6:¬ hs.length=ts.length
 ·have H0:Hid (b=false):=NO.out fun h=>h6 h.2.1.1
  have k6:¬ ((hs.length:Int)=(ts.length:Int)):=by omega
  go_enter Tryz.func54,Tryz.ntmps54
  go_wp2
  all_goals
   go_ret
   exact⟨ret_bool H0.out.symm,(Below.refl _ _).alloc (Nat.le_refl _) _⟩
 obtain⟨n,hn⟩:∃ n,n=ts.length:=⟨_,rfl⟩
 have HN0:Hid (n=ts.length∧n=hs.length∧1≤n):=⟨hn,by omega,by omega⟩
 have hn6:n≤6:=by omega
 have hn1:1≤n:=by omega
 have e1:hs.length=n:=by omega
 have e2:ts.length=n:=by omega
 rw[e1,e2]
 clear l2 l4 h3 h4 h6 hn e1 e2 HB0
 by_cases h7:g≤0
 ·have H0:Hid (b=false):=NO.out fun h=>by have:=h.2.2;omega
  go_enter Tryz.func54,Tryz.ntmps54
  go_wp2
  all_goals
   go_ret
   exact⟨ret_bool H0.out.symm,(Below.refl _ _).alloc (Nat.le_refl _) _⟩
 by_cases h8:64<g
 ·have H0:Hid (b=false):=NO.out fun h=>by have:=h.2.2;omega
  go_enter Tryz.func54,Tryz.ntmps54
  go_wp2
  all_goals
   go_ret
   exact⟨ret_bool H0.out.symm,(Below.refl _ _).alloc (Nat.le_refl _) _⟩
 have HN:Hid (n=ts.length∧n=hs.length∧1≤n∧n≤6∧(1≤name.size∧name.size≤20)∧rs.length≤200∧1≤g∧g≤64):=⟨HN0.out.1,HN0.out.2.1,by omega,by omega,by omega,by omega,by omega,by omega⟩
 obtain⟨W,hW⟩:∃ W,W=w.alloc (.cells #[.string name,.slice at_ n ct,.slice ar rs.length cr] 40):=⟨_,rfl⟩
 have HW:Hid (W.heap[w.heap.size]?=some (.cells #[.string name,.slice at_ n ct,.slice ar rs.length cr] 40 (0,0))∧w.heap.size<W.heap.size∧Below w.heap.size w W):=⟨by rw[hW];exact heap_alloc_new _ _,by rw[hW];simp,by rw[hW];exact(Below.refl _ _).alloc (Nat.le_refl _) _⟩
 have j1:((name.size:Int)==0)=false:=by rw[beq_eq_false_iff_ne];omega
 have j2:¬ (20<(name.size:Int)):=by omega
 have j3:((n:Int)==0)=false:=by rw[beq_eq_false_iff_ne];omega
 have j4:¬ (6<(n:Int)):=by omega
 have j5:¬ (200<(rs.length:Int)):=by omega
 go_enter Tryz.func54,Tryz.ntmps54
 go_upto_region 7 with fail
 rw[←hW]
 clear hW
 go_loopw [8] (fun i wr=>∃ k:Nat,k≤n∧i=.int .i64 k∧Below W.heap.size W wr∧Hid (∀ j (hj:j<hs.length),j<k→way (ts.getD j 0) hs[j]=true)) (fun i _=>n-(intOf i).toNat)
 case atStart=>exact⟨0,Nat.zero_le _,rfl,Below.refl _ _,fun j _ hj=>absurd hj (Nat.not_lt_zero _)⟩
 case round=>
  obtain⟨k,hk,rfl,hbw,hall⟩:=hrel
  have HBW:Hid (Below W.heap.size W wr∧Below w.heap.size w wr):=⟨hbw,below_then HW.out.2.2 hbw⟩
  have hblk:wr.heap[w.heap.size]?=some (.cells #[.string name,.slice at_ n ct,.slice ar rs.length cr] 40 (0,0)):=(hbw.block _ HW.out.2.1).trans HW.out.1
  have c1:wr.cell? ⟨w.heap.size,1,none⟩=some (.slice at_ n ct):=by simp[World.cell?,hblk]
  have c2:wr.cell? ⟨w.heap.size,2,none⟩=some (.slice ar rs.length cr):=by simp[World.cell?,hblk]
  clear hbw hblk
  by_cases hlt:k<n
  ·have hl1:k<ts.length:=by have:=HN.out.1;omega
   have hl2:k<hs.length:=by have:=HN.out.2.1;omega
   obtain⟨b1,o1,rfl,_,q1⟩:=(show Ints wr at_ ts from HA.out.types.below HBW.out.2).at hl1
   obtain⟨b2,o2,rfl,_,q2⟩:=(show Ints wr ah hs from HA.out.hows.below HBW.out.2).at hl2
   have HG:Hid (ts.getD k 0=ts[k]):=by show _=_;simp[hl1]
   have HX:Hid (∀ x y:Int,ts[k]=x→hs[k]=y→((∀ j (hj:j<hs.length),j<k+1→way (ts.getD j 0) hs[j]=true)↔way x y=true)):=fun x y e1 e2=>⟨fun h=>by rw[←e1,←e2,←HG.out];exact h k hl2 (by omega),fun h j hj hjk=>by
    by_cases e:j=k
    ·subst e;rw[HG.out,e1,e2];exact h
    exact hall.out j hj (by omega)⟩
   have hX:=HX.out _ _ rfl rfl
   generalize ts[k]=x at q1 hX
   generalize hs[k]=y at q2 hX
   have HX2:Hid ((∀ j (hj:j<hs.length),j<k+1→way (ts.getD j 0) hs[j]=true)↔way x y=true):=hX
   have HJ:Hid (k<n):=hlt
   have i1:(0:Int)≤(k:Int):=by omega
   have i2:(k:Int)<(n:Int):=by omega
   clear hX HX HG hall
   go_upto_region 9 with fail
   refine wp_region_held_drew (S:=fun X=>X.cell? ⟨w.heap.size,1,none⟩=some (.slice (some ⟨b1,o1,none⟩) n ct)∧X.cell? ⟨b1,o1+k,none⟩=some (.int .i64 x)∧X.cell? ⟨b2,o2+k,none⟩=some (.int .i64 y)) (by kernel_rfl) ⟨cell_drew c1,cell_drew q1,cell_drew q2⟩ (fun hH=>?_)
   refine tkj 0 rfl hH ?_
   refine tkj 1 rfl hH ?_
   refine tkj 2 rfl hH ?_
   refine tkj 3 rfl hH ?_
   refine tkj 4 rfl hH ?_
   refine tkj 5 rfl hH ?_
   refine tkj 6 rfl hH ?_
   refine tkj 7 rfl hH ?_
   refine tkj 8 rfl hH ?_
   refine tkn ?_
   refine tkr 9 rfl fun K hK=>?_
   go_simp
   refine(rWay_any x y _).mono ?_
   rintro e w2 ⟨rfl,hw2⟩
   subst hw2
   go_simp
   refine hK.out _ _ hH (fun hH=>?_)
   clear hK K
   refine tkj 10 rfl hH ?_
   refine tkn ?_
   refine wpAnyH_done (by kernel_rfl) ?_ _
   clear q1 q2 c1 c2
   cases ho:way x y with
   |false=>
    have H0:Hid (b=false):=NO.out fun h=>by have:=HX2.out.1 fun j hj _=>h.2.1.2 j hj;rw[ho]at this;cases this
    clear ho
    go_wp2
    go_ret
    exact⟨ret_bool H0.out.symm,below_drew1 HBW.out.2⟩
   |true=>
    have HO:Hid (way x y=true):=ho
    clear ho
    go_wp2
    go_roundw
    case rel=>exact⟨k+1,HJ.out,by have:=HJ.out;go_num,below_drew1 HBW.out.1,HX2.out.2 HO.out⟩
    case measure=>have:=HJ.out;simp[intOf];omega
  obtain rfl:k=n:=by omega
  have HWY:Hid (waysOk ts hs∧∀ j (hj:j<ts.length),typeOk ts[j]=true):=by
   have e1:=HN.out.1
   have e2:=HN.out.2.1
   have h1:∀ j (hj:j<hs.length),way (ts.getD j 0) hs[j]=true:=fun j hj=>hall.out j hj (by omega)
   refine⟨⟨by omega,h1⟩,fun j hj=>?_⟩
   have:=h1 j (by omega)
   rw[show ts.getD j 0=ts[j] by simp[hj]]at this
   unfold way at this
   unfold typeOk
   simp only[decide_eq_true_iff]at this ⊢
   omega
  clear hall
  have i3:¬ ((k:Int)<(k:Int)):=by omega
  go_upto_region 13 with fail
  clear c1 c2
  go_loopw [10] (fun i wx=>∃ m:Nat,m≤rs.length∧i=.int .i64 m∧Below W.heap.size W wx∧Hid (∀ i (hi:i<rs.length),i<m→rs[i].length=ts.length∧∀ j (hj:j<rs[i].length),okB (ts.getD j 0) rs[i][j].k rs[i][j].n rs[i][j].s=true)) (fun i _=>rs.length-(intOf i).toNat)
  case atStart=>exact⟨0,Nat.zero_le _,rfl,HBW.out.1,fun j _ hj=>absurd hj (Nat.not_lt_zero _)⟩
  case round=>
   clear HBW
   obtain⟨m,hm,rfl,hbw,hall⟩:=hrel
   have HBW:Hid (Below W.heap.size W wr∧Below w.heap.size w wr):=⟨hbw,below_then HW.out.2.2 hbw⟩
   have hblk:wr.heap[w.heap.size]?=some (.cells #[.string name,.slice at_ k ct,.slice ar rs.length cr] 40 (0,0)):=(hbw.block _ HW.out.2.1).trans HW.out.1
   have c1:wr.cell? ⟨w.heap.size,1,none⟩=some (.slice at_ k ct):=by simp[World.cell?,hblk]
   have c2:wr.cell? ⟨w.heap.size,2,none⟩=some (.slice ar rs.length cr):=by simp[World.cell?,hblk]
   clear hbw hblk
   by_cases hltm:m<rs.length
   ·obtain⟨b3,o3,ra,rc,rfl,_,x3,hv⟩:=(HA.out.rows.below HBW.out.2).at hltm
    have HRL:Hid (∀ r,rs[m]?=some r→r.length≤9223372036854775807):=fun r hr=>by
     have:=HA.out.lrr r (List.mem_of_getElem? hr)
     unfold maxLen at this
     omega
    have HIF:Hid (∀ r,rs[m]?=some r→((∀ i (hi:i<rs.length),i<m+1→rs[i].length=ts.length∧∀ j (hj:j<rs[i].length),okB (ts.getD j 0) rs[i][j].k rs[i][j].n rs[i][j].s=true)↔(r.length=ts.length∧∀ j (hj:j<r.length),okB (ts.getD j 0) r[j].k r[j].n r[j].s=true))):=fun r hr=>by
     obtain⟨hl',rfl⟩:=List.getElem?_eq_some_iff.1 hr
     refine⟨fun h=>h m hl' (by omega),fun h i hi him=>?_⟩
     by_cases e:i=m
     ·subst e;exact h
     exact hall.out i hi (by omega)
    have hrl:=HRL.out _ (List.getElem?_eq_getElem hltm)
    have hif:=HIF.out _ (List.getElem?_eq_getElem hltm)
    generalize rs[m]=r at x3 hv hrl hif
    have HR:Hid (((∀ i (hi:i<rs.length),i<m+1→rs[i].length=ts.length∧∀ j (hj:j<rs[i].length),okB (ts.getD j 0) rs[i][j].k rs[i][j].n rs[i][j].s=true)↔(r.length=ts.length∧∀ j (hj:j<r.length),okB (ts.getD j 0) r[j].k r[j].n r[j].s=true))∧Vals wr ra r):=⟨hif,hv⟩
    have i4:(0:Int)≤(m:Int):=by omega
    have i5:(m:Int)<(rs.length:Int):=by omega
    have HM:Hid (m<rs.length):=hltm
    clear hif hv HIF HRL hall
    by_cases hrn:r.length=k
    rotate_left
    ·have H0:Hid (b=false):=NO.out fun h=>hrn (by have:=(HR.out.1.1 fun i hi _=>h.1.2.2.2 i hi).1;have:=HN.out.1;omega)
     have k1:¬ ((r.length:Int)=(k:Int)):=by omega
     go_wp2
     go_ret
     exact⟨ret_bool H0.out.symm,HBW.out.2⟩
    have HRN:Hid (r.length=k):=hrn
    rw[hrn]at x3
    clear hrn hrl
    go_upto_region 18 with fail
    have HC:Hid (wr.cell? ⟨w.heap.size,1,none⟩=some (.slice at_ k ct)∧wr.cell? ⟨w.heap.size,2,none⟩=some (.slice (some ⟨b3,o3,none⟩) rs.length cr)∧wr.cell? ⟨b3,o3+m,none⟩=some (.slice ra k rc)):=⟨c1,c2,x3⟩
    clear c1 c2 x3
    obtain⟨V0,hV0⟩:∃ V0,V0=wr:=⟨_,rfl⟩
    subst hV0
    go_loopw [11] (fun i wx=>∃ c:Nat,c≤k∧i=.int .i64 c∧Below V0.heap.size V0 wx∧Hid (∀ j (hj:j<r.length),j<c→okB (ts.getD j 0) r[j].k r[j].n r[j].s=true)) (fun i _=>k-(intOf i).toNat)
    case atStart=>exact⟨0,Nat.zero_le _,rfl,Below.refl _ _,fun j _ hj=>absurd hj (Nat.not_lt_zero _)⟩
    case round=>
     obtain⟨c,hc,rfl,hbw,hall⟩:=hrel
     have HBX:Hid (Below V0.heap.size V0 wr):=hbw
     by_cases hltc:c<k
     ·have hl1:c<ts.length:=by have:=HN.out.1;omega
      have hl2:c<r.length:=by have:=HRN.out;omega
      have c1:=cell_below hbw HC.out.1
      have c2:=cell_below hbw HC.out.2.1
      have x3:=cell_below hbw HC.out.2.2
      obtain⟨b1,o1,rfl,_,q1⟩:=(show Ints wr at_ ts from HA.out.types.below (below_then HBW.out.2 hbw)).at hl1
      obtain⟨b2,o2,rfl,_,v0,v1,v2⟩:=(HR.out.2.below hbw).at hl2
      have HG:Hid (ts.getD c 0=ts[c]):=by show _=_;simp[hl1]
      have HX:Hid (∀ (x:Int) (v:V),ts[c]=x→r[c]=v→((∀ j (hj:j<r.length),j<c+1→okB (ts.getD j 0) r[j].k r[j].n r[j].s=true)↔okB x v.k v.n v.s=true)):=fun x v e1 e2=>⟨fun h=>by rw[←e1,←e2,←HG.out];exact h c hl2 (by omega),fun h j hj hjk=>by
       by_cases e:j=c
       ·subst e;rw[HG.out,e1,e2];exact h
       exact hall.out j hj (by omega)⟩
      have hX:=HX.out _ _ rfl rfl
      generalize ts[c]=x at q1 hX
      generalize r[c]=v at v0 v1 v2 hX
      have HX2:Hid ((∀ j (hj:j<r.length),j<c+1→okB (ts.getD j 0) r[j].k r[j].n r[j].s=true)↔okB x v.k v.n v.s=true):=hX
      have HJ:Hid (c<k):=hltc
      have i6:(0:Int)≤(c:Int):=by omega
      have i7:(c:Int)<(k:Int):=by omega
      clear hX HX HG hall hbw
      go_upto_region 20 with fail
      refine wp_region_held_drew (S:=fun X=>(X.cell? ⟨w.heap.size,1,none⟩=some (.slice (some ⟨b1,o1,none⟩) k ct)∧X.cell? ⟨w.heap.size,2,none⟩=some (.slice (some ⟨b3,o3,none⟩) rs.length cr)∧X.cell? ⟨b3,o3+m,none⟩=some (.slice (some ⟨b2,o2,none⟩) k rc)∧X.cell? ⟨b1,o1+c,none⟩=some (.int .i64 x)∧X.cell? ⟨b2,o2+c*3,none⟩=some (.int .i64 v.k)∧X.cell? ⟨b2,o2+c*3+1,none⟩=some (.int .i64 v.n)∧X.cell? ⟨b2,o2+c*3+2,none⟩=some (.string v.s))∧Below V0.heap.size V0 X) (by kernel_rfl) ⟨⟨cell_drew c1,cell_drew c2,cell_drew x3,cell_drew q1,cell_drew v0,cell_drew v1,cell_drew v2⟩,below_drew1 HBX.out⟩ (fun hH=>?_)
      refine tkj 0 rfl hH ?_
      refine tkj 1 rfl hH ?_
      refine tkj 2 rfl hH ?_
      refine tkj 3 rfl hH ?_
      refine tkj 4 rfl hH ?_
      refine tkj 5 rfl hH ?_
      refine tkj 6 rfl hH ?_
      refine tkj 7 rfl hH ?_
      refine tkj 8 rfl hH ?_
      refine tkj 9 rfl hH ?_
      refine tkj 10 rfl hH ?_
      refine tkj 11 rfl hH ?_
      refine tkj 12 rfl hH ?_
      refine tkn ?_
      refine tkr 13 rfl fun K hK=>?_
      go_simp
      refine(rIs_any v.k v.n v.s x _).mono ?_
      rintro e w2 ⟨rfl,hw2⟩
      go_simp
      refine hK.out _ _ ⟨⟨cell_below hw2 hH.1.1,cell_below hw2 hH.1.2.1,cell_below hw2 hH.1.2.2.1,cell_below hw2 hH.1.2.2.2.1,cell_below hw2 hH.1.2.2.2.2.1,cell_below hw2 hH.1.2.2.2.2.2.1,cell_below hw2 hH.1.2.2.2.2.2.2⟩,below_then hH.2 hw2⟩ (fun hH=>?_)
      clear hK K hw2
      refine tkj 14 rfl hH ?_
      refine tkn ?_
      refine wpAnyH_done (by kernel_rfl) ?_ _
      clear q1 v0 v1 v2 c1 c2 x3
      have HH:Hid (Below V0.heap.size V0 w2):=hH.2
      clear hH
      cases ho:okB x v.k v.n v.s with
      |false=>
       have H0:Hid (b=false):=NO.out fun h=>by have:=HX2.out.1 fun j hj _=>(HR.out.1.1 fun i hi _=>h.1.2.2.2 i hi).2 j hj;rw[ho]at this;cases this
       clear ho
       go_wp2
       go_ret
       exact⟨ret_bool H0.out.symm,below_then HBW.out.2 HH.out⟩
      |true=>
       have HO:Hid (okB x v.k v.n v.s=true):=ho
       clear ho
       go_wp2
       go_roundw
       case rel=>exact⟨c+1,HJ.out,by have:=HJ.out;go_num,HH.out,HX2.out.2 HO.out⟩
       case measure=>have:=HJ.out;simp[intOf];omega
     obtain rfl:c=k:=by omega
     have HD:Hid (∀ j (hj:j<r.length),okB (ts.getD j 0) r[j].k r[j].n r[j].s=true):=fun j hj=>hall.out j hj (by have:=HRN.out;omega)
     clear hall hbw
     have i8:¬ ((c:Int)<(c:Int)):=by omega
     go_wp2
     go_roundw
     case rel=>exact⟨m+1,HM.out,by have:=HM.out;go_num,below_then HBW.out.1 HBX.out,HR.out.1.2 ⟨by have:=HRN.out;have:=HN.out.1;omega,HD.out⟩⟩
     case measure=>have:=HM.out;simp[intOf];omega
   have i9:¬ ((m:Int)<(rs.length:Int)):=by omega
   have H1:Hid (b=true):=HB.out.2 ⟨⟨HN.out.2.2.2.2.1,⟨⟨by have:=HN.out.1;have:=HN.out.2.2.1;omega,by have:=HN.out.1;omega⟩,HWY.out.2⟩,HN.out.2.2.2.2.2.1,fun i hi=>hall.out i hi (by omega)⟩,HWY.out.1,HN.out.2.2.2.2.2.2⟩
   clear hall
   go_wp2
   go_ret
   exact⟨ret_bool H1.out.symm,HBW.out.2⟩
end
section
open Go.RowKit
theorem ckN_end (len g:Nat)(hg:1≤g):len≤(ckAt len g (ckN len g)).1:=by
 simp only[ckAt,ckN]
 have h:=Nat.div_add_mod (len+g-1) g
 have h2:=Nat.mod_lt (len+g-1) (show g>0 by omega)
 have h3:g*((len+g-1) / g)=(len+g-1) / g*g:=Nat.mul_comm _ _
 omega
end
section
open Go.RowKit
theorem layAll_len:∀ (ts:List (List UInt8))(D:DS),(layAll D ts).1.pages.length≤D.pages.length+totalP ts
 |[],D=>by simp[layAll,totalP]
 |t::ts,D=>by
  have h1:=(layL_len (pieces t) D).1
  unfold layAll
  rcases hr:layL D (pieces t)with⟨E,l,r⟩
  rw[hr]at h1
  rw[totalP_cons]
  cases r with
  |none=>
   have:=layAll_len ts E
   simp only at h1 this ⊢
   omega
  |some x=>
   simp only at h1 ⊢
   rw[relD_len]
   omega
theorem ckN_le (n g:Nat)(hg:1≤g):ckN n g≤n:=by
 unfold ckN
 exact Nat.le_of_lt_succ ((Nat.div_lt_iff_lt_mul (by omega)).2 (by
  have:n+1≤(n+1)*g:=Nat.le_mul_of_pos_right _ (by omega)
  rw[Nat.succ_mul]at this ⊢
  have h5:n≤n*g:=Nat.le_mul_of_pos_right _ (by omega)
  omega))
theorem packs_in {name:ByteArray}{ts hs:List Int}{rs:List (List V)}{g:Int}{T:List (List UInt8)}(hgood:isTab name ts rs∧waysOk ts hs∧1≤g∧g≤64)(hp:packF rs ts hs (cks rs.length g.toNat (ckN rs.length g.toNat))=.inl T) :
  T.length=ckN rs.length g.toNat*ts.length∧(∀ t∈T,t.length≤6100∧t≠[])∧totalP T≤660*rs.length∧(T=[]↔rs=[]):=by
 obtain⟨h1,h2⟩:=packFLen rs ts hs _ T hp
 rw[cks_length]at h1
 have h3:=totalP_le T fun t ht=>(h2 t ht).1
 have h4:=ckN_le rs.length g.toNat (by omega)
 have h6:ts.length≤6:=hgood.1.2.1.1.2
 have h7:1≤ts.length:=hgood.1.2.1.1.1
 have h5:ckN rs.length g.toNat*ts.length≤rs.length*6:=Nat.mul_le_mul h4 h6
 refine⟨h1,h2,by omega,⟨fun e=>?_,fun e=>?_⟩⟩
 ·subst e
  have h0:ckN rs.length g.toNat=0:=by
   rcases Nat.mul_eq_zero.1 h1.symm with h|h
   ·exact h
   omega
  have:=ckN_end rs.length g.toNat (by omega)
  simp only[ckAt,h0]at this
  exact List.length_eq_zero_iff.1 (by omega)
 subst e
 have h0:ckN ([]:List (List V)).length g.toNat=0:=by unfold ckN;exact Nat.div_eq_of_lt (by simp;omega)
 rw[h0]at h1
 exact List.length_eq_zero_iff.1 (by omega)
theorem rSpelled_any (v:V)(w:World)(hv:good v.k v.s) :
  Calls Tryz.prog 100 #[v.val] w fun e w'=>e=.returned (.string (str (enc v.k v.n v.s)))∧Below w.heap.size w w':=by
 obtain⟨k,n,s⟩:=v
 rcases hv with hk|hk|⟨hk,hs⟩
 ·simp only at hk
  subst hk
  exact rSpelled_int n s w
 ·simp only at hk
  subst hk
  exact rSpelled_bool n s w
 simp only at hk hs
 subst hk
 exact rSpelled_text n s w hs
theorem size_le {l:List UInt8}{n:Nat}(h:l.length≤n):(str l).size≤n:=by rw[str_size];exact h
theorem rBody_plain (t:Int)(a:Option Addr)(cap:Nat)(xs:List V)(w:World)(hn:xs.length≤64)(hgd:∀ v∈xs,good v.k v.s)(hx:Vals w a xs) :
  Calls Tryz.prog 78 #[.int .i64 t,.int .i64 0,.slice a xs.length cap] w fun e w'=>e=.returned (.string (str (encAll xs)))∧Below w.heap.size w w':=by
 go_enter Tryz.func78,Tryz.ntmps78
 go_wp2
 go_loopw [7,8] (fun s i wr=>∃ k:Nat,k≤xs.length∧i=.int .i64 k∧s=.string (str (encAll (xs.take k)))∧Below w.heap.size w wr) (fun _ i _=>xs.length-(intOf i).toNat)
 case atStart=>exact⟨0,by omega,rfl,rfl,Below.refl _ _⟩
 case round=>
  obtain⟨k,hk,rfl,rfl,hbw⟩:=hrel
  by_cases hlt:k<xs.length
  ·obtain⟨b1,o1,rfl,hb1,x1,x2,x3⟩:=(hx.below hbw).at hlt
   have hts:=encAll_snoc (xs.take k) xs[k]
   rw[←List.take_succ_eq_append_getElem hlt]at hts
   have hle:=encAll_le (xs.take k) fun v hv=>hgd v (List.mem_of_mem_take hv)
   have hle2:(xs.take k).length≤k:=List.length_take_le _ _
   have hgk:=hgd _ (List.getElem_mem hlt)
   have he:=enc_le xs[k].k xs[k].n xs[k].s hgk
   have hz1:(str (encAll (xs.take k))).size≤3000:=size_le (by omega)
   have hz2:(str (enc xs[k].k xs[k].n xs[k].s)).size≤41:=size_le he
   have HT:Hid _:=hts
   have HG:Hid (good xs[k].k xs[k].s):=hgk
   clear hts hle hle2 hgk he
   generalize encAll (xs.take k)=L at *
   go_wp2_with (go_at_call 100;refine(rSpelled_any xs[k] _ HG.out).mono ?_;rintro e w' ⟨rfl,hb⟩)
   go_roundw
   case rel=>exact⟨k+1,by omega,by go_num,by rw[HT.out,←str_append],below_then hbw hb⟩
   case measure=>simp[intOf];omega
  have e:xs.take k=xs:=List.take_of_length_le (by omega)
  rw[e]
  go_wp2
  go_ret
  exact⟨rfl,hbw⟩
theorem four_bits (k:Nat):(List.range 4).map (fun b=>k.testBit b)=[k % 2==1,k / 2 % 2==1,k / 4 % 2==1,k / 8 % 2==1]:=by
 simp only[List.range_succ,List.range_zero,List.map_cons,List.map_nil,List.nil_append,List.cons_append]
 have e:∀ b,k.testBit b=(k / 2 ^ b % 2==1):=by
  intro b
  rw[Nat.testBit_eq_decide_div_mod_eq]
  rw[Bool.eq_iff_iff];simp
 rw[e 0,e 1,e 2,e 3]
 simp
theorem four_vals (P:Nat):[Value.bool ((P:Int) % 2==1),.bool ((P:Int) / 2 % 2==1),.bool ((P:Int) / 4 % 2==1),.bool ((P:Int) / 8 % 2==1)]=[P % 2==1,P / 2 % 2==1,P / 4 % 2==1,P / 8 % 2==1].map Value.bool:=by
 have e:∀ q:Nat,(((q:Nat):Int) % 2==1)=(q % 2==1):=by
  intro q
  rw[Bool.eq_iff_iff];simp;omega
 have e2:=e (P / 2)
 have e4:=e (P / 4)
 have e8:=e (P / 8)
 rw[Int.natCast_ediv]at e2 e4 e8
 simp only[List.map_cons,List.map_nil]
 rw[e P,←e2,←e4,←e8]
 rfl
theorem rBody_dict (t:Int)(a:Option Addr)(cap:Nat)(xs:List V)(w:World)(hn:xs.length≤64)(hgd:∀ v∈xs,good v.k v.s)(hx:Vals w a xs) :
  Calls Tryz.prog 78 #[.int .i64 t,.int .i64 1,.slice a xs.length cap] w fun e w'=>e=.returned (.string (str (dictEnc xs)))∧Below w.heap.size w w':=by
 have hul:=uniq_le xs []
 have hgu:∀ v∈uniq [] xs,good v.k v.s:=fun v hv=>by
  rcases uniq_mem xs [] v hv with h|h
  ·simp at h
  exact hgd v h
 have hpl:∀ v∈xs,place (uniq [] xs) v<(uniq [] xs).length:=fun v hv=>place_lt_of_mem _ _ (mem_uniq xs [] v hv)
 have hde:dictEnc xs=(low (uniq [] xs).length::encAll (uniq [] xs))++packBits (bitsOf 4 (xs.map (place (uniq [] xs)))):=rfl
 have HDE:Hid _:=hde
 clear hde
 have hs1:=str1_size
 go_enter Tryz.func78,Tryz.ntmps78
 go_wp2_with fail
 refine(rDifferent_any a cap xs w hn hx).mono ?_
 rintro e w1 ⟨sv,rfl,hown,hb1⟩
 obtain⟨a1,cap1,rfl,hv1⟩:=hown.vals
 clear hown
 generalize uniq [] xs=d at *
 have hd:d.length≤64:=by simp at hul;omega
 have hd':d.length≤maxLen:=by unfold maxLen;omega
 go_wp2_with fail
 refine(byteOf_any _ w1).mono ?_
 rintro e w2 ⟨rfl,hb2⟩
 have hb12:=below_then hb1 hb2
 have hv2:=hv1.below hb2
 go_wp2_with fail
 go_loopw [7,10] (fun s i wr=>∃ k:Nat,k≤d.length∧i=.int .i64 k∧s=.string (str (low d.length::encAll (d.take k)))∧Below w2.heap.size w2 wr) (fun _ i _=>d.length-(intOf i).toNat)
 case atStart=>exact⟨0,by omega,rfl,rfl,Below.refl _ _⟩
 case round=>
  obtain⟨k,hk,rfl,rfl,hbw⟩:=hrel
  by_cases hlt:k<d.length
  ·obtain⟨b1,o1,rfl,hb1',x1,x2,x3⟩:=(hv2.below hbw).at hlt
   have hts:=encAll_snoc (d.take k) d[k]
   rw[←List.take_succ_eq_append_getElem hlt]at hts
   have hle:=encAll_le (d.take k) fun v hv=>hgu v (List.mem_of_mem_take hv)
   have hle2:(d.take k).length≤k:=List.length_take_le _ _
   have hgk:=hgu _ (List.getElem_mem hlt)
   have he:=enc_le d[k].k d[k].n d[k].s hgk
   have hz1:(str (low d.length::encAll (d.take k))).size≤3000:=size_le (by rw[List.length_cons];omega)
   have hz2:(str (enc d[k].k d[k].n d[k].s)).size≤41:=size_le he
   have HT:Hid (low d.length::encAll (d.take (k+1))=low d.length::encAll (d.take k)++enc d[k].k d[k].n d[k].s):=by rw[hts];rfl
   have HG:Hid (good d[k].k d[k].s):=hgk
   clear hts hle hle2 hgk he
   generalize low d.length::encAll (d.take k)=L at *
   go_wp2_with (go_at_call 100;refine(rSpelled_any d[k] _ HG.out).mono ?_;rintro e w' ⟨rfl,hb⟩)
   go_roundw
   case rel=>exact⟨k+1,by omega,by go_num,by rw[HT.out,←str_append],below_then hbw hb⟩
   case measure=>simp[intOf];omega
  have e:d.take k=d:=List.take_of_length_le (by omega)
  rw[e]
  have hb13:=below_then hb12 hbw
  have hv3:=hv2.below hbw
  have hx3:=hx.below hb13
  have hle:=encAll_le d hgu
  have hz1:(str (low d.length::encAll d)).size≤3000:=size_le (by rw[List.length_cons];omega)
  clear e hv1 hv2 hb1 hb2 hb12 hle
  generalize hLL:low d.length::encAll d=L at *
  have HLL:Hid (low d.length::encAll d=L):=hLL
  clear hLL
  clear hbw
  rename World=>w3
  have hs3:=hb13.size
  go_wp2_with fail
  go_loopw [11,12] (fun sv i wr=>∃ j:Nat,j≤xs.length∧i=.int .i64 j∧OwnC wr w3.heap.size 4 sv ((bitsOf 4 ((xs.take j).map (place d))).map Value.bool)∧Below w3.heap.size w3 wr) (fun _ i _=>xs.length-(intOf i).toNat)
  case atStart=>exact⟨0,by omega,rfl,OwnC.nil _ _ _,Below.refl _ _⟩
  case round=>
   obtain⟨j,hj,rfl,hown,hbw⟩:=hrel
   by_cases hlt:j<xs.length
   ·obtain⟨b1,o1,rfl,hb1,x1,x2,x3⟩:=(hx3.below hbw).at hlt
    have hsn:=bitsOf_snoc 4 ((xs.take j).map (place d)) (place d xs[j])
    have htk:(xs.take (j+1)).map (place d)=(xs.take j).map (place d)++[place d xs[j]]:=by rw[List.take_succ_eq_append_getElem hlt,List.map_append];rfl
    rw[←htk,four_bits]at hsn
    have hp:=hpl _ (List.getElem_mem hlt)
    have hbl:((bitsOf 4 ((xs.take j).map (place d))).map Value.bool).length≤256:=by rw[List.length_map,bitsOf_length,List.length_map,List.length_take];omega
    have HSN:Hid _:=hsn
    clear hsn htk
    generalize (bitsOf 4 ((xs.take j).map (place d)))=BL at *
    have hvw:=hv3.below hbw
    have HP:Hid (place d xs[j]<d.length):=hp
    have hp64:place d xs[j]≤64:=by omega
    clear hp
    go_wp2_with fail
    refine(rPlace_any a1 cap1 d xs[j] _ hd' hvw).mono ?_
    rintro e w4 ⟨rfl,hb4⟩
    have hs4:=hb4.size
    have hsw:=hbw.size
    generalize place d xs[j]=P at *
    have hown4:=hown.below hb4
    go_wp2_with (at_builtin;go_must (refine wpList_append_C (by rfl) _ _ 175 4 _ 1 info_bool (by rfl) (by decide) (by kernel_rfl) (by rfl) w3.heap.size _ _ (by rfl) (hown4.alloc _) ⟨w4.heap.size,0,none⟩ 4 [.bool ((P:Int) % 2==1),.bool ((P:Int) / 2 % 2==1),.bool ((P:Int) / 4 % 2==1),.bool ((P:Int) / 8 % 2==1)] (by rfl) (by exact World.news_of_block (heap_alloc_new w4 _)) (by intro u hu;simp at hu;rcases hu with rfl|rfl|rfl|rfl<;>rfl) (by simp only[List.length_cons,List.length_nil];omega) (by simp;omega) ?_);intro sv' w5 h1 h2 h3)
    go_roundw
    case rel=>
     refine⟨j+1,by omega,by go_num,?_,below_grown (below_alloc (below_then hbw hb4) _) h2 fun k hk=>(owns_block hown hk).1⟩
     have e1:[Value.bool ((P:Int) % 2==1),.bool ((P:Int) / 2 % 2==1),.bool ((P:Int) / 4 % 2==1),.bool ((P:Int) / 8 % 2==1)]=[P % 2==1,P / 2 % 2==1,P / 4 % 2==1,P / 8 % 2==1].map Value.bool:=four_vals P
     rw[e1,←List.map_append,←HSN.out]at h1
     exact h1
    case measure=>simp[intOf];omega
   have e:xs.take j=xs:=List.take_of_length_le (by omega)
   rw[e]at hown
   obtain⟨a5,cap5,rfl,hc5⟩:=hown.cells
   have hbl:(bitsOf 4 (xs.map (place d))).length≤256:=by rw[bitsOf_length,List.length_map];omega
   have hpk:=packBits_length (bitsOf 4 (xs.map (place d)))
   have hz2:(str (packBits (bitsOf 4 (xs.map (place d))))).size≤100:=size_le (by rw[hpk];omega)
   rw[List.length_map]
   generalize bitsOf 4 (xs.map (place d))=BL at *
   go_wp2_with fail
   refine(rBitsText_any a5 cap5 BL _ (by omega) hc5).mono ?_
   rintro e w6 ⟨rfl,hb6⟩
   go_wp2
   go_ret
   refine⟨?_,below_then hb13 (below_then hbw hb6)⟩
   rw[HDE.out,←str_append];rfl
end
section
open Go.RowKit
theorem runs_same (v:V)(c:Nat)(u:V)(l:List V)(h:u=v):runsAux v c (u::l)=runsAux v (c+1) l:=by
 simp[runsAux,(V.beq_iff u v).2 h]
theorem runs_diff (v:V)(c:Nat)(u:V)(l:List V)(h:u≠v):runsAux v c (u::l)=(low c::enc v.k v.n v.s)++runsEnc (u::l):=by
 simp[runsAux,(V.beq_false u v).2 h,runsEnc]
theorem below_undrewN {B n:Nat}{a w:World}(h:Below B (a.drewN n) w):Below B a w:=⟨h.os,h.tape,h.output,h.size,h.block⟩
theorem rBody_runs (t:Int)(a:Option Addr)(cap:Nat)(xs:List V)(w:World)(hn:xs.length≤64)(hgd:∀ v∈xs,good v.k v.s)(hx:Vals w a xs) :
  Calls Tryz.prog 78 #[.int .i64 t,.int .i64 2,.slice a xs.length cap] w fun e w'=>e=.returned (.string (str (runsEnc xs)))∧Below w.heap.size w w':=by
 have hs1:=str1_size
 have hrl:=runsEnc_le _ xs (Nat.le_refl _) hgd
 go_enter Tryz.func78,Tryz.ntmps78
 go_wp2
 go_loopw [7,14] (fun s i wr=>∃ (k:Nat) (done:List UInt8),k≤xs.length∧i=.int .i64 k∧s=.string (str done)∧Hid (runsEnc xs=done++runsEnc (xs.drop k))∧Below w.heap.size w wr) (fun _ i _=>xs.length-(intOf i).toNat)
 case atStart=>exact⟨0,[],by omega,rfl,rfl,rfl,Below.refl _ _⟩
 case round=>
  obtain⟨k,done,hk,rfl,rfl,hdone,hbw⟩:=hrel
  by_cases hlt:k<xs.length
  ·rename World=>w1
   have hd0:xs.drop k=xs[k]::xs.drop (k+1):=List.drop_eq_getElem_cons hlt
   have HD0:Hid (runsEnc xs=done++runsAux xs[k] 1 (xs.drop (k+1))):=by
    show _=_
    rw[hdone.out,hd0];rfl
   clear hd0
   have hdl:(str done).size≤5000:=by
    have h1:=congrArg List.length hdone.out
    rw[List.length_append]at h1
    exact size_le (by omega)
   go_wp2
   go_loopw [14,15] (fun i n wr=>∃ p c:Nat,k≤p∧∃ hp:p<xs.length,c≤p+1∧i=.int .i64 p∧n=.int .i64 c∧Hid (runsEnc xs=done++runsAux xs[p] c (xs.drop (p+1)))∧(∃ m,wr=w1.drewN m)) (fun i _ _=>xs.length-(intOf i).toNat)
   case atStart=>exact⟨k,1,by omega,hlt,by omega,rfl,rfl,HD0,⟨0,rfl⟩⟩
   case round=>
    obtain⟨p,c,hkp,hp,hcp,rfl,rfl,hd1,⟨m,rfl⟩⟩:=hrel
    obtain⟨b1,o1,rfl,hb1,x1,x2,x3⟩:=(hx.below hbw).at hp
    by_cases hp1:p+1<xs.length
    ·obtain⟨b2,o2,hbo,_,y1,y2,y3⟩:=(hx.below hbw).at hp1
     simp at hbo
     obtain⟨rfl,rfl⟩:=hbo
     have hgd1:decide ((p:Int)+1<(xs.length:Int))=true:=by simp;omega
     have hd2:xs.drop (p+1)=xs[p+1]::xs.drop (p+1+1):=List.drop_eq_getElem_cons hp1
     by_cases he:xs[p+1]=xs[p]
     ·have hq:=run_eql_same _ _ he
      have HD2:Hid (runsEnc xs=done++runsAux xs[p+1] (c+1) (xs.drop (p+1+1))):=by
       show _=_
       rw[hd1.out,hd2,runs_same _ _ _ _ he,he]
      clear he hd2
      go_wp2
      go_quiet (fail)
      go_wp2
      go_roundw
      case rel=>exact⟨p+1,c+1,by omega,hp1,by omega,by go_num,by go_num,HD2,⟨_,rfl⟩⟩
      case measure=>simp[intOf];omega
     have hq:=run_eql_diff _ _ he
     have HD2:Hid (runsEnc xs=done++[low c]++enc xs[p].k xs[p].n xs[p].s++runsEnc (xs.drop (p+1))):=by
      show _=_
      rw[hd1.out,hd2,runs_diff _ _ _ _ he];simp
     clear he hd2
     go_wp2
     go_quiet (fail)
     go_wp2
     have hgp:=hgd _ (List.getElem_mem hp)
     have he:=enc_le xs[p].k xs[p].n xs[p].s hgp
     have hz2:(str (enc xs[p].k xs[p].n xs[p].s)).size≤41:=size_le he
     have HG:Hid (good xs[p].k xs[p].s):=hgp
     clear hgp he hd1
     go_region_with (first
      |(go_at_call 76;refine(byteOf_any _ _).mono ?_;rintro e w5 ⟨rfl,hb5⟩;have hb5':Below w1.heap.size w1 w5:=below_undrewN hb5;have q1:=(World.cell?_of_block (w:=w1) (a:=⟨b1,o1+p*3,none⟩) (hb5'.block b1 hb1)).trans x1;have q2:=(World.cell?_of_block (w:=w1) (a:=⟨b1,o1+p*3+1,none⟩) (hb5'.block b1 hb1)).trans x2;have q3:=(World.cell?_of_block (w:=w1) (a:=⟨b1,o1+p*3+2,none⟩) (hb5'.block b1 hb1)).trans x3;clear hb5)
      |(go_at_call 100;refine(rSpelled_any xs[p] _ HG.out).mono ?_;rintro e w6 ⟨rfl,hb6⟩))
     all_goals go_wp2
     all_goals
      go_roundw
      case rel=>
       refine⟨p+1,done++[low c]++enc xs[p].k xs[p].n xs[p].s,by omega,by go_num,?_,HD2,below_then hbw (below_then hb5' hb6)⟩
       rw[←str_append,←str_append]
      case measure=>simp[intOf];omega
    have hgd1:decide ((p:Int)+1<(xs.length:Int))=false:=by simp;omega
    have hd2:xs.drop (p+1)=[]:=List.drop_eq_nil_iff.2 (by omega)
    have HD2:Hid (runsEnc xs=done++[low c]++enc xs[p].k xs[p].n xs[p].s++runsEnc (xs.drop (p+1))):=by
     show _=_
     rw[hd1.out,hd2];simp[runsAux,runsEnc_nil]
    clear hd2
    go_wp2
    go_quiet (fail)
    go_wp2
    have hgp:=hgd _ (List.getElem_mem hp)
    have he:=enc_le xs[p].k xs[p].n xs[p].s hgp
    have hz2:(str (enc xs[p].k xs[p].n xs[p].s)).size≤41:=size_le he
    have HG:Hid (good xs[p].k xs[p].s):=hgp
    clear hgp he hd1
    go_region_with (first
     |(go_at_call 76;refine(byteOf_any _ _).mono ?_;rintro e w5 ⟨rfl,hb5⟩;have hb5':Below w1.heap.size w1 w5:=below_undrewN hb5;have q1:=(World.cell?_of_block (w:=w1) (a:=⟨b1,o1+p*3,none⟩) (hb5'.block b1 hb1)).trans x1;have q2:=(World.cell?_of_block (w:=w1) (a:=⟨b1,o1+p*3+1,none⟩) (hb5'.block b1 hb1)).trans x2;have q3:=(World.cell?_of_block (w:=w1) (a:=⟨b1,o1+p*3+2,none⟩) (hb5'.block b1 hb1)).trans x3;clear hb5)
     |(go_at_call 100;refine(rSpelled_any xs[p] _ HG.out).mono ?_;rintro e w6 ⟨rfl,hb6⟩))
    all_goals go_wp2
    all_goals
     go_roundw
     case rel=>
      refine⟨p+1,done++[low c]++enc xs[p].k xs[p].n xs[p].s,by omega,by go_num,?_,HD2,below_then hbw (below_then hb5' hb6)⟩
      rw[←str_append,←str_append]
     case measure=>simp[intOf];omega
  have hke:k=xs.length:=by omega
  subst hke
  have hd2:xs.drop xs.length=[]:=List.drop_eq_nil_iff.2 (Nat.le_refl _)
  have hfin:=hdone.out
  rw[hd2,runsEnc_nil,List.append_nil]at hfin
  have HF:Hid (runsEnc xs=done):=hfin
  clear hfin hd2
  go_wp2
  go_ret
  exact⟨by rw[HF.out];rfl,hbw⟩
theorem bits_bool (xs:List V)(h:∀ v∈xs,v.n=0∨v.n=1):bitsOf 1 (difs xs 0)=xs.map fun v=>v.n==1:=by
 have hd:∀ v∈xs,dif v.n 0=(if v.n=1 then 1 else 0):=by
  intro v hv
  unfold dif u64
  rcases h v hv with e|e<;>rw[e]<;>rfl
 rw[bitsOf_one _ (by
  intro n hn
  obtain⟨v,hv,rfl⟩:=List.mem_map.1 hn
  rw[hd v hv];split<;>omega)]
 unfold difs
 rw[List.map_map]
 apply List.map_congr_left
 intro v hv
 simp only[Function.comp]
 rw[hd v hv]
 by_cases e:v.n=1<;>simp[e]
theorem bitLen_mono (a b:Nat)(h:a≤b):bitLen a≤bitLen b:=by
 by_cases h0:a=0
 ·subst h0;simp[bitLen]
 have h1:=(bitLen_spec a).2 h0
 have h2:=(bitLen_spec b).1
 have h3:2 ^ (bitLen a-1)<2 ^ bitLen b:=by omega
 have h4:=(Nat.pow_lt_pow_iff_right (by decide)).1 h3
 omega
theorem maxOf_bitLen (l:List Nat):∀ m,bitLen (maxOf m l)=maxOf (bitLen m) (l.map bitLen):=by
 induction l with
 |nil=>intro m;rfl
 |cons n l ih=>
  intro m
  simp only[maxOf,List.map_cons]
  rw[ih]
  congr 1
  by_cases h:m<n
  ·have:=bitLen_mono m n (by omega)
   rw[if_pos h]
   split
   ·rfl
   omega
  have:=bitLen_mono n m (by omega)
  rw[if_neg h,if_neg (by omega)]
theorem bitLen_step (D w:Nat)(h:0<D / 2 ^ w):w+1≤bitLen D:=by
 have h1:=bitLen_shift D w (by omega)
 have h2:1≤bitLen (D / 2 ^ w):=by unfold bitLen;split<;>omega
 omega
theorem bitLen_end (D w:Nat)(hw:w≤bitLen D)(h:D / 2 ^ w=0):w=bitLen D:=by
 have h0:D<2 ^ w:=(Nat.div_eq_zero_iff_lt (Nat.two_pow_pos w)).1 h
 by_cases hD:D=0
 ·subst hD;simp[bitLen]at hw ⊢;exact hw
 have h1:=(bitLen_spec D).2 hD
 have h3:2 ^ (bitLen D-1)<2 ^ w:=by omega
 have h4:=(Nat.pow_lt_pow_iff_right (by decide)).1 h3
 omega
theorem rPacked_two (t:Int)(a:Option Addr)(cap:Nat)(xs:List V)(w:World)(hn:xs.length≤64)(ht:t=2)(hx:Vals w a xs) :
  Calls Tryz.prog 101 #[.int .i64 t,.slice a xs.length cap] w fun e w'=>e=.returned (.string (str (packBits (xs.map fun v=>v.n==1))))∧Below w.heap.size w w':=by
 have ht1:(t==2)=true:=by simp[ht]
 clear ht
 go_enter Tryz.func101,Tryz.ntmps101
 go_wp2
 go_loopw [5,6] (fun sv i wr=>∃ k:Nat,k≤xs.length∧i=.int .i64 k∧OwnC wr w.heap.size 4 sv (((xs.take k).map fun v=>v.n==1).map Value.bool)∧Below w.heap.size w wr) (fun _ i _=>xs.length-(intOf i).toNat)
 case atStart=>exact⟨0,by omega,rfl,OwnC.nil _ _ _,Below.refl _ _⟩
 case round=>
  obtain⟨k,hk,rfl,hown,hbw⟩:=hrel
  by_cases hlt:k<xs.length
  ·obtain⟨b1,o1,rfl,hb1,x1,x2,x3⟩:=(hx.below hbw).at hlt
   have hsn:((xs.take (k+1)).map fun v=>v.n==1).map Value.bool=((xs.take k).map fun v=>v.n==1).map Value.bool++[.bool (xs[k].n==1)]:=by
    rw[List.take_succ_eq_append_getElem hlt,List.map_append,List.map_append];rfl
   have hbl:(((xs.take k).map fun v=>v.n==1).map Value.bool).length≤64:=by rw[List.length_map,List.length_map,List.length_take];omega
   have HSN:Hid _:=hsn
   clear hsn
   generalize ((xs.take k).map fun v=>v.n==1).map Value.bool=BL at *
   have hsw:=hbw.size
   go_wp2_with (at_builtin;go_must (refine wpList_append_C (by rfl) _ _ 175 4 _ 1 info_bool (by rfl) (by decide) (by kernel_rfl) (by rfl) w.heap.size _ _ (by rfl) (hown.alloc _) ⟨wr.heap.size,0,none⟩ 1 [.bool (xs[k].n==1)] (by rfl) (by exact news_one _ _ _) (by intro u hu;simp at hu;subst hu;rfl) (by simp only[List.length_cons,List.length_nil];omega) (by simp;omega) ?_);intro sv' w5 h1 h2 h3)
   go_roundw
   case rel=>
    refine⟨k+1,by omega,by go_num,?_,below_grown (below_alloc hbw _) h2 fun k hk=>(owns_block hown hk).1⟩
    rw[HSN.out];exact h1
   case measure=>simp[intOf];omega
  have e:xs.take k=xs:=List.take_of_length_le (by omega)
  rw[e]at hown
  obtain⟨a5,cap5,rfl,hc5⟩:=hown.cells
  have hbl:(xs.map fun v=>v.n==1).length≤64:=by simpa using hn
  rw[List.length_map]
  generalize hBL:(xs.map fun v=>v.n==1)=BL at *
  have HBL:Hid _:=hBL
  clear hBL
  go_wp2_with fail
  refine(rBitsText_any a5 cap5 BL _ (by omega) hc5).mono ?_
  rintro e w6 ⟨rfl,hb6⟩
  go_wp2
  go_ret
  exact⟨by rw[HBL.out];rfl,below_then hbw hb6⟩
theorem rPacked_nil (t:Int)(a:Option Addr)(cap:Nat)(xs:List V)(w:World)(hn:xs.length≤64)(ht:¬ t=2∧xs=[])  :
  Calls Tryz.prog 101 #[.int .i64 t,.slice a xs.length cap] w fun e w'=>e=.returned (.string (str (packBits (xs.map fun v=>v.n==1))))∧Below w.heap.size w w':=by
 have ht1:(t==2)=false:=by simp[ht.1]
 have h0:xs.length=0:=by rw[ht.2];rfl
 have h01:((xs.length:Int)==0)=true:=by simp[h0]
 clear ht
 go_enter Tryz.func101,Tryz.ntmps101
 go_wp2
 go_loopw [5,6] (fun sv i wr=>∃ k:Nat,k≤xs.length∧i=.int .i64 k∧OwnC wr w.heap.size 4 sv (((xs.take k).map fun v=>v.n==1).map Value.bool)∧Below w.heap.size w wr) (fun _ i _=>xs.length-(intOf i).toNat)
 case atStart=>exact⟨0,by omega,rfl,OwnC.nil _ _ _,Below.refl _ _⟩
 case round=>
  obtain⟨k,hk,rfl,hown,hbw⟩:=hrel
  by_cases hlt:k<xs.length
  ·exfalso;omega
  have e:xs.take k=xs:=List.take_of_length_le (by omega)
  rw[e]at hown
  obtain⟨a5,cap5,rfl,hc5⟩:=hown.cells
  have hbl:(xs.map fun v=>v.n==1).length≤64:=by simpa using hn
  rw[List.length_map]
  generalize hBL:(xs.map fun v=>v.n==1)=BL at *
  have HBL:Hid _:=hBL
  clear hBL
  go_wp2_with fail
  refine(rBitsText_any a5 cap5 BL _ (by omega) hc5).mono ?_
  rintro e w6 ⟨rfl,hb6⟩
  go_wp2
  go_ret
  exact⟨by rw[HBL.out];rfl,below_then hbw hb6⟩
end
section
open Go.RowKit
theorem bits_step (D k:Nat):((List.range (k+1)).map fun b=>D.testBit b)=((List.range k).map fun b=>D.testBit b)++[D / 2 ^ k % 2==1]:=by
 rw[List.range_succ,List.map_append]
 simp only[List.map_cons,List.map_nil]
 rw[Nat.testBit_eq_decide_div_mod_eq]
 congr 2
theorem rPacked_int (t:Int)(a:Option Addr)(cap:Nat)(v:V)(l:List V)(w:World)(hn:(v::l).length≤64)(ht:¬ t=2)(hx:Vals w a (v::l)) :
  Calls Tryz.prog 101 #[.int .i64 t,.slice a (v::l).length cap] w fun e w'=>e=.returned (.string (str (packedInt (v::l))))∧Below w.heap.size w w':=by
 have ht1:(t==2)=false:=by simp[ht]
 clear ht
 have hpe:packedInt (v::l)=le8 (u64 (leastFrom v.n (v::l)))++[low (maxOf 0 ((difs (v::l) (leastFrom v.n (v::l))).map bitLen):Nat)]
    ++ packBits (bitsOf (maxOf 0 ((difs (v::l) (leastFrom v.n (v::l))).map bitLen)) (difs (v::l) (leastFrom v.n (v::l)))):=by
  have e:maxOf 0 ((difs (v::l) (leastFrom v.n (v::l))).map bitLen)=bitLen (maxOf (dif v.n (leastFrom v.n (v::l))) (difs l (leastFrom v.n (v::l)))):=by
   rw[maxOf_bitLen]
   show maxOf 0 (bitLen _::(difs l _).map bitLen)=_
   simp only[maxOf]
   congr 1
   split<;>omega
  rw[e];rfl
 have HPE:Hid _:=hpe
 clear hpe
 have hlt1:(v::l).take 1=[v]:=rfl
 have hv0:(v::l)[0]?=some v:=rfl
 have hl0:0<(v::l).length:=by simp
 have hlf1:leastFrom v.n [v]=v.n:=by simp[leastFrom]
 generalize v::l=xs at *
 have HL1:Hid (leastFrom v.n (xs.take 1)=v.n):=by rw[hlt1];exact hlf1
 have hl1:((xs.length:Int)==0)=false:=by rw[beq_eq_false_iff_ne];omega
 obtain⟨b1,o1,rfl,hb1,z1,z2,z3⟩:=hx.at hl0
 rw[Nat.zero_mul,Nat.add_zero]at z1 z2 z3
 have hv1:xs[0]=v:=by rw[List.getElem?_eq_getElem hl0]at hv0;exact Option.some.inj hv0
 rw[hv1]at z2
 clear hlt1 hlf1 hv0 hv1 z1 z3
 generalize v.n=M at *
 go_enter Tryz.func101,Tryz.ntmps101
 go_wp2
 go_loop [7,8] (fun q i=>∃ k:Nat,1≤k∧k≤xs.length∧i=.int .i64 k∧q=.int .i64 (leastFrom M (xs.take k))) (fun _ i=>xs.length-(intOf i).toNat)
 case atStart=>exact⟨1,by omega,by omega,rfl,by rw[HL1.out]⟩
 case round=>
  obtain⟨k,hk1,hk,rfl,rfl⟩:=hrel
  by_cases hlt:k<xs.length
  ·obtain⟨b2,o2,hbo,_,x1,x2,x3⟩:=hx.at hlt
   simp at hbo
   obtain⟨rfl,rfl⟩:=hbo
   have hts:=leastFrom_snoc (xs.take k) xs[k] M
   rw[←List.take_succ_eq_append_getElem hlt]at hts
   have HT:Hid _:=hts
   clear hts
   generalize leastFrom M (xs.take k)=q at *
   by_cases hc:xs[k].n<q
   ·have HT2:Hid (leastFrom M (xs.take (k+1))=xs[k].n):=by show _=_;rw[HT.out,if_pos hc]
    go_wp2
    go_round
    case rel=>exact⟨k+1,by omega,by omega,by go_num,by rw[HT2.out]⟩
    case measure=>simp[intOf];omega
   have HT2:Hid (leastFrom M (xs.take (k+1))=q):=by show _=_;rw[HT.out,if_neg hc]
   go_wp2
   go_round
   case rel=>exact⟨k+1,by omega,by omega,by go_num,by rw[HT2.out]⟩
   case measure=>simp[intOf];omega
  have e:xs.take k=xs:=List.take_of_length_le (by omega)
  rw[e]
  clear e
  generalize leastFrom M xs=q at *
  have hdl:(difs xs q).length=xs.length:=by simp[difs]
  have hdk:∀ j (hj:j<xs.length),(difs xs q)[j]'(by rw[hdl];exact hj)=dif xs[j].n q:=by intro j hj;simp[difs]
  have hdlt:=difs_lt xs q
  generalize hDS:difs xs q=ds at *
  have HDS:Hid (difs xs q=ds):=hDS
  clear hDS
  have HWL:Hid (∀ n∈ds,bitLen n<65):=fun n hn=>by have:=bitLen_le64 n (hdlt n hn);omega
  have HDL:Hid (ds.length=xs.length):=hdl
  have HDK:Hid (∀ j (hj:j<xs.length),ds[j]?=some (dif xs[j].n q)):=by
   intro j hj
   rw[List.getElem?_eq_getElem (by rw[hdl];exact hj),hdk j hj]
  have HDB:Hid (∀ n∈ds,n<18446744073709551616):=hdlt
  clear hdl hdk hdlt
  go_wp2
  go_loop [9,10] (fun wd i=>∃ j:Nat,j≤xs.length∧i=.int .i64 j∧wd=.int .i64 (maxOf 0 ((ds.take j).map bitLen):Nat)) (fun _ i=>xs.length-(intOf i).toNat)
  case atStart=>exact⟨0,by omega,rfl,rfl⟩
  case round=>
   obtain⟨j,hj,rfl,rfl⟩:=hrel
   by_cases hlj:j<xs.length
   ·obtain⟨b2,o2,hbo,_,x1,x2,x3⟩:=hx.at hlj
    simp at hbo
    obtain⟨rfl,rfl⟩:=hbo
    have hdj:=HDK.out j hlj
    have hlj':j<ds.length:=by rw[HDL.out];exact hlj
    have hmem:ds[j]∈ds:=List.getElem_mem hlj'
    have hdj2:ds[j]=dif xs[j].n q:=by rw[List.getElem?_eq_getElem hlj']at hdj;exact Option.some.inj hdj
    have hsn:(ds.take (j+1)).map bitLen=(ds.take j).map bitLen++[bitLen ds[j]]:=by rw[List.take_succ_eq_append_getElem hlj',List.map_append];rfl
    have hmx:maxOf 0 ((ds.take (j+1)).map bitLen)=if maxOf 0 ((ds.take j).map bitLen)<bitLen ds[j]then bitLen ds[j]else maxOf 0 ((ds.take j).map bitLen):=by rw[hsn,maxOf_snoc]
    have hwm:maxOf 0 ((ds.take j).map bitLen)<65:=maxOf_lt 65 _ 0 (by decide) fun n hn=>by
     obtain⟨y,hy,rfl⟩:=List.mem_map.1 hn
     exact HWL.out y (List.mem_of_mem_take hy)
    have hD65:=HWL.out _ hmem
    have hDlt:=HDB.out _ hmem
    rw[hdj2]at hmx hD65 hDlt
    have HMX:Hid _:=hmx
    have hwd:=wrap_dif xs[j].n q
    have HWD:Hid _:=hwd
    clear hmx hsn hdj hdj2 hmem hwd
    generalize maxOf 0 ((ds.take j).map bitLen)=WM at *
    go_wp2
    rw[HWD.out]
    generalize dif xs[j].n q=D at *
    go_loop [11,12] (fun wc u=>∃ c:Nat,c≤bitLen D∧wc=.int .i64 c∧u=.int .u64 (D / 2 ^ c:Nat)) (fun _ u=>(intOf u).toNat)
    case atStart=>exact⟨0,by omega,rfl,by simp⟩
    case round=>
     obtain⟨c,hc,rfl,rfl⟩:=hrel
     have hle:D / 2 ^ c≤D:=Nat.div_le_self _ _
     have hst:=bitLen_step D c
     have hen:=bitLen_end D c hc
     have hdd:D / 2 ^ (c+1)=D / 2 ^ c / 2:=by rw[Nat.pow_succ,Nat.div_div_eq_div_mul]
     have HST:Hid _:=hst
     have HEN:Hid _:=hen
     have HDD:Hid _:=hdd
     clear hst hen hdd
     generalize D / 2 ^ c=U at *
     by_cases hU:0<U
     ·have HS2:=HST.out hU
      go_wp2
      go_round
      case rel=>exact⟨c+1,by omega,by go_num,by rw[HDD.out];go_num⟩
      case measure=>simp[intOf];omega
     have hce:c=bitLen D:=HEN.out (by omega)
     subst hce
     by_cases hgt:WM<bitLen D
     ·have HM2:Hid (maxOf 0 ((ds.take (j+1)).map bitLen)=bitLen D):=by show _=_;rw[HMX.out,if_pos hgt]
      generalize bitLen D=c at *
      go_wp2
      go_round
      case rel=>exact⟨j+1,by omega,by go_num,by rw[HM2.out]⟩
      case measure=>simp[intOf];omega
     have HM2:Hid (maxOf 0 ((ds.take (j+1)).map bitLen)=WM):=by show _=_;rw[HMX.out,if_neg hgt]
     generalize bitLen D=c at *
     go_wp2
     go_round
     case rel=>exact⟨j+1,by omega,by go_num,by rw[HM2.out]⟩
     case measure=>simp[intOf];omega
   have e:ds.take j=ds:=List.take_of_length_le (by rw[HDL.out];omega)
   rw[e]
   clear e
   have hwm:maxOf 0 (ds.map bitLen)<65:=maxOf_lt 65 _ 0 (by decide) fun n hn=>by
    obtain⟨y,hy,rfl⟩:=List.mem_map.1 hn
    exact HWL.out y hy
   generalize maxOf 0 (ds.map bitLen)=wd at *
   go_wp2
   go_loopw [5,13] (fun sv i wr=>∃ p:Nat,p≤xs.length∧i=.int .i64 p∧OwnC wr w.heap.size 4 sv ((bitsOf wd (ds.take p)).map Value.bool)∧Below w.heap.size w wr) (fun _ i _=>xs.length-(intOf i).toNat)
   case atStart=>exact⟨0,by omega,rfl,OwnC.nil _ _ _,Below.refl _ _⟩
   case round=>
    obtain⟨p,hp,rfl,hown,hbw⟩:=hrel
    rename World=>w1
    by_cases hlp:p<xs.length
    ·obtain⟨b2,o2,hbo,hb2,x1,x2,x3⟩:=(hx.below hbw).at hlp
     simp at hbo
     obtain⟨rfl,rfl⟩:=hbo
     have hdj:=HDK.out p hlp
     have hlp':p<ds.length:=by rw[HDL.out];exact hlp
     have hmem:ds[p]∈ds:=List.getElem_mem hlp'
     have hdj2:ds[p]=dif xs[p].n q:=by rw[List.getElem?_eq_getElem hlp']at hdj;exact Option.some.inj hdj
     have hsn:bitsOf wd (ds.take (p+1))=bitsOf wd (ds.take p)++(List.range wd).map fun b=>ds[p].testBit b:=by rw[List.take_succ_eq_append_getElem hlp',bitsOf_snoc]
     have hDlt:=HDB.out _ hmem
     rw[hdj2]at hsn hDlt
     have hbl:(bitsOf wd (ds.take p)).length≤5000:=by
      rw[bitsOf_length,List.length_take]
      have:wd*min p ds.length≤64*64:=Nat.mul_le_mul (by omega) (by omega)
      omega
     have HSN:Hid _:=hsn
     have hwd2:=wrap_dif xs[p].n q
     have HWD:Hid _:=hwd2
     clear hsn hdj hdj2 hmem hwd2
     generalize bitsOf wd (ds.take p)=BL at *
     go_wp2
     rw[HWD.out]
     generalize dif xs[p].n q=D at *
     go_loopw [5,14,15] (fun sv u kk wr=>∃ c:Nat,c≤wd∧kk=.int .i64 c∧u=.int .u64 (D / 2 ^ c:Nat)∧OwnC wr w.heap.size 4 sv ((BL++(List.range c).map fun b=>D.testBit b).map Value.bool)∧Below w.heap.size w wr) (fun _ _ kk _=>wd-(intOf kk).toNat)
     case atStart=>exact⟨0,by omega,rfl,by simp,by simpa using hown,hbw⟩
     case round=>
      clear hown hbw x1 x2 x3 hb2
      obtain⟨c,hc,rfl,rfl,hown,hbw⟩:=hrel
      have hsw:=hbw.size
      by_cases hlc:c<wd
      ·have hbs:=bits_step D c
       have HBS:Hid _:=hbs
       have hle:D / 2 ^ c≤D:=Nat.div_le_self _ _
       have hdd:D / 2 ^ (c+1)=D / 2 ^ c / 2:=by rw[Nat.pow_succ,Nat.div_div_eq_div_mul]
       have HDD:Hid _:=hdd
       have hbl2:((BL++(List.range c).map fun b=>D.testBit b).map Value.bool).length≤6000:=by simp;omega
       clear hbs hdd
       generalize (List.range c).map (fun b=>D.testBit b)=RB at *
       generalize D / 2 ^ c=U at *
       go_wp2_with (at_builtin;go_must (refine wpList_append_C (by rfl) _ _ 175 4 _ 1 info_bool (by rfl) (by decide) (by kernel_rfl) (by rfl) w.heap.size _ _ (by rfl) (hown.alloc _) ⟨wr.heap.size,0,none⟩ 1 [.bool ((U:Int) % 2==1)] (by rfl) (by exact news_one _ _ _) (by intro u hu;simp at hu;subst hu;rfl) (by simp only[List.length_cons,List.length_nil];omega) (by simp;omega) ?_);intro sv' w5 h1 h2 h3)
       go_roundw
       case rel=>
        refine⟨c+1,by omega,by go_num,by rw[HDD.out];go_num,?_,below_grown (below_alloc hbw _) h2 fun k hk=>(owns_block hown hk).1⟩
        have e1:((U:Int) % 2==1)=(U % 2==1):=by rw[Bool.eq_iff_iff];simp;omega
        rw[HBS.out,←List.append_assoc,List.map_append]
        rw[e1]at h1
        exact h1
       case measure=>simp[intOf];omega
      have hce:c=wd:=by omega
      subst hce
      go_wp2
      go_roundw
      case rel=>exact⟨p+1,by omega,by go_num,by rw[HSN.out];exact hown,hbw⟩
      case measure=>simp[intOf];omega
    have e:ds.take p=ds:=List.take_of_length_le (by rw[HDL.out];omega)
    rw[e]at hown
    obtain⟨a5,cap5,rfl,hc5⟩:=hown.cells
    have hbl:(bitsOf wd ds).length≤5000:=by
     rw[bitsOf_length,HDL.out]
     have:wd*xs.length≤64*64:=Nat.mul_le_mul (by omega) hn
     omega
    have hpk:=packBits_length (bitsOf wd ds)
    have hz2:(str (packBits (bitsOf wd ds))).size≤1000:=by rw[str_size,hpk];omega
    have hz3:(str (le8 (Go.Proofs.YtkgibdjakgmmcaaGreatDoor.u64 q))).size=8:=by rw[str_size,le8_length]
    have hs1:=str1_size
    rw[List.length_map]
    clear e hpk
    generalize bitsOf wd ds=BL at *
    go_wp2_with fail
    refine(rLong_any q _).mono ?_
    rintro e w5 ⟨rfl,hb5⟩
    generalize le8 (Go.Proofs.YtkgibdjakgmmcaaGreatDoor.u64 q)=L8 at *
    go_wp2_with fail
    refine(byteOf_any _ _).mono ?_
    rintro e w6 ⟨rfl,hb6⟩
    have hc6:=(hc5.below hb5).below hb6
    go_wp2_with fail
    refine(rBitsText_any a5 cap5 BL _ (by omega) hc6).mono ?_
    rintro e w7 ⟨rfl,hb7⟩
    go_wp2
    go_ret
    refine⟨?_,below_then hbw (below_then hb5 (below_then hb6 hb7))⟩
    rw[HPE.out,←str_append,←str_append]
    rfl
end
section
open Go.RowKit
theorem rBody_of (t:Int)(a:Option Addr)(cap n:Nat)(w:World)(s:ByteArray)
  (h:∀ W,Below w.heap.size w W→Calls Tryz.prog 101 #[.int .i64 t,.slice a n cap] W fun e w'=>e=.returned (.string s)∧Below W.heap.size W w') :
  Calls Tryz.prog 78 #[.int .i64 t,.int .i64 3,.slice a n cap] w fun e w'=>e=.returned (.string s)∧Below w.heap.size w w':=by
 have HS:Hid (∀ W,Below w.heap.size w W→Calls Tryz.prog 101 #[.int .i64 t,.slice a n cap] W fun e w'=>e=.returned (.string s)∧Below W.heap.size W w'):=h
 clear h
 go_enter Tryz.func78,Tryz.ntmps78
 go_wp2_with fail
 refine(HS.out w (Below.refl _ _)).mono ?_
 rintro e w1 ⟨rfl,hb1⟩
 go_wp2
 go_ret
 exact⟨rfl,hb1⟩
theorem rBody_any (t how:Int)(a:Option Addr)(cap:Nat)(xs:List V)(w:World)(hh:how=0∨how=1∨how=2∨how=3)(hn:xs.length≤64)(hgd:∀ v∈xs,good v.k v.s)(hb:t=2→∀ v∈xs,v.n=0∨v.n=1)(hx:Vals w a xs) :
  Calls Tryz.prog 78 #[.int .i64 t,.int .i64 how,.slice a xs.length cap] w fun e w'=>e=.returned (.string (str (bodyEnc t how xs)))∧Below w.heap.size w w':=by
 rcases hh with rfl|rfl|rfl|rfl
 ·exact rBody_plain t a cap xs w hn hgd hx
 ·exact rBody_dict t a cap xs w hn hgd hx
 ·exact rBody_runs t a cap xs w hn hgd hx
 refine rBody_of t a cap _ w _ fun W hW=>?_
 show Calls _ _ _ _ fun e w'=>e=.returned (.string (str (packedEnc t xs)))∧_
 unfold packedEnc
 by_cases ht:t=2
 ·rw[if_pos ht,bits_bool xs (hb ht)]
  exact rPacked_two t a cap xs W hn ht (hx.below hW)
 rw[if_neg ht]
 cases xs with
 |nil=>exact rPacked_nil t a cap [] W hn ⟨ht,rfl⟩
 |cons v l=>exact rPacked_int t a cap v l W hn ht (hx.below hW)
theorem bool_held (t:Int)(xs:List V)(h:okAll t xs)(ht:t=2):∀ v∈heldOf xs,v.n=0∨v.n=1:=by
 intro v hv
 obtain⟨hm,hk⟩:=List.mem_filter.1 hv
 obtain⟨j,hj,rfl⟩:=List.getElem_of_mem hm
 have:=h.2 j hj
 unfold okB okK at this
 simp at this hk
 omega
theorem dictEnc_le (xs:List V)(hn:xs.length≤64)(hg:∀ v∈xs,good v.k v.s):(dictEnc xs).length≤6000:=by
 have h1:=uniq_le xs []
 have h2:=encAll_le (uniq [] xs) fun v hv=>by
  rcases uniq_mem xs [] v hv with h|h
  ·simp at h
  exact hg v h
 unfold dictEnc
 rw[List.length_append,List.length_cons,packBits_length,bitsOf_length,List.length_map]
 simp at h1
 omega
theorem packedEnc_le (t:Int)(xs:List V)(hn:xs.length≤64):(packedEnc t xs).length≤6000:=by
 unfold packedEnc
 split
 ·rw[packBits_length,bitsOf_length];simp[difs];omega
 cases xs with
 |nil=>simp[packedInt]
 |cons v l=>
  unfold packedInt
  have hlt0:=difs_lt (v::l) (leastFrom v.n (v::l))
  have hds:difs (v::l) (leastFrom v.n (v::l))=dif v.n (leastFrom v.n (v::l))::difs l (leastFrom v.n (v::l)):=rfl
  rw[hds]at hlt0
  have hmx:=maxOf_lt 18446744073709551616 (difs l (leastFrom v.n (v::l))) (dif v.n (leastFrom v.n (v::l))) (hlt0 _ List.mem_cons_self) fun n hn=>hlt0 n (List.mem_cons_of_mem _ hn)
  have h64:=bitLen_le64 _ hmx
  rw[List.length_append,List.length_append,le8_length,packBits_length,bitsOf_length]
  have hdl:(difs (v::l) (leastFrom v.n (v::l))).length=(v::l).length:=by simp[difs]
  rw[hdl]
  have:bitLen (maxOf (dif v.n (leastFrom v.n (v::l))) (difs l (leastFrom v.n (v::l))))*(v::l).length≤64*64:=Nat.mul_le_mul h64 hn
  simp only[List.length_cons,List.length_nil]at *
  omega
theorem bodyEnc_le (t how:Int)(xs:List V)(hn:xs.length≤64)(hg:∀ v∈xs,good v.k v.s):(bodyEnc t how xs).length≤6000:=by
 unfold bodyEnc
 split
 ·have:=encAll_le xs hg;omega
 split
 ·exact dictEnc_le xs hn hg
 split
 ·have:=runsEnc_le _ xs (Nat.le_refl _) hg;omega
 exact packedEnc_le t xs hn
theorem rPack_way (t how:Int)(a:Option Addr)(cap:Nat)(xs:List V)(w:World)(hbad:¬ (way t how=true∧xs.length≤64)) :
  Calls Tryz.prog 55 #[.int .i64 t,.int .i64 how,.slice a xs.length cap] w fun e w'=>e=.returned (.tuple #[.string (str []),fault 1])∧Below w.heap.size w w':=by
 have hb0:Below w.heap.size w (w.alloc (.cells #[.int .i64 0,.int .i64 0,.int .i64 0,.int .i64 0,.int .i64 0] 52)):=(Below.refl _ _).alloc (Nat.le_refl _) _
 cases hway:way t how
 case' true=>have h64:(64:Int)<(xs.length:Int):=(by have:¬ xs.length≤64:=(fun h=>hbad ⟨hway,h⟩);omega)
 all_goals
  clear hbad
  go_enter Tryz.func55,Tryz.ntmps55
  go_wp2_with fail
  refine(rWay_any _ _ _).mono ?_
  rintro e w1 ⟨rfl,hw1⟩
  rw[hway]
  subst w1
  go_wp2_with fail
  refine(rBad_any _ _).mono ?_
  rintro e w2 ⟨rfl,hb2⟩
  obtain⟨k1,k2⟩:=below_keep hb2
  have hb4:=below_then hb0 hb2
  go_wp2
  exact bodyPost_ret (v:=.tuple #[.string (str []),fault 1]) (by simp[results,Tryz.results55,go_sem,k1];rfl) rfl ⟨rfl,below_set5 hb4 (Nat.le_refl _) _ _ _ _ _⟩
end
section
open Go.RowKit
theorem rPack_main (t how:Int)(a:Option Addr)(cap:Nat)(xs:List V)(w:World)(hx:Vals w a xs)(hway:way t how=true)(h64:xs.length≤64) :
  Calls Tryz.prog 55 #[.int .i64 t,.int .i64 how,.slice a xs.length cap] w fun e w'=>e=.returned (.tuple #[.string (str (pOut t how xs).1),fault (pOut t how xs).2])∧Below w.heap.size w w':=by
 have hb0:Below w.heap.size w (w.alloc (.cells #[.int .i64 0,.int .i64 0,.int .i64 0,.int .i64 0,.int .i64 0] 52)):=(Below.refl _ _).alloc (Nat.le_refl _) _
 have hhow:=way_cases t how hway
 have HNO:Hid (¬ okAll t xs→pOut t how xs=([],1)):=fun h=>by
  unfold pOut
  rw[if_neg]
  rw[Bool.and_eq_true];exact fun e=>h ((okAllB_iff t xs).1 e.2)
 have HDI:Hid (okAll t xs→how=1→16<(uniq [] (heldOf xs)).length→pOut t how xs=([],2)):=fun h h1 h2=>by
  unfold pOut
  rw[if_pos (by rw[Bool.and_eq_true];exact⟨hway,(okAllB_iff t xs).2 h⟩),if_pos ⟨h1,h2⟩]
 have HOK:Hid (okAll t xs→¬ (how=1∧16<(uniq [] (heldOf xs)).length)→pOut t how xs=(segEnc t how xs,0)):=fun h h1=>by
  unfold pOut
  rw[if_pos (by rw[Bool.and_eq_true];exact⟨hway,(okAllB_iff t xs).2 h⟩),if_neg h1]
 generalize hw0:w.alloc (.cells #[.int .i64 0,.int .i64 0,.int .i64 0,.int .i64 0,.int .i64 0] 52)=w0 at *
 have hf0:∀ o,w0.frozen? ⟨w.heap.size,o,none⟩=false:=by intro o;rw[←hw0];simp
 have hcl:w.heap.size<w0.heap.size:=by rw[←hw0];simp
 have q0:w0.cell? ⟨w.heap.size,0,none⟩=some (.int .i64 0):=by rw[←hw0];simp
 have q1:w0.cell? ⟨w.heap.size,1,none⟩=some (.int .i64 0):=by rw[←hw0];simp
 have q2:w0.cell? ⟨w.heap.size,2,none⟩=some (.int .i64 0):=by rw[←hw0];simp
 have q3:w0.cell? ⟨w.heap.size,3,none⟩=some (.int .i64 0):=by rw[←hw0];simp
 have q4:w0.cell? ⟨w.heap.size,4,none⟩=some (.int .i64 0):=by rw[←hw0];simp
 go_enter Tryz.func55,Tryz.ntmps55
 go_wp2_with fail
 refine(rWay_any _ _ _).mono ?_
 rintro e w1 ⟨rfl,hw1⟩
 rw[hway]
 subst w1
 clear hw0
 go_wp2_with fail
 go_loopw [8,9,10,11] (fun okv th lv i wr=>∃ k:Nat,k≤xs.length∧i=.int .i64 k∧(∃ b:Bool,okv=.bool b)∧OwnC wr w0.heap.size 4 th (((xs.take k).map fun v=>v.k != 0).map Value.bool)∧OwnV wr w0.heap.size lv (heldOf (xs.take k))∧(∀ x,th.ownBlock=some x→lv.ownBlock≠some x)∧Below w0.heap.size w0 wr∧Hid (∀ j (hj:j<xs.length),j<k→okB t xs[j].k xs[j].n xs[j].s=true)) (fun _ _ _ i _=>xs.length-(intOf i).toNat)
 case atStart=>exact⟨0,by omega,rfl,⟨_,rfl⟩,OwnC.nil _ _ _,OwnV.nil _ _,by simp[Value.ownBlock],Below.refl _ _,fun j _ hj=>absurd hj (Nat.not_lt_zero _)⟩
 case round=>
  obtain⟨k,hk,rfl,⟨b,rfl⟩,hth,hlv,hn3,hbw,hall⟩:=hrel
  have hs0:=hbw.size
  by_cases hlt:k<xs.length
  ·obtain⟨b1,o1,rfl,hb1,x1',x2',x3'⟩:=(hx.below hb0).at hlt
   have HC:Hid (∀ W,Below w0.heap.size w0 W→W.cell? ⟨b1,o1+k*3,none⟩=some (.int .i64 xs[k].k)∧W.cell? ⟨b1,o1+k*3+1,none⟩=some (.int .i64 xs[k].n)∧W.cell? ⟨b1,o1+k*3+2,none⟩=some (.string xs[k].s)):=fun W hW=>
    ⟨(World.cell?_of_block (w:=w0) (a:=⟨b1,_,none⟩) (hW.block b1 hb1)).trans x1',(World.cell?_of_block (w:=w0) (a:=⟨b1,_,none⟩) (hW.block b1 hb1)).trans x2',(World.cell?_of_block (w:=w0) (a:=⟨b1,_,none⟩) (hW.block b1 hb1)).trans x3'⟩
   clear x1' x2' x3'
   obtain⟨x1,x2,x3⟩:=HC.out _ hbw
   cases ho:okB t xs[k].k xs[k].n xs[k].s
   ·have HP:Hid (pOut t how xs=([],1)):=HNO.out fun h=>by have:=h.2 k hlt;rw[ho]at this;exact absurd this (by decide)
    go_wp2_with fail
    refine(rIs_any _ _ _ _ _).mono ?_
    rintro e w2 ⟨rfl,hb2⟩
    rw[ho]
    go_wp2_with fail
    refine(rBad_any _ _).mono ?_
    rintro e w3 ⟨rfl,hb3⟩
    have hb03:=below_then hbw (below_then hb2 hb3)
    obtain⟨k1,k2⟩:=below_keep hb03
    have hb4:=below_then hb0 hb03
    go_wp2
    refine bodyPost_ret (v:=.tuple #[.string (str []),fault 1]) (by simp[results,Tryz.results55,go_sem,k1,q0,q1,q2,q3,q4,hcl];rfl) rfl ⟨?_,below_set5 hb4 (Nat.le_refl _) _ _ _ _ _⟩
    rw[HP.out]
   have hsn:((xs.take (k+1)).map fun v=>v.k != 0).map Value.bool=((xs.take k).map fun v=>v.k != 0).map Value.bool++[.bool (xs[k].k != 0)]:=by
    rw[List.take_succ_eq_append_getElem hlt,List.map_append,List.map_append];rfl
   have hts:=heldOf_snoc (xs.take k) xs[k]
   rw[←List.take_succ_eq_append_getElem hlt]at hts
   have hle:=heldOf_le (xs.take k)
   have hle2:(xs.take k).length≤k:=List.length_take_le _ _
   have hhl:(heldOf (xs.take k)).length≤64:=by omega
   have hbl:(((xs.take k).map fun v=>v.k != 0).map Value.bool).length≤64:=by rw[List.length_map,List.length_map,List.length_take];omega
   have HSN:Hid _:=hsn
   have HTS:Hid _:=hts
   have HO:Hid (okB t xs[k].k xs[k].n xs[k].s=true):=ho
   clear hsn hts hle hle2
   generalize ((xs.take k).map fun v=>v.k != 0).map Value.bool=BL at *
   generalize heldOf (xs.take k)=HL at *
   go_wp2_with fail
   refine(rIs_any _ _ _ _ _).mono ?_
   rintro e w2 ⟨rfl,hb2⟩
   rw[ho]
   clear ho
   have hth2:=hth.below hb2
   have hlv2:=hlv.below hb2
   have hb02:=below_then hbw hb2
   have hs2:=hb02.size
   clear x1 x2 x3
   obtain⟨y1,y2,y3⟩:=HC.out _ hb02
   have hthB:=fun x hx=>(owns_block hth2 (g:=x) hx)
   have hlvB:=fun x hx=>(owns_block hlv2 (g:=x) hx)
   by_cases h0:xs[k].k=0
   ·have h0':(xs[k].k != 0)=false:=by simp[h0]
    have HT2:Hid (heldOf (xs.take (k+1))=HL):=by show _=_;rw[HTS.out,if_pos h0]
    have H0:Hid (xs[k].k=0):=h0
    clear h0
    go_wp2_with (at_builtin;go_must (refine wpList_append_C (by rfl) _ _ 175 4 _ 1 info_bool (by rfl) (by decide) (by kernel_rfl) (by rfl) w0.heap.size _ _ (by rfl) (hth2.alloc _) ⟨w2.heap.size,0,none⟩ 1 [.bool false] (by rfl) (by exact news_one _ _ _) (by intro u hu;simp at hu;subst hu;rfl) (by simp only[List.length_cons,List.length_nil];omega) (by simp;omega) ?_);intro sv' w3 h1 h2 h3;have hb03:=below_grown (below_alloc hb02 (.cells #[.bool false] 4)) h2 fun x hx=>(hthB x hx).1;obtain⟨z1,z2,z3⟩:=HC.out _ hb03)
    have hlv3:OwnV w3 w0.heap.size u10 HL:=owns_of_block (hlv2.alloc _) fun x hx=>h2.block x (by have:=(hlvB x hx).2;simp;omega) fun e=>hn3 x e.symm hx
    go_roundw
    case rel=>
     refine⟨k+1,by omega,by go_num,⟨_,rfl⟩,?_,by rw[HT2.out];exact hlv3,?_,hb03,?_⟩
     ·rw[HSN.out]
      have:(xs[k].k != 0)=false:=by simp[H0.out]
      rw[this];exact h1
     ·intro x hx e
      have hl:=(hlvB x e).2
      rcases h3 with e3|e3
      ·exact hn3 x (e3.symm.trans hx) e
      rw[e3]at hx;simp at hx;omega
     intro j hj hjk
     by_cases e:j=k
     ·subst e;exact HO.out
     exact hall.out j hj (by omega)
    case measure=>simp[intOf];omega
   have h0':(xs[k].k != 0)=true:=by simp[h0]
   have HT2:Hid (heldOf (xs.take (k+1))=HL++[xs[k]]):=by show _=_;rw[HTS.out,if_neg h0]
   have H0:Hid (¬ xs[k].k=0):=h0
   clear h0
   go_wp2_with (first
    |(at_builtin;refine wpList_append_C (by rfl) _ _ 175 4 _ 1 info_bool (by rfl) (by decide) (by kernel_rfl) (by rfl) w0.heap.size _ _ (by rfl) (hth2.alloc _) ⟨w2.heap.size,0,none⟩ 1 [.bool true] (by rfl) (by exact news_one _ _ _) (by intro u hu;simp at hu;subst hu;rfl) (by simp only[List.length_cons,List.length_nil];omega) (by simp;omega) ?_;intro sv' w3 h1 h2 h3;have hb03:=below_grown (below_alloc hb02 (.cells #[.bool true] 4)) h2 fun x hx=>(hthB x hx).1;obtain⟨z1,z2,z3⟩:=HC.out _ hb03;have hs3:=hb03.size;have hlv3:OwnV w3 w0.heap.size u10 HL:=owns_of_block (hlv2.alloc _) (fun x hx=>h2.block x (by have:=(hlvB x hx).2;simp;omega) fun e=>hn3 x e.symm hx))
    |(at_builtin;refine wpList_append_V (by rfl) _ _ (by rfl) w0.heap.size _ _ (by rfl) (hlv3.alloc _) _ _ xs[k] (by rfl) (by refine⟨?_,?_,?_⟩<;>simp) (by omega) (by simp;omega) ?_;intro sv2 w4 g1 g2 g3))
   have hlv3B:=fun x hx=>(owns_block hlv3 (g:=x) hx)
   have hsvB:=fun x hx=>(owns_block h1 (g:=x) hx)
   have hdis:∀ x,sv'.ownBlock=some x→u10.ownBlock≠some x:=by
    intro x hx e
    have hl:=(hlvB x e).2
    rcases h3 with e3|e3
    ·exact hn3 x (e3.symm.trans hx) e
    rw[e3]at hx;simp at hx;omega
   go_roundw
   case rel=>
    refine⟨k+1,by omega,by go_num,⟨_,rfl⟩,?_,by rw[HT2.out];exact g1,?_,below_grown (below_alloc hb03 _) g2 fun x hx=>(hlv3B x hx).1,?_⟩
    ·rw[HSN.out]
     have:(xs[k].k != 0)=true:=by simp[H0.out]
     rw[this]
     exact owns_of_block (owns_alloc h1 _) fun x hx=>g2.block x (by have:=(hsvB x hx).2;simp;omega) fun e=>hdis x hx e.symm
    ·intro x hx e
     have hl:=(hsvB x hx).2
     rcases g3 with e3|e3
     ·exact hdis x hx (e3.symm.trans e)
     rw[e3]at e;simp at e;omega
    intro j hj hjk
    by_cases e:j=k
    ·subst e;exact HO.out
    exact hall.out j hj (by omega)
   case measure=>simp[intOf];omega
  have hok:okAll t xs:=⟨h64,fun j hj=>hall.out j hj (by omega)⟩
  have e:xs.take k=xs:=List.take_of_length_le (by omega)
  rw[e]at hth hlv
  clear e
  obtain⟨a5,cap5,rfl,hc5⟩:=hth.cells
  obtain⟨a6,cap6,rfl,hv6⟩:=hlv.vals
  have hhl:(heldOf xs).length≤64:=by have:=heldOf_le xs;omega
  have hgd:=good_held t xs hok
  have hbl2:=bool_held t xs hok
  have hbe:=bodyEnc_le t how (heldOf xs) hhl hgd
  have hzb:(str (bodyEnc t how (heldOf xs))).size≤6000:=by rw[str_size];exact hbe
  have hbl:(xs.map fun v=>v.k != 0).length≤64:=by simpa using h64
  have hpk:=packBits_length (xs.map fun v=>v.k != 0)
  have hzp:(str (packBits (xs.map fun v=>v.k != 0))).size≤100:=by rw[str_size,hpk];omega
  have hs1:=str1_size
  have hse:str (segEnc t how xs)=str [low t]++str [low how]++str [low xs.length]++str (packBits (xs.map fun v=>v.k != 0))++str (bodyEnc t how (heldOf xs)):=by
   unfold segEnc headEnc
   rw[str_append,str_append,str_append,str_append]
   simp
  have HSE:Hid _:=hse
  have hdi:=HDI.out hok
  have hokk:=HOK.out hok
  rw[List.length_map]
  clear hse hbe hpk hth hlv hn3
  generalize (xs.map fun v=>v.k != 0)=BL at *
  generalize heldOf xs=HL at *
  by_cases h1:how=1
  ·subst h1
   go_wp2_with fail
   refine(rDifferent_any a6 cap6 HL _ hhl hv6).mono ?_
   rintro e w3 ⟨sv3,rfl,hown3,hb3⟩
   obtain⟨a7,cap7,rfl,_⟩:=hown3.vals
   clear hown3
   have hb03:=below_then hbw hb3
   by_cases h16:16<(uniq [] HL).length
   ·have HP:Hid (pOut t 1 xs=([],2)):=hdi trivial h16
    clear hdi hokk
    have h16':(16:Int)<((uniq [] HL).length:Int):=by omega
    generalize uniq [] HL=d at *
    go_wp2_with fail
    refine(rBad_any _ _).mono ?_
    rintro e w4 ⟨rfl,hb4⟩
    have hb04:=below_then hb03 hb4
    obtain⟨k1,k2⟩:=below_keep hb04
    have hb4':=below_then hb0 hb04
    go_wp2
    refine bodyPost_ret (v:=.tuple #[.string (str []),fault 2]) (by simp[results,Tryz.results55,go_sem,k1,q0,q1,q2,q3,q4,hcl];rfl) rfl ⟨?_,below_set5 hb4' (Nat.le_refl _) _ _ _ _ _⟩
    rw[HP.out]
   have HP:Hid (pOut t 1 xs=(segEnc t 1 xs,0)):=hokk fun h=>h16 h.2
   clear hdi hokk
   have h16':((uniq [] HL).length:Int)≤(16:Int):=by omega
   generalize uniq [] HL=d at *
   replace hc5:=hc5.below hb3
   replace hv6:=hv6.below hb3
   go_wp2_with fail
   refine(byteOf_any _ _).mono ?_
   rintro e w4 ⟨rfl,hb4⟩
   go_wp2_with fail
   refine(byteOf_any _ _).mono ?_
   rintro e w5 ⟨rfl,hb5⟩
   go_wp2_with fail
   refine(byteOf_any _ _).mono ?_
   rintro e w6 ⟨rfl,hb6⟩
   have hb46:=below_then hb4 (below_then hb5 hb6)
   go_wp2_with fail
   refine(rBitsText_any a5 cap5 BL _ (by omega) (hc5.below hb46)).mono ?_
   rintro e w7 ⟨rfl,hb7⟩
   have hb47:=below_then hb46 hb7
   go_wp2_with fail
   refine(rBody_any t 1 a6 cap6 HL _ (.inr (.inl rfl)) hhl hgd hbl2 (hv6.below hb47)).mono ?_
   rintro e w8 ⟨rfl,hb8⟩
   go_wp2_with fail
   refine(rGood_any _).mono ?_
   rintro e w9 ⟨rfl,hb9⟩
   have hb09:=below_then hb03 (below_then hb47 (below_then hb8 hb9))
   obtain⟨k1,k2⟩:=below_keep hb09
   have hb4':=below_then hb0 hb09
   generalize bodyEnc t 1 HL=BE at *
   go_wp2
   refine bodyPost_ret (v:=.tuple #[.string (str [low t]++str [low 1]++str [low xs.length]++str (packBits BL)++str BE),fault 0]) (by simp[results,Tryz.results55,go_sem,k1,q0,q1,q2,q3,q4,hcl]) rfl ⟨?_,below_set5 hb4' (Nat.le_refl _) _ _ _ _ _⟩
   rw[HP.out]
   simp only
   rw[HSE.out]
  have HP:Hid (pOut t how xs=(segEnc t how xs,0)):=hokk fun h=>h1 h.1
  have h1':(how==1)=false:=by simp[h1]
  have HH:Hid (how=0∨how=1∨how=2∨how=3):=hhow
  clear hdi hokk h1 hhow
  go_wp2_with fail
  refine(byteOf_any _ _).mono ?_
  rintro e w4 ⟨rfl,hb4⟩
  go_wp2_with fail
  refine(byteOf_any _ _).mono ?_
  rintro e w5 ⟨rfl,hb5⟩
  go_wp2_with fail
  refine(byteOf_any _ _).mono ?_
  rintro e w6 ⟨rfl,hb6⟩
  have hb46:=below_then hb4 (below_then hb5 hb6)
  go_wp2_with fail
  refine(rBitsText_any a5 cap5 BL _ (by omega) (hc5.below hb46)).mono ?_
  rintro e w7 ⟨rfl,hb7⟩
  have hb47:=below_then hb46 hb7
  go_wp2_with fail
  refine(rBody_any t how a6 cap6 HL _ HH.out hhl hgd hbl2 (hv6.below hb47)).mono ?_
  rintro e w8 ⟨rfl,hb8⟩
  go_wp2_with fail
  refine(rGood_any _).mono ?_
  rintro e w9 ⟨rfl,hb9⟩
  have hb09:=below_then hbw (below_then hb47 (below_then hb8 hb9))
  obtain⟨k1,k2⟩:=below_keep hb09
  have hb4':=below_then hb0 hb09
  generalize bodyEnc t how HL=BE at *
  go_wp2
  refine bodyPost_ret (v:=.tuple #[.string (str [low t]++str [low how]++str [low xs.length]++str (packBits BL)++str BE),fault 0]) (by simp[results,Tryz.results55,go_sem,k1,q0,q1,q2,q3,q4,hcl]) rfl ⟨?_,below_set5 hb4' (Nat.le_refl _) _ _ _ _ _⟩
  rw[HP.out]
  simp only
  rw[HSE.out]
theorem rPack_any (t how:Int)(a:Option Addr)(cap:Nat)(xs:List V)(w:World)(hx:Vals w a xs) :
  Calls Tryz.prog 55 #[.int .i64 t,.int .i64 how,.slice a xs.length cap] w fun e w'=>e=.returned (.tuple #[.string (str (pOut t how xs).1),fault (pOut t how xs).2])∧Below w.heap.size w w':=by
 by_cases h:way t how=true∧xs.length≤64
 ·exact rPack_main t how a cap xs w hx h.1 h.2
 have e:pOut t how xs=([],1):=by
  unfold pOut
  rw[if_neg]
  rw[Bool.and_eq_true]
  exact fun e=>h ⟨e.1,((okAllB_iff t xs).1 e.2).1⟩
 rw[e]
 exact rPack_way t how a cap xs w h
theorem handed_any (a:Option Addr)(cap:Nat)(xs:List V)(w:World)(hn:xs.length≤4398046511103)(hx:Vals w a xs) :
  Calls Tryz.prog 50 #[.slice a xs.length cap] w fun e w'=>e=.returned (.slice (some ⟨w.heap.size,0,none⟩) xs.length (xs.length+2))∧RowT w' w.heap.size (xs++[markV]++[markV]) []∧Below w.heap.size w w':=by
 obtain⟨i,hi,hz,hs3,hby⟩:=info_parts infoV
 have hmk:∀ W,(Instr.makeSlice 72 (.int .i64 ((xs.length:Int)+2)) (.int .i64 ((xs.length:Int)+2))).run Tryz.prog W=.ok (.slice (some ⟨W.heap.size,0,none⟩) (xs.length+2) (xs.length+2)) (W.alloc (.cells (madeCells #[.int .i64 0,.int .i64 0,.string ⟨#[]⟩] ((xs.length+2)*3)) 61)):=by
  intro W
  have hr:=run_make (P:=Tryz.prog) W 72 61 i _ (by kernel_rfl) hi hz .i64 .i64 ((xs.length:Int)+2) ((xs.length:Int)+2) (by omega) (Int.le_refl _) (by rw[hby];omega) (by omega)
  have e:((xs.length:Int)+2).toNat=xs.length+2:=by omega
  rw[e,hs3]at hr
  exact hr
 obtain⟨Z,hZ⟩:∃ Z,Z=madeCells #[.int .i64 0,.int .i64 0,.string ⟨#[]⟩] ((xs.length+2)*3):=⟨_,rfl⟩
 have hZs:Z.size=(xs.length+2)*3:=by rw[hZ,size_madeCells]
 rw[←hZ]at hmk
 clear hZ hi hz hs3 hby
 have hb0:Below w.heap.size w (w.alloc (.cells Z 61)):=(Below.refl _ _).alloc (Nat.le_refl _) _
 have hcp:=run_copy_V (w.alloc (.cells Z 61)) 3 w.heap.size (xs.length+2) (xs.length+2) a cap xs (hx.below hb0) Z (heap_alloc_new w _) (by omega) (by omega)
 obtain⟨T,hT⟩:∃ T,T=(w.alloc (.cells Z 61)).setRow w.heap.size (xs.flatMap V.cells++Z.toList.drop (xs.length*3)).toArray:=⟨_,rfl⟩
 have hrow:RowT T w.heap.size xs (Z.toList.drop (xs.length*3)):=⟨_,by rw[hT];exact setRow_heap _ _ Z _ _ _ (heap_alloc_new w _),rfl⟩
 have hbT:Below w.heap.size w T:=by
  refine hb0.trans ⟨by rw[hT];rfl,by rw[hT];rfl,by rw[hT];rfl,by rw[hT];simp[World.setRow],fun k hk=>?_⟩
  rw[hT]
  exact setRow_other _ _ _ _ (by omega)
 obtain⟨x0,x1,x2,x3,x4,x5,htl⟩:∃ x0 x1 x2 x3 x4 x5,Z.toList.drop (xs.length*3)=[x0,x1,x2,x3,x4,x5]:=by
  have hl:(Z.toList.drop (xs.length*3)).length=6:=by rw[List.length_drop,Array.length_toList,hZs];omega
  match Z.toList.drop (xs.length*3),hl with
  |[x0,x1,x2,x3,x4,x5],_=>exact⟨_,_,_,_,_,_,rfl⟩
 rw[htl]at hrow
 rw[←hT]at hcp
 clear hT htl hb0
 go_enter Tryz.func50,Tryz.ntmps50
 go_wp2_with fail
 clear hcp hmk
 refine(mark_any 0 T).mono ?_
 rintro e w2 ⟨rfl,hb2⟩
 have hrow2:=hrow.of_block (hb2.block _ hrow.lt)
 have c0:=hrow2.cell (j:=0) rfl
 have c1:=hrow2.cell (j:=1) rfl
 have c2:=hrow2.cell (j:=2) rfl
 rw[Nat.add_zero]at c0
 obtain⟨c0,d0⟩:=c0
 obtain⟨c1,d1⟩:=c1
 obtain⟨c2,d2⟩:=c2
 have hrow3:=hrow2.set3 markV xs.length rfl
 have hb3:Below w.heap.size w (((w2.setCell ⟨w.heap.size,xs.length*3,none⟩ (.int .i64 (-7))).setCell ⟨w.heap.size,xs.length*3+1,none⟩ (.int .i64 0)).setCell ⟨w.heap.size,xs.length*3+2,none⟩ (.string ⟨#[109,97,114,107]⟩)):=
  (((below_then hbT hb2).setCell (p:=⟨w.heap.size,xs.length*3,none⟩) (Nat.le_refl _) _).setCell (p:=⟨w.heap.size,xs.length*3+1,none⟩) (Nat.le_refl _) _).setCell (p:=⟨w.heap.size,xs.length*3+2,none⟩) (Nat.le_refl _) _
 go_wp2_with fail
 generalize hW3:(((w2.setCell ⟨w.heap.size,xs.length*3,none⟩ (.int .i64 (-7))).setCell ⟨w.heap.size,xs.length*3+1,none⟩ (.int .i64 0)).setCell ⟨w.heap.size,xs.length*3+2,none⟩ (.string ⟨#[109,97,114,107]⟩))=w3 at *
 have hrow3':RowT w3 w.heap.size (xs++[markV]) [x3,x4,x5]:=by rw[←hW3];exact hrow3
 clear hrow3 hW3 c0 c1 c2 d0 d1 d2 hrow2 hrow
 refine(mark_any 0 w3).mono ?_
 rintro e w4 ⟨rfl,hb4⟩
 have hrow4:=hrow3'.of_block (hb4.block _ hrow3'.lt)
 have hl1:(xs++[markV]).length=xs.length+1:=by simp
 have c0:=hrow4.cell (j:=0) rfl
 have c1:=hrow4.cell (j:=1) rfl
 have c2:=hrow4.cell (j:=2) rfl
 rw[hl1]at c0 c1 c2
 rw[Nat.add_zero]at c0
 obtain⟨c0,d0⟩:=c0
 obtain⟨c1,d1⟩:=c1
 obtain⟨c2,d2⟩:=c2
 have hrow5:=hrow4.set3 markV (xs.length+1) hl1.symm
 have HR5:Hid _:=hrow5
 have hb5:=below_then hb3 hb4
 clear hl1 hrow5 hrow4 hrow3'
 go_wp2
 go_ret
 refine⟨rfl,HR5.out,((hb5.setCell (p:=⟨w.heap.size,(xs.length+1)*3,none⟩) (Nat.le_refl _) _).setCell (p:=⟨w.heap.size,(xs.length+1)*3+1,none⟩) (Nat.le_refl _) _).setCell (p:=⟨w.heap.size,(xs.length+1)*3+2,none⟩) (Nat.le_refl _) _⟩
theorem still_any (g:Nat)(a:Option Addr)(cap:Nat)(xs:List V)(w:World)(hn:xs.length≤4398046511103)(hr:RowT w g (xs++[markV]++[markV]) [])(hx:Vals w a xs) :
  Calls Tryz.prog 53 #[.slice (some ⟨g,0,none⟩) xs.length (xs.length+2),.slice a xs.length cap] w fun e w'=>e=.returned (.bool true)∧w.grownBy w' (some g):=by
 have hg:=hr.lt
 have hv:=hr.vals
 have hvx:Vals w (some ⟨g,0,none⟩) xs:=by
  rcases hv with hv|⟨b,o,e,hb,hv⟩
  ·simp at hv
  refine .inr ⟨b,o,e,hb,fun i v hi=>hv i v ?_⟩
  have hin:i<xs.length:=by
   rcases Nat.lt_or_ge i xs.length with h'|h'
   ·exact h'
   rw[List.getElem?_eq_none h']at hi;simp at hi
  rw[List.append_assoc,List.getElem?_append_left hin];exact hi
 obtain⟨b1,o1,e1,_,m1,m2,m3⟩:=hv.at (i:=xs.length) (by simp)
 obtain⟨b2,o2,e2,_,p1,p2,p3⟩:=hv.at (i:=xs.length+1) (by simp)
 simp at e1 e2
 obtain⟨rfl,rfl⟩:=e1
 obtain⟨rfl,rfl⟩:=e2
 have hm1:(xs++[markV]++[markV])[xs.length]'(by simp)=markV:=by simp
 have hm2:(xs++[markV]++[markV])[xs.length+1]'(by simp)=markV:=by simp
 rw[hm1]at m1 m2 m3
 rw[hm2]at p1 p2 p3
 simp only[markV,Nat.zero_add]at m1 m2 m3 p1 p2 p3
 clear hm1 hm2 hv
 have hq:∀ W,(binOp .eql 61 (.agg #[.int .i64 (-7),.int .i64 0,.string ⟨#[109,97,114,107]⟩]) (.agg #[.int .i64 (-7),.int .i64 0,.string ⟨#[109,97,114,107]⟩])).run Tryz.prog W=.ok (.bool true) W:=run_eql_same markV markV rfl
 have hn63:xs.length≤maxLen:=by unfold maxLen;omega
 go_enter Tryz.func53,Tryz.ntmps53
 go_wp2_with fail
 refine(sameValues_any (some ⟨g,0,none⟩) a _ _ xs xs w hn63 hvx hx true ⟨fun _=>rfl,fun _=>rfl⟩).mono ?_
 rintro e w1 ⟨rfl,hb1⟩
 obtain⟨k1,k2⟩:=below_keep hb1
 have hg1:g<w1.heap.size:=by have:=hb1.size;omega
 rw[←k1 _ _ hg]at m1 m2 m3 p1 p2 p3
 clear k1 k2
 go_wp2_with fail
 have j0:(0:Int)≤(xs.length:Int):=by omega
 have j1:(xs.length:Int)<(xs.length:Int)+2:=by omega
 have j2:(0:Int)≤(xs.length:Int)+1:=by omega
 have j3:(xs.length:Int)+1<(xs.length:Int)+2:=by omega
 have j4:IntKind.i64.wrap ((xs.length:Int)+1)=(xs.length:Int)+1:=by rw[IntKind.wrap_i64];omega
 have j5:((xs.length:Int)+1).toNat=xs.length+1:=by omega
 go_region_held3 (fun W=>W.cell? ⟨g,xs.length*3,none⟩=some (.int .i64 (-7))∧W.cell? ⟨g,xs.length*3+1,none⟩=some (.int .i64 0)∧W.cell? ⟨g,xs.length*3+2,none⟩=some (.string ⟨#[109,97,114,107]⟩)∧W.cell? ⟨g,(xs.length+1)*3,none⟩=some (.int .i64 (-7))∧W.cell? ⟨g,(xs.length+1)*3+1,none⟩=some (.int .i64 0)∧W.cell? ⟨g,(xs.length+1)*3+2,none⟩=some (.string ⟨#[109,97,114,107]⟩))
  (first|go_keep|(go_split_ands;refine⟨?_,?_,?_,?_,?_,?_⟩<;>(rw[(below_keep hbm).1 _ _ (by first|exact hg1|assumption)];assumption)))
  (first|(go_at_call 51;refine(mark_any _ _).mono ?_;rintro e wm ⟨rfl,hbm⟩;have hgm:g<wm.heap.size:=Nat.lt_of_lt_of_le (by first|exact hg1|assumption) hbm.size;have hbw:Below w.heap.size w wm:=(by first|exact below_then hb1 (below_undrew hbm)|exact below_then hbw hbm)))
 clear hbm m1 m2 m3 p1 p2 p3 j0 j1 j2 j3 j4 j5 hq
 have hrm:RowT wm g (xs++[markV]++[markV]) []:=hr.of_block (hbw.block _ hg)
 have hbg:w.grownBy wm (some g):=grown_below hbw
 go_wp2
 go_loopw [8] (fun i wr=>∃ (k:Nat) (ys:List V),k≤xs.length∧i=.int .i64 k∧ys.length=xs.length+2∧RowT wr g ys []∧w.grownBy wr (some g)) (fun i _=>xs.length-(intOf i).toNat)
 case atStart=>exact⟨0,_,by omega,rfl,by simp,hrm,hbg⟩
 case round=>
  obtain⟨k,ys,hk,rfl,hyl,hry,hbk⟩:=hrel
  by_cases hlt:k<xs.length
  ·go_wp2_with fail
   refine(mark_any 0 _).mono ?_
   rintro e w5 ⟨rfl,hb5⟩
   have hry5:=hry.of_block (hb5.block _ hry.lt)
   have hky:k<ys.length:=by omega
   have HYL:Hid (ys.length=xs.length+2):=hyl
   clear hyl
   obtain⟨⟨⟨c0,d0⟩,⟨c1,d1⟩,⟨c2,d2⟩⟩,hset⟩:=hry5.at3 markV k hky
   have HSET:Hid _:=hset
   clear hset
   go_wp2
   go_roundw
   case rel=>
    refine⟨k+1,ys.set k markV,by omega,by go_num,by rw[List.length_set];exact HYL.out,HSET.out,?_⟩
    exact grown_set (grown_set (grown_set (grown_trans hbk (grown_below hb5)) _ _) _ _) _ _
   case measure=>simp[intOf];omega
  go_wp2
  go_ret
  exact⟨rfl,hbk⟩
end
end Go.Proofs.YtkgibdjakgmmcaaGreatDoor
