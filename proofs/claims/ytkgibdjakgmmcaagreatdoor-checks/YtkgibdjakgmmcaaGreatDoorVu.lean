/- The document's schema of a node: what takes two nodes' rows. -/
import Derived.Test.YtkgibdjakgmmcaaGreatDoorVr
set_option maxHeartbeats 40000000
set_option maxRecDepth 100000
namespace Go.Proofs.YtkgibdjakgmmcaaGreatDoor
open Go.RowKit Go.Shelf
attribute [local go_sem] Oper.semAt_some
theorem rSchema_c (st:Nat)(Rs:List (ByteArray×List Int))(a ka:Option Addr)(nc kc:Nat)(nds:List Nd)(ns:List QN)(scs:List (List Int))(n:QN)(w:World)(h:ScIn w st Rs a ka nds ns scs)(hn:ns[scs.length]?=some n)(hks:n.ks.length≤4400000000000)(hX:(n.op=3∨n.op=7)∧freeQ scs (flQ ns scs.length) n.l≠none) :
  Calls Tryz.prog 25 #[.pointer (some ⟨st,0,none⟩),.agg #[.slice a ns.length nc],.int .i64 (scs.length:Int),.slice ka scs.length kc] w (RS w (nodeQ (tysR Rs) scs (flQ ns scs.length) n)):=by
 have HX:Hid _:=hX
 clear hX
 obtain⟨nd,hnd⟩:∃ nd,nds[scs.length]?=some nd:=⟨_,List.getElem?_eq_getElem (by rw[h.pln.len];exact h.lt)⟩
 obtain⟨pb,po,rfl,hat⟩:=h.pln.at_ _ nd hnd
 have hq:=h.pln.is _ nd n hnd hn
 have hb0:Below w.heap.size w (ndBox (plBox w (some ⟨pb,po,none⟩) ns.length nc) nd):=below_alloc (below_alloc (Below.refl _ _) _) _
 have hNA:NodeAt (ndBox (plBox w (some ⟨pb,po,none⟩) ns.length nc) nd) (w.heap.size+1) 0 nd:=by
  have:=ndBox_at (plBox w (some ⟨pb,po,none⟩) ns.length nc) nd
  rwa [World.size_alloc]at this
 have hPA:(ndBox (plBox w (some ⟨pb,po,none⟩) ns.length nc) nd).cell? ⟨w.heap.size,0,none⟩=some (.slice (some ⟨pb,po,none⟩) ns.length nc):=by
  rw[World.cell?_alloc_lt _ _ _ (by simp)];simp
 obtain⟨y0,y1,y2,y3,y4,y5,y6⟩:=hat.below (below_alloc (Below.refl w.heap.size w) (.cells #[.slice (some ⟨pb,po,none⟩) ns.length nc] 25))
 obtain⟨R,hR⟩:∃ R,nodeQ (tysR Rs) scs (flQ ns scs.length) n=R:=⟨_,rfl⟩
 rw[hR]
 have HR:Hid (nodeQ (tysR Rs) scs (flQ ns scs.length) n=R):=hR
 have HH:Hid (ScIn w st Rs (some ⟨pb,po,none⟩) ka nds ns scs∧NdQ w nd n∧n.ks.length≤4400000000000):=⟨h,hq,hks⟩
 have i1:(0:Int)≤(scs.length:Int):=by omega
 have i2:(scs.length:Int)<(ns.length:Int):=by have:=h.lt;omega
 have i3:(ns.length:Int)≤12:=by have:=h.n12;omega
 obtain⟨W0,hW0⟩:∃ W0,W0=ndBox (plBox w (some ⟨pb,po,none⟩) ns.length nc) nd:=⟨_,rfl⟩
 rw[←hW0]at hb0 hNA hPA
 have H0:Hid (Below w.heap.size w W0∧NodeAt W0 (w.heap.size+1) 0 nd∧W0.cell? ⟨w.heap.size,0,none⟩=some (.slice (some ⟨pb,po,none⟩) ns.length nc)):=⟨hb0,hNA,hPA⟩
 obtain⟨kk,hkk⟩:∃ kk,kk=scs.length:=⟨_,rfl⟩
 have HK:Hid (kk=scs.length):=hkk
 rw[←hkk]at y0 y1 y2 y3 y4 y5 y6 i1 i2 ⊢
 obtain⟨m,hm⟩:∃ m,m=ns.length:=⟨_,rfl⟩
 have HM:Hid (m=ns.length):=hm
 rw[←hm]at i2 i3 hW0 y0 y1 y2 y3 y4 y5 y6 ⊢
 clear hR h hq hnd hat hb0 hNA hPA hkk hm hn hks
 go_enter Tryz.func25,Tryz.ntmps25
 go_upto_region 2 with fail
 rw[show (w.alloc (.cells #[.slice (some ⟨pb,po,none⟩) m nc] 25)).alloc (.cells #[.int .i64 nd.op,.int .i64 nd.l,.int .i64 nd.r,.string nd.tn,.slice nd.xs.1 nd.xs.2.1 nd.xs.2.2,.slice nd.ky.1 nd.ky.2.1 nd.ky.2.2,.int .i64 nd.kk] 68)=W0 from hW0.symm]
 clear hW0 y0 y1 y2 y3 y4 y5 y6
 obtain⟨z0,z1,z2,z3,z4,z5,z6⟩:=H0.out.2.1
 rw[Nat.zero_add]at z1 z2 z3 z4 z5 z6
 rw[HH.out.2.1.op]at z0
 rw[HH.out.2.1.l]at z1
 rw[HH.out.2.1.r]at z2
 have zp:=H0.out.2.2
 rw[←HM.out]at zp
 generalize hop:n.op=op at z0
 have HOP:Hid (n.op=op):=hop
 clear hop
 by_cases hlo:op<0
 ·exfalso;have h1:=HOP.out;have h2:=HX.out.1;omega
 have h0:(0:Int)≤op:=by omega
 by_cases hhi:7<op
 ·exfalso;have h1:=HOP.out;have h2:=HX.out.1;omega
 have h7:op≤7:=by omega
 clear hlo hhi
 by_cases e0:op=0
 ·exfalso;have h1:=HOP.out;have h2:=HX.out.1;omega
 have hne:n.op≠0:=by rw[HOP.out];exact e0
 have hops:op=1∨op=2∨op=3∨op=4∨op=5∨op=6∨op=7:=by omega
 generalize hll:n.l=ll at z1
 have HLL:Hid (n.l=ll):=hll
 clear hll
 by_cases hl0:ll<0
 ·exfalso;exact HX.out.2 (freeQ_neg (by have:=HLL.out;have:=HK.out;omega))
 have l0:(0:Int)≤ll:=by omega
 by_cases hlk:(kk:Int)≤ll
 ·exfalso;exact HX.out.2 (freeQ_neg (by have:=HLL.out;have:=HK.out;omega))
 have lk:ll<(kk:Int):=by omega
 clear hl0 hlk
 obtain⟨i,rfl⟩:∃ i:Nat,ll=(i:Int):=⟨ll.toNat,by omega⟩
 have hnm:=rNamed_any (some ⟨pb,po,none⟩) nc nds ns (i:Int) scs.length W0 (HH.out.1.pln.below H0.out.1) (Nat.le_of_lt HH.out.1.lt) HH.out.1.n12
 have hfl:((ns.take scs.length).any fun n=>namI n (i:Int))=flQ ns scs.length i:=rfl
 rw[hfl,←HK.out,←HM.out]at hnm
 rcases hfi:flQ ns kk i with _|_
 rotate_left
 ·exfalso;refine HX.out.2 ?_;rw[HLL.out];exact freeQ_named (by rw[←HK.out];exact hfi)
 rw[hfi]at hnm
 obtain⟨s,hs⟩:∃ s,scs[i]?=some s:=⟨_,List.getElem?_eq_getElem (by have:=HK.out;omega)⟩
 have hfr:freeQ scs (flQ ns scs.length) n.l=some s:=by rw[HLL.out];exact freeQ_ok hs (by rw[←HK.out];exact hfi)
 have HFR:Hid (freeQ scs (flQ ns scs.length) n.l=some s∧SchOk s):=⟨hfr,HH.out.1.sch s (List.mem_of_getElem? hs)⟩
 have HKN:Hid (∀ X,Below w.heap.size w X→∃ b o sa so sc,ka=some ⟨b,o,none⟩∧X.cell? ⟨b,o+i,none⟩=some (.slice (some ⟨sa,so,none⟩) s.length sc)∧Ints X (some ⟨sa,so,none⟩) s∧TyI X (some ⟨sa,so,none⟩)):=fun X hX=>by
  obtain⟨b,o,sa,sc,e,c,hi,hty⟩:=(HH.out.1.kn.below hX) i s hs
  obtain⟨xb,xo,rfl,-,-⟩:=Ints.at (ns:=s) hi (i:=0) (by have:=HFR.out.2.1.1;omega)
  exact⟨b,o,xb,xo,sc,e,c,hi,hty⟩
 clear hfr hs hfi hfl e0 h0 h7
 have HNE:Hid (n.op≠0):=hne
 clear hne
 have hbox:∀ X,Below W0.heap.size W0 X→NodeAt X (w.heap.size+1) 0 nd:=fun X hX=>H0.out.2.1.below hX
 have HBX:Hid _:=hbox
 clear hbox
 obtain⟨kb,ko,sa,so,sc,rfl,cK,hI,hTK⟩:=HKN.out w (Below.refl _ _)
 have HC:Hid (∀ X,Below W0.heap.size W0 X→X.cell? ⟨kb,ko+i,none⟩=some (.slice (some ⟨sa,so,none⟩) s.length sc)∧Ints X (some ⟨sa,so,none⟩) s∧NdQ X nd n):=fun X hX=>⟨cell_below (below_then H0.out.1 hX) cK,hI.below (below_then H0.out.1 hX),HH.out.2.1.below (below_then H0.out.1 hX)⟩
 have HTK:Hid (TyI w (some ⟨sa,so,none⟩)):=hTK
 clear cK hI hTK HKN z0 z1 z2 z3 z4 z5 z6
 obtain⟨z0,z1,z2,z3,z4,z5,z6⟩:=H0.out.2.1
 rw[Nat.zero_add]at z1 z2 z3 z4 z5 z6
 rw[HH.out.2.1.op,HOP.out]at z0
 rw[HH.out.2.1.l,HLL.out]at z1
 rw[HH.out.2.1.r]at z2
 have HQ:Hid (NdQ w nd n):=HH.out.2.1
 have hCW:∀ X,Below W0.heap.size W0 X→X.cell? ⟨w.heap.size+1,0,none⟩=some (.int .i64 op)∧X.cell? ⟨w.heap.size+1,1,none⟩=some (.int .i64 (i:Int))∧X.cell? ⟨w.heap.size+1,2,none⟩=some (.int .i64 n.r)∧X.cell? ⟨w.heap.size+1,3,none⟩=some (.string nd.tn)∧X.cell? ⟨w.heap.size+1,4,none⟩=some (.slice nd.xs.1 nd.xs.2.1 nd.xs.2.2)∧X.cell? ⟨w.heap.size+1,5,none⟩=some (.slice nd.ky.1 nd.ky.2.1 nd.ky.2.2)∧X.cell? ⟨w.heap.size+1,6,none⟩=some (.int .i64 nd.kk)∧X.cell? ⟨w.heap.size,0,none⟩=some (.slice (some ⟨pb,po,none⟩) m nc):=fun X hX=>⟨cell_below hX z0,cell_below hX z1,cell_below hX z2,cell_below hX z3,cell_below hX z4,cell_below hX z5,cell_below hX z6,cell_below hX zp⟩
 have hval:nd.val=.agg #[.int .i64 op,.int .i64 (i:Int),.int .i64 n.r,.string nd.tn,.slice nd.xs.1 nd.xs.2.1 nd.xs.2.2,.slice nd.ky.1 nd.ky.2.1 nd.ky.2.2,.int .i64 nd.kk]:=by rw[Nd.val,HH.out.2.1.op,HOP.out,HH.out.2.1.l,HLL.out,HH.out.2.1.r]
 have HV:Hid _:=hval
 have HCW:Hid _:=hCW
 clear hval hCW
 have j1:(0:Int)≤(i:Int):=by omega
 by_cases h37:op=3∨op=7
 ·have hRt:nodeQ (tysR Rs) scs (flQ ns scs.length) n=R:=HR.out
  have h37n:n.op=3∨n.op=7:=by rw[HOP.out];exact h37
  have HNA:Hid (∀ (x:Nat) X,Below W0.heap.size W0 X→Calls Tryz.prog 26 #[.agg #[.slice (some ⟨pb,po,none⟩) m nc],.int .i64 (x:Int),.int .i64 (kk:Int)] X fun e w'=>e=.returned (.bool (flQ ns kk x))∧Below X.heap.size X w'):=fun x X hX=>by
   have:=rNamed_any (some ⟨pb,po,none⟩) nc nds ns (x:Int) scs.length X (HH.out.1.pln.below (below_then H0.out.1 hX)) (Nat.le_of_lt HH.out.1.lt) HH.out.1.n12
   rw[show ((ns.take scs.length).any fun n=>namI n (x:Int))=flQ ns scs.length x from rfl,←HK.out,←HM.out]at this
   exact this
  generalize hrr:n.r=rr at z2 HCW HV
  have HRR:Hid (n.r=rr):=hrr
  clear hrr hops HR
  by_cases r0:rr<0
  ·obtain rfl:R=none:=by rw[←hRt];exact nodeQ_right h37n (.inl (freeQ_neg (by have:=HRR.out;omega)))
   clear hRt h37n
   rcases h37 with rfl|rfl
   all_goals
    go_wp2_with (go_at_call 26;refine hnm.mono ?_;rintro e' W1 ⟨rfl,hb1⟩;obtain⟨v0,v1,v2,v3,v4,v5,v6,v7⟩:=HCW.out W1 hb1)
    exact bodyPost_ret (v:=.slice none 0 0) (by simp[results,Tryz.results25,go_sem]) rfl ⟨below_then H0.out.1 hb1,rfl⟩
  have r0':(0:Int)≤rr:=by omega
  by_cases rk:(kk:Int)≤rr
  ·obtain rfl:R=none:=by rw[←hRt];exact nodeQ_right h37n (.inl (freeQ_neg (by have:=HRR.out;have:=HK.out;omega)))
   clear hRt h37n r0
   rcases h37 with rfl|rfl
   all_goals
    go_wp2_with (go_at_call 26;refine hnm.mono ?_;rintro e' W1 ⟨rfl,hb1⟩;obtain⟨v0,v1,v2,v3,v4,v5,v6,v7⟩:=HCW.out W1 hb1)
    exact bodyPost_ret (v:=.slice none 0 0) (by simp[results,Tryz.results25,go_sem]) rfl ⟨below_then H0.out.1 hb1,rfl⟩
  have rk':rr<(kk:Int):=by omega
  clear r0 rk
  by_cases ril:rr=(i:Int)
  ·obtain rfl:R=none:=by rw[←hRt];exact nodeQ_right h37n (.inr (by rw[HLL.out,HRR.out,ril]))
   subst ril
   clear hRt h37n
   rcases h37 with rfl|rfl
   all_goals
    go_wp2_with (go_at_call 26;refine hnm.mono ?_;rintro e' W1 ⟨rfl,hb1⟩;obtain⟨v0,v1,v2,v3,v4,v5,v6,v7⟩:=HCW.out W1 hb1)
    exact bodyPost_ret (v:=.slice none 0 0) (by simp[results,Tryz.results25,go_sem]) rfl ⟨below_then H0.out.1 hb1,rfl⟩
  obtain⟨q,rfl⟩:∃ q:Nat,rr=(q:Int):=⟨rr.toNat,by omega⟩
  have hqi:((q:Int)==(i:Int))=false:=by simp;omega
  have hqi2:¬ q=i:=by omega
  have hnr:=fun X hX=>HNA.out q X hX
  rcases hfq:flQ ns kk q with _|_
  rotate_left
  ·rw[hfq]at hnr
   have HNR:Hid _:=hnr
   obtain rfl:R=none:=by rw[←hRt];refine nodeQ_right h37n (.inl ?_);rw[HRR.out];exact freeQ_named (by rw[←HK.out];exact hfq)
   clear hRt h37n hfq ril hnr
   rcases h37 with rfl|rfl
   all_goals
    go_wp2_with (first|(go_at_call 26;refine(HNR.out W1 hb1).mono ?_;rintro e' W2 ⟨rfl,hb2⟩)|(go_at_call 26;refine hnm.mono ?_;rintro e' W1 ⟨rfl,hb1⟩;obtain⟨v0,v1,v2,v3,v4,v5,v6,v7⟩:=HCW.out W1 hb1))
    exact bodyPost_ret (v:=.slice none 0 0) (by simp[results,Tryz.results25,go_sem]) rfl ⟨below_then (below_then H0.out.1 hb1) hb2,rfl⟩
  rw[hfq]at hnr
  have HNR:Hid _:=hnr
  obtain⟨t,ht⟩:∃ t,scs[q]?=some t:=⟨_,List.getElem?_eq_getElem (by have:=HK.out;omega)⟩
  have hfq2:freeQ scs (flQ ns scs.length) n.r=some t:=by rw[HRR.out];exact freeQ_ok ht (by rw[←HK.out];exact hfq)
  have hts:=HH.out.1.sch t (List.mem_of_getElem? ht)
  obtain⟨b',o',ra,rc,e',cQ,hIQ,-⟩:=HH.out.1.kn q t ht
  cases e'
  obtain⟨rb,ro,rfl,-,-⟩:=Ints.at (ns:=t) hIQ (i:=0) (by have:=hts.1.1;omega)
  have HCQ:Hid (∀ X,Below W0.heap.size W0 X→X.cell? ⟨kb,ko+q,none⟩=some (.slice (some ⟨rb,ro,none⟩) t.length rc)∧Ints X (some ⟨rb,ro,none⟩) t):=fun X hX=>⟨cell_below (below_then H0.out.1 hX) cQ,hIQ.below (below_then H0.out.1 hX)⟩
  have HTS:Hid (SchOk t):=hts
  have hR2:R=if op=3 then joinQ s t n else unQ s t n:=by
   rw[←hRt]
   have hne:¬ n.l=n.r:=by rw[HLL.out,HRR.out];omega
   unfold nodeQ
   simp only[HFR.out.1,hfq2,Option.bind_some,if_neg hne,HOP.out]
   rcases h37 with e|e<;>subst e<;>simp
  have HR2:Hid _:=hR2
  clear hRt h37n hfq ril hnr ht hfq2 hts cQ hIQ hR2
  rcases h37 with rfl|rfl
  ·have hRe:R=joinQ s t n:=HR2.out
   subst hRe
   have hp:=fun X (hX:Below W0.heap.size W0 X)=>(rJoined_any nd n (some ⟨sa,so,none⟩) (some ⟨rb,ro,none⟩) sc rc s t X (HC.out X hX).2.2 (HC.out X hX).2.1 (HCQ.out X hX).2 HFR.out.2 HTS.out (HTK.out.below (below_then H0.out.1 hX))).mono fun _ _ h=>RS.ret h
   rw[HV.out]at hp
   have HPR:Hid _:=hp
   clear hp HR2
   go_upto_region 16 with(first|(go_at_call 26;refine(HNR.out W1 hb1).mono ?_;rintro e' W2 ⟨rfl,hb2⟩;obtain⟨u0,u1,u2,u3,u4,u5,u6,u7⟩:=HCW.out W2 (below_then hb1 hb2);obtain⟨cK,-,-⟩:=HC.out W2 (below_then hb1 hb2);obtain⟨cQ,-⟩:=HCQ.out W2 (below_then hb1 hb2))|(go_at_call 26;refine hnm.mono ?_;rintro e' W1 ⟨rfl,hb1⟩;obtain⟨v0,v1,v2,v3,v4,v5,v6,v7⟩:=HCW.out W1 hb1))
   have hp:=HPR.out W2 (below_then hb1 hb2)
   have HB1:Hid (Below w.heap.size w W2):=below_then H0.out.1 (below_then hb1 hb2)
   clear hnm hb1 hb2 z0 z1 z2 z3 z4 z5 z6 zp v0 v1 v2 v3 v4 v5 v6 v7
   go_wp2_with (go_at_call 45;refine hp.mono ?_;rintro e' W3 ⟨v,rfl,hrs⟩)
   exact bodyPost_ret (v:=v) (by simp[results,Tryz.results25,go_sem]) rfl (RS.low HB1.out hrs)
  have hRe:R=if s=t then some s else none:=HR2.out
  go_upto_region 16 with(first|(go_at_call 26;refine(HNR.out W1 hb1).mono ?_;rintro e' W2 ⟨rfl,hb2⟩;obtain⟨u0,u1,u2,u3,u4,u5,u6,u7⟩:=HCW.out W2 (below_then hb1 hb2);obtain⟨cK,-,-⟩:=HC.out W2 (below_then hb1 hb2);obtain⟨cQ,-⟩:=HCQ.out W2 (below_then hb1 hb2))|(go_at_call 26;refine hnm.mono ?_;rintro e' W1 ⟨rfl,hb1⟩;obtain⟨v0,v1,v2,v3,v4,v5,v6,v7⟩:=HCW.out W1 hb1))
  have hp:=rSame_any (some ⟨sa,so,none⟩) (some ⟨rb,ro,none⟩) sc rc s t W2 (HC.out W2 (below_then hb1 hb2)).2.1 (HCQ.out W2 (below_then hb1 hb2)).2 (by have:=HFR.out.2.1.2;omega)
  have HB1:Hid (Below w.heap.size w W2∧Ints W2 (some ⟨sa,so,none⟩) s):=⟨below_then H0.out.1 (below_then hb1 hb2),(HC.out W2 (below_then hb1 hb2)).2.1⟩
  clear hnm hb1 hb2 z0 z1 z2 z3 z4 z5 z6 zp v0 v1 v2 v3 v4 v5 v6 v7 HR2
  by_cases hst:s=t
  ·rw[decide_eq_true hst]at hp
   obtain rfl:R=some s:=by rw[hRe,if_pos hst]
   clear hRe hst
   go_wp2_with (go_at_call 49;refine hp.mono ?_;rintro e' W3 ⟨rfl,hb3⟩)
   exact bodyPost_ret (v:=.slice (some ⟨sa,so,none⟩) s.length sc) (by simp[results,Tryz.results25,go_sem]) rfl ⟨below_then HB1.out.1 hb3,sa,so,sc,rfl,HB1.out.2.below hb3,HTK.out.below (below_then HB1.out.1 hb3)⟩
  rw[decide_eq_false hst]at hp
  obtain rfl:R=none:=by rw[hRe,if_neg hst]
  clear hRe hst
  go_wp2_with (go_at_call 49;refine hp.mono ?_;rintro e' W3 ⟨rfl,hb3⟩)
  exact bodyPost_ret (v:=.slice none 0 0) (by simp[results,Tryz.results25,go_sem]) rfl ⟨below_then HB1.out.1 hb3,rfl⟩
 exfalso;have h1:=HOP.out;have h2:=HX.out.1;omega
end Go.Proofs.YtkgibdjakgmmcaaGreatDoor
