/- The document's schema of a node: what takes no node's rows, or none that may be taken. -/
import Derived.Test.YtkgibdjakgmmcaaGreatDoorVr
set_option maxHeartbeats 40000000
set_option maxRecDepth 100000
namespace Go.Proofs.YtkgibdjakgmmcaaGreatDoor
open Go.RowKit Go.Shelf
attribute [local go_sem] Oper.semAt_some
theorem rSchema_a (st:Nat)(Rs:List (ByteArray×List Int))(a ka:Option Addr)(nc kc:Nat)(nds:List Nd)(ns:List QN)(scs:List (List Int))(n:QN)(w:World)(h:ScIn w st Rs a ka nds ns scs)(hn:ns[scs.length]?=some n)(hks:n.ks.length≤4400000000000)(hX:(freeQ scs (flQ ns scs.length) n.l=none∨n.op≤0)∨7<n.op) :
  Calls Tryz.prog 25 #[.pointer (some ⟨st,0,none⟩),.agg #[.slice a ns.length nc],.int .i64 (scs.length:Int),.slice ka scs.length kc] w (RS w (nodeQ (tysR Rs) scs (flQ ns scs.length) n)):=by
 have HX:Hid _:=hX
 clear hX
 obtain⟨nd,hnd⟩:∃ nd,nds[scs.length]?=some nd:=⟨_,List.getElem?_eq_getElem (by rw[h.pln.len];exact h.lt)⟩
 obtain⟨pb,po,rfl,hat⟩:=h.pln.at_ _ nd hnd
 have hq:=h.pln.is _ nd n hnd hn
 have hb0:Below w.heap.size w (ndBox (plBox w (some ⟨pb,po,none⟩) ns.length nc) nd):=below_alloc (below_alloc (Below.refl _ _) _) _
 have hNA:NodeAt (ndBox (plBox w (some ⟨pb,po,none⟩) ns.length nc) nd) (w.heap.size+1) 0 nd:=by
  have:=ndBox_at (plBox w (some ⟨pb,po,none⟩) ns.length nc) nd
  rwa [World.size_alloc]at this
 have hPA:(ndBox (plBox w (some ⟨pb,po,none⟩) ns.length nc) nd).cell? ⟨w.heap.size,0,none⟩=some (.slice (some ⟨pb,po,none⟩) ns.length nc):=by
  rw[World.cell?_alloc_lt _ _ _ (by simp)];simp
 obtain⟨y0,y1,y2,y3,y4,y5,y6⟩:=hat.below (below_alloc (Below.refl w.heap.size w) (.cells #[.slice (some ⟨pb,po,none⟩) ns.length nc] 25))
 obtain⟨R,hR⟩:∃ R,nodeQ (tysR Rs) scs (flQ ns scs.length) n=R:=⟨_,rfl⟩
 rw[hR]
 have HR:Hid (nodeQ (tysR Rs) scs (flQ ns scs.length) n=R):=hR
 have HH:Hid (ScIn w st Rs (some ⟨pb,po,none⟩) ka nds ns scs∧NdQ w nd n∧n.ks.length≤4400000000000):=⟨h,hq,hks⟩
 have i1:(0:Int)≤(scs.length:Int):=by omega
 have i2:(scs.length:Int)<(ns.length:Int):=by have:=h.lt;omega
 have i3:(ns.length:Int)≤12:=by have:=h.n12;omega
 obtain⟨W0,hW0⟩:∃ W0,W0=ndBox (plBox w (some ⟨pb,po,none⟩) ns.length nc) nd:=⟨_,rfl⟩
 rw[←hW0]at hb0 hNA hPA
 have H0:Hid (Below w.heap.size w W0∧NodeAt W0 (w.heap.size+1) 0 nd∧W0.cell? ⟨w.heap.size,0,none⟩=some (.slice (some ⟨pb,po,none⟩) ns.length nc)):=⟨hb0,hNA,hPA⟩
 obtain⟨kk,hkk⟩:∃ kk,kk=scs.length:=⟨_,rfl⟩
 have HK:Hid (kk=scs.length):=hkk
 rw[←hkk]at y0 y1 y2 y3 y4 y5 y6 i1 i2 ⊢
 obtain⟨m,hm⟩:∃ m,m=ns.length:=⟨_,rfl⟩
 have HM:Hid (m=ns.length):=hm
 rw[←hm]at i2 i3 hW0 y0 y1 y2 y3 y4 y5 y6 ⊢
 clear hR h hq hnd hat hb0 hNA hPA hkk hm hn hks
 go_enter Tryz.func25,Tryz.ntmps25
 go_upto_region 2 with fail
 rw[show (w.alloc (.cells #[.slice (some ⟨pb,po,none⟩) m nc] 25)).alloc (.cells #[.int .i64 nd.op,.int .i64 nd.l,.int .i64 nd.r,.string nd.tn,.slice nd.xs.1 nd.xs.2.1 nd.xs.2.2,.slice nd.ky.1 nd.ky.2.1 nd.ky.2.2,.int .i64 nd.kk] 68)=W0 from hW0.symm]
 clear hW0 y0 y1 y2 y3 y4 y5 y6
 obtain⟨z0,z1,z2,z3,z4,z5,z6⟩:=H0.out.2.1
 rw[Nat.zero_add]at z1 z2 z3 z4 z5 z6
 rw[HH.out.2.1.op]at z0
 rw[HH.out.2.1.l]at z1
 rw[HH.out.2.1.r]at z2
 have zp:=H0.out.2.2
 rw[←HM.out]at zp
 generalize hop:n.op=op at z0
 have HOP:Hid (n.op=op):=hop
 clear hop
 by_cases hlo:op<0
 ·obtain rfl:R=none:=by
   rw[←HR.out]
   unfold nodeQ
   have:=HOP.out
   rw[if_neg (by omega),if_neg (by omega),if_neg (by omega),if_neg (by omega),if_neg (by omega),if_neg (by omega),if_neg (by omega),if_neg (by omega)]
  go_wp2
  exact bodyPost_ret (v:=.slice none 0 0) (by simp[results,Tryz.results25,go_sem]) rfl ⟨H0.out.1,rfl⟩
 have h0:(0:Int)≤op:=by omega
 by_cases hhi:7<op
 ·obtain rfl:R=none:=by
   rw[←HR.out]
   unfold nodeQ
   have:=HOP.out
   rw[if_neg (by omega),if_neg (by omega),if_neg (by omega),if_neg (by omega),if_neg (by omega),if_neg (by omega),if_neg (by omega),if_neg (by omega)]
  clear hlo
  go_wp2
  exact bodyPost_ret (v:=.slice none 0 0) (by simp[results,Tryz.results25,go_sem]) rfl ⟨H0.out.1,rfl⟩
 have h7:op≤7:=by omega
 clear hlo hhi
 by_cases e0:op=0
 ·subst e0
  have hRe:tysR Rs n.tn=R:=by rw[←HR.out];unfold nodeQ;rw[if_pos HOP.out]
  rw[HH.out.2.1.tn]at z3
  have hfi:=rFind_any st Rs n.tn W0 (HH.out.1.rt.below H0.out.1) HH.out.1.few
  clear HR
  by_cases hf:findR Rs n.tn<Rs.length
  ·have hv:findRV Rs n.tn=(findR Rs n.tn:Int):=if_pos hf
   rw[hv]at hfi
   obtain⟨ta0,tc0,q0,q1⟩:=HH.out.1.rt.below H0.out.1
   obtain⟨T,hT⟩:∃ T,Rs[findR Rs n.tn]?=some T:=⟨_,List.getElem?_eq_getElem hf⟩
   obtain⟨tb,to_,ta,tc,rfl,r0,r1,r2,r3⟩:=q1 _ T hT
   have hTs:=HH.out.1.tys T (List.mem_of_getElem? hT)
   obtain⟨xb,xo,rfl,-,-⟩:=Ints.at (ns:=T.2) r2 (i:=0) (by have:=hTs.1.1;omega)
   obtain rfl:R=some T.2:=by rw[←hRe];unfold tysR;rw[hT];rfl
   have HI:Hid (Ints W0 (some ⟨xb,xo,none⟩) T.2∧TyI W0 (some ⟨xb,xo,none⟩)):=⟨r2,r3⟩
   have j1:(0:Int)≤((findR Rs n.tn:Nat):Int):=by omega
   have j2:((findR Rs n.tn:Nat):Int)<(Rs.length:Int):=by omega
   generalize findR Rs n.tn=fi at hfi j1 j2 r0 r1
   clear hRe hv hT hTs r2 r3 q1 hf
   go_wp2_with (go_at_call 42;refine hfi.mono ?_;rintro e' W1 ⟨rfl,hw1⟩;rw[hw1];clear hw1)
   exact bodyPost_ret (v:=.slice (some ⟨xb,xo,none⟩) T.2.length tc) (by simp[results,Tryz.results25,go_sem]) rfl ⟨H0.out.1,xb,xo,tc,rfl,HI.out.1,HI.out.2⟩
  have hv:findRV Rs n.tn=-1:=if_neg hf
  rw[hv]at hfi
  obtain rfl:R=none:=by rw[←hRe];unfold tysR;rw[List.getElem?_eq_none_iff.2 (by omega)];rfl
  clear hRe hv hf
  go_wp2_with (go_at_call 42;refine hfi.mono ?_;rintro e' W1 ⟨rfl,hw1⟩;rw[hw1];clear hw1)
  exact bodyPost_ret (v:=.slice none 0 0) (by simp[results,Tryz.results25,go_sem]) rfl ⟨H0.out.1,rfl⟩
 have hne:n.op≠0:=by rw[HOP.out];exact e0
 have hops:op=1∨op=2∨op=3∨op=4∨op=5∨op=6∨op=7:=by omega
 generalize hll:n.l=ll at z1
 have HLL:Hid (n.l=ll):=hll
 clear hll
 by_cases hl0:ll<0
 ·obtain rfl:R=none:=by rw[←HR.out];exact nodeQ_left hne (freeQ_neg (by have:=HLL.out;omega))
  clear HR hne e0 h0 h7
  rcases hops with rfl|rfl|rfl|rfl|rfl|rfl|rfl
  all_goals
   go_wp2
   exact bodyPost_ret (v:=.slice none 0 0) (by simp[results,Tryz.results25,go_sem]) rfl ⟨H0.out.1,rfl⟩
 have l0:(0:Int)≤ll:=by omega
 by_cases hlk:(kk:Int)≤ll
 ·obtain rfl:R=none:=by rw[←HR.out];exact nodeQ_left hne (freeQ_neg (by have:=HLL.out;have:=HK.out;omega))
  clear HR hne e0 h0 h7 hl0
  rcases hops with rfl|rfl|rfl|rfl|rfl|rfl|rfl
  all_goals
   go_wp2
   exact bodyPost_ret (v:=.slice none 0 0) (by simp[results,Tryz.results25,go_sem]) rfl ⟨H0.out.1,rfl⟩
 have lk:ll<(kk:Int):=by omega
 clear hl0 hlk
 obtain⟨i,rfl⟩:∃ i:Nat,ll=(i:Int):=⟨ll.toNat,by omega⟩
 have hnm:=rNamed_any (some ⟨pb,po,none⟩) nc nds ns (i:Int) scs.length W0 (HH.out.1.pln.below H0.out.1) (Nat.le_of_lt HH.out.1.lt) HH.out.1.n12
 have hfl:((ns.take scs.length).any fun n=>namI n (i:Int))=flQ ns scs.length i:=rfl
 rw[hfl,←HK.out,←HM.out]at hnm
 rcases hfi:flQ ns kk i with _|_
 rotate_left
 ·rw[hfi]at hnm
  obtain rfl:R=none:=by rw[←HR.out];refine nodeQ_left hne ?_;rw[HLL.out];exact freeQ_named (by rw[←HK.out];exact hfi)
  clear HR hne e0 h0 h7 hfi hfl
  rcases hops with rfl|rfl|rfl|rfl|rfl|rfl|rfl
  all_goals
   go_wp2_with (go_at_call 26;refine hnm.mono ?_;rintro e' W1 ⟨rfl,hb1⟩)
   exact bodyPost_ret (v:=.slice none 0 0) (by simp[results,Tryz.results25,go_sem]) rfl ⟨below_then H0.out.1 hb1,rfl⟩
 rw[hfi]at hnm
 obtain⟨s,hs⟩:∃ s,scs[i]?=some s:=⟨_,List.getElem?_eq_getElem (by have:=HK.out;omega)⟩
 have hfr:freeQ scs (flQ ns scs.length) n.l=some s:=by rw[HLL.out];exact freeQ_ok hs (by rw[←HK.out];exact hfi)
 have HFR:Hid (freeQ scs (flQ ns scs.length) n.l=some s∧SchOk s):=⟨hfr,HH.out.1.sch s (List.mem_of_getElem? hs)⟩
 exfalso
 rcases HX.out with(h|h)|h
 ·rw[HFR.out.1]at h;cases h
 ·have:=HOP.out;omega
 have:=HOP.out;omega
end Go.Proofs.YtkgibdjakgmmcaaGreatDoor
