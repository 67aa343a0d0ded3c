/- The document's types of an expression's parts. -/
import Derived.Test.YtkgibdjakgmmcaaGreatDoorVb
import Derived.Test.YtkgibdjakgmmcaaGreatDoorYh
set_option maxHeartbeats 4000000
set_option maxRecDepth 100000
namespace Go.Proofs.YtkgibdjakgmmcaaGreatDoor
open Go.RowKit Go.Shelf
attribute [local go_sem] Oper.semAt_some
theorem rTaken_any (a:Option Addr)(cap:Nat)(ts:List Int)(i:Int)(w:World)(h:Ints w a ts) :
  Calls Tryz.prog 88 #[.slice a ts.length cap,.int .i64 i] w fun e w'=>e=.returned (.int .i64 ((tyI ts i).getD 0))∧w'=w:=by
 by_cases hi:0≤i∧i<ts.length
 ·obtain⟨k,rfl⟩:∃ k:Nat,i=(k:Int):=⟨i.toNat,by omega⟩
  have hk:k<ts.length:=by omega
  obtain⟨b,o,rfl,hb,hc⟩:=h.at hk
  have ht:(tyI ts (k:Int)).getD 0=ts[k]:=by
   unfold tyI
   rw[if_pos hi,Int.toNat_natCast,List.getD_eq_getElem?_getD,List.getElem?_eq_getElem hk]
   rfl
  rw[ht]
  generalize ts[k]=t at hc ⊢
  have i1:(0:Int)≤(k:Int):=by omega
  have i2:(k:Int)<(ts.length:Int):=by omega
  clear ht h hi
  go_enter Tryz.func88,Tryz.ntmps88
  go_wp2
  exact bodyPost_ret (v:=.int .i64 t) (by simp[results,Tryz.results88,go_sem]) rfl ⟨rfl,rfl⟩
 have ht:(tyI ts i).getD 0=0:=by unfold tyI;rw[if_neg hi];rfl
 rw[ht]
 clear h ht
 by_cases h0:i<0
 ·clear hi
  go_enter Tryz.func88,Tryz.ntmps88
  go_wp2
  exact bodyPost_ret (v:=.int .i64 0) (by simp[results,Tryz.results88,go_sem]) rfl ⟨rfl,rfl⟩
 have h1:(0:Int)≤i:=by omega
 have h2:(ts.length:Int)≤i:=by omega
 clear hi h0
 go_enter Tryz.func88,Tryz.ntmps88
 go_wp2
 exact bodyPost_ret (v:=.int .i64 0) (by simp[results,Tryz.results88,go_sem]) rfl ⟨rfl,rfl⟩
theorem rType_col (b o n pc i:Nat)(p:Pt)(w:World)(hi:i<n)(hp:PartAt w b (o+i*7) p)(h0:p.op=0)(ca:Option Addr)(cc:Nat)(sch:List Int)(hS:Ints w ca sch) :
  Calls Tryz.prog 89 #[.slice (some ⟨b,o,none⟩) n pc,.int .i64 (i:Int),.slice ca sch.length cc] w fun e w'=>e=.returned (.int .i64 ((tyI sch p.c).getD 0))∧Below w.heap.size w w':=by
 obtain⟨y0,y1,y2,y3,y4,y5,y6⟩:=hp
 have hbb:Below w.heap.size w (ptBox w p):=below_alloc (Below.refl _ _) _
 have k1:(0:Int)≤(i:Int):=by omega
 have k2:(i:Int)<(n:Int):=by omega
 rw[h0]at y0
 by_cases hc:0≤p.c∧p.c<sch.length
 ·obtain⟨k,hk⟩:∃ k:Nat,p.c=(k:Int):=⟨p.c.toNat,by omega⟩
  have hkl:k<sch.length:=by omega
  obtain⟨sb,so,rfl,hb,hcell⟩:=Ints.at (ns:=sch) (hS.below hbb) hkl
  have ht:(tyI sch p.c).getD 0=sch[k]:=by
   unfold tyI
   rw[if_pos hc,hk,Int.toNat_natCast,List.getD_eq_getElem?_getD,List.getElem?_eq_getElem hkl]
   rfl
  rw[ht]
  generalize sch[k]=t at hcell ⊢
  have HB:Hid (Below w.heap.size w (ptBox w p)):=hbb
  obtain⟨op,l,r,c,v⟩:=p
  simp only at h0 hk y0 y1 y2 y3 y4 y5 y6 hcell
  subst h0 hk
  have j1:(0:Int)≤(k:Int):=by omega
  have j2:(k:Int)<(sch.length:Int):=by omega
  clear ht hc hS hbb
  go_enter Tryz.func89,Tryz.ntmps89
  go_wp2
  exact bodyPost_ret (v:=.int .i64 t) (by simp[results,Tryz.results89,go_sem]) rfl ⟨rfl,HB.out⟩
 have ht:(tyI sch p.c).getD 0=0:=by unfold tyI;rw[if_neg hc];rfl
 rw[ht]
 have HB:Hid (Below w.heap.size w (ptBox w p)):=hbb
 obtain⟨op,l,r,c,v⟩:=p
 simp only at h0 hc y0 y1 y2 y3 y4 y5 y6
 subst h0
 clear ht hS hbb
 by_cases hn:c<0
 ·clear hc
  go_enter Tryz.func89,Tryz.ntmps89
  go_wp2
  exact bodyPost_ret (v:=.int .i64 0) (by simp[results,Tryz.results89,go_sem]) rfl ⟨rfl,HB.out⟩
 have j1:(0:Int)≤c:=by omega
 have j2:(sch.length:Int)≤c:=by omega
 clear hc hn
 go_enter Tryz.func89,Tryz.ntmps89
 go_wp2
 exact bodyPost_ret (v:=.int .i64 0) (by simp[results,Tryz.results89,go_sem]) rfl ⟨rfl,HB.out⟩
theorem rType_con (b o n pc i:Nat)(p:Pt)(w:World)(hi:i<n)(hp:PartAt w b (o+i*7) p)(h1:p.op=1)(cv:Value) :
  Calls Tryz.prog 89 #[.slice (some ⟨b,o,none⟩) n pc,.int .i64 (i:Int),cv] w fun e w'=>e=.returned (.int .i64 ((conI p).getD 0))∧Below w.heap.size w w':=by
 obtain⟨y0,y1,y2,y3,y4,y5,y6⟩:=hp
 have hbb:Below w.heap.size w (ptBox w p):=below_alloc (Below.refl _ _) _
 have k1:(0:Int)≤(i:Int):=by omega
 have k2:(i:Int)<(n:Int):=by omega
 have his:=rIs_any p.v.k p.v.n p.v.s p.c (ptBox w p)
 have HB:Hid (Below w.heap.size w (ptBox w p)):=hbb
 obtain⟨R,hR⟩:∃ R,(conI p).getD 0=R:=⟨_,rfl⟩
 rw[hR]
 have HR:Hid ((if 1≤p.c∧p.c≤3∧okB p.c p.v.k p.v.n p.v.s=true then some p.c else none).getD 0=R):=hR
 obtain⟨op,l,r,c,v⟩:=p
 simp only at h1 y0 y1 y2 y3 y4 y5 y6 his HR
 subst h1
 clear hbb hR
 by_cases c1:1≤c
 ·by_cases c3:c≤3
  ·rcases hok:okB c v.k v.n v.s with _|_
   ·rw[hok]at his HR
    obtain rfl:R=0:=by rw[←HR.out];simp
    have hz:(ptBox w ⟨1,l,r,c,v⟩).cell? ⟨w.heap.size,0,none⟩=some (.int .i64 1):=by simp
    clear HR hok
    go_enter Tryz.func89,Tryz.ntmps89
    go_wp2_with (go_at_call 74;refine his.mono ?_;rintro e' W1 ⟨rfl,hb1⟩;have z0:=cell_below hb1 hz)
    exact bodyPost_ret (v:=.int .i64 0) (by simp[results,Tryz.results89,go_sem]) rfl ⟨rfl,below_then HB.out hb1⟩
   rw[hok]at his HR
   obtain rfl:R=c:=by rw[←HR.out,if_pos (show 1≤c∧c≤3∧true=true from ⟨c1,c3,rfl⟩)];rfl
   clear HR hok
   go_enter Tryz.func89,Tryz.ntmps89
   go_wp2_with (go_at_call 74;refine his.mono ?_;rintro e' W1 ⟨rfl,hb1⟩;have y3':=cell_below hb1 (box_cells w ⟨1,l,r,R,v⟩).2.2)
   exact bodyPost_ret (v:=.int .i64 R) (by simp[results,Tryz.results89,go_sem]) rfl ⟨rfl,below_then HB.out hb1⟩
  obtain rfl:R=0:=by rw[←HR.out,if_neg fun h=>c3 h.2.1];rfl
  have c3':3<c:=by omega
  clear HR his c3
  go_enter Tryz.func89,Tryz.ntmps89
  go_wp2
  exact bodyPost_ret (v:=.int .i64 0) (by simp[results,Tryz.results89,go_sem]) rfl ⟨rfl,HB.out⟩
 obtain rfl:R=0:=by rw[←HR.out,if_neg fun h=>c1 h.1];rfl
 have c1':c<1:=by omega
 clear HR his c1
 go_enter Tryz.func89,Tryz.ntmps89
 go_wp2
 exact bodyPost_ret (v:=.int .i64 0) (by simp[results,Tryz.results89,go_sem]) rfl ⟨rfl,HB.out⟩
theorem rType_low (b o n pc i:Nat)(p:Pt)(w:World)(hi:i<n)(hp:PartAt w b (o+i*7) p)(h1:p.op<0)(cv:Value) :
  Calls Tryz.prog 89 #[.slice (some ⟨b,o,none⟩) n pc,.int .i64 (i:Int),cv] w fun e w'=>e=.returned (.int .i64 0)∧Below w.heap.size w w':=by
 obtain⟨y0,y1,y2,y3,y4,y5,y6⟩:=hp
 have hbb:Below w.heap.size w (ptBox w p):=below_alloc (Below.refl _ _) _
 have k1:(0:Int)≤(i:Int):=by omega
 have k2:(i:Int)<(n:Int):=by omega
 have HB:Hid (Below w.heap.size w (ptBox w p)):=hbb
 obtain⟨op,l,r,c,v⟩:=p
 simp only at h1 y0 y1 y2 y3 y4 y5 y6
 have e0:op≠0:=by omega
 have e1:op≠1:=by omega
 have e2:op<2:=by omega
 have e6:op≠6:=by omega
 have e7:op≠7:=by omega
 have e8:op≠8:=by omega
 have e9:op≠9:=by omega
 have e10:op≠10:=by omega
 have e11:op≠11:=by omega
 clear hbb
 go_enter Tryz.func89,Tryz.ntmps89
 go_wp2
 exact bodyPost_ret (v:=.int .i64 0) (by simp[results,Tryz.results89,go_sem]) rfl ⟨rfl,HB.out⟩
def rTy (op l r:Int):Int:=if op≤5 then (if l=1∧r=1 then 1 else 0)else if op≤7 then (if 0<l∧l=r then 2 else 0)else if op≤9 then (if l=2∧r=2 then 2 else 0)else if op=10 then (if l=2 then 2 else 0)else if op=11 then (if 0<l then 2 else 0)else 0
theorem rType_two (b o n pc:Nat)(p:Pt)(cv:Value)(l r:Int)(w:World)(hi:2<n)(hp:PartAt w b (o+2*7) p)(h2:2≤p.op)(hpl:p.l=0)(hpr:p.r=1)
  (hl:∀ X,Below w.heap.size w X→Calls Tryz.prog 89 #[.slice (some ⟨b,o,none⟩) n pc,.int .i64 0,cv] X fun e w'=>e=.returned (.int .i64 l)∧Below X.heap.size X w')
  (hr:∀ X,Below w.heap.size w X→Calls Tryz.prog 89 #[.slice (some ⟨b,o,none⟩) n pc,.int .i64 1,cv] X fun e w'=>e=.returned (.int .i64 r)∧Below X.heap.size X w') :
  Calls Tryz.prog 89 #[.slice (some ⟨b,o,none⟩) n pc,.int .i64 2,cv] w fun e w'=>e=.returned (.int .i64 (rTy p.op l r))∧Below w.heap.size w w':=by
 obtain⟨y0,y1,y2,y3,y4,y5,y6⟩:=hp
 have hbb:Below w.heap.size w (ptBox w p):=below_alloc (Below.refl _ _) _
 have hq:=heap_alloc_new w (.cells #[.int .i64 p.op,.int .i64 p.l,.int .i64 p.r,.int .i64 p.c,.int .i64 p.v.k,.int .i64 p.v.n,.string p.v.s] 63)
 have k2:(2:Int)<(n:Int):=by omega
 have HL:Hid _:=hl
 have HR':Hid _:=hr
 have HBB:Hid (Below w.heap.size w (ptBox w p)):=hbb
 have HQ:Hid ((ptBox w p).heap[w.heap.size]?=some (.cells #[.int .i64 p.op,.int .i64 p.l,.int .i64 p.r,.int .i64 p.c,.int .i64 p.v.k,.int .i64 p.v.n,.string p.v.s] 63 (0,0))):=hq
 obtain⟨R,hR⟩:∃ R,R=rTy p.op l r:=⟨_,rfl⟩
 rw[←hR]
 have HR:Hid (R=rTy p.op l r):=hR
 obtain⟨op,pl',pr',c,v⟩:=p
 simp only at hpl hpr h2 y0 y1 y2 y3 y4 y5 y6 HQ HR
 subst hpl hpr
 clear hl hr hbb hq hR
 go_enter Tryz.func89,Tryz.ntmps89
 go_upto_region 6 with(go_at_call 89;refine(HL.out _ HBB.out).mono ?_;rintro e' W1 ⟨rfl,hb1⟩;have hq1:=(hb1.block _ (lt_of_heap HQ.out)).trans HQ.out)
 have z0:W1.cell? ⟨w.heap.size,0,none⟩=some (.int .i64 op):=by simp[World.cell?,hq1]
 have z2:W1.cell? ⟨w.heap.size,2,none⟩=some (.int .i64 1):=by simp[World.cell?,hq1]
 have HB1:Hid (Below w.heap.size w W1):=below_then HBB.out hb1
 have HQ1:Hid _:=hq1
 clear hq1 y0 y1 y2 y3 y4 y5 y6 hb1
 go_upto_region 8 with(go_at_call 89;refine(HR'.out _ HB1.out).mono ?_;rintro e' W2 ⟨rfl,hb2⟩;have hq2:=(hb2.block _ (lt_of_heap HQ1.out)).trans HQ1.out)
 have w0:W2.cell? ⟨w.heap.size,0,none⟩=some (.int .i64 op):=by simp[World.cell?,hq2]
 have HB:Hid (Below w.heap.size w W2):=below_then HB1.out hb2
 clear hq2 z0 z2 hb2 HL HR' HQ HQ1 HB1 HBB
 by_cases e5:op≤5
 ·obtain rfl|rfl|rfl|rfl:op=2∨op=3∨op=4∨op=5:=by omega
  all_goals
   clear h2 e5
   by_cases hl':l=1
   ·subst hl'
    by_cases hr':r=1
    ·subst hr'
     obtain rfl:R=1:=by rw[HR.out];simp[rTy]
     clear HR
     go_wp2
     exact bodyPost_ret (v:=.int .i64 1) (by simp[results,Tryz.results89,go_sem]) rfl ⟨rfl,HB.out⟩
    obtain rfl:R=0:=by rw[HR.out];simp[rTy,hr']
    clear HR
    go_wp2
    exact bodyPost_ret (v:=.int .i64 0) (by simp[results,Tryz.results89,go_sem]) rfl ⟨rfl,HB.out⟩
   obtain rfl:R=0:=by rw[HR.out];simp[rTy,hl']
   clear HR
   go_wp2
   exact bodyPost_ret (v:=.int .i64 0) (by simp[results,Tryz.results89,go_sem]) rfl ⟨rfl,HB.out⟩
 by_cases e7:op≤7
 ·obtain rfl|rfl:op=6∨op=7:=by omega
  all_goals
   clear h2 e5 e7
   by_cases hl':0<l
   ·by_cases hr':l=r
    ·subst hr'
     obtain rfl:R=2:=by rw[HR.out];simp[rTy,hl']
     clear HR
     go_wp2
     exact bodyPost_ret (v:=.int .i64 2) (by simp[results,Tryz.results89,go_sem]) rfl ⟨rfl,HB.out⟩
    obtain rfl:R=0:=by rw[HR.out];simp[rTy,hr']
    clear HR
    go_wp2
    exact bodyPost_ret (v:=.int .i64 0) (by simp[results,Tryz.results89,go_sem]) rfl ⟨rfl,HB.out⟩
   obtain rfl:R=0:=by rw[HR.out];simp[rTy,hl']
   clear HR
   go_wp2
   exact bodyPost_ret (v:=.int .i64 0) (by simp[results,Tryz.results89,go_sem]) rfl ⟨rfl,HB.out⟩
 by_cases e9:op≤9
 ·obtain rfl|rfl:op=8∨op=9:=by omega
  all_goals
   clear h2 e5 e7 e9
   by_cases hl':l=2
   ·subst hl'
    by_cases hr':r=2
    ·subst hr'
     obtain rfl:R=2:=by rw[HR.out];simp[rTy]
     clear HR
     go_wp2
     exact bodyPost_ret (v:=.int .i64 2) (by simp[results,Tryz.results89,go_sem]) rfl ⟨rfl,HB.out⟩
    obtain rfl:R=0:=by rw[HR.out];simp[rTy,hr']
    clear HR
    go_wp2
    exact bodyPost_ret (v:=.int .i64 0) (by simp[results,Tryz.results89,go_sem]) rfl ⟨rfl,HB.out⟩
   obtain rfl:R=0:=by rw[HR.out];simp[rTy,hl']
   clear HR
   go_wp2
   exact bodyPost_ret (v:=.int .i64 0) (by simp[results,Tryz.results89,go_sem]) rfl ⟨rfl,HB.out⟩
 by_cases e10:op=10
 ·subst e10
  clear h2 e5 e7 e9
  by_cases hl':l=2
  ·subst hl'
   obtain rfl:R=2:=by rw[HR.out];simp[rTy]
   clear HR
   go_wp2
   exact bodyPost_ret (v:=.int .i64 2) (by simp[results,Tryz.results89,go_sem]) rfl ⟨rfl,HB.out⟩
  obtain rfl:R=0:=by rw[HR.out];simp[rTy,hl']
  clear HR
  go_wp2
  exact bodyPost_ret (v:=.int .i64 0) (by simp[results,Tryz.results89,go_sem]) rfl ⟨rfl,HB.out⟩
 by_cases e11:op=11
 ·subst e11
  clear h2 e5 e7 e9 e10
  by_cases hl':0<l
  ·obtain rfl:R=2:=by rw[HR.out];simp[rTy,hl']
   clear HR
   go_wp2
   exact bodyPost_ret (v:=.int .i64 2) (by simp[results,Tryz.results89,go_sem]) rfl ⟨rfl,HB.out⟩
  obtain rfl:R=0:=by rw[HR.out];simp[rTy,hl']
  clear HR
  go_wp2
  exact bodyPost_ret (v:=.int .i64 0) (by simp[results,Tryz.results89,go_sem]) rfl ⟨rfl,HB.out⟩
 obtain rfl:R=0:=by rw[HR.out];unfold rTy;rw[if_neg e5,if_neg e7,if_neg e9,if_neg e10,if_neg e11]
 have f0:op≠0:=by omega
 have f1:op≠1:=by omega
 have f5:5<op:=by omega
 have f6:op≠6:=by omega
 have f7:op≠7:=by omega
 have f8:op≠8:=by omega
 have f9:op≠9:=by omega
 clear HR e5 e7 e9
 go_wp2
 exact bodyPost_ret (v:=.int .i64 0) (by simp[results,Tryz.results89,go_sem]) rfl ⟨rfl,HB.out⟩
end Go.Proofs.YtkgibdjakgmmcaaGreatDoor
