/- A plan as the law hands it over: new memory, with marks in its spare room. -/
import Derived.Test.YtkgibdjakgmmcaaGreatDoorWp
set_option maxHeartbeats 8000000
set_option maxRecDepth 100000
namespace Go.Proofs.YtkgibdjakgmmcaaGreatDoor
open Go.RowKit Go.Shelf
attribute [local go_sem] Oper.semAt_some
theorem info_Key:(Tryz.prog.info? 79).map (fun i=>(i.zero,i.size,i.bytes))=some (some (.agg #[.int .i64 0,.int .i64 0,.bool false,.int .i64 0]),4,32):=by kernel_rfl
theorem info_Parts:(Tryz.prog.info? 64).map (fun i=>(i.zero,i.size,i.bytes))=some (some (.slice none 0 0),1,24):=by kernel_rfl
theorem info_Part:(Tryz.prog.info? 63).map (fun i=>(i.zero,i.size,i.bytes))=some (some (.agg #[.int .i64 0,.int .i64 0,.int .i64 0,.int .i64 0,.int .i64 0,.int .i64 0,.string ⟨#[]⟩]),7,64):=by kernel_rfl
theorem info_Node:(Tryz.prog.info? 68).map (fun i=>(i.zero,i.size,i.bytes))=some (some (.agg #[.int .i64 0,.int .i64 0,.int .i64 0,.string ⟨#[]⟩,.slice none 0 0,.slice none 0 0,.int .i64 0]),7,96):=by kernel_rfl
theorem kz_one {u:Value}{ks:List Kz}(h:u∈ks.flatMap kzC):u.oneCell'=true:=by
 obtain⟨k,_,hu⟩:=List.mem_flatMap.1 h
 simp[kzC]at hu
 rcases hu with rfl|rfl|rfl|rfl<;>rfl
theorem pt_one {u:Value}{ps:List Pt}(h:u∈ps.flatMap ptC):u.oneCell'=true:=by
 obtain⟨p,_,hu⟩:=List.mem_flatMap.1 h
 simp[ptC]at hu
 rcases hu with rfl|rfl|rfl|rfl|rfl|rfl|rfl<;>rfl
theorem kz_below {w X:World}{a:Option Addr}{ks:List Kz}(h:KzsAt w a ks)(hb:Below w.heap.size w X):KzsAt X a ks:=fun j k hj=>by
 obtain⟨b,o,e,h0,h1,h2,h3⟩:=h j k hj
 exact⟨b,o,e,cell_below hb h0,cell_below hb h1,cell_below hb h2,cell_below hb h3⟩
def ndNew (nd:Nd)(n:QN)(eb kb:Nat):Nd:=⟨nd.op,nd.l,nd.r,nd.tn,(some ⟨eb,0,none⟩,n.es.length,n.es.length+1),(some ⟨kb,0,none⟩,n.ks.length,n.ks.length+1),nd.kk⟩
theorem lPlan_any (a:Option Addr)(nc:Nat)(nds:List Nd)(ns:List QN)(w:World)(hP:PlnAt w a nds ns)(hz:PlnSz ns) :
  Calls Tryz.prog 11 #[.agg #[.slice a ns.length nc]] w fun e w'=>Below w.heap.size w w'∧∃ nb nds',e=.returned (.agg #[.slice (some ⟨nb,0,none⟩) ns.length (ns.length+1)])∧PlnOwn w' nb nds' ns:=by
 have HH:Hid (PlnAt w a nds ns∧PlnSz ns):=⟨hP,hz⟩
 have hn:=hz.1
 have hm0:=run_make_W 23 68 _ 7 96 (by kernel_rfl) info_Node ns.length (by omega) (by omega)
 simp only[Value.cells]at hm0
 clear hP hz
 go_enter Tryz.func11,Tryz.ntmps11
 go_upto_region 1 with fail
 obtain⟨W,hW⟩:∃ W,W=(w.alloc (.cells #[.slice a ns.length nc] 25)).alloc (.cells #[.slice none 0 0] 25):=⟨_,rfl⟩
 rw[←hW]
 have HW:Hid (Below w.heap.size w W∧W.heap[w.heap.size]?=some (.cells #[.slice a ns.length nc] 25 (0,0))∧W.heap[w.heap.size+1]?=some (.cells #[.slice none 0 0] 25 (0,0))):=by
  rw[hW]
  refine⟨((Below.refl _ w).alloc (Nat.le_refl _) _).alloc (by simp) _,?_,new_at _ _ _ (by simp only[World.size_alloc])⟩
  rw[Below.heap_alloc _ _ _ (by simp only[World.size_alloc];omega)]
  exact heap_alloc_new _ _
 have hWz:W.heap.size=w.heap.size+2:=by rw[hW];simp
 clear hW
 have c0:W.cell? ⟨w.heap.size,0,none⟩=some (.slice a ns.length nc):=by simp[World.cell?,HW.out.2.1]
 go_upto_region 3 with fail
 clear c0
 obtain⟨W1,hW1⟩:∃ W1,W1=W.alloc (.cells (madeCells #[.int .i64 0,.int .i64 0,.int .i64 0,.string ⟨#[]⟩,.slice none 0 0,.slice none 0 0,.int .i64 0] ((ns.length+1)*7)) 68):=⟨_,rfl⟩
 rw[←hW1]
 have H1:Hid (PlI w W1 (w.heap.size+2) a nc ns []):=by
  have hb:Below W.heap.size W W1:=by rw[hW1];exact(Below.refl _ _).alloc (Nat.le_refl _) _
  refine⟨below_then HW.out.1 hb,(hb.block _ (by omega)).trans HW.out.2.1,(hb.block _ (by omega)).trans HW.out.2.2,⟨_,by rw[hW1];exact new_at _ _ _ hWz.symm,size_madeCells _ _⟩,by simp,by simp,rfl⟩
 clear hW1 hWz hm0 HW
 go_loopw [4] (fun iv' wr=>∃ (j:Nat) (nds':List Nd),iv'=.int .i64 (j:Int)∧j≤ns.length∧Hid (nds'.length=j∧PlI w wr (w.heap.size+2) a nc ns nds')) (fun iv' _=>ns.length-(intOf iv').toNat)
 case atStart=>exact⟨0,[],rfl,Nat.zero_le _,rfl,H1.out⟩
 case round=>
  clear H1
  obtain⟨j,nds',rfl,hj,HJ⟩:=hrel
  have c0:wr.cell? ⟨w.heap.size,0,none⟩=some (.slice a ns.length nc):=by simp[World.cell?,HJ.out.2.box]
  by_cases hlt:j<ns.length
  ·have HLT:Hid (j<ns.length):=hlt
   have hl2:j<nds.length:=by rw[HH.out.1.len];exact hlt
   have g2:nds[j]?=some nds[j]:=List.getElem?_eq_getElem hl2
   have g3:ns[j]?=some ns[j]:=List.getElem?_eq_getElem hlt
   obtain⟨b2,o2,ee2,hn2⟩:=HH.out.1.at_ j _ g2
   obtain⟨z0,z1,z2,z3,z4,z5,z6⟩:=hn2.below HJ.out.2.low
   have HQ:Hid (NdQ w nds[j] ns[j]∧ns[j]?=some ns[j]):=⟨HH.out.1.is j _ _ g2 g3,g3⟩
   have hsz:=HH.out.2.2 ns[j] (List.getElem_mem hlt)
   generalize nds[j]=nd at z0 z1 z2 z3 z4 z5 z6 HQ
   generalize ns[j]=n at HQ hsz
   have HSZ:Hid (n.ks.length≤4400000000000∧n.es.length≤5900000000000∧∀ es∈n.es,es.length≤2200000000000):=hsz
   subst ee2
   have i1:(0:Int)≤(j:Int):=by omega
   have i2:(j:Int)<(ns.length:Int):=by omega
   clear hlt hl2 g2 g3 hn2
   -- the node itself
   go_upto_region 6 with fail
   clear c0 z0 z1 z2 z3 z4 z5 z6 i1 i2
   obtain⟨kx,hkx⟩:∃ kx,kx=nd.ky:=⟨_,rfl⟩
   obtain⟨ex,hex⟩:∃ ex,ex=nd.xs:=⟨_,rfl⟩
   obtain⟨ka,kn,kc⟩:=kx
   obtain⟨ea,en,ec⟩:=ex
   have hk1:nd.ky.1=ka:=by rw[←hkx]
   have hk2:nd.ky.2.1=n.ks.length:=HQ.out.1.kl
   have hk3:nd.ky.2.2=kc:=by rw[←hkx]
   have he1:nd.xs.1=ea:=by rw[←hex]
   have he2:nd.xs.2.1=n.es.length:=HQ.out.1.xl
   have he3:nd.xs.2.2=ec:=by rw[←hex]
   have hQk:=HQ.out.1.ky
   have hQe:=HQ.out.1.xs
   rw[hk1,hk2,hk3,he1,he2,he3]
   rw[hk1]at hQk
   rw[he1]at hQe
   have HQ2:Hid (KzsAt w ka n.ks∧EsIn w ea n.es∧nd.op=n.op∧nd.l=n.l∧nd.r=n.r∧nd.tn=n.tn∧nd.kk=n.kk∧ns[j]?=some n):=⟨hQk,hQe,HQ.out.1.op,HQ.out.1.l,HQ.out.1.r,HQ.out.1.tn,HQ.out.1.kk,HQ.out.2⟩
   clear hk1 hk2 hk3 he1 he2 he3 hkx hex hQk hQe HQ
   obtain⟨W1,hW1⟩:∃ W1,W1=wr.alloc (.cells #[.int .i64 nd.op,.int .i64 nd.l,.int .i64 nd.r,.string nd.tn,.slice ea n.es.length ec,.slice ka n.ks.length kc,.int .i64 nd.kk] 68):=⟨_,rfl⟩
   rw[←hW1]
   obtain⟨xb,hxb⟩:∃ xb,xb=wr.heap.size:=⟨_,rfl⟩
   rw[←hxb]
   have HX:Hid (xb=wr.heap.size∧Below wr.heap.size wr W1∧W1.heap[xb]?=some (.cells #[.int .i64 nd.op,.int .i64 nd.l,.int .i64 nd.r,.string nd.tn,.slice ea n.es.length ec,.slice ka n.ks.length kc,.int .i64 nd.kk] 68 (0,0))∧Below w.heap.size w W1):=by
    have hb:Below wr.heap.size wr W1:=by rw[hW1];exact(Below.refl _ _).alloc (Nat.le_refl _) _
    exact⟨hxb,hb,by rw[hW1,hxb];exact heap_alloc_new _ _,below_then HJ.out.2.low hb⟩
   have hWz:W1.heap.size=xb+1:=by rw[hW1,hxb];simp
   clear hW1 hxb
   have l1:=HSZ.out.1
   have l2:=HSZ.out.2.1
   have hmk:=run_make_W 66 79 _ 4 32 (by kernel_rfl) info_Key n.ks.length (by omega) (by omega)
   simp only[Value.cells]at hmk
   have x5:W1.cell? ⟨xb,5,none⟩=some (.slice ka n.ks.length kc):=by simp[World.cell?,HX.out.2.2.1]
   go_upto_region 7 with fail
   clear x5 hmk
   obtain⟨W2,hW2⟩:∃ W2,W2=W1.alloc (.cells (madeCells #[.int .i64 0,.int .i64 0,.bool false,.int .i64 0] ((n.ks.length+1)*4)) 79):=⟨_,rfl⟩
   rw[←hW2]
   have H2:Hid (Below W1.heap.size W1 W2∧W2.heap.size=xb+2∧W2.heap[xb+1]?=some (.cells (madeCells #[.int .i64 0,.int .i64 0,.bool false,.int .i64 0] ((n.ks.length+1)*4)) 79 (0,0))∧W1.heap.size=xb+1):=⟨by rw[hW2];exact(Below.refl _ _).alloc (Nat.le_refl _) _,by rw[hW2,World.size_alloc,hWz],by rw[hW2];exact new_at _ _ _ hWz.symm,hWz⟩
   clear hW2 hWz
   have hcp:=run_copy_W W2 66 79 4 (by kernel_rfl) (by kernel_rfl) (xb+1) (n.ks.length+1) (n.ks.length+1) ka n.ks.length kc (n.ks.flatMap kzC) (flr_len kzC 4 (fun _=>rfl) _) (rec_src (f:=kzC) (z:=4) (fun _=>rfl) (rec_kz.1 (kz_below HQ2.out.1 (below_then HX.out.2.2.2 H2.out.1)))) (fun u hu=>kz_one hu) _ H2.out.2.2.1 (by omega) (by rw[size_madeCells,flr_len kzC 4 (fun _=>rfl)];omega)
   obtain⟨tl,htl⟩:∃ tl,tl=(madeCells #[.int .i64 0,.int .i64 0,.bool false,.int .i64 0] ((n.ks.length+1)*4)).toList.drop (n.ks.flatMap kzC).length:=⟨_,rfl⟩
   have htl4:tl.length=4:=by rw[htl,List.length_drop,Array.length_toList,size_madeCells,flr_len kzC 4 (fun _=>rfl)];omega
   rw[←htl]at hcp
   obtain⟨W3,hW3⟩:∃ W3,W3=W2.setRow (xb+1) (n.ks.flatMap kzC++tl).toArray:=⟨_,rfl⟩
   rw[←hW3]at hcp
   have H3:Hid (Keep (fun k=>k=xb+1) W2 W3∧W3.heap[xb+1]?=some (.cells (n.ks.flatMap kzC++tl).toArray 79 (0,0))∧tl.length=4):=by
    rw[hW3]
    exact⟨⟨rfl,rfl,rfl,by simp[World.setRow],fun k _ hn=>setRow_other _ _ _ _ hn⟩,setRow_heap _ _ _ _ _ _ H2.out.2.2.1,htl4⟩
   have hx2:W2.heap[xb]?=_:=(H2.out.1.block xb (by have:=H2.out.2.2.2;omega)).trans HX.out.2.2.1
   have x5:W2.cell? ⟨xb,5,none⟩=some (.slice ka n.ks.length kc):=by simp[World.cell?,hx2]
   clear hW3 htl htl4
   go_upto_region 8 with fail
   clear x5 hcp
   have hx3:W3.heap[xb]?=_:=(H3.out.1.block xb (by have:=H2.out.2.1;omega) (by omega)).trans hx2
   have x5:W3.cell? ⟨xb,5,none⟩=some (.slice ka n.ks.length kc):=by simp[World.cell?,hx3]
   have hkl:(n.ks.flatMap kzC++tl).length=n.ks.length*4+4:=by rw[List.length_append,flr_len kzC 4 (fun _=>rfl),H3.out.2.2]
   have hky:∀ k,k<4→∃ u,W3.cell? ⟨xb+1,n.ks.length*4+k,none⟩=some u:=fun k hk=>⟨_,cell_of_list H3.out.2.1 (List.getElem?_eq_getElem (by omega))⟩
   obtain⟨u0,y0⟩:∃ u,W3.cell? ⟨xb+1,n.ks.length*4,none⟩=some u:=hky 0 (by omega)
   obtain⟨u1,y1⟩:=hky 1 (by omega)
   obtain⟨u2,y2⟩:=hky 2 (by omega)
   obtain⟨u3,y3⟩:=hky 3 (by omega)
   have fz:∀ k:Nat,W3.frozen? ⟨xb+1,k,none⟩=false:=fun k=>by simp[World.frozen?,H3.out.2.1]
   have f0:=fz (n.ks.length*4)
   have f1:=fz (n.ks.length*4+1)
   have f2:=fz (n.ks.length*4+2)
   have f3:=fz (n.ks.length*4+3)
   have j1:(0:Int)≤(n.ks.length:Int):=by omega
   have j2:(n.ks.length:Int)<(n.ks.length:Int)+1:=by omega
   clear hky fz hkl
   go_upto_region 9 with fail
   obtain⟨W4,hW4⟩:∃ W4,W4=W3.setCells (xb+1) (n.ks.length*4) [.int .i64 (-7),.int .i64 0,.bool false,.int .i64 0]:=⟨_,rfl⟩
   rw[show ((((W3.setCell ⟨xb+1,n.ks.length*4,none⟩ (.int .i64 (-7))).setCell ⟨xb+1,n.ks.length*4+1,none⟩ (.int .i64 0)).setCell ⟨xb+1,n.ks.length*4+2,none⟩ (.bool false)).setCell ⟨xb+1,n.ks.length*4+3,none⟩ (.int .i64 0))=W4 by rw[hW4];rfl]
   have H4:Hid (KzsAt W4 (some ⟨xb+1,0,none⟩) n.ks∧W4.cell? ⟨xb+1,n.ks.length*4,none⟩=some (.int .i64 (-7))∧Keep (fun k=>k=xb+1) W3 W4):=by
    obtain⟨q1,q2⟩:=rec_marked (f:=kzC) (z:=4) (fun _=>rfl) (mark:=[.int .i64 (-7),.int .i64 0,.bool false,.int .i64 0]) H3.out.2.1 H3.out.2.2 rfl
    rw[hW4]
    exact⟨rec_kz.2 q1,q2 0 _ rfl,keep_sc _ _ _ _⟩
   clear hW4 x5 y0 y1 y2 y3 f0 f1 f2 f3 j1 j2
   have hx4:W4.heap[xb]?=_:=(H4.out.2.2.block xb (by have h1:=H2.out.2.1;have h2:=H3.out.1.size;omega) (by omega)).trans hx3
   obtain⟨eb,heb⟩:∃ eb,eb=W4.heap.size:=⟨_,rfl⟩
   have HEB:Hid (xb+2≤eb∧eb=W4.heap.size):=⟨by have h1:=H2.out.2.1;have h2:=H3.out.1.size;have h3:=H4.out.2.2.size;omega,heb⟩
   have hme:=run_make_W 65 64 _ 1 24 (by kernel_rfl) info_Parts n.es.length (by omega) (by omega)
   simp only[Nat.mul_one,Value.cells]at hme
   have x4:W4.cell? ⟨xb,4,none⟩=some (.slice ea n.es.length ec):=by simp[World.cell?,hx4]
   go_upto_region 11 with fail
   rw[←heb]
   clear x4 hme heb
   obtain⟨W5,hW5⟩:∃ W5,W5=W4.alloc (.cells (madeCells #[.slice none 0 0] (n.es.length+1)) 64):=⟨_,rfl⟩
   rw[←hW5]
   have H5:Hid (ExI W5 W5 eb n 0∧Below W4.heap.size W4 W5∧W5.heap[xb]?=some (.cells #[.int .i64 nd.op,.int .i64 nd.l,.int .i64 nd.r,.string nd.tn,.slice ea n.es.length ec,.slice ka n.ks.length kc,.int .i64 nd.kk] 68 (0,0))∧eb<W5.heap.size∧Below w.heap.size w W5∧(∀ k,k<xb→W5.heap[k]?=wr.heap[k]?)∧W5.heap[xb+1]?=W4.heap[xb+1]?):=by
    have hb:Below W4.heap.size W4 W5:=by rw[hW5];exact(Below.refl _ _).alloc (Nat.le_refl _) _
    have he:=HEB.out
    have hnew:W5.heap[eb]?=some (.cells (madeCells #[.slice none 0 0] (n.es.length+1)) 64 (0,0)):=by rw[hW5];exact new_at _ _ _ he.2
    have hx:=HX.out
    have hjl:=HJ.out.2.low.size
    have b3:=(below_then hx.2.2.2 H2.out.1).trans (H3.out.1.below (B:=w.heap.size) (fun k hk e=>by omega) (by have:=(below_then hx.2.2.2 H2.out.1).size;omega))
    have b4:=b3.trans (H4.out.2.2.below (B:=w.heap.size) (fun k hk e=>by omega) b3.size)
    refine⟨⟨Keep.refl _ _,⟨_,hnew,size_madeCells _ _⟩,fun i es h=>by omega⟩,hb,(hb.block xb (by omega)).trans hx4,lt_of_heap hnew,below_then b4 hb,fun k hk=>?_,hb.block _ (by omega)⟩
    have h2:=H2.out
    have h3:=H3.out.1.size
    have h4:=H4.out.2.2.size
    rw[hb.block k (by omega),H4.out.2.2.block k (by omega) (by omega),H3.out.1.block k (by omega) (by omega),H2.out.1.block k (by omega),hx.2.1.block k (by omega)]
   clear hW5 hx2 hx3 hx4
   obtain⟨V0,hV0⟩:∃ V0,V0=wr:=⟨_,rfl⟩
   subst hV0
   go_loopw [8] (fun kv wx=>∃ m:Nat,kv=.int .i64 (m:Int)∧m≤n.es.length∧Hid (ExI W5 wx eb n m)) (fun kv _=>n.es.length-(intOf kv).toNat)
   case atStart=>exact⟨0,rfl,Nat.zero_le _,H5.out.1⟩
   case round=>
    obtain⟨m,rfl,hm,HE⟩:=hrel
    have hxr:wr.heap[xb]?=some (.cells #[.int .i64 nd.op,.int .i64 nd.l,.int .i64 nd.r,.string nd.tn,.slice ea n.es.length ec,.slice ka n.ks.length kc,.int .i64 nd.kk] 68 (0,0)):=(HE.out.keep.block xb (by have h1:=HEB.out;have h2:=H5.out.2.2.2.1;omega) (by have h1:=HEB.out;omega)).trans H5.out.2.2.1
    have HLW:Hid (Below w.heap.size w wr):=H5.out.2.2.2.2.1.trans (HE.out.keep.below (fun k hk e=>by have h1:=HEB.out;have h2:=HX.out;have h3:=HJ.out.2.low.size;omega) H5.out.2.2.2.2.1.size)
    have HXR:Hid (wr.heap[xb]?=some (.cells #[.int .i64 nd.op,.int .i64 nd.l,.int .i64 nd.r,.string nd.tn,.slice ea n.es.length ec,.slice ka n.ks.length kc,.int .i64 nd.kk] 68 (0,0))):=hxr
    by_cases hlm:m<n.es.length
    ·have HLM:Hid (m<n.es.length):=hlm
     obtain⟨b3,o3,pa,pc,ee3,v0,v1⟩:=HQ2.out.2.1 m n.es[m] (List.getElem?_eq_getElem hlm)
     have hpl:=HSZ.out.2.2 n.es[m] (List.getElem_mem hlm)
     have HPS:Hid (n.es[m]?=some n.es[m]∧PtsIn w pa n.es[m]):=⟨List.getElem?_eq_getElem hlm,v1⟩
     generalize n.es[m]=ps at v0 v1 hpl HPS
     subst ee3
     have x4:wr.cell? ⟨xb,4,none⟩=some (.slice (some ⟨b3,o3,none⟩) n.es.length ec):=by simp[World.cell?,hxr]
     have v0':=cell_below HLW.out v0
     have hb3:=lt_of_cell v0
     simp only at hb3
     have i1:(0:Int)≤(m:Int):=by omega
     have i2:(m:Int)<(n.es.length:Int):=by omega
     have hmp:=run_make_W 64 63 _ 7 64 (by kernel_rfl) info_Part ps.length (by omega) (by omega)
     simp only[Value.cells]at hmp
     have HV0:Hid (w.cell? ⟨b3,o3+m,none⟩=some (.slice pa ps.length pc)):=v0
     clear hlm v0 v1 hxr
     go_upto_region 14 with fail
     clear x4 v0' hmp
     obtain⟨V1,hV1⟩:∃ V1,V1=wr.alloc (.cells (madeCells #[.int .i64 0,.int .i64 0,.int .i64 0,.int .i64 0,.int .i64 0,.int .i64 0,.string ⟨#[]⟩] ((ps.length+1)*7)) 63):=⟨_,rfl⟩
     rw[←hV1]
     obtain⟨pb,hpb⟩:∃ pb,pb=wr.heap.size:=⟨_,rfl⟩
     rw[←hpb]
     have HP1:Hid (Below wr.heap.size wr V1∧pb=wr.heap.size∧V1.heap[pb]?=some (.cells (madeCells #[.int .i64 0,.int .i64 0,.int .i64 0,.int .i64 0,.int .i64 0,.int .i64 0,.string ⟨#[]⟩] ((ps.length+1)*7)) 63 (0,0))):=⟨by rw[hV1];exact(Below.refl _ _).alloc (Nat.le_refl _) _,hpb,by rw[hV1];exact new_at _ _ _ hpb⟩
     clear hV1 hpb
     have hcp:=run_copy_W V1 64 63 7 (by kernel_rfl) (by kernel_rfl) pb (ps.length+1) (ps.length+1) pa ps.length pc (ps.flatMap ptC) (flr_len ptC 7 (fun _=>rfl) _) (rec_src (f:=ptC) (z:=7) (fun _=>rfl) (rec_pt.1 (HPS.out.2.below (below_then HLW.out HP1.out.1)))) (fun u hu=>pt_one hu) _ HP1.out.2.2 (by omega) (by rw[size_madeCells,flr_len ptC 7 (fun _=>rfl)];omega)
     obtain⟨tl2,htl⟩:∃ tl2,tl2=(madeCells #[.int .i64 0,.int .i64 0,.int .i64 0,.int .i64 0,.int .i64 0,.int .i64 0,.string ⟨#[]⟩] ((ps.length+1)*7)).toList.drop (ps.flatMap ptC).length:=⟨_,rfl⟩
     have htl7:tl2.length=7:=by rw[htl,List.length_drop,Array.length_toList,size_madeCells,flr_len ptC 7 (fun _=>rfl)];omega
     rw[←htl]at hcp
     obtain⟨V2,hV2⟩:∃ V2,V2=V1.setRow pb (ps.flatMap ptC++tl2).toArray:=⟨_,rfl⟩
     rw[←hV2]at hcp
     have HP2:Hid (Keep (fun k=>k=pb) V1 V2∧V2.heap[pb]?=some (.cells (ps.flatMap ptC++tl2).toArray 63 (0,0))∧tl2.length=7):=by
      rw[hV2]
      exact⟨⟨rfl,rfl,rfl,by simp[World.setRow],fun k _ hn=>setRow_other _ _ _ _ hn⟩,setRow_heap _ _ _ _ _ _ HP1.out.2.2,htl7⟩
     clear hV2 htl htl7
     have HBK:Hid (∀ X:World,(∀ k,k<pb→X.heap[k]?=wr.heap[k]?)→X.cell? ⟨xb,4,none⟩=some (.slice (some ⟨b3,o3,none⟩) n.es.length ec)∧X.cell? ⟨b3,o3+m,none⟩=some (.slice pa ps.length pc)):=fun X hX=>by
      have h1:=HP1.out.2.1
      have h2:=lt_of_heap HXR.out
      have h3:=HLW.out.size
      refine⟨?_,?_⟩
      ·rw[World.cell?_of_block (hX xb (by omega))]
       simp[World.cell?,HXR.out]
      rw[World.cell?_of_block (hX b3 (by omega))]
      exact cell_below HLW.out HV0.out
     have hkA:∀ k,k<pb→V1.heap[k]?=wr.heap[k]?:=fun k hk=>HP1.out.1.block k (by have h1:=HP1.out.2.1;omega)
     have hzA:=lt_of_heap HP1.out.2.2
     have hkB:∀ k,k<pb→V2.heap[k]?=wr.heap[k]?:=fun k hk=>(HP2.out.1.block k (by omega) (by omega)).trans (hkA k hk)
     obtain⟨x4,v0'⟩:=HBK.out V1 hkA
     go_upto_region 15 with fail
     clear x4 v0' hcp
     obtain⟨x4,v0'⟩:=HBK.out V2 hkB
     have hpl2:(ps.flatMap ptC++tl2).length=ps.length*7+7:=by rw[List.length_append,flr_len ptC 7 (fun _=>rfl),HP2.out.2.2]
     have hpy:∀ k,k<7→∃ u,V2.cell? ⟨pb,ps.length*7+k,none⟩=some u:=fun k hk=>⟨_,cell_of_list HP2.out.2.1 (List.getElem?_eq_getElem (by omega))⟩
     obtain⟨u0,y0⟩:∃ u,V2.cell? ⟨pb,ps.length*7,none⟩=some u:=hpy 0 (by omega)
     obtain⟨u1,y1⟩:=hpy 1 (by omega)
     obtain⟨u2,y2⟩:=hpy 2 (by omega)
     obtain⟨u3,y3⟩:=hpy 3 (by omega)
     obtain⟨u4,y4⟩:=hpy 4 (by omega)
     obtain⟨u5,y5⟩:=hpy 5 (by omega)
     obtain⟨u6,y6⟩:=hpy 6 (by omega)
     have fz:∀ k:Nat,V2.frozen? ⟨pb,k,none⟩=false:=fun k=>by simp[World.frozen?,HP2.out.2.1]
     have f0:=fz (ps.length*7)
     have f1:=fz (ps.length*7+1)
     have f2:=fz (ps.length*7+2)
     have f3:=fz (ps.length*7+3)
     have f4:=fz (ps.length*7+4)
     have f5:=fz (ps.length*7+5)
     have f6:=fz (ps.length*7+6)
     have j1:(0:Int)≤(ps.length:Int):=by omega
     have j2:(ps.length:Int)<(ps.length:Int)+1:=by omega
     have HKB:Hid (∀ k,k<pb→V2.heap[k]?=wr.heap[k]?):=hkB
     have hzB:pb<V2.heap.size:=lt_of_heap HP2.out.2.1
     clear hpy fz hpl2 hkA hkB hzA
     go_upto_region 16 with fail
     obtain⟨V3,hV3⟩:∃ V3,V3=V2.setCells pb (ps.length*7) [.int .i64 (-7),.int .i64 0,.int .i64 0,.int .i64 0,.int .i64 0,.int .i64 0,.string ⟨#[]⟩]:=⟨_,rfl⟩
     rw[show (((((((V2.setCell ⟨pb,ps.length*7,none⟩ (.int .i64 (-7))).setCell ⟨pb,ps.length*7+1,none⟩ (.int .i64 0)).setCell ⟨pb,ps.length*7+2,none⟩ (.int .i64 0)).setCell ⟨pb,ps.length*7+3,none⟩ (.int .i64 0)).setCell ⟨pb,ps.length*7+4,none⟩ (.int .i64 0)).setCell ⟨pb,ps.length*7+5,none⟩ (.int .i64 0)).setCell ⟨pb,ps.length*7+6,none⟩ (.string ⟨#[]⟩))=V3 by rw[hV3];rfl]
     have HP3:Hid (PtsIn V3 (some ⟨pb,0,none⟩) ps∧V3.cell? ⟨pb,ps.length*7,none⟩=some (.int .i64 (-7))∧Keep (fun k=>k=pb) V2 V3):=by
      obtain⟨q1,q2⟩:=rec_marked (f:=ptC) (z:=7) (fun _=>rfl) (mark:=[.int .i64 (-7),.int .i64 0,.int .i64 0,.int .i64 0,.int .i64 0,.int .i64 0,.string ⟨#[]⟩]) HP2.out.2.1 HP2.out.2.2 rfl
      rw[hV3]
      exact⟨rec_pt.2 q1,q2 0 _ rfl,keep_sc _ _ _ _⟩
     clear hV3 x4 v0' y0 y1 y2 y3 y4 y5 y6 f0 f1 f2 f3 f4 f5 f6
     have hkC:∀ k,k<pb→V3.heap[k]?=wr.heap[k]?:=fun k hk=>(HP3.out.2.2.block k (by omega) (by omega)).trans (HKB.out k hk)
     obtain⟨x4,v0'⟩:=HBK.out V3 hkC
     obtain⟨cse,hce1,hce2⟩:=HE.out.blk
     have hebl:=lt_of_heap hce1
     have hce3:=(hkC eb (by have h1:=HP1.out.2.1;omega)).trans hce1
     have y0:V3.cell? ⟨eb,m,none⟩=some (cse[m]'(by omega)):=by simp[World.cell?,hce3,show m<cse.size by omega]
     generalize cse[m]'(by omega)=ue at y0
     have f0:V3.frozen? ⟨eb,m,none⟩=false:=by simp[World.frozen?,hce3]
     have i3:(m:Int)<(n.es.length:Int)+1:=by omega
     have j3:(ps.length:Int)≤(ps.length:Int)+1:=by omega
     have HEF:Hid (ExI W5 (V3.setCell ⟨eb,m,none⟩ (.slice (some ⟨pb,0,none⟩) ps.length (ps.length+1))) eb n (m+1)):=by
      have h1:=HP1.out.2.1
      have hz3:V2.heap.size≤V3.heap.size:=HP3.out.2.2.size
      have ho:∀ k,k≠eb→(V3.setCell ⟨eb,m,none⟩ (.slice (some ⟨pb,0,none⟩) ps.length (ps.length+1))).heap[k]?=V3.heap[k]?:=fun k hk=>heap_setCell_other _ _ _ _ hk
      have hzz:(V3.setCell ⟨eb,m,none⟩ (.slice (some ⟨pb,0,none⟩) ps.length (ps.length+1))).heap.size=V3.heap.size:=by simp[World.setCell]
      refine⟨?_,⟨_,heap_set hce3 m _,by rw[Array.size_setIfInBounds];exact hce2⟩,fun i es hi hes=>?_⟩
      ·have hk5:=HE.out.keep
       have hz5:=hk5.size
       refine hk5.trans ⟨?_,?_,?_,by omega,fun k hk hn=>(ho k hn).trans (hkC k (by omega))⟩
       ·exact HP3.out.2.2.os.trans (HP2.out.1.os.trans HP1.out.1.os)
       ·exact HP3.out.2.2.tape.trans (HP2.out.1.tape.trans HP1.out.1.tape)
       exact HP3.out.2.2.output.trans (HP2.out.1.output.trans HP1.out.1.output)
      by_cases e:i=m
      ·subst e
       rw[HPS.out.1]at hes
       cases hes
       refine⟨pb,World.cell?_setCell_same _ _ _ y0,fun X hX=>?_⟩
       have hb:X.heap[pb]?=V3.heap[pb]?:=(hX pb (by omega) (by omega)).trans (ho pb (by omega))
       exact⟨by rw[World.cell?_of_block hb];exact HP3.out.2.1,rec_pt.2 ((rec_pt.1 HP3.out.1).of_block hb)⟩
      obtain⟨pb',q1,q2⟩:=HE.out.done i es (by omega) hes
      refine⟨pb',?_,q2.on (by omega) fun k h2 h3=>(ho k (by omega)).trans (hkC k (by omega))⟩
      rw[World.cell?_setCell_other _ _ _ _ (fun h=>by cases h;exact e rfl),World.cell?_of_block (hkC eb (by omega))]
      exact q1
     clear hce1 hce2 hce3
     go_wp2
     go_roundw
     case rel=>exact⟨m+1,by have:=HLM.out;go_num,HLM.out,HEF.out⟩
     case measure=>have:=HLM.out;simp[intOf];omega
    have hme:m=n.es.length:=by omega
    subst hme
    have x1:¬ ((n.es.length:Int)<(n.es.length:Int)):=by omega
    have x4:wr.cell? ⟨xb,4,none⟩=some (.slice ea n.es.length ec):=by simp[World.cell?,hxr]
    have x5:wr.cell? ⟨xb,5,none⟩=some (.slice ka n.ks.length kc):=by simp[World.cell?,hxr]
    have f5:wr.frozen? ⟨xb,5,none⟩=false:=by simp[World.frozen?,hxr]
    have j1:(0:Int)≤(n.ks.length:Int):=by omega
    have j2:(n.ks.length:Int)≤(n.ks.length:Int)+1:=by omega
    clear hxr hm hlm
    go_upto_region 18 with fail
    obtain⟨V1,hV1⟩:∃ V1,V1=wr.setCell ⟨xb,5,none⟩ (.slice (some ⟨xb+1,0,none⟩) n.ks.length (n.ks.length+1)):=⟨_,rfl⟩
    rw[←hV1]
    have hy1:V1.heap[xb]?=some (.cells #[.int .i64 nd.op,.int .i64 nd.l,.int .i64 nd.r,.string nd.tn,.slice ea n.es.length ec,.slice (some ⟨xb+1,0,none⟩) n.ks.length (n.ks.length+1),.int .i64 nd.kk] 68 (0,0)):=by rw[hV1,heap_setCell_same _ _ _ _ _ _ HXR.out];rfl
    have HK1:Hid (Keep (fun k=>k=xb) wr V1):=by rw[hV1];exact keep_one _ _ _ _
    clear hV1 x1 x4 x5 f5 j1 j2
    have x4:V1.cell? ⟨xb,4,none⟩=some (.slice ea n.es.length ec):=by simp[World.cell?,hy1]
    have f4:V1.frozen? ⟨xb,4,none⟩=false:=by simp[World.frozen?,hy1]
    have j1:(0:Int)≤(n.es.length:Int):=by omega
    have j2:(n.es.length:Int)≤(n.es.length:Int)+1:=by omega
    go_upto_region 19 with fail
    obtain⟨V2,hV2⟩:∃ V2,V2=V1.setCell ⟨xb,4,none⟩ (.slice (some ⟨eb,0,none⟩) n.es.length (n.es.length+1)):=⟨_,rfl⟩
    rw[←hV2]
    have hy2:V2.heap[xb]?=some (.cells #[.int .i64 nd.op,.int .i64 nd.l,.int .i64 nd.r,.string nd.tn,.slice (some ⟨eb,0,none⟩) n.es.length (n.es.length+1),.slice (some ⟨xb+1,0,none⟩) n.ks.length (n.ks.length+1),.int .i64 nd.kk] 68 (0,0)):=by rw[hV2,heap_setCell_same _ _ _ _ _ _ hy1];rfl
    have HK2:Hid (Keep (fun k=>k=xb) wr V2):=by rw[hV2];exact HK1.out.trans (keep_one _ _ _ _)
    clear hV2 x4 f4 j1 j2 hy1
    have d0:V2.cell? ⟨xb,0,none⟩=some (.int .i64 nd.op):=by simp[World.cell?,hy2]
    have d1:V2.cell? ⟨xb,1,none⟩=some (.int .i64 nd.l):=by simp[World.cell?,hy2]
    have d2:V2.cell? ⟨xb,2,none⟩=some (.int .i64 nd.r):=by simp[World.cell?,hy2]
    have d3:V2.cell? ⟨xb,3,none⟩=some (.string nd.tn):=by simp[World.cell?,hy2]
    have d4:V2.cell? ⟨xb,4,none⟩=some (.slice (some ⟨eb,0,none⟩) n.es.length (n.es.length+1)):=by simp[World.cell?,hy2]
    have d5:V2.cell? ⟨xb,5,none⟩=some (.slice (some ⟨xb+1,0,none⟩) n.ks.length (n.ks.length+1)):=by simp[World.cell?,hy2]
    have d6:V2.cell? ⟨xb,6,none⟩=some (.int .i64 nd.kk):=by simp[World.cell?,hy2]
    have HBL:Hid (∀ k,k<xb→V2.heap[k]?=V0.heap[k]?):=fun k hk=>by
     have h1:=HEB.out
     have h2:=H5.out.2.2.2.1
     have h3:=HE.out.keep.size
     rw[HK2.out.block k (by omega) (by omega),HE.out.keep.block k (by omega) (by omega)]
     exact H5.out.2.2.2.2.2.1 k hk
    obtain⟨cs,hcs1,hcs2⟩:=HJ.out.2.blk
    have hnx:w.heap.size+2<xb:=by have h1:=lt_of_heap hcs1;have h2:=HX.out.1;omega
    have hcs3:=(HBL.out _ hnx).trans hcs1
    have hjn:=HLT.out
    have hny:∀ k,k<7→∃ u,V2.cell? ⟨w.heap.size+2,j*7+k,none⟩=some u:=fun k hk=>⟨cs[j*7+k]'(by omega),by simp[World.cell?,hcs3,show j*7+k<cs.size by omega]⟩
    obtain⟨u0,y0⟩:∃ u,V2.cell? ⟨w.heap.size+2,j*7,none⟩=some u:=hny 0 (by omega)
    obtain⟨u1,y1⟩:∃ u,V2.cell? ⟨w.heap.size+2,j*7+1,none⟩=some u:=hny 1 (by omega)
    obtain⟨u2,y2⟩:∃ u,V2.cell? ⟨w.heap.size+2,j*7+2,none⟩=some u:=hny 2 (by omega)
    obtain⟨u3,y3⟩:∃ u,V2.cell? ⟨w.heap.size+2,j*7+3,none⟩=some u:=hny 3 (by omega)
    obtain⟨u4,y4⟩:∃ u,V2.cell? ⟨w.heap.size+2,j*7+4,none⟩=some u:=hny 4 (by omega)
    obtain⟨u5,y5⟩:∃ u,V2.cell? ⟨w.heap.size+2,j*7+5,none⟩=some u:=hny 5 (by omega)
    obtain⟨u6,y6⟩:∃ u,V2.cell? ⟨w.heap.size+2,j*7+6,none⟩=some u:=hny 6 (by omega)
    have fz:∀ k:Nat,V2.frozen? ⟨w.heap.size+2,k,none⟩=false:=fun k=>by simp[World.frozen?,hcs3]
    have f0:=fz (j*7)
    have f1:=fz (j*7+1)
    have f2:=fz (j*7+2)
    have f3:=fz (j*7+3)
    have f4:=fz (j*7+4)
    have f5:=fz (j*7+5)
    have f6:=fz (j*7+6)
    have i1:(0:Int)≤(j:Int):=by omega
    have i3:(j:Int)<(ns.length:Int)+1:=by omega
    have HCS:Hid (V2.heap[w.heap.size+2]?=some (.cells cs 68 (0,0))∧cs.size=(ns.length+1)*7∧w.heap.size+2<xb):=⟨hcs3,hcs2,hnx⟩
    clear hny fz hcs1 hcs2 hcs3 hnx hjn hy2
    go_wp2
    obtain⟨V3,hV3⟩:∃ V3,V3=V2.setCells (w.heap.size+2) (j*7) [.int .i64 nd.op,.int .i64 nd.l,.int .i64 nd.r,.string nd.tn,.slice (some ⟨eb,0,none⟩) n.es.length (n.es.length+1),.slice (some ⟨xb+1,0,none⟩) n.ks.length (n.ks.length+1),.int .i64 nd.kk]:=⟨_,rfl⟩
    rw[show (((((((V2.setCell ⟨w.heap.size+2,j*7,none⟩ (.int .i64 nd.op)).setCell ⟨w.heap.size+2,j*7+1,none⟩ (.int .i64 nd.l)).setCell ⟨w.heap.size+2,j*7+2,none⟩ (.int .i64 nd.r)).setCell ⟨w.heap.size+2,j*7+3,none⟩ (.string nd.tn)).setCell ⟨w.heap.size+2,j*7+4,none⟩ (.slice (some ⟨eb,0,none⟩) n.es.length (n.es.length+1))).setCell ⟨w.heap.size+2,j*7+5,none⟩ (.slice (some ⟨xb+1,0,none⟩) n.ks.length (n.ks.length+1))).setCell ⟨w.heap.size+2,j*7+6,none⟩ (.int .i64 nd.kk))=V3 by rw[hV3];rfl]
    clear d0 d1 d2 d3 d4 d5 d6 y0 y1 y2 y3 y4 y5 y6 f0 f1 f2 f3 f4 f5 f6
    have HFI:Hid ((nds'++[ndNew nd n eb (xb+1)]).length=j+1∧PlI w V3 (w.heap.size+2) (some ⟨b2,o2,none⟩) nc ns (nds'++[ndNew nd n eb (xb+1)])):=by
     obtain⟨hc1,hc2,hnx⟩:=HCS.out
     have hjn:=HLT.out
     have hk3:Keep (fun k=>k=w.heap.size+2) V2 V3:=by rw[hV3];exact keep_sc _ _ _ _
     have he:=HEB.out
     have hz1:=HE.out.keep.size
     have hz2:=HK2.out.size
     have hz3:=hk3.size
     have h5:=H5.out.2.2.2.1
     have hxv:=HX.out.1
     obtain⟨cse,hce1,hce2⟩:=HE.out.blk
     have hlow:∀ k,k<xb→k≠w.heap.size+2→V3.heap[k]?=V0.heap[k]?:=fun k hk hn=>(hk3.block k (by omega) hn).trans (HBL.out k hk)
     have hup:∀ k,xb<k→k<wr.heap.size→V3.heap[k]?=wr.heap[k]?:=fun k h1 h2=>(hk3.block k (by omega) (by omega)).trans (HK2.out.block k h2 (by omega))
     have hkb:V3.heap[xb+1]?=W4.heap[xb+1]?:=(hup (xb+1) (by omega) (by omega)).trans ((HE.out.keep.block _ (by omega) (by omega)).trans H5.out.2.2.2.2.2.2)
     have hkl:=lt_of_cell H4.out.2.1
     simp only at hkl
     obtain⟨cs3,hc3,hc4⟩:∃ cs',V3.heap[w.heap.size+2]?=some (.cells cs' 68 (0,0))∧cs'.size=cs.size:=by rw[hV3];exact sc_block _ _ _ _ hc1
     refine⟨by rw[List.length_append,HJ.out.1];rfl,⟨?_,(hlow _ (by omega) (by omega)).trans HJ.out.2.box,(hlow _ (by omega) (by omega)).trans HJ.out.2.res,⟨cs3,hc3,by omega⟩,fun i nd' hi=>?_,fun i nd' n' hi hn'=>?_,rfl⟩⟩
     ·have b2':=HLW.out.trans (HK2.out.below (B:=w.heap.size) (fun k hk e=>by omega) HLW.out.size)
      exact b2'.trans (hk3.below (B:=w.heap.size) (fun k hk e=>by omega) b2'.size)
     ·by_cases hij:i<nds'.length
      ·rw[List.getElem?_append_left hij]at hi
       have hno:∀ k v,k<7→V0.cell? ⟨w.heap.size+2,i*7+k,none⟩=some v→V3.cell? ⟨w.heap.size+2,i*7+k,none⟩=some v:=fun k v hk hv=>by
        rw[hV3,sc_out (.inl (by have:=HJ.out.1;omega)),World.cell?_of_block (HBL.out _ hnx)]
        exact hv
       obtain⟨q0,q1,q2,q3,q4,q5,q6⟩:=HJ.out.2.at_ i nd' hi
       exact⟨hno 0 _ (by omega) q0,hno 1 _ (by omega) q1,hno 2 _ (by omega) q2,hno 3 _ (by omega) q3,hno 4 _ (by omega) q4,hno 5 _ (by omega) q5,hno 6 _ (by omega) q6⟩
      have hie:i=nds'.length:=by
       have:=(List.getElem?_eq_some_iff.1 hi).1
       rw[List.length_append]at this
       simp only[List.length_cons,List.length_nil]at this
       omega
      subst hie
      rw[List.getElem?_append_right (Nat.le_refl _),Nat.sub_self]at hi
      cases hi
      rw[HJ.out.1]
      have hin:∀ k v,[.int .i64 nd.op,.int .i64 nd.l,.int .i64 nd.r,.string nd.tn,.slice (some ⟨eb,0,none⟩) n.es.length (n.es.length+1),.slice (some ⟨xb+1,0,none⟩) n.ks.length (n.ks.length+1),.int .i64 nd.kk][k]?=some v→V3.cell? ⟨w.heap.size+2,j*7+k,none⟩=some v:=fun k v hv=>by
       rw[hV3]
       exact sc_in hc1 (by simp only[List.length_cons,List.length_nil];omega) hv
      exact⟨hin 0 _ rfl,hin 1 _ rfl,hin 2 _ rfl,hin 3 _ rfl,hin 4 _ rfl,hin 5 _ rfl,hin 6 _ rfl⟩
     by_cases hij:i<nds'.length
     ·rw[List.getElem?_append_left hij]at hi
      exact(HJ.out.2.own i nd' n' hi hn').on (by omega) fun k h1 h2=>hlow k (by omega) (by omega)
     have hie:i=nds'.length:=by
      have:=(List.getElem?_eq_some_iff.1 hi).1
      rw[List.length_append]at this
      simp only[List.length_cons,List.length_nil]at this
      omega
     subst hie
     rw[List.getElem?_append_right (Nat.le_refl _),Nat.sub_self]at hi
     cases hi
     rw[HJ.out.1,HQ2.out.2.2.2.2.2.2.2]at hn'
     cases hn'
     intro X hX
     have hXk:X.heap[xb+1]?=W4.heap[xb+1]?:=(hX (xb+1) (by omega) (by omega)).trans hkb
     have hXe:X.heap[eb]?=wr.heap[eb]?:=(hX eb (by omega) (by omega)).trans (hup eb (by omega) (by omega))
     have hXu:∀ k,eb<k→k<wr.heap.size→X.heap[k]?=wr.heap[k]?:=fun k h1 h2=>(hX k (by omega) (by omega)).trans (hup k (by omega) h2)
     have hks:KzsAt X (some ⟨xb+1,0,none⟩) n.ks:=rec_kz.2 ((rec_kz.1 H4.out.1).of_block hXk)
     refine⟨⟨HQ2.out.2.2.1,HQ2.out.2.2.2.1,HQ2.out.2.2.2.2.1,HQ2.out.2.2.2.2.2.1,HQ2.out.2.2.2.2.2.2.1,rfl,fun i es hes=>?_,rfl,hks⟩,⟨xb+1,rfl,by rw[World.cell?_of_block hXk];exact H4.out.2.1⟩,eb,rfl,fun i es hes=>?_⟩
     ·have hil:=(List.getElem?_eq_some_iff.1 hes).1
      obtain⟨pb,q1,q2⟩:=HE.out.done i es hil hes
      exact⟨eb,0,_,_,rfl,by rw[Nat.zero_add,World.cell?_of_block hXe];exact q1,(q2 X hXu).2⟩
     have hil:=(List.getElem?_eq_some_iff.1 hes).1
     obtain⟨pb,q1,q2⟩:=HE.out.done i es hil hes
     exact⟨pb,by rw[World.cell?_of_block hXe];exact q1,(q2 X hXu).1,(q2 X hXu).2⟩
    clear hV3
    go_roundw
    case rel=>exact⟨j+1,nds'++[ndNew nd n eb (xb+1)],by have:=HLT.out;go_num,HLT.out,HFI.out⟩
    case measure=>have:=HLT.out;simp[intOf];omega
  have hje:j=ns.length:=by omega
  subst hje
  have x1:¬ ((ns.length:Int)<(ns.length:Int)):=by omega
  obtain⟨cs,hcs1,hcs2⟩:=HJ.out.2.blk
  have hny:∀ k,k<7→∃ u,wr.cell? ⟨w.heap.size+2,ns.length*7+k,none⟩=some u:=fun k hk=>⟨cs[ns.length*7+k]'(by omega),by simp[World.cell?,hcs1,show ns.length*7+k<cs.size by omega]⟩
  obtain⟨u0,y0⟩:∃ u,wr.cell? ⟨w.heap.size+2,ns.length*7,none⟩=some u:=hny 0 (by omega)
  obtain⟨u1,y1⟩:∃ u,wr.cell? ⟨w.heap.size+2,ns.length*7+1,none⟩=some u:=hny 1 (by omega)
  obtain⟨u2,y2⟩:∃ u,wr.cell? ⟨w.heap.size+2,ns.length*7+2,none⟩=some u:=hny 2 (by omega)
  obtain⟨u3,y3⟩:∃ u,wr.cell? ⟨w.heap.size+2,ns.length*7+3,none⟩=some u:=hny 3 (by omega)
  obtain⟨u4,y4⟩:∃ u,wr.cell? ⟨w.heap.size+2,ns.length*7+4,none⟩=some u:=hny 4 (by omega)
  obtain⟨u5,y5⟩:∃ u,wr.cell? ⟨w.heap.size+2,ns.length*7+5,none⟩=some u:=hny 5 (by omega)
  obtain⟨u6,y6⟩:∃ u,wr.cell? ⟨w.heap.size+2,ns.length*7+6,none⟩=some u:=hny 6 (by omega)
  have fz:∀ k:Nat,wr.frozen? ⟨w.heap.size+2,k,none⟩=false:=fun k=>by simp[World.frozen?,hcs1]
  have f0:=fz (ns.length*7)
  have f1:=fz (ns.length*7+1)
  have f2:=fz (ns.length*7+2)
  have f3:=fz (ns.length*7+3)
  have f4:=fz (ns.length*7+4)
  have f5:=fz (ns.length*7+5)
  have f6:=fz (ns.length*7+6)
  have i1:(0:Int)≤(ns.length:Int):=by omega
  have i3:(ns.length:Int)<(ns.length:Int)+1:=by omega
  have HCS:Hid (wr.heap[w.heap.size+2]?=some (.cells cs 68 (0,0))∧cs.size=(ns.length+1)*7):=⟨hcs1,hcs2⟩
  clear hny fz hcs1 hcs2 hlt hj
  go_upto_region 21 with fail
  obtain⟨V3,hV3⟩:∃ V3,V3=wr.setCells (w.heap.size+2) (ns.length*7) [.int .i64 (-7),.int .i64 0,.int .i64 0,.string ⟨#[]⟩,.slice none 0 0,.slice none 0 0,.int .i64 0]:=⟨_,rfl⟩
  rw[show (((((((wr.setCell ⟨w.heap.size+2,ns.length*7,none⟩ (.int .i64 (-7))).setCell ⟨w.heap.size+2,ns.length*7+1,none⟩ (.int .i64 0)).setCell ⟨w.heap.size+2,ns.length*7+2,none⟩ (.int .i64 0)).setCell ⟨w.heap.size+2,ns.length*7+3,none⟩ (.string ⟨#[]⟩)).setCell ⟨w.heap.size+2,ns.length*7+4,none⟩ (.slice none 0 0)).setCell ⟨w.heap.size+2,ns.length*7+5,none⟩ (.slice none 0 0)).setCell ⟨w.heap.size+2,ns.length*7+6,none⟩ (.int .i64 0))=V3 by rw[hV3];rfl]
  clear y0 y1 y2 y3 y4 y5 y6 f0 f1 f2 f3 f4 f5 f6 x1 c0
  have hk3:Keep (fun k=>k=w.heap.size+2) wr V3:=by rw[hV3];exact keep_sc _ _ _ _
  have hlb:=lt_of_heap HCS.out.1
  have hbx:=(hk3.block w.heap.size (by omega) (by omega)).trans HJ.out.2.box
  have hrs:=(hk3.block (w.heap.size+1) (by omega) (by omega)).trans HJ.out.2.res
  have HV:Hid (V3=wr.setCells (w.heap.size+2) (ns.length*7) [.int .i64 (-7),.int .i64 0,.int .i64 0,.string ⟨#[]⟩,.slice none 0 0,.slice none 0 0,.int .i64 0]∧Keep (fun k=>k=w.heap.size+2) wr V3∧w.heap.size+2<wr.heap.size∧V3.heap[w.heap.size+1]?=some (.cells #[.slice none 0 0] 25 (0,0))):=⟨hV3,hk3,hlb,hrs⟩
  have c0:V3.cell? ⟨w.heap.size,0,none⟩=some (.slice a ns.length nc):=by simp[World.cell?,hbx]
  have r0:V3.cell? ⟨w.heap.size+1,0,none⟩=some (.slice none 0 0):=by simp[World.cell?,hrs]
  have rz:V3.frozen? ⟨w.heap.size+1,0,none⟩=false:=by simp[World.frozen?,hrs]
  have j2:(ns.length:Int)≤(ns.length:Int)+1:=by omega
  clear hV3 hk3 hlb hbx hrs
  go_wp2
  have hk5:=heap_setCell_same V3 (w.heap.size+1) 0 _ _ (.slice (some ⟨w.heap.size+2,0,none⟩) ns.length (ns.length+1)) HV.out.2.2.2
  refine bodyPost_ret (v:=.agg #[.slice (some ⟨w.heap.size+2,0,none⟩) ns.length (ns.length+1)]) (by simp[results,Tryz.results11,go_sem,World.cell?,hk5]) rfl ?_
  obtain⟨hc1,hc2⟩:=HCS.out
  obtain⟨hV3,hk3,hlb,_⟩:=HV.out
  have hz3:=hk3.size
  have ho:∀ k,k≠w.heap.size+1→(V3.setCell ⟨w.heap.size+1,0,none⟩ (.slice (some ⟨w.heap.size+2,0,none⟩) ns.length (ns.length+1))).heap[k]?=V3.heap[k]?:=fun k hk=>heap_setCell_other _ _ _ _ hk
  have hzz:(V3.setCell ⟨w.heap.size+1,0,none⟩ (.slice (some ⟨w.heap.size+2,0,none⟩) ns.length (ns.length+1))).heap.size=V3.heap.size:=by simp[World.setCell]
  have hup:∀ k,w.heap.size+2<k→k<wr.heap.size→(V3.setCell ⟨w.heap.size+1,0,none⟩ (.slice (some ⟨w.heap.size+2,0,none⟩) ns.length (ns.length+1))).heap[k]?=wr.heap[k]?:=fun k h1 h2=>(ho k (by omega)).trans (hk3.block k h2 (by omega))
  have hcl:∀ o,(V3.setCell ⟨w.heap.size+1,0,none⟩ (.slice (some ⟨w.heap.size+2,0,none⟩) ns.length (ns.length+1))).cell? ⟨w.heap.size+2,o,none⟩=V3.cell? ⟨w.heap.size+2,o,none⟩:=fun o=>World.cell?_of_block (ho (w.heap.size+2) (by omega))
  have b3:=HJ.out.2.low.trans (hk3.below (B:=w.heap.size) (fun k hk e=>by omega) HJ.out.2.low.size)
  refine⟨b3.setCell (p:=⟨w.heap.size+1,0,none⟩) (by show w.heap.size≤w.heap.size+1;omega) _,w.heap.size+2,nds',rfl,⟨HJ.out.1,fun i nd hi=>?_,fun i nd n hi hn'=>(HJ.out.2.own i nd n hi hn') _ fun k h1 h2=>hup k h1 h2,?_⟩⟩
  ·have hil:=(List.getElem?_eq_some_iff.1 hi).1
   have hl:=HJ.out.1
   have hno:∀ k v,k<7→wr.cell? ⟨w.heap.size+2,i*7+k,none⟩=some v→(V3.setCell ⟨w.heap.size+1,0,none⟩ (.slice (some ⟨w.heap.size+2,0,none⟩) ns.length (ns.length+1))).cell? ⟨w.heap.size+2,i*7+k,none⟩=some v:=fun k v hk hv=>by
    rw[hcl,hV3,sc_out (.inl (by omega))]
    exact hv
   obtain⟨q0,q1,q2,q3,q4,q5,q6⟩:=HJ.out.2.at_ i nd hi
   exact⟨hno 0 _ (by omega) q0,hno 1 _ (by omega) q1,hno 2 _ (by omega) q2,hno 3 _ (by omega) q3,hno 4 _ (by omega) q4,hno 5 _ (by omega) q5,hno 6 _ (by omega) q6⟩
  rw[hcl,hV3]
  exact sc_in (j:=0) hc1 (by simp only[List.length_cons,List.length_nil];omega) rfl
end Go.Proofs.YtkgibdjakgmmcaaGreatDoor
