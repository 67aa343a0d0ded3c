/- Does a plan that was handed over read as it did? -/
import Derived.Test.YtkgibdjakgmmcaaGreatDoorWb
set_option maxHeartbeats 4000000
set_option maxRecDepth 100000
namespace Go.Proofs.YtkgibdjakgmmcaaGreatDoor
open Go.RowKit Go.Shelf
attribute [local go_sem] Oper.semAt_some
theorem fieldsK : (Tryz.prog.fieldsOf 79).toList.map (fun f => (f.name, f.type, f.offset)) = [("Col", 3, 0), ("Other", 3, 1), ("Down", 4, 2), ("Fn", 3, 3)] := by kernel_rfl
theorem underK:Tryz.prog.underlying 79=some (.struct (Tryz.prog.fieldsOf 79)):=by kernel_rfl
theorem sihK:Tryz.prog.stoodInHeld 79=false:=by kernel_rfl
theorem fieldsPt : (Tryz.prog.fieldsOf 63).toList.map (fun f => (f.name, f.type, f.offset)) = [("Op", 3, 0), ("L", 3, 1), ("R", 3, 2), ("Col", 3, 3), ("V", 61, 4)] := by kernel_rfl
theorem underPt:Tryz.prog.underlying 63=some (.struct (Tryz.prog.fieldsOf 63)):=by kernel_rfl
theorem sihPt:Tryz.prog.stoodInHeld 63=false:=by kernel_rfl
abbrev Kz.val (k:Kz):Value:=.agg #[.int .i64 k.c,.int .i64 k.o,.bool k.d,.int .i64 k.f]
theorem run_eql_K (k:Kz)(w:World):(binOp .eql 79 k.val k.val).run Tryz.prog w=.ok (.bool true) w:=by
 have h1:(Op.equal 79 k.val k.val).run Tryz.prog w=.ok true w:=by
  rw[Op.equal,Op.maxDepth,run_equalIn_struct w 9999 79 _ _ underK sihK]
  have h:=fieldsK
  generalize (Tryz.prog.fieldsOf 79).toList=fs at h
  rcases fs with _|⟨f0,_|⟨f1,_|⟨f2,_|⟨f3,_|⟨f4,fs⟩⟩⟩⟩⟩
  ·simp at h
  ·simp at h
  ·simp at h
  ·simp at h
  ·simp at h
   obtain⟨⟨h1,h2,h3⟩,⟨h4,h5,h6⟩,⟨h7,h8,h9⟩,i1,i2,i3⟩:=h
   simp[Op.eqFields,h1,h2,h3,h4,h5,h6,h7,h8,h9,i1,i2,i3,part,sizeOf,go_sem]
  simp at h
 simp[binOp,h1]
theorem run_eql_P (p:Pt)(w:World):(binOp .eql 63 p.val p.val).run Tryz.prog w=.ok (.bool true) w:=by
 have h1:(Op.equal 63 p.val p.val).run Tryz.prog w=.ok true w:=by
  rw[Op.equal,Op.maxDepth,run_equalIn_struct w 9999 63 _ _ underPt sihPt]
  have h:=fieldsPt
  generalize (Tryz.prog.fieldsOf 63).toList=fs at h
  rcases fs with _|⟨f0,_|⟨f1,_|⟨f2,_|⟨f3,_|⟨f4,_|⟨f5,fs⟩⟩⟩⟩⟩⟩
  ·simp at h
  ·simp at h
  ·simp at h
  ·simp at h
  ·simp at h
  ·simp at h
   obtain⟨⟨h1,h2,h3⟩,⟨h4,h5,h6⟩,⟨h7,h8,h9⟩,⟨i1,i2,i3⟩,i4,i5,i6⟩:=h
   have hs:Tryz.t61.size=3:=by kernel_rfl
   simp[Op.eqFields,h1,h2,h3,h4,h5,h6,h7,h8,h9,i1,i2,i3,i4,i5,i6,part,sizeOf,go_sem,hs]
  simp at h
 simp[binOp,h1]
structure NdOwn (w:World) (nd:Nd) (n:QN):Prop where
 is:NdQ w nd n
 ky:∃ kb,nd.ky=(some ⟨kb,0,none⟩,n.ks.length,n.ks.length+1)∧w.cell? ⟨kb,n.ks.length*4,none⟩=some (.int .i64 (-7))
 xs:∃ eb,nd.xs=(some ⟨eb,0,none⟩,n.es.length,n.es.length+1)∧∀ (i:Nat) (es:List Pt),n.es[i]?=some es→∃ pb,w.cell? ⟨eb,i,none⟩=some (.slice (some ⟨pb,0,none⟩) es.length (es.length+1))∧w.cell? ⟨pb,es.length*7,none⟩=some (.int .i64 (-7))∧PtsIn w (some ⟨pb,0,none⟩) es
theorem NdOwn.below {w X:World}{nd:Nd}{n:QN}(h:NdOwn w nd n)(hb:Below w.heap.size w X):NdOwn X nd n:=by
 obtain⟨h1,⟨kb,h2,h3⟩,eb,h4,h5⟩:=h
 refine⟨h1.below hb,⟨kb,h2,cell_below hb h3⟩,eb,h4,fun i es hi=>?_⟩
 obtain⟨pb,q1,q2,q3⟩:=h5 i es hi
 exact⟨pb,cell_below hb q1,cell_below hb q2,q3.below hb⟩
theorem sameNode_any (nd' nd:Nd)(n:QN)(w:World)(hO:NdOwn w nd' n)(hQ:NdQ w nd n)(hk:n.ks.length≤10000000000000)(he:n.es.length≤10000000000000)(hp:∀ es∈n.es,es.length≤10000000000000) :
  Calls Tryz.prog 23 #[nd'.val,nd.val] w fun e w'=>e=.returned (.bool true)∧Below w.heap.size w w':=by
 obtain⟨opn,ln,rn,tnn,es,ks,kkn⟩:=n
 obtain⟨op',l',r',tn',xs',ky',kk'⟩:=nd'
 obtain⟨op,l,r,tn,⟨xa,xn,xc⟩,⟨ka,kn,kc⟩,kk⟩:=nd
 obtain⟨⟨q1,q2,q3,q4,q5,q6,q7,q8,q9⟩,⟨kb,q10,q11⟩,eb,q12,q13⟩:=hO
 obtain⟨p1,p2,p3,p4,p5,p6,p7,p8,p9⟩:=hQ
 simp only at q1 q2 q3 q4 q5 q6 q7 q8 q9 q10 q11 q12 q13 p1 p2 p3 p4 p5 p6 p7 p8 p9 hk he hp
 subst q1 q2 q3 q4 q5 q10 q12 p1 p2 p3 p4 p5 p6 p8
 clear q6 q8
 have HM:Hid (KzsAt w (some ⟨kb,0,none⟩) ks∧KzsAt w ka ks∧EsIn w xa es∧w.cell? ⟨kb,ks.length*4,none⟩=some (.int .i64 (-7))∧(∀ (i:Nat) (e:List Pt),es[i]?=some e→∃ pb,w.cell? ⟨eb,i,none⟩=some (.slice (some ⟨pb,0,none⟩) e.length (e.length+1))∧w.cell? ⟨pb,e.length*7,none⟩=some (.int .i64 (-7))∧PtsIn w (some ⟨pb,0,none⟩) e)∧∀ e∈es,e.length≤10000000000000):=⟨q9,p9,p7,q11,q13,hp⟩
 clear q7 q9 q11 q13 p7 p9 hp
 unfold Nd.val
 obtain⟨W,hW⟩:∃ W,W=(w.alloc (.cells #[.int .i64 op,.int .i64 l,.int .i64 r,.string tn,.slice (some ⟨eb,0,none⟩) es.length (es.length+1),.slice (some ⟨kb,0,none⟩) ks.length (ks.length+1),.int .i64 kk] 68)).alloc (.cells #[.int .i64 op,.int .i64 l,.int .i64 r,.string tn,.slice xa es.length xc,.slice ka ks.length kc,.int .i64 kk] 68):=⟨_,rfl⟩
 have HW:Hid (Below w.heap.size w W∧W.heap.size=w.heap.size+2∧W.heap[w.heap.size]?=some (.cells #[.int .i64 op,.int .i64 l,.int .i64 r,.string tn,.slice (some ⟨eb,0,none⟩) es.length (es.length+1),.slice (some ⟨kb,0,none⟩) ks.length (ks.length+1),.int .i64 kk] 68 (0,0))∧W.heap[w.heap.size+1]?=some (.cells #[.int .i64 op,.int .i64 l,.int .i64 r,.string tn,.slice xa es.length xc,.slice ka ks.length kc,.int .i64 kk] 68 (0,0))):=by
  rw[hW]
  refine⟨((Below.refl _ w).alloc (Nat.le_refl _) _).alloc (by simp) _,by simp,?_,?_⟩
  ·rw[Below.heap_alloc _ _ _ (by simp only[World.size_alloc];omega)]
   exact heap_alloc_new _ _
  have:=heap_alloc_new (w.alloc (.cells #[.int .i64 op,.int .i64 l,.int .i64 r,.string tn,.slice (some ⟨eb,0,none⟩) es.length (es.length+1),.slice (some ⟨kb,0,none⟩) ks.length (ks.length+1),.int .i64 kk] 68)) (.cells #[.int .i64 op,.int .i64 l,.int .i64 r,.string tn,.slice xa es.length xc,.slice ka ks.length kc,.int .i64 kk] 68)
  rwa [World.size_alloc]at this
 have k0:IntKind.i64.wrap ((ks.length:Int)+1)=(ks.length:Int)+1:=by rw[IntKind.wrap_i64];omega
 have k1:(0:Int)≤(ks.length:Int)+1:=by omega
 have k2:((ks.length:Int)+1).toNat=ks.length+1:=by omega
 have k3:(0:Int)≤(ks.length:Int):=by omega
 have k4:(ks.length:Int)<(ks.length:Int)+1:=by omega
 go_enter Tryz.func23,Tryz.ntmps23
 go_upto_region 1 with fail
 rw[←hW]
 clear hW
 have c0:W.cell? ⟨w.heap.size,0,none⟩=some (.int .i64 op):=by simp[World.cell?,HW.out.2.2.1]
 have c1:W.cell? ⟨w.heap.size,1,none⟩=some (.int .i64 l):=by simp[World.cell?,HW.out.2.2.1]
 have c2:W.cell? ⟨w.heap.size,2,none⟩=some (.int .i64 r):=by simp[World.cell?,HW.out.2.2.1]
 have c3:W.cell? ⟨w.heap.size,3,none⟩=some (.string tn):=by simp[World.cell?,HW.out.2.2.1]
 have c4:W.cell? ⟨w.heap.size,4,none⟩=some (.slice (some ⟨eb,0,none⟩) es.length (es.length+1)):=by simp[World.cell?,HW.out.2.2.1]
 have c5:W.cell? ⟨w.heap.size,5,none⟩=some (.slice (some ⟨kb,0,none⟩) ks.length (ks.length+1)):=by simp[World.cell?,HW.out.2.2.1]
 have c6:W.cell? ⟨w.heap.size,6,none⟩=some (.int .i64 kk):=by simp[World.cell?,HW.out.2.2.1]
 have e0:W.cell? ⟨w.heap.size+1,0,none⟩=some (.int .i64 op):=by simp[World.cell?,HW.out.2.2.2]
 have e1:W.cell? ⟨w.heap.size+1,1,none⟩=some (.int .i64 l):=by simp[World.cell?,HW.out.2.2.2]
 have e2:W.cell? ⟨w.heap.size+1,2,none⟩=some (.int .i64 r):=by simp[World.cell?,HW.out.2.2.2]
 have e3:W.cell? ⟨w.heap.size+1,3,none⟩=some (.string tn):=by simp[World.cell?,HW.out.2.2.2]
 have e4:W.cell? ⟨w.heap.size+1,4,none⟩=some (.slice xa es.length xc):=by simp[World.cell?,HW.out.2.2.2]
 have e5:W.cell? ⟨w.heap.size+1,5,none⟩=some (.slice ka ks.length kc):=by simp[World.cell?,HW.out.2.2.2]
 have e6:W.cell? ⟨w.heap.size+1,6,none⟩=some (.int .i64 kk):=by simp[World.cell?,HW.out.2.2.2]
 have v1:=cell_below HW.out.1 HM.out.2.2.2.1
 go_upto_region 6 with fail
 clear c0 e0 c1 e1 c2 e2 c3 e3 c4 e4 c5 e5 c6 e6
 clear v1 k0 k1 k2 k3 k4
 go_loopw [6,7] (fun okv iv' wr=>∃ j:Nat,okv=.bool true∧iv'=.int .i64 (j:Int)∧j≤ks.length∧Below W.heap.size W wr) (fun _ iv' _=>ks.length-(intOf iv').toNat)
 case atStart=>exact⟨0,rfl,rfl,Nat.zero_le _,Below.refl _ _⟩
 case round=>
  obtain⟨j,rfl,rfl,hj,hbw⟩:=hrel
  have HBW:Hid (Below W.heap.size W wr∧Below w.heap.size w wr):=⟨hbw,below_then HW.out.1 hbw⟩
  have hk0:=(hbw.block _ (by have:=HW.out.2.1;omega)).trans HW.out.2.2.1
  have hk1:=(hbw.block _ (by have:=HW.out.2.1;omega)).trans HW.out.2.2.2
  clear hbw
  by_cases hlt:j<ks.length
  ·have HLT:Hid (j<ks.length):=hlt
   obtain⟨b1,o1,ee1,y0,y1,y2,y3⟩:=HM.out.1 j ks[j] (List.getElem?_eq_getElem hlt)
   obtain⟨b2,o2,ee2,z0,z1,z2,z3⟩:=HM.out.2.1 j ks[j] (List.getElem?_eq_getElem hlt)
   cases ee1
   subst ee2
   generalize ks[j]=kz at y0 y1 y2 y3 z0 z1 z2 z3
   have hq:=run_eql_K kz
   have c5:wr.cell? ⟨w.heap.size,5,none⟩=some (.slice (some ⟨kb,0,none⟩) ks.length (ks.length+1)):=by simp[World.cell?,hk0]
   have e5:wr.cell? ⟨w.heap.size+1,5,none⟩=some (.slice (some ⟨b2,o2,none⟩) ks.length kc):=by simp[World.cell?,hk1]
   have i1:(0:Int)≤(j:Int):=by omega
   have i2:(j:Int)<(ks.length:Int):=by omega
   rw[Nat.zero_add]at y0 y1 y2 y3
   clear hk0 hk1 hlt
   go_upto_region 8 with fail
   refine wp_region_held_drew (S:=fun X=>(X.cell? ⟨w.heap.size,5,none⟩=some (.slice (some ⟨kb,0,none⟩) ks.length (ks.length+1))∧X.cell? ⟨w.heap.size+1,5,none⟩=some (.slice (some ⟨b2,o2,none⟩) ks.length kc)∧X.cell? ⟨kb,j*4,none⟩=some (.int .i64 kz.c)∧X.cell? ⟨kb,j*4+1,none⟩=some (.int .i64 kz.o)∧X.cell? ⟨kb,j*4+2,none⟩=some (.bool kz.d)∧X.cell? ⟨kb,j*4+3,none⟩=some (.int .i64 kz.f))∧X.cell? ⟨b2,o2+j*4,none⟩=some (.int .i64 kz.c)∧X.cell? ⟨b2,o2+j*4+1,none⟩=some (.int .i64 kz.o)∧X.cell? ⟨b2,o2+j*4+2,none⟩=some (.bool kz.d)∧X.cell? ⟨b2,o2+j*4+3,none⟩=some (.int .i64 kz.f)) (by kernel_rfl) ⟨⟨cell_drew c5,cell_drew e5,cell_drew (cell_below HBW.out.2 y0),cell_drew (cell_below HBW.out.2 y1),cell_drew (cell_below HBW.out.2 y2),cell_drew (cell_below HBW.out.2 y3)⟩,cell_drew (cell_below HBW.out.2 z0),cell_drew (cell_below HBW.out.2 z1),cell_drew (cell_below HBW.out.2 z2),cell_drew (cell_below HBW.out.2 z3)⟩ (fun hH=>?_)
   refine tkj 0 rfl hH ?_
   refine tkj 1 rfl hH ?_
   refine tkj 2 rfl hH ?_
   refine tkn ?_
   refine tkj 3 rfl hH ?_
   refine tkj 4 rfl hH ?_
   refine tkj 5 rfl hH ?_
   refine tkn ?_
   refine tkj 6 rfl hH ?_
   refine tkj 7 rfl hH ?_
   refine tkj 8 rfl hH ?_
   refine tkn ?_
   refine tkj 9 rfl hH ?_
   refine tkj 10 rfl hH ?_
   refine tkj 11 rfl hH ?_
   refine tkn ?_
   refine tkj 12 rfl hH ?_
   refine tkj 13 rfl hH ?_
   refine tkj 14 rfl hH ?_
   refine tkn ?_
   refine wpAnyH_done (by kernel_rfl) ?_ _
   clear hH y0 y1 y2 y3 z0 z1 z2 z3 c5 e5 hq
   go_wp2
   go_roundw
   case rel=>exact⟨j+1,rfl,by have:=HLT.out;go_num,HLT.out,below_drew1 HBW.out.1⟩
   case measure=>have:=HLT.out;simp[intOf];omega
  have x1:¬ ((j:Int)<(ks.length:Int)):=by omega
  clear hk0 hk1
  go_upto_region 10 with fail
  clear x1
  go_loopw [6,8] (fun okv iv' wx=>∃ i:Nat,okv=.bool true∧iv'=.int .i64 (i:Int)∧i≤es.length∧Below W.heap.size W wx) (fun _ iv' _=>es.length-(intOf iv').toNat)
  case atStart=>exact⟨0,rfl,rfl,Nat.zero_le _,HBW.out.1⟩
  case round=>
   clear HBW
   obtain⟨i,rfl,rfl,hi,hbw⟩:=hrel
   have HBW:Hid (Below W.heap.size W wr∧Below w.heap.size w wr):=⟨hbw,below_then HW.out.1 hbw⟩
   have hk0:=(hbw.block _ (by have:=HW.out.2.1;omega)).trans HW.out.2.2.1
   have hk1:=(hbw.block _ (by have:=HW.out.2.1;omega)).trans HW.out.2.2.2
   have c4:wr.cell? ⟨w.heap.size,4,none⟩=some (.slice (some ⟨eb,0,none⟩) es.length (es.length+1)):=by simp[World.cell?,hk0]
   have e4:wr.cell? ⟨w.heap.size+1,4,none⟩=some (.slice xa es.length xc):=by simp[World.cell?,hk1]
   clear hbw hk0 hk1
   by_cases hlt2:i<es.length
   ·have HLT:Hid (i<es.length):=hlt2
    obtain⟨b2,o2,pa,pc,ee2,z0,z1⟩:=HM.out.2.2.1 i es[i] (List.getElem?_eq_getElem hlt2)
    obtain⟨pb,y0,y1,y2⟩:=HM.out.2.2.2.2.1 i es[i] (List.getElem?_eq_getElem hlt2)
    have hpl:=HM.out.2.2.2.2.2 es[i] (List.getElem_mem hlt2)
    subst ee2
    generalize es[i]=ps at z0 z1 y0 y1 y2 hpl
    have HPS:Hid (PtsIn w pa ps∧PtsIn w (some ⟨pb,0,none⟩) ps):=⟨z1,y2⟩
    have z0':=cell_below HBW.out.2 z0
    have y0':=cell_below HBW.out.2 y0
    have y1':=cell_below HBW.out.2 y1
    have i1:(0:Int)≤(i:Int):=by omega
    have i2:(i:Int)<(es.length:Int):=by omega
    have k0:IntKind.i64.wrap ((ps.length:Int)+1)=(ps.length:Int)+1:=by rw[IntKind.wrap_i64];omega
    have k1:(0:Int)≤(ps.length:Int)+1:=by omega
    have k2:((ps.length:Int)+1).toNat=ps.length+1:=by omega
    have k3:(0:Int)≤(ps.length:Int):=by omega
    have k4:(ps.length:Int)<(ps.length:Int)+1:=by omega
    have HC:Hid (wr.cell? ⟨w.heap.size,4,none⟩=some (.slice (some ⟨eb,0,none⟩) es.length (es.length+1))∧wr.cell? ⟨w.heap.size+1,4,none⟩=some (.slice (some ⟨b2,o2,none⟩) es.length xc)∧wr.cell? ⟨eb,i,none⟩=some (.slice (some ⟨pb,0,none⟩) ps.length (ps.length+1))∧wr.cell? ⟨b2,o2+i,none⟩=some (.slice pa ps.length pc)):=⟨c4,e4,y0',z0'⟩
    clear hlt2 z0 z1 y0 y1 y2
    go_upto_region 17 with fail
    clear c4 e4 z0' y0' y1' k0 k1 k2 k3 k4
    obtain⟨V0,hV0⟩:∃ V0,V0=wr:=⟨_,rfl⟩
    subst hV0
    go_loopw [6,10] (fun okv iv' wx=>∃ m:Nat,okv=.bool true∧iv'=.int .i64 (m:Int)∧m≤ps.length∧Below V0.heap.size V0 wx) (fun _ iv' _=>ps.length-(intOf iv').toNat)
    case atStart=>exact⟨0,rfl,rfl,Nat.zero_le _,Below.refl _ _⟩
    case round=>
     obtain⟨m,rfl,rfl,hm,hbx⟩:=hrel
     have HBX:Hid (Below V0.heap.size V0 wr):=hbx
     by_cases hltm:m<ps.length
     ·have HLM:Hid (m<ps.length):=hltm
      obtain⟨b3,o3,ee3,u0,u1,u2,u3,u4,u5,u6⟩:=HPS.out.1 m ps[m] (List.getElem?_eq_getElem hltm)
      obtain⟨b4,o4,ee4,v0,v1,v2,v3,v4,v5,v6⟩:=HPS.out.2 m ps[m] (List.getElem?_eq_getElem hltm)
      cases ee4
      subst ee3
      generalize ps[m]=pt at u0 u1 u2 u3 u4 u5 u6 v0 v1 v2 v3 v4 v5 v6
      have hq:=run_eql_P pt
      have hbz:=below_then HBW.out.2 hbx
      have d1:=cell_below hbx HC.out.1
      have d2:=cell_below hbx HC.out.2.1
      have d3:=cell_below hbx HC.out.2.2.1
      have d4:=cell_below hbx HC.out.2.2.2
      have i3:(0:Int)≤(m:Int):=by omega
      have i4:(m:Int)<(ps.length:Int):=by omega
      rw[Nat.zero_add]at v0 v1 v2 v3 v4 v5 v6
      clear hbx hltm
      go_upto_region 19 with fail
      refine wp_region_held_drew (S:=fun X=>(X.cell? ⟨w.heap.size,4,none⟩=some (.slice (some ⟨eb,0,none⟩) es.length (es.length+1))∧X.cell? ⟨w.heap.size+1,4,none⟩=some (.slice (some ⟨b2,o2,none⟩) es.length xc)∧X.cell? ⟨eb,i,none⟩=some (.slice (some ⟨pb,0,none⟩) ps.length (ps.length+1))∧X.cell? ⟨b2,o2+i,none⟩=some (.slice (some ⟨b3,o3,none⟩) ps.length pc))∧(X.cell? ⟨b3,o3+m*7,none⟩=some (.int .i64 pt.op)∧X.cell? ⟨b3,o3+m*7+1,none⟩=some (.int .i64 pt.l)∧X.cell? ⟨b3,o3+m*7+2,none⟩=some (.int .i64 pt.r)∧X.cell? ⟨b3,o3+m*7+3,none⟩=some (.int .i64 pt.c)∧X.cell? ⟨b3,o3+m*7+4,none⟩=some (.int .i64 pt.v.k)∧X.cell? ⟨b3,o3+m*7+5,none⟩=some (.int .i64 pt.v.n)∧X.cell? ⟨b3,o3+m*7+6,none⟩=some (.string pt.v.s))∧X.cell? ⟨pb,m*7,none⟩=some (.int .i64 pt.op)∧X.cell? ⟨pb,m*7+1,none⟩=some (.int .i64 pt.l)∧X.cell? ⟨pb,m*7+2,none⟩=some (.int .i64 pt.r)∧X.cell? ⟨pb,m*7+3,none⟩=some (.int .i64 pt.c)∧X.cell? ⟨pb,m*7+4,none⟩=some (.int .i64 pt.v.k)∧X.cell? ⟨pb,m*7+5,none⟩=some (.int .i64 pt.v.n)∧X.cell? ⟨pb,m*7+6,none⟩=some (.string pt.v.s)) (by kernel_rfl) ⟨⟨cell_drew d1,cell_drew d2,cell_drew d3,cell_drew d4⟩,⟨cell_drew (cell_below hbz u0),cell_drew (cell_below hbz u1),cell_drew (cell_below hbz u2),cell_drew (cell_below hbz u3),cell_drew (cell_below hbz u4),cell_drew (cell_below hbz u5),cell_drew (cell_below hbz u6)⟩,cell_drew (cell_below hbz v0),cell_drew (cell_below hbz v1),cell_drew (cell_below hbz v2),cell_drew (cell_below hbz v3),cell_drew (cell_below hbz v4),cell_drew (cell_below hbz v5),cell_drew (cell_below hbz v6)⟩ (fun hH=>?_)
      refine tkj 0 rfl hH ?_
      refine tkj 1 rfl hH ?_
      refine tkj 2 rfl hH ?_
      refine tkn ?_
      refine tkj 3 rfl hH ?_
      refine tkj 4 rfl hH ?_
      refine tkj 5 rfl hH ?_
      refine tkn ?_
      refine tkj 6 rfl hH ?_
      refine tkj 7 rfl hH ?_
      refine tkj 8 rfl hH ?_
      refine tkn ?_
      refine tkj 9 rfl hH ?_
      refine tkj 10 rfl hH ?_
      refine tkj 11 rfl hH ?_
      refine tkn ?_
      refine tkj 12 rfl hH ?_
      refine tkj 13 rfl hH ?_
      refine tkj 14 rfl hH ?_
      refine tkn ?_
      refine tkj 15 rfl hH ?_
      refine tkj 16 rfl hH ?_
      refine tkj 17 rfl hH ?_
      refine tkn ?_
      refine tkj 18 rfl hH ?_
      refine tkj 19 rfl hH ?_
      refine tkj 20 rfl hH ?_
      refine tkn ?_
      refine wpAnyH_done (by kernel_rfl) ?_ _
      clear hH u0 u1 u2 u3 u4 u5 u6 v0 v1 v2 v3 v4 v5 v6 d1 d2 d3 d4 hq hbz
      go_wp2
      go_roundw
      case rel=>exact⟨m+1,rfl,by have:=HLM.out;go_num,HLM.out,below_drew1 HBX.out⟩
      case measure=>have:=HLM.out;simp[intOf];omega
     have x1:¬ ((m:Int)<(ps.length:Int)):=by omega
     clear hbx
     go_wp2
     go_roundw
     case rel=>exact⟨i+1,rfl,by have:=HLT.out;go_num,HLT.out,below_then HBW.out.1 HBX.out⟩
     case measure=>have:=HLT.out;simp[intOf];omega
   have x1:¬ ((i:Int)<(es.length:Int)):=by omega
   go_wp2
   go_ret
   exact⟨rfl,HBW.out.2⟩
attribute [local go_sem] Oper.semAt_some
def PlnSz (ns:List QN):Prop:=ns.length≤1470000000000∧∀ n∈ns,n.ks.length≤4400000000000∧n.es.length≤5900000000000∧∀ es∈n.es,es.length≤2200000000000
structure PlnOwn (w:World) (nb:Nat) (nds:List Nd) (ns:List QN):Prop where
 len:nds.length=ns.length
 at_:∀ (j:Nat) (nd:Nd),nds[j]?=some nd→NodeAt w nb (j*7) nd
 own:∀ (j:Nat) (nd:Nd) (n:QN),nds[j]?=some nd→ns[j]?=some n→NdOwn w nd n
 mark:w.cell? ⟨nb,ns.length*7,none⟩=some (.int .i64 (-7))
theorem PlnOwn.pln {w:World}{nb:Nat}{nds:List Nd}{ns:List QN}(h:PlnOwn w nb nds ns):PlnAt w (some ⟨nb,0,none⟩) nds ns:=
 ⟨h.len,fun j nd hj=>⟨nb,0,rfl,by rw[Nat.zero_add];exact h.at_ j nd hj⟩,fun j nd n hj hn=>(h.own j nd n hj hn).is⟩
theorem PlnOwn.below {w X:World}{nb:Nat}{nds:List Nd}{ns:List QN}(h:PlnOwn w nb nds ns)(hb:Below w.heap.size w X):PlnOwn X nb nds ns:=
 ⟨h.len,fun j nd hj=>(h.at_ j nd hj).below hb,fun j nd n hj hn=>(h.own j nd n hj hn).below hb,cell_below hb h.mark⟩
theorem lIntact_any (nb:Nat)(nds':List Nd)(a:Option Addr)(nc:Nat)(nds:List Nd)(ns:List QN)(w:World)(hO:PlnOwn w nb nds' ns)(hP:PlnAt w a nds ns)(hz:PlnSz ns) :
  Calls Tryz.prog 13 #[.agg #[.slice (some ⟨nb,0,none⟩) ns.length (ns.length+1)],.agg #[.slice a ns.length nc]] w fun e w'=>e=.returned (.bool true)∧Below w.heap.size w w':=by
 have HH:Hid (PlnOwn w nb nds' ns∧PlnAt w a nds ns∧PlnSz ns):=⟨hO,hP,hz⟩
 have hn:=hz.1
 obtain⟨W,hW⟩:∃ W,W=(w.alloc (.cells #[.slice (some ⟨nb,0,none⟩) ns.length (ns.length+1)] 25)).alloc (.cells #[.slice a ns.length nc] 25):=⟨_,rfl⟩
 have HW:Hid (Below w.heap.size w W∧W.heap.size=w.heap.size+2∧W.heap[w.heap.size]?=some (.cells #[.slice (some ⟨nb,0,none⟩) ns.length (ns.length+1)] 25 (0,0))∧W.heap[w.heap.size+1]?=some (.cells #[.slice a ns.length nc] 25 (0,0))):=by
  rw[hW]
  refine⟨((Below.refl _ w).alloc (Nat.le_refl _) _).alloc (by simp) _,by simp,?_,?_⟩
  ·rw[Below.heap_alloc _ _ _ (by simp only[World.size_alloc];omega)]
   exact heap_alloc_new _ _
  have:=heap_alloc_new (w.alloc (.cells #[.slice (some ⟨nb,0,none⟩) ns.length (ns.length+1)] 25)) (.cells #[.slice a ns.length nc] 25)
  rwa [World.size_alloc]at this
 have k0:IntKind.i64.wrap ((ns.length:Int)+1)=(ns.length:Int)+1:=by rw[IntKind.wrap_i64];omega
 have k1:(0:Int)≤(ns.length:Int)+1:=by omega
 have k2:((ns.length:Int)+1).toNat=ns.length+1:=by omega
 have k3:(0:Int)≤(ns.length:Int):=by omega
 have k4:(ns.length:Int)<(ns.length:Int)+1:=by omega
 clear hO hP hz
 go_enter Tryz.func13,Tryz.ntmps13
 go_upto_region 1 with fail
 rw[←hW]
 clear hW
 have c0:W.cell? ⟨w.heap.size,0,none⟩=some (.slice (some ⟨nb,0,none⟩) ns.length (ns.length+1)):=by simp[World.cell?,HW.out.2.2.1]
 have e0:W.cell? ⟨w.heap.size+1,0,none⟩=some (.slice a ns.length nc):=by simp[World.cell?,HW.out.2.2.2]
 have v1:=cell_below HW.out.1 HH.out.1.mark
 go_upto_region 4 with fail
 clear v1 k0 k1 k2 k3 k4 c0 e0
 go_loopw [6,7] (fun okv iv' wr=>∃ j:Nat,okv=.bool true∧iv'=.int .i64 (j:Int)∧j≤ns.length∧Below W.heap.size W wr) (fun _ iv' _=>ns.length-(intOf iv').toNat)
 case atStart=>exact⟨0,rfl,rfl,Nat.zero_le _,Below.refl _ _⟩
 case round=>
  obtain⟨j,rfl,rfl,hj,hbw⟩:=hrel
  have HBW:Hid (Below W.heap.size W wr∧Below w.heap.size w wr):=⟨hbw,below_then HW.out.1 hbw⟩
  have hk0:=(hbw.block _ (by have:=HW.out.2.1;omega)).trans HW.out.2.2.1
  have hk1:=(hbw.block _ (by have:=HW.out.2.1;omega)).trans HW.out.2.2.2
  clear hbw
  by_cases hlt:j<ns.length
  ·have HLT:Hid (j<ns.length):=hlt
   have hl1:j<nds'.length:=by rw[HH.out.1.len];exact hlt
   have hl2:j<nds.length:=by rw[HH.out.2.1.len];exact hlt
   have g1:nds'[j]?=some nds'[j]:=List.getElem?_eq_getElem hl1
   have g2:nds[j]?=some nds[j]:=List.getElem?_eq_getElem hl2
   have g3:ns[j]?=some ns[j]:=List.getElem?_eq_getElem hlt
   obtain⟨y0,y1,y2,y3,y4,y5,y6⟩:=(HH.out.1.at_ j _ g1).below HBW.out.2
   obtain⟨b2,o2,ee2,hn2⟩:=HH.out.2.1.at_ j _ g2
   obtain⟨z0,z1,z2,z3,z4,z5,z6⟩:=hn2.below HBW.out.2
   have hsz:=HH.out.2.2.2 ns[j] (List.getElem_mem hlt)
   have HSN:Hid (∀ X,Below w.heap.size w X→Calls Tryz.prog 23 #[nds'[j].val,nds[j].val] X fun e w'=>e=.returned (.bool true)∧Below X.heap.size X w'):=fun X hX=>
    sameNode_any nds'[j] nds[j] ns[j] X ((HH.out.1.own j _ _ g1 g3).below hX) ((HH.out.2.1.is j _ _ g2 g3).below hX) (by omega) (by omega) (fun es he=>by have:=hsz.2.2 es he;omega)
   subst ee2
   generalize nds'[j]=p at y0 y1 y2 y3 y4 y5 y6 HSN
   generalize nds[j]=u at z0 z1 z2 z3 z4 z5 z6 HSN
   have c0:wr.cell? ⟨w.heap.size,0,none⟩=some (.slice (some ⟨nb,0,none⟩) ns.length (ns.length+1)):=by simp[World.cell?,hk0]
   have e0:wr.cell? ⟨w.heap.size+1,0,none⟩=some (.slice (some ⟨b2,o2,none⟩) ns.length nc):=by simp[World.cell?,hk1]
   have i1:(0:Int)≤(j:Int):=by omega
   have i2:(j:Int)<(ns.length:Int):=by omega
   clear hk0 hk1 hlt hl1 hl2 g1 g2 g3 hn2 hsz
   go_upto_region 6 with fail
   refine wp_region_held_drew (S:=fun X=>(X.cell? ⟨w.heap.size,0,none⟩=some (.slice (some ⟨nb,0,none⟩) ns.length (ns.length+1))∧X.cell? ⟨w.heap.size+1,0,none⟩=some (.slice (some ⟨b2,o2,none⟩) ns.length nc)∧Below wr.heap.size wr X)∧(X.cell? ⟨nb,j*7,none⟩=some (.int .i64 p.op)∧X.cell? ⟨nb,j*7+1,none⟩=some (.int .i64 p.l)∧X.cell? ⟨nb,j*7+2,none⟩=some (.int .i64 p.r)∧X.cell? ⟨nb,j*7+3,none⟩=some (.string p.tn)∧X.cell? ⟨nb,j*7+4,none⟩=some (.slice p.xs.1 p.xs.2.1 p.xs.2.2)∧X.cell? ⟨nb,j*7+5,none⟩=some (.slice p.ky.1 p.ky.2.1 p.ky.2.2)∧X.cell? ⟨nb,j*7+6,none⟩=some (.int .i64 p.kk))∧(X.cell? ⟨b2,o2+j*7,none⟩=some (.int .i64 u.op)∧X.cell? ⟨b2,o2+j*7+1,none⟩=some (.int .i64 u.l)∧X.cell? ⟨b2,o2+j*7+2,none⟩=some (.int .i64 u.r)∧X.cell? ⟨b2,o2+j*7+3,none⟩=some (.string u.tn)∧X.cell? ⟨b2,o2+j*7+4,none⟩=some (.slice u.xs.1 u.xs.2.1 u.xs.2.2)∧X.cell? ⟨b2,o2+j*7+5,none⟩=some (.slice u.ky.1 u.ky.2.1 u.ky.2.2)∧X.cell? ⟨b2,o2+j*7+6,none⟩=some (.int .i64 u.kk))) (by kernel_rfl) ⟨⟨cell_drew c0,cell_drew e0,below_drew1 (Below.refl _ _)⟩,⟨cell_drew y0,cell_drew y1,cell_drew y2,cell_drew y3,cell_drew y4,cell_drew y5,cell_drew y6⟩,cell_drew z0,cell_drew z1,cell_drew z2,cell_drew z3,cell_drew z4,cell_drew z5,cell_drew z6⟩ (fun hH=>?_)
   refine tkj 0 rfl hH ?_
   refine tkj 1 rfl hH ?_
   refine tkj 2 rfl hH ?_
   refine tkj 3 rfl hH ?_
   refine tkn ?_
   refine tkj 4 rfl hH ?_
   refine tkj 5 rfl hH ?_
   refine tkj 6 rfl hH ?_
   refine tkn ?_
   refine tkj 7 rfl hH ?_
   refine tkj 8 rfl hH ?_
   refine tkj 9 rfl hH ?_
   refine tkn ?_
   refine tkr 10 rfl fun K hK=>?_
   go_simp
   refine(HSN.out _ (below_then HBW.out.2 hH.1.2.2)).mono ?_
   rintro e X1 ⟨rfl,hx1⟩
   go_simp
   refine hK.out _ _ ⟨⟨cell_below hx1 hH.1.1,cell_below hx1 hH.1.2.1,below_then hH.1.2.2 hx1⟩,⟨cell_below hx1 hH.2.1.1,cell_below hx1 hH.2.1.2.1,cell_below hx1 hH.2.1.2.2.1,cell_below hx1 hH.2.1.2.2.2.1,cell_below hx1 hH.2.1.2.2.2.2.1,cell_below hx1 hH.2.1.2.2.2.2.2.1,cell_below hx1 hH.2.1.2.2.2.2.2.2⟩,cell_below hx1 hH.2.2.1,cell_below hx1 hH.2.2.2.1,cell_below hx1 hH.2.2.2.2.1,cell_below hx1 hH.2.2.2.2.2.1,cell_below hx1 hH.2.2.2.2.2.2.1,cell_below hx1 hH.2.2.2.2.2.2.2.1,cell_below hx1 hH.2.2.2.2.2.2.2.2⟩ (fun hH=>?_)
   clear hK K
   refine tkj 11 rfl hH ?_
   refine tkn ?_
   refine wpAnyH_done (by kernel_rfl) ?_ _
   have HX:Hid (Below wr.heap.size wr X1):=hH.1.2.2
   clear hH y0 y1 y2 y3 y4 y5 y6 z0 z1 z2 z3 z4 z5 z6 c0 e0 hx1
   go_wp2
   go_roundw
   case rel=>exact⟨j+1,rfl,by have:=HLT.out;go_num,HLT.out,below_then HBW.out.1 HX.out⟩
   case measure=>have:=HLT.out;simp[intOf];omega
  have x1:¬ ((j:Int)<(ns.length:Int)):=by omega
  clear hk0 hk1
  go_wp2
  go_ret
  exact⟨rfl,HBW.out.2⟩
end Go.Proofs.YtkgibdjakgmmcaaGreatDoor
