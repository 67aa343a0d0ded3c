/- The document's types of an expression, and what they are to the program's. -/
import Derived.Test.YtkgibdjakgmmcaaGreatDoorVj
set_option maxHeartbeats 4000000
set_option maxRecDepth 100000
namespace Go.Proofs.YtkgibdjakgmmcaaGreatDoor
open Go.RowKit Go.Shelf
attribute [local go_sem] Oper.semAt_some
def rty (sch T:List Int)(p:Pt):Int:=if p.op<0 then 0 else if p.op=0 then (tyI sch p.c).getD 0 else if p.op=1 then (conI p).getD 0 else rTy p.op ((tyI T p.l).getD 0) ((tyI T p.r).getD 0)
def rtys (sch:List Int):List Int→List Pt→List Int
 |T,[]=>T
 |T,p::ps=>rtys sch (T++[rty sch T p]) ps
theorem rtys_drop {sch T:List Int}{es:List Pt}{j:Nat}{p:Pt}(hp:es[j]?=some p):rtys sch T (es.drop j)=rtys sch (T++[rty sch T p]) (es.drop (j+1)):=by
 obtain⟨hj,hpj⟩:=List.getElem?_eq_some_iff.1 hp
 rw[List.drop_eq_getElem_cons hj,hpj]
 rfl
theorem rtys_len (sch:List Int):∀ (es:List Pt) (T:List Int),(rtys sch T es).length=T.length+es.length
 |[],T=>rfl
 |p::ps,T=>by
  show (rtys sch (T++[rty sch T p]) ps).length=_
  rw[rtys_len sch ps]
  simp only[List.length_append,List.length_cons,List.length_nil]
  omega
theorem addr_add (b o j:Nat):(⟨b,o,none⟩:Addr).add j=⟨b,o+j,none⟩:=by unfold Addr.add;split<;>simp_all
theorem rType_one (g c:Nat)(p:Pt)(ca:Option Addr)(cc:Nat)(sch T:List Int)(w:World)(hp:PartAt w g (0+0*7) p)(h2:p.op<2)(hS:Ints w ca sch) :
  Calls Tryz.prog 89 #[.slice (some ⟨g,0,none⟩) 1 c,.int .i64 0,.slice ca sch.length cc] w fun e w'=>e=.returned (.int .i64 (rty sch T p))∧Below w.heap.size w w':=by
 unfold rty
 by_cases hn:p.op<0
 ·rw[if_pos hn]
  exact rType_low g 0 1 c 0 p w (by omega) hp hn _
 rw[if_neg hn]
 by_cases h0:p.op=0
 ·rw[if_pos h0]
  exact rType_col g 0 1 c 0 p w (by omega) hp h0 ca cc sch hS
 rw[if_neg h0,if_pos (by omega)]
 exact rType_con g 0 1 c 0 p w (by omega) hp (by omega) _
theorem make_intsC (n:Nat)(hn:n≤100000)(W:World):(Instr.makeSlice 29 (.int .i64 (n:Int)) (.int .i64 (n:Int))).run Tryz.prog W=.ok (.slice (some ⟨W.heap.size,0,none⟩) n n) (W.alloc (.cells (madeCells #[.int .i64 0] n) 3)):=
 run_make_row' 29 3 (.int .i64 0) 8 (by kernel_rfl) info_int rfl .i64 .i64 n (by omega) (by omega) W
theorem copy_ints (b o c dl dc:Nat)(xs:List Int)(w:World)(g:Nat)(cur:Array Value)(hx:Ints w (some ⟨b,o,none⟩) xs)(hg:w.heap[g]?=some (.cells cur 3 (0,0)))(hd:xs.length≤dl)(hs:xs.length≤cur.size) :
  (Builtin.copy_ #[29,29] 3 #[.slice (some ⟨g,0,none⟩) dl dc,.slice (some ⟨b,o,none⟩) xs.length c]).run Tryz.prog w=.ok (goInt xs.length) (w.setRow g (xs.map iv++cur.toList.drop xs.length).toArray):=by
 have hcell:∀ j u,(xs.map iv)[j]?=some u→w.cell? ((⟨b,o,none⟩:Addr).add j)=some u:=fun j u hu=>by
  have hj:j<xs.length:=by have:=(List.getElem?_eq_some_iff.1 hu).1;rwa [List.length_map]at this
  obtain⟨b',o',e,_,hc⟩:=hx.at hj
  cases e
  rw[List.getElem?_map,List.getElem?_eq_getElem hj]at hu
  rw[addr_add,hc]
  exact hu
 have:=run_copy_row (P:=Tryz.prog) w 29 29 3 3 g 0 dl dc ⟨b,o,none⟩ xs.length c cur 3 (xs.map iv) (by kernel_rfl) (by kernel_rfl) hg (by rw[List.length_map];exact(Nat.min_eq_left hd).symm) hcell (by rw[List.length_map];omega) (fun v hv=>by obtain⟨x,_,rfl⟩:=List.mem_map.1 hv;rfl)
 rw[List.length_map,List.take_zero,List.nil_append,Nat.zero_add]at this
 exact this
theorem ints_made {w:World}{g:Nat}{xs:List Int}{tl:List Value}(h:w.heap[g]?=some (.cells (xs.map iv++tl).toArray 3 (0,0))):Ints w (some ⟨g,0,none⟩) xs:=by
 refine .inr ⟨g,0,rfl,lt_of_heap h,fun j u hu=>?_⟩
 rw[Nat.zero_add]
 have hj:j<(xs.map iv).length:=(List.getElem?_eq_some_iff.1 hu).1
 simp only[World.cell?,h]
 rw[List.getElem?_toArray,List.getElem?_append_left hj]
 exact hu
theorem part_cells {w:World}{g:Nat}{p:Pt}(h:w.heap[g]?=some (.cells #[.int .i64 p.op,.int .i64 p.l,.int .i64 p.r,.int .i64 p.c,.int .i64 p.v.k,.int .i64 p.v.n,.string p.v.s] 63 (0,0))):PartAt w g 0 p:=by
 refine⟨?_,?_,?_,?_,?_,?_,?_⟩<;>(unfold World.cell?;rw[h];rfl)
theorem part_froz {w:World}{g:Nat}{C:Array Value}(h:w.heap[g]?=some (.cells C 63 (0,0)))(k:Nat):w.frozen? ⟨g,k,none⟩=false:=by simp[World.frozen?,h]
theorem wpList_append_P2 {w:World}{ops:Array Oper}{rest:List Oper}{o:Oper}{a:Act}{Q:Exit→Act→World→Prop}(hgd:o.guard=none)(s x:Operand)
  (ho:o.op=.call {callee:=.builtin .append,args:=#[s,x],argTypes:=#[64,64]})
  (B:Nat) (hs:a.eval s=.slice none 0 0) (g c:Nat) (p q:Pt) (hx:a.eval x=.slice (some ⟨g,0,none⟩) 2 c) (hv:∀ j u,(ptC p++ptC q)[j]?=some u→w.cell? ((⟨g,0,none⟩:Addr).add j)=some u) (hbase:B≤w.heap.size)
  (h:∀ sv' w',OwnP w' B sv' [p,q]→w.grownBy w' none→sv'.ownBlock=some w.heap.size→wpList Tryz.prog ops Q rest (a.put o.dst sv') w') :
  wpList Tryz.prog ops Q (o::rest) a w:=by
 obtain⟨i,hi,hz,hsz,hby⟩:=info_parts infoP
 refine wpList_append_own_at w hgd s x 64 ho B 63 i _ 7 64 (by kernel_rfl) hi hz hsz hby rfl (by decide) (.slice none 0 0) 0 [] hs ⟨rfl,.inl ⟨rfl,rfl⟩⟩ ⟨g,0,none⟩ 2 c (ptC p++ptC q) hx rfl hv ?_ ?_ ?_ hbase ?_
 ·intro u hu
  simp[ptC]at hu
  rcases hu with rfl|rfl|rfl|rfl|rfl|rfl|rfl|rfl|rfl|rfl|rfl|rfl|rfl|rfl<;>rfl
 ·unfold maxLen;omega
 ·omega
 intro v' w' h1 h2 _ h4
 refine h v' w' ?_ h2 ?_
 ·unfold OwnP
  simpa using h1
 rcases h4 with e|e
 ·obtain⟨g',cap',hv4⟩:=ownsRow_succ (show w'.ownsRow B 63 7 v' (1+1) _ from h1)
  rw[hv4]at e
  simp[Value.ownBlock]at e
 exact e
abbrev col0:Pt:=⟨0,0,0,0,zeroV⟩
abbrev col1:Pt:=⟨0,0,0,1,zeroV⟩
theorem two_new (w:World):∀ j u,(ptC col0++ptC col1)[j]?=some u→(w.alloc (.cells #[.int .i64 0,.int .i64 0,.int .i64 0,.int .i64 0,.int .i64 0,.int .i64 0,.string ⟨#[]⟩,.int .i64 0,.int .i64 0,.int .i64 0,.int .i64 1,.int .i64 0,.int .i64 0,.string ⟨#[]⟩] 63)).cell? ((⟨w.heap.size,0,none⟩:Addr).add j)=some u:=by
 intro j u hj
 have hn:=heap_alloc_new w (.cells #[.int .i64 0,.int .i64 0,.int .i64 0,.int .i64 0,.int .i64 0,.int .i64 0,.string ⟨#[]⟩,.int .i64 0,.int .i64 0,.int .i64 0,.int .i64 1,.int .i64 0,.int .i64 0,.string ⟨#[]⟩] 63)
 rw[addr_add,Nat.zero_add]
 unfold World.cell?
 simp only[hn]
 rw[List.getElem?_toArray]
 exact hj
theorem rTypes_any (pb po pc:Nat)(es:List Pt)(ca:Option Addr)(cc:Nat)(sch:List Int)(w:World)
  (hP:∀ k p,es[k]?=some p→PartAt w pb (po+k*7) p) (hC:Ints w ca sch) (hs1:1≤sch.length) (hs2:sch.length≤12) (h12:es.length≤12) :
  Calls Tryz.prog 66 #[.slice (some ⟨pb,po,none⟩) es.length pc,.slice ca sch.length cc] w fun e w'=>Below w.heap.size w w'∧∃ sv,e=.returned sv∧OwnC w' w.heap.size 3 sv ((rtys sch [] es).map iv):=by
 obtain⟨cb,co,rfl,-,-⟩:=hC.at (i:=0) hs1
 have HP:Hid ((∀ k p,es[k]?=some p→PartAt w pb (po+k*7) p)∧Ints w (some ⟨cb,co,none⟩) sch):=⟨hP,hC⟩
 obtain⟨R,hR⟩:∃ R,rtys sch [] es=R:=⟨_,rfl⟩
 rw[hR]
 have HR:Hid (rtys sch [] es=R):=hR
 obtain⟨n,hn⟩:∃ n,n=sch.length:=⟨_,rfl⟩
 rw[←hn]
 have HN:Hid (n=sch.length):=hn
 have hmi:=make_intsC n (by omega)
 have hn12:n≤12:=by omega
 clear hP hC hR hs1 hs2 hn
 go_enter Tryz.func66,Tryz.ntmps66
 go_upto_region 3 with fail
 go_loopw [5,6] (fun sv i wr=>∃ T:List Int,T.length≤es.length∧i=.int .i64 (T.length:Int)∧OwnC wr w.heap.size 3 sv (T.map iv)∧Below w.heap.size w wr∧rtys sch T (es.drop T.length)=R) (fun _ i _=>es.length-(intOf i).toNat)
 case atStart=>exact⟨[],Nat.zero_le _,rfl,OwnC.nil _ _ _,Below.refl _ _,HR.out⟩
 case round=>
  obtain⟨T,hj,rfl,hown,hbw,hty⟩:=hrel
  obtain⟨j,hjT⟩:∃ j,j=T.length:=⟨_,rfl⟩
  have HJ:Hid (j=T.length∧rtys sch T (es.drop T.length)=R):=⟨hjT,hty⟩
  have HOW:Hid _:=And.intro hown hbw
  obtain⟨sa,sc,hsv,hsc⟩:=hown.cells
  rw[List.length_map,←hjT]at hsv
  rw[←hjT]at hj ⊢
  subst hsv
  clear hty
  by_cases hlt:j<es.length
  ·obtain⟨p,hp⟩:∃ p,es[j]?=some p:=⟨_,List.getElem?_eq_getElem hlt⟩
   obtain⟨y0,y1,y2,y3,y4,y5,y6⟩:=(HP.out.1 j p hp).below hbw
   have HLT:Hid (j<es.length):=hlt
   have hdr:=rtys_drop (sch:=sch) (T:=T) hp
   rw[hjT,HJ.out.2]at hdr
   have HDR:Hid (R=rtys sch (T++[rty sch T p]) (es.drop (T.length+1))):=hdr
   have hsT:Ints wr sa T:=hsc
   have HST:Hid (Ints wr sa T):=hsT
   -- the part's box,the columns' copy
   obtain⟨Z,hZ⟩:∃ Z,Z=madeCells #[.int .i64 0] n:=⟨_,rfl⟩
   have hZs:Z.size=n:=by rw[hZ,size_madeCells]
   have hmk:=hmi (ptBox wr p)
   rw[←hZ]at hmk
   have hb0:Below wr.heap.size wr ((ptBox wr p).alloc (.cells Z 3)):=below_alloc (below_alloc (Below.refl _ _) _) _
   have hgz:((ptBox wr p).alloc (.cells Z 3)).heap[(ptBox wr p).heap.size]?=some (.cells Z 3 (0,0)):=heap_alloc_new _ _
   have hcp:=copy_ints cb co cc n n sch ((ptBox wr p).alloc (.cells Z 3)) (ptBox wr p).heap.size Z ((HP.out.2.below hbw).below hb0) hgz (by rw[←HN.out];exact Nat.le_refl _) (by rw[←HN.out];omega)
   rw[←HN.out]at hcp
   obtain⟨W1,hW1⟩:∃ W1,W1=((ptBox wr p).alloc (.cells Z 3)).setRow (ptBox wr p).heap.size (sch.map iv++Z.toList.drop n).toArray:=⟨_,rfl⟩
   rw[←hW1]at hcp
   have hI1:Ints W1 (some ⟨(ptBox wr p).heap.size,0,none⟩) sch:=ints_made (by rw[hW1];exact setRow_heap _ _ Z _ _ _ hgz)
   have hbz:(ptBox wr p).heap.size=wr.heap.size+1:=World.size_alloc _ _
   have hB1:Below wr.heap.size wr W1:=by
    refine hb0.trans ⟨by rw[hW1];rfl,by rw[hW1];rfl,by rw[hW1];rfl,by rw[hW1];simp[World.setRow],fun k hk=>?_⟩
    rw[hW1]
    exact setRow_other _ _ _ _ (by omega)
   have hq1:W1.heap[wr.heap.size]?=some (.cells #[.int .i64 p.op,.int .i64 p.l,.int .i64 p.r,.int .i64 p.c,.int .i64 p.v.k,.int .i64 p.v.n,.string p.v.s] 63 (0,0)):=by
    rw[hW1,setRow_other _ _ _ _ (by omega),Below.heap_alloc _ _ _ (by omega)]
    exact heap_alloc_new wr _
   have k1:(0:Int)≤(j:Int):=by omega
   have k2:(j:Int)<(es.length:Int):=by omega
   rw[hbz]at hcp hI1
   have H1:Hid (Ints W1 (some ⟨wr.heap.size+1,0,none⟩) sch∧Below wr.heap.size wr W1∧W1.heap[wr.heap.size]?=some (.cells #[.int .i64 p.op,.int .i64 p.l,.int .i64 p.r,.int .i64 p.c,.int .i64 p.v.k,.int .i64 p.v.n,.string p.v.s] 63 (0,0))):=⟨hI1,hB1,hq1⟩
   clear hp hdr hsc hsT hZ hZs hgz hW1 hI1 hB1 hbz hlt hown hbw hmi hb0 hjT
   go_upto_region 9 with fail
   clear hcp hmk y0 y1 y2 y3 y4 y5 y6
   have z:=part_cells H1.out.2.2
   obtain⟨z0,z1,z2,z3,z4,z5,z6⟩:=z
   rw[Nat.zero_add]at z1 z2 z3 z4 z5 z6
   have hnil:OwnP W1 W1.heap.size (.slice none 0 0) []:=⟨rfl,.inl ⟨rfl,rfl⟩⟩
   have HZ:Hid (W1.heap.size≤W1.heap.size∧wr.heap.size<W1.heap.size):=⟨Nat.le_refl _,lt_of_heap H1.out.2.2⟩
   have hOW1:OwnC W1 w.heap.size 3 (.slice sa j sc) (T.map iv):=owns_of_block HOW.out.1 fun g e=>H1.out.2.1.block g (owns_block HOW.out.1 e).2
   have HOW1:Hid _:=hOW1
   clear hOW1
   by_cases h2:p.op<2
   ·have h2':¬ (2≤p.op):=by omega
    have HNIL:Hid _:=hnil
    have HOP:Hid (p.op<2):=h2
    clear hnil h2
    go_upto_region 18 with(at_builtin;go_must (refine wpList_append_P (by rfl) _ _ (by rfl) W1.heap.size _ [] (by rfl) (owns_alloc HNIL.out _) W1.heap.size 1 p (by rfl) (by exact part_new W1 p) (by simp) (by simp) ?_);intro ov w4 q1 q2 q3)
    obtain⟨g,cap,hov,hg1,hg2,hg3,hgp⟩:=OwnP.at q1 (by simp)
    rw[show ([]++[p]:List Pt).length=1 from rfl]at hov
    subst hov
    have hB4:Below W1.heap.size W1 w4:=below_grown (sv:=.slice none 0 0) (below_alloc (Below.refl _ _) _) q2 (fun k hk=>by simp[Value.ownBlock]at hk)
    have hrt:=rType_one g cap p (some ⟨wr.heap.size+1,0,none⟩) n sch T w4 (hgp 0 p rfl) HOP.out (H1.out.1.below hB4)
    rw[←HN.out]at hrt
    obtain⟨tt,htt⟩:∃ tt,tt=rty sch T p:=⟨_,rfl⟩
    rw[←htt]at hrt HDR
    have HB4:Hid _:=hB4
    clear q1 q2 q3 hgp hg1 hg2 hg3 hB4 htt HNIL h2' z0 z1 z2 z3 z4 z5 z6
    go_wp2_with (first|(go_at_call 89;refine hrt.mono ?_;rintro e' W5 ⟨rfl,hb5⟩;have hbB:=below_then HB4.out hb5)|(at_builtin;go_must (refine wpList_append_C (by rfl) _ _ 29 3 _ 8 info_int (by rfl) (by decide) (by kernel_rfl) (by rfl) w.heap.size _ _ (by rfl) (OwnC.alloc (owns_of_block HOW1.out fun g e=>hbB.block g (owns_block HOW1.out e).2) _) ⟨W5.heap.size,0,none⟩ 1 [iv tt] (by rfl) (by exact news_one W5 _ _) (by intro u hu;simp at hu;subst hu;rfl) (by simp only[List.length_cons,List.length_nil,List.length_map];have:=HJ.out.1;omega) (by simp;have:=hbB.size;have:=H1.out.2.1.size;have:=HOW.out.2.size;omega) ?_);intro sv' w6 r1 r2 r3))
    go_roundw
    case rel=>
     have h1:=HLT.out
     have h2:=HJ.out.1
     refine⟨T++[tt],by rw[List.length_append,←h2];simp;omega,by rw[List.length_append,←h2];simp only[List.length_cons,List.length_nil];go_num,by rw[List.map_append];exact r1,?_,by rw[List.length_append];exact HDR.out.symm⟩
     have hb6:Below w.heap.size w (W5.alloc (.cells #[iv tt] 3)):=below_alloc (below_then HOW.out.2 (below_then H1.out.2.1 hbB)) _
     exact below_grown hb6 r2 fun k hk=>(owns_block HOW1.out hk).1
    case measure=>have:=HLT.out;have:=HJ.out.1;simp[intOf];omega
   have h2':2≤p.op:=by omega
   have HOP:Hid (2≤p.op):=h2'
   have hta:=fun i=>rTaken_any sa sc T i W1 (HST.out.below H1.out.2.1)
   rw[←HJ.out.1]at hta
   obtain⟨l,hl⟩:∃ l,l=(tyI T p.l).getD 0:=⟨_,rfl⟩
   obtain⟨r,hr⟩:∃ r,r=(tyI T p.r).getD 0:=⟨_,rfl⟩
   have htl:=hta p.l
   have htr:=hta p.r
   rw[←hl]at htl
   rw[←hr]at htr
   have HRT:Hid (rty sch T p=rTy p.op l r):=by
    show _=_
    unfold rty
    rw[if_neg (by omega),if_neg (by omega),if_neg (by omega),hl,hr]
   clear hta hl hr h2 hnil
   go_upto_region 12 with(go_at_call 88;refine htl.mono ?_;rintro e' W2 ⟨rfl,hW2⟩;rw[hW2];clear hW2)
   go_upto_region 13 with(go_at_call 88;refine htr.mono ?_;rintro e' W2 ⟨rfl,hW2⟩;rw[hW2];clear hW2)
   clear htl htr
   go_upto_region 14 with(at_builtin;go_must (refine wpList_append_C (by rfl) _ _ 29 3 _ 8 info_int (by rfl) (by decide) (by kernel_rfl) (by rfl) W1.heap.size _ [] (by rfl) (OwnC.nil _ _ _) ⟨W1.heap.size,0,none⟩ 2 [iv l,iv r] (by rfl) (by exact news_two W1 _ _ _) (by intro u hu;simp at hu;rcases hu with rfl|rfl<;>rfl) (by simp) (by simp) ?_);intro cv w4 q1 q2 q3)
   have hB4:Below W1.heap.size W1 w4:=below_grown (sv:=.slice none 0 0) (below_alloc (Below.refl _ _) _) q2 (fun k hk=>by simp[Value.ownBlock]at hk)
   obtain⟨ca2,cc2,hcv,hc2⟩:=q1.cells
   rw[show ([]++[iv l,iv r]:List Value).length=2 from rfl]at hcv
   subst hcv
   have hI4:Ints w4 ca2 [l,r]:=hc2
   have HI4:Hid (Ints w4 ca2 [l,r]∧Below W1.heap.size W1 w4):=⟨hI4,hB4⟩
   have HO4:Hid (∀ b o,ca2=some ⟨b,o,none⟩→W1.heap.size≤b):=fun b o e=>(owns_block q1 (g:=b) (by rw[e];rfl)).1
   clear q1 q2 q3 hc2 hI4 hB4
   go_upto_region 15 with(at_builtin;go_must (refine wpList_append_P2 (by rfl) _ _ (by rfl) w4.heap.size (by rfl) w4.heap.size 2 col0 col1 (by rfl) (by exact two_new w4) (by simp) ?_);intro ov w5 q1 q2 q3)
   have hB5:Below w4.heap.size w4 w5:=below_grown (sv:=.slice none 0 0) (below_alloc (Below.refl _ _) _) q2 (fun k hk=>by simp[Value.ownBlock]at hk)
   have hB15:=below_then HI4.out.2 hB5
   have hq5:=(hB15.block _ (lt_of_heap H1.out.2.2)).trans H1.out.2.2
   have u0:=part_cells hq5
   obtain⟨u0,u1,u2,u3,u4,u5,u6⟩:=u0
   rw[Nat.zero_add]at u1 u2 u3 u4 u5 u6
   have fz1:=part_froz hq5 1
   have fz2:=part_froz hq5 2
   have H5:Hid (OwnP w5 w4.heap.size ov [col0,col1]∧ov.ownBlock=some (w4.alloc (.cells #[.int .i64 0,.int .i64 0,.int .i64 0,.int .i64 0,.int .i64 0,.int .i64 0,.string ⟨#[]⟩,.int .i64 0,.int .i64 0,.int .i64 0,.int .i64 1,.int .i64 0,.int .i64 0,.string ⟨#[]⟩] 63)).heap.size∧Below w4.heap.size w4 w5∧Below W1.heap.size W1 w5):=⟨q1,q3,hB5,hB15⟩
   have hset:=heap_set (heap_set hq5 1 (.int .i64 0)) 2 (.int .i64 1)
   simp only[List.setIfInBounds_toArray,List.set_cons_zero,List.set_cons_succ]at hset
   have HSET:Hid _:=hset
   obtain⟨og,oc,hov,_,_,_,_⟩:=OwnP.at q1 (by simp)
   rw[show ([col0,col1]:List Pt).length=2 from rfl]at hov
   subst hov
   clear q1 q2 q3 hB5 hB15 hq5 hset z0 z1 z2 z3 z4 z5 z6
   go_upto_region 17 with fail
   obtain⟨W6,hW6⟩:∃ W6,W6=(w5.setCell ⟨wr.heap.size,1,none⟩ (.int .i64 0)).setCell ⟨wr.heap.size,2,none⟩ (.int .i64 1):=⟨_,rfl⟩
   have hq6:W6.heap[wr.heap.size]?=some (.cells #[.int .i64 p.op,.int .i64 0,.int .i64 1,.int .i64 p.c,.int .i64 p.v.k,.int .i64 p.v.n,.string p.v.s] 63 (0,0)):=by rw[hW6];exact HSET.out
   have hoth:∀ k,k≠wr.heap.size→W6.heap[k]?=w5.heap[k]?:=fun k hk=>by
    rw[hW6,Below.heap_setCell _ _ _ _ hk,Below.heap_setCell _ _ _ _ hk]
   have hz6:W6.heap.size=w5.heap.size:=by rw[hW6];simp[World.setCell]
   have hB6:Below wr.heap.size wr W6:=by
    have hb:=below_then H1.out.2.1 H5.out.2.2.2
    exact⟨by rw[hW6];exact hb.os,by rw[hW6];exact hb.tape,by rw[hW6];exact hb.output,by rw[hz6];exact hb.size,fun k hk=>(hoth k (by omega)).trans (hb.block k hk)⟩
   have v:=part_cells (p:=⟨p.op,0,1,p.c,p.v⟩) hq6
   obtain⟨v0,v1,v2,v3,v4,v5,v6⟩:=v
   rw[Nat.zero_add]at v1 v2 v3 v4 v5 v6
   have hOP6:OwnP W6 w4.heap.size (.slice (some ⟨og,0,none⟩) 2 oc) [col0,col1]:=owns_of_block H5.out.1 fun g e=>hoth g fun e2=>by
    have:=(owns_block H5.out.1 e).1
    have h1:=lt_of_heap H1.out.2.2
    have h2:=HI4.out.2.size
    omega
   have hI6:∀ b' o',ca2=some ⟨b',o',none⟩→b'<w4.heap.size→W6.heap[b']?=w4.heap[b']?:=fun b' o' e' hb'=>(hoth b' fun e2=>by
    have h1:=HO4.out b' o' e'
    have h2:=lt_of_heap H1.out.2.2
    omega).trans (H5.out.2.2.1.block b' hb')
   have hOT6:OwnC W6 w.heap.size 3 (.slice sa j sc) (T.map iv):=owns_of_block HOW.out.1 fun g e=>hB6.block g (owns_block HOW.out.1 e).2
   rw[←hW6]
   have H64:Hid (∀ b' o',ca2=some ⟨b',o',none⟩→b'<w4.heap.size→W6.heap[b']?=w4.heap[b']?):=hI6
   have H6:Hid (OwnP W6 w4.heap.size (.slice (some ⟨og,0,none⟩) 2 oc) [col0,col1]∧True∧OwnC W6 w.heap.size 3 (.slice sa j sc) (T.map iv)∧Below wr.heap.size wr W6∧w4.heap.size≤W6.heap.size):=⟨hOP6,trivial,hOT6,hB6,by rw[hz6];exact H5.out.2.2.1.size⟩
   clear hW6 hq6 hoth hz6 hB6 hOP6 hI6 hOT6 HSET H5 u0 u1 u2 u3 u4 u5 u6 fz1 fz2
   go_upto_region 18 with(at_builtin;go_must (refine wpList_append_P (by rfl) _ _ (by rfl) w4.heap.size _ [col0,col1] (by rfl) (owns_alloc H6.out.1 _) W6.heap.size 1 ⟨p.op,0,1,p.c,p.v⟩ (by rfl) (by exact part_new W6 ⟨p.op,0,1,p.c,p.v⟩) (by simp) (by simp;have:=H6.out.2.2.2.2;omega) ?_);intro ov7 w7 q1 q2 q3)
   obtain⟨g,cap,hov,hg1,hg2,hg3,hgp⟩:=OwnP.at q1 (by simp)
   rw[show ([col0,col1]++[⟨p.op,0,1,p.c,p.v⟩]:List Pt).length=3 from rfl]at hov
   subst hov
   have hog:w4.heap.size≤og:=(owns_block H6.out.1 (g:=og) rfl).1
   have hz4:wr.heap.size≤w4.heap.size:=Nat.le_trans H1.out.2.1.size HI4.out.2.size
   have hB7:Below wr.heap.size wr w7:=below_grown (sv:=.slice (some ⟨og,0,none⟩) 2 oc) (below_alloc H6.out.2.2.2.1 _) q2 (fun k hk=>by simp[Value.ownBlock]at hk;omega)
   have hI7:Ints w7 ca2 [l,r]:=HI4.out.1.of_block (Nat.le_trans H6.out.2.2.2.2 (Nat.le_trans (by simp) q2.size)) fun b' o' e' hb'=>by
    have h6:=H6.out.2.2.2.2
    rw[q2.block b' (by simp;omega) (by simp[Value.ownBlock];omega),Below.heap_alloc _ _ _ (by omega)]
    exact H64.out b' o' e' hb'
   have hOT7:OwnC w7 w.heap.size 3 (.slice sa j sc) (T.map iv):=owns_of_block HOW.out.1 fun g e=>hB7.block g (owns_block HOW.out.1 e).2
   have hrt:=rType_two g 0 3 cap ⟨p.op,0,1,p.c,p.v⟩ (.slice ca2 2 cc2) l r w7 (by omega) (hgp 2 _ rfl) HOP.out rfl rfl
    (fun X hX=>by have:=rType_col g 0 3 cap 0 col0 X (by omega) ((hgp 0 _ rfl).below hX) rfl ca2 cc2 [l,r] (hI7.below hX);simpa [tyI] using this)
    (fun X hX=>by have:=rType_col g 0 3 cap 1 col1 X (by omega) ((hgp 1 _ rfl).below hX) rfl ca2 cc2 [l,r] (hI7.below hX);simpa [tyI] using this)
   simp only at hrt
   rw[←HRT.out]at hrt
   obtain⟨tt,htt⟩:∃ tt,tt=rty sch T p:=⟨_,rfl⟩
   rw[←htt]at hrt HDR
   have H7:Hid (OwnC w7 w.heap.size 3 (.slice sa j sc) (T.map iv)∧Below wr.heap.size wr w7):=⟨hOT7,hB7⟩
   clear q1 q2 q3 hgp hg1 hg2 hg3 hB7 hI7 hOT7 htt hog hz4 h2' v0 v1 v2 v3 v4 v5 v6 HRT
   go_wp2_with (first|(go_at_call 89;refine hrt.mono ?_;rintro e' W8 ⟨rfl,hb8⟩)|(at_builtin;go_must (refine wpList_append_C (by rfl) _ _ 29 3 _ 8 info_int (by rfl) (by decide) (by kernel_rfl) (by rfl) w.heap.size _ _ (by rfl) (OwnC.alloc (owns_of_block H7.out.1 fun g e=>hb8.block g (owns_block H7.out.1 e).2) _) ⟨W8.heap.size,0,none⟩ 1 [iv tt] (by rfl) (by exact news_one W8 _ _) (by intro u hu;simp at hu;subst hu;rfl) (by simp only[List.length_cons,List.length_nil,List.length_map];have:=HJ.out.1;omega) (by simp;have:=hb8.size;have:=H7.out.2.size;have:=HOW.out.2.size;omega) ?_);intro sv' w9 r1 r2 r3))
   go_roundw
   case rel=>
    have h1:=HLT.out
    have h2:=HJ.out.1
    refine⟨T++[tt],by rw[List.length_append,←h2];simp;omega,by rw[List.length_append,←h2];simp only[List.length_cons,List.length_nil];go_num,by rw[List.map_append];exact r1,?_,by rw[List.length_append];exact HDR.out.symm⟩
    have hb9:Below w.heap.size w (W8.alloc (.cells #[iv tt] 3)):=below_alloc (below_then HOW.out.2 (below_then H7.out.2 hb8)) _
    exact below_grown hb9 r2 fun k hk=>(owns_block H7.out.1 hk).1
   case measure=>have:=HLT.out;have:=HJ.out.1;simp[intOf];omega
  have hje:j=es.length:=by omega
  obtain rfl:R=T:=by rw[←HJ.out.2,←hjT,hje,List.drop_length];rfl
  have k2:¬ ((j:Int)<(es.length:Int)):=by omega
  clear hsc hown hbw hlt hje hj hmi hjT
  go_wp2
  exact bodyPost_ret (v:=.slice sa j sc) (by simp[results,Tryz.results66,go_sem]) rfl ⟨HOW.out.2,_,rfl,HOW.out.1⟩
end Go.Proofs.YtkgibdjakgmmcaaGreatDoor
