/- Plans, whatever they are: Project, Group; what takes two others' rows: Join, Union. -/
import Derived.Test.YtkgibdjakgmmcaaGreatDoorJr
import Derived.Test.YtkgibdjakgmmcaaGreatDoorYh
import Derived.Test.YtkgibdjakgmmcaaGreatDoorSe
set_option maxHeartbeats 4000000
set_option maxRecDepth 100000
namespace Go.Proofs.YtkgibdjakgmmcaaGreatDoor
open Go.RowKit Go.Shelf
attribute [local go_sem] Oper.semAt_some
theorem nodeP_new {L cb:Nat}{tf ev:Value}{ks':List Kn}{sch:List Int}{w W1 W2:World}{g o c:Nat}(hS:ChkS L cb tf ev ks' W1)(hg:w.grownBy W1 ev.ownBlock)(hb:Below W1.heap.size W1 W2)(hi:Ints W2 (some ⟨g,o,none⟩) sch)(hg1:W1.heap.size≤g)(hg2:g<W2.heap.size):NodeP L cb tf ev ks' sch w (.returned (.tuple #[schV (some ⟨g,o,none⟩,c,sch),.nilIface])) W2:=by
 refine⟨some ⟨g,o,none⟩,c,rfl,hS.below hb,grown_trans hg (grown_below hb),hi,fun g' o' e=>?_⟩
 cases e
 exact⟨fun e=>by have:=(owns_block hS.own e).2;omega,by have:=lt_of_heap hS.ck;omega,hg2,.inl (Nat.le_trans hg.size hg1)⟩
def typsX (s:List Int):List Int→List (List Pt)→Option (List Int)
 |T,[]=>some T
 |T,e::es=>match typX s e with
  |none=>none
  |some t=>typsX s (T++[t]) es
theorem typsX_drop {s T:List Int}{ess:List (List Pt)}{j:Nat}{e:List Pt}(he:ess[j]?=some e):typsX s T (ess.drop j)=match typX s e with
  |none=>none
  |some t=>typsX s (T++[t]) (ess.drop (j+1)):=by
 obtain⟨hj,hpj⟩:=List.getElem?_eq_some_iff.1 he
 rw[List.drop_eq_getElem_cons hj,hpj]
 rfl
def projQ (s:List Int)(n:QN):Option (List Int):=if 1≤n.es.length∧n.es.length≤6 then typsX s [] n.es else none
theorem pProject_any (L cb:Nat)(tf ev:Value)(ks:List Kn)(nd:Nd)(n:QN)(i:Nat)(w:World)(h:ChkS L cb tf ev ks w)(hl:nd.l=(i:Int))(hi:i<ks.length)(hn:ks[i].2=false)(pl ex:Addr)(hG:PlG w ev pl ex)(hQ:∀ X,w.grownBy X ev.ownBlock→NdQ X nd n) :
  Calls Tryz.prog 104 #[.pointer (some ⟨cb,0,none⟩),nd.val] w (NodeR L cb tf ev (ks.set i (ks[i].1,true)) (projQ ks[i].1.2.2 n) pl ex w):=by
 have hbb:Below w.heap.size w (ndBox w nd):=below_alloc (Below.refl _ _) _
 have hq:=ndBox_at w nd
 have hS:=h.below hbb
 have htk:=pTake_ok L cb tf ev ks i (ndBox w nd) hS hi hn
 have hob:ev.ownBlock≠some w.heap.size:=fun e=>by have:=(owns_block h.own e).2;omega
 have hmem:(ks[i].1,true)∈ks.set i (ks[i].1,true):=List.mem_set hi _
 have HQ:Hid (NodeAt (ndBox w nd) w.heap.size 0 nd∧ev.ownBlock≠some w.heap.size∧Below w.heap.size w (ndBox w nd)):=⟨hq,hob,hbb⟩
 have HN:Hid (∀ X,w.grownBy X ev.ownBlock→NdQ X nd n):=hQ
 have HG:Hid (PlG w ev pl ex):=hG
 have n1:=hq.2.1
 rw[hl,Nat.zero_add]at n1
 have hnn:=run_neq_nil_nil (P:=Tryz.prog)
 obtain⟨s,hs⟩:∃ s,s=ks[i].1:=⟨_,rfl⟩
 rw[←hs]at htk hmem ⊢
 have HM:Hid ((s,true)∈ks.set i (s,true)):=hmem
 obtain⟨R,hR⟩:∃ R,projQ s.2.2 n=R:=⟨_,rfl⟩
 rw[hR]
 have HR:Hid (projQ s.2.2 n=R):=hR
 clear hs hl hq hob hbb hS h hn hG hQ hmem hR
 go_enter Tryz.func104,Tryz.ntmps104
 go_upto_region 4 with(go_at_call 123;refine htk.mono ?_;rintro e' W1 ⟨rfl,hS1,hg1,hz1⟩)
 have hgw:w.grownBy W1 ev.ownBlock:=grown_trans (grown_below HQ.out.2.2) hg1
 obtain⟨_,_,_,_,p4,p5,p6⟩:=node_grown HQ.out.1 hg1 HQ.out.2.1
 rw[Nat.zero_add]at p4 p5 p6
 obtain⟨gp,ge⟩:=(HG.out.grow hgw).at
 have hnq:=HN.out W1 hgw
 have HW:Hid (ChkS L cb tf ev (ks.set i (s,true)) W1∧w.grownBy W1 ev.ownBlock∧Ints W1 s.1 s.2.2):=⟨hS1,hgw,hS1.ints (s,true) HM.out⟩
 clear hS1 hgw hg1 hz1 htk n1 HN HG HQ hi p5 p6
 rw[hnq.xl]at p4
 have hxs:=hnq.xs
 clear hnq
 generalize hess:n.es=ess at p4 hxs
 by_cases h1:1≤ess.length
 rotate_left
 ·obtain rfl:R=none:=by rw[←HR.out];unfold projQ;rw[hess];exact if_neg fun h=>h1 h.1
  have k1:(ess.length:Int)<1:=by omega
  clear hess HR hxs h1
  go_wp2
  go_region_held3 (fun X=>X.cell? ⟨0,0,none⟩=some (.iface 284 (.pointer (some pl)))) (first|go_keep|(repeat (first|assumption|refine cell_alloc ?_|refine cell_drew ?_))) (fail)
  go_wp2
  exact bodyPost_ret (v:=.tuple #[.slice none 0 0,.iface 284 (.pointer (some pl))]) (by simp[results,Tryz.results104,go_sem]) rfl (NodeF.pl (grown_drew HW.out.2.1))
 have k1:(1:Int)≤(ess.length:Int):=by omega
 by_cases h6:ess.length≤6
 rotate_left
 ·obtain rfl:R=none:=by rw[←HR.out];unfold projQ;rw[hess];exact if_neg fun h=>h6 h.2
  have k6:(6:Int)<(ess.length:Int):=by omega
  clear hess HR hxs h1 h6
  go_wp2
  go_region_held3 (fun X=>X.cell? ⟨0,0,none⟩=some (.iface 284 (.pointer (some pl)))) (first|go_keep|(repeat (first|assumption|refine cell_alloc ?_|refine cell_drew ?_))) (fail)
  go_wp2
  exact bodyPost_ret (v:=.tuple #[.slice none 0 0,.iface 284 (.pointer (some pl))]) (by simp[results,Tryz.results104,go_sem]) rfl (NodeF.pl (grown_drew HW.out.2.1))
 have k6:(ess.length:Int)≤6:=by omega
 have HR2:Hid (typsX s.2.2 [] ess=R):=by show _=_;rw[←HR.out];unfold projQ;rw[hess];exact(if_pos ⟨h1,h6⟩).symm
 obtain⟨eb,eo,-,-,hea,-⟩:=hxs 0 _ (List.getElem?_eq_getElem (by omega))
 rw[hea]at p4
 have HXS:Hid (∀ X,Below W1.heap.size W1 X→∀ (j:Nat) (es:List Pt),ess[j]?=some es→∃ pa pc,X.cell? ⟨eb,eo+j,none⟩=some (.slice pa es.length pc)∧Calls Tryz.prog 124 #[.slice pa es.length pc,.slice s.1 s.2.2.length s.2.1] X (XTyP X pl ex (typX s.2.2 es))):=fun X hX j es hj=>by
  obtain⟨b',o',pa,pc,e',q1,q2⟩:=hxs j es hj
  rw[hea]at e'
  cases e'
  refine⟨pa,pc,cell_below hX q1,xType_any pa pc es s.1 s.2.1 s.2.2 X (fun k p hk=>?_) (HW.out.2.2.below hX) pl ex (cell_below hX ge)⟩
  obtain⟨b,o,e,hp⟩:=q2 k p hk
  exact⟨b,o,e,hp.below hX⟩
 have HL1:Hid (1≤ess.length):=h1
 clear HR hess hxs hea h1 h6 ge
 go_wp2
 go_loopw [8,37] (fun sv i wr=>∃ T:List Int,T.length≤ess.length∧i=.int .i64 (T.length:Int)∧OwnC wr W1.heap.size 3 sv (T.map iv)∧Below W1.heap.size W1 wr∧typsX s.2.2 T (ess.drop T.length)=R) (fun _ i _=>ess.length-(intOf i).toNat)
 case atStart=>exact⟨[],Nat.zero_le _,rfl,OwnC.nil _ _ _,Below.refl _ _,HR2.out⟩
 case round=>
  obtain⟨T,hj,rfl,hown,hbw,hty⟩:=hrel
  obtain⟨j,hjT⟩:∃ j,j=T.length:=⟨_,rfl⟩
  have HJ:Hid (j=T.length∧typsX s.2.2 T (ess.drop T.length)=R):=⟨hjT,hty⟩
  have HOW:Hid _:=And.intro hown hbw
  obtain⟨sa,sc,hsv,hsc⟩:=hown.cells
  rw[List.length_map,←hjT]at hsv
  rw[←hjT]at hj ⊢
  clear hty
  by_cases hlt:j<ess.length
  ·obtain⟨es,hes⟩:∃ es,es=ess[j]:=⟨_,rfl⟩
   have hget:ess[j]?=some es:=by rw[hes];exact List.getElem?_eq_getElem hlt
   obtain⟨pa,pc,q1,hxt⟩:=HXS.out wr hbw j es hget
   have hdr:=typsX_drop (s:=s.2.2) (T:=T) hget
   rw[hjT,HJ.out.2]at hdr
   subst hsv
   have HLT:Hid (j<ess.length):=hlt
   clear hes hown hbw hsc hget hjT
   rcases hx:typX s.2.2 es with _|t
   ·rw[hx]at hxt hdr
    replace hxt:=xType_no hxt
    obtain rfl:R=none:=hdr
    clear hx
    go_wp2_with (go_at_call 124;refine hxt.mono ?_;rintro e' W2 ⟨ty,x,rfl,hpe,hb2⟩)
    exact bodyPost_ret (v:=.tuple #[.slice none 0 0,.iface ty x]) (by simp[results,Tryz.results104,go_sem]) rfl ⟨_,rfl,hpe,grown_trans HW.out.2.1 (grown_below (below_then HOW.out.2 hb2))⟩
   rw[hx]at hxt hdr
   replace hxt:=xType_yes hxt
   have HDR:Hid (typsX s.2.2 (T++[t]) (ess.drop (T.length+1))=R):=hdr.symm
   clear hx hdr
   go_wp2_with (first|(go_at_call 124;refine hxt.mono ?_;rintro e' W2 ⟨rfl,hb2⟩)|(at_builtin;go_must (refine wpList_append_C (by rfl) _ _ 29 3 _ 8 info_int (by rfl) (by decide) (by kernel_rfl) (by rfl) W1.heap.size _ _ (by rfl) (OwnC.alloc (owns_of_block HOW.out.1 fun g e=>hb2.block g (owns_block HOW.out.1 e).2) _) ⟨W2.heap.size,0,none⟩ 1 [iv t] (by rfl) (by exact news_one W2 _ _) (by intro u hu;simp at hu;subst hu;rfl) (by simp only[List.length_cons,List.length_nil,List.length_map];have:=HJ.out.1;omega) (by simp;have:=hb2.size;have:=HOW.out.2.size;omega) ?_);intro sv' w4 q1 q2 q3))
   go_roundw
   case rel=>
    have h1:=HLT.out
    have h2:=HJ.out.1
    refine⟨T++[t],by rw[List.length_append,←h2];simp;omega,by rw[List.length_append,←h2];simp only[List.length_cons,List.length_nil];go_num,by rw[List.map_append];exact q1,?_,by rw[List.length_append];exact HDR.out⟩
    have hb3:Below W1.heap.size W1 (W2.alloc (.cells #[iv t] 3)):=below_alloc (below_then HOW.out.2 hb2) _
    exact below_grown hb3 q2 fun k hk=>(owns_block HOW.out.1 hk).1
   case measure=>have:=HLT.out;have:=HJ.out.1;simp[intOf];omega
  have hje:j=ess.length:=by omega
  have hT:T≠[]:=fun e=>by have:=HL1.out;rw[e]at hjT;simp at hjT;omega
  obtain rfl:R=some T:=by rw[←HJ.out.2,←hjT,hje,List.drop_length];rfl
  subst hsv
  obtain⟨g,o,rfl,hgl,_⟩:=Ints.at (ns:=T) hsc (i:=0) (List.length_pos_iff.2 hT)
  have hgo:=owns_block HOW.out.1 (g:=g) rfl
  have HHC:Hid (Ints wr (some ⟨g,o,none⟩) T):=hsc
  have k2:¬ ((j:Int)<(ess.length:Int)):=by omega
  clear hsc hown hbw hlt hje HR2 hj
  go_wp2
  exact bodyPost_ret (v:=.tuple #[schV (some ⟨g,o,none⟩,sc,T),.nilIface]) (by simp[results,Tryz.results104,go_sem]) rfl (nodeP_new HW.out.1 HW.out.2.1 HOW.out.2 HHC.out hgo.1 hgl)
def toldZ (s:List Int)(k:Kz):Option Int:=if k.f=1 then some 1 else if k.f=0∨k.f=4∨k.f=5 then tyI s k.c else if k.f=2 then (tyI s k.c).map fun _=>1 else if k.f=3 then isI (tyI s k.c) 1 1 else none
def toldsZ (s:List Int):List Int→List Kz→Option (List Int)
 |T,[]=>some T
 |T,e::es=>match toldZ s e with
  |none=>none
  |some t=>toldsZ s (T++[t]) es
theorem toldsZ_drop {s T:List Int}{ess:List Kz}{j:Nat}{e:Kz}(he:ess[j]?=some e):toldsZ s T (ess.drop j)=match toldZ s e with
  |none=>none
  |some t=>toldsZ s (T++[t]) (ess.drop (j+1)):=by
 obtain⟨hj,hpj⟩:=List.getElem?_eq_some_iff.1 he
 rw[List.drop_eq_getElem_cons hj,hpj]
 rfl
def grpQ (s:List Int)(n:QN):Option (List Int):=if 1≤n.ks.length∧n.ks.length≤4 then toldsZ s [] n.ks else none
abbrev kzV (k:Kz):Value:=.agg #[.int .i64 k.c,.int .i64 k.o,.bool k.d,.int .i64 k.f]
theorem toldType_any (a:Option Addr)(cap:Nat)(ts:List Int)(k:Kz)(w:World)(h:Ints w a ts):Calls Tryz.prog 129 #[kzV k,.slice a ts.length cap] w (TyQ w (toldZ ts k)):=by
 obtain⟨c,o,d,f⟩:=k
 have hta:=typeAt_any a cap ts c (w.alloc (.cells #[.int .i64 c,.int .i64 o,.bool d,.int .i64 f] 79)) (h.below (below_alloc (Below.refl _ _) _))
 clear h
 generalize hoo:tyI ts c=oo at hta
 have HOO:Hid (tyI ts c=oo):=hoo
 clear hoo
 by_cases h1:f=1
 ·subst h1
  rw[show toldZ ts ⟨c,o,d,1⟩=some 1 from rfl]
  clear hta HOO
  go_enter Tryz.func129,Tryz.ntmps129
  go_wp2
  exact bodyPost_ret (v:=.tuple #[.int .i64 1,.bool true]) (by simp[results,Tryz.results129,go_sem]) rfl ⟨⟨1,by simp,by simp⟩,below_alloc (Below.refl _ _) _⟩
 by_cases hv:f=0∨f=4∨f=5
 ·clear h1
  obtain⟨t,ht⟩:∃ t,t=oo.getD 0:=⟨_,rfl⟩
  obtain⟨b,hb⟩:∃ b,b=oo.isSome:=⟨_,rfl⟩
  rw[tyV,←ht,←hb]at hta
  have HB:Hid (t=oo.getD 0∧b=oo.isSome):=⟨ht,hb⟩
  have hz:toldZ ts ⟨c,o,d,f⟩=oo:=by rw[←HOO.out];rcases hv with rfl|rfl|rfl<;>rfl
  rw[hz]
  clear ht hb hz
  rcases hv with rfl|rfl|rfl
  all_goals
   go_enter Tryz.func129,Tryz.ntmps129
   go_wp2_with (go_at_call 130;refine hta.mono ?_;rintro e' W3 ⟨rfl,rfl⟩)
   exact bodyPost_ret (v:=.tuple #[.int .i64 t,.bool b]) (by simp[results,Tryz.results129,go_sem]) rfl ⟨⟨t,by rw[HB.out.2],fun x hx=>by rw[HB.out.1,hx];rfl⟩,below_alloc (Below.refl _ _) _⟩
 by_cases h2:f=2
 ·subst h2
  clear hv h1
  obtain⟨t,ht⟩:∃ t,t=oo.getD 0:=⟨_,rfl⟩
  obtain⟨b,hb⟩:∃ b,b=oo.isSome:=⟨_,rfl⟩
  rw[tyV,←ht,←hb]at hta
  have HB:Hid (b=oo.isSome):=hb
  rw[show toldZ ts ⟨c,o,d,2⟩=oo.map (fun _=>1) by rw[←HOO.out];rfl]
  clear ht hb
  go_enter Tryz.func129,Tryz.ntmps129
  go_wp2_with (go_at_call 130;refine hta.mono ?_;rintro e' W3 ⟨rfl,rfl⟩)
  exact bodyPost_ret (v:=.tuple #[.int .i64 1,.bool b]) (by simp[results,Tryz.results129,go_sem]) rfl ⟨⟨1,by rw[HB.out];cases oo<;>rfl,by cases oo<;>simp⟩,below_alloc (Below.refl _ _) _⟩
 by_cases h3:f=3
 ·subst h3
  clear hv h1 h2
  rw[show toldZ ts ⟨c,o,d,3⟩=isI oo 1 1 by rw[←HOO.out];rfl]
  clear HOO
  cases oo with
  |none=>
   go_enter Tryz.func129,Tryz.ntmps129
   go_wp2_with (go_at_call 130;refine hta.mono ?_;rintro e' W3 ⟨rfl,rfl⟩)
   exact bodyPost_ret (v:=.tuple #[.int .i64 1,.bool false]) (by simp[results,Tryz.results129,go_sem]) rfl ⟨⟨1,by simp[isI],by simp[isI]⟩,below_alloc (Below.refl _ _) _⟩
  |some t=>
   by_cases ht:t=1
   ·subst ht
    go_enter Tryz.func129,Tryz.ntmps129
    go_wp2_with (go_at_call 130;refine hta.mono ?_;rintro e' W3 ⟨rfl,rfl⟩)
    exact bodyPost_ret (v:=.tuple #[.int .i64 1,.bool true]) (by simp[results,Tryz.results129,go_sem]) rfl ⟨⟨1,by simp[isI],by simp[isI]⟩,below_alloc (Below.refl _ _) _⟩
   go_enter Tryz.func129,Tryz.ntmps129
   go_wp2_with (go_at_call 130;refine hta.mono ?_;rintro e' W3 ⟨rfl,rfl⟩)
   exact bodyPost_ret (v:=.tuple #[.int .i64 1,.bool false]) (by simp[results,Tryz.results129,go_sem,ht]) rfl ⟨⟨1,by simp[isI,ht],by simp[isI,ht]⟩,below_alloc (Below.refl _ _) _⟩
 have h0:f≠0:=fun e=>hv (.inl e)
 have h4:f≠4:=fun e=>hv (.inr (.inl e))
 have h5:f≠5:=fun e=>hv (.inr (.inr e))
 rw[show toldZ ts ⟨c,o,d,f⟩=none by unfold toldZ;rw[if_neg h1,if_neg hv,if_neg h2,if_neg h3]]
 clear hv HOO
 obtain⟨t,ht⟩:∃ t,t=oo.getD 0:=⟨_,rfl⟩
 obtain⟨b,hb⟩:∃ b,b=oo.isSome:=⟨_,rfl⟩
 rw[tyV,←ht,←hb]at hta
 clear ht hb
 go_enter Tryz.func129,Tryz.ntmps129
 go_wp2_with (go_at_call 130;refine hta.mono ?_;rintro e' W3 ⟨rfl,rfl⟩)
 exact bodyPost_ret (v:=.tuple #[.int .i64 0,.bool false]) (by simp[results,Tryz.results129,go_sem]) rfl ⟨⟨0,by simp,by simp⟩,below_alloc (Below.refl _ _) _⟩
theorem pGroup_any (L cb:Nat)(tf ev:Value)(ks:List Kn)(nd:Nd)(n:QN)(i:Nat)(w:World)(h:ChkS L cb tf ev ks w)(hl:nd.l=(i:Int))(hi:i<ks.length)(hn:ks[i].2=false)(pl ex:Addr)(hG:PlG w ev pl ex)(hQ:∀ X,w.grownBy X ev.ownBlock→NdQ X nd n) :
  Calls Tryz.prog 106 #[.pointer (some ⟨cb,0,none⟩),nd.val] w (NodeR L cb tf ev (ks.set i (ks[i].1,true)) (grpQ ks[i].1.2.2 n) pl ex w):=by
 have hbb:Below w.heap.size w (ndBox w nd):=below_alloc (Below.refl _ _) _
 have hq:=ndBox_at w nd
 have hS:=h.below hbb
 have htk:=pTake_ok L cb tf ev ks i (ndBox w nd) hS hi hn
 have hob:ev.ownBlock≠some w.heap.size:=fun e=>by have:=(owns_block h.own e).2;omega
 have hmem:(ks[i].1,true)∈ks.set i (ks[i].1,true):=List.mem_set hi _
 have HQ:Hid (NodeAt (ndBox w nd) w.heap.size 0 nd∧ev.ownBlock≠some w.heap.size∧Below w.heap.size w (ndBox w nd)):=⟨hq,hob,hbb⟩
 have HN:Hid (∀ X,w.grownBy X ev.ownBlock→NdQ X nd n):=hQ
 have HG:Hid (PlG w ev pl ex):=hG
 have n1:=hq.2.1
 rw[hl,Nat.zero_add]at n1
 have hnn:=run_neq_nil_nil (P:=Tryz.prog)
 obtain⟨s,hs⟩:∃ s,s=ks[i].1:=⟨_,rfl⟩
 rw[←hs]at htk hmem ⊢
 have HM:Hid ((s,true)∈ks.set i (s,true)):=hmem
 obtain⟨R,hR⟩:∃ R,grpQ s.2.2 n=R:=⟨_,rfl⟩
 rw[hR]
 have HR:Hid (grpQ s.2.2 n=R):=hR
 clear hs hl hq hob hbb hS h hn hG hQ hmem hR
 go_enter Tryz.func106,Tryz.ntmps106
 go_upto_region 4 with(go_at_call 123;refine htk.mono ?_;rintro e' W1 ⟨rfl,hS1,hg1,hz1⟩)
 have hgw:w.grownBy W1 ev.ownBlock:=grown_trans (grown_below HQ.out.2.2) hg1
 obtain⟨_,_,_,_,p4,p5,p6⟩:=node_grown HQ.out.1 hg1 HQ.out.2.1
 rw[Nat.zero_add]at p4 p5 p6
 obtain⟨gp,ge⟩:=(HG.out.grow hgw).at
 have hnq:=HN.out W1 hgw
 have HW:Hid (ChkS L cb tf ev (ks.set i (s,true)) W1∧w.grownBy W1 ev.ownBlock∧Ints W1 s.1 s.2.2):=⟨hS1,hgw,hS1.ints (s,true) HM.out⟩
 clear hS1 hgw hg1 hz1 htk n1 HN HG HQ hi p4 p6 ge
 rw[hnq.kl]at p5
 have hky:=hnq.ky
 clear hnq
 generalize hkz:n.ks=kz at p5 hky
 have hcb:=canBeKeys_any nd.ky.1 kz.length nd.ky.2.2 W1
 by_cases hlen:1≤kz.length∧kz.length≤4
 rotate_left
 ·rw[decide_eq_false hlen]at hcb
  obtain rfl:R=none:=by rw[←HR.out];unfold grpQ;rw[hkz];exact if_neg fun h=>hlen h
  clear HR hky hlen
  go_wp2_with (go_at_call 126;refine hcb.mono ?_;rintro e' W2 ⟨rfl,rfl⟩)
  go_region_held3 (fun X=>X.cell? ⟨0,0,none⟩=some (.iface 284 (.pointer (some pl)))) (first|go_keep|(repeat (first|assumption|refine cell_alloc ?_|refine cell_drew ?_))) (fail)
  go_wp2
  exact bodyPost_ret (v:=.tuple #[.slice none 0 0,.iface 284 (.pointer (some pl))]) (by simp[results,Tryz.results106,go_sem]) rfl (NodeF.pl (grown_drew HW.out.2.1))
 rw[decide_eq_true hlen]at hcb
 obtain⟨kb,ko,hka,-⟩:=hky 0 _ (List.getElem?_eq_getElem (by omega))
 rw[hka]at p5 hcb
 have hl4:=hlen.2
 have HKY:Hid (∀ X,Below W1.heap.size W1 X→∀ (j:Nat) (k:Kz),kz[j]?=some k→X.cell? ⟨kb,ko+j*4,none⟩=some (.int .i64 k.c)∧X.cell? ⟨kb,ko+j*4+1,none⟩=some (.int .i64 k.o)∧X.cell? ⟨kb,ko+j*4+2,none⟩=some (.bool k.d)∧X.cell? ⟨kb,ko+j*4+3,none⟩=some (.int .i64 k.f)):=fun X hX j k hk=>by
  obtain⟨b',o',e',q0,q1,q2,q3⟩:=hky j k hk
  rw[hka]at e'
  cases e'
  exact⟨cell_below hX q0,cell_below hX q1,cell_below hX q2,cell_below hX q3⟩
 have HLN:Hid (1≤kz.length):=hlen.1
 have HR2:Hid (toldsZ s.2.2 [] kz=R):=by show _=_;rw[←HR.out];unfold grpQ;rw[hkz];exact(if_pos hlen).symm
 clear HR hkz hky hka hlen
 go_wp2_with (go_at_call 126;refine hcb.mono ?_;rintro e' W2 ⟨rfl,rfl⟩)
 go_loopw [8,31] (fun sv i wr=>∃ T:List Int,T.length≤kz.length∧i=.int .i64 (T.length:Int)∧OwnC wr W2.heap.size 3 sv (T.map iv)∧Below W2.heap.size W2 wr∧toldsZ s.2.2 T (kz.drop T.length)=R) (fun _ i _=>kz.length-(intOf i).toNat)
 case atStart=>exact⟨[],Nat.zero_le _,rfl,OwnC.nil _ _ _,Below.refl _ _,HR2.out⟩
 case round=>
  obtain⟨T,hj,rfl,hown,hbw,hty⟩:=hrel
  obtain⟨j,hjT⟩:∃ j,j=T.length:=⟨_,rfl⟩
  have HJ:Hid (j=T.length∧toldsZ s.2.2 T (kz.drop T.length)=R):=⟨hjT,hty⟩
  have HOW:Hid _:=And.intro hown hbw
  obtain⟨sa,sc,hsv,hsc⟩:=hown.cells
  rw[List.length_map,←hjT]at hsv
  rw[←hjT]at hj ⊢
  have gpw:=cell_below hbw gp
  clear hty
  by_cases hlt:j<kz.length
  ·obtain⟨k,hk⟩:∃ k,k=kz[j]:=⟨_,rfl⟩
   have hget:kz[j]?=some k:=by rw[hk];exact List.getElem?_eq_getElem hlt
   obtain⟨q0,q1,q2,q3⟩:=HKY.out wr hbw j k hget
   have hbk:Below wr.heap.size wr (wr.alloc (.cells #[.int .i64 k.c,.int .i64 k.o,.bool k.d,.int .i64 k.f] 79)):=below_alloc (Below.refl _ _) _
   have hxt:=toldType_any s.1 s.2.1 s.2.2 k (wr.alloc (.cells #[.int .i64 k.c,.int .i64 k.o,.bool k.d,.int .i64 k.f] 79)) ((HW.out.2.2.below hbw).below hbk)
   have hdr:=toldsZ_drop (s:=s.2.2) (T:=T) hget
   rw[hjT,HJ.out.2]at hdr
   subst hsv
   have HLT:Hid (j<kz.length):=hlt
   have HBK:Hid (Below wr.heap.size wr (wr.alloc (.cells #[.int .i64 k.c,.int .i64 k.o,.bool k.d,.int .i64 k.f] 79))):=hbk
   have gpk:=cell_below hbk gpw
   clear hk hown hbw hsc hget hjT hbk
   rcases hx:toldZ s.2.2 k with _|t
   ·rw[hx]at hxt hdr
    obtain rfl:R=none:=hdr
    clear hx HR2
    go_wp2_with (go_at_call 129;refine hxt.mono ?_;rintro e' W3 ⟨⟨t,rfl,-⟩,hb3⟩;have gp3:=cell_below hb3 gpk)
    go_region_held3 (fun X=>X.cell? ⟨0,0,none⟩=some (.iface 284 (.pointer (some pl)))) (first|go_keep|(repeat (first|assumption|refine cell_alloc ?_|refine cell_drew ?_))) (fail)
    go_wp2
    exact bodyPost_ret (v:=.tuple #[.slice none 0 0,.iface 284 (.pointer (some pl))]) (by simp[results,Tryz.results106,go_sem]) rfl (NodeF.pl (grown_drew (grown_trans HW.out.2.1 (grown_below (below_then HOW.out.2 (below_then HBK.out hb3))))))
   rw[hx]at hxt hdr
   have HDR:Hid (toldsZ s.2.2 (T++[t]) (kz.drop (T.length+1))=R):=hdr.symm
   clear hx hdr
   go_wp2_with (first|(go_at_call 129;refine hxt.mono ?_;rintro e' W3 ⟨⟨t5,rfl,ht5⟩,hb3⟩;obtain rfl:=ht5 _ rfl;clear ht5;have hb2:=below_then HBK.out hb3)|(at_builtin;go_must (refine wpList_append_C (by rfl) _ _ 29 3 _ 8 info_int (by rfl) (by decide) (by kernel_rfl) (by rfl) W2.heap.size _ _ (by rfl) (OwnC.alloc (owns_of_block HOW.out.1 fun g e=>hb2.block g (owns_block HOW.out.1 e).2) _) ⟨W3.heap.size,0,none⟩ 1 [iv t5] (by rfl) (by exact news_one W3 _ _) (by intro u hu;simp at hu;subst hu;rfl) (by simp only[List.length_cons,List.length_nil,List.length_map];have:=HJ.out.1;omega) (by simp;have:=hb2.size;have:=HOW.out.2.size;omega) ?_);intro sv' w4 q1 q2 q3))
   go_roundw
   case rel=>
    have h1:=HLT.out
    have h2:=HJ.out.1
    refine⟨T++[t5],by rw[List.length_append,←h2];simp;omega,by rw[List.length_append,←h2];simp only[List.length_cons,List.length_nil];go_num,by rw[List.map_append];exact q1,?_,by rw[List.length_append];exact HDR.out⟩
    have hb4:Below W2.heap.size W2 (W3.alloc (.cells #[iv t5] 3)):=below_alloc (below_then HOW.out.2 hb2) _
    exact below_grown hb4 q2 fun k hk=>(owns_block HOW.out.1 hk).1
   case measure=>have:=HLT.out;have:=HJ.out.1;simp[intOf];omega
  have hje:j=kz.length:=by omega
  have hT:T≠[]:=fun e=>by have:=HLN.out;rw[e]at hjT;simp at hjT;omega
  obtain rfl:R=some T:=by rw[←HJ.out.2,←hjT,hje,List.drop_length];rfl
  subst hsv
  obtain⟨g,o,rfl,hgl,_⟩:=Ints.at (ns:=T) hsc (i:=0) (List.length_pos_iff.2 hT)
  have hgo:=owns_block HOW.out.1 (g:=g) rfl
  have HHC:Hid (Ints wr (some ⟨g,o,none⟩) T):=hsc
  have k2:¬ ((j:Int)<(kz.length:Int)):=by omega
  clear hsc hown hbw hlt hje HR2 hj
  go_wp2
  exact bodyPost_ret (v:=.tuple #[schV (some ⟨g,o,none⟩,sc,T),.nilIface]) (by simp[results,Tryz.results106,go_sem]) rfl (nodeP_new HW.out.1 HW.out.2.1 HOW.out.2 HHC.out hgo.1 hgl)
attribute [local go_sem] Oper.semAt_some
theorem equalI_any (a b:Option Addr)(ac bc:Nat)(l r:List Int)(w:World)(hl:Ints w a l)(hr:Ints w b r)(hn:l.length≤1000) :
  Calls Tryz.prog 131 #[.slice a l.length ac,.slice b r.length bc] w fun e w'=>e=.returned (.bool (decide (l=r)))∧Below w.heap.size w w':=by
 by_cases hlen:l.length=r.length
 rotate_left
 ·have k1:¬ ((l.length:Int)=(r.length:Int)):=by omega
  rw[decide_eq_false fun e=>hlen (by rw[e])]
  clear hl hr hn hlen
  go_enter Tryz.func131,Tryz.ntmps131
  go_wp2
  go_ret
  exact⟨rfl,Below.refl _ _⟩
 have HLN:Hid (l.length=r.length):=hlen
 obtain⟨n,hn'⟩:∃ n,n=l.length:=⟨_,rfl⟩
 rw[←hlen,←hn']
 have HN:Hid (n=l.length):=hn'
 have HL:Hid (∀ X,Below w.heap.size w X→Ints X a l∧Ints X b r):=fun X hX=>⟨hl.below hX,hr.below hX⟩
 have hn1:n≤1000:=by omega
 obtain⟨R,hR⟩:∃ R,R=decide (l=r):=⟨_,rfl⟩
 rw[←hR]
 have HR:Hid (R=decide (l=r)):=hR
 clear hl hr hlen hn' hn hR
 go_enter Tryz.func131,Tryz.ntmps131
 go_upto_region 4 with fail
 go_loopw [13] (fun i wr=>∃ j:Nat,j≤n∧i=.int .i64 (j:Int)∧Below w.heap.size w wr∧l.take j=r.take j) (fun i _=>n-(intOf i).toNat)
 case atStart=>exact⟨0,Nat.zero_le _,rfl,Below.refl _ _,rfl⟩
 case round=>
  obtain⟨j,hj,rfl,hbw,htk⟩:=hrel
  have HB:Hid (Below w.heap.size w wr∧l.take j=r.take j):=⟨hbw,htk⟩
  clear htk
  by_cases hlt:j<n
  ·have hjl:j<l.length:=by have:=HN.out;omega
   have hjr:j<r.length:=by have:=HN.out;have:=HLN.out;omega
   obtain⟨b1,o1,rfl,_,q1⟩:=(HL.out wr hbw).1.at hjl
   obtain⟨b2,o2,rfl,_,q2⟩:=(HL.out wr hbw).2.at hjr
   have HG:Hid (∀ (x y:Int),l[j]?=some x→r[j]?=some y→(R=true→x=y)∧(x=y→l.take (j+1)=r.take (j+1))):=fun x y hx hy=>⟨fun h=>by
    have:l=r:=by have:=HR.out;rw[h]at this;exact of_decide_eq_true this.symm
    rw[this,hy]at hx
    cases hx
    rfl,fun h=>by
    rw[List.take_add_one,List.take_add_one,HB.out.2,hx,hy,h]⟩
   have hgx:=HG.out l[j] r[j] (List.getElem?_eq_getElem hjl) (List.getElem?_eq_getElem hjr)
   generalize l[j]=x at q1 hgx
   generalize r[j]=y at q2 hgx
   have HX:Hid ((R=true→x=y)∧(x=y→l.take (j+1)=r.take (j+1))):=hgx
   have i1:(0:Int)≤(j:Int):=by omega
   have i2:(j:Int)<(n:Int):=by omega
   have HJ:Hid (j<n):=hlt
   clear hgx HG hbw
   go_upto_region 6 with fail
   refine wp_region_held_drew (S:=fun X=>X.cell? ⟨b1,o1+j,none⟩=some (.int .i64 x)∧X.cell? ⟨b2,o2+j,none⟩=some (.int .i64 y)) (by kernel_rfl) ⟨cell_drew q1,cell_drew q2⟩ (fun hH=>?_)
   refine tkj 0 rfl hH ?_
   refine tkj 1 rfl hH ?_
   refine tkj 2 rfl hH ?_
   refine tkj 3 rfl hH ?_
   refine tkj 4 rfl hH ?_
   refine tkj 5 rfl hH ?_
   refine tkj 6 rfl hH ?_
   refine tkj 7 rfl hH ?_
   refine tkj 8 rfl hH ?_
   refine tkn ?_
   refine wpAnyH_done (by kernel_rfl) ?_ _
   clear q1 q2
   by_cases hxy:x=y
   ·subst hxy
    go_wp2
    go_roundw
    case rel=>exact⟨j+1,HJ.out,by have:=HJ.out;go_num,drew_below HB.out.1,HX.out.2 rfl⟩
    case measure=>have:=HJ.out;simp[intOf];omega
   obtain rfl:R=false:=by
    cases hR:R with
    |false=>rfl
    |true=>exact absurd (HX.out.1 hR) hxy
   go_wp2
   go_ret
   exact⟨rfl,drew_below HB.out.1⟩
  obtain rfl:R=true:=by
   rw[HR.out]
   refine decide_eq_true ?_
   have h:=HB.out.2
   rwa [List.take_of_length_le (by have:=HN.out;omega),List.take_of_length_le (by have:=HN.out;have:=HLN.out;omega)]at h
  have k2:¬ ((j:Int)<(n:Int)):=by omega
  go_wp2
  go_ret
  exact⟨rfl,HB.out.1⟩
theorem pTakeTwo_no1 (L cb:Nat)(tf ev:Value)(ks:List Kn)(nd:Nd)(w:World)(h:ChkS L cb tf ev ks w)(pl ex:Addr)(hG:PlG w ev pl ex)(hno:¬ canTake ks nd.l) :
  Calls Tryz.prog 125 #[.pointer (some ⟨cb,0,none⟩),nd.val] w fun e W'=>(∃ a b,e=.returned (.tuple #[a,b,.iface 284 (.pointer (some pl))]))∧w.grownBy W' ev.ownBlock:=by
 have hbb:Below w.heap.size w (ndBox w nd):=below_alloc (Below.refl _ _) _
 obtain⟨_,n1,_⟩:=ndBox_at w nd
 rw[Nat.zero_add]at n1
 have htk:=pTake_no L cb tf ev ks nd.l (ndBox w nd) (h.below hbb) pl ex (hG.below hbb) hno
 clear h hG hno
 go_enter Tryz.func125,Tryz.ntmps125
 go_wp2_with (go_at_call 123;refine htk.mono ?_;rintro e' W1 ⟨rfl,hb1⟩)
 exact bodyPost_ret (v:=.tuple #[.slice none 0 0,.slice none 0 0,.iface 284 (.pointer (some pl))]) (by simp[results,Tryz.results125,go_sem]) rfl ⟨⟨_,_,rfl⟩,grown_below (below_then hbb hb1)⟩
theorem pTakeTwo_no2 (L cb:Nat)(tf ev:Value)(ks:List Kn)(nd:Nd)(i:Nat)(w:World)(h:ChkS L cb tf ev ks w)(hl:nd.l=(i:Int))(hi:i<ks.length)(hn:ks[i].2=false)(pl ex:Addr)(hG:PlG w ev pl ex)(hno:¬ canTake (ks.set i (ks[i].1,true)) nd.r) :
  Calls Tryz.prog 125 #[.pointer (some ⟨cb,0,none⟩),nd.val] w fun e W'=>(∃ a b,e=.returned (.tuple #[a,b,.iface 284 (.pointer (some pl))]))∧w.grownBy W' ev.ownBlock:=by
 have hbb:Below w.heap.size w (ndBox w nd):=below_alloc (Below.refl _ _) _
 have hq:=ndBox_at w nd
 have hS:=h.below hbb
 have htk:=pTake_ok L cb tf ev ks i (ndBox w nd) hS hi hn
 have hob:ev.ownBlock≠some w.heap.size:=fun e=>by have:=(owns_block h.own e).2;omega
 have HT:Hid (∀ W,ChkS L cb tf ev (ks.set i (ks[i].1,true)) W→PlG W ev pl ex→Calls Tryz.prog 123 #[.pointer (some ⟨cb,0,none⟩),.int .i64 nd.r] W fun e W'=>e=.returned (.tuple #[.slice none 0 0,.iface 284 (.pointer (some pl))])∧Below W.heap.size W W'):=fun W hW hg=>pTake_no L cb tf ev (ks.set i (ks[i].1,true)) nd.r W hW pl ex hg hno
 have HQ:Hid (NodeAt (ndBox w nd) w.heap.size 0 nd∧ev.ownBlock≠some w.heap.size∧Below w.heap.size w (ndBox w nd)):=⟨hq,hob,hbb⟩
 have HG:Hid (PlG w ev pl ex):=hG
 have n1:=hq.2.1
 rw[hl,Nat.zero_add]at n1
 have hnn:=run_neq_nil_nil (P:=Tryz.prog)
 obtain⟨s,hs⟩:∃ s,s=ks[i].1:=⟨_,rfl⟩
 rw[←hs]at htk HT
 clear hs hl hq hob hbb hS h hn hno hG
 go_enter Tryz.func125,Tryz.ntmps125
 go_upto_region 4 with(go_at_call 123;refine htk.mono ?_;rintro e' W1 ⟨rfl,hS1,hg1,hz1⟩)
 have hgw:w.grownBy W1 ev.ownBlock:=grown_trans (grown_below HQ.out.2.2) hg1
 have n2:=(node_grown HQ.out.1 hg1 HQ.out.2.1).2.2.1
 rw[Nat.zero_add]at n2
 have htk2:=HT.out W1 hS1 (HG.out.grow hgw)
 have HG1:Hid _:=hgw
 clear hS1 hg1 htk n1 HT hgw
 go_wp2_with (go_at_call 123;refine htk2.mono ?_;rintro e' W2 ⟨rfl,hb2⟩)
 exact bodyPost_ret (v:=.tuple #[schV s,.slice none 0 0,.iface 284 (.pointer (some pl))]) (by simp[results,Tryz.results125,go_sem]) rfl ⟨⟨_,_,rfl⟩,grown_trans HG1.out (grown_below hb2)⟩
def canTwo (ks:List Kn)(l r:Int):Prop:=∃ (i:Nat) (hi:i<ks.length),l=(i:Int)∧ks[i].2=false∧canTake (ks.set i (ks[i].1,true)) r
theorem pTakeTwo_no (L cb:Nat)(tf ev:Value)(ks:List Kn)(nd:Nd)(w:World)(h:ChkS L cb tf ev ks w)(pl ex:Addr)(hG:PlG w ev pl ex)(hno:¬ canTwo ks nd.l nd.r) :
  Calls Tryz.prog 125 #[.pointer (some ⟨cb,0,none⟩),nd.val] w fun e W'=>(∃ a b,e=.returned (.tuple #[a,b,.iface 284 (.pointer (some pl))]))∧w.grownBy W' ev.ownBlock:=by
 by_cases h1:canTake ks nd.l
 ·obtain⟨i,hi,hl,hn⟩:=h1.get
  exact pTakeTwo_no2 L cb tf ev ks nd i w h hl hi hn pl ex hG fun h2=>hno ⟨i,hi,hl,hn,h2⟩
 exact pTakeTwo_no1 L cb tf ev ks nd w h pl ex hG h1
theorem canTwo.get {ks:List Kn}{l r:Int}(h:canTwo ks l r):∃ (i k:Nat) (hi:i<ks.length) (hk:k<ks.length),l=(i:Int)∧r=(k:Int)∧i≠k∧ks[i].2=false∧ks[k].2=false:=by
 obtain⟨i,hi,hl,hn,h2⟩:=h
 obtain⟨k,hk,hr,hm⟩:=h2.get
 have hk':k<ks.length:=by rwa [List.length_set]at hk
 have hne:i≠k:=fun e=>by
  subst e
  rw[List.getElem_set_self]at hm
  cases hm
 rw[List.getElem_set_ne hne]at hm
 exact⟨i,k,hi,hk',hl,hr,hne,hn,hm⟩
theorem pJoin_take (L cb:Nat)(tf ev:Value)(ks:List Kn)(nd:Nd)(w:World)(h:ChkS L cb tf ev ks w)(pl ex:Addr)(hG:PlG w ev pl ex)(hno:¬ canTwo ks nd.l nd.r) :
  Calls Tryz.prog 105 #[.pointer (some ⟨cb,0,none⟩),nd.val] w (NodeF w ev pl ex):=by
 have hbb:Below w.heap.size w (ndBox w nd):=below_alloc (Below.refl _ _) _
 obtain⟨n0,n1,n2,n3,n4,n5,n6⟩:=ndBox_at w nd
 rw[Nat.zero_add]at n1 n2 n3 n4 n5 n6
 have htk:=pTakeTwo_no L cb tf ev ks nd (ndBox w nd) (h.below hbb) pl ex (hG.below hbb) hno
 clear h hG hno
 go_enter Tryz.func105,Tryz.ntmps105
 go_wp2_with (go_at_call 125;refine htk.mono ?_;rintro e' W1 ⟨⟨ra,rb,rfl⟩,hg1⟩)
 exact bodyPost_ret (v:=.tuple #[.slice none 0 0,.iface 284 (.pointer (some pl))]) (by simp[results,Tryz.results105,go_sem]) rfl (NodeF.pl (grown_trans (grown_below hbb) hg1))
theorem pUnion_take (L cb:Nat)(tf ev:Value)(ks:List Kn)(nd:Nd)(w:World)(h:ChkS L cb tf ev ks w)(pl ex:Addr)(hG:PlG w ev pl ex)(hno:¬ canTwo ks nd.l nd.r) :
  Calls Tryz.prog 109 #[.pointer (some ⟨cb,0,none⟩),nd.val] w (NodeF w ev pl ex):=by
 have hbb:Below w.heap.size w (ndBox w nd):=below_alloc (Below.refl _ _) _
 obtain⟨n0,n1,n2,n3,n4,n5,n6⟩:=ndBox_at w nd
 rw[Nat.zero_add]at n1 n2 n3 n4 n5 n6
 have htk:=pTakeTwo_no L cb tf ev ks nd (ndBox w nd) (h.below hbb) pl ex (hG.below hbb) hno
 clear h hG hno
 go_enter Tryz.func109,Tryz.ntmps109
 go_wp2_with (go_at_call 125;refine htk.mono ?_;rintro e' W1 ⟨⟨ra,rb,rfl⟩,hg1⟩)
 exact bodyPost_ret (v:=.tuple #[.slice none 0 0,.iface 284 (.pointer (some pl))]) (by simp[results,Tryz.results109,go_sem]) rfl (NodeF.pl (grown_trans (grown_below hbb) hg1))
def unQ (l r:List Int)(_:QN):Option (List Int):=if l=r then some l else none
theorem pUnion_any (L cb:Nat)(tf ev:Value)(ks:List Kn)(nd:Nd)(n:QN)(i r:Nat)(w:World)(h:ChkS L cb tf ev ks w)(hl:nd.l=(i:Int))(hr:nd.r=(r:Int))(hi:i<ks.length)(hir:r<ks.length)(hne:i≠r)(hn:ks[i].2=false)(hnr:ks[r].2=false)(hw1:ks[i].1.2.2.length≤12)(hw2:ks[r].1.2.2.length≤12)(pl ex:Addr)(hG:PlG w ev pl ex)(hQ:∀ X,w.grownBy X ev.ownBlock→NdQ X nd n) :
  Calls Tryz.prog 109 #[.pointer (some ⟨cb,0,none⟩),nd.val] w (NodeR L cb tf ev ((ks.set i (ks[i].1,true)).set r (ks[r].1,true)) (unQ ks[i].1.2.2 ks[r].1.2.2 n) pl ex w):=by
 have hbb:Below w.heap.size w (ndBox w nd):=below_alloc (Below.refl _ _) _
 have hq:=ndBox_at w nd
 have hS:=h.below hbb
 have htk:=pTakeTwo_ok L cb tf ev ks nd i r (ndBox w nd) hS hl hr hi hir hne hn hnr
 have hob:ev.ownBlock≠some w.heap.size:=fun e=>by have:=(owns_block h.own e).2;omega
 have hmr:(ks[r].1,true)∈(ks.set i (ks[i].1,true)).set r (ks[r].1,true):=List.mem_set (by rw[List.length_set];exact hir) _
 have hmi:(ks[i].1,true)∈(ks.set i (ks[i].1,true)).set r (ks[r].1,true):=List.mem_iff_getElem?.2 ⟨i,by rw[List.getElem?_set,if_neg (Ne.symm hne),List.getElem?_set,if_pos rfl];simp[hi]⟩
 have HQ:Hid (NodeAt (ndBox w nd) w.heap.size 0 nd∧ev.ownBlock≠some w.heap.size∧Below w.heap.size w (ndBox w nd)):=⟨hq,hob,hbb⟩
 have HN:Hid (∀ X,w.grownBy X ev.ownBlock→NdQ X nd n):=hQ
 have HG:Hid (PlG w ev pl ex):=hG
 have hnn:=run_neq_nil_nil (P:=Tryz.prog)
 obtain⟨n0,n1,n2,n3,n4,n5,n6⟩:=hq
 rw[Nat.zero_add]at n1 n2 n3 n4 n5 n6
 obtain⟨s,hs⟩:∃ s,s=ks[i].1:=⟨_,rfl⟩
 obtain⟨t,ht⟩:∃ t,t=ks[r].1:=⟨_,rfl⟩
 rw[←hs]at htk hmi hmr hw1 ⊢
 rw[←ht]at htk hmi hmr hw2 ⊢
 have HM:Hid ((s,true)∈(ks.set i (s,true)).set r (t,true)∧s.2.2.length≤12∧t.2.2.length≤12):=⟨hmi,hw1,hw2⟩
 have HM2:Hid ((t,true)∈(ks.set i (s,true)).set r (t,true)):=hmr
 obtain⟨R,hR⟩:∃ R,unQ s.2.2 t.2.2 n=R:=⟨_,rfl⟩
 rw[hR]
 have HR:Hid (unQ s.2.2 t.2.2 n=R):=hR
 generalize (ks.set i (s,true)).set r (t,true)=ks' at htk HM HM2 ⊢
 clear hs ht hl hr hob hbb hS h hn hnr hG hQ hmi hmr hR hw1 hw2 hi hir hne
 go_enter Tryz.func109,Tryz.ntmps109
 go_upto_region 4 with(go_at_call 125;refine htk.mono ?_;rintro e' W1 ⟨rfl,hS1,hg1⟩)
 have hgw:w.grownBy W1 ev.ownBlock:=grown_trans (grown_below HQ.out.2.2) hg1
 obtain⟨_,_,_,_,_,p5,p6⟩:=node_grown HQ.out.1 hg1 HQ.out.2.1
 rw[Nat.zero_add]at p5 p6
 obtain⟨gp,-⟩:=(HG.out.grow hgw).at
 have hnq:=HN.out W1 hgw
 have HW:Hid (ChkS L cb tf ev ks' W1∧w.grownBy W1 ev.ownBlock∧Ints W1 s.1 s.2.2∧Ints W1 t.1 t.2.2):=⟨hS1,hgw,hS1.ints (s,true) HM.out.1,hS1.ints (t,true) HM2.out⟩
 clear hS1 hgw hg1 htk n0 n1 n2 n3 n4 n5 n6 HN HG HQ HM2
 clear hnq p5 p6
 have heq:=equalI_any s.1 t.1 s.2.1 t.2.1 s.2.2 t.2.2 W1 HW.out.2.2.1 HW.out.2.2.2 (by have:=HM.out.2.1;omega)
 by_cases he:s.2.2=t.2.2
 ·rw[decide_eq_true he]at heq
  obtain rfl:R=some s.2.2:=by rw[←HR.out];exact if_pos he
  clear he HR
  go_wp2_with (go_at_call 131;refine heq.mono ?_;rintro e' W2 ⟨rfl,hb2⟩)
  exact bodyPost_ret (v:=.tuple #[schV s,.nilIface]) (by simp[results,Tryz.results109,go_sem]) rfl (nodeP_same HW.out.1 HW.out.2.1 HM.out.1 hb2)
 rw[decide_eq_false he]at heq
 obtain rfl:R=none:=by rw[←HR.out];exact if_neg he
 clear he HR
 go_wp2_with (go_at_call 131;refine heq.mono ?_;rintro e' W2 ⟨rfl,hb2⟩;have gp2:=cell_below hb2 gp)
 go_region_held3 (fun X=>X.cell? ⟨0,0,none⟩=some (.iface 284 (.pointer (some pl)))) (first|go_keep|(repeat (first|assumption|refine cell_alloc ?_|refine cell_drew ?_))) (fail)
 go_wp2
 exact bodyPost_ret (v:=.tuple #[.slice none 0 0,.iface 284 (.pointer (some pl))]) (by simp[results,Tryz.results109,go_sem]) rfl (NodeF.pl (grown_drew (grown_trans HW.out.2.1 (grown_below hb2))))
def pairZ (l r:List Int)(k:Kz):Bool:=(tyI l k.c).isSome&&(tyI r k.o).isSome&&decide (tyI l k.c=tyI r k.o)
theorem tyI_pos {T:List Int}{i:Int}(h:(tyI T i).isSome=true):0<T.length:=by
 unfold tyI at h
 by_cases q:0≤i∧i<T.length
 ·omega
 rw[if_neg q]at h;cases h
theorem pairZ_pos {l r:List Int}{k:Kz}(h:pairZ l r k=true):0<l.length∧0<r.length:=by
 unfold pairZ at h
 rw[Bool.and_eq_true,Bool.and_eq_true]at h
 exact⟨tyI_pos h.1.1,tyI_pos h.1.2⟩
theorem arePairs_any (kb ko kc:Nat)(kz:List Kz)(a b:Option Addr)(ac bc:Nat)(l r:List Int)(w:World)(hK:∀ X,Below w.heap.size w X→∀ (j:Nat) (k:Kz),kz[j]?=some k→X.cell? ⟨kb,ko+j*4,none⟩=some (.int .i64 k.c)∧X.cell? ⟨kb,ko+j*4+1,none⟩=some (.int .i64 k.o)∧X.cell? ⟨kb,ko+j*4+2,none⟩=some (.bool k.d)∧X.cell? ⟨kb,ko+j*4+3,none⟩=some (.int .i64 k.f))(hl:Ints w a l)(hr:Ints w b r)(h4:kz.length≤4) :
  Calls Tryz.prog 127 #[.slice (some ⟨kb,ko,none⟩) kz.length kc,.slice a l.length ac,.slice b r.length bc] w fun e w'=>e=.returned (.bool (kz.all (pairZ l r)))∧Below w.heap.size w w':=by
 have HK:Hid _:=hK
 have HL:Hid (∀ X,Below w.heap.size w X→Ints X a l∧Ints X b r):=fun X hX=>⟨hl.below hX,hr.below hX⟩
 obtain⟨R,hR⟩:∃ R,R=kz.all (pairZ l r):=⟨_,rfl⟩
 rw[←hR]
 have HR:Hid (R=kz.all (pairZ l r)):=hR
 clear hK hl hr hR
 go_enter Tryz.func127,Tryz.ntmps127
 go_upto_region 2 with fail
 go_loopw [15] (fun i wr=>∃ j:Nat,j≤kz.length∧i=.int .i64 (j:Int)∧Below w.heap.size w wr∧(kz.take j).all (pairZ l r)=true) (fun i _=>kz.length-(intOf i).toNat)
 case atStart=>exact⟨0,Nat.zero_le _,rfl,Below.refl _ _,rfl⟩
 case round=>
  obtain⟨j,hj,rfl,hbw,hdn⟩:=hrel
  have HB:Hid (Below w.heap.size w wr∧(kz.take j).all (pairZ l r)=true):=⟨hbw,hdn⟩
  clear hdn
  by_cases hlt:j<kz.length
  ·obtain⟨k,hk⟩:∃ k,k=kz[j]:=⟨_,rfl⟩
   have hget:kz[j]?=some k:=by rw[hk];exact List.getElem?_eq_getElem hlt
   obtain⟨q0,q1,q2,q3⟩:=HK.out wr hbw j k hget
   have hbk:Below wr.heap.size wr (wr.alloc (.cells #[.int .i64 k.c,.int .i64 k.o,.bool k.d,.int .i64 k.f] 79)):=below_alloc (Below.refl _ _) _
   have h1:=typeAt_any a ac l k.c _ ((HL.out wr hbw).1.below hbk)
   have h2:=typeAt_any b bc r k.o _ ((HL.out wr hbw).2.below hbk)
   have HJ:Hid (j<kz.length∧Below wr.heap.size wr (wr.alloc (.cells #[.int .i64 k.c,.int .i64 k.o,.bool k.d,.int .i64 k.f] 79))):=⟨hlt,hbk⟩
   have HNO:Hid (pairZ l r k=false→R=false):=fun hp=>by
    rw[HR.out]
    refine Bool.eq_false_iff.2 fun ha=>?_
    have:=List.all_eq_true.1 ha k (by rw[hk];exact List.getElem_mem _)
    rw[hp]at this
    cases this
   have HYES:Hid (pairZ l r k=true→(kz.take (j+1)).all (pairZ l r)=true):=fun hp=>by
    rw[List.take_succ_eq_append_getElem hlt,List.all_append,HB.out.2,←hk]
    simp[hp]
   have hpz:pairZ l r k=((tyI l k.c).isSome&&(tyI r k.o).isSome&&decide (tyI l k.c=tyI r k.o)):=rfl
   rw[hpz]at HNO HYES
   clear hpz hk hget hbw hbk
   generalize tyI l k.c=x at h1 HNO HYES
   generalize tyI r k.o=y at h2 HNO HYES
   go_upto_region 5 with(go_at_call 130;refine h1.mono ?_;rintro e' W3 ⟨rfl,rfl⟩)
   rcases x with _|x
   ·obtain rfl:R=false:=HNO.out (by simp)
    clear HNO HYES
    obtain⟨u,hu⟩:∃ u,u=y.getD 0:=⟨_,rfl⟩
    obtain⟨v,hv⟩:∃ v,v=y.isSome:=⟨_,rfl⟩
    rw[tyV,←hu,←hv]at h2
    clear hu hv
    go_wp2_with (go_at_call 130;refine h2.mono ?_;rintro e' W4 ⟨rfl,rfl⟩)
    go_ret
    exact⟨rfl,below_then HB.out.1 HJ.out.2⟩
   rcases y with _|y
   ·obtain rfl:R=false:=HNO.out (by simp)
    clear HNO HYES
    go_wp2_with (go_at_call 130;refine h2.mono ?_;rintro e' W4 ⟨rfl,rfl⟩)
    go_ret
    exact⟨rfl,below_then HB.out.1 HJ.out.2⟩
   by_cases hxy:x=y
   ·subst hxy
    have hy:=HYES.out (by simp)
    have HY:Hid ((kz.take (j+1)).all (pairZ l r)=true):=hy
    clear HNO HYES hy
    go_wp2_with (go_at_call 130;refine h2.mono ?_;rintro e' W4 ⟨rfl,rfl⟩)
    go_roundw
    case rel=>exact⟨j+1,HJ.out.1,by have:=HJ.out.1;go_num,below_then HB.out.1 HJ.out.2,HY.out⟩
    case measure=>have:=HJ.out.1;simp[intOf];omega
   obtain rfl:R=false:=HNO.out (by simp[hxy])
   clear HNO HYES
   go_wp2_with (go_at_call 130;refine h2.mono ?_;rintro e' W4 ⟨rfl,rfl⟩)
   go_ret
   exact⟨rfl,below_then HB.out.1 HJ.out.2⟩
  obtain rfl:j=kz.length:=by omega
  obtain rfl:R=true:=by rw[HR.out];have:=HB.out.2;rwa [List.take_length]at this
  go_wp2
  go_ret
  exact⟨rfl,HB.out.1⟩
theorem pBeside_no (a b:Option Addr)(n m c1 c2:Nat)(w:World)(pl:Addr)(gp:w.cell? ⟨0,0,none⟩=some (.iface 284 (.pointer (some pl))))(h1:n≤12)(h2:m≤12)(h12:12<n+m) :
  Calls Tryz.prog 128 #[.slice a n c1,.slice b m c2] w fun e w'=>Below w.heap.size w w'∧e=.returned (.tuple #[.slice none 0 0,.iface 284 (.pointer (some pl))]):=by
 have j1:IntKind.i64.wrap ((n:Int)+(m:Int))=(n:Int)+(m:Int):=by rw[IntKind.wrap_i64];omega
 have j2:((n:Int)+(m:Int)>12):=by omega
 clear h1 h2 h12
 go_enter Tryz.func128,Tryz.ntmps128
 go_wp2
 go_region_held3 (fun X=>X.cell? ⟨0,0,none⟩=some (.iface 284 (.pointer (some pl)))) (first|go_keep|(repeat (first|assumption|refine cell_alloc ?_|refine cell_drew ?_))) (fail)
 go_wp2
 exact bodyPost_ret (v:=.tuple #[.slice none 0 0,.iface 284 (.pointer (some pl))]) (by simp[results,Tryz.results128,go_sem]) rfl ⟨drew_below (Below.refl _ _),rfl⟩
def joinQ (l r:List Int)(n:QN):Option (List Int):=
 if (1≤n.ks.length∧n.ks.length≤4)∧n.ks.all (pairZ l r)=true then
  (if n.kk=0∨n.kk=1 then (if l.length+r.length≤12 then some (l++r)else none)else if n.kk=2∨n.kk=3 then some l else none)
 else none
theorem pJoin_any (L cb:Nat)(tf ev:Value)(ks:List Kn)(nd:Nd)(n:QN)(i r:Nat)(w:World)(h:ChkS L cb tf ev ks w)(hl:nd.l=(i:Int))(hr:nd.r=(r:Int))(hi:i<ks.length)(hir:r<ks.length)(hne:i≠r)(hn:ks[i].2=false)(hnr:ks[r].2=false)(hw1:ks[i].1.2.2.length≤12)(hw2:ks[r].1.2.2.length≤12)(pl ex:Addr)(hG:PlG w ev pl ex)(hQ:∀ X,w.grownBy X ev.ownBlock→NdQ X nd n) :
  Calls Tryz.prog 105 #[.pointer (some ⟨cb,0,none⟩),nd.val] w (NodeR L cb tf ev ((ks.set i (ks[i].1,true)).set r (ks[r].1,true)) (joinQ ks[i].1.2.2 ks[r].1.2.2 n) pl ex w):=by
 have hbb:Below w.heap.size w (ndBox w nd):=below_alloc (Below.refl _ _) _
 have hq:=ndBox_at w nd
 have hS:=h.below hbb
 have htk:=pTakeTwo_ok L cb tf ev ks nd i r (ndBox w nd) hS hl hr hi hir hne hn hnr
 have hob:ev.ownBlock≠some w.heap.size:=fun e=>by have:=(owns_block h.own e).2;omega
 have hmr:(ks[r].1,true)∈(ks.set i (ks[i].1,true)).set r (ks[r].1,true):=List.mem_set (by rw[List.length_set];exact hir) _
 have hmi:(ks[i].1,true)∈(ks.set i (ks[i].1,true)).set r (ks[r].1,true):=List.mem_iff_getElem?.2 ⟨i,by rw[List.getElem?_set,if_neg (Ne.symm hne),List.getElem?_set,if_pos rfl];simp[hi]⟩
 have HQ:Hid (NodeAt (ndBox w nd) w.heap.size 0 nd∧ev.ownBlock≠some w.heap.size∧Below w.heap.size w (ndBox w nd)):=⟨hq,hob,hbb⟩
 have HN:Hid (∀ X,w.grownBy X ev.ownBlock→NdQ X nd n):=hQ
 have HG:Hid (PlG w ev pl ex):=hG
 have hnn:=run_neq_nil_nil (P:=Tryz.prog)
 obtain⟨n0,n1,n2,n3,n4,n5,n6⟩:=hq
 rw[Nat.zero_add]at n1 n2 n3 n4 n5 n6
 obtain⟨s,hs⟩:∃ s,s=ks[i].1:=⟨_,rfl⟩
 obtain⟨t,ht⟩:∃ t,t=ks[r].1:=⟨_,rfl⟩
 rw[←hs]at htk hmi hmr hw1 ⊢
 rw[←ht]at htk hmi hmr hw2 ⊢
 have HM:Hid ((s,true)∈(ks.set i (s,true)).set r (t,true)∧s.2.2.length≤12∧t.2.2.length≤12):=⟨hmi,hw1,hw2⟩
 have HM2:Hid ((t,true)∈(ks.set i (s,true)).set r (t,true)):=hmr
 obtain⟨R,hR⟩:∃ R,joinQ s.2.2 t.2.2 n=R:=⟨_,rfl⟩
 rw[hR]
 have HR:Hid (joinQ s.2.2 t.2.2 n=R):=hR
 generalize (ks.set i (s,true)).set r (t,true)=ks' at htk HM HM2 ⊢
 clear hs ht hl hr hob hbb hS h hn hnr hG hQ hmi hmr hR hw1 hw2 hi hir hne
 go_enter Tryz.func105,Tryz.ntmps105
 go_upto_region 4 with(go_at_call 125;refine htk.mono ?_;rintro e' W1 ⟨rfl,hS1,hg1⟩)
 have hgw:w.grownBy W1 ev.ownBlock:=grown_trans (grown_below HQ.out.2.2) hg1
 obtain⟨_,_,_,_,_,p5,p6⟩:=node_grown HQ.out.1 hg1 HQ.out.2.1
 rw[Nat.zero_add]at p5 p6
 obtain⟨gp,-⟩:=(HG.out.grow hgw).at
 have hnq:=HN.out W1 hgw
 have HW:Hid (ChkS L cb tf ev ks' W1∧w.grownBy W1 ev.ownBlock∧Ints W1 s.1 s.2.2∧Ints W1 t.1 t.2.2):=⟨hS1,hgw,hS1.ints (s,true) HM.out.1,hS1.ints (t,true) HM2.out⟩
 clear hS1 hgw hg1 htk n0 n1 n2 n3 n4 n5 n6 HN HG HQ HM2
 rw[hnq.kk]at p6
 rw[hnq.kl]at p5
 have hky:=hnq.ky
 clear hnq
 generalize hkz:n.ks=kz at p5 hky
 have hcb:=canBeKeys_any nd.ky.1 kz.length nd.ky.2.2 W1
 by_cases hlen:1≤kz.length∧kz.length≤4
 rotate_left
 ·rw[decide_eq_false hlen]at hcb
  obtain rfl:R=none:=by rw[←HR.out];unfold joinQ;rw[hkz];exact if_neg fun h=>hlen h.1
  clear HR hky hlen
  go_wp2_with (go_at_call 126;refine hcb.mono ?_;rintro e' W2 ⟨rfl,rfl⟩)
  go_region_held3 (fun X=>X.cell? ⟨0,0,none⟩=some (.iface 284 (.pointer (some pl)))) (first|go_keep|(repeat (first|assumption|refine cell_alloc ?_|refine cell_drew ?_))) (fail)
  go_wp2
  exact bodyPost_ret (v:=.tuple #[.slice none 0 0,.iface 284 (.pointer (some pl))]) (by simp[results,Tryz.results105,go_sem]) rfl (NodeF.pl (grown_drew HW.out.2.1))
 rw[decide_eq_true hlen]at hcb
 obtain⟨kb,ko,hka,-⟩:=hky 0 _ (List.getElem?_eq_getElem (by omega))
 rw[hka]at p5 hcb
 have hl4:=hlen.2
 have HKY:Hid (∀ X,Below W1.heap.size W1 X→∀ (j:Nat) (k:Kz),kz[j]?=some k→X.cell? ⟨kb,ko+j*4,none⟩=some (.int .i64 k.c)∧X.cell? ⟨kb,ko+j*4+1,none⟩=some (.int .i64 k.o)∧X.cell? ⟨kb,ko+j*4+2,none⟩=some (.bool k.d)∧X.cell? ⟨kb,ko+j*4+3,none⟩=some (.int .i64 k.f)):=fun X hX j k hk=>by
  obtain⟨b',o',e',q0,q1,q2,q3⟩:=hky j k hk
  rw[hka]at e'
  cases e'
  exact⟨cell_below hX q0,cell_below hX q1,cell_below hX q2,cell_below hX q3⟩
 have HLN:Hid (1≤kz.length):=hlen.1
 have hap:=arePairs_any kb ko nd.ky.2.2 kz s.1 t.1 s.2.1 t.2.1 s.2.2 t.2.2 W1 HKY.out HW.out.2.2.1 HW.out.2.2.2 hl4
 have hpos:kz.all (pairZ s.2.2 t.2.2)=true→0<s.2.2.length∧0<t.2.2.length:=fun ha=>by
  exact pairZ_pos (List.all_eq_true.1 ha kz[0] (List.getElem_mem _))
 have HPO:Hid _:=hpos
 rcases hall:kz.all (pairZ s.2.2 t.2.2)with _|_
 ·rw[hall]at hap
  obtain rfl:R=none:=by rw[←HR.out];unfold joinQ;rw[hkz];exact if_neg fun h=>by rw[hall]at h;cases h.2
  clear HR hkz hky hka hlen hall hpos HPO
  go_wp2_with (first|(go_at_call 126;refine hcb.mono ?_;rintro e' W2 ⟨rfl,hW2⟩;subst hW2)|(go_at_call 127;refine hap.mono ?_;rintro e' W3 ⟨rfl,hb3⟩;have gp3:=cell_below hb3 gp))
  go_region_held3 (fun X=>X.cell? ⟨0,0,none⟩=some (.iface 284 (.pointer (some pl)))) (first|go_keep|(repeat (first|assumption|refine cell_alloc ?_|refine cell_drew ?_))) (fail)
  go_wp2
  exact bodyPost_ret (v:=.tuple #[.slice none 0 0,.iface 284 (.pointer (some pl))]) (by simp[results,Tryz.results105,go_sem]) rfl (NodeF.pl (grown_drew (grown_trans HW.out.2.1 (grown_below hb3))))
 rw[hall]at hap
 have hR2:(if n.kk=0∨n.kk=1 then (if s.2.2.length+t.2.2.length≤12 then some (s.2.2++t.2.2)else none)else if n.kk=2∨n.kk=3 then some s.2.2 else none)=R:=by
  rw[←HR.out];unfold joinQ;rw[hkz];exact(if_pos ⟨hlen,hall⟩).symm
 generalize n.kk=kk at p6 hR2
 have HR2:Hid _:=hR2
 have hpp:=hpos hall
 have HPP:Hid (0<s.2.2.length∧0<t.2.2.length):=hpp
 clear HR hkz hky hka hlen hall hpos HPO hR2 hpp
 go_upto_region 6 with(first|(go_at_call 126;refine hcb.mono ?_;rintro e' W2 ⟨rfl,hW2⟩;subst hW2)|(go_at_call 127;refine hap.mono ?_;rintro e' W3 ⟨rfl,hb3⟩))
 have q6:=cell_below hb3 p6
 have gp3:=cell_below hb3 gp
 clear p5 p6 hcb hap gp
 by_cases hk2:kk=0∨kk=1
 ·by_cases h12:s.2.2.length+t.2.2.length≤12
  ·obtain rfl:R=some (s.2.2++t.2.2):=by rw[←HR2.out,if_pos hk2,if_pos h12]
   obtain⟨b1,o1,e1,_,_⟩:=Ints.at (ns:=s.2.2) (HW.out.2.2.1.below hb3) HPP.out.1
   obtain⟨b2,o2,e2,_,_⟩:=Ints.at (ns:=t.2.2) (HW.out.2.2.2.below hb3) HPP.out.2
   have hbs:=pBeside_ok b1 o1 s.2.1 b2 o2 t.2.1 s.2.2 t.2.2 W3 (by rw[←e1];exact HW.out.2.2.1.below hb3) (by rw[←e2];exact HW.out.2.2.2.below hb3) HPP.out.1 h12
   rw[←e1,←e2]at hbs
   clear HR2 h12 e1 e2
   rcases hk2 with rfl|rfl
   all_goals
    go_wp2_with (go_at_call 128;refine hbs.mono ?_;rintro e' W4 ⟨hb4,g,o,c,rfl,hg0,hg1,hI⟩)
    exact bodyPost_ret (v:=.tuple #[.slice (some ⟨g,o,none⟩) (s.2.2++t.2.2).length c,.nilIface]) (by simp[results,Tryz.results105,go_sem]) rfl (nodeP_new HW.out.1 HW.out.2.1 (below_then hb3 hb4) hI (Nat.le_trans hb3.size hg0) hg1)
  obtain rfl:R=none:=by rw[←HR2.out,if_pos hk2,if_neg h12]
  have hbs:=pBeside_no s.1 t.1 s.2.2.length t.2.2.length s.2.1 t.2.1 W3 pl gp3 HM.out.2.1 HM.out.2.2 (by omega)
  clear HR2 h12
  rcases hk2 with rfl|rfl
  all_goals
   go_wp2_with (go_at_call 128;refine hbs.mono ?_;rintro e' W4 ⟨hb4,rfl⟩)
   exact bodyPost_ret (v:=.tuple #[.slice none 0 0,.iface 284 (.pointer (some pl))]) (by simp[results,Tryz.results105,go_sem]) rfl (NodeF.pl (grown_trans HW.out.2.1 (grown_below (below_then hb3 hb4))))
 by_cases hk4:kk=2∨kk=3
 ·obtain rfl:R=some s.2.2:=by rw[←HR2.out,if_neg hk2,if_pos hk4]
  clear HR2 hk2
  rcases hk4 with rfl|rfl
  all_goals
   go_wp2
   exact bodyPost_ret (v:=.tuple #[schV s,.nilIface]) (by simp[results,Tryz.results105,go_sem]) rfl (nodeP_same HW.out.1 HW.out.2.1 HM.out.1 hb3)
 obtain rfl:R=none:=by rw[←HR2.out,if_neg hk2,if_neg hk4]
 have k0:kk≠0:=fun e=>hk2 (.inl e)
 have k1:kk≠1:=fun e=>hk2 (.inr e)
 have k2:kk≠2:=fun e=>hk4 (.inl e)
 have k3:kk≠3:=fun e=>hk4 (.inr e)
 clear HR2 hk2 hk4
 go_wp2
 go_region_held3 (fun X=>X.cell? ⟨0,0,none⟩=some (.iface 284 (.pointer (some pl)))) (first|go_keep|(repeat (first|assumption|refine cell_alloc ?_|refine cell_drew ?_))) (fail)
 go_wp2
 exact bodyPost_ret (v:=.tuple #[.slice none 0 0,.iface 284 (.pointer (some pl))]) (by simp[results,Tryz.results105,go_sem]) rfl (NodeF.pl (grown_drew (grown_trans HW.out.2.1 (grown_below hb3))))
attribute [local go_sem] Oper.semAt_some
def namQ (n:QN)(i:Nat):Bool:=if n.op=0 then false else decide (n.l=(i:Int))||(decide (n.op=3∨n.op=7)&&decide (n.r=(i:Int)))
def flQ (ns:List QN)(j i:Nat):Bool:=(ns.take j).any fun n=>namQ n i
theorem flQ_next {ns:List QN}{j:Nat}{n:QN}(h:ns[j]?=some n)(i:Nat):flQ ns (j+1) i=(flQ ns j i||namQ n i):=by
 obtain⟨hj,he⟩:=List.getElem?_eq_some_iff.1 h
 unfold flQ
 rw[List.take_succ_eq_append_getElem hj,List.any_append,he]
 simp
def freeQ (scs:List (List Int))(fl:Nat→Bool)(i:Int):Option (List Int):=if 0≤i∧i<scs.length∧fl i.toNat=false then scs[i.toNat]? else none
def nodeQ (tys:ByteArray→Option (List Int))(scs:List (List Int))(fl:Nat→Bool)(n:QN):Option (List Int):=
 if n.op=0 then tys n.tn
 else if n.op=1 then (freeQ scs fl n.l).bind fun s=>filtQ s n
 else if n.op=2 then (freeQ scs fl n.l).bind fun s=>projQ s n
 else if n.op=3 then (freeQ scs fl n.l).bind fun a=>(freeQ scs fl n.r).bind fun b=>if n.l=n.r then none else joinQ a b n
 else if n.op=4 then (freeQ scs fl n.l).bind fun s=>grpQ s n
 else if n.op=5 then (freeQ scs fl n.l).bind fun s=>srtQ s n
 else if n.op=6 then (freeQ scs fl n.l).bind fun s=>limQ s n
 else if n.op=7 then (freeQ scs fl n.l).bind fun a=>(freeQ scs fl n.r).bind fun b=>if n.l=n.r then none else unQ a b n
 else none
theorem free_yes {scs:List (List Int)}{fl:Nat→Bool}{j:Nat}{ks:List Kn}(hK:KsOk scs fl j ks)(hj:j≤scs.length){i:Nat}(hi:i<ks.length)(hn:ks[i].2=false):freeQ (scs.take j) fl (i:Int)=some ks[i].1.2.2:=by
 have hg:=List.getElem?_eq_getElem hi
 have hl:=hK.len
 unfold freeQ
 rw[if_pos ⟨by omega,by rw[List.length_take,Nat.min_eq_left hj];omega,by rw[Int.toNat_natCast,←hK.flg i _ hg];exact hn⟩,Int.toNat_natCast,List.getElem?_take,if_pos (by omega)]
 exact hK.sch i _ hg
theorem free_no {scs:List (List Int)}{fl:Nat→Bool}{j:Nat}{ks:List Kn}(hK:KsOk scs fl j ks)(hj:j≤scs.length){i:Int}(hn:¬ canTake ks i):freeQ (scs.take j) fl i=none:=by
 have hl:=hK.len
 refine if_neg fun h=>hn ⟨h.1,?_,fun k hk=>?_⟩
 ·have:=h.2.1
  rw[List.length_take,Nat.min_eq_left hj]at this
  omega
 rw[hK.flg _ k hk]
 exact h.2.2
def NodeA (L cb:Nat)(tf ev:Value)(ks:List Kn)(flg:Nat→Bool)(o:Option (List Int))(pl ex:Addr)(W:World)(e:Ending)(W':World):Prop:=match o with
 |some sch=>∃ ks',ks'.map (·.1)=ks.map (·.1)∧(∀ (i:Nat) (k:Kn),ks'[i]?=some k→k.2=flg i)∧NodeP L cb tf ev ks' sch W e W'
 |none=>NodeF W ev pl ex e W'
theorem NodeA.of {L cb:Nat}{tf ev:Value}{ks ks':List Kn}{flg:Nat→Bool}{o:Option (List Int)}{pl ex:Addr}{W W':World}{e:Ending}(hm:ks'.map (·.1)=ks.map (·.1))(hf:∀ (i:Nat) (k:Kn),ks'[i]?=some k→k.2=flg i)(h:NodeR L cb tf ev ks' o pl ex W e W'):NodeA L cb tf ev ks flg o pl ex W e W':=by
 cases o with
 |none=>exact h
 |some s=>exact⟨ks',hm,hf,h⟩
theorem set1_ok {scs:List (List Int)}{ns:List QN}{j:Nat}{n:QN}(hj:ns[j]?=some n){ks:List Kn}(hK:KsOk scs (flQ ns j) j ks)(h0:n.op≠0)(h3:¬ (n.op=3∨n.op=7)){i:Nat}(hi:i<ks.length)(hl:n.l=(i:Int)) :
  (ks.set i (ks[i].1,true)).map (·.1)=ks.map (·.1)∧∀ (x:Nat) (k:Kn),(ks.set i (ks[i].1,true))[x]?=some k→k.2=flQ ns (j+1) x:=by
 constructor
 ·rw[List.map_set]
  apply List.ext_getElem?
  intro x
  rw[List.getElem?_set]
  by_cases e:i=x
  ·subst e;rw[if_pos rfl];simp[hi]
  rw[if_neg e]
 intro x k hk
 rw[flQ_next hj]
 unfold namQ
 rw[if_neg h0,decide_eq_false h3,Bool.false_and,Bool.or_false,hl]
 rw[List.getElem?_set]at hk
 by_cases e:i=x
 ·subst e
  rw[if_pos rfl]at hk
  simp only[hi,if_true]at hk
  cases hk
  simp
 rw[if_neg e]at hk
 rw[hK.flg x k hk,decide_eq_false (by omega),Bool.or_false]
theorem set2_ok {scs:List (List Int)}{ns:List QN}{j:Nat}{n:QN}(hj:ns[j]?=some n){ks:List Kn}(hK:KsOk scs (flQ ns j) j ks)(h3:n.op=3∨n.op=7){i r:Nat}(hi:i<ks.length)(hr:r<ks.length)(hl:n.l=(i:Int))(hrr:n.r=(r:Int)) :
  ((ks.set i (ks[i].1,true)).set r (ks[r].1,true)).map (·.1)=ks.map (·.1)∧∀ (x:Nat) (k:Kn),((ks.set i (ks[i].1,true)).set r (ks[r].1,true))[x]?=some k→k.2=flQ ns (j+1) x:=by
 have hat:∀ x:Nat,((ks.set i (ks[i].1,true)).set r (ks[r].1,true))[x]?=if r=x then some (ks[r].1,true)else if i=x then some (ks[i].1,true)else ks[x]?:=fun x=>by
  rw[List.getElem?_set]
  by_cases e:r=x
  ·subst e;simp[hr]
  rw[if_neg e,if_neg e,List.getElem?_set]
  by_cases e2:i=x
  ·subst e2;simp[hi]
  rw[if_neg e2,if_neg e2]
 constructor
 ·refine List.ext_getElem? fun x=>?_
  rw[List.getElem?_map,List.getElem?_map,hat]
  by_cases e:r=x
  ·subst e;rw[if_pos rfl,List.getElem?_eq_getElem hr];rfl
  rw[if_neg e]
  by_cases e2:i=x
  ·subst e2;rw[if_pos rfl,List.getElem?_eq_getElem hi];rfl
  rw[if_neg e2]
 intro x k hk
 rw[hat]at hk
 rw[flQ_next hj]
 unfold namQ
 rw[if_neg (by omega),decide_eq_true h3,Bool.true_and,hl,hrr]
 by_cases e:r=x
 ·rw[if_pos e]at hk;cases hk;simp[e]
 rw[if_neg e]at hk
 by_cases e2:i=x
 ·rw[if_pos e2]at hk;cases hk;simp[e2]
 rw[if_neg e2]at hk
 rw[hK.flg x k hk,decide_eq_false (by omega),decide_eq_false (by omega),Bool.or_false,Bool.or_false]
theorem two_no {scs:List (List Int)}{fl:Nat→Bool}{j:Nat}{ks:List Kn}(hK:KsOk scs fl j ks)(hj:j≤scs.length){l r:Int}(hn:¬ canTwo ks l r)(f:List Int→List Int→Option (List Int))(hf:l=r→∀ a b,f a b=none):((freeQ (scs.take j) fl l).bind fun a=>(freeQ (scs.take j) fl r).bind fun b=>f a b)=none:=by
 by_cases h1:canTake ks l
 ·obtain⟨i,hi,hl,hm⟩:=h1.get
  by_cases h2:canTake ks r
  ·obtain⟨k,hk,hr,hm2⟩:=h2.get
   by_cases e:l=r
   ·rw[hl,free_yes hK hj hi hm,hr,free_yes hK hj hk hm2,Option.bind_some,Option.bind_some]
    exact hf e _ _
   refine absurd ⟨i,hi,hl,hm,h2.1,by rw[List.length_set];exact h2.2.1,fun x hx=>?_⟩ hn
   rw[List.getElem?_set_ne (by omega)]at hx
   exact h2.2.2 x hx
  rw[free_no hK hj h2,hl,free_yes hK hj hi hm]
  rfl
 rw[free_no hK hj h1]
 rfl
def TysAt (w:World)(s:Nat)(tys:ByteArray→Option (List Int)):Prop:=∀ (tn:ByteArray) X,Below w.heap.size w X→Calls Tryz.prog 21 #[.pointer (some ⟨s,0,none⟩),.string tn] X fun e w'=>Below X.heap.size X w'∧match tys tn with
 |some sch=>∃ g c,e=.returned (.tuple #[.slice (some ⟨g,0,none⟩) sch.length c,.bool true])∧X.heap.size≤g∧g<w'.heap.size∧Ints w' (some ⟨g,0,none⟩) sch
 |none=>e=.returned (.tuple #[.slice none 0 0,.bool false])
theorem cell_und {w X:World}(hk:∀ k,k<w.heap.size→X.heap[k]?=w.heap[k]?){b o:Nat}{v:Value}(h:w.cell? ⟨b,o,none⟩=some v):X.cell? ⟨b,o,none⟩=some v:=by
 rw[←h]
 unfold World.cell?
 rw[show X.heap[(⟨b,o,none⟩:Addr).block]?=w.heap[(⟨b,o,none⟩:Addr).block]? from hk b (by have:=lt_of_cell h;exact this)]
theorem NdQ.under {w X:World}{nd:Nd}{n:QN}(h:NdQ w nd n)(hk:∀ k,k<w.heap.size→X.heap[k]?=w.heap[k]?):NdQ X nd n:=
 ⟨h.op,h.l,h.r,h.tn,h.kk,h.xl,fun j es hj=>by
  obtain⟨b,o,pa,pc,e,c,hp⟩:=h.xs j es hj
  refine⟨b,o,pa,pc,e,cell_und hk c,fun k p hkp=>?_⟩
  obtain⟨pb,po,e2,q0,q1,q2,q3,q4,q5,q6⟩:=hp k p hkp
  exact⟨pb,po,e2,cell_und hk q0,cell_und hk q1,cell_und hk q2,cell_und hk q3,cell_und hk q4,cell_und hk q5,cell_und hk q6⟩,h.kl,fun j k hj=>by
  obtain⟨b,o,e,q0,q1,q2,q3⟩:=h.ky j k hj
  exact⟨b,o,e,cell_und hk q0,cell_und hk q1,cell_und hk q2,cell_und hk q3⟩⟩
theorem low_of {w W X:World}{ev:Value}(hb:Below w.heap.size w W)(hev:∀ g,ev.ownBlock=some g→w.heap.size≤g)(hg:W.grownBy X ev.ownBlock):∀ k,k<w.heap.size→X.heap[k]?=w.heap[k]?:=fun k hk=>by
 rw[hg.block k (Nat.lt_of_lt_of_le hk hb.size) (fun e=>by have:=hev k e.symm;omega)]
 exact hb.block k hk
theorem node_any {tys:ByteArray→Option (List Int)}{scs:List (List Int)}{ns:List QN}{j:Nat}{n:QN}(hj:ns[j]?=some n)(hjs:j≤scs.length)(hw:∀ s∈scs,s.length≤12){nd:Nd}{w:World}(hi:NdQ w nd n)(s:Nat)(pl ex:Addr)(gp:w.cell? ⟨0,0,none⟩=some (.iface 284 (.pointer (some pl))))(ge:w.cell? ⟨7,0,none⟩=some (.iface 284 (.pointer (some ex))))(hty:TysAt w s tys)(h0:0≤n.op)(h7:n.op≤7)
  (W:World) (ev:Value) (ks:List Kn) (hb:Below w.heap.size w W) (hev:∀ g,ev.ownBlock=some g→w.heap.size≤g) (hC:ChkS (w.heap.size+2) (w.heap.size+1) (.func (.func 21) #[.pointer (some ⟨s,0,none⟩)] #[]) ev ks W) (hK:KsOk scs (flQ ns j) j ks) :
  Calls Tryz.prog (chkF nd.op) #[.pointer (some ⟨w.heap.size+1,0,none⟩),nd.val] W (NodeA (w.heap.size+2) (w.heap.size+1) (.func (.func 21) #[.pointer (some ⟨s,0,none⟩)] #[]) ev ks (flQ ns (j+1)) (nodeQ tys (scs.take j) (flQ ns j) n) pl ex W):=by
 have hG:PlG W ev pl ex:=⟨fun X hX=>cell_und (low_of hb hev hX) gp,fun X hX=>cell_und (low_of hb hev hX) ge⟩
 have hQ:∀ X,W.grownBy X ev.ownBlock→NdQ X nd n:=fun X hX=>hi.under (low_of hb hev hX)
 have hlen:∀ i (hi:i<ks.length),ks[i].1.2.2.length≤12:=fun i hi=>hw _ (List.mem_of_getElem? (hK.sch i _ (List.getElem?_eq_getElem hi)))
 rw[hi.op]
 have hop:n.op=0∨n.op=1∨n.op=2∨n.op=3∨n.op=4∨n.op=5∨n.op=6∨n.op=7:=by omega
 rcases hop with e|e|e|e|e|e|e|e
 ·rw[show chkF n.op=102 by rw[e];rfl,show nodeQ tys (scs.take j) (flQ ns j) n=tys n.tn from if_pos e]
  have hty':=fun X (hX:Below W.heap.size W X)=>hty n.tn X (below_then hb hX)
  cases hs:tys n.tn with
  |some sch=>
   rw[hs]at hty'
   refine(pScan_ok (w.heap.size+2) (w.heap.size+1) s ev ks nd sch W hC fun X hX=>by rw[hi.tn];exact hty' X hX).mono fun e' W' hp=>⟨ks,rfl,fun i k hk=>?_,hp⟩
   rw[flQ_next hj,hK.flg i k hk]
   simp[namQ,e]
  |none=>
   rw[hs]at hty'
   exact pScan_no (w.heap.size+2) (w.heap.size+1) s ev ks nd W hC pl ex hG fun X hX=>by rw[hi.tn];exact hty' X hX
 ·rw[show chkF n.op=103 by rw[e];rfl,show nodeQ tys (scs.take j) (flQ ns j) n=(freeQ (scs.take j) (flQ ns j) n.l).bind fun s=>filtQ s n by unfold nodeQ;rw[if_neg (show ¬ n.op=0 by omega)];rw[if_pos e]]
  by_cases ht:canTake ks n.l
  ·obtain⟨i,hik,hl,hn⟩:=ht.get
   obtain⟨m1,m2⟩:=set1_ok hj hK (by omega) (by omega) hik hl
   rw[hl,free_yes hK hjs hik hn]
   exact(pFilter_any (w.heap.size+2) (w.heap.size+1) _ ev ks nd n i W hC (hi.l.trans hl) hik hn pl ex hG hQ).mono fun _ _ hp=>NodeA.of m1 m2 hp
  rw[free_no hK hjs ht]
  exact pFilter_take (w.heap.size+2) (w.heap.size+1) _ ev ks nd W hC pl ex hG (by rw[hi.l];exact ht)
 ·rw[show chkF n.op=104 by rw[e];rfl,show nodeQ tys (scs.take j) (flQ ns j) n=(freeQ (scs.take j) (flQ ns j) n.l).bind fun s=>projQ s n by unfold nodeQ;rw[if_neg (show ¬ n.op=0 by omega)];rw[if_neg (show ¬ n.op=1 by omega)];rw[if_pos e]]
  by_cases ht:canTake ks n.l
  ·obtain⟨i,hik,hl,hn⟩:=ht.get
   obtain⟨m1,m2⟩:=set1_ok hj hK (by omega) (by omega) hik hl
   rw[hl,free_yes hK hjs hik hn]
   exact(pProject_any (w.heap.size+2) (w.heap.size+1) _ ev ks nd n i W hC (hi.l.trans hl) hik hn pl ex hG hQ).mono fun _ _ hp=>NodeA.of m1 m2 hp
  rw[free_no hK hjs ht]
  exact pProject_take (w.heap.size+2) (w.heap.size+1) _ ev ks nd W hC pl ex hG (by rw[hi.l];exact ht)
 ·rw[show chkF n.op=105 by rw[e];rfl,show nodeQ tys (scs.take j) (flQ ns j) n=(freeQ (scs.take j) (flQ ns j) n.l).bind fun a=>(freeQ (scs.take j) (flQ ns j) n.r).bind fun b=>if n.l=n.r then none else joinQ a b n by unfold nodeQ;rw[if_neg (show ¬ n.op=0 by omega)];rw[if_neg (show ¬ n.op=1 by omega)];rw[if_neg (show ¬ n.op=2 by omega)];rw[if_pos e]]
  by_cases ht:canTwo ks n.l n.r
  ·obtain⟨i,r,hik,hrk,hl,hr,hne,hn,hm⟩:=ht.get
   obtain⟨m1,m2⟩:=set2_ok hj hK (by omega) hik hrk hl hr
   rw[hl,free_yes hK hjs hik hn,hr,free_yes hK hjs hrk hm,Option.bind_some,Option.bind_some,if_neg (by omega)]
   exact(pJoin_any (w.heap.size+2) (w.heap.size+1) _ ev ks nd n i r W hC (hi.l.trans hl) (hi.r.trans hr) hik hrk hne hn hm (hlen i hik) (hlen r hrk) pl ex hG hQ).mono fun _ _ hp=>NodeA.of m1 m2 hp
  rw[two_no hK hjs ht (fun a b=>if n.l=n.r then none else joinQ a b n) fun e=>by intros;exact if_pos e]
  exact pJoin_take (w.heap.size+2) (w.heap.size+1) _ ev ks nd W hC pl ex hG (by rw[hi.l,hi.r];exact ht)
 ·rw[show chkF n.op=106 by rw[e];rfl,show nodeQ tys (scs.take j) (flQ ns j) n=(freeQ (scs.take j) (flQ ns j) n.l).bind fun s=>grpQ s n by unfold nodeQ;rw[if_neg (show ¬ n.op=0 by omega)];rw[if_neg (show ¬ n.op=1 by omega)];rw[if_neg (show ¬ n.op=2 by omega)];rw[if_neg (show ¬ n.op=3 by omega)];rw[if_pos e]]
  by_cases ht:canTake ks n.l
  ·obtain⟨i,hik,hl,hn⟩:=ht.get
   obtain⟨m1,m2⟩:=set1_ok hj hK (by omega) (by omega) hik hl
   rw[hl,free_yes hK hjs hik hn]
   exact(pGroup_any (w.heap.size+2) (w.heap.size+1) _ ev ks nd n i W hC (hi.l.trans hl) hik hn pl ex hG hQ).mono fun _ _ hp=>NodeA.of m1 m2 hp
  rw[free_no hK hjs ht]
  exact pGroup_take (w.heap.size+2) (w.heap.size+1) _ ev ks nd W hC pl ex hG (by rw[hi.l];exact ht)
 ·rw[show chkF n.op=107 by rw[e];rfl,show nodeQ tys (scs.take j) (flQ ns j) n=(freeQ (scs.take j) (flQ ns j) n.l).bind fun s=>srtQ s n by unfold nodeQ;rw[if_neg (show ¬ n.op=0 by omega)];rw[if_neg (show ¬ n.op=1 by omega)];rw[if_neg (show ¬ n.op=2 by omega)];rw[if_neg (show ¬ n.op=3 by omega)];rw[if_neg (show ¬ n.op=4 by omega)];rw[if_pos e]]
  by_cases ht:canTake ks n.l
  ·obtain⟨i,hik,hl,hn⟩:=ht.get
   obtain⟨m1,m2⟩:=set1_ok hj hK (by omega) (by omega) hik hl
   rw[hl,free_yes hK hjs hik hn]
   exact(pSort_any (w.heap.size+2) (w.heap.size+1) _ ev ks nd n i W hC (hi.l.trans hl) hik hn pl ex hG hQ).mono fun _ _ hp=>NodeA.of m1 m2 hp
  rw[free_no hK hjs ht]
  exact pSort_take (w.heap.size+2) (w.heap.size+1) _ ev ks nd W hC pl ex hG (by rw[hi.l];exact ht)
 ·rw[show chkF n.op=108 by rw[e];rfl,show nodeQ tys (scs.take j) (flQ ns j) n=(freeQ (scs.take j) (flQ ns j) n.l).bind fun s=>limQ s n by unfold nodeQ;rw[if_neg (show ¬ n.op=0 by omega)];rw[if_neg (show ¬ n.op=1 by omega)];rw[if_neg (show ¬ n.op=2 by omega)];rw[if_neg (show ¬ n.op=3 by omega)];rw[if_neg (show ¬ n.op=4 by omega)];rw[if_neg (show ¬ n.op=5 by omega)];rw[if_pos e]]
  by_cases ht:canTake ks n.l
  ·obtain⟨i,hik,hl,hn⟩:=ht.get
   obtain⟨m1,m2⟩:=set1_ok hj hK (by omega) (by omega) hik hl
   rw[hl,free_yes hK hjs hik hn]
   exact(pLimit_any (w.heap.size+2) (w.heap.size+1) _ ev ks nd n i W hC (hi.l.trans hl) hik hn pl ex hG hQ).mono fun _ _ hp=>NodeA.of m1 m2 hp
  rw[free_no hK hjs ht]
  exact pLimit_take (w.heap.size+2) (w.heap.size+1) _ ev ks nd W hC pl ex hG (by rw[hi.l];exact ht)
 rw[show chkF n.op=109 by rw[e];rfl,show nodeQ tys (scs.take j) (flQ ns j) n=(freeQ (scs.take j) (flQ ns j) n.l).bind fun a=>(freeQ (scs.take j) (flQ ns j) n.r).bind fun b=>if n.l=n.r then none else unQ a b n by unfold nodeQ;rw[if_neg (show ¬ n.op=0 by omega)];rw[if_neg (show ¬ n.op=1 by omega)];rw[if_neg (show ¬ n.op=2 by omega)];rw[if_neg (show ¬ n.op=3 by omega)];rw[if_neg (show ¬ n.op=4 by omega)];rw[if_neg (show ¬ n.op=5 by omega)];rw[if_neg (show ¬ n.op=6 by omega)];rw[if_pos e]]
 by_cases ht:canTwo ks n.l n.r
 ·obtain⟨i,r,hik,hrk,hl,hr,hne,hn,hm⟩:=ht.get
  obtain⟨m1,m2⟩:=set2_ok hj hK (by omega) hik hrk hl hr
  rw[hl,free_yes hK hjs hik hn,hr,free_yes hK hjs hrk hm,Option.bind_some,Option.bind_some,if_neg (by omega)]
  exact(pUnion_any (w.heap.size+2) (w.heap.size+1) _ ev ks nd n i r W hC (hi.l.trans hl) (hi.r.trans hr) hik hrk hne hn hm (hlen i hik) (hlen r hrk) pl ex hG hQ).mono fun _ _ hp=>NodeA.of m1 m2 hp
 rw[two_no hK hjs ht (fun a b=>if n.l=n.r then none else unQ a b n) fun e=>by intros;exact if_pos e]
 exact pUnion_take (w.heap.size+2) (w.heap.size+1) _ ev ks nd W hC pl ex hG (by rw[hi.l,hi.r];exact ht)
theorem pNode_no (cb:Nat)(nd:Nd)(w:World)(pl:Addr)(gp:w.cell? ⟨0,0,none⟩=some (.iface 284 (.pointer (some pl))))(hop:¬ (0≤nd.op∧nd.op≤7)) :
  Calls Tryz.prog 59 #[.pointer (some ⟨cb,0,none⟩),nd.val] w fun e w'=>Below w.heap.size w w'∧e=.returned (.tuple #[.slice none 0 0,.iface 284 (.pointer (some pl))]):=by
 have hsf:∀ (f:Nat) (a:Addr) (X:World),(store a (.func (.func f) #[.pointer (some ⟨cb,0,none⟩)] #[])).run Tryz.prog X=stored Tryz.prog X a (.func (.func f) #[.pointer (some ⟨cb,0,none⟩)] #[]) .plain:=fun f a X=>run_store _ _ _ _ _ rfl
 have hbb:Below w.heap.size w (ndBox w nd):=below_alloc (Below.refl _ _) _
 have hq:=ndBox_at w nd
 have hkin:=pKinds_any cb (ndBox w nd)
 have HOP:Hid (¬ (0≤nd.op∧nd.op≤7)):=hop
 clear hop
 go_enter Tryz.func59,Tryz.ntmps59
 go_upto_region 2 with(go_at_call 81;refine hkin.mono ?_;rintro e W2 ⟨rfl,hb2⟩)
 have hb3:Below W2.heap.size W2 (W2.alloc (.cells (chkC cb) 183)):=below_alloc (Below.refl _ _) _
 have hq3:=(hq.below hb2).below hb3
 have hlow:Below w.heap.size w (W2.alloc (.cells (chkC cb) 183)):=below_then (below_then hbb hb2) hb3
 generalize W2.alloc (.cells (chkC cb) 183)=W3 at hq3 hlow ⊢
 have z0:=hq3.1
 have gp3:=cell_below hlow gp
 generalize nd.op=n at z0 HOP
 clear hq3 hq hb3 hb2 hkin hbb hsf gp
 by_cases hn:n<0
 rotate_left 1
 focus
  have h1:(0:Int)≤n:=by omega
  have h2:(8:Int)≤n:=by have:=HOP.out;omega
  clear hn
 all_goals
  go_wp2
  go_region_held3 (fun X=>X.cell? ⟨0,0,none⟩=some (.iface 284 (.pointer (some pl)))) (first|go_keep|(repeat (first|assumption|refine cell_alloc ?_|refine cell_drew ?_))) (fail)
  go_wp2
  exact bodyPost_ret (v:=.tuple #[.slice none 0 0,.iface 284 (.pointer (some pl))]) (by simp[results,Tryz.results59,go_sem]) rfl ⟨drew_below hlow,rfl⟩
def firstOff (n:Nat)(b:Nat→Bool):Option Nat:=(List.range n).find? fun i=>!b i
theorem firstOff_some {n i:Nat}{b:Nat→Bool}(hi:i<n)(hb:b i=false)(hl:∀ k,k<i→b k=true):firstOff n b=some i:=by
 unfold firstOff
 rw[List.find?_range_eq_some]
 exact⟨by simp[hb],List.mem_range.2 hi,fun k hk=>by simp[hl k hk]⟩
theorem firstOff_none {n:Nat}{b:Nat→Bool}(hl:∀ k,k<n→b k=true):firstOff n b=none:=by
 unfold firstOff
 rw[List.find?_eq_none]
 intro k hk
 simp[hl k (List.mem_range.1 hk)]
theorem pIndex_any (g cap n:Nat)(b:Nat→Bool)(w:World)(hn:n≤1000)(hk:∀ i,i<n→∃ s:Sch,w.cell? ⟨g,i*2,none⟩=some (schV s)∧w.cell? ⟨g,i*2+1,none⟩=some (.bool (b i))) :
  Calls Tryz.prog 60 #[.slice (some ⟨g,0,none⟩) n cap,.func (.func 61) #[] #[]] w fun e w'=>Below w.heap.size w w'∧e=.returned (.int .i64 (match firstOff n b with|some i=>(i:Int)|none=>-1)):=by
 have HK:Hid _:=hk
 obtain⟨R,hR⟩:∃ R:Int,R=match firstOff n b with|some i=>(i:Int)|none=>-1:=⟨_,rfl⟩
 rw[←hR]
 have HR:Hid _:=hR
 clear hk hR
 go_enter Tryz.func60,Tryz.ntmps60
 go_wp2
 go_loopw [8] (fun i wr=>∃ k:Nat,k≤n∧i=.int .i64 k∧Below w.heap.size w wr∧∀ x,x<k→b x=true) (fun i _=>n-(intOf i).toNat)
 case atStart=>exact⟨0,Nat.zero_le _,rfl,Below.refl _ _,by omega⟩
 case round=>
  obtain⟨k,hk,rfl,hbw,hdn⟩:=hrel
  have HD:Hid (∀ x,x<k→b x=true):=hdn
  clear hdn
  by_cases hlt:k<n
  ·obtain⟨s,c0,c1⟩:=HK.out k hlt
   have d0:=cell_below hbw c0
   have d1:=cell_below hbw c1
   have HLT:Hid (k<n):=hlt
   rcases hbk:b k with _|_
   ·obtain rfl:R=(k:Int):=by rw[HR.out,firstOff_some HLT.out hbk HD.out]
    rw[hbk]at d1 c1
    clear hbk HR
    go_wp2
    exact bodyPost_ret (v:=.int .i64 (k:Int)) (by simp[results,Tryz.results60,go_sem]) rfl ⟨below_alloc hbw _,rfl⟩
   rw[hbk]at d1 c1
   have HBK:Hid (b k=true):=hbk
   clear hbk
   go_wp2
   go_roundw
   case rel=>exact⟨k+1,HLT.out,by have:=HLT.out;go_num,below_alloc hbw _,fun x hx=>by by_cases e:x=k;(· rw[e];exact HBK.out);exact HD.out x (by omega)⟩
   case measure=>have:=HLT.out;simp[intOf];omega
  obtain rfl:R=-1:=by rw[HR.out,firstOff_none fun x hx=>HD.out x (by omega)]
  go_wp2
  exact bodyPost_ret (v:=.int .i64 (-1)) (by simp[results,Tryz.results60,go_sem]) rfl ⟨hbw,rfl⟩
attribute [local go_sem] Oper.semAt_some
structure PChk (tys:ByteArray→Option (List Int)) (ns:List QN) (scs:List (List Int)):Prop where
 le:scs.length≤ns.length
 ok:∀ (j:Nat) (sch:List Int) (n:QN),scs[j]?=some sch→ns[j]?=some n→nodeQ tys (scs.take j) (flQ ns j) n=some sch
 bad:∀ n,ns[scs.length]?=some n→nodeQ tys scs (flQ ns scs.length) n=none
theorem pchk_ex (tys:ByteArray→Option (List Int))(ns:List QN):∃ scs,PChk tys ns scs:=by
 have h:∀ m,m≤ns.length→∃ scs:List (List Int),scs.length≤m∧(∀ (j:Nat) (sch:List Int) (n:QN),scs[j]?=some sch→ns[j]?=some n→nodeQ tys (scs.take j) (flQ ns j) n=some sch)∧(scs.length<m→∀ n,ns[scs.length]?=some n→nodeQ tys scs (flQ ns scs.length) n=none):=by
  intro m
  induction m with
  |zero=>exact fun _=>⟨[],Nat.le_refl _,fun j sch n h=>by simp at h,fun h=>by simp at h⟩
  |succ m ih=>
   intro hm
   obtain⟨scs,h1,h2,h3⟩:=ih (by omega)
   by_cases hl:scs.length<m
   ·exact⟨scs,by omega,h2,fun _=>h3 hl⟩
   have hlm:scs.length=m:=by omega
   obtain⟨n,hn⟩:∃ n,ns[m]?=some n:=⟨_,List.getElem?_eq_getElem (by omega)⟩
   cases hq:nodeQ tys scs (flQ ns m) n with
   |none=>
    refine⟨scs,by omega,h2,fun _ n' hn'=>?_⟩
    rw[hlm]at hn' ⊢
    rw[hn]at hn'
    cases hn'
    exact hq
   |some sch=>
    refine⟨scs++[sch],by simp;omega,fun j s n' hj hn'=>?_,fun h=>by simp at h;omega⟩
    by_cases hjl:j<scs.length
    ·rw[List.getElem?_append_left hjl]at hj
     rw[List.take_append_of_le_length (by omega)]
     exact h2 j s n' hj hn'
    have:j<(scs++[sch]).length:=(List.getElem?_eq_some_iff.1 hj).1
    have hje:j=m:=by simp at this;omega
    subst hje
    rw[hn]at hn'
    cases hn'
    rw[List.getElem?_append_right (by omega),hlm,Nat.sub_self]at hj
    cases hj
    rw[←hlm,List.take_left',hlm]
    ·exact hq
    rfl
 obtain⟨scs,h1,h2,h3⟩:=h ns.length (Nat.le_refl _)
 exact⟨scs,h1,h2,fun n hn=>h3 (by have:=(List.getElem?_eq_some_iff.1 hn).1;exact this) n hn⟩
theorem freeQ_lt {scs:List (List Int)}{fl:Nat→Bool}{i:Int}{s:List Int}(h:freeQ scs fl i=some s):0≤i∧i<scs.length∧fl i.toNat=false∧scs[i.toNat]?=some s:=by
 unfold freeQ at h
 by_cases q:0≤i∧i<scs.length∧fl i.toNat=false
 ·rw[if_pos q]at h
  exact⟨q.1,q.2.1,q.2.2,h⟩
 rw[if_neg q]at h
 cases h
theorem nodeQ_names {tys:ByteArray→Option (List Int)}{scs:List (List Int)}{fl:Nat→Bool}{n:QN}{s:List Int}(h:nodeQ tys scs fl n=some s){i:Nat}(hi:namQ n i=true):i<scs.length:=by
 unfold namQ at hi
 by_cases h0:n.op=0
 ·rw[if_pos h0]at hi;cases hi
 rw[if_neg h0]at hi
 unfold nodeQ at h
 rw[if_neg h0]at h
 have two:∀ (f:List Int→List Int→Option (List Int)),((freeQ scs fl n.l).bind fun a=>(freeQ scs fl n.r).bind fun b=>f a b)=some s→n.l<scs.length∧n.r<scs.length:=fun f hf=>by
  obtain⟨a,h1,h2⟩:=Option.bind_eq_some_iff.1 hf
  obtain⟨b,h3,_⟩:=Option.bind_eq_some_iff.1 h2
  exact⟨(freeQ_lt h1).2.1,(freeQ_lt h3).2.1⟩
 have one:∀ (f:List Int→Option (List Int)),((freeQ scs fl n.l).bind f)=some s→n.l<scs.length:=fun f hf=>by
  obtain⟨a,h1,h2⟩:=Option.bind_eq_some_iff.1 hf
  exact(freeQ_lt h1).2.1
 rw[Bool.or_eq_true,Bool.and_eq_true,decide_eq_true_eq,decide_eq_true_eq,decide_eq_true_eq]at hi
 by_cases h3:n.op=3∨n.op=7
 ·have:n.l<scs.length∧n.r<scs.length:=by
   rcases h3 with e|e
   ·rw[if_neg (by omega),if_neg (by omega),if_pos e]at h
    exact two _ h
   ·rw[if_neg (by omega),if_neg (by omega),if_neg (by omega),if_neg (by omega),if_neg (by omega),if_neg (by omega),if_pos e]at h
    exact two _ h
  omega
 have hl:n.l=(i:Int):=hi.resolve_right fun q=>h3 q.1
 have:n.l<scs.length:=by
  by_cases e1:n.op=1
  ·rw[if_pos e1]at h;exact one _ h
  rw[if_neg e1]at h
  by_cases e2:n.op=2
  ·rw[if_pos e2]at h;exact one _ h
  rw[if_neg e2,if_neg (by omega)]at h
  by_cases e4:n.op=4
  ·rw[if_pos e4]at h;exact one _ h
  rw[if_neg e4]at h
  by_cases e5:n.op=5
  ·rw[if_pos e5]at h;exact one _ h
  rw[if_neg e5]at h
  by_cases e6:n.op=6
  ·rw[if_pos e6]at h;exact one _ h
  rw[if_neg e6,if_neg (by omega)]at h
  cases h
 omega
theorem PChk.unnamed {tys:ByteArray→Option (List Int)}{ns:List QN}{scs:List (List Int)}(h:PChk tys ns scs){j:Nat}(hj:j<scs.length):flQ ns (j+1) j=false:=by
 refine Bool.eq_false_iff.2 fun ha=>?_
 unfold flQ at ha
 obtain⟨n,hn,hna⟩:=List.any_eq_true.1 ha
 obtain⟨k,hk⟩:=List.mem_iff_getElem?.1 hn
 rw[List.getElem?_take]at hk
 by_cases hkj:k<j+1
 ·rw[if_pos hkj]at hk
  have hq:=h.ok k scs[k] n (List.getElem?_eq_getElem (by omega)) hk
  have:=nodeQ_names hq hna
  rw[List.length_take]at this
  omega
 rw[if_neg hkj]at hk;cases hk
def badAt (ns:List QN)(scs:List (List Int)):Option Nat:=if scs.length<ns.length then some scs.length else firstOff (ns.length-1) (flQ ns ns.length)
def PlErr (w:World)(pl ex:Addr)(node:Int)(v:Value):Prop:=∃ b u,v=.iface 133 (.pointer (some ⟨b,0,none⟩))∧w.heap[b]?=some (.cells #[.int .i64 node,u] 135 (0,0))∧PErr w pl ex u
theorem PErr.iface {w:World}{pl ex:Addr}{v:Value}(h:PErr w pl ex v):∃ ty x,v=.iface ty x:=by
 obtain⟨b,r,h1,h2,h3⟩:=h
 exact h3.iface
theorem pNode_any {tys:ByteArray→Option (List Int)}{scs:List (List Int)}{ns:List QN}{j:Nat}{n:QN}(hj:ns[j]?=some n)(hjs:j≤scs.length)(hw:∀ s∈scs,s.length≤12){nd:Nd}{w:World}(hi:NdQ w nd n)(s:Nat)(pl ex:Addr)(gp:w.cell? ⟨0,0,none⟩=some (.iface 284 (.pointer (some pl))))(ge:w.cell? ⟨7,0,none⟩=some (.iface 284 (.pointer (some ex))))(hty:TysAt w s tys)
  (W:World) (ev:Value) (ks:List Kn) (hb:Below w.heap.size w W) (hev:∀ g,ev.ownBlock=some g→w.heap.size≤g∧g<W.heap.size) (hC:ChkS (w.heap.size+2) (w.heap.size+1) (.func (.func 21) #[.pointer (some ⟨s,0,none⟩)] #[]) ev ks W) (hK:KsOk scs (flQ ns j) j ks) :
  Calls Tryz.prog 59 #[.pointer (some ⟨w.heap.size+1,0,none⟩),nd.val] W fun e W'=>∃ X,Below W.heap.size W X∧∃ v,e=.returned v∧NodeA (w.heap.size+2) (w.heap.size+1) (.func (.func 21) #[.pointer (some ⟨s,0,none⟩)] #[]) ev ks (flQ ns (j+1)) (nodeQ tys (scs.take j) (flQ ns j) n) pl ex X (.returned v) W':=by
 by_cases hop:0≤nd.op∧nd.op≤7
 ·refine pNode_ok (w.heap.size+1) nd W (fun X v w'=>NodeA (w.heap.size+2) (w.heap.size+1) (.func (.func 21) #[.pointer (some ⟨s,0,none⟩)] #[]) ev ks (flQ ns (j+1)) (nodeQ tys (scs.take j) (flQ ns j) n) pl ex X (.returned v) w') hop.1 hop.2 fun X hX=>?_
  have h0:=hop.1
  have h7:=hop.2
  rw[hi.op]at h0 h7
  refine(node_any hj hjs hw hi s pl ex gp ge hty h0 h7 X ev ks (below_then hb hX) (fun g e=>(hev g e).1) (hC.below hX) hK).mono fun e W' hp=>?_
  have fin:∀ a b:Value,e=.returned (.tuple #[a,b])→X.grownBy W' ev.ownBlock→∃ a b,e=.returned (.tuple #[a,b])∧NodeA (w.heap.size+2) (w.heap.size+1) (.func (.func 21) #[.pointer (some ⟨s,0,none⟩)] #[]) ev ks (flQ ns (j+1)) (nodeQ tys (scs.take j) (flQ ns j) n) pl ex X (.returned (.tuple #[a,b])) W'∧X.heap.size≤W'.heap.size∧∀ k,W.heap.size≤k→k<X.heap.size→W'.heap[k]?=X.heap[k]?:=fun a b he hg=>by
   refine⟨a,b,he,?_,hg.size,fun k q1 q2=>hg.block k q2 fun e=>?_⟩
   ·rw[←he];exact hp
   have:=(hev k e.symm).2;omega
  cases hq:nodeQ tys (scs.take j) (flQ ns j) n with
  |none=>
   rw[hq]at hp
   obtain⟨v,he,hpe,hg⟩:=hp
   have:=fin _ _ he hg
   rw[hq]at this
   exact this
  |some sch=>
   rw[hq]at hp
   obtain⟨ks',hm,hf,a,c,he,hc,hg,hii,ho⟩:=hp
   have:=fin _ _ he hg
   rw[hq]at this
   exact this
 refine(pNode_no (w.heap.size+1) nd W pl (cell_below hb gp) hop).mono fun e W' ⟨hb',he⟩=>⟨W',hb',_,he,?_⟩
 have hq:nodeQ tys (scs.take j) (flQ ns j) n=none:=by
  rw[hi.op]at hop
  unfold nodeQ
  rw[if_neg (by omega),if_neg (by omega),if_neg (by omega),if_neg (by omega),if_neg (by omega),if_neg (by omega),if_neg (by omega),if_neg (by omega)]
 rw[hq]
 exact NodeF.pl (grown_refl _ _)
theorem fresh_more {ks ks':List Kn}{a:Option Addr}{c B:Nat}{sch:List Int}{b:Bool}(h:∀ k∈ks,∀ g o,k.1.1=some ⟨g,o,none⟩→B≤g)(hm:ks'.map (·.1)=ks.map (·.1))(ha:∀ g o,a=some ⟨g,o,none⟩→B≤g∨∃ k∈ks',k.1.1=some ⟨g,o,none⟩):∀ k∈ks'++[((a,c,sch),b)],∀ g o,k.1.1=some ⟨g,o,none⟩→B≤g:=by
 have h':∀ k∈ks',∀ g o,k.1.1=some ⟨g,o,none⟩→B≤g:=fun k hk g o e=>by
  have:k.1∈ks.map (·.1):=by rw[←hm];exact List.mem_map_of_mem hk
  obtain⟨k2,hk2,e2⟩:=List.mem_map.1 this
  exact h k2 hk2 g o (by rw[e2];exact e)
 intro k hk g o e
 rcases List.mem_append.1 hk with hk|hk
 ·exact h' k hk g o e
 rw[List.mem_singleton]at hk
 subst hk
 rcases ha g o e with q|⟨k2,hk2,e2⟩
 ·exact q
 exact h' k2 hk2 g o e2
def SchP (w:World)(pl ex:Addr)(o:Option Int)(scs:List (List Int))(e:Ending)(w':World):Prop:=Below w.heap.size w w'∧match o with
 |some i=>∃ v,e=.returned (.tuple #[.slice none 0 0,v])∧PlErr w' pl ex i v
 |none=>∃ (ss:List Sch) (sv:Value),e=.returned (.tuple #[sv,.nilIface])∧OwnC w' (w.heap.size+2) 29 sv (ss.map schV)∧ss.map (·.2.2)=scs∧∀ s∈ss,Ints w' s.1 s.2.2∧∀ g o,s.1=some ⟨g,o,none⟩→w.heap.size≤g
theorem schP_err {w X:World}{pl ex:Addr}{scs:List (List Int)}(i:Int)(u:Value)(hb:Below w.heap.size w X)(hp:PErr X pl ex u):SchP w pl ex (some i) scs (.returned (.tuple #[.slice none 0 0,.iface 133 (.pointer (some ⟨X.heap.size,0,none⟩))])) (X.alloc (.cells #[.int .i64 i,u] 135)):=
 ⟨below_alloc hb _,_,rfl,X.heap.size,u,rfl,heap_alloc_new X _,hp.below (below_alloc (Below.refl _ _) _)⟩
theorem schP_drew {w X:World}{pl ex:Addr}{scs:List (List Int)}{i:Int}{e:Ending}(h:SchP w pl ex (some i) scs e X):SchP w pl ex (some i) scs e X.drew:=by
 obtain⟨hb,v,he,b,u,hv,hh,hp⟩:=h
 exact⟨drew_below hb,v,he,b,u,hv,hh,hp.below (drew_below (Below.refl _ _))⟩
theorem pSchemas_size (a:Option Addr)(n nc:Nat)(tf:Value)(scs:List (List Int))(w:World)(pl ex:Addr)(gp:w.cell? ⟨0,0,none⟩=some (.iface 284 (.pointer (some pl))))(hn:¬ (1≤n∧n≤12)) :
  Calls Tryz.prog 34 #[.agg #[.slice a n nc],tf] w (SchP w pl ex (some (-1)) scs):=by
 have HE:Hid (SchP w pl ex (some (-1)) scs (.returned (.tuple #[.slice none 0 0,.iface 133 (.pointer (some ⟨w.heap.size+1,0,none⟩))])) (((w.alloc (.cells #[.slice a n nc] 25)).alloc (.cells #[.int .i64 (-1),.iface 284 (.pointer (some pl))] 135)).drew)):=by
  have:=schP_err (w:=w) (scs:=scs) (X:=w.alloc (.cells #[.slice a n nc] 25)) (-1) _ (below_alloc (Below.refl _ _) _) (PErr.root pl ex)
  rw[World.size_alloc]at this
  exact schP_drew this
 have gp1:=cell_below (below_alloc (Below.refl w.heap.size w) (.cells #[.slice a n nc] 25)) gp
 by_cases h0:n<1
 focus
  have k0:(n:Int)<1:=by omega
 rotate_left 1
 focus
  have k0:(1:Int)≤(n:Int):=by omega
  have k1:(12:Int)<(n:Int):=by omega
 all_goals
  clear hn h0
  go_enter Tryz.func34,Tryz.ntmps34
  go_wp2
  go_region_held3 (fun X=>X.cell? ⟨0,0,none⟩=some (.iface 284 (.pointer (some pl)))) (first|go_keep|(repeat (first|assumption|refine cell_alloc ?_|refine cell_drew ?_))) (fail)
  go_wp2
  exact bodyPost_ret (v:=.tuple #[.slice none 0 0,.iface 133 (.pointer (some ⟨w.heap.size+1,0,none⟩))]) (by simp[results,Tryz.results34,go_sem]) rfl HE.out
theorem pSchemas_in (nb no nc:Nat)(nds:List Nd)(ns:List QN)(s:Nat)(tys:ByteArray→Option (List Int))(scs:List (List Int))(w:World)(hP:PChk tys ns scs)(hln:nds.length=ns.length)
  (hN:∀ j nd,nds[j]?=some nd→NodeAt w nb (no+j*7) nd) (hi:∀ (j:Nat) nd n,nds[j]?=some nd→ns[j]?=some n→NdQ w nd n) (hw:∀ s∈scs,s.length≤12) (pl ex:Addr) (gp:w.cell? ⟨0,0,none⟩=some (.iface 284 (.pointer (some pl)))) (ge:w.cell? ⟨7,0,none⟩=some (.iface 284 (.pointer (some ex)))) (hty:TysAt w s tys) (h1:1≤nds.length) (h12:nds.length≤12) :
  Calls Tryz.prog 34 #[.agg #[.slice (some ⟨nb,no,none⟩) nds.length nc],.func (.func 21) #[.pointer (some ⟨s,0,none⟩)] #[]] w (SchP w pl ex ((badAt ns scs).map fun i=>(i:Int)) scs):=by
 have HH:Hid ((∀ j nd,nds[j]?=some nd→NodeAt w nb (no+j*7) nd)∧PChk tys ns scs∧nds.length=ns.length∧(∀ (j:Nat) nd n,nds[j]?=some nd→ns[j]?=some n→NdQ w nd n)∧(∀ s∈scs,s.length≤12)∧TysAt w s tys):=⟨hN,hP,hln,hi,hw,hty⟩
 obtain⟨R,hR⟩:∃ R:Option Int,((badAt ns scs).map fun i=>(i:Int))=R:=⟨_,rfl⟩
 rw[hR]
 have HR:Hid _:=hR
 obtain⟨tfx,htf⟩:∃ tfx:Array Value,tfx=#[.pointer (some ⟨s,0,none⟩)]:=⟨_,rfl⟩
 rw[←htf]
 have HTF:Hid (tfx=#[.pointer (some ⟨s,0,none⟩)]):=htf
 have HGP:Hid (w.cell? ⟨0,0,none⟩=some (.iface 284 (.pointer (some pl)))∧w.cell? ⟨7,0,none⟩=some (.iface 284 (.pointer (some ex)))):=⟨gp,ge⟩
 clear hR htf hP hln hi hw hty hN ge gp
 have hnn:=run_neq_nil_nil (P:=Tryz.prog)
 have hsf:∀ (a:Addr) (X:World),(store a (.func (.func 21) tfx #[])).run Tryz.prog X=stored Tryz.prog X a (.func (.func 21) tfx #[]) .plain:=fun a X=>run_store _ _ _ _ _ rfl
 go_enter Tryz.func34,Tryz.ntmps34
 go_upto_region 5 with fail
 have hS0:SchS w (.func (.func 21) tfx #[]) (.slice (some ⟨nb,no,none⟩) nds.length nc) scs (flQ ns) 0 (.slice none 0 0) (.slice none 0 0) [] ((w.alloc (.cells #[(.slice (some ⟨nb,no,none⟩) nds.length nc)] 25)).alloc (.cells #[(.func (.func 21) tfx #[]),.slice none 0 0] 139)):=by
  refine⟨⟨?_,⟨rfl,.inl ⟨rfl,rfl⟩⟩,fun k hk=>(by cases hk),fun k hk=>(by cases hk),by omega⟩,⟨rfl,fun i k hk=>(by simp at hk),fun i k hk=>(by simp at hk)⟩,OwnC.nil _ _ _,fun g e=>(by simp[Value.ownBlock]at e),fun k hk=>(by cases hk),?_,below_alloc (below_alloc (Below.refl _ _) _) _⟩
  ·have:=heap_alloc_new (w.alloc (.cells #[(.slice (some ⟨nb,no,none⟩) nds.length nc)] 25)) (.cells #[(.func (.func 21) tfx #[]),.slice none 0 0] 139)
   rw[World.size_alloc]at this
   exact this
  exact(Below.heap_alloc _ _ _ (by simp)).trans (heap_alloc_new w _)
 have HS0:Hid _:=hS0
 generalize (w.alloc (.cells #[(.slice (some ⟨nb,no,none⟩) nds.length nc)] 25)).alloc (.cells #[(.func (.func 21) tfx #[]),.slice none 0 0] 139)=W0 at HS0 ⊢
 have pl0:W0.cell? ⟨w.heap.size,0,none⟩=some (.slice (some ⟨nb,no,none⟩) nds.length nc):=by simp[World.cell?,HS0.out.plan]
 clear hS0
 go_wp2
 go_loopw [7,34] (fun sv i wr=>∃ (j:Nat) (ev:Value) (ks:List Kn),(j≤nds.length∧j≤scs.length)∧i=.int .i64 (j:Int)∧SchS w (.func (.func 21) tfx #[]) (.slice (some ⟨nb,no,none⟩) nds.length nc) scs (flQ ns) j ev sv ks wr∧∀ k∈ks,∀ g o,k.1.1=some ⟨g,o,none⟩→w.heap.size≤g) (fun _ i _=>nds.length-(intOf i).toNat)
 case atStart=>exact⟨0,_,_,⟨Nat.zero_le _,Nat.zero_le _⟩,rfl,HS0.out,fun k hk=>(by cases hk)⟩
 case round=>
  obtain⟨j,ev,ks,⟨hj,hjs⟩,rfl,hS,hfr⟩:=hrel
  have HFR:Hid (∀ k∈ks,∀ g o,k.1.1=some ⟨g,o,none⟩→w.heap.size≤g):=hfr
  clear hfr
  have HS:Hid _:=hS
  have hkl:=hS.kso.len
  obtain⟨ea,ec,hev⟩:=row_slice hS.chk.own
  obtain⟨sa,sc,hsv⟩:=row_slice hS.own
  rw[List.length_map]at hsv
  rw[hkl]at hev hsv
  by_cases hlt:j<nds.length
  ·obtain⟨nd,hnd⟩:∃ nd,nds[j]?=some nd:=⟨_,List.getElem?_eq_getElem hlt⟩
   obtain⟨n,hnn'⟩:∃ n,ns[j]?=some n:=⟨_,List.getElem?_eq_getElem (by rw[←HH.out.2.2.1];exact hlt)⟩
   obtain⟨y0,y1,y2,y3,y4,y5,y6⟩:=(HH.out.1 j nd hnd).below hS.low
   have hbx:Below wr.heap.size wr (ndBox wr nd):=below_alloc (Below.refl _ _) _
   have hevl:∀ g,ev.ownBlock=some g→w.heap.size+2≤g∧g<wr.heap.size:=fun g e=>owns_block hS.chk.own e
   have hpn:=pNode_any hnn' hjs HH.out.2.2.2.2.1 (HH.out.2.2.2.1 j nd n hnd hnn') s pl ex HGP.out.1 HGP.out.2 HH.out.2.2.2.2.2 (ndBox wr nd) ev ks (below_then hS.low hbx) (fun g e=>by have:=hevl g e;have:=hbx.size;omega) (by have:=hS.chk.below hbx;rw[HTF.out]at this;exact this) hS.kso
   by_cases hjl:j<scs.length
   rotate_left
   ·have hje:j=scs.length:=by omega
    have hbad:=HH.out.2.1.bad n (by rw[←hje];exact hnn')
    rw[←hje]at hbad
    rw[hje,List.take_length,←hje,hbad]at hpn
    have hRj:R=some (j:Int):=by rw[←HR.out];unfold badAt;rw[if_pos (by rw[←HH.out.2.2.1,←hje];exact hlt),←hje];rfl
    subst hRj
    have HBX:Hid (Below w.heap.size w (ndBox wr nd)∧∀ g,ev.ownBlock=some g→w.heap.size≤g):=⟨below_then hS.low hbx,fun g e=>by have:=hevl g e;omega⟩
    subst hev hsv
    clear hS hnd hnn' hbx hevl hbad hjs hje hjl
    go_wp2_with (go_at_call 59;refine hpn.mono ?_;rintro e' W1 ⟨X,hX,v,rfl,u,hv,hpe,hg⟩;injection hv with hv;subst hv;obtain⟨ty,x,hu⟩:=hpe.iface;subst hu)
    exact bodyPost_ret (v:=.tuple #[.slice none 0 0,.iface 133 (.pointer (some ⟨W1.heap.size,0,none⟩))]) (by simp[results,Tryz.results34,go_sem]) rfl (schP_err (j:Int) _ (below_grown (below_then HBX.out.1 hX) hg HBX.out.2) hpe)
   obtain⟨sch,hsch⟩:∃ sch,scs[j]?=some sch:=⟨_,List.getElem?_eq_getElem hjl⟩
   rw[HH.out.2.1.ok j sch n hsch hnn']at hpn
   rw[←HTF.out]at hpn
   have HSC:Hid (scs[j]?=some sch∧j<nds.length∧Below wr.heap.size wr (ndBox wr nd)):=⟨hsch,hlt,hbx⟩
   have HUN:Hid (flQ ns (j+1) j=false∧j<scs.length∧w.heap.size≤(ndBox wr nd).heap.size):=⟨HH.out.2.1.unnamed hjl,hjl,(below_then hS.low hbx).size⟩
   subst hev hsv
   obtain⟨i0,hi0,hz0,hz1,hz2⟩:=info_parts info_known
   clear hS hnd hnn' hbx hevl hsch hjl hjs
   go_wp2_with (first|(go_at_call 59;refine hpn.mono ?_;rintro e' W1 ⟨X,hX,v,rfl,ks',hm,hf,a,c,hv,hc,hg,hi,ho⟩;injection hv with hv;subst hv;have HN1:Hid (SchN w (.func (.func 21) tfx #[]) (.slice (some ⟨nb,no,none⟩) nds.length nc) scs (flQ ns) j _ _ ks' a c sch W1):=HS.out.node (below_then HSC.out.2.2 hX) hm hf HSC.out.1 hc hg hi ho;obtain⟨_,c1⟩:=HN1.out.chk.cells;have HFN:Hid (∀ k∈ks'++[((a,c,sch),false)],∀ g o,k.1.1=some ⟨g,o,none⟩→w.heap.size≤g):=fresh_more HFR.out hm (fun g o e=>(ho g o e).2.2.2.imp (fun h=>Nat.le_trans HUN.out.2.2 (Nat.le_trans hX.size h)) id);clear hc hg hi ho hm hf)|(at_builtin;refine wpList_append_own_at _ (by rfl) _ _ 137 (by rfl) (w.heap.size+2) 142 i0 _ 2 32 (by kernel_rfl) hi0 hz0 hz1 hz2 (by rfl) (by decide) _ _ _ (by rfl) (owns_alloc HN1.out.chk.own _) ⟨W1.heap.size,0,none⟩ 1 1 [schV (a,c,sch),.bool false] (by rfl) (by rfl) (by exact news_two W1 _ _ _) (by intro u hu;simp at hu;rcases hu with rfl|rfl<;>rfl) (by have:=HN1.out.len;have:=HSC.out;unfold maxLen;omega) (by have:=HN1.out.len;have:=HSC.out;omega) (by simp;have:=lt_of_heap HN1.out.chk.ck;omega) ?_;intro ev' w4 q1 q2 _ q3;go_must (obtain⟨m1,m2,m3⟩:=HN1.out.mid (ev':=ev') _ q2);go_must (obtain⟨g4,cap4,hv4⟩:=ownsRow_succ q1);obtain⟨n5,hn5⟩:∃ n5,n5=ks'.length+1:=⟨_,rfl⟩;rw[←hn5]at hv4;clear hn5;subst hv4;have c44:w4.cell? ⟨w.heap.size+1,1,none⟩=some _:=(by simp[World.cell?,m1];rfl);have f44:w4.frozen? ⟨w.heap.size+1,1,none⟩=false:=(by simp[World.frozen?,m1]);have hsz4:(w4.setCell ⟨w.heap.size+1,1,none⟩ (.slice (some ⟨g4,0,none⟩) n5 cap4)).heap.size=w4.heap.size:=(by simp[World.setCell]);have hnw:=news_one (w4.setCell ⟨w.heap.size+1,1,none⟩ (.slice (some ⟨g4,0,none⟩) n5 cap4)) (schV (a,c,sch)) 29;rw[hsz4]at hnw)|(at_builtin;go_must (refine wpList_append_D (by rfl) _ _ 56 29 _ 24 info_ints (by rfl) (by decide) (by kernel_rfl) (by rfl) (w.heap.size+2) _ _ (by rfl) (OwnC.alloc m2 _) ⟨w4.heap.size,0,none⟩ 1 [schV (a,c,sch)] (by rfl) (by exact hnw) (by intro u hu;simp at hu;subst hu;rfl) (by have:=HN1.out.len;have:=HSC.out;simp only[List.length_cons,List.length_nil,List.length_map];omega) (by rw[World.size_alloc,hsz4];omega) ?_);intro sv' w6 r1 r2 r3;go_must (have hS6:=HN1.out.done HUN.out.1 _ _ q1 q2 q3 r1 r2 r3)))
   go_roundw
   case rel=>exact⟨j+1,_,_,⟨HSC.out.2.1,HUN.out.2.1⟩,rfl,hS6,HFN.out⟩
   case measure=>have:=HSC.out.2.1;simp[intOf];omega
  have hjn:j=nds.length:=by omega
  obtain⟨g,cap,hev2,hgc,hgl,_⟩:=hS.chk.at (i:=0) (by omega)
  rw[hkl]at hev2
  have hnl:nds.length=ns.length:=HH.out.2.2.1
  have hsl:scs.length=ns.length:=by have:=HH.out.2.1.le;omega
  have hkx:∀ i,i<nds.length-1→∃ s:Sch,wr.cell? ⟨g,i*2,none⟩=some (schV s)∧wr.cell? ⟨g,i*2+1,none⟩=some (.bool (flQ ns ns.length i)):=fun i hi=>by
   obtain⟨g',cap',hev3,_,_,e1,e2,_⟩:=hS.chk.at (i:=i) (by omega)
   rw[hev2]at hev3
   simp only[Value.slice.injEq,Option.some.injEq,Addr.mk.injEq,and_true]at hev3
   have hf:=hS.kso.flg i ks[i] (List.getElem?_eq_getElem (by omega))
   rw[hf,hjn,hnl]at e2
   rw[hev3.1]
   exact⟨_,e1,e2⟩
  obtain⟨m,hm⟩:∃ m,nds.length=m+1:=⟨nds.length-1,by omega⟩
  have hpi:=pIndex_any g cap m (flQ ns ns.length) wr (by omega) (fun i hi=>hkx i (by omega))
  have HRE:Hid (R=(firstOff m (flQ ns ns.length)).map fun i=>(i:Int)):=by
   show _=_
   rw[←HR.out]
   unfold badAt
   rw[if_neg (by omega),←hnl,hm]
   rfl
  have hcap:m≤cap:=by
   rcases hS.chk.own with⟨_,⟨h0,_⟩|⟨g',cap',_,h0,_,_,h4,_⟩⟩
   ·rw[h0]at hev2;cases hev2
   rw[h0]at hev2
   simp only[Value.slice.injEq,Option.some.injEq,Addr.mk.injEq,and_true]at hev2
   omega
  obtain⟨_,c1⟩:=hS.chk.cells
  rw[hev2]at c1
  have HE:Hid (ks.map (·.1.2.2)=scs):=by
   show _=_
   refine List.ext_getElem? fun i=>?_
   rw[List.getElem?_map]
   cases hki:ks[i]? with
   |some k=>rw[hS.kso.sch i k hki];rfl
   |none=>
    have:ks.length≤i:=List.getElem?_eq_none_iff.1 hki
    exact(List.getElem?_eq_none_iff.2 (by omega)).symm
  have hsub:(nds.length:Int)-1=(m:Int):=by omega
  have k1:(0:Int)≤(m:Int):=by omega
  have k2:(m:Int)≤(cap:Int):=by omega
  have hm11:m≤11:=by omega
  subst hsv
  rw[hjn]at c1 ⊢
  have gpw:=cell_below hS.low HGP.out.1
  clear hkx hev2 hev hS hgc hgl hcap hm hnl hsl
  rcases hfo:firstOff m (flQ ns ns.length)with _|i
  rotate_left
  ·rw[hfo]at hpi HRE
   obtain rfl:R=some (i:Int):=HRE.out
   have ki:(0:Int)≤(i:Int):=by omega
   clear hfo HRE HR
   go_wp2_with (go_at_call 60;refine hpi.mono ?_;rintro e' W2 ⟨hb2,rfl⟩;have gp2:=cell_below hb2 gpw)
   have HEN:Hid (SchP w pl ex (some (i:Int)) scs (.returned (.tuple #[.slice none 0 0,.iface 133 (.pointer (some ⟨W2.heap.size,0,none⟩))])) (W2.alloc (.cells #[.int .i64 (i:Int),.iface 284 (.pointer (some pl))] 135)).drew):=schP_drew (schP_err (i:Int) _ (below_then HS.out.low hb2) (PErr.root pl ex))
   go_region_held3 (fun X=>X.cell? ⟨0,0,none⟩=some (.iface 284 (.pointer (some pl)))) (first|go_keep|(repeat (first|assumption|refine cell_alloc ?_|refine cell_drew ?_))) (fail)
   go_wp2
   exact bodyPost_ret (v:=.tuple #[.slice none 0 0,.iface 133 (.pointer (some ⟨W2.heap.size,0,none⟩))]) (by simp[results,Tryz.results34,go_sem]) rfl HEN.out
  rw[hfo]at hpi HRE
  obtain rfl:R=none:=HRE.out
  clear hfo HRE HR
  go_wp2_with (go_at_call 60;refine hpi.mono ?_;rintro e' W2 ⟨hb2,rfl⟩)
  have hb3:=HS.out.below hb2
  rw[hjn]at hb3
  refine bodyPost_ret (v:=.tuple #[.slice sa nds.length sc,.nilIface]) (by simp[results,Tryz.results34,go_sem]) rfl ⟨hb3.low,ks.map (·.1),_,rfl,?_,?_,fun s hs=>?_⟩
  ·rw[List.map_map];exact hb3.own
  ·rw[List.map_map];exact HE.out
  obtain⟨k,hk,rfl⟩:=List.mem_map.1 hs
  exact⟨hb3.chk.ints k hk,HFR.out k hk⟩
attribute [local go_sem] Oper.semAt_some
theorem PlErr.errX {w:World}{pl ex:Addr}{node:Int}{v:Value}(h:PlErr w pl ex node v):∃ a r,(a=pl∨a=ex)∧(r=none∨r=some (-1))∧ErrX w v a (some node) r none none none none:=by
 obtain⟨b,u,rfl,hb,a,r,h1,h2,h⟩:=h
 have c0:w.cell? ⟨b,0,none⟩=some (.int .i64 node):=by simp[World.cell?,hb]
 have c1:w.cell? ⟨b,1,none⟩=some u:=by simp[World.cell?,hb]
 obtain⟨⟨k1,q1⟩,⟨k2,q2⟩,⟨k3,q3⟩,⟨k4,q4⟩,⟨k5,q5⟩,⟨k6,q6⟩,⟨k7,q7⟩⟩:=h
 exact⟨a,r,h1,h2,⟨k1+1,.wrap _ _ _ _ _ _ _ isW_plan c1 q1⟩,⟨0,.hit _ _ c0⟩,⟨k3+1,.miss _ _ _ _ _ _ _ isW_plan asgPlanExpr c1 q3⟩,⟨k4+1,.miss _ _ _ _ _ _ _ isW_plan asgPlanGrp c1 q4⟩,⟨k5+1,.miss _ _ _ _ _ _ _ isW_plan asgPlanTab c1 q5⟩,⟨k6+1,.miss _ _ _ _ _ _ _ isW_plan asgPlanGrp c1 q6⟩,⟨k7+1,.miss _ _ _ _ _ _ _ isW_plan asgPlanDisk c1 q7⟩⟩
theorem PlErr.iface {w:World}{pl ex:Addr}{node:Int}{v:Value}(h:PlErr w pl ex node v):∃ ty x,v=.iface ty x:=by
 obtain⟨b,u,rfl,_⟩:=h
 exact⟨_,_,rfl⟩
theorem PlErr.below {w w':World}{pl ex:Addr}{node:Int}{v:Value}(h:PlErr w pl ex node v)(hb:Below w.heap.size w w'):PlErr w' pl ex node v:=by
 obtain⟨b,u,hv,hh,hp⟩:=h
 exact⟨b,u,hv,(hb.block _ (lt_of_heap hh)).trans hh,hp.below hb⟩
theorem faultOf_plan {w:World}{a0 a1 a2 tt q wr pg pl ex ta:Addr}{node:Int}{v:Value}(h:PlErr w pl ex node v)(hN:Names w a0 a1 a2 tt q wr pg pl ex ta):Calls Tryz.prog 22 #[v] w fun e w'=>e=.returned (faultR 8 node (-1) (-1) (-1))∧Below w.heap.size w w':=by
 obtain⟨a,r,ha,hr,hx⟩:=h.errX
 obtain⟨dv,ov,gv,mn,h3,_⟩:=hN.m3
 have hb:∃ c t,w.heap[a.block]?=some (.cells c t (0,0)):=by
  rcases ha with rfl|rfl
  ·exact hN.m2.bp
  exact hN.m2.be
 have hcode:codeAtX a1 a2 tt q wr pg pl ex dv ov gv mn a=8:=by
  have n1:=hN.m2.np
  have n2:=hN.m2.ne
  simp only[List.mem_cons,List.not_mem_nil,or_false,not_or]at n1 n2
  unfold codeAtX
  rcases ha with rfl|rfl
  ·rw[if_neg n1.2.1,if_neg n1.2.2.1,if_neg n1.2.2.2.1,if_neg n1.2.2.2.2.1,if_neg n1.2.2.2.2.2.1,if_neg n1.2.2.2.2.2.2,if_pos rfl]
  rw[if_neg n2.2.1,if_neg n2.2.2.1,if_neg n2.2.2.2.1,if_neg n2.2.2.2.2.1,if_neg n2.2.2.2.2.2.1,if_neg n2.2.2.2.2.2.2]
  by_cases e:a=pl
  ·rw[if_pos e]
  rw[if_neg e,if_pos rfl]
 have:=faultOf_errX v a (some node) r none none none none w hx hb a0 a1 a2 tt q wr pg pl ex dv ov gv mn hN.e hN.m hN.m2 h3
 rw[hcode]at this
 rcases hr with rfl|rfl<;>exact this
def ChkP (w:World)(pl ex:Addr)(o:Option Int)(sch:List Int)(e:Ending)(w':World):Prop:=Below w.heap.size w w'∧match o with
 |some i=>∃ v,e=.returned (.tuple #[.slice none 0 0,v])∧PlErr w' pl ex i v
 |none=>∃ a c,e=.returned (.tuple #[schV (a,c,sch),.nilIface])∧Ints w' a sch∧∀ g o,a=some ⟨g,o,none⟩→w.heap.size≤g
theorem pCheck_no (a:Option Addr)(n nc:Nat)(tfx:Array Value)(scs:List (List Int))(w:World)(pl ex:Addr)(i:Int)
  (hS:Calls Tryz.prog 34 #[.agg #[.slice a n nc],.func (.func 21) tfx #[]] (w.alloc (.cells #[.slice a n nc] 25)) (SchP (w.alloc (.cells #[.slice a n nc] 25)) pl ex (some i) scs)) (sch:List Int) :
  Calls Tryz.prog 20 #[.agg #[.slice a n nc],.func (.func 21) tfx #[]] w (ChkP w pl ex (some i) sch):=by
 have hbb:Below w.heap.size w (w.alloc (.cells #[.slice a n nc] 25)):=below_alloc (Below.refl _ _) _
 have hS':Calls Tryz.prog 34 #[.agg #[.slice a n nc],.func (.func 21) tfx #[]] (w.alloc (.cells #[.slice a n nc] 25)) fun e w'=>∃ ty x,e=.returned (.tuple #[.slice none 0 0,.iface ty x])∧PlErr w' pl ex i (.iface ty x)∧Below w.heap.size w w':=hS.mono fun e w' ⟨hb,v,he,hp⟩=>by
  obtain⟨ty,x,rfl⟩:=hp.iface
  exact⟨ty,x,he,hp,below_then hbb hb⟩
 clear hS hbb
 go_enter Tryz.func20,Tryz.ntmps20
 go_wp2_with (go_at_call 34;refine hS'.mono ?_;rintro e' W1 ⟨ty,x,rfl,hp,hb⟩)
 exact bodyPost_ret (v:=.tuple #[.slice none 0 0,.iface ty x]) (by simp[results,Tryz.results20,go_sem]) rfl ⟨hb,_,rfl,hp⟩
theorem pCheck_yes (a:Option Addr)(n nc:Nat)(tfx:Array Value)(scs:List (List Int))(w:World)(pl ex:Addr)(m:Nat)
  (hS:Calls Tryz.prog 34 #[.agg #[.slice a n nc],.func (.func 21) tfx #[]] (w.alloc (.cells #[.slice a n nc] 25)) (SchP (w.alloc (.cells #[.slice a n nc] 25)) pl ex none scs)) (sch:List Int) (hm:scs.length=m+1) (hm12:m<12) (hsch:scs[m]?=some sch) :
  Calls Tryz.prog 20 #[.agg #[.slice a n nc],.func (.func 21) tfx #[]] w (ChkP w pl ex none sch):=by
 have hbb:Below w.heap.size w (w.alloc (.cells #[.slice a n nc] 25)):=below_alloc (Below.refl _ _) _
 have hS':Calls Tryz.prog 34 #[.agg #[.slice a n nc],.func (.func 21) tfx #[]] (w.alloc (.cells #[.slice a n nc] 25)) fun e w'=>∃ (g cap:Nat) (s:Sch),e=.returned (.tuple #[.slice (some ⟨g,0,none⟩) (m+1) cap,.nilIface])∧s.2.2=sch∧w'.cell? ⟨g,m,none⟩=some (schV s)∧(Ints w' s.1 s.2.2∧∀ g o,s.1=some ⟨g,o,none⟩→w.heap.size≤g)∧Below w.heap.size w w':=hS.mono fun e w' ⟨hb,ss,sv,he,ho,hss,hi⟩=>by
  have hl:ss.length=m+1:=by rw[←hm,←hss,List.length_map]
  rcases ho with⟨h0,⟨h1,h2⟩|⟨g,cap,cur,h1,h2,h3,h4,h5,h6,h7⟩⟩
  ·rw[List.length_map]at h2;omega
  obtain⟨s,hs⟩:∃ s,ss[m]?=some s:=⟨_,List.getElem?_eq_getElem (by omega)⟩
  refine⟨g,cap,s,?_,?_,?_,⟨(hi s (List.mem_of_getElem? hs)).1,fun g o e=>Nat.le_trans hbb.size ((hi s (List.mem_of_getElem? hs)).2 g o e)⟩,below_then hbb hb⟩
  ·rw[he,h1,List.length_map,hl]
  ·rw[←hss,List.getElem?_map,hs]at hsch
   cases hsch
   rfl
  have:(ss.map schV)[m]?=some (schV s):=by rw[List.getElem?_map,hs];rfl
  rw[←h7,List.getElem?_take,if_pos (by rw[List.length_map];omega),Array.getElem?_toList]at this
  simp only[World.cell?,h3]
  simpa using this
 have hsub:IntKind.i64.wrap (((m+1:Nat):Int)-1)=(m:Int):=by rw[IntKind.wrap_i64];omega
 have hnn:=run_neq_nil_nil (P:=Tryz.prog)
 have k1:(0:Int)≤(m:Int):=by omega
 have k2:(m:Int)<((m+1:Nat):Int):=by omega
 obtain⟨l,hl⟩:∃ l,l=m+1:=⟨_,rfl⟩
 rw[←hl]at hS' hsub k2
 have HL:Hid (l=m+1):=hl
 clear hS hbb hm hsch hl
 go_enter Tryz.func20,Tryz.ntmps20
 go_wp2_with (go_at_call 34;refine hS'.mono ?_;rintro e' W1 ⟨g,cap,s,rfl,hs,hc,hi,hb⟩;have HI:Hid (s.2.2=sch∧Ints W1 s.1 s.2.2∧∀ g o,s.1=some ⟨g,o,none⟩→w.heap.size≤g):=⟨hs,hi⟩;clear hs hi)
 refine bodyPost_ret (v:=.tuple #[schV s,.nilIface]) (by simp[results,Tryz.results20,go_sem]) rfl ⟨hb,s.1,s.2.1,?_,?_⟩
 ·rw[←HI.out.1]
 rw[←HI.out.1];exact HI.out.2
def CheckP (w:World)(o:Option Int)(sch:List Int)(e:Ending)(w':World):Prop:=Below w.heap.size w w'∧match o with
 |some i=>e=.returned (.tuple #[.slice none 0 0,faultR 8 i (-1) (-1) (-1)])
 |none=>∃ a c,e=.returned (.tuple #[schV (a,c,sch),faultR 0 (-1) (-1) (-1) (-1)])∧Ints w' a sch∧∀ g o,a=some ⟨g,o,none⟩→w.heap.size≤g
theorem Check_of (st s:Nat)(a:Option Addr)(n nc:Nat)(w:World)(c1:w.cell? ⟨st,1,none⟩=some (.pointer (some ⟨s,0,none⟩)))(o:Option Int)(sch:List Int)(a0 a1 a2 tt q wr pg pl ex ta:Addr)(hN:Names w a0 a1 a2 tt q wr pg pl ex ta)
  (hC:∀ X,Below w.heap.size w X→Calls Tryz.prog 20 #[.agg #[.slice a n nc],.func (.func 21) #[.pointer (some ⟨s,0,none⟩)] #[]] X (ChkP X pl ex o sch)) :
  Calls Tryz.prog 12 #[.pointer (some ⟨st,0,none⟩),.agg #[.slice a n nc]] w (CheckP w o sch):=by
 obtain⟨W0,hW0⟩:∃ W0,W0=(w.alloc (.cells #[.slice a n nc] 25)).alloc zeroFault:=⟨_,rfl⟩
 have hb0:Below w.heap.size w W0:=by rw[hW0];exact below_alloc (below_alloc (Below.refl _ _) _) _
 have d1:=cell_below hb0 c1
 have q0:W0.cell? ⟨w.heap.size,0,none⟩=some (.slice a n nc):=by rw[hW0,World.cell?_alloc_lt _ _ _ (by simp)];simp
 have hk0:W0.heap[w.heap.size+1]?=some (.cells #[.int .i64 0,.int .i64 0,.int .i64 0,.int .i64 0,.int .i64 0] 52 (0,0)):=by
  rw[hW0]
  have:=heap_alloc_new (w.alloc (.cells #[.slice a n nc] 25)) zeroFault
  rwa [World.size_alloc]at this
 have hcall:Calls Tryz.prog 20 #[.agg #[.slice a n nc],.func (.func 21) #[.pointer (some ⟨s,0,none⟩)] #[]] W0.drew fun e w'=>∃ (lv ev:Value) (c nd:Int),e=.returned (.tuple #[lv,ev])∧Below W0.drew.heap.size W0.drew w'∧(∀ X,Below w'.heap.size w' X→Calls Tryz.prog 22 #[ev] X fun e w''=>e=.returned (faultR c nd (-1) (-1) (-1))∧Below X.heap.size X w'')∧∀ X,w'.heap.size≤X.heap.size→(∀ k,k<w'.heap.size→k≠w.heap.size+1→X.heap[k]?=w'.heap[k]?)→Below w.heap.size w X→CheckP w o sch (.returned (.tuple #[lv,faultR c nd (-1) (-1) (-1)])) X:=(hC W0.drew (drew_below hb0)).mono fun e w' ⟨hb,hp⟩=>by
  cases o with
  |some i=>
   obtain⟨v,he,hpe⟩:=hp
   refine⟨_,v,8,i,he,hb,fun X hX=>faultOf_plan (hpe.below hX) (hN.below (below_then (drew_below hb0) (below_then hb hX))),fun X _ _ hw=>⟨hw,rfl⟩⟩
  |none=>
   obtain⟨sa,sc,he,hi,hfr⟩:=hp
   have hz:w.heap.size+1<W0.drew.heap.size:=lt_of_heap hk0
   exact⟨_,_,0,-1,he,hb,fun X hX=>fault_nil X,fun X hs hX hw=>⟨hw,sa,sc,rfl,hi.of_block hs (fun b o e hb'=>hX b hb' (by have:=hfr b o e;omega)),fun g o e=>by have:=hfr g o e;omega⟩⟩
 clear hC c1
 go_enter Tryz.func12,Tryz.ntmps12
 go_upto_region 1 with fail
 rw[←hW0]
 have HB0:Hid (Below w.heap.size w W0∧W0.heap[w.heap.size+1]?=some (.cells #[.int .i64 0,.int .i64 0,.int .i64 0,.int .i64 0,.int .i64 0] 52 (0,0))):=⟨hb0,hk0⟩
 have hz0:w.heap.size+1<W0.heap.size:=lt_of_heap hk0
 clear hW0 hb0 hk0
 refine wp_region_held_drew (S:=fun X=>X.cell? ⟨st,1,none⟩=some (.pointer (some ⟨s,0,none⟩))∧X.cell? ⟨w.heap.size,0,none⟩=some (.slice a n nc)) (by kernel_rfl) ⟨cell_drew d1,cell_drew q0⟩ (fun hH=>?_)
 refine tkj 0 rfl hH ?_
 refine tkj 1 rfl hH ?_
 refine tkj 2 rfl hH ?_
 refine tkj 3 rfl hH ?_
 refine tkj 4 rfl hH ?_
 refine tkj 5 rfl hH ?_
 refine tkn ?_
 refine tkr 6 rfl fun K hK=>?_
 go_simp
 refine hcall.mono ?_
 rintro e X1 ⟨lv,ev,c,nd,rfl,hx1,hf,hpost⟩
 have HF:Hid _:=hf
 have HPO:Hid _:=hpost
 clear hf hpost hcall
 go_simp
 refine hK.out _ _ ⟨cell_below hx1 hH.1,cell_below hx1 hH.2⟩ (fun hH=>?_)
 clear hK K
 refine tkj 7 rfl hH ?_
 refine tkj 8 rfl hH ?_
 refine tkj 9 rfl hH ?_
 refine tkj 10 rfl hH ?_
 refine tkj 11 rfl hH ?_
 refine tkn ?_
 refine wpAnyH_done (by kernel_rfl) ?_ _
 have hbx:Below w.heap.size w X1:=below_then (drew_below HB0.out.1) hx1
 have hk1:X1.heap[w.heap.size+1]?=some (.cells #[.int .i64 0,.int .i64 0,.int .i64 0,.int .i64 0,.int .i64 0] 52 (0,0)):=(hx1.block _ hz0).trans HB0.out.2
 have hfo:=HF.out X1 (Below.refl _ _)
 have HH:Hid (Below w.heap.size w X1∧X1.heap[w.heap.size+1]?=some (.cells #[.int .i64 0,.int .i64 0,.int .i64 0,.int .i64 0,.int .i64 0] 52 (0,0))∧w.heap.size+1<W0.heap.size):=⟨hbx,hk1,hz0⟩
 clear d1 q0 hH hbx hk1 hz0 HF hx1
 go_wp2_with fail
 refine hfo.mono ?_
 rintro e X2 ⟨rfl,hb2⟩
 have hk2:=(hb2.block _ (lt_of_heap HH.out.2.1)).trans HH.out.2.1
 have hb02:=below_then HH.out.1 hb2
 have k0:X2.cell? ⟨w.heap.size+1,0,none⟩=some (.int .i64 0):=by simp[World.cell?,hk2]
 have k1:X2.cell? ⟨w.heap.size+1,1,none⟩=some (.int .i64 0):=by simp[World.cell?,hk2]
 have k2:X2.cell? ⟨w.heap.size+1,2,none⟩=some (.int .i64 0):=by simp[World.cell?,hk2]
 have k3:X2.cell? ⟨w.heap.size+1,3,none⟩=some (.int .i64 0):=by simp[World.cell?,hk2]
 have k4:X2.cell? ⟨w.heap.size+1,4,none⟩=some (.int .i64 0):=by simp[World.cell?,hk2]
 have f0:X2.frozen? ⟨w.heap.size+1,0,none⟩=false:=by simp[World.frozen?,hk2]
 have f1:X2.frozen? ⟨w.heap.size+1,1,none⟩=false:=by simp[World.frozen?,hk2]
 have f2:X2.frozen? ⟨w.heap.size+1,2,none⟩=false:=by simp[World.frozen?,hk2]
 have f3:X2.frozen? ⟨w.heap.size+1,3,none⟩=false:=by simp[World.frozen?,hk2]
 have f4:X2.frozen? ⟨w.heap.size+1,4,none⟩=false:=by simp[World.frozen?,hk2]
 have hk5:=heap_set (heap_set (heap_set (heap_set (heap_set hk2 0 (.int .i64 c)) 1 (.int .i64 nd)) 2 (.int .i64 (-1))) 3 (.int .i64 (-1))) 4 (.int .i64 (-1))
 simp only[List.setIfInBounds_toArray,List.set_cons_zero,List.set_cons_succ]at hk5
 have HK5:Hid _:=hk5
 have HB2:Hid (Below w.heap.size w X2∧Below X1.heap.size X1 X2):=⟨hb02,hb2⟩
 clear hk2 hk5 hb02 hb2 hfo
 go_wp2
 refine bodyPost_ret (v:=.tuple #[lv,faultR c nd (-1) (-1) (-1)]) (by simp[results,Tryz.results12,go_sem,World.cell?,HK5.out]) rfl ?_
 have hsz:=HB2.out.2.size
 refine HPO.out _ (by rw[set5_size];exact hsz) (fun k hk hne=>(set5_other _ _ _ _ _ _ _ k hne).trans (HB2.out.2.block k hk)) (below_set5 HB2.out.1 (by omega) _ _ _ _ _)
attribute [local go_sem] Oper.semAt_some
structure PlnAt (w:World) (a:Option Addr) (nds:List Nd) (ns:List QN):Prop where
 len:nds.length=ns.length
 at_:∀ (j:Nat) (nd:Nd),nds[j]?=some nd→∃ b o,a=some ⟨b,o,none⟩∧NodeAt w b (o+j*7) nd
 is:∀ (j:Nat) (nd:Nd) (n:QN),nds[j]?=some nd→ns[j]?=some n→NdQ w nd n
theorem PlnAt.below {w w':World}{a:Option Addr}{nds:List Nd}{ns:List QN}(h:PlnAt w a nds ns)(hb:Below w.heap.size w w'):PlnAt w' a nds ns:=
 ⟨h.len,fun j nd hj=>by obtain⟨b,o,e,hn⟩:=h.at_ j nd hj;exact⟨b,o,e,hn.below hb⟩,fun j nd n hj hn=>(h.is j nd n hj hn).under fun k hk=>hb.block k hk⟩
def tysOf (Ts:List TS)(n:ByteArray):Option (List Int):=(Ts[findI Ts n]?).map (·.types)
def SchOk (s:List Int):Prop:=(1≤s.length∧s.length≤12)∧∀ t∈s,1≤t∧t≤3
theorem tys_at {w:World}{G:Nat→Prop}{s d:Nat}{Ts:List TS}{sv:Value}{bs:List Nat}(h:SetX w G s d Ts sv bs)(hT:∀ T∈Ts,SchOk T.types):TysAt w s (tysOf Ts):=fun tn X hX=>by
 unfold tysOf
 by_cases hk:findI Ts tn<Ts.length
 ·rw[List.getElem?_eq_getElem hk]
  have ht:=hT Ts[findI Ts tn] (List.getElem_mem hk)
  exact tTypes_ok tn X G s d Ts sv bs (h.below hX) (findI Ts tn) rfl hk (fun e=>by have:=ht.1.1;rw[e]at this;simp at this) (by have:=ht.1.2;omega)
 rw[List.getElem?_eq_none_iff.2 (by omega)]
 exact tTypes_no tn X G s d Ts sv bs (h.below hX) hk
theorem tyI_in {s:List Int}{i t:Int}(hs:∀ t∈s,1≤t∧t≤3)(h:tyI s i=some t):1≤t∧t≤3:=by
 unfold tyI at h
 by_cases q:0≤i∧i<s.length
 ·rw[if_pos q]at h
  cases h
  have hl:i.toNat<s.length:=by omega
  rw[List.getD_eq_getElem?_getD,List.getElem?_eq_getElem hl]
  exact hs _ (List.getElem_mem hl)
 rw[if_neg q]at h
 cases h
theorem ptO_in {sch T:List Int}{p:Pt}{t:Int}(hs:∀ t∈sch,1≤t∧t≤3)(h:ptO sch T p=some t):1≤t∧t≤3:=by
 unfold ptO at h
 split at h
 rotate_left
 ·cases h
 unfold ptT at h
 have is2:∀ {o:Option Int} {k},isI o k k=some t→(k=1∨k=2)→1≤t∧t≤3:=fun {o k} h hk=>by
  unfold isI at h
  split at h
  ·cases h;omega
  cases h
 have mp:∀ {o:Option Int},(o.map fun _=>(2:Int))=some t→1≤t∧t≤3:=fun {o} h=>by
  cases o with
  |none=>cases h
  |some x=>cases h;exact⟨show (1:Int)≤2 by decide,show (2:Int)≤3 by decide⟩
 split at h
 ·exact tyI_in hs h
 split at h
 ·unfold conI at h
  split at h
  ·rename_i q;cases h;exact⟨q.1,q.2.1⟩
  cases h
 split at h
 ·exact is2 h (.inl rfl)
 split at h
 ·exact mp h
 split at h
 ·exact is2 h (.inr rfl)
 split at h
 ·exact is2 h (.inr rfl)
 exact mp h
theorem ptsT_in {sch:List Int}(hs:∀ t∈sch,1≤t∧t≤3):∀ (es:List Pt) (T R:List Int),(∀ t∈T,1≤t∧t≤3)→ptsT sch T es=some R→(∀ t∈R,1≤t∧t≤3)∧R.length=T.length+es.length
 |[],T,R,hT,h=>by cases h;exact⟨hT,rfl⟩
 |p::ps,T,R,hT,h=>by
  unfold ptsT at h
  cases hp:ptO sch T p with
  |none=>rw[hp]at h;cases h
  |some t=>
   rw[hp]at h
   have:=ptsT_in hs ps (T++[t]) R (fun x hx=>by
    rcases List.mem_append.1 hx with hx|hx
    ·exact hT x hx
    rw[List.mem_singleton]at hx;subst hx;exact ptO_in hs hp) h
   refine⟨this.1,this.2.trans ?_⟩
   simp only[List.length_append,List.length_cons,List.length_nil]
   omega
theorem typX_in {sch:List Int}{es:List Pt}{t:Int}(hs:∀ t∈sch,1≤t∧t≤3)(h:typX sch es=some t):1≤t∧t≤3:=by
 unfold typX at h
 split at h
 ·rename_i q
  obtain⟨T,hT,rfl⟩:=Option.map_eq_some_iff.1 h
  obtain⟨h1,h2⟩:=ptsT_in hs es [] T (fun t ht=>by cases ht) hT
  have hl:es.length-1<T.length:=by rw[h2];simp;omega
  rw[List.getD_eq_getElem?_getD,List.getElem?_eq_getElem hl]
  exact h1 _ (List.getElem_mem hl)
 cases h
theorem typsX_in {s:List Int}(hs:∀ t∈s,1≤t∧t≤3):∀ (es:List (List Pt)) (T R:List Int),(∀ t∈T,1≤t∧t≤3)→typsX s T es=some R→(∀ t∈R,1≤t∧t≤3)∧R.length=T.length+es.length
 |[],T,R,hT,h=>by cases h;exact⟨hT,rfl⟩
 |p::ps,T,R,hT,h=>by
  unfold typsX at h
  cases hp:typX s p with
  |none=>rw[hp]at h;cases h
  |some t=>
   rw[hp]at h
   have:=typsX_in hs ps (T++[t]) R (fun x hx=>by
    rcases List.mem_append.1 hx with hx|hx
    ·exact hT x hx
    rw[List.mem_singleton]at hx;subst hx;exact typX_in hs hp) h
   refine⟨this.1,this.2.trans ?_⟩
   simp only[List.length_append,List.length_cons,List.length_nil]
   omega
theorem toldZ_in {s:List Int}{k:Kz}{t:Int}(hs:∀ t∈s,1≤t∧t≤3)(h:toldZ s k=some t):1≤t∧t≤3:=by
 unfold toldZ at h
 split at h
 ·cases h;omega
 split at h
 ·exact tyI_in hs h
 split at h
 ·cases hx:tyI s k.c with
  |none=>rw[hx]at h;cases h
  |some x=>rw[hx]at h;cases h;exact⟨show (1:Int)≤1 by decide,show (1:Int)≤3 by decide⟩
 split at h
 ·unfold isI at h
  split at h
  ·cases h;omega
  cases h
 cases h
theorem toldsZ_in {s:List Int}(hs:∀ t∈s,1≤t∧t≤3):∀ (es:List Kz) (T R:List Int),(∀ t∈T,1≤t∧t≤3)→toldsZ s T es=some R→(∀ t∈R,1≤t∧t≤3)∧R.length=T.length+es.length
 |[],T,R,hT,h=>by cases h;exact⟨hT,rfl⟩
 |p::ps,T,R,hT,h=>by
  unfold toldsZ at h
  cases hp:toldZ s p with
  |none=>rw[hp]at h;cases h
  |some t=>
   rw[hp]at h
   have:=toldsZ_in hs ps (T++[t]) R (fun x hx=>by
    rcases List.mem_append.1 hx with hx|hx
    ·exact hT x hx
    rw[List.mem_singleton]at hx;subst hx;exact toldZ_in hs hp) h
   refine⟨this.1,this.2.trans ?_⟩
   simp only[List.length_append,List.length_cons,List.length_nil]
   omega
theorem nodeQ_in {tys:ByteArray→Option (List Int)}{scs:List (List Int)}{fl:Nat→Bool}{n:QN}{s:List Int}(ht:∀ n s,tys n=some s→SchOk s)(hs:∀ s∈scs,SchOk s)(h:nodeQ tys scs fl n=some s):SchOk s:=by
 have one:∀ (f:List Int→Option (List Int)),(∀ a b,SchOk a→f a=some b→SchOk b)→(freeQ scs fl n.l).bind f=some s→SchOk s:=fun f hf h=>by
  obtain⟨a,h1,h2⟩:=Option.bind_eq_some_iff.1 h
  exact hf a s (hs a (List.mem_of_getElem? (freeQ_lt h1).2.2.2)) h2
 have two:∀ (f:List Int→List Int→Option (List Int)),(∀ a b c,SchOk a→SchOk b→f a b=some c→SchOk c)→((freeQ scs fl n.l).bind fun a=>(freeQ scs fl n.r).bind fun b=>f a b)=some s→SchOk s:=fun f hf h=>by
  obtain⟨a,h1,h2⟩:=Option.bind_eq_some_iff.1 h
  obtain⟨b,h3,h4⟩:=Option.bind_eq_some_iff.1 h2
  exact hf a b s (hs a (List.mem_of_getElem? (freeQ_lt h1).2.2.2)) (hs b (List.mem_of_getElem? (freeQ_lt h3).2.2.2)) h4
 unfold nodeQ at h
 split at h
 ·exact ht _ _ h
 split at h
 ·refine one _ (fun a b ha hb=>?_) h
  unfold filtQ at hb
  split at hb
  ·cases hb
  split at hb
  ·cases hb;exact ha
  cases hb
 split at h
 ·refine one _ (fun a b ha hb=>?_) h
  unfold projQ at hb
  split at hb
  ·rename_i q
   have:=typsX_in ha.2 n.es [] b (fun t ht=>by cases ht) hb
   exact⟨by rw[this.2];simp;omega,this.1⟩
  cases hb
 split at h
 ·refine two _ (fun a b c ha hb hc=>?_) h
  split at hc
  ·cases hc
  unfold joinQ at hc
  split at hc
  ·split at hc
   ·split at hc
    ·rename_i q
     cases hc
     refine⟨⟨by rw[List.length_append];have:=ha.1.1;omega,by rw[List.length_append];exact q⟩,fun t ht=>?_⟩
     rcases List.mem_append.1 ht with h|h
     ·exact ha.2 t h
     exact hb.2 t h
    cases hc
   split at hc
   ·cases hc;exact ha
   cases hc
  cases hc
 split at h
 ·refine one _ (fun a b ha hb=>?_) h
  unfold grpQ at hb
  split at hb
  ·rename_i q
   have:=toldsZ_in ha.2 n.ks [] b (fun t ht=>by cases ht) hb
   exact⟨by rw[this.2];simp;omega,this.1⟩
  cases hb
 split at h
 ·refine one _ (fun a b ha hb=>?_) h
  unfold srtQ at hb
  split at hb
  ·cases hb;exact ha
  cases hb
 split at h
 ·refine one _ (fun a b ha hb=>?_) h
  unfold limQ at hb
  split at hb
  ·cases hb;exact ha
  cases hb
 split at h
 ·refine two _ (fun a b c ha hb hc=>?_) h
  split at hc
  ·cases hc
  unfold unQ at hc
  split at hc
  ·cases hc;exact ha
  cases hc
 cases h
theorem PChk.schs {tys:ByteArray→Option (List Int)}{ns:List QN}{scs:List (List Int)}(h:PChk tys ns scs)(ht:∀ n s,tys n=some s→SchOk s):∀ s∈scs,SchOk s:=by
 have:∀ j,j≤scs.length→∀ s∈scs.take j,SchOk s:=by
  intro j
  induction j with
  |zero=>exact fun _ s hs=>by simp at hs
  |succ j ih=>
   intro hj s hs
   rw[List.take_succ_eq_append_getElem (by omega)]at hs
   rcases List.mem_append.1 hs with hs|hs
   ·exact ih (by omega) s hs
   rw[List.mem_singleton]at hs
   subst hs
   have hn:j<ns.length:=by have:=h.le;omega
   exact nodeQ_in ht (ih (by omega)) (h.ok j _ ns[j] (List.getElem?_eq_getElem (by omega)) (List.getElem?_eq_getElem hn))
 intro s hs
 exact this scs.length (Nat.le_refl _) s (by rw[List.take_length];exact hs)
def badN (ns:List QN)(scs:List (List Int)):Option Int:=if 1≤ns.length∧ns.length≤12 then (badAt ns scs).map fun i=>(i:Int)else some (-1)
def lastS (ns:List QN)(scs:List (List Int)):List Int:=scs.getD (ns.length-1) []
theorem Check_any (M:Nat→Prop)(st:Nat)(D:DS)(Ts:List TS)(w:World)(h:Sto M w st D Ts)(hT:∀ T∈Ts,SchOk T.types)(a:Option Addr)(nc:Nat)(nds:List Nd)(ns:List QN)(hP:PlnAt w a nds ns)(scs:List (List Int))(hS:PChk (tysOf Ts) ns scs)(a0 a1 a2 tt q wr pg pl ex ta:Addr)(hN:Names w a0 a1 a2 tt q wr pg pl ex ta) :
  Calls Tryz.prog 12 #[.pointer (some ⟨st,0,none⟩),.agg #[.slice a ns.length nc]] w (CheckP w (badN ns scs) (lastS ns scs)):=by
 obtain⟨⟨d,s,F,G,sv,bs,h1,h2,h3,h4,h5,h6,h7,h8,h9,h10,hM⟩,hlt⟩:=h
 obtain⟨_,c1⟩:=h1.field
 have hty:∀ n s,tysOf Ts n=some s→SchOk s:=fun n s hs=>by
  obtain⟨T,hT',rfl⟩:=Option.map_eq_some_iff.1 hs
  exact hT T (List.mem_of_getElem? hT')
 have hsch:=hS.schs hty
 refine Check_of st s a ns.length nc w c1 (badN ns scs) (lastS ns scs) a0 a1 a2 tt q wr pg pl ex ta hN fun X hX=>?_
 have hb1:Below X.heap.size X (X.alloc (.cells #[.slice a ns.length nc] 25)):=below_alloc (Below.refl _ _) _
 have hb2:=below_then hX hb1
 have hN2:=hN.below hb2
 unfold badN
 by_cases hn:1≤ns.length∧ns.length≤12
 ·rw[if_pos hn]
  obtain⟨b,o,rfl,_⟩:=hP.at_ 0 _ (List.getElem?_eq_getElem (by rw[hP.len];omega))
  have hSc:=pSchemas_in b o nc nds ns s (tysOf Ts) scs (X.alloc (.cells #[.slice (some ⟨b,o,none⟩) ns.length nc] 25)) hS hP.len (fun j nd hj=>by
   obtain⟨b',o',e,hq⟩:=(hP.below hb2).at_ j nd hj
   cases e
   exact hq) (hP.below hb2).is (fun s hs=>(hsch s hs).1.2) pl ex hN2.m2.cp hN2.m2.ce (tys_at (h2.below hb2) hT) (by rw[hP.len];exact hn.1) (by rw[hP.len];exact hn.2)
  rw[hP.len]at hSc
  cases hb:badAt ns scs with
  |some i=>
   rw[hb]at hSc
   exact pCheck_no _ _ _ _ scs X pl ex i hSc _
  |none=>
   rw[hb]at hSc
   have hl:scs.length=ns.length:=by
    unfold badAt at hb
    have:=hS.le
    by_cases q:scs.length<ns.length
    ·rw[if_pos q]at hb;cases hb
    omega
   exact pCheck_yes _ _ _ _ scs X pl ex (ns.length-1) hSc _ (by omega) (by omega) (by unfold lastS;rw[List.getD_eq_getElem?_getD,List.getElem?_eq_getElem (by omega)];rfl)
 rw[if_neg hn]
 exact pCheck_no _ _ _ _ scs X pl ex (-1) (pSchemas_size a ns.length nc _ scs _ pl ex hN2.m2.cp hn) _
end Go.Proofs.YtkgibdjakgmmcaaGreatDoor
