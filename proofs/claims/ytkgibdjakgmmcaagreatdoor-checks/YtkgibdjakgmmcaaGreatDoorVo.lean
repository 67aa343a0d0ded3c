/- The document's schemas: grouped, joined. -/
import Derived.Test.YtkgibdjakgmmcaaGreatDoorVn
set_option maxHeartbeats 2000000
set_option maxRecDepth 100000
namespace Go.Proofs.YtkgibdjakgmmcaaGreatDoor
open Go.RowKit Go.Shelf
attribute [local go_sem] Oper.semAt_some
theorem KzsAt.cells {w X:World}{a:Option Addr}{kz:List Kz}(h:KzsAt w a kz)(hX:Below w.heap.size w X){j:Nat}{k:Kz}(hj:kz[j]?=some k):∃ b o,a=some ⟨b,o,none⟩∧X.cell? ⟨b,o+j*4,none⟩=some (.int .i64 k.c)∧X.cell? ⟨b,o+j*4+1,none⟩=some (.int .i64 k.o)∧X.cell? ⟨b,o+j*4+2,none⟩=some (.bool k.d)∧X.cell? ⟨b,o+j*4+3,none⟩=some (.int .i64 k.f):=by
 obtain⟨b,o,e,q0,q1,q2,q3⟩:=h j k hj
 exact⟨b,o,e,cell_below hX q0,cell_below hX q1,cell_below hX q2,cell_below hX q3⟩
theorem rGrouped_any (nd:Nd)(n:QN)(ca:Option Addr)(cc:Nat)(sch:List Int)(w:World)(hq:NdQ w nd n)(hC:Ints w ca sch)(hs:SchOk sch) :
  Calls Tryz.prog 46 #[nd.val,.slice ca sch.length cc] w (RS w (grpQ sch n)):=by
 have hbb:Below w.heap.size w (ndBox w nd):=below_alloc (Below.refl _ _) _
 obtain⟨n0,n1,n2,n3,n4,n5,n6⟩:=ndBox_at w nd
 rw[Nat.zero_add]at n1 n2 n3 n4 n5 n6
 have hkk:=hq.kk
 have hky:=hq.ky
 have hkeys:=rKeys_any nd (ndBox w nd)
 rw[hq.kl]at hkeys
 have HKL:Hid (nd.ky.2.1=n.ks.length):=hq.kl
 obtain⟨R,hR⟩:∃ R,grpQ sch n=R:=⟨_,rfl⟩
 rw[hR]
 have HB:Hid (Below w.heap.size w (ndBox w nd)∧NodeAt (ndBox w nd) w.heap.size 0 nd):=⟨hbb,ndBox_at w nd⟩
 have hRR:(if 1≤n.ks.length∧n.ks.length≤4 then toldsZ sch [] n.ks else none)=R:=hR
 generalize n.ks=kz at hky hkeys hRR HKL
 clear hkk hq hR hbb
 by_cases hlen:1≤kz.length∧kz.length≤4
 rotate_left
 ·rw[decide_eq_false hlen]at hkeys
  obtain rfl:R=none:=by rw[←hRR,if_neg hlen]
  clear hRR hlen hky hC
  go_enter Tryz.func46,Tryz.ntmps46
  go_wp2_with (go_at_call 47;refine hkeys.mono ?_;rintro e' W1 ⟨rfl,hb1⟩)
  exact bodyPost_ret (v:=.slice none 0 0) (by simp[results,Tryz.results46,go_sem]) rfl ⟨below_then HB.out.1 hb1,rfl⟩
 rw[decide_eq_true hlen]at hkeys
 have HR2:Hid (toldsZ sch [] kz=R∧1≤kz.length∧kz.length≤4):=⟨by rw[←hRR,if_pos hlen],hlen⟩
 obtain⟨kb,ko',hka,-⟩:=hky 0 _ (List.getElem?_eq_getElem (by omega))
 have HKY:Hid (∀ X,Below w.heap.size w X→∀ (j:Nat) (k:Kz),kz[j]?=some k→X.cell? ⟨kb,ko'+j*4,none⟩=some (.int .i64 k.c)∧X.cell? ⟨kb,ko'+j*4+1,none⟩=some (.int .i64 k.o)∧X.cell? ⟨kb,ko'+j*4+2,none⟩=some (.bool k.d)∧X.cell? ⟨kb,ko'+j*4+3,none⟩=some (.int .i64 k.f)):=fun X hX j k hk=>by
  obtain⟨b',o',e',q⟩:=hky.cells hX hk
  rw[hka]at e'
  cases e'
  exact q
 have HS:Hid (SchOk sch∧Ints w ca sch):=⟨hs,hC⟩
 have HKA:Hid (nd.ky.1=some ⟨kb,ko',none⟩):=hka
 clear hRR hky hC hs hlen hka
 go_enter Tryz.func46,Tryz.ntmps46
 go_upto_region 4 with(go_at_call 47;refine hkeys.mono ?_;rintro e' W1 ⟨rfl,hb1⟩)
 have HP5:Hid (W1.cell? ⟨w.heap.size,5,none⟩=some (.slice (some ⟨kb,ko',none⟩) kz.length nd.ky.2.2)):=by
  show _=_
  have:=(HB.out.2.below hb1).2.2.2.2.2.1
  rw[Nat.zero_add,HKA.out,HKL.out]at this
  exact this
 have HB1:Hid (Below (ndBox w nd).heap.size (ndBox w nd) W1):=hb1
 clear hb1 hkeys n0 n1 n2 n3 n4 n5 n6
 go_upto_region 6 with fail
 go_loopw [6,7] (fun sv i wr=>∃ T:List Int,T.length≤kz.length∧i=.int .i64 (T.length:Int)∧OwnC wr W1.heap.size 3 sv (T.map iv)∧Below W1.heap.size W1 wr∧toldsZ sch T (kz.drop T.length)=toldsZ sch [] kz) (fun _ i _=>kz.length-(intOf i).toNat)
 case atStart=>exact⟨[],Nat.zero_le _,rfl,OwnC.nil _ _ _,Below.refl _ _,rfl⟩
 case round=>
  obtain⟨T,hj,rfl,hown,hbw,hty⟩:=hrel
  obtain⟨j,hjT⟩:∃ j,j=T.length:=⟨_,rfl⟩
  have HJ:Hid (j=T.length∧toldsZ sch T (kz.drop T.length)=toldsZ sch [] kz∧j≤4):=⟨hjT,hty,by have:=HR2.out.2.2;omega⟩
  have HOW:Hid (OwnC wr W1.heap.size 3 _ (T.map iv)∧Below (ndBox w nd).heap.size (ndBox w nd) wr∧Below W1.heap.size W1 wr):=⟨hown,below_then HB1.out hbw,hbw⟩
  obtain⟨sa,sc,hsv,hsc⟩:=hown.cells
  rw[List.length_map,←hjT]at hsv
  rw[←hjT]at hj ⊢
  have p5w:=cell_below hbw HP5.out
  have hbww:=below_then HB.out.1 HOW.out.2.1
  clear hty
  by_cases hlt:j<kz.length
  ·obtain⟨k,hk⟩:∃ k,k=kz[j]:=⟨_,rfl⟩
   have hget:kz[j]?=some k:=by rw[hk];exact List.getElem?_eq_getElem hlt
   obtain⟨y0,y1,y2,y3⟩:=HKY.out wr hbww j k hget
   have hdr:=toldsZ_drop (s:=sch) (T:=T) hget
   rw[hjT,HJ.out.2.1]at hdr
   have hRe:R=toldsZ sch [] kz:=HR2.out.1.symm
   have HLT:Hid (j<kz.length):=hlt
   have hat:=rAt_any ca cc sch k.c (wr.alloc (.cells #[.int .i64 k.c,.int .i64 k.o,.bool k.d,.int .i64 k.f] 79)) (HS.out.2.below (below_alloc hbww _))
   have hpos:=fun t=>tyI_in (t:=t) (i:=k.c) HS.out.1.2
   obtain⟨kc,ko,kd,kf⟩:=k
   simp only at y0 y1 y2 y3 hat hpos
   have htz:toldZ sch ⟨kc,ko,kd,kf⟩=if kf=1 then some 1 else if kf=0∨kf=4∨kf=5 then tyI sch kc else if kf=2 then (tyI sch kc).map fun _=>1 else if kf=3 then isI (tyI sch kc) 1 1 else none:=rfl
   rw[htz]at hdr
   subst hsv
   have k1:(0:Int)≤(j:Int):=by omega
   have k2:(j:Int)<(kz.length:Int):=by omega
   have k4:(kz.length:Int)≤4:=by have:=HR2.out.2.2;omega
   have HDD:Hid _:=And.intro hdr hRe
   have hz3:(wr.alloc (.cells #[.int .i64 kc,.int .i64 ko,.bool kd,.int .i64 kf] 79)).cell? ⟨wr.heap.size,3,none⟩=some (.int .i64 kf):=by simp
   have hbk:Below wr.heap.size wr (wr.alloc (.cells #[.int .i64 kc,.int .i64 ko,.bool kd,.int .i64 kf] 79)):=below_alloc (Below.refl _ _) _
   have HPO:Hid _:=hpos
   clear hk hown hbw hsc hget hjT hbww htz hdr hRe hpos
   by_cases e1:kf=1
   ·subst e1
    obtain⟨x,hx⟩:∃ x,x=(tyI sch kc).getD 0:=⟨_,rfl⟩
    rw[←hx]at hat
    clear hx
    have HDR:Hid (toldsZ sch (T++[1]) (kz.drop (T.length+1))=toldsZ sch [] kz):=by have:=HDD.out.1;simp at this;exact this.symm
    go_wp2_with (first|(go_at_call 48;refine hat.mono ?_;rintro e' W2 ⟨rfl,hw2⟩;have z3:=hz3;rw[←hw2]at z3;have hb2:=hbk;rw[←hw2]at hb2;clear hw2)|(at_builtin;go_must (refine wpList_append_C (by rfl) _ _ 29 3 _ 8 info_int (by rfl) (by decide) (by kernel_rfl) (by rfl) W1.heap.size _ _ (by rfl) (OwnC.alloc (owns_of_block HOW.out.1 fun g e=>hb2.block g (owns_block HOW.out.1 e).2) _) ⟨W2.heap.size,0,none⟩ 1 [iv 1] (by rfl) (by exact news_one W2 _ _) (by intro u hu;simp at hu;subst hu;rfl) (by simp only[List.length_cons,List.length_nil,List.length_map];have:=HJ.out.1;have:=HJ.out.2.2;omega) (Nat.le_trans HOW.out.2.2.size (Nat.le_trans hb2.size (by simp))) ?_);intro sv' w4 q1 q2 q3))
    go_roundw
    case rel=>
     have h1:=HLT.out
     have h2:=HJ.out.1
     refine⟨T++[1],by rw[List.length_append,←h2];simp;omega,by rw[List.length_append,←h2];simp only[List.length_cons,List.length_nil];go_num,by rw[List.map_append];exact q1,?_,by rw[List.length_append];exact HDR.out⟩
     exact below_grown (w:=W1) (below_alloc (below_then HOW.out.2.2 hb2) _) q2 fun k hk=>(owns_block HOW.out.1 hk).1
    case measure=>have:=HLT.out;have:=HJ.out.1;simp[intOf];omega
   by_cases hv:kf=0∨kf=4∨kf=5
   ·rcases hx:tyI sch kc with _|t
    ·rw[hx]at hat
     simp only[Option.getD_none]at hat
     obtain rfl:R=none:=by rw[HDD.out.2,HDD.out.1,if_neg e1,if_pos hv,hx]
     clear hx e1
     rcases hv with rfl|rfl|rfl
     all_goals
      go_wp2_with (go_at_call 48;refine hat.mono ?_;rintro e' W2 ⟨rfl,hw2⟩;have z3:=hz3;rw[←hw2]at z3;have hb2:=hbk;rw[←hw2]at hb2;clear hw2)
      exact bodyPost_ret (v:=.slice none 0 0) (by simp[results,Tryz.results46,go_sem]) rfl ⟨below_then (below_then HB.out.1 HOW.out.2.1) hb2,rfl⟩
    rw[hx]at hat
    simp only[Option.getD_some]at hat
    have ht:=HPO.out t hx
    have ht0:¬ t=0:=by omega
    have HDE:Hid (toldsZ sch (T++[t]) (kz.drop (T.length+1))=toldsZ sch [] kz):=by have:=HDD.out.1;rw[if_neg e1,if_pos hv,hx]at this;exact this.symm
    clear hx e1 ht
    rcases hv with rfl|rfl|rfl
    all_goals
     have HDR:Hid (toldsZ sch (T++[t]) (kz.drop (T.length+1))=toldsZ sch [] kz):=HDE.out
     go_wp2_with (first|(go_at_call 48;refine hat.mono ?_;rintro e' W2 ⟨rfl,hw2⟩;have z3:=hz3;rw[←hw2]at z3;have hb2:=hbk;rw[←hw2]at hb2;clear hw2)|(at_builtin;go_must (refine wpList_append_C (by rfl) _ _ 29 3 _ 8 info_int (by rfl) (by decide) (by kernel_rfl) (by rfl) W1.heap.size _ _ (by rfl) (OwnC.alloc (owns_of_block HOW.out.1 fun g e=>hb2.block g (owns_block HOW.out.1 e).2) _) ⟨W2.heap.size,0,none⟩ 1 [iv t] (by rfl) (by exact news_one W2 _ _) (by intro u hu;simp at hu;subst hu;rfl) (by simp only[List.length_cons,List.length_nil,List.length_map];have:=HJ.out.1;have:=HJ.out.2.2;omega) (Nat.le_trans HOW.out.2.2.size (Nat.le_trans hb2.size (by simp))) ?_);intro sv' w4 q1 q2 q3))
     go_roundw
     case rel=>
      have h1:=HLT.out
      have h2:=HJ.out.1
      refine⟨T++[t],by rw[List.length_append,←h2];simp;omega,by rw[List.length_append,←h2];simp only[List.length_cons,List.length_nil];go_num,by rw[List.map_append];exact q1,?_,by rw[List.length_append];exact HDR.out⟩
      exact below_grown (w:=W1) (below_alloc (below_then HOW.out.2.2 hb2) _) q2 fun k hk=>(owns_block HOW.out.1 hk).1
     case measure=>have:=HLT.out;have:=HJ.out.1;simp[intOf];omega
   have e0:kf≠0:=fun e=>hv (.inl e)
   have e4:kf≠4:=fun e=>hv (.inr (.inl e))
   have e5:kf≠5:=fun e=>hv (.inr (.inr e))
   by_cases e2:kf=2
   ·subst e2
    rcases hx:tyI sch kc with _|t
    ·rw[hx]at hat
     simp only[Option.getD_none]at hat
     obtain rfl:R=none:=by rw[HDD.out.2,HDD.out.1,hx];rfl
     clear hx hv
     go_wp2_with (go_at_call 48;refine hat.mono ?_;rintro e' W2 ⟨rfl,hw2⟩;have z3:=hz3;rw[←hw2]at z3;have hb2:=hbk;rw[←hw2]at hb2;clear hw2)
     exact bodyPost_ret (v:=.slice none 0 0) (by simp[results,Tryz.results46,go_sem]) rfl ⟨below_then (below_then HB.out.1 HOW.out.2.1) hb2,rfl⟩
    rw[hx]at hat
    simp only[Option.getD_some]at hat
    have ht:=HPO.out t hx
    have ht0:¬ t=0:=by omega
    have HDE:Hid (toldsZ sch (T++[1]) (kz.drop (T.length+1))=toldsZ sch [] kz):=by have:=HDD.out.1;rw[hx]at this;exact this.symm
    clear hx ht hv
    have HDR:Hid (toldsZ sch (T++[1]) (kz.drop (T.length+1))=toldsZ sch [] kz):=HDE.out
    go_wp2_with (first|(go_at_call 48;refine hat.mono ?_;rintro e' W2 ⟨rfl,hw2⟩;have z3:=hz3;rw[←hw2]at z3;have hb2:=hbk;rw[←hw2]at hb2;clear hw2)|(at_builtin;go_must (refine wpList_append_C (by rfl) _ _ 29 3 _ 8 info_int (by rfl) (by decide) (by kernel_rfl) (by rfl) W1.heap.size _ _ (by rfl) (OwnC.alloc (owns_of_block HOW.out.1 fun g e=>hb2.block g (owns_block HOW.out.1 e).2) _) ⟨W2.heap.size,0,none⟩ 1 [iv 1] (by rfl) (by exact news_one W2 _ _) (by intro u hu;simp at hu;subst hu;rfl) (by simp only[List.length_cons,List.length_nil,List.length_map];have:=HJ.out.1;have:=HJ.out.2.2;omega) (Nat.le_trans HOW.out.2.2.size (Nat.le_trans hb2.size (by simp))) ?_);intro sv' w4 q1 q2 q3))
    go_roundw
    case rel=>
     have h1:=HLT.out
     have h2:=HJ.out.1
     refine⟨T++[1],by rw[List.length_append,←h2];simp;omega,by rw[List.length_append,←h2];simp only[List.length_cons,List.length_nil];go_num,by rw[List.map_append];exact q1,?_,by rw[List.length_append];exact HDR.out⟩
     exact below_grown (w:=W1) (below_alloc (below_then HOW.out.2.2 hb2) _) q2 fun k hk=>(owns_block HOW.out.1 hk).1
    case measure=>have:=HLT.out;have:=HJ.out.1;simp[intOf];omega
   by_cases e3:kf=3
   ·subst e3
    rcases hx:tyI sch kc with _|t
    ·rw[hx]at hat
     simp only[Option.getD_none]at hat
     obtain rfl:R=none:=by rw[HDD.out.2,HDD.out.1,hx];rfl
     clear hx hv
     go_wp2_with (go_at_call 48;refine hat.mono ?_;rintro e' W2 ⟨rfl,hw2⟩;have z3:=hz3;rw[←hw2]at z3;have hb2:=hbk;rw[←hw2]at hb2;clear hw2)
     exact bodyPost_ret (v:=.slice none 0 0) (by simp[results,Tryz.results46,go_sem]) rfl ⟨below_then (below_then HB.out.1 HOW.out.2.1) hb2,rfl⟩
    rw[hx]at hat
    simp only[Option.getD_some]at hat
    have ht:=HPO.out t hx
    have ht0:¬ t=0:=by omega
    by_cases et:t=1
    ·subst et
     have HDE:Hid (toldsZ sch (T++[1]) (kz.drop (T.length+1))=toldsZ sch [] kz):=by have:=HDD.out.1;rw[hx]at this;exact this.symm
     clear hx ht hv
     have HDR:Hid (toldsZ sch (T++[1]) (kz.drop (T.length+1))=toldsZ sch [] kz):=HDE.out
     go_wp2_with (first|(go_at_call 48;refine hat.mono ?_;rintro e' W2 ⟨rfl,hw2⟩;have z3:=hz3;rw[←hw2]at z3;have hb2:=hbk;rw[←hw2]at hb2;clear hw2)|(at_builtin;go_must (refine wpList_append_C (by rfl) _ _ 29 3 _ 8 info_int (by rfl) (by decide) (by kernel_rfl) (by rfl) W1.heap.size _ _ (by rfl) (OwnC.alloc (owns_of_block HOW.out.1 fun g e=>hb2.block g (owns_block HOW.out.1 e).2) _) ⟨W2.heap.size,0,none⟩ 1 [iv 1] (by rfl) (by exact news_one W2 _ _) (by intro u hu;simp at hu;subst hu;rfl) (by simp only[List.length_cons,List.length_nil,List.length_map];have:=HJ.out.1;have:=HJ.out.2.2;omega) (Nat.le_trans HOW.out.2.2.size (Nat.le_trans hb2.size (by simp))) ?_);intro sv' w4 q1 q2 q3))
     go_roundw
     case rel=>
      have h1:=HLT.out
      have h2:=HJ.out.1
      refine⟨T++[1],by rw[List.length_append,←h2];simp;omega,by rw[List.length_append,←h2];simp only[List.length_cons,List.length_nil];go_num,by rw[List.map_append];exact q1,?_,by rw[List.length_append];exact HDR.out⟩
      exact below_grown (w:=W1) (below_alloc (below_then HOW.out.2.2 hb2) _) q2 fun k hk=>(owns_block HOW.out.1 hk).1
     case measure=>have:=HLT.out;have:=HJ.out.1;simp[intOf];omega
    obtain rfl:R=none:=by rw[HDD.out.2,HDD.out.1,hx];simp[isI,et]
    have et1:(t==1)=false:=by simp[et]
    have et2:(t != 1)=true:=by simp[et]
    clear hx ht hv
    go_wp2_with (go_at_call 48;refine hat.mono ?_;rintro e' W2 ⟨rfl,hw2⟩;have z3:=hz3;rw[←hw2]at z3;have hb2:=hbk;rw[←hw2]at hb2;clear hw2)
    exact bodyPost_ret (v:=.slice none 0 0) (by simp[results,Tryz.results46,go_sem]) rfl ⟨below_then (below_then HB.out.1 HOW.out.2.1) hb2,rfl⟩
   obtain⟨x,hx⟩:∃ x,x=(tyI sch kc).getD 0:=⟨_,rfl⟩
   rw[←hx]at hat
   obtain rfl:R=none:=by rw[HDD.out.2,HDD.out.1,if_neg e1,if_neg hv,if_neg e2,if_neg e3]
   clear hx hv
   go_wp2_with (go_at_call 48;refine hat.mono ?_;rintro e' W2 ⟨rfl,hw2⟩;have z3:=hz3;rw[←hw2]at z3;have hb2:=hbk;rw[←hw2]at hb2;clear hw2)
   exact bodyPost_ret (v:=.slice none 0 0) (by simp[results,Tryz.results46,go_sem]) rfl ⟨below_then (below_then HB.out.1 HOW.out.2.1) hb2,rfl⟩
  have hje:j=kz.length:=by omega
  have hdr:toldsZ sch T (kz.drop T.length)=some T:=by rw[←hjT,hje,List.drop_length];rfl
  have k2:¬ ((j:Int)<(kz.length:Int)):=by omega
  obtain rfl:R=some T:=by rw[←HR2.out.1,←HJ.out.2.1];exact hdr
  have hT:T≠[]:=fun e=>by have:=HR2.out.2.1;rw[←hje,hjT,e]at this;simp at this
  subst hsv
  obtain⟨g,o,rfl,hgl,-⟩:=Ints.at (ns:=T) hsc (i:=0) (List.length_pos_iff.2 hT)
  have HHC:Hid (Ints wr (some ⟨g,o,none⟩) T):=hsc
  clear hsc hown hlt hje hj hdr hjT hT
  go_wp2
  exact bodyPost_ret (v:=.slice (some ⟨g,o,none⟩) j sc) (by simp[results,Tryz.results46,go_sem]) rfl ⟨hbww,g,o,sc,by rw[HJ.out.1],HHC.out,own_ty HOW.out.1⟩
end Go.Proofs.YtkgibdjakgmmcaaGreatDoor
