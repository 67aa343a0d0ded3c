/- The document's schemas: joined. -/
import Derived.Test.YtkgibdjakgmmcaaGreatDoorVo
set_option maxHeartbeats 2000000
set_option maxRecDepth 100000
namespace Go.Proofs.YtkgibdjakgmmcaaGreatDoor
open Go.RowKit Go.Shelf
attribute [local go_sem] Oper.semAt_some
theorem ints_news {w:World}{b o:Nat}{xs:List Int}(h:Ints w (some ⟨b,o,none⟩) xs):∀ j u,(xs.map iv)[j]?=some u→w.cell? ((⟨b,o,none⟩:Addr).add j)=some u:=fun j u hu=>by
 have hj:j<xs.length:=by have:=(List.getElem?_eq_some_iff.1 hu).1;rwa [List.length_map]at this
 obtain⟨b',o',e,_,hc⟩:=h.at hj
 cases e
 rw[List.getElem?_map,List.getElem?_eq_getElem hj]at hu
 rw[addr_add,hc]
 exact hu
theorem iv_one (xs:List Int):∀ u∈xs.map iv,u.oneCell'=true:=fun u hu=>by
 obtain⟨x,_,rfl⟩:=List.mem_map.1 hu
 rfl
theorem rJoined_any (nd:Nd)(n:QN)(la ra:Option Addr)(lc rc:Nat)(l r:List Int)(w:World)(hq:NdQ w nd n)(hL:Ints w la l)(hRr:Ints w ra r)(hs:SchOk l)(ht:SchOk r)(hTL:TyI w la) :
  Calls Tryz.prog 45 #[nd.val,.slice la l.length lc,.slice ra r.length rc] w (RS w (joinQ l r n)):=by
 have hbb:Below w.heap.size w (ndBox w nd):=below_alloc (Below.refl _ _) _
 obtain⟨n0,n1,n2,n3,n4,n5,n6⟩:=ndBox_at w nd
 rw[Nat.zero_add]at n1 n2 n3 n4 n5 n6
 have hkk:=hq.kk
 have hky:=hq.ky
 have hkeys:=rKeys_any nd (ndBox w nd)
 rw[hq.kl]at hkeys
 have HKL:Hid (nd.ky.2.1=n.ks.length):=hq.kl
 obtain⟨R,hR⟩:∃ R,joinQ l r n=R:=⟨_,rfl⟩
 rw[hR]
 have HB:Hid (Below w.heap.size w (ndBox w nd)∧NodeAt (ndBox w nd) w.heap.size 0 nd):=⟨hbb,ndBox_at w nd⟩
 have hRR:(if (1≤n.ks.length∧n.ks.length≤4)∧n.ks.all (pairZ l r)=true then
  (if n.kk=0∨n.kk=1 then (if l.length+r.length≤12 then some (l++r)else none)else if n.kk=2∨n.kk=3 then some l else none)
 else none)=R:=hR
 generalize n.ks=kz at hky hkeys hRR HKL
 generalize n.kk=kk at hRR hkk
 have HKK:Hid (nd.kk=kk):=hkk
 obtain⟨bk,hbk⟩:∃ b,b=decide (1≤kz.length∧kz.length≤4):=⟨_,rfl⟩
 rw[←hbk]at hkeys
 have HBK:Hid (bk=decide (1≤kz.length∧kz.length≤4)):=hbk
 have HRR:Hid _:=hRR
 have HKY0:Hid (KzsAt w nd.ky.1 kz):=hky
 have HS:Hid (SchOk l∧SchOk r∧Ints w la l∧Ints w ra r):=⟨hs,ht,hL,hRr⟩
 have HTL:Hid (TyI w la):=hTL
 clear hTL hq hR hbb hkk hbk hRR hky hs ht hL hRr
 go_enter Tryz.func45,Tryz.ntmps45
 go_upto_region 2 with(go_at_call 47;refine hkeys.mono ?_;rintro e' W1 ⟨rfl,hb1⟩)
 obtain⟨_,_,_,_,_,p5,p6⟩:=HB.out.2.below hb1
 rw[Nat.zero_add]at p5 p6
 rw[HKK.out]at p6
 have HB1:Hid (Below w.heap.size w W1):=below_then HB.out.1 hb1
 clear hb1 hkeys n0 n1 n2 n3 n4 n5 n6 HKK
 cases bk with
 |false=>
  have hlen:=of_decide_eq_false HBK.out.symm
  obtain rfl:R=none:=by rw[←HRR.out,if_neg fun h=>hlen h.1]
  clear HRR hlen HBK p5
  go_wp2
  exact bodyPost_ret (v:=.slice none 0 0) (by simp[results,Tryz.results45,go_sem]) rfl ⟨HB1.out,rfl⟩
 |true=>
 have hlen:=of_decide_eq_true HBK.out.symm
 have HLEN:Hid (1≤kz.length∧kz.length≤4):=hlen
 by_cases hk0:kk<0
 ·obtain rfl:R=none:=by
   rw[←HRR.out]
   split
   ·rw[if_neg (by omega),if_neg (by omega)]
   ·rfl
  clear HRR hlen HBK p5
  go_wp2
  exact bodyPost_ret (v:=.slice none 0 0) (by simp[results,Tryz.results45,go_sem]) rfl ⟨HB1.out,rfl⟩
 by_cases hk3:3<kk
 ·obtain rfl:R=none:=by
   rw[←HRR.out]
   split
   ·rw[if_neg (by omega),if_neg (by omega)]
   ·rfl
  have k0:(0:Int)≤kk:=by omega
  clear HRR hlen HBK p5 hk0
  go_wp2
  exact bodyPost_ret (v:=.slice none 0 0) (by simp[results,Tryz.results45,go_sem]) rfl ⟨HB1.out,rfl⟩
 have k0:(0:Int)≤kk:=by omega
 have k3:kk≤3:=by omega
 obtain⟨kb,ko',hka,-⟩:=HKY0.out 0 _ (List.getElem?_eq_getElem (by omega))
 have HKY:Hid (∀ X,Below w.heap.size w X→∀ (j:Nat) (k:Kz),kz[j]?=some k→X.cell? ⟨kb,ko'+j*4,none⟩=some (.int .i64 k.c)∧X.cell? ⟨kb,ko'+j*4+1,none⟩=some (.int .i64 k.o)):=fun X hX j k hk=>by
  obtain⟨b',o',e',q0,q1,_⟩:=HKY0.out.cells hX hk
  rw[hka]at e'
  cases e'
  exact⟨q0,q1⟩
 rw[hka,HKL.out]at p5
 have HP5:Hid (W1.cell? ⟨w.heap.size,5,none⟩=some (.slice (some ⟨kb,ko',none⟩) kz.length nd.ky.2.2)∧W1.cell? ⟨w.heap.size,6,none⟩=some (.int .i64 kk)):=⟨p5,p6⟩
 have k4:(kz.length:Int)≤4:=by omega
 clear hka hlen hk0 hk3 HBK HKY0
 go_upto_region 5 with fail
 clear p5 p6
 go_loopw [8] (fun i wr=>∃ j:Nat,j≤kz.length∧i=.int .i64 (j:Int)∧wr=W1∧(kz.take j).all (pairZ l r)=true) (fun i _=>kz.length-(intOf i).toNat)
 case atStart=>exact⟨0,Nat.zero_le _,rfl,rfl,rfl⟩
 case round=>
  obtain⟨j,hj,rfl,hwr,hdn⟩:=hrel
  rw[hwr]
  have HD:Hid ((kz.take j).all (pairZ l r)=true):=hdn
  obtain⟨p5,p6⟩:=HP5.out
  clear hdn hwr
  by_cases hlt:j<kz.length
  ·obtain⟨k,hk⟩:∃ k,k=kz[j]:=⟨_,rfl⟩
   have hget:kz[j]?=some k:=by rw[hk];exact List.getElem?_eq_getElem hlt
   obtain⟨y0,y1⟩:=HKY.out W1 HB1.out j k hget
   have h1:=rAt_any la lc l k.c W1 (HS.out.2.2.1.below HB1.out)
   have h2:=rAt_any ra rc r k.o W1 (HS.out.2.2.2.below HB1.out)
   have HJ:Hid (j<kz.length):=hlt
   have HNO:Hid (pairZ l r k=false→R=none):=fun hp=>by
    rw[←HRR.out]
    refine if_neg fun h=>?_
    have:=List.all_eq_true.1 h.2 k (by rw[hk];exact List.getElem_mem _)
    rw[hp]at this
    cases this
   have HYES:Hid (pairZ l r k=true→(kz.take (j+1)).all (pairZ l r)=true):=fun hp=>by
    rw[List.take_succ_eq_append_getElem hlt,List.all_append,HD.out,←hk]
    simp[hp]
   have hpz:pairZ l r k=((tyI l k.c).isSome&&(tyI r k.o).isSome&&decide (tyI l k.c=tyI r k.o)):=rfl
   rw[hpz]at HNO HYES
   have hp1:=fun t=>tyI_in (t:=t) (i:=k.c) HS.out.1.2
   have hp2:=fun t=>tyI_in (t:=t) (i:=k.o) HS.out.2.1.2
   have i1:(0:Int)≤(j:Int):=by omega
   have i2:(j:Int)<(kz.length:Int):=by omega
   clear hpz hk hget
   generalize tyI l k.c=x at h1 HNO HYES hp1
   generalize tyI r k.o=y at h2 HNO HYES hp2
   rcases x with _|x
   ·obtain rfl:R=none:=HNO.out (by simp)
    simp only[Option.getD_none]at h1
    clear HNO HYES hp1 hp2 h2
    go_wp2_with (go_at_call 48;refine h1.mono ?_;rintro e' W2 ⟨rfl,hw2⟩;rw[hw2];clear hw2)
    exact bodyPost_ret (v:=.slice none 0 0) (by simp[results,Tryz.results45,go_sem]) rfl ⟨HB1.out,rfl⟩
   simp only[Option.getD_some]at h1
   have hx:=hp1 x rfl
   have hx0:¬ x=0:=by omega
   have HY:Hid ((x=y.getD 0→y=some x)):=fun e=>by
    cases y with
    |none=>simp at e;omega
    |some y=>simp at e;rw[e]
   obtain⟨yy,hyy⟩:∃ yy,yy=y.getD 0:=⟨_,rfl⟩
   rw[←hyy]at h2 HY
   have HYY:Hid (yy=y.getD 0):=hyy
   clear hp1 hp2 hx hyy
   go_upto_region 8 with(go_at_call 48;refine h1.mono ?_;rintro e' W2 ⟨rfl,hw2⟩;rw[hw2];clear hw2)
   by_cases hxy:x=yy
   ·have hy:=HY.out hxy
    have HYS:Hid ((kz.take (j+1)).all (pairZ l r)=true):=HYES.out (by rw[hy];simp)
    clear HNO HYES HY hy HYY
    subst hxy
    go_wp2_with (go_at_call 48;refine h2.mono ?_;rintro e' W2 ⟨rfl,hw2⟩;rw[hw2];clear hw2)
    go_roundw
    case rel=>exact⟨j+1,HJ.out,by have:=HJ.out;go_num,(by first|rfl|trivial),HYS.out⟩
    case measure=>have:=HJ.out;simp[intOf];omega
   obtain rfl:R=none:=HNO.out (by
    have:=HYY.out
    cases y with
    |none=>simp
    |some y=>simp at this;simp[←this,hxy])
   have hxy1:(x==yy)=false:=by simp[hxy]
   have hxy2:(x != yy)=true:=by simp[hxy]
   clear HNO HYES HY HYY
   go_wp2_with (go_at_call 48;refine h2.mono ?_;rintro e' W2 ⟨rfl,hw2⟩;rw[hw2];clear hw2)
   exact bodyPost_ret (v:=.slice none 0 0) (by simp[results,Tryz.results45,go_sem]) rfl ⟨HB1.out,rfl⟩
  have hje:j=kz.length:=by omega
  have hall:kz.all (pairZ l r)=true:=by have:=HD.out;rwa [hje,List.take_length]at this
  have hR2:(if kk=0∨kk=1 then (if l.length+r.length≤12 then some (l++r)else none)else if kk=2∨kk=3 then some l else none)=R:=(if_pos (show (1≤kz.length∧kz.length≤4)∧kz.all (pairZ l r)=true from ⟨HLEN.out,hall⟩)).symm.trans HRR.out
  have HR2:Hid _:=hR2
  have i3:¬ ((j:Int)<(kz.length:Int)):=by omega
  have hl1:=HS.out.1.1
  have hr1:=HS.out.2.1.1
  obtain⟨lb,lo,rfl,-,-⟩:=Ints.at (ns:=l) (HS.out.2.2.1.below HB1.out) (i:=0) (by omega)
  obtain⟨rb,ro,rfl,-,-⟩:=Ints.at (ns:=r) (HS.out.2.2.2.below HB1.out) (i:=0) (by omega)
  have HLI:Hid (Ints W1 (some ⟨lb,lo,none⟩) l∧Ints W1 (some ⟨rb,ro,none⟩) r):=⟨HS.out.2.2.1.below HB1.out,HS.out.2.2.2.below HB1.out⟩
  clear hall hR2 hje hlt hj HRR HD
  by_cases hk2:kk=2∨kk=3
  ·obtain rfl:R=some l:=by rw[←HR2.out,if_neg (by omega),if_pos hk2]
   clear HR2 hl1 hr1
   rcases hk2 with rfl|rfl
   all_goals
    go_wp2
    exact bodyPost_ret (v:=.slice (some ⟨lb,lo,none⟩) l.length lc) (by simp[results,Tryz.results45,go_sem]) rfl ⟨HB1.out,lb,lo,lc,rfl,HLI.out.1,HTL.out.below HB1.out⟩
  have e2:kk≠2:=fun e=>hk2 (.inl e)
  have e3:kk≠3:=fun e=>hk2 (.inr e)
  have e2b:(kk==2)=false:=by simp[e2]
  have e3b:(kk==3)=false:=by simp[e3]
  have hk01:kk=0∨kk=1:=by omega
  have j1:IntKind.i64.wrap ((l.length:Int)+(r.length:Int))=(l.length:Int)+(r.length:Int):=by rw[IntKind.wrap_i64];omega
  by_cases h12:l.length+r.length≤12
  ·obtain rfl:R=some (l++r):=by rw[←HR2.out,if_pos hk01,if_pos h12]
   have j2:¬ ((l.length:Int)+(r.length:Int)>12):=by omega
   have HLR:Hid (l.length+r.length≤12∧1≤l.length):=⟨h12,hl1.1⟩
   have hl10:l.length≤12:=by omega
   have hr10:r.length≤12:=by omega
   clear HR2 hl1 hr1 h12 hk2 hk01
   go_upto_region 16 with(at_builtin;go_must (refine wpList_append_C (by rfl) _ _ 29 3 _ 8 info_int (by rfl) (by decide) (by kernel_rfl) (by rfl) W1.heap.size _ [] (by rfl) (OwnC.nil _ _ _) ⟨lb,lo,none⟩ lc (l.map iv) (by rw[List.length_map];rfl) (ints_news HLI.out.1) (iv_one l) (by simp;have:=HLR.out;omega) (by simp) ?_);intro cv w4 q1 q2 q3)
   have hB4:Below W1.heap.size W1 w4:=below_grown (sv:=.slice none 0 0) (Below.refl _ _) q2 (fun k hk=>by simp[Value.ownBlock]at hk)
   rw[List.nil_append]at q1
   have HQ1:Hid _:=q1
   obtain⟨ca2,cc2,hcv,-⟩:=q1.cells
   rw[List.length_map]at hcv
   have hr4:=HLI.out.2.below hB4
   have HR4:Hid (Ints w4 (some ⟨rb,ro,none⟩) r∧Below W1.heap.size W1 w4):=⟨hr4,hB4⟩
   subst hcv
   clear q1 q2 q3 hr4 hB4
   go_upto_region 17 with(at_builtin;go_must (refine wpList_append_C (by rfl) _ _ 29 3 _ 8 info_int (by rfl) (by decide) (by kernel_rfl) (by rfl) W1.heap.size _ _ (by rfl) HQ1.out ⟨rb,ro,none⟩ rc (r.map iv) (by rw[List.length_map];rfl) (ints_news HR4.out.1) (iv_one r) (by simp;have:=HLR.out;omega) HR4.out.2.size ?_);intro cv5 w5 q1 q2 q3)
   have hB5:Below W1.heap.size W1 w5:=below_grown (w:=W1) HR4.out.2 q2 fun k hk=>(owns_block HQ1.out hk).1
   obtain⟨ca5,cc5,hcv,hc5⟩:=q1.cells
   rw[List.length_append,List.length_map,List.length_map]at hcv
   rw[←List.map_append]at hc5
   obtain⟨g,o,rfl,-,-⟩:=Ints.at (ns:=l++r) hc5 (i:=0) (by rw[List.length_append];have:=HLR.out;omega)
   subst hcv
   have HI5:Hid (Ints w5 (some ⟨g,o,none⟩) (l++r)∧Below w.heap.size w w5∧TyI w5 (some ⟨g,o,none⟩)):=⟨hc5,below_then HB1.out hB5,own_ty q1⟩
   clear q1 q2 q3 hB5 hc5
   go_wp2
   exact bodyPost_ret (v:=.slice (some ⟨g,o,none⟩) (l.length+r.length) cc5) (by simp[results,Tryz.results45,go_sem]) rfl ⟨HI5.out.2.1,g,o,cc5,by rw[List.length_append],HI5.out.1,HI5.out.2.2⟩
  obtain rfl:R=none:=by rw[←HR2.out,if_pos hk01,if_neg h12]
  have j2:((l.length:Int)+(r.length:Int)>12):=by omega
  clear HR2 hl1 hr1 h12 hk2 hk01
  go_wp2
  exact bodyPost_ret (v:=.slice none 0 0) (by simp[results,Tryz.results45,go_sem]) rfl ⟨HB1.out,rfl⟩
end Go.Proofs.YtkgibdjakgmmcaaGreatDoor
