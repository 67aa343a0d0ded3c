/- The document's type of an expression is the program's; the document's small functions of plans. -/
import Derived.Test.YtkgibdjakgmmcaaGreatDoorVk
import Derived.Test.YtkgibdjakgmmcaaGreatDoorVl
set_option maxHeartbeats 1000000
set_option maxRecDepth 100000
namespace Go.Proofs.YtkgibdjakgmmcaaGreatDoor
open Go.RowKit Go.Shelf
attribute [local go_sem] Oper.semAt_some
theorem rty_eq {sch T:List Int}(hT:∀ t∈T,1≤t∧t≤3)(p:Pt):rty sch T p=(ptO sch T p).getD 0:=by
 unfold rty ptO
 by_cases hn:p.op<0
 ·rw[if_pos hn,if_neg (by omega)];rfl
 rw[if_neg hn]
 have pos:∀ i x,tyI T i=some x→1≤x∧x≤3:=fun i x h=>tyI_in hT h
 by_cases h11:p.op≤11
 ·rw[if_pos (show 0≤p.op∧p.op≤11 from ⟨by omega,h11⟩)]
  unfold ptT
  by_cases h0:p.op=0
  ·rw[if_pos h0,if_pos h0]
  rw[if_neg h0,if_neg h0]
  by_cases h1:p.op=1
  ·rw[if_pos h1,if_pos h1]
  rw[if_neg h1,if_neg h1]
  unfold rTy
  rcases hl:tyI T p.l with _|l
  ·rcases hr:tyI T p.r with _|r
   all_goals
    simp only[shI,isI,Option.getD_none,Option.getD_some,Option.map_none]
    by_cases h5:p.op≤5
    ·simp[h5]
    by_cases h7:p.op≤7
    ·simp[h5,h7]
    by_cases h9:p.op≤9
    ·simp[h5,h7,h9]
    by_cases h10:p.op=10
    ·simp[h10]
    simp[h5,h7,h9,h10]
  have pl:=pos _ _ hl
  have p0:0<l:=by omega
  rcases hr:tyI T p.r with _|r
  ·simp only[shI,isI,Option.getD_none,Option.getD_some,Option.map_none,Option.map_some]
   by_cases h5:p.op≤5
   ·simp[h5]
   by_cases h7:p.op≤7
   ·simp[h5,h7];omega
   by_cases h9:p.op≤9
   ·simp[h5,h7,h9]
   by_cases h10:p.op=10
   ·simp only[h10]
    by_cases e:l=2<;>simp[e]
   have h11':p.op=11:=by omega
   simp[h11',p0]
  have pr:=pos _ _ hr
  have hsh:shI (some l) (some r)=if l=r then some l else none:=rfl
  simp only[hsh,isI,Option.getD_some,Option.map_some]
  by_cases h5:p.op≤5
  ·simp only[h5,if_true]
   by_cases e:l=r
   ·subst e;by_cases e1:l=1<;>simp[e1]
   rw[if_neg e,if_neg (by omega)];simp
  by_cases h7:p.op≤7
  ·simp only[h5,h7,if_true,if_false]
   by_cases e:l=r
   ·subst e;simp[p0]
   rw[if_neg e,if_neg (by omega)];simp
  by_cases h9:p.op≤9
  ·simp only[h5,h7,h9,if_true,if_false]
   by_cases e:l=r
   ·subst e;by_cases e1:l=2<;>simp[e1]
   rw[if_neg e,if_neg (by omega)];simp
  by_cases h10:p.op=10
  ·simp only[h10]
   by_cases e:l=2<;>simp[e]
  have h11':p.op=11:=by omega
  simp[h11',p0]
 rw[if_neg (by omega),if_neg (by omega),if_neg (by omega)]
 unfold rTy
 rw[if_neg (by omega),if_neg (by omega),if_neg (by omega),if_neg (by omega),if_neg (by omega)]
 rfl
theorem rtys_pre {sch:List Int}:∀ (es:List Pt) (T:List Int) (t:Int),t∈T→t∈rtys sch T es
 |[],_,_,h=>h
 |p::ps,T,t,h=>rtys_pre ps (T++[rty sch T p]) t (List.mem_append_left _ h)
theorem rtys_some {sch:List Int}(hs:∀ t∈sch,1≤t∧t≤3):∀ (es:List Pt) (T:List Int),(∀ t∈T,1≤t∧t≤3)→(match ptsT sch T es with
  |some R=>rtys sch T es=R
  |none=>(0:Int)∈rtys sch T es)
 |[],T,_=>rfl
 |p::ps,T,hT=>by
  unfold ptsT
  have he:=rty_eq (sch:=sch) hT p
  cases hp:ptO sch T p with
  |none=>
   rw[hp]at he
   show (0:Int)∈rtys sch (T++[rty sch T p]) ps
   exact rtys_pre ps _ 0 (List.mem_append_right _ (by rw[he];simp))
  |some t=>
   rw[hp]at he
   have:=rtys_some hs ps (T++[t]) (fun x hx=>by
    rcases List.mem_append.1 hx with hx|hx
    ·exact hT x hx
    rw[List.mem_singleton]at hx;subst hx;exact ptO_in hs hp)
   show match ptsT sch (T++[t]) ps with
    |some R=>rtys sch (T++[rty sch T p]) ps=R
    |none=>(0:Int)∈rtys sch (T++[rty sch T p]) ps
   rw[he]
   exact this
theorem rExpr_size (a:Option Addr)(n pc:Nat)(cv:Value)(w:World)(hn:¬ (1≤n∧n≤12)) :
  Calls Tryz.prog 43 #[.slice a n pc,cv] w fun e w'=>e=.returned (.int .i64 0)∧Below w.heap.size w w':=by
 by_cases h0:n=0
 ·subst h0
  clear hn
  go_enter Tryz.func43,Tryz.ntmps43
  go_wp2
  exact bodyPost_ret (v:=.int .i64 0) (by simp[results,Tryz.results43,go_sem]) rfl ⟨rfl,Below.refl _ _⟩
 have h1:(n:Int)≠0:=by omega
 have h2:(12:Int)<(n:Int):=by omega
 clear hn h0
 go_enter Tryz.func43,Tryz.ntmps43
 go_wp2
 exact bodyPost_ret (v:=.int .i64 0) (by simp[results,Tryz.results43,go_sem]) rfl ⟨rfl,Below.refl _ _⟩
theorem rExpr_in (pb po pc:Nat)(es:List Pt)(ca:Option Addr)(cc:Nat)(sch:List Int)(w:World)
  (hP:∀ k p,es[k]?=some p→PartAt w pb (po+k*7) p) (hC:Ints w ca sch) (hs:SchOk sch) (h1:1≤es.length) (h12:es.length≤12) :
  Calls Tryz.prog 43 #[.slice (some ⟨pb,po,none⟩) es.length pc,.slice ca sch.length cc] w fun e w'=>e=.returned (.int .i64 ((typX sch es).getD 0))∧Below w.heap.size w w':=by
 have hty:=rTypes_any pb po pc es ca cc sch w hP hC hs.1.1 hs.1.2 h12
 have hrs:=rtys_some hs.2 es [] (fun t ht=>by cases ht)
 have hlen:=rtys_len sch es []
 rw[List.length_nil,Nat.zero_add]at hlen
 obtain⟨R,hR⟩:∃ R,(typX sch es).getD 0=R:=⟨_,rfl⟩
 rw[hR]
 have hRR:((∀ t∈rtys sch [] es,t≠0)→R=(rtys sch [] es).getD (es.length-1) 0)∧((0:Int)∈rtys sch [] es→R=0):=by
  rw[←hR]
  unfold typX
  rw[if_pos ⟨h1,h12⟩]
  cases hp:ptsT sch [] es with
  |none=>
   rw[hp]at hrs
   exact⟨fun h=>absurd rfl (h 0 hrs),fun _=>rfl⟩
  |some T=>
   rw[hp]at hrs
   have hin:=ptsT_in hs.2 es [] T (fun t ht=>by cases ht) hp
   simp only at hrs
   rw[hrs]
   exact⟨fun _=>rfl,fun h=>by have:=hin.1 0 h;omega⟩
 generalize rtys sch [] es=T at hty hrs hlen hRR
 have HT:Hid (T.length=es.length∧(((∀ t∈T,t≠0)→R=T.getD (es.length-1) 0)∧((0:Int)∈T→R=0))):=⟨hlen,hRR⟩
 obtain⟨n,hn⟩:∃ n,n=es.length:=⟨_,rfl⟩
 have k1:(n:Int)≠0:=by omega
 have k2:(n:Int)≤12:=by omega
 have k3:1≤n∧n≤12:=by omega
 have k4:((n:Int)==0)=false:=by simp;omega
 rw[←hn]at hty ⊢
 rw[←hn]at HT
 clear hrs hlen hRR hR hP hC hs h1 h12 hn
 go_enter Tryz.func43,Tryz.ntmps43
 go_upto_region 5 with(go_at_call 66;refine hty.mono ?_;rintro e' W1 ⟨hb1,sv,rfl,hown⟩)
 obtain⟨sa,sc,hsv,hsc⟩:=hown.cells
 rw[List.length_map,HT.out.1]at hsv
 subst hsv
 have HI:Hid (Ints W1 sa T∧Below w.heap.size w W1):=⟨hsc,hb1⟩
 clear hown hsc hb1 hty
 go_loopw [6] (fun i wr=>∃ j:Nat,j≤n∧i=.int .i64 (j:Int)∧wr=W1∧∀ t∈T.take j,t≠0) (fun i _=>n-(intOf i).toNat)
 case atStart=>exact⟨0,Nat.zero_le _,rfl,rfl,by simp⟩
 case round=>
  obtain⟨j,hj,rfl,hwr,hdn⟩:=hrel
  have HD:Hid (∀ t∈T.take j,t≠0):=hdn
  rw[hwr]
  clear hdn hwr
  by_cases hlt:j<n
  ·have hjT:j<T.length:=by have:=HT.out.1;omega
   obtain⟨b,o,rfl,_,hc⟩:=Ints.at (ns:=T) HI.out.1 hjT
   obtain⟨t,ht⟩:∃ t,t=T[j]:=⟨_,rfl⟩
   rw[←ht]at hc
   have HTJ:Hid (t∈T∧T.take (j+1)=T.take j++[t]∧j<n):=⟨by rw[ht];exact List.getElem_mem _,by rw[ht];exact List.take_succ_eq_append_getElem hjT,hlt⟩
   have i1:(0:Int)≤(j:Int):=by omega
   have i2:(j:Int)<(n:Int):=by omega
   clear ht hlt hjT
   by_cases h0:t=0
   ·subst h0
    obtain rfl:R=0:=HT.out.2.2 HTJ.out.1
    go_wp2
    exact bodyPost_ret (v:=.int .i64 0) (by simp[results,Tryz.results43,go_sem]) rfl ⟨rfl,HI.out.2⟩
   have HT0:Hid (t≠0):=h0
   go_wp2
   go_roundw
   case rel=>exact⟨j+1,HTJ.out.2.2,by have:=HTJ.out.2.2;go_num,(by first|rfl|trivial),fun x hx=>by
    rw[HTJ.out.2.1]at hx
    rcases List.mem_append.1 hx with hx|hx
    ·exact HD.out x hx
    rw[List.mem_singleton]at hx;rw[hx];exact HT0.out⟩
   case measure=>have:=HTJ.out.2.2;simp[intOf];omega
  have hje:j=n:=by omega
  have hall:∀ t∈T,t≠0:=fun t ht=>HD.out t (by rw[hje,←HT.out.1,List.take_length];exact ht)
  have hRe:=HT.out.2.1 hall
  obtain⟨m,hm⟩:∃ m,n=m+1:=⟨n-1,by omega⟩
  have hmT:m<T.length:=by have:=HT.out.1;omega
  obtain⟨b,o,rfl,_,hc⟩:=Ints.at (ns:=T) HI.out.1 hmT
  have hRm:T[m]=R:=by rw[hRe,hm,Nat.add_sub_cancel,List.getD_eq_getElem?_getD,List.getElem?_eq_getElem hmT];rfl
  rw[hRm]at hc
  have hsub:IntKind.i64.wrap ((n:Int)-1)=(m:Int):=by rw[IntKind.wrap_i64];omega
  have i1:(0:Int)≤(m:Int):=by omega
  have i2:(m:Int)<(n:Int):=by omega
  have i3:¬ ((j:Int)<(n:Int)):=by omega
  clear hall hRe hRm hmT hm hje hlt hj
  go_wp2
  exact bodyPost_ret (v:=.int .i64 R) (by simp[results,Tryz.results43,go_sem]) rfl ⟨rfl,HI.out.2⟩
theorem rExpr_any (a:Option Addr)(pc:Nat)(es:List Pt)(ca:Option Addr)(cc:Nat)(sch:List Int)(w:World)(hP:PtsIn w a es)(hC:Ints w ca sch)(hs:SchOk sch) :
  Calls Tryz.prog 43 #[.slice a es.length pc,.slice ca sch.length cc] w fun e w'=>e=.returned (.int .i64 ((typX sch es).getD 0))∧Below w.heap.size w w':=by
 by_cases h:1≤es.length∧es.length≤12
 ·obtain⟨pb,po,rfl,_⟩:=hP 0 _ (List.getElem?_eq_getElem (by omega))
  exact rExpr_in pb po pc es ca cc sch w (fun k p hk=>by obtain⟨b,o,e,h⟩:=hP k p hk;cases e;exact h) hC hs h.1 h.2
 unfold typX
 rw[if_neg h]
 exact rExpr_size a es.length pc _ w h
theorem rAt_any (a:Option Addr)(cap:Nat)(ts:List Int)(i:Int)(w:World)(h:Ints w a ts) :
  Calls Tryz.prog 48 #[.slice a ts.length cap,.int .i64 i] w fun e w'=>e=.returned (.int .i64 ((tyI ts i).getD 0))∧w'=w:=by
 by_cases hi:0≤i∧i<ts.length
 ·obtain⟨k,rfl⟩:∃ k:Nat,i=(k:Int):=⟨i.toNat,by omega⟩
  have hk:k<ts.length:=by omega
  obtain⟨b,o,rfl,hb,hc⟩:=h.at hk
  have ht:(tyI ts (k:Int)).getD 0=ts[k]:=by
   unfold tyI
   rw[if_pos hi,Int.toNat_natCast,List.getD_eq_getElem?_getD,List.getElem?_eq_getElem hk]
   rfl
  rw[ht]
  generalize ts[k]=t at hc ⊢
  have i1:(0:Int)≤(k:Int):=by omega
  have i2:(k:Int)<(ts.length:Int):=by omega
  clear ht h hi
  go_enter Tryz.func48,Tryz.ntmps48
  go_wp2
  exact bodyPost_ret (v:=.int .i64 t) (by simp[results,Tryz.results48,go_sem]) rfl ⟨rfl,rfl⟩
 have ht:(tyI ts i).getD 0=0:=by unfold tyI;rw[if_neg hi];rfl
 rw[ht]
 clear h ht
 by_cases h0:i<0
 ·clear hi
  go_enter Tryz.func48,Tryz.ntmps48
  go_wp2
  exact bodyPost_ret (v:=.int .i64 0) (by simp[results,Tryz.results48,go_sem]) rfl ⟨rfl,rfl⟩
 have h1:(0:Int)≤i:=by omega
 have h2:(ts.length:Int)≤i:=by omega
 clear hi h0
 go_enter Tryz.func48,Tryz.ntmps48
 go_wp2
 exact bodyPost_ret (v:=.int .i64 0) (by simp[results,Tryz.results48,go_sem]) rfl ⟨rfl,rfl⟩
theorem rKeys_any (nd:Nd)(w:World):Calls Tryz.prog 47 #[nd.val] w fun e w'=>e=.returned (.bool (decide (1≤nd.ky.2.1∧nd.ky.2.1≤4)))∧Below w.heap.size w w':=by
 have hbb:Below w.heap.size w (ndBox w nd):=below_alloc (Below.refl _ _) _
 obtain⟨_,_,_,_,_,n5,_⟩:=ndBox_at w nd
 rw[Nat.zero_add]at n5
 generalize nd.ky.2.1=n at n5 ⊢
 by_cases h1:1≤n
 ·have k1:(1:Int)≤(n:Int):=by omega
  by_cases h4:n≤4
  ·have k4:(n:Int)≤4:=by omega
   rw[decide_eq_true ⟨h1,h4⟩]
   clear h1 h4
   go_enter Tryz.func47,Tryz.ntmps47
   go_wp2
   exact bodyPost_ret (v:=.bool true) (by simp[results,Tryz.results47,go_sem]) rfl ⟨rfl,hbb⟩
  have k4:(4:Int)<(n:Int):=by omega
  rw[decide_eq_false fun h=>h4 h.2]
  clear h1 h4
  go_enter Tryz.func47,Tryz.ntmps47
  go_wp2
  exact bodyPost_ret (v:=.bool false) (by simp[results,Tryz.results47,go_sem];omega) rfl ⟨rfl,hbb⟩
 have k1:(n:Int)<1:=by omega
 rw[decide_eq_false fun h=>h1 h.1]
 clear h1
 go_enter Tryz.func47,Tryz.ntmps47
 go_wp2
 exact bodyPost_ret (v:=.bool false) (by simp[results,Tryz.results47,go_sem]) rfl ⟨rfl,hbb⟩
theorem rSame_any (a b:Option Addr)(ac bc:Nat)(l r:List Int)(w:World)(hl:Ints w a l)(hr:Ints w b r)(hn:l.length≤1000000) :
  Calls Tryz.prog 49 #[.slice a l.length ac,.slice b r.length bc] w fun e w'=>e=.returned (.bool (decide (l=r)))∧Below w.heap.size w w':=by
 by_cases hlen:l.length=r.length
 rotate_left
 ·have k1:¬ ((l.length:Int)=(r.length:Int)):=by omega
  rw[decide_eq_false fun e=>hlen (by rw[e])]
  clear hl hr hn hlen
  go_enter Tryz.func49,Tryz.ntmps49
  go_wp2
  go_ret
  exact⟨rfl,Below.refl _ _⟩
 have HLN:Hid (l.length=r.length):=hlen
 obtain⟨n,hn'⟩:∃ n,n=l.length:=⟨_,rfl⟩
 rw[←hlen,←hn']
 have HN:Hid (n=l.length):=hn'
 have HL:Hid (∀ X,Below w.heap.size w X→Ints X a l∧Ints X b r):=fun X hX=>⟨hl.below hX,hr.below hX⟩
 have hn1:n≤1000000:=by omega
 obtain⟨R,hR⟩:∃ R,R=decide (l=r):=⟨_,rfl⟩
 rw[←hR]
 have HR:Hid (R=decide (l=r)):=hR
 clear hl hr hlen hn' hn hR
 go_enter Tryz.func49,Tryz.ntmps49
 go_upto_region 4 with fail
 go_loopw [5] (fun i wr=>∃ j:Nat,j≤n∧i=.int .i64 (j:Int)∧Below w.heap.size w wr∧l.take j=r.take j) (fun i _=>n-(intOf i).toNat)
 case atStart=>exact⟨0,Nat.zero_le _,rfl,Below.refl _ _,rfl⟩
 case round=>
  obtain⟨j,hj,rfl,hbw,htk⟩:=hrel
  have HB:Hid (Below w.heap.size w wr∧l.take j=r.take j):=⟨hbw,htk⟩
  clear htk
  by_cases hlt:j<n
  ·have hjl:j<l.length:=by have:=HN.out;omega
   have hjr:j<r.length:=by have:=HN.out;have:=HLN.out;omega
   obtain⟨b1,o1,rfl,_,q1⟩:=(HL.out wr hbw).1.at hjl
   obtain⟨b2,o2,rfl,_,q2⟩:=(HL.out wr hbw).2.at hjr
   have HG:Hid (∀ (x y:Int),l[j]?=some x→r[j]?=some y→(R=true→x=y)∧(x=y→l.take (j+1)=r.take (j+1))):=fun x y hx hy=>⟨fun h=>by
    have:l=r:=by have:=HR.out;rw[h]at this;exact of_decide_eq_true this.symm
    rw[this,hy]at hx
    cases hx
    rfl,fun h=>by
    rw[List.take_add_one,List.take_add_one,HB.out.2,hx,hy,h]⟩
   have hgx:=HG.out l[j] r[j] (List.getElem?_eq_getElem hjl) (List.getElem?_eq_getElem hjr)
   generalize l[j]=x at q1 hgx
   generalize r[j]=y at q2 hgx
   have HX:Hid ((R=true→x=y)∧(x=y→l.take (j+1)=r.take (j+1))):=hgx
   have i1:(0:Int)≤(j:Int):=by omega
   have i2:(j:Int)<(n:Int):=by omega
   have HJ:Hid (j<n):=hlt
   clear hgx HG hbw
   go_upto_region 6 with fail
   refine wp_region_held_drew (S:=fun X=>X.cell? ⟨b1,o1+j,none⟩=some (.int .i64 x)∧X.cell? ⟨b2,o2+j,none⟩=some (.int .i64 y)) (by kernel_rfl) ⟨cell_drew q1,cell_drew q2⟩ (fun hH=>?_)
   refine tkj 0 rfl hH ?_
   refine tkj 1 rfl hH ?_
   refine tkj 2 rfl hH ?_
   refine tkj 3 rfl hH ?_
   refine tkj 4 rfl hH ?_
   refine tkj 5 rfl hH ?_
   refine tkj 6 rfl hH ?_
   refine tkj 7 rfl hH ?_
   refine tkj 8 rfl hH ?_
   refine tkn ?_
   refine wpAnyH_done (by kernel_rfl) ?_ _
   clear q1 q2
   by_cases hxy:x=y
   ·subst hxy
    go_wp2
    go_roundw
    case rel=>exact⟨j+1,HJ.out,by have:=HJ.out;go_num,drew_below HB.out.1,HX.out.2 rfl⟩
    case measure=>have:=HJ.out;simp[intOf];omega
   obtain rfl:R=false:=by
    cases hR:R with
    |false=>rfl
    |true=>exact absurd (HX.out.1 hR) hxy
   go_wp2
   go_ret
   exact⟨rfl,drew_below HB.out.1⟩
  obtain rfl:R=true:=by
   rw[HR.out]
   refine decide_eq_true ?_
   have h:=HB.out.2
   rwa [List.take_of_length_le (by have:=HN.out;omega),List.take_of_length_le (by have:=HN.out;have:=HLN.out;omega)]at h
  have k2:¬ ((j:Int)<(n:Int)):=by omega
  go_wp2
  go_ret
  exact⟨rfl,HB.out.1⟩
end Go.Proofs.YtkgibdjakgmmcaaGreatDoor
