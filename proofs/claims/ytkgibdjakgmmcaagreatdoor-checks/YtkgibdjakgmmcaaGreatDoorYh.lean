/- Plans that are right: the tables' types, the state of a check, take. -/
import Derived.Test.YtkgibdjakgmmcaaGreatDoorTp
set_option maxHeartbeats 1000000
set_option maxRecDepth 100000
namespace Go.Proofs.YtkgibdjakgmmcaaGreatDoor
open Go.RowKit Go.Shelf
attribute [local go_sem] Oper.semAt_some
theorem tTypes_ok (n:ByteArray)(w:World)(G:Nat→Prop)(s d:Nat)(Ts:List TS)(sv:Value)(bs:List Nat)(h:SetX w G s d Ts sv bs)(k:Nat)(hk:findI Ts n=k)(hlt:k<Ts.length)(hne:Ts[k].types≠[])(hl:Ts[k].types.length≤1000) :
  Calls Tryz.prog 21 #[.pointer (some ⟨s,0,none⟩),.string n] w fun e w'=>Below w.heap.size w w'∧∃ g c,e=.returned (.tuple #[.slice (some ⟨g,0,none⟩) Ts[k].types.length c,.bool true])∧w.heap.size≤g∧g<w'.heap.size∧Ints w' (some ⟨g,0,none⟩) Ts[k].types:=by
 have hf:=tFind_any n w G s d Ts sv bs h
 have hfv:findV Ts n=(k:Int):=by unfold findV;rw[hk,if_pos hlt]
 rw[hfv]at hf
 obtain⟨b,o,hse,c2,ht⟩:=h.at hlt
 obtain⟨_,c1⟩:=h.field
 obtain⟨a,cap,hsv,_⟩:=h.own.cells
 rw[List.length_map,h.len]at hsv
 subst hsv
 simp at hse
 subst hse
 have hfew:=h.few
 generalize bs[k]'_=tk at c2 ht
 generalize Ts[k]=T at ht hne hl ⊢
 obtain⟨ta,tc,sa,sc,hs,hx⟩:=ht
 have hty:=hx.types
 have c3:w.cell? ⟨tk,1,none⟩=some (.slice ta T.types.length tc):=by simp[World.cell?,hx.cells]
 obtain⟨b2,o2,rfl,_,_⟩:=Ints.at hty (i:=0) (List.length_pos_iff.2 hne)
 have hcl:=fun W (hb:Below w.heap.size w W)=>cloneInts_any b2 o2 tc T.types W hne hl (hty.below hb)
 have i1:(0:Int)≤(k:Int):=by omega
 have i2:(k:Int)<(Ts.length:Int):=by omega
 have HHC:Hid _:=hcl
 clear hx hty hk hfv h hcl
 go_enter Tryz.func21,Tryz.ntmps21
 go_wp2_with (first|(go_at_call 35;refine hf.mono ?_;rintro e W1 ⟨rfl,hb1⟩;have d1:=cell_below hb1 c1;have d2:=cell_below hb1 c2;have d3:=cell_below hb1 c3)|(go_at_call 36;refine(HHC.out W1 hb1).mono ?_;rintro e W2 ⟨hb2,g,gc,rfl,hg1,hg2,hg3⟩))
 go_ret2
 exact⟨below_then hb1 hb2,g,gc,rfl,Nat.le_trans hb1.size hg1,hg2,hg3⟩
abbrev Sch:=Option Addr×Nat×List Int
abbrev schV (s:Sch):Value:=.slice s.1 s.2.2.length s.2.1
abbrev Kn:=Sch×Bool
def knC (k:Kn):List Value:=[schV k.1,.bool k.2]
theorem knC_len (k:Kn):(knC k).length=2:=rfl
structure ChkS (L cb:Nat) (tf ev:Value) (ks:List Kn) (W:World):Prop where
 ck:W.heap[cb]?=some (.cells #[tf,ev] 139 (0,0))
 own:W.ownsRow L 142 2 ev ks.length (ks.flatMap knC)
 ints:∀ k∈ks,Ints W k.1.1 k.1.2.2
 off:∀ k∈ks,∀ g o,k.1.1=some ⟨g,o,none⟩→ev.ownBlock≠some g∧g≠cb∧g<W.heap.size
 low:cb<L
theorem ChkS.below {L cb:Nat}{tf ev:Value}{ks:List Kn}{W W':World}(h:ChkS L cb tf ev ks W)(hb:Below W.heap.size W W'):ChkS L cb tf ev ks W':=
 ⟨(hb.block _ (lt_of_heap h.ck)).trans h.ck,owns_of_block h.own fun g e=>hb.block g (owns_block h.own e).2,fun k hk=>(h.ints k hk).below hb,fun k hk g o e=>⟨(h.off k hk g o e).1,(h.off k hk g o e).2.1,Nat.lt_of_lt_of_le (h.off k hk g o e).2.2 hb.size⟩,h.low⟩
theorem ChkS.cells {L cb:Nat}{tf ev:Value}{ks:List Kn}{W:World}(h:ChkS L cb tf ev ks W):W.cell? ⟨cb,0,none⟩=some tf∧W.cell? ⟨cb,1,none⟩=some ev:=by
 have:=h.ck
 constructor<;>simp[World.cell?,this]
theorem ChkS.at {L cb:Nat}{tf ev:Value}{ks:List Kn}{W:World}(h:ChkS L cb tf ev ks W){i:Nat}(hi:i<ks.length) :
  ∃ g cap,ev=.slice (some ⟨g,0,none⟩) ks.length cap∧g≠cb∧g<W.heap.size∧W.cell? ⟨g,i*2,none⟩=some (schV ks[i].1)∧W.cell? ⟨g,i*2+1,none⟩=some (.bool ks[i].2)∧W.frozen? ⟨g,i*2+1,none⟩=false ∧
   (∀ b,ChkS L cb tf ev (ks.set i (ks[i].1,b)) (W.setCell ⟨g,i*2+1,none⟩ (.bool b))):=by
 have hl:=h.low
 rcases h.own with⟨h0,⟨h1,h2⟩|⟨g,cap,cur,h1,h2,h3,h4,h5,h6,h7⟩⟩
 ·omega
 have hg:∀ j,j<2→cur[i*2+j]?=(knC ks[i])[j]?:=fun j hj=>by
  have:=flat_get knC 2 knC_len ks i j ks[i] (List.getElem?_eq_getElem hi) hj
  rw[←h7,List.getElem?_take,if_pos (by omega),Array.getElem?_toList]at this
  exact this
 refine⟨g,cap,h1,by omega,lt_of_heap h3,?_,?_,?_,fun b=>?_⟩
 ·have:=hg 0 (by omega)
  simp[World.cell?,h3]
  simpa [knC] using this
 ·have:=hg 1 (by omega)
  simp[World.cell?,h3]
  simpa [knC] using this
 ·simp[World.frozen?,h3]
 have hs:=heap_set h3 (i*2+1) (.bool b)
 have hoth:∀ k,k≠g→(W.setCell ⟨g,i*2+1,none⟩ (.bool b)).heap[k]?=W.heap[k]?:=fun k hk=>Below.heap_setCell _ _ _ _ hk
 have hin:∀ k∈ks.set i (ks[i].1,b),∃ k'∈ks,k.1=k'.1:=fun k hk=>by
  rcases List.mem_or_eq_of_mem_set hk with h|h
  ·exact⟨k,h,rfl⟩
  exact⟨ks[i],List.getElem_mem hi,by rw[h]⟩
 have hob:ev.ownBlock=some g:=by rw[h1];rfl
 have hfl:(ks.set i (ks[i].1,b)).flatMap knC=(ks.flatMap knC).set (i*2+1) (.bool b):=by
  have e1:ks=ks.take i++ks[i]::ks.drop (i+1):=by rw[←List.drop_eq_getElem_cons hi,List.take_append_drop]
  have e2:ks.set i (ks[i].1,b)=ks.take i++(ks[i].1,b)::ks.drop (i+1):=by
   rw[List.set_eq_take_append_cons_drop,if_pos hi]
  have hlen:((ks.take i).flatMap knC).length=i*2:=by rw[flat_len knC 2 knC_len,List.length_take,Nat.min_eq_left (by omega)]
  rw[e2,List.flatMap_append,List.flatMap_cons]
  conv=>rhs;rw[e1,List.flatMap_append,List.flatMap_cons]
  rw[List.set_append_right _ _ (by rw[hlen];omega),hlen,show i*2+1-i*2=1 by omega]
  rfl
 refine⟨(hoth cb (by omega)).trans h.ck,⟨?_,.inr ⟨g,cap,cur.setIfInBounds (i*2+1) (.bool b),?_,h2,hs,?_,h5,?_,?_⟩⟩,fun k hk=>?_,fun k hk g' o e=>?_,hl⟩
 ·rw[hfl,List.length_set,List.length_set];exact h0
 ·rw[List.length_set];exact h1
 ·rw[List.length_set];exact h4
 ·simpa using h6
 ·rw[hfl,←h7,List.length_set,Array.toList_setIfInBounds,List.take_set]
 ·obtain⟨k',hk',e⟩:=hin k hk
  rw[e]
  exact(h.ints k' hk').of_block (by simp[World.setCell]) fun b' o' e' _=>hoth b' fun hb=>(h.off k' hk' b' o' e').1 (by rw[hob,hb])
 obtain⟨k',hk',e2⟩:=hin k hk
 rw[e2]at e
 have:=h.off k' hk' g' o e
 exact⟨this.1,this.2.1,by simpa [World.setCell] using this.2.2⟩
theorem pTake_ok (L cb:Nat)(tf ev:Value)(ks:List Kn)(i:Nat)(W:World)(h:ChkS L cb tf ev ks W)(hi:i<ks.length)(hn:ks[i].2=false) :
  Calls Tryz.prog 123 #[.pointer (some ⟨cb,0,none⟩),.int .i64 (i:Int)] W fun e W'=>e=.returned (.tuple #[schV ks[i].1,.nilIface])∧ChkS L cb tf ev (ks.set i (ks[i].1,true)) W'∧W.grownBy W' ev.ownBlock∧W'.heap.size=W.heap.size:=by
 obtain⟨g,cap,rfl,hgc,hgl,z0,z1,z2,hset⟩:=h.at hi
 obtain⟨_,c1⟩:=h.cells
 have hset:=hset true
 have HS:Hid _:=hset
 have hoc:(W.setCell ⟨g,i*2+1,none⟩ (.bool true)).cell? ⟨cb,1,none⟩=some (.slice (some ⟨g,0,none⟩) ks.length cap):=cell_other (fun e=>hgc (congrArg Addr.block e)) c1
 have hoz:(W.setCell ⟨g,i*2+1,none⟩ (.bool true)).cell? ⟨g,i*2,none⟩=some (schV ks[i].1):=cell_other (fun e=>by have:=congrArg Addr.off e;simp at this) z0
 generalize ks[i].1=s at z0 hoz HS ⊢
 rw[hn]at z1
 have i1:(0:Int)≤(i:Int):=by omega
 have i2:(i:Int)<(ks.length:Int):=by omega
 clear hset hn h
 go_enter Tryz.func123,Tryz.ntmps123
 go_wp2
 exact bodyPost_ret (v:=.tuple #[schV s,.nilIface]) (by simp[results,Tryz.results123,go_sem]) rfl ⟨rfl,HS.out,grown_set ⟨rfl,rfl,rfl,Nat.le_refl _,fun _ _ _=>rfl⟩ _ _,by simp[World.setCell]⟩
attribute [local go_sem] Oper.semAt_some
def NodeP (L cb:Nat)(tf ev:Value)(ks':List Kn)(sch:List Int)(W:World):Ending→World→Prop:=fun e W'=>
 ∃ (a:Option Addr) (c:Nat),e=.returned (.tuple #[schV (a,c,sch),.nilIface])∧ChkS L cb tf ev ks' W'∧W.grownBy W' ev.ownBlock∧Ints W' a sch∧∀ g o,a=some ⟨g,o,none⟩→ev.ownBlock≠some g∧g≠cb∧g<W'.heap.size∧(W.heap.size≤g∨∃ k∈ks',k.1.1=some ⟨g,o,none⟩)
abbrev ndBox (w:World)(nd:Nd):World:=(w.alloc (.cells #[.int .i64 nd.op,.int .i64 nd.l,.int .i64 nd.r,.string nd.tn,.slice nd.xs.1 nd.xs.2.1 nd.xs.2.2,.slice nd.ky.1 nd.ky.2.1 nd.ky.2.2,.int .i64 nd.kk] 68))
theorem ndBox_at (w:World)(nd:Nd):NodeAt (ndBox w nd) w.heap.size 0 nd:=by
 have:=heap_alloc_new w (.cells #[.int .i64 nd.op,.int .i64 nd.l,.int .i64 nd.r,.string nd.tn,.slice nd.xs.1 nd.xs.2.1 nd.xs.2.2,.slice nd.ky.1 nd.ky.2.1 nd.ky.2.2,.int .i64 nd.kk] 68)
 refine⟨?_,?_,?_,?_,?_,?_,?_⟩<;>(unfold World.cell?;rw[this];rfl)
theorem pScan_ok (L cb s:Nat)(ev:Value)(ks:List Kn)(nd:Nd)(sch:List Int)(w:World)(h:ChkS L cb (.func (.func 21) #[.pointer (some ⟨s,0,none⟩)] #[]) ev ks w)
  (hty:∀ X,Below w.heap.size w X→Calls Tryz.prog 21 #[.pointer (some ⟨s,0,none⟩),.string nd.tn] X fun e w'=>Below X.heap.size X w'∧∃ g c,e=.returned (.tuple #[.slice (some ⟨g,0,none⟩) sch.length c,.bool true])∧X.heap.size≤g∧g<w'.heap.size∧Ints w' (some ⟨g,0,none⟩) sch) :
  Calls Tryz.prog 102 #[.pointer (some ⟨cb,0,none⟩),nd.val] w (NodeP L cb (.func (.func 21) #[.pointer (some ⟨s,0,none⟩)] #[]) ev ks sch w):=by
 have HTY:Hid _:=hty
 have HC:Hid _:=h
 obtain⟨c0,_⟩:=h.cells
 have hbb:Below w.heap.size w (ndBox w nd):=below_alloc (Below.refl _ _) _
 obtain⟨_,_,_,b3,_,_,_⟩:=ndBox_at w nd
 clear h hty
 go_enter Tryz.func102,Tryz.ntmps102
 go_upto_region 1 with fail
 refine wp_region_held_drew (S:=fun X=>X.cell? ⟨cb,0,none⟩=some (.func (.func 21) #[.pointer (some ⟨s,0,none⟩)] #[])∧X.cell? ⟨w.heap.size,3,none⟩=some (.string nd.tn)) (by kernel_rfl) ⟨cell_drew (cell_alloc c0),cell_drew b3⟩ (fun hH=>?_)
 refine tkj 0 rfl hH ?_
 refine tkj 1 rfl hH ?_
 refine tkj 2 rfl hH ?_
 refine tkj 3 rfl hH ?_
 refine tkj 4 rfl hH ?_
 refine tkj 5 rfl hH ?_
 refine tkn ?_
 refine tkr 6 rfl fun K hK=>?_
 go_simp
 refine(HTY.out (ndBox w nd).drew (below_drew1 hbb)).mono ?_
 rintro e X1 ⟨hx1,g,gc,rfl,hg1,hg2,hg3⟩
 go_simp
 refine hK.out _ _ ⟨cell_below hx1 hH.1,cell_below hx1 hH.2⟩ (fun hH=>?_)
 clear hK K
 refine tkj 7 rfl hH ?_
 refine tkj 8 rfl hH ?_
 refine tkj 9 rfl hH ?_
 refine tkj 10 rfl hH ?_
 refine tkj 11 rfl hH ?_
 refine tkn ?_
 refine wpAnyH_done (by kernel_rfl) ?_ _
 have hbx:Below w.heap.size w X1:=below_then (below_drew1 hbb) hx1
 have hgw:w.heap.size<g:=by have:(ndBox w nd).drew.heap.size=w.heap.size+1:=(by simp[World.drew]);omega
 clear hg1
 go_wp2
 refine bodyPost_ret (v:=.tuple #[schV (some ⟨g,0,none⟩,gc,sch),.nilIface]) (by simp[results,Tryz.results102,go_sem]) rfl ⟨some ⟨g,0,none⟩,gc,rfl,HC.out.below hbx,grown_below hbx,hg3,fun g' o e=>?_⟩
 cases e
 exact⟨fun e=>by have:=(owns_block HC.out.own e).2;omega,by have:=lt_of_heap HC.out.ck;omega,hg2,.inl (Nat.le_of_lt hgw)⟩
def chkF (op:Int):Nat:=if op=0 then 102 else if op=1 then 103 else if op=2 then 104 else if op=3 then 105 else if op=4 then 106 else if op=5 then 107 else if op=6 then 108 else 109
abbrev chkC (cb:Nat):Array Value:=#[.func (.func 102) #[.pointer (some ⟨cb,0,none⟩)] #[],.func (.func 103) #[.pointer (some ⟨cb,0,none⟩)] #[],.func (.func 104) #[.pointer (some ⟨cb,0,none⟩)] #[],.func (.func 105) #[.pointer (some ⟨cb,0,none⟩)] #[],.func (.func 106) #[.pointer (some ⟨cb,0,none⟩)] #[],.func (.func 107) #[.pointer (some ⟨cb,0,none⟩)] #[],.func (.func 108) #[.pointer (some ⟨cb,0,none⟩)] #[],.func (.func 109) #[.pointer (some ⟨cb,0,none⟩)] #[]]
theorem chkF_enter (op:Int)(args:Array Value)(W:World):(callFunc (chkF op) args).run Tryz.prog W=.ok (.enter (chkF op) args) W:=by
 unfold chkF
 repeat' split
 all_goals kernel_rfl
theorem chkC_at (cb n:Nat)(h1:n<8):(chkC cb)[n]?=some (.func (.func (chkF (n:Int))) #[.pointer (some ⟨cb,0,none⟩)] #[]):=by
 have:n=0∨n=1∨n=2∨n=3∨n=4∨n=5∨n=6∨n=7:=by omega
 rcases this with rfl|rfl|rfl|rfl|rfl|rfl|rfl|rfl<;>rfl
theorem pKinds_any (cb:Nat)(w:World):Calls Tryz.prog 81 #[.pointer (some ⟨cb,0,none⟩)] w fun e w'=>e=.returned (.agg (chkC cb))∧Below w.heap.size w w':=by
 have hsf:∀ (f:Nat) (a:Addr) (W:World),(store a (.func (.func f) #[.pointer (some ⟨cb,0,none⟩)] #[])).run Tryz.prog W=stored Tryz.prog W a (.func (.func f) #[.pointer (some ⟨cb,0,none⟩)] #[]) .plain:=fun f a W=>run_store _ _ _ _ _ rfl
 go_enter Tryz.func81,Tryz.ntmps81
 go_wp2
 exact bodyPost_ret (v:=.agg (chkC cb)) (by simp[results,Tryz.results81,go_sem]) rfl ⟨rfl,(by repeat (first|exact Below.refl _ _|refine below_alloc ?_ _|refine below_drew1 ?_))⟩
theorem pNode_ok (cb:Nat)(nd:Nd)(w:World)(Q:World→Value→World→Prop)(h0:0≤nd.op)(h7:nd.op≤7)
  (hnode:∀ X,Below w.heap.size w X→Calls Tryz.prog (chkF nd.op) #[.pointer (some ⟨cb,0,none⟩),nd.val] X fun e w'=>∃ a b,e=.returned (.tuple #[a,b])∧Q X (.tuple #[a,b]) w'∧X.heap.size≤w'.heap.size∧∀ k,w.heap.size≤k→k<X.heap.size→w'.heap[k]?=X.heap[k]?) :
  Calls Tryz.prog 59 #[.pointer (some ⟨cb,0,none⟩),nd.val] w fun e w'=>∃ X,Below w.heap.size w X∧∃ v,e=.returned v∧Q X v w':=by
 have HM:Hid _:=hnode
 clear hnode
 obtain⟨n,hn⟩:∃ n:Nat,nd.op=(n:Int):=⟨nd.op.toNat,by omega⟩
 have hn8:n<8:=by omega
 have HN:Hid (nd.op=(n:Int)):=hn
 clear hn h0 h7
 have hsf:∀ (f:Nat) (a:Addr) (X:World),(store a (.func (.func f) #[.pointer (some ⟨cb,0,none⟩)] #[])).run Tryz.prog X=stored Tryz.prog X a (.func (.func f) #[.pointer (some ⟨cb,0,none⟩)] #[]) .plain:=fun f a X=>run_store _ _ _ _ _ rfl
 have hbb:Below w.heap.size w (ndBox w nd):=below_alloc (Below.refl _ _) _
 have hq:=ndBox_at w nd
 have hkin:=pKinds_any cb (ndBox w nd)
 go_enter Tryz.func59,Tryz.ntmps59
 go_upto_region 2 with(go_at_call 81;refine hkin.mono ?_;rintro e W2 ⟨rfl,hb2⟩)
 have hn:=HN.out
 have hb3:Below W2.heap.size W2 (W2.alloc (.cells (chkC cb) 183)):=below_alloc (Below.refl _ _) _
 have hk3:=heap_alloc_new W2 (.cells (chkC cb) 183)
 have hq3:=(hq.below hb2).below hb3
 have hlow:Below w.heap.size w (W2.alloc (.cells (chkC cb) 183)):=below_then (below_then hbb hb2) hb3
 have hgw:w.heap.size<W2.heap.size:=Nat.lt_of_lt_of_le (by simp) hb2.size
 obtain⟨kb,hkb⟩:∃ kb,kb=W2.heap.size:=⟨_,rfl⟩
 rw[←hkb]at hk3 hgw ⊢
 clear hkb
 generalize W2.alloc (.cells (chkC cb) 183)=W3 at hk3 hq3 hlow ⊢
 obtain⟨z0,z1,z2,z3,z4,z5,z6⟩:=hq3
 simp only[Nat.zero_add]at z1 z2 z3 z4 z5 z6
 rw[hn]at z0
 have hkc:W3.cell? ⟨kb,n,none⟩=some (.func (.func (chkF nd.op)) #[.pointer (some ⟨cb,0,none⟩)] #[]):=by
  have:=chkC_at cb n hn8
  rw[←hn]at this
  rw[←this]
  simp only[World.cell?,hk3]
  rfl
 have hcf:=chkF_enter nd.op
 obtain⟨f,hf⟩:∃ f,f=chkF nd.op:=⟨_,rfl⟩
 rw[←hf]at hkc hcf HM
 rw[Nd.val,hn]at HM
 have k3:(0:Int)≤(n:Int):=by omega
 have k4:(n:Int)<8:=by omega
 have hkl:kb<W3.heap.size:=lt_of_heap hk3
 have hz0l:w.heap.size<W3.heap.size:=by have:=lt_of_cell z0;exact this
 clear hf hn hb3 hb2 hkin hq hk3 hbb hsf W2
 go_upto_region 4 with fail
 refine wp_region_held_drew (S:=fun X=>X.cell? ⟨w.heap.size,0,none⟩=some (.int .i64 (n:Int))∧X.cell? ⟨w.heap.size,1,none⟩=some (.int .i64 nd.l)∧X.cell? ⟨w.heap.size,2,none⟩=some (.int .i64 nd.r)∧X.cell? ⟨w.heap.size,3,none⟩=some (.string nd.tn)∧X.cell? ⟨w.heap.size,4,none⟩=some (.slice nd.xs.1 nd.xs.2.1 nd.xs.2.2)∧X.cell? ⟨w.heap.size,5,none⟩=some (.slice nd.ky.1 nd.ky.2.1 nd.ky.2.2)∧X.cell? ⟨w.heap.size,6,none⟩=some (.int .i64 nd.kk)∧X.cell? ⟨kb,n,none⟩=some (.func (.func f) #[.pointer (some ⟨cb,0,none⟩)] #[])) (by kernel_rfl) ⟨cell_drew z0,cell_drew z1,cell_drew z2,cell_drew z3,cell_drew z4,cell_drew z5,cell_drew z6,cell_drew hkc⟩ (fun hH=>?_)
 refine tkj 0 rfl hH ?_
 refine tkj 1 rfl hH ?_
 refine tkj 2 rfl hH ?_
 refine tkj 3 rfl hH ?_
 refine tkj 4 rfl hH ?_
 refine tkn ?_
 refine tkr 5 rfl fun K hK=>?_
 go_simp
 refine(HM.out W3.drew (below_drew1 hlow)).mono ?_
 rintro e X1 ⟨ra,rb,rfl,hQ,hxs,hxk⟩
 have hst:∀ (g o:Nat) (u:Value),w.heap.size≤g→g<W3.heap.size→W3.drew.cell? ⟨g,o,none⟩=some u→X1.cell? ⟨g,o,none⟩=some u:=fun g o u h1 h2 h3=>by
  rw[←h3]
  unfold World.cell?
  rw[show X1.heap[(⟨g,o,none⟩:Addr).block]?=W3.drew.heap[(⟨g,o,none⟩:Addr).block]? from hxk g h1 h2]
 go_simp
 refine hK.out _ _ ⟨hst _ _ _ (Nat.le_refl _) hz0l hH.1,hst _ _ _ (Nat.le_refl _) hz0l hH.2.1,hst _ _ _ (Nat.le_refl _) hz0l hH.2.2.1,hst _ _ _ (Nat.le_refl _) hz0l hH.2.2.2.1,hst _ _ _ (Nat.le_refl _) hz0l hH.2.2.2.2.1,hst _ _ _ (Nat.le_refl _) hz0l hH.2.2.2.2.2.1,hst _ _ _ (Nat.le_refl _) hz0l hH.2.2.2.2.2.2.1,hst _ _ _ (Nat.le_of_lt hgw) hkl hH.2.2.2.2.2.2.2⟩ (fun hH=>?_)
 clear hK K
 refine tkj 6 rfl hH ?_
 refine tkj 7 rfl hH ?_
 refine tkj 8 rfl hH ?_
 refine tkj 9 rfl hH ?_
 refine tkn ?_
 refine wpAnyH_done (by kernel_rfl) ?_ _
 go_wp2
 exact bodyPost_ret (v:=.tuple #[ra,rb]) (by simp[results,Tryz.results59,go_sem]) rfl ⟨_,below_drew1 hlow,_,rfl,hQ⟩
attribute [local go_sem] Oper.semAt_some
theorem node_grown {w W:World}{r:Option Nat}{g o:Nat}{nd:Nd}(h:NodeAt w g o nd)(hg:w.grownBy W r)(hr:r≠some g):NodeAt W g o nd:=by
 have hc:∀ o v,w.cell? ⟨g,o,none⟩=some v→W.cell? ⟨g,o,none⟩=some v:=fun o v hv=>by
  rw[←hv]
  unfold World.cell?
  rw[show W.heap[(⟨g,o,none⟩:Addr).block]?=w.heap[(⟨g,o,none⟩:Addr).block]? from hg.block g (by have:=lt_of_cell hv;exact this) (Ne.symm hr)]
 exact⟨hc _ _ h.1,hc _ _ h.2.1,hc _ _ h.2.2.1,hc _ _ h.2.2.2.1,hc _ _ h.2.2.2.2.1,hc _ _ h.2.2.2.2.2.1,hc _ _ h.2.2.2.2.2.2⟩
attribute [local go_sem] Oper.semAt_some
structure KsOk (scs:List (List Int)) (fl:Nat→Bool) (j:Nat) (ks:List Kn):Prop where
 len:ks.length=j
 sch:∀ (i:Nat) (k:Kn),ks[i]?=some k→scs[i]?=some k.1.2.2
 flg:∀ (i:Nat) (k:Kn),ks[i]?=some k→k.2=fl i
structure SchS (w:World) (tf nv0:Value) (scs:List (List Int)) (fl:Nat→Nat→Bool) (j:Nat) (ev sv:Value) (ks:List Kn) (W:World):Prop where
 chk:ChkS (w.heap.size+2) (w.heap.size+1) tf ev ks W
 kso:KsOk scs (fl j) j ks
 own:OwnC W (w.heap.size+2) 29 sv (ks.map fun k=>schV k.1)
 sep:∀ g,sv.ownBlock=some g→ev.ownBlock≠some g
 off:∀ k∈ks,∀ g o,k.1.1=some ⟨g,o,none⟩→sv.ownBlock≠some g
 plan:W.heap[w.heap.size]?=some (.cells #[nv0] 25 (0,0))
 low:Below w.heap.size w W
theorem info_known:(Tryz.prog.info? 142).map (fun i=>(i.zero,i.size,i.bytes))=some (some (.agg #[.slice none 0 0,.bool false]),2,32):=by kernel_rfl
structure SchN (w:World) (tf nv0:Value) (scs:List (List Int)) (fl:Nat→Nat→Bool) (j:Nat) (ev sv:Value) (ks:List Kn) (a:Option Addr) (c:Nat) (sch:List Int) (W:World):Prop where
 chk:ChkS (w.heap.size+2) (w.heap.size+1) tf ev ks W
 len:ks.length=j
 sch1:∀ (i:Nat) (k:Kn),ks[i]?=some k→scs[i]?=some k.1.2.2
 sch2:scs[j]?=some sch
 flg:∀ (i:Nat) (k:Kn),ks[i]?=some k→k.2=fl (j+1) i
 own:OwnC W (w.heap.size+2) 29 sv (ks.map fun k=>schV k.1)
 sep:∀ g,sv.ownBlock=some g→ev.ownBlock≠some g
 off:∀ k∈ks,∀ g o,k.1.1=some ⟨g,o,none⟩→sv.ownBlock≠some g
 ints:Ints W a sch
 aoff:∀ g o,a=some ⟨g,o,none⟩→ev.ownBlock≠some g∧g≠w.heap.size+1∧g<W.heap.size∧sv.ownBlock≠some g
 plan:W.heap[w.heap.size]?=some (.cells #[nv0] 25 (0,0))
 low:Below w.heap.size w W
theorem SchS.node {w:World}{tf nv0:Value}{scs:List (List Int)}{fl:Nat→Nat→Bool}{j:Nat}{ev sv:Value}{ks ks':List Kn}{W X W':World}{sch:List Int}(h:SchS w tf nv0 scs fl j ev sv ks W)(hb:Below W.heap.size W X)(hm:ks'.map (·.1)=ks.map (·.1))(hf:∀ (i:Nat) (k:Kn),ks'[i]?=some k→k.2=fl (j+1) i)(hs:scs[j]?=some sch){a:Option Addr}{c:Nat}
  (hc:ChkS (w.heap.size+2) (w.heap.size+1) tf ev ks' W') (hg:X.grownBy W' ev.ownBlock) (hi:Ints W' a sch) (ho:∀ g o,a=some ⟨g,o,none⟩→ev.ownBlock≠some g∧g≠w.heap.size+1∧g<W'.heap.size∧(X.heap.size≤g∨∃ k∈ks',k.1.1=some ⟨g,o,none⟩)):SchN w tf nv0 scs fl j ev sv ks' a c sch W':=by
 have hWX:=grown_trans (grown_below hb) hg
 have hin:∀ k∈ks',∃ k'∈ks,k.1=k'.1:=fun k hk=>by
  have:k.1∈ks.map (·.1):=by rw[←hm];exact List.mem_map_of_mem hk
  obtain⟨k',h1,h2⟩:=List.mem_map.1 this
  exact⟨k',h1,h2.symm⟩
 have hle:ks'.length=ks.length:=by have:=congrArg List.length hm;simpa using this
 have hmo:ks'.map (fun k=>schV k.1)=ks.map fun k=>schV k.1:=by
  have:=congrArg (List.map schV) hm
  rw[List.map_map,List.map_map]at this
  exact this
 have hevl:∀ g,ev.ownBlock=some g→w.heap.size+2≤g:=fun g e=>(owns_block h.chk.own e).1
 refine⟨hc,hle.trans h.kso.len,fun i k hk=>?_,hs,hf,?_,h.sep,fun k hk g o e=>?_,hi,fun g o e=>?_,?_,?_⟩
 ·have:(ks.map (·.1))[i]?=some k.1:=by rw[←hm,List.getElem?_map,hk];rfl
  rw[List.getElem?_map,Option.map_eq_some_iff]at this
  obtain⟨k',h1,h2⟩:=this
  rw[←h2]
  exact h.kso.sch i k' h1
 ·unfold OwnC
  rw[hmo]
  exact owns_of_block h.own fun g e=>hWX.block g (owns_block h.own e).2 (Ne.symm (h.sep g e))
 ·obtain⟨k',h1,h2⟩:=hin k hk
  rw[h2]at e
  exact h.off k' h1 g o e
 ·obtain⟨h1,h2,h3,h4⟩:=ho g o e
  refine⟨h1,h2,h3,fun e2=>?_⟩
  rcases h4 with h4|⟨k,hk,hke⟩
  ·have:=(owns_block h.own e2).2
   have:=hb.size
   omega
  obtain⟨k',h5,h6⟩:=hin k hk
  rw[h6]at hke
  exact h.off k' h5 g o hke e2
 ·rw[hWX.block _ (lt_of_heap h.plan) (fun e=>by have:=hevl _ e.symm;omega)]
  exact h.plan
 exact below_grown h.low hWX fun k hk=>by have:=hevl k hk;omega
theorem SchN.done {w:World}{tf nv0:Value}{scs:List (List Int)}{fl:Nat→Nat→Bool}{j:Nat}{ev ev' sv sv':Value}{ks:List Kn}{a:Option Addr}{c:Nat}{sch:List Int}{W w4 w6:World}(h:SchN w tf nv0 scs fl j ev sv ks a c sch W)(hfl:fl (j+1) j=false)(o1 o2:Obj)
  (q1:w4.ownsRow (w.heap.size+2) 142 2 ev' (ks.length+1) (ks.flatMap knC++[schV (a,c,sch),.bool false])) (q2:(W.alloc o1).grownBy w4 ev.ownBlock) (q3:ev'.ownBlock=ev.ownBlock∨ev'.ownBlock=some (W.alloc o1).heap.size)
  (r1:OwnC w6 (w.heap.size+2) 29 sv' ((ks.map fun k=>schV k.1)++[schV (a,c,sch)])) (r2:((w4.setCell ⟨w.heap.size+1,1,none⟩ ev').alloc o2).grownBy w6 sv.ownBlock) (r3:sv'.ownBlock=sv.ownBlock∨sv'.ownBlock=some ((w4.setCell ⟨w.heap.size+1,1,none⟩ ev').alloc o2).heap.size) :
  SchS w tf nv0 scs fl (j+1) ev' sv' (ks++[((a,c,sch),false)]) w6:=by
 have evl:∀ g,ev.ownBlock=some g→w.heap.size+2≤g∧g<W.heap.size:=fun g e=>owns_block h.chk.own e
 have svl:∀ g,sv.ownBlock=some g→w.heap.size+2≤g∧g<W.heap.size:=fun g e=>owns_block h.own e
 have evl':∀ g,ev'.ownBlock=some g→w.heap.size+2≤g∧g<w4.heap.size:=fun g e=>owns_block q1 e
 have zq:=q2.size
 have zr:=r2.size
 rw[World.size_alloc]at zq zr q3 r3
 have zs:(w4.setCell ⟨w.heap.size+1,1,none⟩ ev').heap.size=w4.heap.size:=by simp[World.setCell]
 rw[zs]at zr r3
 have a4:∀ k,k<W.heap.size→ev.ownBlock≠some k→w4.heap[k]?=W.heap[k]?:=fun k h1 h2=>(q2.block k (by rw[World.size_alloc];omega) (Ne.symm h2)).trans (Below.heap_alloc _ _ _ h1)
 have a6:∀ k,k<w4.heap.size→k≠w.heap.size+1→sv.ownBlock≠some k→w6.heap[k]?=w4.heap[k]?:=fun k h1 h2 h3=>(r2.block k (by rw[World.size_alloc,zs];omega) (Ne.symm h3)).trans ((Below.heap_alloc _ _ _ (by rw[zs];exact h1)).trans (Below.heap_setCell _ _ _ _ h2))
 have a7:∀ k,k<W.heap.size→ev.ownBlock≠some k→k≠w.heap.size+1→sv.ownBlock≠some k→w6.heap[k]?=W.heap[k]?:=fun k h1 h2 h3 h4=>(a6 k (by omega) h3 h4).trans (a4 k h1 h2)
 have hck4:w4.heap[w.heap.size+1]?=_:=(a4 _ (lt_of_heap h.chk.ck) (fun e=>by have:=evl _ e;omega)).trans h.chk.ck
 have hck5:=heap_set hck4 1 ev'
 simp only[List.setIfInBounds_toArray,List.set_cons_zero,List.set_cons_succ]at hck5
 have hck6:w6.heap[w.heap.size+1]?=some (.cells #[tf,ev'] 139 (0,0)):=by
  rw[r2.block _ (by rw[World.size_alloc,zs];have:=lt_of_heap hck4;omega) (fun e=>by have:=svl _ e.symm;omega),Below.heap_alloc _ _ _ (by rw[zs];exact lt_of_heap hck4)]
  exact hck5
 have hnew:∀ g,ev.ownBlock≠some g→g<W.heap.size→ev'.ownBlock≠some g:=fun g h1 h2 e=>by
  rcases q3 with q|q
  ·exact h1 (q.symm.trans e)
  rw[q]at e;cases e;omega
 have hnew2:∀ g,sv.ownBlock≠some g→g<W.heap.size→sv'.ownBlock≠some g:=fun g h1 h2 e=>by
  rcases r3 with q|q
  ·exact h1 (q.symm.trans e)
  rw[q]at e;cases e;omega
 have hint:∀ (a:Option Addr) (s:List Int),Ints W a s→(∀ g o,a=some ⟨g,o,none⟩→ev.ownBlock≠some g∧g≠w.heap.size+1∧sv.ownBlock≠some g)→Ints w6 a s:=fun a s hi ho=>hi.of_block (by omega) fun b o e hl=>a7 b hl (ho b o e).1 (ho b o e).2.1 (ho b o e).2.2
 refine⟨⟨hck6,?_,fun k hk=>?_,fun k hk g o e=>?_,h.chk.low⟩,⟨?_,fun i k hk=>?_,fun i k hk=>?_⟩,?_,fun g e e2=>?_,fun k hk g o e=>?_,?_,?_⟩
 ·rw[List.length_append,List.length_singleton,List.flatMap_append,List.flatMap_singleton]
  refine owns_of_block q1 fun g e=>a6 g (evl' g e).2 (by have:=evl' g e;omega) (fun e2=>?_)
  rcases q3 with q|q
  ·exact h.sep g e2 (q.symm.trans e)
  rw[q]at e
  cases e
  have:=svl _ e2
  omega
 ·rw[List.mem_append,List.mem_singleton]at hk
  rcases hk with hk|rfl
  ·exact hint _ _ (h.chk.ints k hk) fun g o e=>⟨(h.chk.off k hk g o e).1,(h.chk.off k hk g o e).2.1,h.off k hk g o e⟩
  exact hint _ _ h.ints fun g o e=>⟨(h.aoff g o e).1,(h.aoff g o e).2.1,(h.aoff g o e).2.2.2⟩
 ·rw[List.mem_append,List.mem_singleton]at hk
  rcases hk with hk|rfl
  ·have:=h.chk.off k hk g o e
   exact⟨hnew g this.1 this.2.2,this.2.1,by omega⟩
  have:=h.aoff g o e
  exact⟨hnew g this.1 this.2.2.1,this.2.1,by omega⟩
 ·rw[List.length_append,List.length_singleton,h.len]
 ·rw[List.getElem?_append]at hk
  split at hk
  ·exact h.sch1 i k hk
  rename_i hge
  have hi:i=j:=by
   have:i-ks.length<1:=(List.getElem?_eq_some_iff.1 hk).1
   have:=h.len
   omega
  subst hi
  rw[h.len,Nat.sub_self]at hk
  cases hk
  exact h.sch2
 ·rw[List.getElem?_append]at hk
  split at hk
  ·exact h.flg i k hk
  have hi:i=j:=by
   have:i-ks.length<1:=(List.getElem?_eq_some_iff.1 hk).1
   have:=h.len
   omega
  subst hi
  rw[h.len,Nat.sub_self]at hk
  cases hk
  exact hfl.symm
 ·rw[List.map_append]
  exact r1
 ·rcases r3 with q|q
  ·have e3:=q.symm.trans e
   have:=svl g e3
   rcases q3 with q'|q'
   ·exact h.sep g e3 (q'.symm.trans e2)
   rw[q']at e2;cases e2;omega
  rw[q]at e
  cases e
  have:=(evl' _ e2).2
  omega
 ·rw[List.mem_append,List.mem_singleton]at hk
  rcases hk with hk|rfl
  ·exact hnew2 g (h.off k hk g o e) (h.chk.off k hk g o e).2.2
  exact hnew2 g (h.aoff g o e).2.2.2 (h.aoff g o e).2.2.1
 ·rw[a7 _ (lt_of_heap h.plan) (fun e=>by have:=evl _ e;omega) (by omega) (fun e=>by have:=svl _ e;omega)]
  exact h.plan
 have hl:=h.low
 have h4:Below w.heap.size w w4:=below_grown (below_alloc hl o1) q2 fun k hk=>by have:=evl k hk;omega
 have h5:Below w.heap.size w (w4.setCell ⟨w.heap.size+1,1,none⟩ ev'):=h4.setCell (p:=⟨w.heap.size+1,1,none⟩) (by simp) _
 exact below_grown (below_alloc h5 o2) r2 fun k hk=>by have:=svl k hk;omega
theorem row_slice {w:World}{B:Nat}{e:TypeId}{z:Nat}{sv:Value}{n:Nat}{xs:List Value}(h:w.ownsRow B e z sv n xs):∃ a c,sv=.slice a n c:=by
 rcases h with⟨_,⟨h1,h2⟩|⟨g,cap,_,h1,_⟩⟩
 ·exact⟨none,0,by rw[h1,h2]⟩
 exact⟨_,_,h1⟩
theorem SchS.below {w:World}{tf nv0:Value}{scs:List (List Int)}{fl:Nat→Nat→Bool}{j:Nat}{ev sv:Value}{ks:List Kn}{W W':World}(h:SchS w tf nv0 scs fl j ev sv ks W)(hb:Below W.heap.size W W'):SchS w tf nv0 scs fl j ev sv ks W':=
 ⟨h.chk.below hb,h.kso,owns_of_block h.own fun g e=>hb.block g (owns_block h.own e).2,h.sep,h.off,(hb.block _ (lt_of_heap h.plan)).trans h.plan,below_then h.low hb⟩
theorem SchN.mid {w:World}{tf nv0:Value}{scs:List (List Int)}{fl:Nat→Nat→Bool}{j:Nat}{ev ev' sv:Value}{ks:List Kn}{a:Option Addr}{c:Nat}{sch:List Int}{W w4:World}(h:SchN w tf nv0 scs fl j ev sv ks a c sch W)(o1:Obj)(q2:(W.alloc o1).grownBy w4 ev.ownBlock) :
  w4.heap[w.heap.size+1]?=some (.cells #[tf,ev] 139 (0,0))∧OwnC (w4.setCell ⟨w.heap.size+1,1,none⟩ ev') (w.heap.size+2) 29 sv (ks.map fun k=>schV k.1)∧w.heap.size+2≤w4.heap.size:=by
 have evl:∀ g,ev.ownBlock=some g→w.heap.size+2≤g∧g<W.heap.size:=fun g e=>owns_block h.chk.own e
 have zq:=q2.size
 rw[World.size_alloc]at zq
 have a4:∀ k,k<W.heap.size→ev.ownBlock≠some k→w4.heap[k]?=W.heap[k]?:=fun k h1 h2=>(q2.block k (by rw[World.size_alloc];omega) (Ne.symm h2)).trans (Below.heap_alloc _ _ _ h1)
 refine⟨(a4 _ (lt_of_heap h.chk.ck) (fun e=>by have:=evl _ e;omega)).trans h.chk.ck,owns_of_block h.own fun g e=>?_,by have:=lt_of_heap h.chk.ck;omega⟩
 have:=owns_block h.own e
 rw[Below.heap_setCell _ _ _ _ (by simp;omega)]
 exact a4 g this.2 (h.sep g e)
theorem news_two (w:World)(u v:Value)(e:TypeId):∀ (j:Nat) (x:Value),[u,v][j]?=some x→(w.alloc (.cells #[u,v] e)).cell? ((⟨w.heap.size,0,none⟩:Addr).add j)=some x:=by
 intro j x hj
 have hn:=heap_alloc_new w (.cells #[u,v] e)
 match j,hj with
 |0,hj=>cases hj;unfold World.cell?;rw[show ((⟨w.heap.size,0,none⟩:Addr).add 0).block=w.heap.size from rfl,hn];rfl
 |1,hj=>cases hj;unfold World.cell?;rw[show ((⟨w.heap.size,0,none⟩:Addr).add 1).block=w.heap.size from rfl,hn];rfl
attribute [local go_sem] Oper.semAt_some
def ptC (p:Pt):List Value:=[.int .i64 p.op,.int .i64 p.l,.int .i64 p.r,.int .i64 p.c,.int .i64 p.v.k,.int .i64 p.v.n,.string p.v.s]
abbrev OwnP (w:World)(B:Nat)(sv:Value)(ps:List Pt):Prop:=w.ownsRow B 63 7 sv ps.length (ps.flatMap ptC)
theorem infoP:(Tryz.prog.info? 63).map (fun i=>(i.zero,i.size,i.bytes))=some (some (.agg #[.int .i64 0,.int .i64 0,.int .i64 0,.int .i64 0,.int .i64 0,.int .i64 0,.string ⟨#[]⟩]),7,64):=by kernel_rfl
theorem wpList_append_P {w:World}{ops:Array Oper}{rest:List Oper}{o:Oper}{a:Act}{Q:Exit→Act→World→Prop}(hgd:o.guard=none)(s x:Operand)
  (ho:o.op=.call {callee:=.builtin .append,args:=#[s,x],argTypes:=#[64,64]})
  (B:Nat) (sv:Value) (ps:List Pt) (hs:a.eval s=sv) (hown:OwnP w B sv ps)
  (g c:Nat) (p:Pt) (hx:a.eval x=.slice (some ⟨g,0,none⟩) 1 c) (hv:PartAt w g 0 p) (hlen:ps.length≤1000000) (hbase:B≤w.heap.size)
  (h:∀ sv' w',OwnP w' B sv' (ps++[p])→w.grownBy w' sv.ownBlock→(sv'.ownBlock=sv.ownBlock∨sv'.ownBlock=some w.heap.size)→wpList Tryz.prog ops Q rest (a.put o.dst sv') w') :
  wpList Tryz.prog ops Q (o::rest) a w:=by
 obtain⟨i,hi,hz,hsz,hby⟩:=info_parts infoP
 refine wpList_append_own_at w hgd s x 64 ho B 63 i _ 7 64 (by kernel_rfl) hi hz hsz hby rfl (by decide) sv ps.length (ps.flatMap ptC) hs hown ⟨g,0,none⟩ 1 c (ptC p) hx rfl ?_ ?_ ?_ ?_ hbase ?_
 ·intro j u hj
  obtain⟨h0,h1,h2,h3,h4,h5,h6⟩:=hv
  match j,hj with
  |0,hj=>simp[ptC]at hj;subst hj;simpa [Addr.add] using h0
  |1,hj=>simp[ptC]at hj;subst hj;simpa [Addr.add] using h1
  |2,hj=>simp[ptC]at hj;subst hj;simpa [Addr.add] using h2
  |3,hj=>simp[ptC]at hj;subst hj;simpa [Addr.add] using h3
  |4,hj=>simp[ptC]at hj;subst hj;simpa [Addr.add] using h4
  |5,hj=>simp[ptC]at hj;subst hj;simpa [Addr.add] using h5
  |6,hj=>simp[ptC]at hj;subst hj;simpa [Addr.add] using h6
  |j+7,hj=>simp[ptC]at hj
 ·intro u hu
  simp[ptC]at hu
  rcases hu with rfl|rfl|rfl|rfl|rfl|rfl|rfl<;>rfl
 ·unfold maxLen;omega
 ·omega
 intro v' w' h1 h2 _ h4
 refine h v' w' ?_ h2 h4
 unfold OwnP
 rw[List.length_append,List.length_singleton,List.flatMap_append,List.flatMap_singleton]
 exact h1
theorem part_new (w:World)(p:Pt):PartAt (w.alloc (.cells #[.int .i64 p.op,.int .i64 p.l,.int .i64 p.r,.int .i64 p.c,.int .i64 p.v.k,.int .i64 p.v.n,.string p.v.s] 63)) w.heap.size 0 p:=by
 obtain⟨h0,h1,h2,h3,h4,h5,h6⟩:=part_full (heap_alloc_new w (.cells #[.int .i64 p.op,.int .i64 p.l,.int .i64 p.r,.int .i64 p.c,.int .i64 p.v.k,.int .i64 p.v.n,.string p.v.s] 63))
 exact⟨h0,h1,h2,h3,h4,h5,h6⟩
attribute [local go_sem] Oper.semAt_some
theorem OwnP.at {w:World}{B:Nat}{ev:Value}{es:List Pt}(h:OwnP w B ev es)(h1:1≤es.length):∃ g cap,ev=.slice (some ⟨g,0,none⟩) es.length cap∧B≤g∧g<w.heap.size∧es.length≤cap∧∀ k p,es[k]?=some p→PartAt w g (0+k*7) p:=by
 rcases h with⟨_,⟨_,q2⟩|⟨g,cap,cur,q1,q2,q3,q4,q5,q6,q7⟩⟩
 ·omega
 refine⟨g,cap,q1,q2,lt_of_heap q3,q4,fun k p hk=>?_⟩
 have hkl:k<es.length:=(List.getElem?_eq_some_iff.1 hk).1
 have hc:∀ i,i<7→w.cell? ⟨g,k*7+i,none⟩=(ptC p)[i]?:=fun i hi=>by
  have:=flat_get ptC 7 (fun _=>rfl) es k i p hk hi
  rw[←q7,List.getElem?_take,if_pos (by omega),Array.getElem?_toList]at this
  rw[←this]
  simp[World.cell?,q3]
 rw[Nat.zero_add]
 exact⟨hc 0 (by omega),hc 1 (by omega),hc 2 (by omega),hc 3 (by omega),hc 4 (by omega),hc 5 (by omega),hc 6 (by omega)⟩
end Go.Proofs.YtkgibdjakgmmcaaGreatDoor
