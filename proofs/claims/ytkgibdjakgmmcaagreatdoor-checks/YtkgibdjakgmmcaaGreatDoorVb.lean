/- The type of an expression, whatever it is: what the program answers. -/
import Derived.Test.YtkgibdjakgmmcaaGreatDoorVa
import Derived.Test.YtkgibdjakgmmcaaGreatDoorTp
import Derived.Test.YtkgibdjakgmmcaaGreatDoorRh
set_option maxHeartbeats 2000000
set_option maxRecDepth 100000
namespace Go.Proofs.YtkgibdjakgmmcaaGreatDoor
open Go.RowKit Go.Shelf
attribute [local go_sem] Oper.semAt_some
def conI (p:Pt):Option Int:=if 1≤p.c∧p.c≤3∧okB p.c p.v.k p.v.n p.v.s=true then some p.c else none
def someB (r:Bool)(c:Int):Option Int:=if r=true then some c else none
theorem tConstant_any (tb:Nat)(p:Pt)(w:World) :
  Calls Tryz.prog 158 #[.pointer (some ⟨tb,0,none⟩),p.val] w (TyQ w (conI p)):=by
 have hO:∀ X,Calls Tryz.prog 113 #[.agg #[.int .i64 p.v.k,.int .i64 p.v.n,.string p.v.s],.int .i64 p.c] X fun e w'=>e=.returned (.bool (okB p.c p.v.k p.v.n p.v.s))∧Below X.heap.size X w':=fun X=>isOf_any p.v.k p.v.n p.v.s p.c X
 have hI:∀ X,Calls Tryz.prog 112 #[.int .i64 p.c] X fun e w'=>e=.returned (.bool (decide (1≤p.c∧p.c≤3)))∧w'=X:=fun X=>isType_any p.c X
 obtain⟨r,hr⟩:∃ r,r=okB p.c p.v.k p.v.n p.v.s:=⟨_,rfl⟩
 rw[←hr]at hO
 by_cases ht:1≤p.c∧p.c≤3
 ·rw[decide_eq_true ht]at hI
  have hq:conI p=someB r p.c:=by
   unfold conI someB
   rw[←hr]
   by_cases hr:r=true
   ·exact(if_pos ⟨ht.1,ht.2,hr⟩).trans (if_pos hr).symm
   exact(if_neg fun h=>hr h.2.2).trans (if_neg hr).symm
  rw[hq]
  clear hq ht hr
  go_enter Tryz.func158,Tryz.ntmps158
  go_upto_region 1 with fail
  have hq:(ptBox w p).heap[w.heap.size]?=_:=heap_alloc_new w (.cells #[.int .i64 p.op,.int .i64 p.l,.int .i64 p.r,.int .i64 p.c,.int .i64 p.v.k,.int .i64 p.v.n,.string p.v.s] 63)
  have hbb:Below w.heap.size w (ptBox w p):=below_alloc (Below.refl _ _) _
  show Code.wp _ _ _ _ (ptBox w p)
  generalize ptBox w p=X0 at hq hbb ⊢
  have r3:X0.cell? ⟨w.heap.size,3,none⟩=some (.int .i64 p.c):=by simp[World.cell?,hq]
  have r4:X0.cell? ⟨w.heap.size,4,none⟩=some (.int .i64 p.v.k):=by simp[World.cell?,hq]
  have r5:X0.cell? ⟨w.heap.size,5,none⟩=some (.int .i64 p.v.n):=by simp[World.cell?,hq]
  have r6:X0.cell? ⟨w.heap.size,6,none⟩=some (.string p.v.s):=by simp[World.cell?,hq]
  have hg1:w.heap.size<X0.heap.size:=lt_of_heap hq
  clear hq
  go_region_held3 (fun X=>X.cell? ⟨w.heap.size,3,none⟩=some (.int .i64 p.c)∧X.cell? ⟨w.heap.size,4,none⟩=some (.int .i64 p.v.k)∧X.cell? ⟨w.heap.size,5,none⟩=some (.int .i64 p.v.n)∧X.cell? ⟨w.heap.size,6,none⟩=some (.string p.v.s))
   (first|go_keep|(go_split_ands;refine⟨?_,?_,?_,?_⟩<;>(rw[(below_keep hbm).1 _ _ (by first|exact hg1|assumption)];assumption)))
   (first|(go_at_call 112;refine(hI _).mono ?_;rintro e wm ⟨rfl,rfl⟩)|(go_at_call 113;refine(hO _).mono ?_;rintro e wm ⟨rfl,hbm⟩;have hbx:Below X0.heap.size X0 wm:=(by first|exact below_undrew hbm|exact hbm)))
  clear r3 r4 r5 r6
  go_wp2
  refine bodyPost_ret (v:=.tuple #[.int .i64 p.c,.bool r]) (by simp[results,Tryz.results158,go_sem]) rfl ⟨⟨p.c,?_,?_⟩,below_then hbb hbx⟩<;>cases r<;>simp[someB]
 rw[decide_eq_false ht]at hI
 have hq:conI p=none:=if_neg fun h=>ht ⟨h.1,h.2.1⟩
 rw[hq]
 clear hq ht hO hr
 go_enter Tryz.func158,Tryz.ntmps158
 go_upto_region 1 with fail
 have hq:(ptBox w p).heap[w.heap.size]?=_:=heap_alloc_new w (.cells #[.int .i64 p.op,.int .i64 p.l,.int .i64 p.r,.int .i64 p.c,.int .i64 p.v.k,.int .i64 p.v.n,.string p.v.s] 63)
 have hbb:Below w.heap.size w (ptBox w p):=below_alloc (Below.refl _ _) _
 show Code.wp _ _ _ _ (ptBox w p)
 generalize ptBox w p=X0 at hq hbb ⊢
 have r3:X0.cell? ⟨w.heap.size,3,none⟩=some (.int .i64 p.c):=by simp[World.cell?,hq]
 clear hq
 refine wp_region_held_drew (S:=fun X=>X.cell? ⟨w.heap.size,3,none⟩=some (.int .i64 p.c)) (by kernel_rfl) (cell_drew r3) (fun hH=>?_)
 refine tkj 0 rfl hH ?_
 refine tkj 1 rfl hH ?_
 refine tkj 2 rfl hH ?_
 refine tkj 3 rfl hH ?_
 refine tkn ?_
 refine tkr 4 rfl fun K hK=>?_
 go_simp
 refine(hI X0.drew).mono ?_
 rintro e X1 ⟨rfl,rfl⟩
 go_simp
 refine hK.out _ _ hH (fun hH=>?_)
 clear hK K
 refine tkj 5 rfl hH ?_
 refine tkn ?_
 refine tku 6 rfl hH (tku 7 rfl hH (tku 8 rfl hH (tku 9 rfl hH (tku 10 rfl hH ?_))))
 refine tkj 11 rfl hH ?_
 refine tkj 12 rfl hH ?_
 refine tkj 13 rfl hH ?_
 refine tkn ?_
 refine wpAnyH_done (by kernel_rfl) ?_ _
 clear r3
 go_wp2
 exact bodyPost_ret (v:=.tuple #[.int .i64 p.c,.bool false]) (by simp[results,Tryz.results158,go_sem]) rfl ⟨⟨p.c,by simp,by simp⟩,below_drew1 hbb⟩
def ptT (sch T:List Int)(p:Pt):Option Int:=
 if p.op=0 then tyI sch p.c
 else if p.op=1 then conI p
 else if p.op≤5 then isI (shI (tyI T p.l) (tyI T p.r)) 1 1
 else if p.op≤7 then (shI (tyI T p.l) (tyI T p.r)).map fun _=>2
 else if p.op≤9 then isI (shI (tyI T p.l) (tyI T p.r)) 2 2
 else if p.op=10 then isI (tyI T p.l) 2 2
 else (tyI T p.l).map fun _=>2
def ptO (sch T:List Int)(p:Pt):Option Int:=if 0≤p.op∧p.op≤11 then ptT sch T p else none
theorem tyMeth_any (tb:Nat)(ca:Option Addr)(cc:Nat)(sch:List Int)(ea:Option Addr)(ec:Nat)(T:List Int)(p:Pt)(w:World)(hT:TyAt w tb (.slice ca sch.length cc) (.slice ea T.length ec))(hC:Ints w ca sch)(hE:Ints w ea T) :
  Calls Tryz.prog (tyF p.op) #[.pointer (some ⟨tb,0,none⟩),p.val] w (TyQ w (ptT sch T p)):=by
 unfold tyF ptT
 by_cases h0:p.op=0
 ·rw[if_pos h0,if_pos h0]
  exact tColumn_any tb ca cc sch _ p w hT hC
 rw[if_neg h0,if_neg h0]
 by_cases h1:p.op=1
 ·rw[if_pos h1,if_pos h1]
  exact tConstant_any tb p w
 rw[if_neg h1,if_neg h1]
 by_cases h5:p.op≤5
 ·rw[if_pos h5,if_pos h5]
  exact tNumbers_any tb _ ea ec T p w hT hE
 rw[if_neg h5,if_neg h5]
 by_cases h7:p.op≤7
 ·rw[if_pos h7,if_pos h7]
  exact tOneType_any tb _ ea ec T p w hT hE
 rw[if_neg h7,if_neg h7]
 by_cases h9:p.op≤9
 ·rw[if_pos h9,if_pos h9]
  exact tTruths_any tb _ ea ec T p w hT hE
 rw[if_neg h9,if_neg h9]
 by_cases h10:p.op=10
 ·rw[if_pos h10,if_pos h10]
  exact tTruth_any tb _ ea ec T p w hT hE
 rw[if_neg h10,if_neg h10]
 exact tAny_any tb _ ea ec T p w hT hE
theorem tPart_in (tb:Nat)(ca:Option Addr)(cc:Nat)(sch:List Int)(ea:Option Addr)(ec:Nat)(T:List Int)(p:Pt)(w:World)(hT:TyAt w tb (.slice ca sch.length cc) (.slice ea T.length ec))(hC:Ints w ca sch)(hE:Ints w ea T)(hlo:0≤p.op)(hhi:p.op≤11) :
  Calls Tryz.prog 143 #[.pointer (some ⟨tb,0,none⟩),p.val] w (TyQ w (ptT sch T p)):=by
 have HM:Hid (∀ X,Below w.heap.size w X→Calls Tryz.prog (tyF p.op) #[.pointer (some ⟨tb,0,none⟩),p.val] X (TyQ X (ptT sch T p))):=fun X hX=>tyMeth_any tb ca cc sch ea ec T p X ((hX.block _ (lt_of_heap hT)).trans hT) (hC.below hX) (hE.below hX)
 clear hT hC hE
 generalize ptT sch T p=oo at HM ⊢
 obtain⟨n,hn⟩:∃ n:Nat,p.op=(n:Int):=⟨p.op.toNat,by omega⟩
 have hn12:n<12:=by omega
 have HN:Hid (p.op=(n:Int)):=hn
 clear hn
 have hsf:∀ (f:Nat) (a:Addr) (X:World),(store a (.func (.func f) #[.pointer (some ⟨tb,0,none⟩)] #[])).run Tryz.prog X=stored Tryz.prog X a (.func (.func f) #[.pointer (some ⟨tb,0,none⟩)] #[]) .plain:=fun f a X=>run_store _ _ _ _ _ rfl
 have hbb:Below w.heap.size w (ptBox w p):=below_alloc (Below.refl _ _) _
 have hq:(ptBox w p).heap[w.heap.size]?=_:=heap_alloc_new w (.cells #[.int .i64 p.op,.int .i64 p.l,.int .i64 p.r,.int .i64 p.c,.int .i64 p.v.k,.int .i64 p.v.n,.string p.v.s] 63)
 have hkin:=tKinds_any tb (ptBox w p)
 go_enter Tryz.func143,Tryz.ntmps143
 go_upto_region 2 with(go_at_call 155;refine hkin.mono ?_;rintro e W2 ⟨rfl,hb2⟩)
 have hn:=HN.out
 have hb3:Below W2.heap.size W2 (W2.alloc (.cells (tyC tb) 279)):=below_alloc (Below.refl _ _) _
 have hk3:=heap_alloc_new W2 (.cells (tyC tb) 279)
 have hq3:=(hb3.block _ (Nat.lt_of_lt_of_le (lt_of_heap hq) hb2.size)).trans ((hb2.block _ (lt_of_heap hq)).trans hq)
 have hlow:Below w.heap.size w (W2.alloc (.cells (tyC tb) 279)):=below_then (below_then hbb hb2) hb3
 obtain⟨kb,hkb⟩:∃ kb,kb=W2.heap.size:=⟨_,rfl⟩
 rw[←hkb]at hk3 ⊢
 clear hkb
 generalize W2.alloc (.cells (tyC tb) 279)=W3 at hk3 hq3 hlow ⊢
 have z0:W3.cell? ⟨w.heap.size,0,none⟩=some (.int .i64 (n:Int)):=by rw[←hn];simp[World.cell?,hq3]
 have z1:W3.cell? ⟨w.heap.size,1,none⟩=some (.int .i64 p.l):=by simp[World.cell?,hq3]
 have z2:W3.cell? ⟨w.heap.size,2,none⟩=some (.int .i64 p.r):=by simp[World.cell?,hq3]
 have z3:W3.cell? ⟨w.heap.size,3,none⟩=some (.int .i64 p.c):=by simp[World.cell?,hq3]
 have z4:W3.cell? ⟨w.heap.size,4,none⟩=some (.int .i64 p.v.k):=by simp[World.cell?,hq3]
 have z5:W3.cell? ⟨w.heap.size,5,none⟩=some (.int .i64 p.v.n):=by simp[World.cell?,hq3]
 have z6:W3.cell? ⟨w.heap.size,6,none⟩=some (.string p.v.s):=by simp[World.cell?,hq3]
 have hkc:W3.cell? ⟨kb,n,none⟩=some (.func (.func (tyF p.op)) #[.pointer (some ⟨tb,0,none⟩)] #[]):=by
  have:=tyC_at tb n hn12
  rw[←hn]at this
  rw[←this]
  simp only[World.cell?,hk3]
  rfl
 have hcf:=tyF_enter p.op
 obtain⟨f,hf⟩:∃ f,f=tyF p.op:=⟨_,rfl⟩
 rw[←hf]at hkc hcf HM
 rw[Pt.val,hn]at HM
 have k3:(0:Int)≤(n:Int):=by omega
 have k4:(n:Int)<12:=by omega
 clear hf hn hb3 hb2 hkin hq hq3 hk3 hbb hsf W2 hlo hhi
 go_upto_region 4 with fail
 refine wp_region_held_drew (S:=fun X=>X.cell? ⟨w.heap.size,0,none⟩=some (.int .i64 (n:Int))∧X.cell? ⟨w.heap.size,1,none⟩=some (.int .i64 p.l)∧X.cell? ⟨w.heap.size,2,none⟩=some (.int .i64 p.r)∧X.cell? ⟨w.heap.size,3,none⟩=some (.int .i64 p.c)∧X.cell? ⟨w.heap.size,4,none⟩=some (.int .i64 p.v.k)∧X.cell? ⟨w.heap.size,5,none⟩=some (.int .i64 p.v.n)∧X.cell? ⟨w.heap.size,6,none⟩=some (.string p.v.s)∧X.cell? ⟨kb,n,none⟩=some (.func (.func f) #[.pointer (some ⟨tb,0,none⟩)] #[])) (by kernel_rfl) ⟨cell_drew z0,cell_drew z1,cell_drew z2,cell_drew z3,cell_drew z4,cell_drew z5,cell_drew z6,cell_drew hkc⟩ (fun hH=>?_)
 refine tkj 0 rfl hH ?_
 refine tkj 1 rfl hH ?_
 refine tkj 2 rfl hH ?_
 refine tkj 3 rfl hH ?_
 refine tkj 4 rfl hH ?_
 refine tkn ?_
 refine tkr 5 rfl fun K hK=>?_
 go_simp
 refine(HM.out W3.drew (below_drew1 hlow)).mono ?_
 rintro e X1 ⟨⟨tt,rfl,htt⟩,hx1⟩
 have HTT:Hid (∀ x,oo=some x→tt=x):=htt
 clear htt
 obtain⟨ob,hob⟩:∃ ob,ob=oo.isSome:=⟨_,rfl⟩
 rw[←hob]
 have HOB:Hid (ob=oo.isSome):=hob
 clear hob
 go_simp
 refine hK.out _ _ ⟨cell_below hx1 hH.1,cell_below hx1 hH.2.1,cell_below hx1 hH.2.2.1,cell_below hx1 hH.2.2.2.1,cell_below hx1 hH.2.2.2.2.1,cell_below hx1 hH.2.2.2.2.2.1,cell_below hx1 hH.2.2.2.2.2.2.1,cell_below hx1 hH.2.2.2.2.2.2.2⟩ (fun hH=>?_)
 clear hK K
 refine tkj 6 rfl hH ?_
 refine tkj 7 rfl hH ?_
 refine tkj 8 rfl hH ?_
 refine tkj 9 rfl hH ?_
 refine tkn ?_
 refine wpAnyH_done (by kernel_rfl) ?_ _
 go_wp2
 exact bodyPost_ret (v:=.tuple #[.int .i64 tt,.bool ob]) (by simp[results,Tryz.results143,go_sem]) rfl ⟨⟨tt,by rw[HOB.out],HTT.out⟩,below_then (below_drew1 hlow) hx1⟩
theorem tPart_any (tb:Nat)(ca:Option Addr)(cc:Nat)(sch:List Int)(ea:Option Addr)(ec:Nat)(T:List Int)(p:Pt)(w:World)(hT:TyAt w tb (.slice ca sch.length cc) (.slice ea T.length ec))(hC:Ints w ca sch)(hE:Ints w ea T) :
  Calls Tryz.prog 143 #[.pointer (some ⟨tb,0,none⟩),p.val] w (TyQ w (ptO sch T p)):=by
 unfold ptO
 by_cases hin:0≤p.op∧p.op≤11
 ·rw[if_pos hin]
  exact tPart_in tb ca cc sch ea ec T p w hT hC hE hin.1 hin.2
 rw[if_neg hin]
 have hkin:=tKinds_any tb (ptBox w p)
 have hq:(ptBox w p).heap[w.heap.size]?=_:=heap_alloc_new w (.cells #[.int .i64 p.op,.int .i64 p.l,.int .i64 p.r,.int .i64 p.c,.int .i64 p.v.k,.int .i64 p.v.n,.string p.v.s] 63)
 have hbb:Below w.heap.size w (ptBox w p):=below_alloc (Below.refl _ _) _
 have hsf:∀ (f:Nat) (a:Addr) (X:World),(store a (.func (.func f) #[.pointer (some ⟨tb,0,none⟩)] #[])).run Tryz.prog X=stored Tryz.prog X a (.func (.func f) #[.pointer (some ⟨tb,0,none⟩)] #[]) .plain:=fun f a X=>run_store _ _ _ _ _ rfl
 have HIN:Hid (¬ (0≤p.op∧p.op≤11)):=hin
 clear hin hT hC hE
 go_enter Tryz.func143,Tryz.ntmps143
 go_upto_region 2 with(go_at_call 155;refine hkin.mono ?_;rintro e W2 ⟨rfl,hb2⟩)
 have hb3:Below W2.heap.size W2 (W2.alloc (.cells (tyC tb) 279)):=below_alloc (Below.refl _ _) _
 have hq3:=(hb3.block _ (Nat.lt_of_lt_of_le (lt_of_heap hq) hb2.size)).trans ((hb2.block _ (lt_of_heap hq)).trans hq)
 have hlow:Below w.heap.size w (W2.alloc (.cells (tyC tb) 279)):=below_then (below_then hbb hb2) hb3
 generalize W2.alloc (.cells (tyC tb) 279)=W3 at hq3 hlow ⊢
 have z0:W3.cell? ⟨w.heap.size,0,none⟩=some (.int .i64 p.op):=by simp[World.cell?,hq3]
 generalize p.op=n at z0 HIN
 clear hq3 hq hbb hb3 hb2 hkin hsf
 by_cases hn:n<0
 ·go_wp2
  exact bodyPost_ret (v:=.tuple #[.int .i64 0,.bool false]) (by simp[results,Tryz.results143,go_sem]) rfl ⟨⟨0,by simp,by simp⟩,hlow⟩
 have h1:(0:Int)≤n:=by omega
 have h2:(12:Int)≤n:=by have:=HIN.out;omega
 clear hn
 go_wp2
 exact bodyPost_ret (v:=.tuple #[.int .i64 0,.bool false]) (by simp[results,Tryz.results143,go_sem]) rfl ⟨⟨0,by simp,by simp⟩,hlow⟩
def ptsT (sch:List Int):List Int→List Pt→Option (List Int)
 |T,[]=>some T
 |T,p::ps=>match ptO sch T p with
  |none=>none
  |some t=>ptsT sch (T++[t]) ps
def typX (sch:List Int)(es:List Pt):Option Int:=if 1≤es.length∧es.length≤12 then (ptsT sch [] es).map fun T=>T.getD (es.length-1) 0 else none
theorem ptsT_drop {sch T:List Int}{es:List Pt}{j:Nat}{p:Pt}(hp:es[j]?=some p):ptsT sch T (es.drop j)=match ptO sch T p with
  |none=>none
  |some t=>ptsT sch (T++[t]) (es.drop (j+1)):=by
 obtain⟨hj,hpj⟩:=List.getElem?_eq_some_iff.1 hp
 rw[List.drop_eq_getElem_cons hj,hpj]
 rfl
def PErr (w:World)(pl ex:Addr)(v:Value):Prop:=∃ a r,(a=pl∨a=ex)∧(r=none∨r=some (-1))∧ErrX w v a none r none none none none
theorem PErr.below {w w':World}{pl ex:Addr}{v:Value}(h:PErr w pl ex v)(hb:Below w.heap.size w w'):PErr w' pl ex v:=by
 obtain⟨a,r,h1,h2,h3⟩:=h
 exact⟨a,r,h1,h2,h3.below hb⟩
theorem PErr.root {w:World}(pl ex:Addr):PErr w pl ex (.iface 284 (.pointer (some pl))):=
 ⟨pl,none,.inl rfl,.inl rfl,⟨0,.root pl⟩,⟨0,.root pl⟩,⟨0,.root pl⟩,⟨0,.root pl⟩,⟨0,.root pl⟩,⟨0,.root pl⟩,⟨0,.root pl⟩⟩
theorem PErr.expr {w:World}(pl ex:Addr){b:Nat}{k:Int}(hb:w.heap[b]?=some (.cells #[.int .i64 (-1),.int .i64 k,.iface 284 (.pointer (some ex))] 154 (0,0))):PErr w pl ex (.iface 150 (.pointer (some ⟨b,0,none⟩))):=by
 have h0:w.cell? ⟨b,0,none⟩=some (.int .i64 (-1)):=by simp[World.cell?,hb]
 have h2:w.cell? ⟨b,2,none⟩=some (.iface 284 (.pointer (some ex))):=by simp[World.cell?,hb]
 exact⟨ex,some (-1),.inr rfl,.inr rfl,⟨1,.wrap _ _ _ _ _ _ _ isW_expr h2 (.root ex)⟩,⟨1,.miss _ _ _ _ _ _ _ isW_expr asgExprPlan h2 (.root ex)⟩,⟨0,.hit _ _ h0⟩,⟨1,.miss _ _ _ _ _ _ _ isW_expr asgExprGrp h2 (.root ex)⟩,⟨1,.miss _ _ _ _ _ _ _ isW_expr asgExprTab h2 (.root ex)⟩,⟨1,.miss _ _ _ _ _ _ _ isW_expr asgExprGrp h2 (.root ex)⟩,⟨1,.miss _ _ _ _ _ _ _ isW_expr asgExprDisk h2 (.root ex)⟩⟩
structure TyW (w:World) (cv ev:Value) (T:List Int) (wr:World):Prop where
 ty:TyAt wr w.heap.size cv ev
 own:OwnC wr (w.heap.size+1) 3 ev (T.map iv)
 low:Below w.heap.size w wr
theorem TyW.below {w:World}{cv ev:Value}{T:List Int}{wr W:World}(h:TyW w cv ev T wr)(hb:Below wr.heap.size wr W):TyW w cv ev T W:=
 ⟨(hb.block _ (lt_of_heap h.ty)).trans h.ty,owns_of_block h.own fun g e=>hb.block g (owns_block h.own e).2,below_then h.low hb⟩
theorem TyW.more {w:World}{cv ev ev':Value}{T:List Int}{wr w4:World}(h:TyW w cv ev T wr){t:Int}(hown:OwnC w4 (w.heap.size+1) 3 ev' (T.map iv++[iv t]))(hg:wr.grownBy w4 ev.ownBlock) :
  TyW w cv ev' (T++[t]) (w4.setCell ⟨w.heap.size,1,none⟩ ev')∧TyAt w4 w.heap.size cv ev:=by
 have hne:ev.ownBlock≠some w.heap.size:=fun e=>by have:=(owns_block h.own e).1;omega
 have hb4:TyAt w4 w.heap.size cv ev:=(hg.block _ (lt_of_heap h.ty) (Ne.symm hne)).trans h.ty
 have hs:=heap_set hb4 1 ev'
 simp only[List.setIfInBounds_toArray,List.set_cons_zero,List.set_cons_succ]at hs
 refine⟨⟨hs,?_,?_⟩,hb4⟩
 ·rw[List.map_append]
  exact owns_of_block hown fun g hg'=>Below.heap_setCell _ _ _ _ (by have:=(owns_block hown hg').1;simp;omega)
 exact(below_grown h.low hg fun k hk=>by have:=(owns_block h.own hk).1;omega).setCell (p:=⟨w.heap.size,1,none⟩) (by simp) _
def XTyP (w:World)(pl ex:Addr)(o:Option Int)(e:Ending)(w':World):Prop:=Below w.heap.size w w'∧match o with
 |some t=>e=.returned (.tuple #[.int .i64 t,.nilIface])
 |none=>∃ v,e=.returned (.tuple #[.int .i64 0,v])∧PErr w' pl ex v
theorem xType_size (a:Option Addr)(n pc:Nat)(cv:Value)(w:World)(pl ex:Addr)(hex:w.cell? ⟨7,0,none⟩=some (.iface 284 (.pointer (some ex))))(hn:¬ (1≤n∧n≤12)) :
  Calls Tryz.prog 124 #[.slice a n pc,cv] w (XTyP w pl ex none):=by
 have HF:Hid (XTyP w pl ex none (.returned (.tuple #[.int .i64 0,.iface 150 (.pointer (some ⟨w.heap.size,0,none⟩))])) (w.alloc (.cells #[.int .i64 (-1),.int .i64 (-1),.iface 284 (.pointer (some ex))] 154)).drew):=
  ⟨below_drew1 (below_alloc (Below.refl _ _) _),_,rfl,PErr.expr pl ex (heap_alloc_new w _)⟩
 by_cases h0:n=0
 focus
  subst h0
  clear hn
 rotate_left 1
 focus
  have h1:(1:Int)≤(n:Int):=by omega
  have h2:(12:Int)<(n:Int):=by omega
  clear hn h0
 all_goals
  go_enter Tryz.func124,Tryz.ntmps124
  go_wp2
  go_region_held3 (fun X=>X.cell? ⟨7,0,none⟩=some (.iface 284 (.pointer (some ex)))) (first|go_keep|(repeat (first|assumption|refine cell_alloc ?_|refine cell_drew ?_))) (fail)
  go_wp2
  exact bodyPost_ret (v:=.tuple #[.int .i64 0,.iface 150 (.pointer (some ⟨w.heap.size,0,none⟩))]) (by simp[results,Tryz.results124,go_sem]) rfl HF.out
theorem xType_in (pb po pc:Nat)(es:List Pt)(ca:Option Addr)(cc:Nat)(sch:List Int)(w:World)
  (hP:∀ k p,es[k]?=some p→PartAt w pb (po+k*7) p) (hC:Ints w ca sch) (pl ex:Addr) (hex:w.cell? ⟨7,0,none⟩=some (.iface 284 (.pointer (some ex)))) (h1:1≤es.length) (h12:es.length≤12) :
  Calls Tryz.prog 124 #[.slice (some ⟨pb,po,none⟩) es.length pc,.slice ca sch.length cc] w (XTyP w pl ex (typX sch es)):=by
 have HP:Hid ((∀ k p,es[k]?=some p→PartAt w pb (po+k*7) p)∧Ints w ca sch):=⟨hP,hC⟩
 have HTX:Hid (typX sch es=(ptsT sch [] es).map fun T=>T.getD (es.length-1) 0):=if_pos ⟨h1,h12⟩
 rw[HTX.out]
 clear hP hC HTX
 generalize hfin:((ptsT sch [] es).map fun T=>T.getD (es.length-1) 0)=fin
 have HFI:Hid (((ptsT sch [] es).map fun T=>T.getD (es.length-1) 0)=fin):=hfin
 clear hfin
 go_enter Tryz.func124,Tryz.ntmps124
 go_upto_region 4 with fail
 have hS0:TyW w (.slice ca sch.length cc) (.slice none 0 0) [] (w.alloc (.cells #[.slice ca sch.length cc,.slice none 0 0] 265)):=⟨heap_alloc_new w _,OwnC.nil _ _ _,below_alloc (Below.refl _ _) _⟩
 generalize w.alloc (.cells #[.slice ca sch.length cc,.slice none 0 0] 265)=W0 at hS0 ⊢
 have HS0:Hid _:=hS0
 clear hS0
 go_wp2
 go_loopw [28] (fun i wr=>∃ (T:List Int) (ev:Value),T.length≤es.length∧i=.int .i64 (T.length:Int)∧TyW w (.slice ca sch.length cc) ev T wr∧ptsT sch [] es=ptsT sch T (es.drop T.length)) (fun i _=>es.length-(intOf i).toNat)
 case atStart=>exact⟨[],_,Nat.zero_le _,rfl,HS0.out,rfl⟩
 case round=>
  obtain⟨T,ev,hj,rfl,hS,hpt⟩:=hrel
  have HPT:Hid (ptsT sch [] es=ptsT sch T (es.drop T.length)):=hpt
  clear hpt
  obtain⟨j,hjT⟩:∃ j,j=T.length:=⟨_,rfl⟩
  rw[←hjT]at hj ⊢
  have HJT:Hid (j=T.length):=hjT
  have HS:Hid _:=hS
  obtain⟨ea,ec,hev,hcells⟩:=hS.own.cells
  rw[List.length_map,←hjT]at hev
  subst hev
  by_cases hlt:j<es.length
  ·obtain⟨p,hp⟩:∃ p,es[j]?=some p:=⟨_,List.getElem?_eq_getElem hlt⟩
   obtain⟨y0,y1,y2,y3,y4,y5,y6⟩:=(HP.out.1 j p hp).below hS.low
   have hb1:Below wr.heap.size wr (ptBox wr p):=below_alloc (Below.refl _ _) _
   have hS1:=hS.below hb1
   have hcall:=tPart_any w.heap.size ca cc sch ea ec T p (ptBox wr p) (by rw[←hjT];exact hS1.ty) (HP.out.2.below hS1.low) (Cells.below hcells hb1)
   have HPP:Hid (es[j]?=some p∧j<es.length):=⟨hp,hlt⟩
   have HB1:Hid (Below wr.heap.size wr (ptBox wr p)):=hb1
   have hdr:=ptsT_drop (sch:=sch) (T:=T) hp
   rw[HJT.out]at hdr
   have HDR:Hid _:=HPT.out.trans hdr
   have hex1:=cell_below (below_then hS.low hb1) hex
   clear hS hS1 hb1 hcells hp hdr hjT
   rcases hpo:ptO sch T p with _|tt
   ·rw[hpo]at hcall HDR
    have hfn:fin=none:=by rw[←HFI.out,HDR.out];rfl
    subst hfn
    clear hpo
    go_wp2_with (go_at_call 143;refine hcall.mono ?_;rintro e' W1 ⟨⟨tt,rfl,-⟩,hbp⟩;have HS1:Hid _:=HS.out.below (below_then HB1.out hbp);have hex2:=cell_below hbp hex1)
    have HEN:Hid (XTyP w pl ex none (.returned (.tuple #[.int .i64 0,.iface 150 (.pointer (some ⟨W1.heap.size,0,none⟩))])) (W1.alloc (.cells #[.int .i64 (-1),.int .i64 (j:Int),.iface 284 (.pointer (some ex))] 154)).drew):=
     ⟨below_drew1 (below_alloc HS1.out.low _),_,rfl,PErr.expr pl ex (heap_alloc_new W1 _)⟩
    go_region_held3 (fun X=>X.cell? ⟨7,0,none⟩=some (.iface 284 (.pointer (some ex)))) (first|go_keep|(repeat (first|assumption|refine cell_alloc ?_|refine cell_drew ?_))) (fail)
    go_wp2
    exact bodyPost_ret (v:=.tuple #[.int .i64 0,.iface 150 (.pointer (some ⟨W1.heap.size,0,none⟩))]) (by simp[results,Tryz.results124,go_sem]) rfl HEN.out
   rw[hpo]at hcall HDR
   have HDR2:Hid (ptsT sch [] es=ptsT sch (T++[tt]) (es.drop (T.length+1))):=HDR.out
   clear HDR hpo
   go_wp2_with (first|(go_at_call 143;refine hcall.mono ?_;rintro e' W1 ⟨⟨t5,rfl,ht5⟩,hbp⟩;obtain rfl:=ht5 _ rfl;have HS1:Hid _:=HS.out.below (below_then HB1.out hbp);obtain⟨_,c1⟩:=HS1.out.ty.cells)|(at_builtin;go_must (refine wpList_append_C (by rfl) _ _ 29 3 _ 8 info_int (by rfl) (by decide) (by kernel_rfl) (by rfl) (w.heap.size+1) _ _ (by rfl) (OwnC.alloc HS1.out.own _) ⟨W1.heap.size,0,none⟩ 1 [iv t5] (by rfl) (by exact news_one W1 _ _) (by intro u hu;simp at hu;subst hu;rfl) (by simp only[List.length_cons,List.length_nil,List.length_map];have:=HJT.out;omega) (by simp;have:=lt_of_heap HS1.out.ty;omega) ?_);intro sv' w4 q1 q2 q3;go_must (obtain⟨hS4,hb4⟩:=(HS1.out.below (below_alloc (Below.refl _ _) _)).more (ev':=sv') (w4:=w4) q1 q2);obtain⟨a5,c5,hs5,_⟩:=q1.cells;obtain⟨n5,hn5⟩:∃ n5,n5=(T.map iv++[iv t5]).length:=⟨_,rfl⟩;rw[←hn5]at hs5;clear hn5;subst hs5;obtain⟨_,c44⟩:=hb4.cells;have f44:w4.frozen? ⟨w.heap.size,1,none⟩=false:=(by simp[World.frozen?,show w4.heap[w.heap.size]?=_ from hb4])))
   go_roundw
   case rel=>
    have:=HPP.out.2
    have hjt:=HJT.out
    exact⟨T++[t5],_,by rw[List.length_append,←hjt];simp;omega,by rw[List.length_append,←hjt];simp only[List.length_cons,List.length_nil];go_num,hS4,by rw[List.length_append];exact HDR2.out⟩
   case measure=>have:=HPP.out.2;have:=HJT.out;simp[intOf];omega
  obtain rfl:j=es.length:=by omega
  obtain⟨m,hm⟩:∃ m,es.length=m+1:=⟨es.length-1,by omega⟩
  have hml:m<T.length:=by omega
  obtain⟨eb,eo,rfl,heb,hce⟩:=Ints.at hcells hml
  obtain⟨tt,hte⟩:∃ tt,T[m]=tt:=⟨_,rfl⟩
  have hfn:fin=some tt:=by
   rw[←HFI.out,HPT.out,←hjT,List.drop_length]
   show some (T.getD (es.length-1) 0)=_
   rw[show es.length-1=m by omega,List.getD_eq_getElem?_getD,List.getElem?_eq_getElem hml,hte]
   rfl
  subst hfn
  rw[hte]at hce
  obtain⟨_,c1⟩:=hS.ty.cells
  have hsub:IntKind.i64.wrap ((es.length:Int)-1)=(m:Int):=by rw[IntKind.wrap_i64];omega
  obtain⟨n,hn⟩:∃ n,n=es.length:=⟨_,rfl⟩
  rw[←hn]at c1 hsub ⊢
  have k1:(0:Int)≤(m:Int):=by omega
  have k2:(m:Int)<(n:Int):=by omega
  have hm12:m≤11:=by omega
  have hn12:n≤12:=by omega
  have HLW:Hid (Below w.heap.size w wr):=hS.low
  clear hte hml hm hcells hS HS hlt hj heb hn hjT HJT HPT HFI
  go_upto_region 12 with fail
  refine wp_region_held_drew (S:=fun X=>X.cell? ⟨w.heap.size,1,none⟩=some (.slice (some ⟨eb,eo,none⟩) n ec)∧X.cell? ⟨eb,eo+m,none⟩=some (.int .i64 tt)) (by kernel_rfl) ⟨cell_drew c1,cell_drew hce⟩ (fun hH=>?_)
  refine tkj 0 rfl hH ?_
  refine tkj 1 rfl hH ?_
  refine tkj 2 rfl hH ?_
  refine tkj 3 rfl hH ?_
  refine tkj 4 rfl hH ?_
  refine tkj 5 rfl hH ?_
  refine tkj 6 rfl hH ?_
  refine tkj 7 rfl hH ?_
  refine tkj 8 rfl hH ?_
  refine tkj 9 rfl hH ?_
  refine tkj 10 rfl hH ?_
  refine tkj 11 rfl hH ?_
  refine tkj 12 rfl hH ?_
  refine tkj 13 rfl hH ?_
  refine tkn ?_
  refine wpAnyH_done (by kernel_rfl) ?_ _
  go_wp2
  exact bodyPost_ret (v:=.tuple #[.int .i64 tt,.nilIface]) (by simp[results,Tryz.results124,go_sem]) rfl ⟨below_drew1 HLW.out,by rfl⟩
theorem xType_any (a:Option Addr)(pc:Nat)(es:List Pt)(ca:Option Addr)(cc:Nat)(sch:List Int)(w:World)
  (hP:∀ k p,es[k]?=some p→∃ pb po,a=some ⟨pb,po,none⟩∧PartAt w pb (po+k*7) p) (hC:Ints w ca sch) (pl ex:Addr) (hex:w.cell? ⟨7,0,none⟩=some (.iface 284 (.pointer (some ex)))) :
  Calls Tryz.prog 124 #[.slice a es.length pc,.slice ca sch.length cc] w (XTyP w pl ex (typX sch es)):=by
 by_cases h:1≤es.length∧es.length≤12
 ·obtain⟨pb,po,rfl,_⟩:=hP 0 _ (List.getElem?_eq_getElem (by omega))
  exact xType_in pb po pc es ca cc sch w (fun k p hk=>by obtain⟨b,o,e,h⟩:=hP k p hk;cases e;exact h) hC pl ex hex h.1 h.2
 unfold typX
 rw[if_neg h]
 exact xType_size a es.length pc _ w pl ex hex h
end Go.Proofs.YtkgibdjakgmmcaaGreatDoor
