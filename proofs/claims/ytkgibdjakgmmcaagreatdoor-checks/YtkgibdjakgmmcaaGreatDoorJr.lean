/- Plans, whatever they are: a node's check, as the program makes it; first what takes one other node's rows. -/
import Derived.Test.YtkgibdjakgmmcaaGreatDoorVb
import Derived.Test.YtkgibdjakgmmcaaGreatDoorYh
import Derived.Test.YtkgibdjakgmmcaaGreatDoorXb
import Derived.Test.YtkgibdjakgmmcaaGreatDoorXr
import Derived.Deep.RegionHeld3
import Derived.Shelf.Spec.BitsCarry
import Derived.Maps.Own
import Derived.Maps.OwnOps
import Derived.Maps.OwnSet
import Derived.DeepKeys5
import Derived.Test.YtkgibdjakgmmcaaGreatDoorRh
import Derived.Test.YtkgibdjakgmmcaaGreatDoorTl
import Derived.Test.YtkgibdjakgmmcaaGreatDoorTp
import Derived.Laws.Closers25b
import Derived.Laws.EntriesVeiled
import Derived.Lib.AppendZeros
set_option maxHeartbeats 2000000
set_option maxRecDepth 100000
namespace Go.Proofs.YtkgibdjakgmmcaaGreatDoor
section
open Go.RowKit Go.Shelf
attribute [local go_sem] Oper.semAt_some
structure PlG (w:World) (ev:Value) (pl ex:Addr):Prop where
 p:∀ X,w.grownBy X ev.ownBlock→X.cell? ⟨0,0,none⟩=some (.iface 284 (.pointer (some pl)))
 e:∀ X,w.grownBy X ev.ownBlock→X.cell? ⟨7,0,none⟩=some (.iface 284 (.pointer (some ex)))
theorem grown_refl (w:World)(r:Option Nat):w.grownBy w r:=⟨rfl,rfl,rfl,Nat.le_refl _,fun _ _ _=>rfl⟩
theorem PlG.grow {w X:World}{ev:Value}{pl ex:Addr}(h:PlG w ev pl ex)(hg:w.grownBy X ev.ownBlock):PlG X ev pl ex:=
 ⟨fun Y hY=>h.p Y (grown_trans hg hY),fun Y hY=>h.e Y (grown_trans hg hY)⟩
theorem PlG.below {w X:World}{ev:Value}{pl ex:Addr}(h:PlG w ev pl ex)(hb:Below w.heap.size w X):PlG X ev pl ex:=h.grow (grown_below hb)
theorem PlG.at {w:World}{ev:Value}{pl ex:Addr}(h:PlG w ev pl ex):w.cell? ⟨0,0,none⟩=some (.iface 284 (.pointer (some pl)))∧w.cell? ⟨7,0,none⟩=some (.iface 284 (.pointer (some ex))):=⟨h.p w (grown_refl _ _),h.e w (grown_refl _ _)⟩
def NodeF (w:World)(ev:Value)(pl ex:Addr)(e:Ending)(W':World):Prop:=∃ v,e=.returned (.tuple #[.slice none 0 0,v])∧PErr W' pl ex v∧w.grownBy W' ev.ownBlock
theorem NodeF.pl {w X:World}{ev:Value}{pl ex:Addr}(hg:w.grownBy X ev.ownBlock):NodeF w ev pl ex (.returned (.tuple #[.slice none 0 0,.iface 284 (.pointer (some pl))])) X:=⟨_,rfl,PErr.root pl ex,hg⟩
theorem drew_below {B:Nat}{w X:World}(h:Below B w X):Below B w X.drew:=below_drew1 h
theorem grown_drew {w X:World}{r:Option Nat}(h:w.grownBy X r):w.grownBy X.drew r:=⟨h.os,h.tape,h.output,h.size,h.block⟩
def canTake (ks:List Kn)(i:Int):Prop:=0≤i∧i<ks.length∧∀ k,ks[i.toNat]?=some k→k.2=false
theorem pTake_no (L cb:Nat)(tf ev:Value)(ks:List Kn)(i:Int)(W:World)(h:ChkS L cb tf ev ks W)(pl ex:Addr)(hG:PlG W ev pl ex)(hno:¬ canTake ks i) :
  Calls Tryz.prog 123 #[.pointer (some ⟨cb,0,none⟩),.int .i64 i] W fun e W'=>e=.returned (.tuple #[.slice none 0 0,.iface 284 (.pointer (some pl))])∧Below W.heap.size W W':=by
 obtain⟨_,c1⟩:=h.cells
 obtain⟨gp,_⟩:=hG.at
 obtain⟨sa,sc,hsv⟩:∃ a c,ev=.slice a ks.length c:=by
  rcases h.own with⟨h0,⟨h1,h2⟩|⟨g,cap,cur,h1,_⟩⟩
  ·exact⟨none,0,by rw[h2];exact h1⟩
  exact⟨_,_,h1⟩
 subst hsv
 by_cases h0:i<0
 ·clear hno h hG
  go_enter Tryz.func123,Tryz.ntmps123
  go_wp2
  go_region_held3 (fun X=>X.cell? ⟨0,0,none⟩=some (.iface 284 (.pointer (some pl)))) (first|go_keep|(repeat (first|assumption|refine cell_alloc ?_|refine cell_drew ?_))) (fail)
  go_wp2
  exact bodyPost_ret (v:=.tuple #[.slice none 0 0,.iface 284 (.pointer (some pl))]) (by simp[results,Tryz.results123,go_sem]) rfl ⟨rfl,drew_below (Below.refl _ _)⟩
 have h0':(0:Int)≤i:=by omega
 by_cases h1:(ks.length:Int)≤i
 ·clear hno h hG h0
  go_enter Tryz.func123,Tryz.ntmps123
  go_wp2
  go_region_held3 (fun X=>X.cell? ⟨0,0,none⟩=some (.iface 284 (.pointer (some pl)))) (first|go_keep|(repeat (first|assumption|refine cell_alloc ?_|refine cell_drew ?_))) (fail)
  go_wp2
  exact bodyPost_ret (v:=.tuple #[.slice none 0 0,.iface 284 (.pointer (some pl))]) (by simp[results,Tryz.results123,go_sem]) rfl ⟨rfl,drew_below (Below.refl _ _)⟩
 obtain⟨n,rfl⟩:∃ n:Nat,i=(n:Int):=⟨i.toNat,by omega⟩
 have hn:n<ks.length:=by omega
 have hk:ks[n].2=true:=by
  cases hb:ks[n].2 with
  |true=>rfl
  |false=>exact absurd ⟨h0',by omega,fun k hk=>by rw[Int.toNat_natCast,List.getElem?_eq_getElem hn]at hk;cases hk;exact hb⟩ hno
 obtain⟨g,cap,hev,hgc,hgl,z0,z1,z2,_⟩:=h.at hn
 cases hev
 rw[hk]at z1
 have i2:(n:Int)<(ks.length:Int):=by omega
 clear hno h hG h0 h1 hk
 go_enter Tryz.func123,Tryz.ntmps123
 go_wp2
 go_region_held3 (fun X=>X.cell? ⟨0,0,none⟩=some (.iface 284 (.pointer (some pl)))) (first|go_keep|(repeat (first|assumption|refine cell_alloc ?_|refine cell_drew ?_))) (fail)
 go_wp2
 exact bodyPost_ret (v:=.tuple #[.slice none 0 0,.iface 284 (.pointer (some pl))]) (by simp[results,Tryz.results123,go_sem]) rfl ⟨rfl,drew_below (Below.refl _ _)⟩
theorem canTake.get {ks:List Kn}{i:Int}(h:canTake ks i):∃ (n:Nat) (hn:n<ks.length),i=(n:Int)∧ks[n].2=false:=by
 obtain⟨h0,h1,h2⟩:=h
 have hn:i.toNat<ks.length:=by omega
 exact⟨i.toNat,hn,by omega,h2 _ (List.getElem?_eq_getElem hn)⟩
theorem pFilter_take (L cb:Nat)(tf ev:Value)(ks:List Kn)(nd:Nd)(w:World)(h:ChkS L cb tf ev ks w)(pl ex:Addr)(hG:PlG w ev pl ex)(hno:¬ canTake ks nd.l) :
  Calls Tryz.prog 103 #[.pointer (some ⟨cb,0,none⟩),nd.val] w (NodeF w ev pl ex):=by
 have hbb:Below w.heap.size w (ndBox w nd):=below_alloc (Below.refl _ _) _
 obtain⟨_,n1,_⟩:=ndBox_at w nd
 rw[Nat.zero_add]at n1
 have htk:=pTake_no L cb tf ev ks nd.l (ndBox w nd) (h.below hbb) pl ex (hG.below hbb) hno
 clear h hG hno
 go_enter Tryz.func103,Tryz.ntmps103
 go_wp2_with (go_at_call 123;refine htk.mono ?_;rintro e' W1 ⟨rfl,hb1⟩)
 exact bodyPost_ret (v:=.tuple #[.slice none 0 0,.iface 284 (.pointer (some pl))]) (by simp[results,Tryz.results103,go_sem]) rfl (NodeF.pl (grown_below (below_then hbb hb1)))
theorem pProject_take (L cb:Nat)(tf ev:Value)(ks:List Kn)(nd:Nd)(w:World)(h:ChkS L cb tf ev ks w)(pl ex:Addr)(hG:PlG w ev pl ex)(hno:¬ canTake ks nd.l) :
  Calls Tryz.prog 104 #[.pointer (some ⟨cb,0,none⟩),nd.val] w (NodeF w ev pl ex):=by
 have hbb:Below w.heap.size w (ndBox w nd):=below_alloc (Below.refl _ _) _
 obtain⟨_,n1,_⟩:=ndBox_at w nd
 rw[Nat.zero_add]at n1
 have htk:=pTake_no L cb tf ev ks nd.l (ndBox w nd) (h.below hbb) pl ex (hG.below hbb) hno
 clear h hG hno
 go_enter Tryz.func104,Tryz.ntmps104
 go_wp2_with (go_at_call 123;refine htk.mono ?_;rintro e' W1 ⟨rfl,hb1⟩)
 exact bodyPost_ret (v:=.tuple #[.slice none 0 0,.iface 284 (.pointer (some pl))]) (by simp[results,Tryz.results104,go_sem]) rfl (NodeF.pl (grown_below (below_then hbb hb1)))
theorem pGroup_take (L cb:Nat)(tf ev:Value)(ks:List Kn)(nd:Nd)(w:World)(h:ChkS L cb tf ev ks w)(pl ex:Addr)(hG:PlG w ev pl ex)(hno:¬ canTake ks nd.l) :
  Calls Tryz.prog 106 #[.pointer (some ⟨cb,0,none⟩),nd.val] w (NodeF w ev pl ex):=by
 have hbb:Below w.heap.size w (ndBox w nd):=below_alloc (Below.refl _ _) _
 obtain⟨_,n1,_⟩:=ndBox_at w nd
 rw[Nat.zero_add]at n1
 have htk:=pTake_no L cb tf ev ks nd.l (ndBox w nd) (h.below hbb) pl ex (hG.below hbb) hno
 clear h hG hno
 go_enter Tryz.func106,Tryz.ntmps106
 go_wp2_with (go_at_call 123;refine htk.mono ?_;rintro e' W1 ⟨rfl,hb1⟩)
 exact bodyPost_ret (v:=.tuple #[.slice none 0 0,.iface 284 (.pointer (some pl))]) (by simp[results,Tryz.results106,go_sem]) rfl (NodeF.pl (grown_below (below_then hbb hb1)))
theorem pSort_take (L cb:Nat)(tf ev:Value)(ks:List Kn)(nd:Nd)(w:World)(h:ChkS L cb tf ev ks w)(pl ex:Addr)(hG:PlG w ev pl ex)(hno:¬ canTake ks nd.l) :
  Calls Tryz.prog 107 #[.pointer (some ⟨cb,0,none⟩),nd.val] w (NodeF w ev pl ex):=by
 have hbb:Below w.heap.size w (ndBox w nd):=below_alloc (Below.refl _ _) _
 obtain⟨_,n1,_⟩:=ndBox_at w nd
 rw[Nat.zero_add]at n1
 have htk:=pTake_no L cb tf ev ks nd.l (ndBox w nd) (h.below hbb) pl ex (hG.below hbb) hno
 clear h hG hno
 go_enter Tryz.func107,Tryz.ntmps107
 go_wp2_with (go_at_call 123;refine htk.mono ?_;rintro e' W1 ⟨rfl,hb1⟩)
 exact bodyPost_ret (v:=.tuple #[.slice none 0 0,.iface 284 (.pointer (some pl))]) (by simp[results,Tryz.results107,go_sem]) rfl (NodeF.pl (grown_below (below_then hbb hb1)))
theorem pLimit_take (L cb:Nat)(tf ev:Value)(ks:List Kn)(nd:Nd)(w:World)(h:ChkS L cb tf ev ks w)(pl ex:Addr)(hG:PlG w ev pl ex)(hno:¬ canTake ks nd.l) :
  Calls Tryz.prog 108 #[.pointer (some ⟨cb,0,none⟩),nd.val] w (NodeF w ev pl ex):=by
 have hbb:Below w.heap.size w (ndBox w nd):=below_alloc (Below.refl _ _) _
 obtain⟨_,n1,_⟩:=ndBox_at w nd
 rw[Nat.zero_add]at n1
 have htk:=pTake_no L cb tf ev ks nd.l (ndBox w nd) (h.below hbb) pl ex (hG.below hbb) hno
 clear h hG hno
 go_enter Tryz.func108,Tryz.ntmps108
 go_wp2_with (go_at_call 123;refine htk.mono ?_;rintro e' W1 ⟨rfl,hb1⟩)
 exact bodyPost_ret (v:=.tuple #[.slice none 0 0,.iface 284 (.pointer (some pl))]) (by simp[results,Tryz.results108,go_sem]) rfl (NodeF.pl (grown_below (below_then hbb hb1)))
theorem pScan_no (L cb s:Nat)(ev:Value)(ks:List Kn)(nd:Nd)(w:World)(h:ChkS L cb (.func (.func 21) #[.pointer (some ⟨s,0,none⟩)] #[]) ev ks w)(pl ex:Addr)(hG:PlG w ev pl ex)
  (hty:∀ X,Below w.heap.size w X→Calls Tryz.prog 21 #[.pointer (some ⟨s,0,none⟩),.string nd.tn] X fun e w'=>Below X.heap.size X w'∧e=.returned (.tuple #[.slice none 0 0,.bool false])) :
  Calls Tryz.prog 102 #[.pointer (some ⟨cb,0,none⟩),nd.val] w (NodeF w ev pl ex):=by
 have HTY:Hid _:=hty
 obtain⟨c0,_⟩:=h.cells
 have hbb:Below w.heap.size w (ndBox w nd):=below_alloc (Below.refl _ _) _
 obtain⟨_,_,_,b3,_,_,_⟩:=ndBox_at w nd
 have HG:Hid (PlG w ev pl ex):=hG
 clear h hty hG
 go_enter Tryz.func102,Tryz.ntmps102
 go_upto_region 1 with fail
 refine wp_region_held_drew (S:=fun X=>X.cell? ⟨cb,0,none⟩=some (.func (.func 21) #[.pointer (some ⟨s,0,none⟩)] #[])∧X.cell? ⟨w.heap.size,3,none⟩=some (.string nd.tn)) (by kernel_rfl) ⟨cell_drew (cell_alloc c0),cell_drew b3⟩ (fun hH=>?_)
 refine tkj 0 rfl hH ?_
 refine tkj 1 rfl hH ?_
 refine tkj 2 rfl hH ?_
 refine tkj 3 rfl hH ?_
 refine tkj 4 rfl hH ?_
 refine tkj 5 rfl hH ?_
 refine tkn ?_
 refine tkr 6 rfl fun K hK=>?_
 go_simp
 refine(HTY.out (ndBox w nd).drew (below_drew1 hbb)).mono ?_
 rintro e X1 ⟨hx1,rfl⟩
 go_simp
 refine hK.out _ _ ⟨cell_below hx1 hH.1,cell_below hx1 hH.2⟩ (fun hH=>?_)
 clear hK K
 refine tkj 7 rfl hH ?_
 refine tkj 8 rfl hH ?_
 refine tkj 9 rfl hH ?_
 refine tkj 10 rfl hH ?_
 refine tkj 11 rfl hH ?_
 refine tkn ?_
 refine wpAnyH_done (by kernel_rfl) ?_ _
 have hbx:Below w.heap.size w X1:=below_then (below_drew1 hbb) hx1
 have gp:=(HG.out.below hbx).at.1
 clear hH
 go_wp2
 go_region_held3 (fun X=>X.cell? ⟨0,0,none⟩=some (.iface 284 (.pointer (some pl)))) (first|go_keep|(repeat (first|assumption|refine cell_alloc ?_|refine cell_drew ?_))) (fail)
 go_wp2
 exact bodyPost_ret (v:=.tuple #[.slice none 0 0,.iface 284 (.pointer (some pl))]) (by simp[results,Tryz.results102,go_sem]) rfl (NodeF.pl (grown_drew (grown_below hbx)))
theorem tTypes_no (n:ByteArray)(w:World)(G:Nat→Prop)(s d:Nat)(Ts:List TS)(sv:Value)(bs:List Nat)(h:SetX w G s d Ts sv bs)(hk:¬ findI Ts n<Ts.length) :
  Calls Tryz.prog 21 #[.pointer (some ⟨s,0,none⟩),.string n] w fun e w'=>Below w.heap.size w w'∧e=.returned (.tuple #[.slice none 0 0,.bool false]):=by
 have hf:=tFind_any n w G s d Ts sv bs h
 have hfv:findV Ts n=-1:=by unfold findV;rw[if_neg hk]
 rw[hfv]at hf
 clear hfv h hk
 go_enter Tryz.func21,Tryz.ntmps21
 go_wp2_with (go_at_call 35;refine hf.mono ?_;rintro e W1 ⟨rfl,hb1⟩)
 go_ret2
 exact⟨hb1,rfl⟩
attribute [local go_sem] Oper.semAt_some
structure Kz where
 c:Int
 o:Int
 d:Bool
 f:Int
structure QN where
 op:Int
 l:Int
 r:Int
 tn:ByteArray
 es:List (List Pt)
 ks:List Kz
 kk:Int
def KzsAt (w:World)(a:Option Addr)(ks:List Kz):Prop:=∀ (j:Nat) (k:Kz),ks[j]?=some k→∃ b o,a=some ⟨b,o,none⟩∧w.cell? ⟨b,o+j*4,none⟩=some (.int .i64 k.c)∧w.cell? ⟨b,o+j*4+1,none⟩=some (.int .i64 k.o)∧w.cell? ⟨b,o+j*4+2,none⟩=some (.bool k.d)∧w.cell? ⟨b,o+j*4+3,none⟩=some (.int .i64 k.f)
def PtsIn (w:World)(a:Option Addr)(es:List Pt):Prop:=∀ (k:Nat) (p:Pt),es[k]?=some p→∃ b o,a=some ⟨b,o,none⟩∧PartAt w b (o+k*7) p
def EsIn (w:World)(a:Option Addr)(ess:List (List Pt)):Prop:=∀ (j:Nat) (es:List Pt),ess[j]?=some es→∃ b o pa pc,a=some ⟨b,o,none⟩∧w.cell? ⟨b,o+j,none⟩=some (.slice pa es.length pc)∧PtsIn w pa es
structure NdQ (w:World) (nd:Nd) (n:QN):Prop where
 op:nd.op=n.op
 l:nd.l=n.l
 r:nd.r=n.r
 tn:nd.tn=n.tn
 kk:nd.kk=n.kk
 xl:nd.xs.2.1=n.es.length
 xs:EsIn w nd.xs.1 n.es
 kl:nd.ky.2.1=n.ks.length
 ky:KzsAt w nd.ky.1 n.ks
def NodeR (L cb:Nat)(tf ev:Value)(ks':List Kn)(o:Option (List Int))(pl ex:Addr)(w:World)(e:Ending)(W':World):Prop:=match o with
 |some sch=>NodeP L cb tf ev ks' sch w e W'
 |none=>NodeF w ev pl ex e W'
theorem nodeP_same {L cb:Nat}{tf ev:Value}{ks':List Kn}{s:Sch}{w W1 W2:World}(hS:ChkS L cb tf ev ks' W1)(hg:w.grownBy W1 ev.ownBlock)(hmem:(s,true)∈ks')(hb:Below W1.heap.size W1 W2):NodeP L cb tf ev ks' s.2.2 w (.returned (.tuple #[schV s,.nilIface])) W2:=by
 refine⟨s.1,s.2.1,rfl,hS.below hb,grown_trans hg (grown_below hb),(hS.ints (s,true) hmem).below hb,fun g o e=>?_⟩
 have:=hS.off (s,true) hmem g o e
 exact⟨this.1,this.2.1,Nat.lt_of_lt_of_le this.2.2 hb.size,.inr ⟨(s,true),hmem,e⟩⟩
theorem xType_no {a:Option Addr}{pc:Nat}{es:List Pt}{ca:Option Addr}{cc:Nat}{sch:List Int}{w:World}{pl ex:Addr}(h:Calls Tryz.prog 124 #[.slice a es.length pc,.slice ca sch.length cc] w (XTyP w pl ex none)) :
  Calls Tryz.prog 124 #[.slice a es.length pc,.slice ca sch.length cc] w fun e w'=>∃ ty x,e=.returned (.tuple #[.int .i64 0,.iface ty x])∧PErr w' pl ex (.iface ty x)∧Below w.heap.size w w':=h.mono fun e w' ⟨hb,v,he,hp⟩=>by
 obtain⟨b,r,h1,h2,h3⟩:=hp
 obtain⟨ty,x,rfl⟩:=h3.iface
 exact⟨ty,x,he,⟨b,r,h1,h2,h3⟩,hb⟩
theorem xType_yes {a:Option Addr}{pc:Nat}{es:List Pt}{ca:Option Addr}{cc:Nat}{sch:List Int}{w:World}{pl ex:Addr}{t:Int}(h:Calls Tryz.prog 124 #[.slice a es.length pc,.slice ca sch.length cc] w (XTyP w pl ex (some t))) :
  Calls Tryz.prog 124 #[.slice a es.length pc,.slice ca sch.length cc] w fun e w'=>e=.returned (.tuple #[.int .i64 t,.nilIface])∧Below w.heap.size w w':=h.mono fun _ _ ⟨hb,he⟩=>⟨he,hb⟩
def filtQ (s:List Int)(n:QN):Option (List Int):=match n.es with
 |[]=>none
 |e::_=>if typX s e=some 2 then some s else none
theorem pFilter_any (L cb:Nat)(tf ev:Value)(ks:List Kn)(nd:Nd)(n:QN)(i:Nat)(w:World)(h:ChkS L cb tf ev ks w)(hl:nd.l=(i:Int))(hi:i<ks.length)(hn:ks[i].2=false)(pl ex:Addr)(hG:PlG w ev pl ex)(hQ:∀ X,w.grownBy X ev.ownBlock→NdQ X nd n) :
  Calls Tryz.prog 103 #[.pointer (some ⟨cb,0,none⟩),nd.val] w (NodeR L cb tf ev (ks.set i (ks[i].1,true)) (filtQ ks[i].1.2.2 n) pl ex w):=by
 have hbb:Below w.heap.size w (ndBox w nd):=below_alloc (Below.refl _ _) _
 have hq:=ndBox_at w nd
 have hS:=h.below hbb
 have htk:=pTake_ok L cb tf ev ks i (ndBox w nd) hS hi hn
 have hob:ev.ownBlock≠some w.heap.size:=fun e=>by have:=(owns_block h.own e).2;omega
 have hmem:(ks[i].1,true)∈ks.set i (ks[i].1,true):=List.mem_set hi _
 have HQ:Hid (NodeAt (ndBox w nd) w.heap.size 0 nd∧ev.ownBlock≠some w.heap.size∧Below w.heap.size w (ndBox w nd)):=⟨hq,hob,hbb⟩
 have HN:Hid (∀ X,w.grownBy X ev.ownBlock→NdQ X nd n):=hQ
 have HG:Hid (PlG w ev pl ex):=hG
 have n1:=hq.2.1
 rw[hl,Nat.zero_add]at n1
 have hnn:=run_neq_nil_nil (P:=Tryz.prog)
 obtain⟨s,hs⟩:∃ s,s=ks[i].1:=⟨_,rfl⟩
 rw[←hs]at htk hmem ⊢
 have HM:Hid ((s,true)∈ks.set i (s,true)):=hmem
 obtain⟨R,hR⟩:∃ R,filtQ s.2.2 n=R:=⟨_,rfl⟩
 rw[hR]
 have HR:Hid (filtQ s.2.2 n=R):=hR
 clear hs hl hq hob hbb hS h hn hG hQ hmem hR
 go_enter Tryz.func103,Tryz.ntmps103
 go_upto_region 4 with(go_at_call 123;refine htk.mono ?_;rintro e' W1 ⟨rfl,hS1,hg1,hz1⟩)
 have hgw:w.grownBy W1 ev.ownBlock:=grown_trans (grown_below HQ.out.2.2) hg1
 obtain⟨_,_,_,_,p4,p5,p6⟩:=node_grown HQ.out.1 hg1 HQ.out.2.1
 rw[Nat.zero_add]at p4 p5 p6
 obtain⟨gp,ge⟩:=(HG.out.grow hgw).at
 have hnq:=HN.out W1 hgw
 have HW:Hid (ChkS L cb tf ev (ks.set i (s,true)) W1∧w.grownBy W1 ev.ownBlock∧Ints W1 s.1 s.2.2):=⟨hS1,hgw,hS1.ints (s,true) HM.out⟩
 clear hS1 hgw hg1 hz1 htk n1 HN HG HQ hi p5 p6
 rw[hnq.xl]at p4
 have hxs:=hnq.xs
 clear hnq
 rcases hes:n.es with _|⟨e,es⟩
 ·obtain rfl:R=none:=by rw[←HR.out];unfold filtQ;rw[hes]
  rw[hes]at p4
  clear hes HR hxs
  simp only[List.length_nil]at p4
  go_wp2
  go_region_held3 (fun X=>X.cell? ⟨0,0,none⟩=some (.iface 284 (.pointer (some pl)))) (first|go_keep|(repeat (first|assumption|refine cell_alloc ?_|refine cell_drew ?_))) (fail)
  go_wp2
  exact bodyPost_ret (v:=.tuple #[.slice none 0 0,.iface 284 (.pointer (some pl))]) (by simp[results,Tryz.results103,go_sem]) rfl (NodeF.pl (grown_drew HW.out.2.1))
 obtain⟨b,o,pa,pc,e1,q1,q2⟩:=hxs 0 e (by rw[hes];rfl)
 have HR2:Hid ((if typX s.2.2 e=some 2 then some s.2.2 else none)=R):=by have:=HR.out;unfold filtQ at this;rw[hes]at this;exact this
 have hxt:=xType_any pa pc e s.1 s.2.1 s.2.2 W1 q2 HW.out.2.2 pl ex ge
 rw[e1,hes]at p4
 rw[Nat.add_zero]at q1
 obtain⟨m,hm⟩:∃ m,m=(e::es).length:=⟨_,rfl⟩
 rw[←hm]at p4
 have k1:(1:Int)≤(m:Int):=by rw[hm];simp;omega
 have k0:(0:Int)<(m:Int):=by omega
 clear hes HR e1 q2 hxs hm ge
 rcases hx:typX s.2.2 e with _|t
 ·rw[hx]at hxt HR2
  replace hxt:=xType_no hxt
  obtain rfl:R=none:=HR2.out.symm
  clear hx HR2
  go_wp2_with (go_at_call 124;refine hxt.mono ?_;rintro e' W2 ⟨ty,x,rfl,hpe,hb2⟩)
  exact bodyPost_ret (v:=.tuple #[.slice none 0 0,.iface ty x]) (by simp[results,Tryz.results103,go_sem]) rfl ⟨_,rfl,hpe,grown_trans HW.out.2.1 (grown_below hb2)⟩
 rw[hx]at hxt HR2
 replace hxt:=xType_yes hxt
 clear hx
 by_cases h2:t=2
 ·subst h2
  obtain rfl:R=some s.2.2:=HR2.out.symm
  clear HR2
  go_wp2_with (go_at_call 124;refine hxt.mono ?_;rintro e' W2 ⟨rfl,hb2⟩)
  exact bodyPost_ret (v:=.tuple #[schV s,.nilIface]) (by simp[results,Tryz.results103,go_sem]) rfl (nodeP_same HW.out.1 HW.out.2.1 HM.out hb2)
 obtain rfl:R=none:=by rw[←HR2.out];simp[h2]
 clear HR2
 go_wp2_with (go_at_call 124;refine hxt.mono ?_;rintro e' W2 ⟨rfl,hb2⟩;have gp2:=cell_below hb2 gp)
 go_region_held3 (fun X=>X.cell? ⟨0,0,none⟩=some (.iface 284 (.pointer (some pl)))) (first|go_keep|(repeat (first|assumption|refine cell_alloc ?_|refine cell_drew ?_))) (fail)
 go_wp2
 exact bodyPost_ret (v:=.tuple #[.slice none 0 0,.iface 284 (.pointer (some pl))]) (by simp[results,Tryz.results103,go_sem]) rfl (NodeF.pl (grown_drew (grown_trans HW.out.2.1 (grown_below hb2))))
def limQ (s:List Int)(n:QN):Option (List Int):=if 0≤n.kk∧n.kk≤1000 then some s else none
theorem pLimit_any (L cb:Nat)(tf ev:Value)(ks:List Kn)(nd:Nd)(n:QN)(i:Nat)(w:World)(h:ChkS L cb tf ev ks w)(hl:nd.l=(i:Int))(hi:i<ks.length)(hn:ks[i].2=false)(pl ex:Addr)(hG:PlG w ev pl ex)(hQ:∀ X,w.grownBy X ev.ownBlock→NdQ X nd n) :
  Calls Tryz.prog 108 #[.pointer (some ⟨cb,0,none⟩),nd.val] w (NodeR L cb tf ev (ks.set i (ks[i].1,true)) (limQ ks[i].1.2.2 n) pl ex w):=by
 have hbb:Below w.heap.size w (ndBox w nd):=below_alloc (Below.refl _ _) _
 have hq:=ndBox_at w nd
 have hS:=h.below hbb
 have htk:=pTake_ok L cb tf ev ks i (ndBox w nd) hS hi hn
 have hob:ev.ownBlock≠some w.heap.size:=fun e=>by have:=(owns_block h.own e).2;omega
 have hmem:(ks[i].1,true)∈ks.set i (ks[i].1,true):=List.mem_set hi _
 have HQ:Hid (NodeAt (ndBox w nd) w.heap.size 0 nd∧ev.ownBlock≠some w.heap.size∧Below w.heap.size w (ndBox w nd)):=⟨hq,hob,hbb⟩
 have HN:Hid (∀ X,w.grownBy X ev.ownBlock→NdQ X nd n):=hQ
 have HG:Hid (PlG w ev pl ex):=hG
 have n1:=hq.2.1
 rw[hl,Nat.zero_add]at n1
 have hnn:=run_neq_nil_nil (P:=Tryz.prog)
 obtain⟨s,hs⟩:∃ s,s=ks[i].1:=⟨_,rfl⟩
 rw[←hs]at htk hmem ⊢
 have HM:Hid ((s,true)∈ks.set i (s,true)):=hmem
 obtain⟨R,hR⟩:∃ R,limQ s.2.2 n=R:=⟨_,rfl⟩
 rw[hR]
 have HR:Hid (limQ s.2.2 n=R):=hR
 clear hs hl hq hob hbb hS h hn hG hQ hmem hR
 go_enter Tryz.func108,Tryz.ntmps108
 go_upto_region 4 with(go_at_call 123;refine htk.mono ?_;rintro e' W1 ⟨rfl,hS1,hg1,hz1⟩)
 have hgw:w.grownBy W1 ev.ownBlock:=grown_trans (grown_below HQ.out.2.2) hg1
 obtain⟨_,_,_,_,p4,p5,p6⟩:=node_grown HQ.out.1 hg1 HQ.out.2.1
 rw[Nat.zero_add]at p4 p5 p6
 obtain⟨gp,ge⟩:=(HG.out.grow hgw).at
 have hnq:=HN.out W1 hgw
 have HW:Hid (ChkS L cb tf ev (ks.set i (s,true)) W1∧w.grownBy W1 ev.ownBlock∧Ints W1 s.1 s.2.2):=⟨hS1,hgw,hS1.ints (s,true) HM.out⟩
 clear hS1 hgw hg1 hz1 htk n1 HN HG HQ hi p4 p5 ge
 rw[hnq.kk]at p6
 clear hnq
 generalize hkk:n.kk=kk at p6
 by_cases h0:kk<0
 ·obtain rfl:R=none:=by rw[←HR.out];unfold limQ;rw[hkk];exact if_neg fun h=>by omega
  clear hkk HR
  go_wp2
  go_region_held3 (fun X=>X.cell? ⟨0,0,none⟩=some (.iface 284 (.pointer (some pl)))) (first|go_keep|(repeat (first|assumption|refine cell_alloc ?_|refine cell_drew ?_))) (fail)
  go_wp2
  exact bodyPost_ret (v:=.tuple #[.slice none 0 0,.iface 284 (.pointer (some pl))]) (by simp[results,Tryz.results108,go_sem]) rfl (NodeF.pl (grown_drew HW.out.2.1))
 have h0':(0:Int)≤kk:=by omega
 by_cases h1:1000<kk
 ·obtain rfl:R=none:=by rw[←HR.out];unfold limQ;rw[hkk];exact if_neg fun h=>by omega
  clear hkk HR h0
  go_wp2
  go_region_held3 (fun X=>X.cell? ⟨0,0,none⟩=some (.iface 284 (.pointer (some pl)))) (first|go_keep|(repeat (first|assumption|refine cell_alloc ?_|refine cell_drew ?_))) (fail)
  go_wp2
  exact bodyPost_ret (v:=.tuple #[.slice none 0 0,.iface 284 (.pointer (some pl))]) (by simp[results,Tryz.results108,go_sem]) rfl (NodeF.pl (grown_drew HW.out.2.1))
 have h1':kk≤1000:=by omega
 obtain rfl:R=some s.2.2:=by rw[←HR.out];unfold limQ;rw[hkk];exact if_pos ⟨h0',h1'⟩
 clear hkk HR h0 h1
 go_wp2
 exact bodyPost_ret (v:=.tuple #[schV s,.nilIface]) (by simp[results,Tryz.results108,go_sem]) rfl (nodeP_same HW.out.1 HW.out.2.1 HM.out (Below.refl _ _))
theorem canBeKeys_any (a:Option Addr)(n c:Nat)(w:World):Calls Tryz.prog 126 #[.slice a n c] w fun e w'=>e=.returned (.bool (decide (1≤n∧n≤4)))∧w'=w:=by
 by_cases h1:1≤n
 ·have k1:(1:Int)≤(n:Int):=by omega
  by_cases h4:n≤4
  ·have k4:(n:Int)≤4:=by omega
   rw[decide_eq_true ⟨h1,h4⟩]
   clear h1 h4
   go_enter Tryz.func126,Tryz.ntmps126
   go_wp2
   go_ret
   exact⟨rfl,rfl⟩
  have k4:(4:Int)<(n:Int):=by omega
  rw[decide_eq_false fun h=>h4 h.2]
  clear h1 h4
  go_enter Tryz.func126,Tryz.ntmps126
  go_wp2
  go_ret
  exact⟨by simp;omega,rfl⟩
 have k1:(n:Int)<1:=by omega
 rw[decide_eq_false fun h=>h1 h.1]
 clear h1
 go_enter Tryz.func126,Tryz.ntmps126
 go_wp2
 go_ret
 exact⟨rfl,rfl⟩
def srtQ (s:List Int)(n:QN):Option (List Int):=if (1≤n.ks.length∧n.ks.length≤4)∧∀ k∈n.ks,(tyI s k.c).isSome=true then some s else none
theorem pSort_any (L cb:Nat)(tf ev:Value)(ks:List Kn)(nd:Nd)(n:QN)(i:Nat)(w:World)(h:ChkS L cb tf ev ks w)(hl:nd.l=(i:Int))(hi:i<ks.length)(hn:ks[i].2=false)(pl ex:Addr)(hG:PlG w ev pl ex)(hQ:∀ X,w.grownBy X ev.ownBlock→NdQ X nd n) :
  Calls Tryz.prog 107 #[.pointer (some ⟨cb,0,none⟩),nd.val] w (NodeR L cb tf ev (ks.set i (ks[i].1,true)) (srtQ ks[i].1.2.2 n) pl ex w):=by
 have hbb:Below w.heap.size w (ndBox w nd):=below_alloc (Below.refl _ _) _
 have hq:=ndBox_at w nd
 have hS:=h.below hbb
 have htk:=pTake_ok L cb tf ev ks i (ndBox w nd) hS hi hn
 have hob:ev.ownBlock≠some w.heap.size:=fun e=>by have:=(owns_block h.own e).2;omega
 have hmem:(ks[i].1,true)∈ks.set i (ks[i].1,true):=List.mem_set hi _
 have HQ:Hid (NodeAt (ndBox w nd) w.heap.size 0 nd∧ev.ownBlock≠some w.heap.size∧Below w.heap.size w (ndBox w nd)):=⟨hq,hob,hbb⟩
 have HN:Hid (∀ X,w.grownBy X ev.ownBlock→NdQ X nd n):=hQ
 have HG:Hid (PlG w ev pl ex):=hG
 have n1:=hq.2.1
 rw[hl,Nat.zero_add]at n1
 have hnn:=run_neq_nil_nil (P:=Tryz.prog)
 obtain⟨s,hs⟩:∃ s,s=ks[i].1:=⟨_,rfl⟩
 rw[←hs]at htk hmem ⊢
 have HM:Hid ((s,true)∈ks.set i (s,true)):=hmem
 obtain⟨R,hR⟩:∃ R,srtQ s.2.2 n=R:=⟨_,rfl⟩
 rw[hR]
 have HR:Hid (srtQ s.2.2 n=R):=hR
 clear hs hl hq hob hbb hS h hn hG hQ hmem hR
 go_enter Tryz.func107,Tryz.ntmps107
 go_upto_region 4 with(go_at_call 123;refine htk.mono ?_;rintro e' W1 ⟨rfl,hS1,hg1,hz1⟩)
 have hgw:w.grownBy W1 ev.ownBlock:=grown_trans (grown_below HQ.out.2.2) hg1
 obtain⟨_,_,_,_,p4,p5,p6⟩:=node_grown HQ.out.1 hg1 HQ.out.2.1
 rw[Nat.zero_add]at p4 p5 p6
 obtain⟨gp,ge⟩:=(HG.out.grow hgw).at
 have hnq:=HN.out W1 hgw
 have HW:Hid (ChkS L cb tf ev (ks.set i (s,true)) W1∧w.grownBy W1 ev.ownBlock∧Ints W1 s.1 s.2.2):=⟨hS1,hgw,hS1.ints (s,true) HM.out⟩
 clear hS1 hgw hg1 hz1 htk n1 HN HG HQ hi p4 p6 ge
 rw[hnq.kl]at p5
 have hky:=hnq.ky
 clear hnq
 generalize hkz:n.ks=kz at p5 hky
 have hcb:=canBeKeys_any nd.ky.1 kz.length nd.ky.2.2 W1
 by_cases hlen:1≤kz.length∧kz.length≤4
 rotate_left
 ·rw[decide_eq_false hlen]at hcb
  obtain rfl:R=none:=by rw[←HR.out];unfold srtQ;rw[hkz];exact if_neg fun h=>hlen h.1
  clear HR hky hlen
  go_wp2_with (go_at_call 126;refine hcb.mono ?_;rintro e' W2 ⟨rfl,rfl⟩)
  go_region_held3 (fun X=>X.cell? ⟨0,0,none⟩=some (.iface 284 (.pointer (some pl)))) (first|go_keep|(repeat (first|assumption|refine cell_alloc ?_|refine cell_drew ?_))) (fail)
  go_wp2
  exact bodyPost_ret (v:=.tuple #[.slice none 0 0,.iface 284 (.pointer (some pl))]) (by simp[results,Tryz.results107,go_sem]) rfl (NodeF.pl (grown_drew HW.out.2.1))
 rw[decide_eq_true hlen]at hcb
 obtain⟨kb,ko,hka,-⟩:=hky 0 _ (List.getElem?_eq_getElem (by omega))
 rw[hka]at p5 hcb
 have hl4:=hlen.2
 have HKY:Hid (∀ X,Below W1.heap.size W1 X→∀ (j:Nat) (k:Kz),kz[j]?=some k→X.cell? ⟨kb,ko+j*4,none⟩=some (.int .i64 k.c)∧X.cell? ⟨kb,ko+j*4+1,none⟩=some (.int .i64 k.o)∧X.cell? ⟨kb,ko+j*4+2,none⟩=some (.bool k.d)∧X.cell? ⟨kb,ko+j*4+3,none⟩=some (.int .i64 k.f)):=fun X hX j k hk=>by
  obtain⟨b',o',e',q0,q1,q2,q3⟩:=hky j k hk
  rw[hka]at e'
  cases e'
  exact⟨cell_below hX q0,cell_below hX q1,cell_below hX q2,cell_below hX q3⟩
 have HLN:Hid (1≤kz.length):=hlen.1
 have HR2:Hid ((if ∀ k∈kz,(tyI s.2.2 k.c).isSome=true then some s.2.2 else none)=R):=by
  show _=_
  rw[←HR.out]
  unfold srtQ
  rw[hkz]
  by_cases hh:∀ k∈kz,(tyI s.2.2 k.c).isSome=true
  ·rw[if_pos hh,if_pos ⟨hlen,hh⟩]
  rw[if_neg hh,if_neg fun h=>hh h.2]
 clear HR hkz hky hka hlen
 go_wp2_with (go_at_call 126;refine hcb.mono ?_;rintro e' W2 ⟨rfl,rfl⟩)
 go_loopw [30] (fun i wr=>∃ j:Nat,j≤kz.length∧i=.int .i64 (j:Int)∧Below W2.heap.size W2 wr∧∀ k∈kz.take j,(tyI s.2.2 k.c).isSome=true) (fun i _=>kz.length-(intOf i).toNat)
 case atStart=>exact⟨0,Nat.zero_le _,rfl,Below.refl _ _,by simp⟩
 case round=>
  obtain⟨j,hj,rfl,hbw,hdn⟩:=hrel
  have HBW:Hid (Below W2.heap.size W2 wr∧∀ k∈kz.take j,(tyI s.2.2 k.c).isSome=true):=⟨hbw,hdn⟩
  have gpw:=cell_below hbw gp
  clear hdn hbw
  by_cases hlt:j<kz.length
  ·obtain⟨k,hk⟩:∃ k,k=kz[j]:=⟨_,rfl⟩
   obtain⟨q0,q1,q2,q3⟩:=HKY.out wr HBW.out.1 j k (by rw[hk];exact List.getElem?_eq_getElem hlt)
   have hta:=fun X (hX:Below wr.heap.size wr X)=>typeAt_any s.1 s.2.1 s.2.2 k.c X ((HW.out.2.2.below HBW.out.1).below hX)
   have HKJ:Hid (k=kz[j]∧j<kz.length):=⟨hk,hlt⟩
   have HTA:Hid _:=hta
   clear hk hta
   rcases hx:tyI s.2.2 k.c with _|t
   ·obtain rfl:R=none:=by
     rw[←HR2.out]
     refine if_neg fun h=>?_
     have:=h k (by rw[HKJ.out.1];exact List.getElem_mem _)
     rw[hx]at this
     cases this
    rw[hx]at HTA
    clear hx HR2
    go_wp2_with (go_at_call 130;refine(HTA.out _ (below_alloc (Below.refl _ _) _)).mono ?_;rintro e' W3 ⟨rfl,hw3⟩;have gp3:W3.cell? ⟨0,0,none⟩=some (.iface 284 (.pointer (some pl))):=(by rw[hw3];exact cell_alloc gpw);have hb3:Below wr.heap.size wr W3:=(by rw[hw3];exact below_alloc (Below.refl _ _) _);clear hw3)
    go_region_held3 (fun X=>X.cell? ⟨0,0,none⟩=some (.iface 284 (.pointer (some pl)))) (first|go_keep|(repeat (first|assumption|refine cell_alloc ?_|refine cell_drew ?_))) (fail)
    go_wp2
    exact bodyPost_ret (v:=.tuple #[.slice none 0 0,.iface 284 (.pointer (some pl))]) (by simp[results,Tryz.results107,go_sem]) rfl (NodeF.pl (grown_drew (grown_trans HW.out.2.1 (grown_below (below_then HBW.out.1 hb3)))))
   rw[hx]at HTA
   have HX:Hid ((tyI s.2.2 k.c).isSome=true):=by rw[hx];rfl
   clear hx
   go_wp2_with (go_at_call 130;refine(HTA.out _ (below_alloc (Below.refl _ _) _)).mono ?_;rintro e' W3 ⟨rfl,hw3⟩;have hb3:Below wr.heap.size wr W3:=(by rw[hw3];exact below_alloc (Below.refl _ _) _);clear hw3)
   go_roundw
   case rel=>
    refine⟨j+1,HKJ.out.2,by have:=HKJ.out.2;go_num,below_then HBW.out.1 hb3,fun x hx=>?_⟩
    rw[List.take_succ_eq_append_getElem HKJ.out.2,List.mem_append]at hx
    rcases hx with hx|hx
    ·exact HBW.out.2 x hx
    simp only[List.mem_singleton]at hx;rw[hx,←HKJ.out.1];exact HX.out
   case measure=>have:=HKJ.out.2;simp[intOf];omega
  obtain rfl:j=kz.length:=by omega
  obtain rfl:R=some s.2.2:=by rw[←HR2.out];exact if_pos fun k hk=>HBW.out.2 k (by rw[List.take_length];exact hk)
  clear HR2
  go_wp2
  exact bodyPost_ret (v:=.tuple #[schV s,.nilIface]) (by simp[results,Tryz.results107,go_sem]) rfl (nodeP_same HW.out.1 HW.out.2.1 HM.out HBW.out.1)
end
section
open Go.RowKit Go.Shelf Go.Maps
structure Ky where
 c:Nat
 o:Int
 d:Bool
 f:Nat
theorem info_intG:(Tryz.prog.info? 3).map (fun i=>(i.zero,i.size,i.bytes))=some (some (.int .i64 0),1,8):=by kernel_rfl
attribute [local go_sem] Oper.semAt_some
attribute [local go_sem] Oper.semAt_some
end
section
open Go.RowKit Go.Shelf
def hC (x:Int×Bool):List Value:=[.int .u64 x.1,.bool x.2]
attribute [local go_sem] Oper.semAt_some
end
section
open Go.RowKit Go.Shelf Go.Maps
attribute [local go_sem] Oper.semAt_some
attribute [local go_sem] Oper.semAt_some
structure JnE where
 jb:Nat
 lb:Nat
 rb:Nat
 kb:Nat
 ko:Nat
 kc:Nat
 cl:Nat
 cr:Nat
 fb:Nat
 bb:Nat
 mb:Nat
 s:Nat
 z:Nat
 bu:Int
 bl:Int
 sd:Int
 hl:List (Option Addr×Nat)
 hr:List (Option Addr×Nat)
 lc:List (List V)
 rc:List (List V)
 ks:List Ky
attribute [local go_sem] Oper.semAt_some
section
variable {j:JnE} {M:Nat→Prop} {base:Nat} {L R:List Int} {lv rv:Value} {W:World}
end
attribute [local go_sem] Oper.semAt_some
section
variable {j:JnE} {MB M:Nat→Prop} {l:List (Nat×(Int×Bool))} {nl nr row kyb pjb rwb:Nat} {bs:List Nat} {h:Int} {nul:Bool} {w:World}
end
attribute [local go_sem] Oper.semAt_some
attribute [local go_sem] Oper.semAt_some
section
variable {j:JnE} {M:Nat→Prop} {base:Nat} {L R:List Int} {lv rv:Value} {W Y X:World}
end
attribute [local go_sem] Oper.semAt_some
section
variable {base:Nat} {L R:List Int} {lv rv sv:Value} {W Y X:World} {x:Int}
end
attribute [local go_sem] Oper.semAt_some
theorem addr_add (b o j:Nat):(⟨b,o,none⟩:Addr).add j=⟨b,o+j,none⟩:=by unfold Addr.add;split<;>simp_all
theorem owns_zeros (w:World)(n cap:Nat)(e:TypeId)(z:Value)(hc:n≤cap)(h63:cap≤maxLen):OwnC (w.alloc (.cells (Builtin.zeroCells #[z] n++Builtin.zeroCells #[z] (cap-n)) e)).drew w.heap.size e (.slice (some ⟨w.heap.size,0,none⟩) 0 cap) []:=by
 refine⟨rfl,.inr ⟨w.heap.size,cap,_,rfl,Nat.le_refl _,heap_alloc_new w _,Nat.zero_le _,h63,?_,by simp⟩⟩
 simp[Builtin.zeroCells]
 omega
theorem growI_any (n:Nat)(h1:1≤n)(hn:n≤4000)(w:World):Calls Tryz.prog 156 #[.slice none 0 0,.int .i64 (n:Nat)] w fun e w'=>Below w.heap.size w w'∧∃ sv,e=.returned sv∧OwnC w' w.heap.size 3 sv []:=by
 obtain⟨i,hi,hz,hsz,hby⟩:=info_parts info_intG
 have hr:=fun X=>Lib.run_append_nil_zeros (P:=Tryz.prog) X 29 3 29 3 i (.int .i64 0) .i64 .i64 Tryz.underlying29 Tryz.underlying3 hi hz n (by omega) (by rw[hsz];omega) (by omega) (by rw[hby];omega)
 have j1:¬ ((n:Int)<0):=by omega
 have j2:(n:Int)>0:=by omega
 have hg1:=fun X=>grownCap_ge X n 0 3
 have hg2:=fun X=>grownCap_le_maxLen X n 0 3 (by unfold maxLen;omega)
 go_enter Tryz.func156,Tryz.ntmps156
 go_wp2_with (at_builtin;refine Lib.wpList_append_run _ rfl _ _ _ _ rfl _ _ rfl rfl _ _ (hr _) ?_)
 go_ret
 exact⟨below_drew1 (below_alloc (Below.refl _ _) _),_,rfl,owns_zeros w n (grownCap w n 0 3) 3 (.int .i64 0) (hg1 w) (hg2 w)⟩
theorem concatI_any (g c1 c2 cc:Nat)(b1 o1 b2 o2:Nat)(xs1 xs2:List Value)(w:World)(d0:w.cell? ⟨g,0,none⟩=some (.slice (some ⟨b1,o1,none⟩) xs1.length c1))(d1:w.cell? ⟨g,1,none⟩=some (.slice (some ⟨b2,o2,none⟩) xs2.length c2))
  (hx1:∀ j u,xs1[j]?=some u→w.cell? ⟨b1,o1+j,none⟩=some u) (hx2:∀ j u,xs2[j]?=some u→w.cell? ⟨b2,o2+j,none⟩=some u) (ho:∀ u∈xs1++xs2,u.oneCell'=true) (hl:1≤xs1.length) (hl1:xs1.length≤1000) (hl2:xs2.length≤1000) :
  Calls Tryz.prog 144 #[.slice (some ⟨g,0,none⟩) 2 cc] w fun e w'=>Below w.heap.size w w'∧∃ sv,e=.returned sv∧OwnC w' w.heap.size 3 sv (xs1++xs2):=by
 have HX:Hid ((∀ j u,xs1[j]?=some u→w.cell? ⟨b1,o1+j,none⟩=some u)∧(∀ j u,xs2[j]?=some u→w.cell? ⟨b2,o2+j,none⟩=some u)∧(∀ u∈xs1,u.oneCell'=true)∧∀ u∈xs2,u.oneCell'=true):=⟨hx1,hx2,fun u hu=>ho u (List.mem_append_left _ hu),fun u hu=>ho u (List.mem_append_right _ hu)⟩
 have hgr:=growI_any (xs1.length+xs2.length) (by omega) (by omega)
 clear hx1 hx2 ho
 go_enter Tryz.func144,Tryz.ntmps144
 go_upto_region 3 with fail
 go_loopw [3,11] (fun s i wr=>Hid (w=wr)∧((i=.int .i64 0∧s=.int .i64 0)∨(i=.int .i64 1∧s=.int .i64 (xs1.length:Nat))∨(i=.int .i64 2∧s=.int .i64 ((xs1.length+xs2.length:Nat):Int)))) (fun _ i _=>2-(intOf i).toNat)
 case atStart=>exact⟨rfl,.inl ⟨rfl,rfl⟩⟩
 case round=>
  obtain⟨hw,hd⟩:=hrel
  have hw:w=wr:=hw.out
  subst hw
  obtain⟨rfl,rfl⟩|⟨rfl,rfl⟩|⟨rfl,rfl⟩:=hd
  ·have j1:¬ ((xs1.length:Int)<0):=by omega
   go_wp2
   go_roundw
   case rel=>refine⟨(trivial:True),?_⟩;simp
   case measure=>simp[intOf]
  ·have j1:¬ ((xs1.length:Int)+(xs2.length:Int)<0):=by omega
   have j2:IntKind.i64.wrap ((xs1.length:Int)+(xs2.length:Int))=(xs1.length:Int)+(xs2.length:Int):=by rw[IntKind.wrap_i64];omega
   go_wp2
   go_roundw
   case rel=>refine⟨(trivial:True),?_⟩;simp
   case measure=>simp[intOf]
  go_upto_region 11 with(go_at_call 156;go_must (refine(hgr _).mono ?_);rintro e W1 ⟨hb1,sv1,rfl,ho1⟩)
  have D0:Hid _:=d0
  have D1:Hid _:=d1
  clear d0 d1
  have HF:Hid (Below w.heap.size w W1∧OwnC W1 w.heap.size 3 sv1 []):=⟨hb1,ho1⟩
  clear hb1 ho1 hgr
  have HE:Hid (∀ X,Below w.heap.size w X→X.cell? ⟨g,0,none⟩=some (.slice (some ⟨b1,o1,none⟩) xs1.length c1)∧X.cell? ⟨g,1,none⟩=some (.slice (some ⟨b2,o2,none⟩) xs2.length c2)):=fun X hX=>⟨cell_below hX D0.out,cell_below hX D1.out⟩
  go_loopw [6,27] (fun sv i wr=>∃ k:Nat,k≤2∧i=.int .i64 (k:Nat)∧Hid (Below w.heap.size w wr∧OwnC wr w.heap.size 3 sv (if k=0 then []else if k=1 then xs1 else xs1++xs2))) (fun _ i _=>2-(intOf i).toNat)
  case atStart=>exact⟨0,by omega,rfl,HF.out⟩
  case round=>
   obtain⟨k,hk,rfl,hI⟩:=hrel
   obtain⟨e0,e1⟩:=HE.out _ hI.out.1
   have hkk:k=0∨k=1∨k=2:=by omega
   rcases hkk with rfl|rfl|rfl
   ·go_wp2_with (at_builtin;go_must (refine wpList_append_C (by rfl) _ _ 29 3 _ 8 info_intG (by rfl) (by decide) (by kernel_rfl) (by rfl) w.heap.size _ _ (by rfl) hI.out.2 ⟨b1,o1,none⟩ c1 xs1 (by rfl) (fun j u hu=>by rw[addr_add];exact cell_below hI.out.1 (HX.out.1 j u hu)) (HX.out.2.2.1) (by simp;omega) (by have:=hI.out.1.size;omega) ?_);intro sv' Y q1 q2 q3)
    go_roundw
    case rel=>exact⟨1,by omega,rfl,below_grown hI.out.1 q2 fun g e=>(owns_block hI.out.2 e).1,by simpa using q1⟩
    case measure=>simp[intOf]
   ·go_wp2_with (at_builtin;go_must (refine wpList_append_C (by rfl) _ _ 29 3 _ 8 info_intG (by rfl) (by decide) (by kernel_rfl) (by rfl) w.heap.size _ _ (by rfl) hI.out.2 ⟨b2,o2,none⟩ c2 xs2 (by rfl) (fun j u hu=>by rw[addr_add];exact cell_below hI.out.1 (HX.out.2.1 j u hu)) (HX.out.2.2.2) (by simp;omega) (by have:=hI.out.1.size;omega) ?_);intro sv' Y q1 q2 q3)
    go_roundw
    case rel=>exact⟨2,by omega,rfl,below_grown hI.out.1 q2 fun g e=>(owns_block hI.out.2 e).1,by simpa using q1⟩
    case measure=>simp[intOf]
   go_wp2
   go_ret
   exact⟨hI.out.1,_,rfl,by simpa using hI.out.2⟩
attribute [local go_sem] Oper.semAt_some
theorem pBeside_ok (b1 o1 c1 b2 o2 c2:Nat)(l r:List Int)(w:World)(hl:Ints w (some ⟨b1,o1,none⟩) l)(hr:Ints w (some ⟨b2,o2,none⟩) r)(h1:1≤l.length)(h12:l.length+r.length≤12) :
  Calls Tryz.prog 128 #[.slice (some ⟨b1,o1,none⟩) l.length c1,.slice (some ⟨b2,o2,none⟩) r.length c2] w fun e w'=>Below w.heap.size w w'∧∃ g o c,e=.returned (.tuple #[.slice (some ⟨g,o,none⟩) (l++r).length c,.nilIface])∧w.heap.size≤g∧g<w'.heap.size∧Ints w' (some ⟨g,o,none⟩) (l++r):=by
 have hb:Below w.heap.size w (w.alloc (.cells #[.slice (some ⟨b1,o1,none⟩) l.length c1,.slice (some ⟨b2,o2,none⟩) r.length c2] 29)):=below_alloc (Below.refl _ _) _
 have m0:=heap_alloc_new w (.cells #[.slice (some ⟨b1,o1,none⟩) l.length c1,.slice (some ⟨b2,o2,none⟩) r.length c2] 29)
 have hz:=World.size_alloc w (.cells #[.slice (some ⟨b1,o1,none⟩) l.length c1,.slice (some ⟨b2,o2,none⟩) r.length c2] 29)
 have hcell:∀ {b o:Nat} {xs:List Int} {X:World},Ints X (some ⟨b,o,none⟩) xs→∀ j u,(xs.map iv)[j]?=some u→X.cell? ⟨b,o+j,none⟩=some u:=fun {b o xs X} h j u hu=>by
  have hj:j<xs.length:=by have:=(List.getElem?_eq_some_iff.1 hu).1;rwa [List.length_map]at this
  obtain⟨b',o',e,_,hc⟩:=h.at hj
  cases e
  rw[List.getElem?_map,List.getElem?_eq_getElem hj]at hu
  rw[hc]
  exact hu
 have hcc:=concatI_any w.heap.size c1 c2 2 b1 o1 b2 o2 (l.map iv) (r.map iv) (w.alloc (.cells #[.slice (some ⟨b1,o1,none⟩) l.length c1,.slice (some ⟨b2,o2,none⟩) r.length c2] 29)) (by rw[List.length_map];simp only[World.cell?,m0];rfl) (by rw[List.length_map];simp only[World.cell?,m0];rfl) (hcell (hl.below hb)) (hcell (hr.below hb)) (fun u hu=>by rcases List.mem_append.1 hu with hu|hu<;>(obtain⟨i,_,rfl⟩:=List.mem_map.1 hu;rfl)) (by rw[List.length_map];exact h1) (by rw[List.length_map];omega) (by rw[List.length_map];omega)
 have j1:IntKind.i64.wrap ((l.length:Int)+(r.length:Int))=(l.length:Int)+(r.length:Int):=by rw[IntKind.wrap_i64];omega
 have j2:¬ ((l.length:Int)+(r.length:Int)>12):=by omega
 have HB:Hid (Below w.heap.size w (w.alloc (.cells #[.slice (some ⟨b1,o1,none⟩) l.length c1,.slice (some ⟨b2,o2,none⟩) r.length c2] 29))):=hb
 clear hb m0 hl hr hcell
 go_enter Tryz.func128,Tryz.ntmps128
 go_wp2_with (go_at_call 144;refine hcc.mono ?_;rintro e w' ⟨hb2,sv,rfl,ho⟩)
 have hbb:=below_then HB.out hb2
 rw[←List.map_append]at ho
 obtain⟨sa,sc,rfl,hsc⟩:=ho.cells
 have hpos:0<(l++r).length:=by rw[List.length_append];omega
 obtain⟨g,o,rfl,hgl,_⟩:=Ints.at (ns:=l++r) hsc (i:=0) hpos
 have hgo:=owns_block ho (g:=g) rfl
 rw[List.length_map]
 go_ret2
 exact⟨hbb,g,o,sc,rfl,by omega,hgl,hsc⟩
theorem pTakeTwo_ok (L cb:Nat)(tf ev:Value)(ks:List Kn)(nd:Nd)(i r:Nat)(w:World)(h:ChkS L cb tf ev ks w)(hl:nd.l=(i:Int))(hr:nd.r=(r:Int))(hi:i<ks.length)(hir:r<ks.length)(hne:i≠r)(hn:ks[i].2=false)(hnr:ks[r].2=false) :
  Calls Tryz.prog 125 #[.pointer (some ⟨cb,0,none⟩),nd.val] w fun e W'=>e=.returned (.tuple #[schV ks[i].1,schV ks[r].1,.nilIface])∧ChkS L cb tf ev ((ks.set i (ks[i].1,true)).set r (ks[r].1,true)) W'∧w.grownBy W' ev.ownBlock:=by
 have hbb:Below w.heap.size w (ndBox w nd):=below_alloc (Below.refl _ _) _
 have hq:=ndBox_at w nd
 have hS:=h.below hbb
 have htk:=pTake_ok L cb tf ev ks i (ndBox w nd) hS hi hn
 have hob:ev.ownBlock≠some w.heap.size:=fun e=>by have:=(owns_block h.own e).2;omega
 have hget:(ks.set i (ks[i].1,true))[r]'(by rw[List.length_set];exact hir)=ks[r]:=List.getElem_set_ne hne _
 have HT:Hid (∀ W,ChkS L cb tf ev (ks.set i (ks[i].1,true)) W→Calls Tryz.prog 123 #[.pointer (some ⟨cb,0,none⟩),.int .i64 (r:Int)] W fun e W'=>e=.returned (.tuple #[schV ks[r].1,.nilIface])∧ChkS L cb tf ev ((ks.set i (ks[i].1,true)).set r (ks[r].1,true)) W'∧W.grownBy W' ev.ownBlock∧W'.heap.size=W.heap.size):=fun W hW=>by
  have:=pTake_ok L cb tf ev (ks.set i (ks[i].1,true)) r W hW (by rw[List.length_set];exact hir) (by rw[hget];exact hnr)
  rw[hget]at this
  exact this
 have HQ:Hid (NodeAt (ndBox w nd) w.heap.size 0 nd∧ev.ownBlock≠some w.heap.size∧Below w.heap.size w (ndBox w nd)):=⟨hq,hob,hbb⟩
 have HL:Hid (nd.r=(r:Int)):=hr
 have n1:=hq.2.1
 rw[hl,Nat.zero_add]at n1
 have hnn:=run_neq_nil_nil (P:=Tryz.prog)
 obtain⟨s,hs⟩:∃ s,s=ks[i].1:=⟨_,rfl⟩
 obtain⟨t,ht⟩:∃ t,t=ks[r].1:=⟨_,rfl⟩
 rw[←hs]at htk HT ⊢
 rw[←ht]at HT ⊢
 clear hs ht hl hr hq hob hbb hS h hn hnr hget
 go_enter Tryz.func125,Tryz.ntmps125
 go_upto_region 4 with(go_at_call 123;refine htk.mono ?_;rintro e' W1 ⟨rfl,hS1,hg1,hz1⟩)
 have hq1:=node_grown HQ.out.1 hg1 HQ.out.2.1
 have n2:=hq1.2.2.1
 rw[HL.out,Nat.zero_add]at n2
 have htk2:=HT.out W1 hS1
 have HG1:Hid _:=hg1
 clear hq1 hS1 hg1 htk n1 HT
 go_wp2_with (go_at_call 123;refine htk2.mono ?_;rintro e' W2 ⟨rfl,hS2,hg2,hz2⟩)
 exact bodyPost_ret (v:=.tuple #[schV s,schV t,.nilIface]) (by simp[results,Tryz.results125,go_sem]) rfl ⟨rfl,hS2,grown_trans (grown_trans (grown_below HQ.out.2.2) HG1.out) hg2⟩
end
end Go.Proofs.YtkgibdjakgmmcaaGreatDoor
