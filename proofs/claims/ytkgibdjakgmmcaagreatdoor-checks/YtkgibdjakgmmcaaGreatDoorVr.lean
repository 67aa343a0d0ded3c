/- The document's store, as Check asks it: its tables' names and types; which nodes are named. -/
import Derived.Test.YtkgibdjakgmmcaaGreatDoorVp
set_option maxHeartbeats 2000000
set_option maxRecDepth 100000
namespace Go.Proofs.YtkgibdjakgmmcaaGreatDoor
open Go.RowKit Go.Shelf
attribute [local go_sem] Oper.semAt_some
def RTabs (w:World)(st:Nat)(Rs:List (ByteArray×List Int)):Prop:=∃ a c,w.cell? ⟨st,4,none⟩=some (.slice a Rs.length c)∧∀ (j:Nat) (R:ByteArray×List Int),Rs[j]?=some R→∃ b o ta tc,a=some ⟨b,o,none⟩∧w.cell? ⟨b,o+j*4,none⟩=some (.string R.1)∧w.cell? ⟨b,o+j*4+1,none⟩=some (.slice ta R.2.length tc)∧Ints w ta R.2∧TyI w ta
theorem RTabs.below {w X:World}{st:Nat}{Rs:List (ByteArray×List Int)}(h:RTabs w st Rs)(hb:Below w.heap.size w X):RTabs X st Rs:=by
 obtain⟨a,c,h1,h2⟩:=h
 refine⟨a,c,cell_below hb h1,fun j R hj=>?_⟩
 obtain⟨b,o,ta,tc,e,q0,q1,q2,q3⟩:=h2 j R hj
 exact⟨b,o,ta,tc,e,cell_below hb q0,cell_below hb q1,q2.below hb,q3.below hb⟩
def findR:List (ByteArray×List Int)→ByteArray→Nat
 |[],_=>0
 |R::Rs,n=>if R.1=n then 0 else findR Rs n+1
def findRV (Rs:List (ByteArray×List Int))(n:ByteArray):Int:=if findR Rs n<Rs.length then (findR Rs n:Int)else -1
theorem findR_at (Rs:List (ByteArray×List Int))(n:ByteArray):∀ (k:Nat) (hk:k<Rs.length),(∀ j (hj:j<k),(Rs[j]'(by omega)).1≠n)→Rs[k].1=n→findR Rs n=k:=by
 induction Rs with
 |nil=>intro k hk;simp at hk
 |cons T Rs ih=>
  intro k hk hall he
  cases k with
  |zero=>simp at he;simp[findR,he]
  |succ k=>
   have h0:=hall 0 (by omega)
   simp at h0
   simp only[findR,if_neg h0]
   rw[ih k (by simpa using hk) (fun j hj=>by have:=hall (j+1) (by omega);simpa using this) (by simpa using he)]
theorem findR_no (Rs:List (ByteArray×List Int))(n:ByteArray)(h:∀ j (hj:j<Rs.length),Rs[j].1≠n):findR Rs n=Rs.length:=by
 induction Rs with
 |nil=>rfl
 |cons T Rs ih=>
  have h0:=h 0 (by simp)
  simp at h0
  simp only[findR,if_neg h0,List.length_cons]
  rw[ih fun j hj=>by have:=h (j+1) (by simp;omega);simpa using this]
theorem findR_map (Ts:List TS)(n:ByteArray):findR (Ts.map fun T=>(T.name,T.types)) n=findI Ts n:=by
 induction Ts with
 |nil=>rfl
 |cons T Ts ih=>simp only[List.map_cons,findR,findI,ih]
theorem rFind_any (st:Nat)(Rs:List (ByteArray×List Int))(n:ByteArray)(w:World)(h:RTabs w st Rs)(hm:Rs.length≤1000) :
  Calls Tryz.prog 42 #[.pointer (some ⟨st,0,none⟩),.string n] w fun e w'=>e=.returned (.int .i64 (findRV Rs n))∧w'=w:=by
 obtain⟨a,c,h1,h2⟩:=h
 obtain⟨R,hR⟩:∃ R,findRV Rs n=R:=⟨_,rfl⟩
 rw[hR]
 have HR:Hid (findRV Rs n=R):=hR
 have H2:Hid _:=h2
 clear h2 hR
 go_enter Tryz.func42,Tryz.ntmps42
 go_upto_region 2 with fail
 go_loopw [5] (fun i wr=>∃ j:Nat,j≤Rs.length∧i=.int .i64 (j:Int)∧wr=w∧∀ x (hx:x<Rs.length),x<j→Rs[x].1≠n) (fun i _=>Rs.length-(intOf i).toNat)
 case atStart=>exact⟨0,Nat.zero_le _,rfl,rfl,fun x _ h=>by omega⟩
 case round=>
  obtain⟨j,hj,rfl,hwr,hdn⟩:=hrel
  rw[hwr]
  have HD:Hid (∀ x (hx:x<Rs.length),x<j→Rs[x].1≠n):=hdn
  clear hdn hwr
  by_cases hlt:j<Rs.length
  ·obtain⟨b,o,ta,tc,rfl,q0,-,-,-⟩:=H2.out j _ (List.getElem?_eq_getElem hlt)
   have HJ:Hid (j<Rs.length∧(Rs[j].1=n→R=(j:Int))∧(Rs[j].1≠n→∀ x (hx:x<Rs.length),x<j+1→Rs[x].1≠n)):=⟨hlt,fun e=>by
    have hf:=findR_at Rs n j hlt (fun x hx=>HD.out x (by omega) hx) e
    rw[←HR.out]
    unfold findRV
    rw[hf,if_pos hlt],fun e x hx hxj=>by
    by_cases q:x=j
    ·subst q;exact e
    exact HD.out x hx (by omega)⟩
   generalize Rs[j].1=nm at q0 HJ
   have i1:(0:Int)≤(j:Int):=by omega
   have i2:(j:Int)<(Rs.length:Int):=by omega
   by_cases he:nm=n
   ·subst he
    obtain rfl:R=(j:Int):=HJ.out.2.1 rfl
    go_wp2
    go_ret
    exact⟨rfl,rfl⟩
   have HN:Hid _:=HJ.out.2.2 he
   have hq:(nm.toList==n.toList)=false:=by
    rw[beq_eq_false_iff_ne]
    exact fun hh=>he (by rw[←str_toList nm,hh,str_toList])
   clear he
   go_wp2
   go_roundw
   case rel=>exact⟨j+1,HJ.out.1,by have:=HJ.out.1;go_num,(by first|rfl|trivial),HN.out⟩
   case measure=>have:=HJ.out.1;simp[intOf];omega
  obtain rfl:R=-1:=by
   rw[←HR.out]
   unfold findRV
   rw[if_neg (by rw[findR_no Rs n fun x hx=>HD.out x hx (by omega)];omega)]
  have i3:¬ ((j:Int)<(Rs.length:Int)):=by omega
  go_wp2
  go_ret
  exact⟨rfl,rfl⟩
def namI (n:QN)(i:Int):Bool:=if n.op=0 then false else decide (n.l=i)||(decide (n.op=3∨n.op=7)&&decide (n.r=i))
theorem rNamed_any (a:Option Addr)(nc:Nat)(nds:List Nd)(ns:List QN)(i:Int)(k:Nat)(w:World)(hP:PlnAt w a nds ns)(hk:k≤ns.length)(h12:ns.length≤12) :
  Calls Tryz.prog 26 #[.agg #[.slice a ns.length nc],.int .i64 i,.int .i64 (k:Int)] w fun e w'=>e=.returned (.bool ((ns.take k).any fun n=>namI n i))∧Below w.heap.size w w':=by
 have hbb:Below w.heap.size w (w.alloc (.cells #[.slice a ns.length nc] 25)):=below_alloc (Below.refl _ _) _
 have hpl:(w.alloc (.cells #[.slice a ns.length nc] 25)).cell? ⟨w.heap.size,0,none⟩=some (.slice a ns.length nc):=by simp
 obtain⟨R,hR⟩:∃ R,((ns.take k).any fun n=>namI n i)=R:=⟨_,rfl⟩
 rw[hR]
 have HR:Hid (((ns.take k).any fun n=>namI n i)=R∧k≤ns.length):=⟨hR,hk⟩
 have HP:Hid (PlnAt w a nds ns):=hP
 have hk12:(k:Int)≤12:=by omega
 obtain⟨W0,hW0⟩:∃ W0,W0=w.alloc (.cells #[.slice a ns.length nc] 25):=⟨_,rfl⟩
 rw[←hW0]at hbb hpl
 have HB0:Hid (Below w.heap.size w W0∧W0.cell? ⟨w.heap.size,0,none⟩=some (.slice a ns.length nc)):=⟨hbb,hpl⟩
 obtain⟨m,hm⟩:∃ m,m=ns.length:=⟨_,rfl⟩
 have HM:Hid (m=ns.length):=hm
 rw[←hm]at HB0 hW0 ⊢
 clear hbb hpl hR hP hk hm h12
 go_enter Tryz.func26,Tryz.ntmps26
 go_upto_region 2 with fail
 rw[←hW0]
 clear hW0
 go_loopw [7] (fun x wr=>∃ j:Nat,j≤k∧x=.int .i64 (j:Int)∧Below W0.heap.size W0 wr∧((ns.take j).any fun n=>namI n i)=false) (fun x _=>k-(intOf x).toNat)
 case atStart=>exact⟨0,Nat.zero_le _,rfl,Below.refl _ _,rfl⟩
 case round=>
  obtain⟨j,hj,rfl,hbw,hdn⟩:=hrel
  have HBW:Hid (Below W0.heap.size W0 wr∧((ns.take j).any fun n=>namI n i)=false):=⟨hbw,hdn⟩
  have p0:=cell_below hbw HB0.out.2
  have hbww:=below_then HB0.out.1 hbw
  clear hdn hbw
  by_cases hlt:j<k
  ·have hjn:j<ns.length:=by have:=HR.out.2;omega
   obtain⟨n,hn⟩:∃ n,n=ns[j]:=⟨_,rfl⟩
   have hgn:ns[j]?=some n:=by rw[hn];exact List.getElem?_eq_getElem hjn
   obtain⟨nd,hnd⟩:∃ nd,nds[j]?=some nd:=⟨_,List.getElem?_eq_getElem (by rw[HP.out.len];exact hjn)⟩
   obtain⟨b,o,rfl,hat⟩:=(HP.out.below hbww).at_ j nd hnd
   obtain⟨y0,y1,y2,y3,y4,y5,y6⟩:=hat
   have hq:=HP.out.is j nd n hnd hgn
   rw[hq.op]at y0
   rw[hq.l]at y1
   rw[hq.r]at y2
   have HJ:Hid (j<k∧(namI n i=true→R=true)∧(namI n i=false→((ns.take (j+1)).any fun n=>namI n i)=false)):=⟨hlt,fun e=>by
    rw[←HR.out.1]
    exact List.any_eq_true.2 ⟨n,List.mem_iff_getElem?.2 ⟨j,by rw[List.getElem?_take,if_pos hlt];exact hgn⟩,e⟩,fun e=>by
    rw[List.take_succ_eq_append_getElem hjn,List.any_append,HBW.out.2,←hn]
    simp[e]⟩
   have hnam:namI n i=if n.op=0 then false else decide (n.l=i)||(decide (n.op=3∨n.op=7)&&decide (n.r=i)):=rfl
   generalize n.op=op at y0 hnam
   generalize n.l=ll at y1 hnam
   generalize n.r=rr at y2 hnam
   have i1:(0:Int)≤(j:Int):=by omega
   have i2:(j:Int)<(k:Int):=by omega
   have i4:(j:Int)<(m:Int):=by have:=HM.out;omega
   have HBB:Hid (Below w.heap.size w wr):=hbww
   clear hn hgn hnd hq hjn hlt hj hbww
   by_cases e0:op=0
   ·subst e0
    have HX:Hid (namI n i=false):=by show _=_;rw[hnam];rfl
    clear hnam
    go_wp2
    go_roundw
    case rel=>exact⟨j+1,HJ.out.1,by have:=HJ.out.1;go_num,below_alloc HBW.out.1 _,HJ.out.2.2 HX.out⟩
    case measure=>have:=HJ.out.1;simp[intOf];omega
   have e0b:(op==0)=false:=by simp[e0]
   have e0c:(op != 0)=true:=by simp[e0]
   by_cases el:ll=i
   ·subst el
    obtain rfl:R=true:=HJ.out.2.1 (by rw[hnam,if_neg e0];simp)
    clear hnam
    go_wp2
    exact bodyPost_ret (v:=.bool true) (by simp[results,Tryz.results26,go_sem]) rfl ⟨rfl,below_alloc HBB.out _⟩
   have elb:(ll==i)=false:=by simp[el]
   by_cases e3:op=3∨op=7
   ·by_cases er:rr=i
    ·subst er
     obtain rfl:R=true:=HJ.out.2.1 (by rw[hnam,if_neg e0];simp[e3])
     clear hnam
     rcases e3 with rfl|rfl
     all_goals
      go_wp2
      exact bodyPost_ret (v:=.bool true) (by simp[results,Tryz.results26,go_sem]) rfl ⟨rfl,below_alloc HBB.out _⟩
    have erb:(rr==i)=false:=by simp[er]
    have HX:Hid (namI n i=false):=by show _=_;rw[hnam,if_neg e0];simp[el,er]
    clear hnam
    rcases e3 with rfl|rfl
    all_goals
     go_wp2
     go_roundw
     case rel=>exact⟨j+1,HJ.out.1,by have:=HJ.out.1;go_num,below_alloc HBW.out.1 _,HJ.out.2.2 HX.out⟩
     case measure=>have:=HJ.out.1;simp[intOf];omega
   have HX:Hid (namI n i=false):=by show _=_;rw[hnam,if_neg e0];simp[el,e3]
   have f3:(op==3)=false:=by simp;exact fun e=>e3 (.inl e)
   have f7:(op==7)=false:=by simp;exact fun e=>e3 (.inr e)
   clear hnam
   go_wp2
   go_roundw
   case rel=>exact⟨j+1,HJ.out.1,by have:=HJ.out.1;go_num,below_alloc HBW.out.1 _,HJ.out.2.2 HX.out⟩
   case measure=>have:=HJ.out.1;simp[intOf];omega
  have hje:j=k:=by omega
  obtain rfl:R=false:=by rw[←HR.out.1,←hje];exact HBW.out.2
  have i3:¬ ((j:Int)<(k:Int)):=by omega
  clear hlt hje hj
  go_wp2
  exact bodyPost_ret (v:=.bool false) (by simp[results,Tryz.results26,go_sem]) rfl ⟨rfl,hbww⟩
attribute [local go_sem] Oper.semAt_some
def KnAt (w:World)(ka:Option Addr)(scs:List (List Int)):Prop:=∀ (i:Nat) (s:List Int),scs[i]?=some s→∃ b o sa sc,ka=some ⟨b,o,none⟩∧w.cell? ⟨b,o+i,none⟩=some (.slice sa s.length sc)∧Ints w sa s∧TyI w sa
theorem KnAt.below {w X:World}{ka:Option Addr}{scs:List (List Int)}(h:KnAt w ka scs)(hb:Below w.heap.size w X):KnAt X ka scs:=fun i s hi=>by
 obtain⟨b,o,sa,sc,e,c,hi,ht⟩:=h i s hi
 exact⟨b,o,sa,sc,e,cell_below hb c,hi.below hb,ht.below hb⟩
def tysR (Rs:List (ByteArray×List Int))(n:ByteArray):Option (List Int):=(Rs[findR Rs n]?).map (·.2)
theorem tysR_map (Ts:List TS):tysR (Ts.map fun T=>(T.name,T.types))=tysOf Ts:=by
 funext n
 unfold tysR tysOf
 rw[findR_map,List.getElem?_map,Option.map_map]
 rfl
theorem nodeQ_left {tys:ByteArray→Option (List Int)}{scs:List (List Int)}{fl:Nat→Bool}{n:QN}(h0:n.op≠0)(h:freeQ scs fl n.l=none):nodeQ tys scs fl n=none:=by
 unfold nodeQ
 rw[if_neg h0,h]
 simp only[Option.bind_none]
 repeat' split
 all_goals rfl
theorem nodeQ_right {tys:ByteArray→Option (List Int)}{scs:List (List Int)}{fl:Nat→Bool}{n:QN}(h3:n.op=3∨n.op=7)(h:freeQ scs fl n.r=none∨n.l=n.r):nodeQ tys scs fl n=none:=by
 unfold nodeQ
 have two:∀ (f:List Int→List Int→Option (List Int)),((freeQ scs fl n.l).bind fun a=>(freeQ scs fl n.r).bind fun b=>if n.l=n.r then none else f a b)=none:=fun f=>by
  cases freeQ scs fl n.l with
  |none=>rfl
  |some a=>
   rcases h with h|h
   ·rw[h];rfl
   cases freeQ scs fl n.r with
   |none=>rfl
   |some b=>rw[Option.bind_some,Option.bind_some,if_pos h]
 rcases h3 with e|e
 ·rw[if_neg (by omega),if_neg (by omega),if_neg (by omega),if_pos e]
  exact two _
 rw[if_neg (by omega),if_neg (by omega),if_neg (by omega),if_neg (by omega),if_neg (by omega),if_neg (by omega),if_neg (by omega),if_pos e]
 exact two _
theorem freeQ_neg {scs:List (List Int)}{fl:Nat→Bool}{i:Int}(h:¬ (0≤i∧i<scs.length)):freeQ scs fl i=none:=if_neg fun q=>h ⟨q.1,q.2.1⟩
theorem freeQ_named {scs:List (List Int)}{fl:Nat→Bool}{i:Nat}(h:fl i=true):freeQ scs fl (i:Int)=none:=if_neg fun q=>by
 have:=q.2.2
 rw[Int.toNat_natCast,h]at this
 cases this
theorem freeQ_ok {scs:List (List Int)}{fl:Nat→Bool}{i:Nat}{s:List Int}(hs:scs[i]?=some s)(h:fl i=false):freeQ scs fl (i:Int)=some s:=by
 unfold freeQ
 have hi:i<scs.length:=(List.getElem?_eq_some_iff.1 hs).1
 rw[if_pos ⟨by omega,by omega,by rw[Int.toNat_natCast];exact h⟩,Int.toNat_natCast]
 exact hs
theorem RS.ret {w w1:World}{o:Option (List Int)}{e:Ending}(h:RS w o e w1):∃ v,e=.returned v∧RS w o (.returned v) w1:=by
 obtain⟨hb,h⟩:=h
 cases o with
 |none=>exact⟨_,h,hb,rfl⟩
 |some s=>obtain⟨b,f,c,he,hi,ht⟩:=h;exact⟨_,he,hb,b,f,c,rfl,hi,ht⟩
abbrev plBox (w:World)(a:Option Addr)(m nc:Nat):World:=w.alloc (.cells #[.slice a m nc] 25)
structure ScIn (w:World) (st:Nat) (Rs:List (ByteArray×List Int)) (a ka:Option Addr) (nds:List Nd) (ns:List QN) (scs:List (List Int)):Prop where
 pln:PlnAt w a nds ns
 rt:RTabs w st Rs
 few:Rs.length≤1000
 tys:∀ R∈Rs,SchOk R.2
 kn:KnAt w ka scs
 sch:∀ s∈scs,SchOk s
 lt:scs.length<ns.length
 n12:ns.length≤12
end Go.Proofs.YtkgibdjakgmmcaaGreatDoor
