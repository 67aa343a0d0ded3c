/- The law's small functions: numbers compared; copies of rows of records. -/
import Derived.Test.YtkgibdjakgmmcaaGreatDoorVx
set_option maxHeartbeats 2000000
set_option maxRecDepth 100000
namespace Go.Proofs.YtkgibdjakgmmcaaGreatDoor
open Go.RowKit Go.Shelf
attribute [local go_sem] Oper.semAt_some
theorem lSame_any (a b:Option Addr)(ac bc:Nat)(l r:List Int)(w:World)(hl:Ints w a l)(hr:Ints w b r)(hn:l.length≤1000000000000000) :
  Calls Tryz.prog 15 #[.slice a l.length ac,.slice b r.length bc] w fun e w'=>e=.returned (.bool (decide (l=r)))∧Below w.heap.size w w':=by
 by_cases hlen:l.length=r.length
 rotate_left
 ·have k1:¬ ((l.length:Int)=(r.length:Int)):=by omega
  rw[decide_eq_false fun e=>hlen (by rw[e])]
  clear hl hr hn hlen
  go_enter Tryz.func15,Tryz.ntmps15
  go_wp2
  go_ret
  exact⟨rfl,Below.refl _ _⟩
 have HLN:Hid (l.length=r.length):=hlen
 obtain⟨n,hn'⟩:∃ n,n=l.length:=⟨_,rfl⟩
 rw[←hlen,←hn']
 have HN:Hid (n=l.length):=hn'
 have HL:Hid (∀ X,Below w.heap.size w X→Ints X a l∧Ints X b r):=fun X hX=>⟨hl.below hX,hr.below hX⟩
 have hn1:n≤1000000000000000:=by omega
 obtain⟨R,hR⟩:∃ R,R=decide (l=r):=⟨_,rfl⟩
 rw[←hR]
 have HR:Hid (R=decide (l=r)):=hR
 clear hl hr hlen hn' hn hR
 go_enter Tryz.func15,Tryz.ntmps15
 go_upto_region 4 with fail
 go_loopw [5] (fun i wr=>∃ j:Nat,j≤n∧i=.int .i64 (j:Int)∧Below w.heap.size w wr∧l.take j=r.take j) (fun i _=>n-(intOf i).toNat)
 case atStart=>exact⟨0,Nat.zero_le _,rfl,Below.refl _ _,rfl⟩
 case round=>
  obtain⟨j,hj,rfl,hbw,htk⟩:=hrel
  have HB:Hid (Below w.heap.size w wr∧l.take j=r.take j):=⟨hbw,htk⟩
  clear htk
  by_cases hlt:j<n
  ·have hjl:j<l.length:=by have:=HN.out;omega
   have hjr:j<r.length:=by have:=HN.out;have:=HLN.out;omega
   obtain⟨b1,o1,rfl,_,q1⟩:=(HL.out wr hbw).1.at hjl
   obtain⟨b2,o2,rfl,_,q2⟩:=(HL.out wr hbw).2.at hjr
   have HG:Hid (∀ (x y:Int),l[j]?=some x→r[j]?=some y→(R=true→x=y)∧(x=y→l.take (j+1)=r.take (j+1))):=fun x y hx hy=>⟨fun h=>by
    have:l=r:=by have:=HR.out;rw[h]at this;exact of_decide_eq_true this.symm
    rw[this,hy]at hx
    cases hx
    rfl,fun h=>by
    rw[List.take_add_one,List.take_add_one,HB.out.2,hx,hy,h]⟩
   have hgx:=HG.out l[j] r[j] (List.getElem?_eq_getElem hjl) (List.getElem?_eq_getElem hjr)
   generalize l[j]=x at q1 hgx
   generalize r[j]=y at q2 hgx
   have HX:Hid ((R=true→x=y)∧(x=y→l.take (j+1)=r.take (j+1))):=hgx
   have i1:(0:Int)≤(j:Int):=by omega
   have i2:(j:Int)<(n:Int):=by omega
   have HJ:Hid (j<n):=hlt
   clear hgx HG hbw
   go_upto_region 6 with fail
   refine wp_region_held_drew (S:=fun X=>X.cell? ⟨b1,o1+j,none⟩=some (.int .i64 x)∧X.cell? ⟨b2,o2+j,none⟩=some (.int .i64 y)) (by kernel_rfl) ⟨cell_drew q1,cell_drew q2⟩ (fun hH=>?_)
   refine tkj 0 rfl hH ?_
   refine tkj 1 rfl hH ?_
   refine tkj 2 rfl hH ?_
   refine tkj 3 rfl hH ?_
   refine tkj 4 rfl hH ?_
   refine tkj 5 rfl hH ?_
   refine tkj 6 rfl hH ?_
   refine tkj 7 rfl hH ?_
   refine tkj 8 rfl hH ?_
   refine tkn ?_
   refine wpAnyH_done (by kernel_rfl) ?_ _
   clear q1 q2
   by_cases hxy:x=y
   ·subst hxy
    go_wp2
    go_roundw
    case rel=>exact⟨j+1,HJ.out,by have:=HJ.out;go_num,drew_below HB.out.1,HX.out.2 rfl⟩
    case measure=>have:=HJ.out;simp[intOf];omega
   obtain rfl:R=false:=by
    cases hR:R with
    |false=>rfl
    |true=>exact absurd (HX.out.1 hR) hxy
   go_wp2
   go_ret
   exact⟨rfl,drew_below HB.out.1⟩
  obtain rfl:R=true:=by
   rw[HR.out]
   refine decide_eq_true ?_
   have h:=HB.out.2
   rwa [List.take_of_length_le (by have:=HN.out;omega),List.take_of_length_le (by have:=HN.out;have:=HLN.out;omega)]at h
  have k2:¬ ((j:Int)<(n:Int)):=by omega
  go_wp2
  go_ret
  exact⟨rfl,HB.out.1⟩
theorem run_copy_Z (w:World)(T e:TypeId)(z:Nat)(hu:Tryz.prog.underlying T=some (.slice e))(hsz:(Tryz.prog.info? e).map (fun i=>i.size)=some z)(g dLen dCap b o n cap:Nat)(cs:List Value)(hcs:cs.length=n*z)(hsrc:∀ j u,cs[j]?=some u→w.cell? ((⟨b,o,none⟩:Addr).add j)=some u)(h1:∀ u∈cs,u.oneCell'=true)(cur:Array Value)(hg:w.heap[g]?=some (.cells cur e (0,0)))(hd:n≤dLen)(hfit:cs.length≤cur.size) :
  (Builtin.copy_ #[T,T] 3 #[.slice (some ⟨g,0,none⟩) dLen dCap,.slice (some ⟨b,o,none⟩) n cap]).run Tryz.prog w=.ok (goInt n) (w.setRow g (cs++cur.toList.drop cs.length).toArray):=by
 have hmin:Nat.min n dLen=n:=Nat.min_eq_left hd
 have hl:=run_loadCells_list (P:=Tryz.prog) w ⟨b,o,none⟩ cs hsrc
 have hst:=run_storeCells_at Tryz.prog g 0 e cs 0 cur w hg (by omega) h1
 simp only[Nat.zero_add,List.take_zero,List.nil_append]at hst
 rw[hcs]at hl
 cases hq:Tryz.prog.info? e with
 |none=>rw[hq]at hsz;cases hsz
 |some i=>
  rw[hq]at hsz
  have hi:i.size=z:=by simpa using hsz
  simp[Builtin.copy_,run_underlying hu,Builtin.lenOf,Builtin.firstCells,sizeOf,typeInfo,hq,hi,hmin,hl,hst]
attribute [local go_sem] Oper.semAt_some
def RPg (w:World)(st n:Nat):Prop:=∃ a c,w.cell? ⟨st,3,none⟩=some (.slice a n c)∧∀ j,j<n→∃ b o,a=some ⟨b,o,none⟩∧w.cell? ⟨b,o+j*65,none⟩=some (.bool true)
theorem rUsed_any (st n:Nat)(w:World)(h:RPg w st n)(hm:n≤1000000) :
  Calls Tryz.prog 80 #[.pointer (some ⟨st,0,none⟩)] w fun e w'=>e=.returned (.int .i64 n)∧w'=w:=by
 obtain⟨a,c,h1,h2⟩:=h
 have H2:Hid _:=h2
 clear h2
 go_enter Tryz.func80,Tryz.ntmps80
 go_upto_region 3 with fail
 go_loopw [3,4] (fun s i wr=>∃ j:Nat,j≤n∧i=.int .i64 (j:Int)∧s=.int .i64 (j:Int)∧wr=w) (fun _ i _=>n-(intOf i).toNat)
 case atStart=>exact⟨0,Nat.zero_le _,rfl,rfl,rfl⟩
 case round=>
  obtain⟨j,hj,rfl,rfl,hwr⟩:=hrel
  rw[hwr]
  clear hwr
  by_cases hlt:j<n
  ·obtain⟨b,o,rfl,q0⟩:=H2.out j hlt
   have HJ:Hid (j<n):=hlt
   have i1:(0:Int)≤(j:Int):=by omega
   have i2:(j:Int)<(n:Int):=by omega
   go_wp2
   go_roundw
   case rel=>exact⟨j+1,HJ.out,by have:=HJ.out;go_num,by have:=HJ.out;go_num,(by first|rfl|trivial)⟩
   case measure=>have:=HJ.out;simp[intOf];omega
  obtain rfl:j=n:=by omega
  have i3:¬ ((j:Int)<(j:Int)):=by omega
  go_wp2
  go_ret
  exact⟨rfl,rfl⟩
theorem rNew_any (q f:Int)(w:World) :
  Calls Tryz.prog 17 #[.agg #[.int .i64 q,.int .i64 f]] w fun e w'=>Below w.heap.size w w'∧∃ st,e=.returned (.pointer (some ⟨st,0,none⟩))∧w.heap.size≤st∧w'.heap[st]?=some (.cells #[.int .i64 q,.int .i64 f,.int .i64 0,.slice none 0 0,.slice none 0 0] 96 (0,0)):=by
 go_enter Tryz.func17,Tryz.ntmps17
 go_wp2
 go_ret
 have hn:=heap_alloc_new (w.alloc (.cells #[.int .i64 q,.int .i64 f] 35)) (.cells #[.int .i64 q,.int .i64 f,.int .i64 0,.slice none 0 0,.slice none 0 0] 96)
 rw[World.size_alloc]at hn
 exact⟨((Below.refl _ w).alloc (Nat.le_refl _) _).alloc (by simp) _,w.heap.size+1,by simp,by omega,hn⟩
def pageC:List Value:=.bool true::List.replicate 64 (.int .i64 0)
def pgs (n:Nat):List Value:=(List.replicate n pageC).flatten
theorem pgs_more (n:Nat):pgs (n+1)=pgs n++pageC:=by
 unfold pgs
 rw[List.replicate_succ',List.flatten_append,List.flatten_singleton]
theorem pgs_length (n:Nat):(pgs n).length=n*65:=by
 induction n with
 |zero=>rfl
 |succ n ih=>rw[pgs_more,List.length_append,ih];simp[pageC];omega
theorem pgs_at (n:Nat):∀ j,j<n→(pgs n)[j*65]?=some (.bool true):=by
 induction n with
 |zero=>intro j h;omega
 |succ n ih=>
  intro j h
  rw[pgs_more,List.getElem?_append]
  split
  ·rename_i h2
   rw[pgs_length]at h2
   exact ih j (by omega)
  rename_i h2
  rw[pgs_length]at h2 ⊢
  obtain rfl:j=n:=by omega
  simp[pageC]
theorem infoPg:(Tryz.prog.info? 182).map (fun i=>(i.zero,i.size,i.bytes))=some (some (.agg (.bool false::List.replicate 64 (.int .i64 0)).toArray),65,520):=by kernel_rfl
theorem wpList_append_Pg {w:World}{ops:Array Oper}{rest:List Oper}{o:Oper}{a:Act}{Q:Exit→Act→World→Prop}(hgd:o.guard=none)(s x:Operand)
  (ho:o.op=.call {callee:=.builtin .append,args:=#[s,x],argTypes:=#[93,93]})
  (B:Nat) (sv:Value) (n:Nat) (hs:a.eval s=sv) (hown:w.ownsRow B 182 65 sv n (pgs n))
  (g c:Nat) (hx:a.eval x=.slice (some ⟨g,0,none⟩) 1 c) (hv:w.heap[g]?=some (.cells pageC.toArray 182 (0,0))) (hlen:n≤1000000) (hbase:B≤w.heap.size)
  (h:∀ sv' w',w'.ownsRow B 182 65 sv' (n+1) (pgs (n+1))→w.grownBy w' sv.ownBlock→(sv'.ownBlock=sv.ownBlock∨sv'.ownBlock=some w.heap.size)→wpList Tryz.prog ops Q rest (a.put o.dst sv') w') :
  wpList Tryz.prog ops Q (o::rest) a w:=by
 obtain⟨i,hi,hz,hsz,hby⟩:=info_parts infoPg
 refine wpList_append_own_at w hgd s x 93 ho B 182 i _ 65 520 (by kernel_rfl) hi hz hsz hby (by rfl) (by decide) sv n (pgs n) hs hown ⟨g,0,none⟩ 1 c pageC hx rfl ?_ ?_ ?_ ?_ hbase ?_
 ·intro j u hj
  have:w.cell? ⟨g,j,none⟩=some u:=by simpa [World.cell?,hv] using hj
  cases j with
  |zero=>exact this
  |succ j=>simpa [Addr.add] using this
 ·intro u hu
  simp[pageC]at hu
  rcases hu with rfl|rfl<;>rfl
 ·unfold maxLen;omega
 ·omega
 intro v' w' h1 h2 _ h4
 rw[←pgs_more]at h1
 exact h v' w' h1 h2 h4
theorem rpg_of {w:World}{B st n:Nat}{sv:Value}(h3:w.cell? ⟨st,3,none⟩=some sv)(h:w.ownsRow B 182 65 sv n (pgs n)):RPg w st n:=by
 obtain⟨hl,h⟩:=h
 rcases h with⟨hv,h0⟩|⟨g,cap,cur,hv,hb,hg,h4,h5,h6,hcur⟩
 ·subst hv h0
  exact⟨none,0,h3,fun j hj=>by omega⟩
 subst hv
 refine⟨_,_,h3,fun j hj=>⟨g,0,rfl,?_⟩⟩
 have hj2:=pgs_at n j hj
 rw[←hcur,List.getElem?_take_of_lt (by omega)]at hj2
 simp only[Array.getElem?_toList]at hj2
 simp[World.cell?,hg,hj2]
theorem rWrite_any (B st n:Nat)(q f k:Int)(sv tv:Value)(w:World)(hS:w.heap[st]?=some (.cells #[.int .i64 q,.int .i64 f,.int .i64 k,sv,tv] 96 (0,0)))(hown:w.ownsRow B 182 65 sv n (pgs n))(hne:sv.ownBlock≠some st)(hn:n≤900000)(hq:(n:Int)<q)(hk0:0≤k)(hk1:k≤1000000000)(hf:¬ (k+1=f))(hB:B≤w.heap.size) :
  Calls Tryz.prog 57 #[.pointer (some ⟨st,0,none⟩)] w fun e w'=>e=.returned (.tuple #[.int .i64 n,.int .i64 0])∧∃ sv',w'.heap[st]?=some (.cells #[.int .i64 q,.int .i64 f,.int .i64 (k+1),sv',tv] 96 (0,0))∧w'.ownsRow B 182 65 sv' (n+1) (pgs (n+1))∧Keep (fun x=>x=st∨sv.ownBlock=some x) w w'∧(sv'.ownBlock=sv.ownBlock∨∃ g,sv'.ownBlock=some g∧w.heap.size≤g):=by
 have h0:w.cell? ⟨st,0,none⟩=some (.int .i64 q):=by simp[World.cell?,hS]
 have h1:w.cell? ⟨st,1,none⟩=some (.int .i64 f):=by simp[World.cell?,hS]
 have h2:w.cell? ⟨st,2,none⟩=some (.int .i64 k):=by simp[World.cell?,hS]
 have h3:w.cell? ⟨st,3,none⟩=some sv:=by simp[World.cell?,hS]
 have z2:w.frozen? ⟨st,2,none⟩=false:=by simp[World.frozen?,hS]
 have hU:=rUsed_any st n w (rpg_of h3 hown) (by omega)
 have i1:¬ ((n:Int)≥q):=by omega
 have HS:Hid (w.heap[st]?=some (.cells #[.int .i64 q,.int .i64 f,.int .i64 k,sv,tv] 96 (0,0))∧w.ownsRow B 182 65 sv n (pgs n)∧sv.ownBlock≠some st∧B≤w.heap.size):=⟨hS,hown,hne,hB⟩
 clear hown hne hB hS
 go_enter Tryz.func57,Tryz.ntmps57
 go_upto_region 5 with(go_at_call 80;refine hU.mono ?_;rintro e w1 ⟨rfl,hw1⟩;subst w1)
 clear hU
 obtain⟨W,hW⟩:∃ W,W=w.setCell ⟨st,2,none⟩ (.int .i64 (k+1)):=⟨_,rfl⟩
 rw[←hW]
 have HW:Hid (W.heap[st]?=some (.cells #[.int .i64 q,.int .i64 f,.int .i64 (k+1),sv,tv] 96 (0,0))∧W.ownsRow B 182 65 sv n (pgs n)∧sv.ownBlock≠some st∧B≤W.heap.size∧Keep (fun x=>x=st∨sv.ownBlock=some x) w W):=by
  have hq:=heap_setCell_same w st 2 _ _ (.int .i64 (k+1)) HS.out.1
  refine⟨by rw[hW,hq];rfl,owns_of_block HS.out.2.1 fun g hg=>?_,HS.out.2.2.1,?_,?_⟩
  ·rw[hW]
   exact heap_setCell_other _ _ _ _ fun e=>HS.out.2.2.1 (by rw[hg];exact congrArg some e)
  ·rw[hW]
   simpa [World.setCell] using HS.out.2.2.2
  rw[hW]
  exact(Keep.refl _ _).set (.inl rfl) _ _
 clear hW h0 h1 h2 h3 z2 HS i1
 have h1:W.cell? ⟨st,1,none⟩=some (.int .i64 f):=by simp[World.cell?,HW.out.1]
 have h2:W.cell? ⟨st,2,none⟩=some (.int .i64 (k+1)):=by simp[World.cell?,HW.out.1]
 have h3:W.cell? ⟨st,3,none⟩=some sv:=by simp[World.cell?,HW.out.1]
 have z3:W.frozen? ⟨st,3,none⟩=false:=by simp[World.frozen?,HW.out.1]
 have hP:=rpg_of h3 HW.out.2.1
 refine wp_region_held_drew (S:=fun X=>X.cell? ⟨st,1,none⟩=some (.int .i64 f)∧X.cell? ⟨st,2,none⟩=some (.int .i64 (k+1))) (by kernel_rfl) ⟨cell_drew h1,cell_drew h2⟩ (fun hH=>?_)
 refine tkj 0 rfl hH ?_
 refine tkj 1 rfl hH ?_
 refine tkj 2 rfl hH ?_
 refine tkj 3 rfl hH ?_
 refine tkj 4 rfl hH ?_
 refine tkj 5 rfl hH ?_
 refine tkj 6 rfl hH ?_
 refine tkj 7 rfl hH ?_
 refine tkj 8 rfl hH ?_
 refine tkj 9 rfl hH ?_
 refine tkn ?_
 refine wpAnyH_done (by kernel_rfl) ?_ _
 obtain⟨V,hV⟩:∃ V,V=W.drew:=⟨_,rfl⟩
 rw[←hV]
 have HV:Hid (V=W.drew):=hV
 obtain⟨a,c,e3,hP⟩:=hP
 rw[h3]at e3
 obtain rfl:=Option.some.inj e3
 have h4:V.cell? ⟨st,3,none⟩=some (.slice a n c):=by rw[hV];exact h3
 have z4:V.frozen? ⟨st,3,none⟩=false:=by rw[hV];exact z3
 have H2:Hid (∀ j,j<n→∃ b o,a=some ⟨b,o,none⟩∧V.cell? ⟨b,o+j*65,none⟩=some (.bool true)):=by rw[hV];exact hP
 clear h1 h2 h3 z3 hP hV e3
 go_upto_region 8 with fail
 go_loopw [5] (fun i wr=>∃ j:Nat,j≤n∧i=.int .i64 (j:Int)∧wr=V) (fun i _=>n-(intOf i).toNat)
 case atStart=>exact⟨0,Nat.zero_le _,rfl,rfl⟩
 case round=>
  obtain⟨j,hj,rfl,hwr⟩:=hrel
  rw[hwr]
  clear hwr
  by_cases hlt:j<n
  ·obtain⟨b,o,rfl,q0⟩:=H2.out j hlt
   have HJ:Hid (j<n):=hlt
   have i1:(0:Int)≤(j:Int):=by omega
   have i2:(j:Int)<(n:Int):=by omega
   go_wp2
   go_roundw
   case rel=>exact⟨j+1,HJ.out,by have:=HJ.out;go_num,(by first|rfl|trivial)⟩
   case measure=>have:=HJ.out;simp[intOf];omega
  obtain rfl:j=n:=by omega
  have i3:¬ ((j:Int)<(j:Int)):=by omega
  have HO:Hid (V.ownsRow B 182 65 (.slice a j c) j (pgs j)∧B≤V.heap.size):=by rw[HV.out];exact⟨HW.out.2.1,HW.out.2.2.2.1⟩
  have HL:Hid (∀ X,(V.alloc (.cells pageC.toArray 182)).grownBy X (Value.slice a j c).ownBlock→X.heap[st]?=V.heap[st]?):=by
   intro X hg
   have hl:st<V.heap.size:=lt_of_cell h4
   rw[hg.block st (by simp;omega) (fun e=>HW.out.2.2.1 e.symm),Below.heap_alloc _ _ _ hl]
  go_upto_region 14 with(at_builtin;go_must (refine wpList_append_Pg (by rfl) _ _ (by rfl) B _ j (by rfl) (owns_alloc HO.out.1 _) V.heap.size 1 (by rfl) (by exact heap_alloc_new V _) (by omega) (by have:=HO.out.2;simp;omega) ?_);intro sv' w4 q1 q2 q3;obtain⟨a5,c5,h5⟩:=row_slice q1;subst h5;have y3:=HL.out w4 q2;have y4:w4.frozen? ⟨st,3,none⟩=false:=(by rw[World.frozen?_of_block y3];exact z4);have y5:w4.cell? ⟨st,3,none⟩=some (.slice a j c):=by rw[World.cell?_of_block y3];exact h4)
  obtain⟨X,hX⟩:∃ X,X=w4.setCell ⟨st,3,none⟩ (.slice a5 (j+1) c5):=⟨_,rfl⟩
  rw[←hX]
  have hS4:w4.heap[st]?=some (.cells #[.int .i64 q,.int .i64 f,.int .i64 (k+1),.slice a j c,tv] 96 (0,0)):=by
   rw[y3,HV.out]
   exact HW.out.1
  have hlt4:st<V.heap.size:=lt_of_cell h4
  have hne5:(Value.slice a5 (j+1) c5).ownBlock≠some st:=by
   intro e
   rcases q3 with h|h
   ·exact HW.out.2.2.1 (h▸e)
   rw[h]at e
   have:=Option.some.inj e
   simp at this
   omega
  have HX:Hid (X.heap[st]?=some (.cells #[.int .i64 q,.int .i64 f,.int .i64 (k+1),.slice a5 (j+1) c5,tv] 96 (0,0))∧X.ownsRow B 182 65 (.slice a5 (j+1) c5) (j+1) (pgs (j+1))∧Keep (fun x=>x=st∨(Value.slice a j c).ownBlock=some x) w X∧((Value.slice a5 (j+1) c5).ownBlock=(Value.slice a j c).ownBlock∨∃ g,(Value.slice a5 (j+1) c5).ownBlock=some g∧w.heap.size≤g)):=by
   have hz:=HW.out.2.2.2.2.size
   refine⟨by rw[hX,heap_setCell_same w4 st 3 _ _ _ hS4];rfl,owns_of_block q1 fun g hg=>?_,?_,?_⟩
   ·rw[hX]
    exact heap_setCell_other _ _ _ _ fun e=>hne5 (by rw[hg];exact congrArg some e)
   ·rw[hX]
    refine Keep.set ?_ (.inl rfl) _ _
    refine HW.out.2.2.2.2.trans ?_
    have hk:Keep (fun x=>x=st∨(Value.slice a j c).ownBlock=some x) W (V.alloc (.cells pageC.toArray 182)):=by
     refine Keep.alloc ?_ _
     rw[HV.out]
     exact(Keep.refl _ W).drewN 1
    refine hk.trans ⟨q2.os,q2.tape,q2.output,q2.size,fun i hi hn=>q2.block i hi fun e=>hn (.inr e.symm)⟩
   refine q3.imp id fun h=>⟨_,h,?_⟩
   rw[HV.out]
   simp
   exact Nat.le_succ_of_le hz
  have hc:X.cell? ⟨st,3,none⟩=some (.slice a5 (j+1) c5):=by simp[World.cell?,HX.out.1]
  clear q1 q2 q3 y3 y4 y5 hX hS4 hne5 HL HO H2 h4 z4
  have HX2:Hid _:=HX.out
  go_wp2
  go_ret2
  exact⟨by simp,_,HX2.out⟩
end Go.Proofs.YtkgibdjakgmmcaaGreatDoor
