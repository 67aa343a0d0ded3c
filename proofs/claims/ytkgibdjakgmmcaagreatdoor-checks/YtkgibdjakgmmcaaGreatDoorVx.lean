/- The document's Check, of a plan of one to twelve nodes. -/
import Derived.Test.YtkgibdjakgmmcaaGreatDoorLawP
import Derived.Test.YtkgibdjakgmmcaaGreatDoorVv
set_option maxHeartbeats 8000000
set_option maxRecDepth 100000
namespace Go.Proofs.YtkgibdjakgmmcaaGreatDoor
open Go.RowKit Go.Shelf
attribute [local go_sem] Oper.semAt_some
structure GotS (W:World) (B:Nat) (sv:Value) (ss:List Sch) (scs:List (List Int)):Prop where
 own:OwnC W B 29 sv (ss.map schV)
 eq:ss.map (·.2.2)=scs.take ss.length
 le:ss.length≤scs.length
 ok:∀ s∈ss,Ints W s.1 s.2.2∧TyI W s.1
theorem GotS.below {W X:World}{B:Nat}{sv:Value}{ss:List Sch}{scs:List (List Int)}(h:GotS W B sv ss scs)(hb:Below W.heap.size W X):GotS X B sv ss scs:=
 ⟨owns_of_block h.own fun g e=>hb.block g (owns_block h.own e).2,h.eq,h.le,fun s hs=>⟨(h.ok s hs).1.below hb,(h.ok s hs).2.below hb⟩⟩
theorem GotS.kn {W:World}{B:Nat}{sa:Option Addr}{n c:Nat}{ss:List Sch}{scs:List (List Int)}(h:GotS W B (.slice sa n c) ss scs):KnAt W sa (scs.take ss.length):=fun i s hi=>by
 rw[←h.eq,List.getElem?_map]at hi
 obtain⟨x,hx,rfl⟩:=Option.map_eq_some_iff.1 hi
 have hil:i<ss.length:=(List.getElem?_eq_some_iff.1 hx).1
 rcases h.own with⟨_,⟨_,h2⟩|⟨g,cap,cur,h1,h2,h3,h4,h5,h6,h7⟩⟩
 ·rw[List.length_map]at h2;omega
 simp only[Value.slice.injEq]at h1
 refine⟨g,0,x.1,x.2.1,h1.1,?_,h.ok x (List.mem_of_getElem? hx)⟩
 have:(ss.map schV)[i]?=some (schV x):=by rw[List.getElem?_map,hx];rfl
 rw[←h7,List.getElem?_take,if_pos (by rw[List.length_map];omega),Array.getElem?_toList]at this
 rw[Nat.zero_add]
 simp only[World.cell?,h3]
 simpa using this
theorem KnAt.other {W X:World}{sa:Option Addr}{scs:List (List Int)}{f:Nat}{C:Array Value}(h:KnAt W sa scs)(hf:W.heap[f]?=some (.cells C 52 (0,0)))(hne:∀ b o,sa=some ⟨b,o,none⟩→b≠f)(hs:W.heap.size≤X.heap.size)(ho:∀ k,k≠f→X.heap[k]?=W.heap[k]?):KnAt X sa scs:=fun i s hi=>by
 obtain⟨b,o,ta,tc,e,c,hin,ht⟩:=h i s hi
 have ne:∀ b o,ta=some ⟨b,o,none⟩→b≠f:=fun b o e e2=>by
  obtain⟨c2,h2⟩:=ht b o e
  rw[e2,hf]at h2
  simp at h2
 refine⟨b,o,ta,tc,e,?_,hin.of_block hs fun b o e _=>ho b (ne b o e),fun b o e=>?_⟩
 ·rw[←c]
  unfold World.cell?
  rw[show X.heap[(⟨b,o+i,none⟩:Addr).block]?=W.heap[(⟨b,o+i,none⟩:Addr).block]? from ho b (hne b o e)]
 obtain⟨c2,h2⟩:=ht b o e
 exact⟨c2,(ho b (ne b o e)).trans h2⟩
theorem GotS.more {W w4:World}{B:Nat}{sv sv':Value}{ss:List Sch}{scs:List (List Int)}(h:GotS W B sv ss scs)(o:Obj){b off c:Nat}{s:List Int}(hs:scs[ss.length]?=some s)(hi:Ints W (some ⟨b,off,none⟩) s)(ht:TyI W (some ⟨b,off,none⟩))
  (q1:OwnC w4 B 29 sv' (ss.map schV++[schV (some ⟨b,off,none⟩,c,s)])) (q2:(W.alloc o).grownBy w4 sv.ownBlock):GotS w4 B sv' (ss++[(some ⟨b,off,none⟩,c,s)]) scs:=by
 have hl:ss.length<scs.length:=(List.getElem?_eq_some_iff.1 hs).1
 have hne:∀ g,sv.ownBlock=some g→∃ cur,W.heap[g]?=some (.cells cur 29 (0,0)):=fun g e=>by
  rcases h.own with⟨_,⟨h1,_⟩|⟨g',cap,cur,h1,h2,h3,_⟩⟩
  ·rw[h1]at e;simp[Value.ownBlock]at e
  rw[h1]at e;simp[Value.ownBlock]at e;subst e;exact⟨cur,h3⟩
 have stay:∀ a xs,Ints W a xs→TyI W a→Ints w4 a xs∧TyI w4 a:=fun a xs hi ht=>by
  have blk:∀ b o,a=some ⟨b,o,none⟩→b<W.heap.size→w4.heap[b]?=W.heap[b]?:=fun b o e hb=>by
   rw[q2.block b (by simp;omega) fun e2=>?_,Below.heap_alloc _ _ _ hb]
   obtain⟨c1,h1⟩:=hne b e2.symm
   obtain⟨c2,h2⟩:=ht b o e
   rw[h1]at h2
   simp at h2
  refine⟨hi.of_block (Nat.le_trans (by simp) q2.size) blk,fun b o e=>?_⟩
  obtain⟨c2,h2⟩:=ht b o e
  exact⟨c2,(blk b o e (lt_of_heap h2)).trans h2⟩
 refine⟨by rw[List.map_append];exact q1,?_,by rw[List.length_append];exact hl,fun x hx=>?_⟩
 ·rw[List.map_append,h.eq,List.length_append,List.length_singleton,List.take_succ_eq_append_getElem hl]
  obtain⟨_,he⟩:=List.getElem?_eq_some_iff.1 hs
  rw[he]
  rfl
 rcases List.mem_append.1 hx with hx|hx
 ·exact stay _ _ (h.ok x hx).1 (h.ok x hx).2
 rw[List.mem_singleton]at hx
 subst hx
 exact stay _ _ hi ht
theorem rCheck_in (st:Nat)(Rs:List (ByteArray×List Int))(a:Option Addr)(nc:Nat)(nds:List Nd)(ns:List QN)(scs:List (List Int))(w:World)(hP:PlnAt w a nds ns)(hRt:RTabs w st Rs)(hfew:Rs.length≤1000)(hty:∀ R∈Rs,SchOk R.2)(hC:PChk (tysR Rs) ns scs)(hks:∀ n∈ns,n.ks.length≤4400000000000)(h1:1≤ns.length)(h12:ns.length≤12) :
  Calls Tryz.prog 14 #[.pointer (some ⟨st,0,none⟩),.agg #[.slice a ns.length nc]] w (RCk w ((badAt ns scs).map fun i=>(i:Int)) scs):=by
 have hsch:=hC.schs fun n s hs=>by
  obtain⟨T,hT',rfl⟩:=Option.map_eq_some_iff.1 hs
  exact hty T (List.mem_of_getElem? hT')
 have HH:Hid (PlnAt w a nds ns∧RTabs w st Rs∧Rs.length≤1000∧(∀ R∈Rs,SchOk R.2)∧PChk (tysR Rs) ns scs∧(∀ n∈ns,n.ks.length≤4400000000000)∧ns.length≤12∧∀ s∈scs,SchOk s):=⟨hP,hRt,hfew,hty,hC,hks,h12,hsch⟩
 obtain⟨R,hR⟩:∃ R,((badAt ns scs).map fun i=>(i:Int))=R:=⟨_,rfl⟩
 rw[hR]
 have HR:Hid (((badAt ns scs).map fun i=>(i:Int))=R):=hR
 obtain⟨n,hn⟩:∃ n,n=ns.length:=⟨_,rfl⟩
 have HN:Hid (n=ns.length):=hn
 rw[←hn]at h1 h12 ⊢
 clear hP hRt hfew hty hC hks hsch hR hn
 have hb0:Below w.heap.size w ((w.alloc (.cells #[.slice a n nc] 25)).alloc zeroFault):=below_alloc (below_alloc (Below.refl _ _) _) _
 have hk5:((w.alloc (.cells #[.slice a n nc] 25)).alloc zeroFault).heap[w.heap.size+1]?=some (.cells #[.int .i64 0,.int .i64 0,.int .i64 0,.int .i64 0,.int .i64 0] 52 (0,0)):=by
  have:=heap_alloc_new (w.alloc (.cells #[.slice a n nc] 25)) zeroFault
  rwa [World.size_alloc]at this
 have hp0:((w.alloc (.cells #[.slice a n nc] 25)).alloc zeroFault).cell? ⟨w.heap.size,0,none⟩=some (.slice a n nc):=by rw[World.cell?_alloc_lt _ _ _ (by simp)];simp
 obtain⟨W0,hW0⟩:∃ W0,W0=(w.alloc (.cells #[.slice a n nc] 25)).alloc zeroFault:=⟨_,rfl⟩
 rw[←hW0]at hb0 hk5 hp0
 have H0:Hid (Below w.heap.size w W0∧W0.heap[w.heap.size+1]?=some (.cells #[.int .i64 0,.int .i64 0,.int .i64 0,.int .i64 0,.int .i64 0] 52 (0,0))∧W0.cell? ⟨w.heap.size,0,none⟩=some (.slice a n nc)):=⟨hb0,hk5,hp0⟩
 have hbad:=rBad_any 8 W0
 rw[hW0]at hbad
 clear hb0 hk5 hp0
 go_enter Tryz.func14,Tryz.ntmps14
 go_upto_region 2 with(go_at_call 24;refine hbad.mono ?_;rintro e' X1 ⟨rfl,hb1⟩)
 rw[←hW0]at hb1
 have hb2:Below X1.heap.size X1 (X1.alloc (.cells #[.int .i64 8,.int .i64 (-1),.int .i64 (-1),.int .i64 (-1),.int .i64 (-1)] 52)):=below_alloc (Below.refl _ _) _
 have hk6:=heap_alloc_new X1 (.cells #[.int .i64 8,.int .i64 (-1),.int .i64 (-1),.int .i64 (-1),.int .i64 (-1)] 52)
 obtain⟨f6,hf6⟩:∃ f6,f6=X1.heap.size:=⟨_,rfl⟩
 have hz:w.heap.size+1<X1.heap.size:=Nat.lt_of_lt_of_le (lt_of_heap H0.out.2.1) hb1.size
 have hk5:=(hb2.block _ hz).trans ((hb1.block _ (lt_of_heap H0.out.2.1)).trans H0.out.2.1)
 have hp2:=cell_below hb2 (cell_below hb1 H0.out.2.2)
 have hlow:=below_then (below_then H0.out.1 hb1) hb2
 have HNE:Hid (f6≠w.heap.size+1):=by show _≠_;omega
 have HF6:Hid (w.heap.size≤f6):=by show _≤_;omega
 rw[←hf6]at hk6 ⊢
 generalize X1.alloc (.cells #[.int .i64 8,.int .i64 (-1),.int .i64 (-1),.int .i64 (-1),.int .i64 (-1)] 52)=W2 at hk5 hk6 hp2 hlow ⊢
 have H2:Hid (W2.heap[w.heap.size+1]?=some (.cells #[.int .i64 0,.int .i64 0,.int .i64 0,.int .i64 0,.int .i64 0] 52 (0,0))∧W2.heap[f6]?=some (.cells #[.int .i64 8,.int .i64 (-1),.int .i64 (-1),.int .i64 (-1),.int .i64 (-1)] 52 (0,0))∧W2.cell? ⟨w.heap.size,0,none⟩=some (.slice a n nc)∧Below w.heap.size w W2):=⟨hk5,hk6,hp2,hlow⟩
 clear hb1 hb2 hz hf6 hbad hW0 hk5 hk6 hlow
 have k1:(1:Int)≤(n:Int):=by omega
 have k2:(n:Int)≤12:=by omega
 have k3:((n:Int)==0)=false:=by simp;omega
 go_upto_region 6 with fail
 clear hp2 k3
 go_loopw [7,8] (fun sv i wr=>∃ ss:List Sch,i=.int .i64 (ss.length:Int)∧GotS wr W2.heap.size sv ss scs∧Below W2.heap.size W2 wr∧ss.length≤n) (fun _ i _=>n-(intOf i).toNat)
 case atStart=>exact⟨[],rfl,⟨OwnC.nil _ _ _,rfl,Nat.zero_le _,fun s hs=>by cases hs⟩,Below.refl _ _,Nat.zero_le _⟩
 case round=>
  obtain⟨ss,rfl,hG,hbw,hsn⟩:=hrel
  obtain⟨j,hj⟩:∃ j,j=ss.length:=⟨_,rfl⟩
  have HJ:Hid (j=ss.length∧j≤n):=⟨hj,by omega⟩
  obtain⟨sa,sc,hsv⟩:=row_slice hG.own
  rw[List.length_map,←hj]at hsv
  rw[←hj]at hsn ⊢
  subst hsv
  have HG:Hid (GotS wr W2.heap.size (.slice sa j sc) ss scs∧Below W2.heap.size W2 wr):=⟨hG,hbw⟩
  have hp:=cell_below hbw H2.out.2.2.1
  have hk5w:=(hbw.block _ (lt_of_heap H2.out.1)).trans H2.out.1
  have hk6w:=(hbw.block _ (lt_of_heap H2.out.2.1)).trans H2.out.2.1
  have hlw:=below_then H2.out.2.2.2 hbw
  by_cases hlt:j<n
  ·have hjn:j<ns.length:=by rw[←HN.out];exact hlt
   obtain⟨nq,hnq⟩:∃ nq,ns[j]?=some nq:=⟨_,List.getElem?_eq_getElem hjn⟩
   have hlen:(scs.take j).length=j:=by rw[List.length_take];have:=hG.le;omega
   have hSI:ScIn wr st Rs a sa nds ns (scs.take j):=⟨HH.out.1.below hlw,HH.out.2.1.below hlw,HH.out.2.2.1,HH.out.2.2.2.1,by rw[hj];exact hG.kn,fun s hs=>HH.out.2.2.2.2.2.2.2 s (List.mem_of_mem_take hs),by rw[hlen];exact hjn,HH.out.2.2.2.2.2.2.1⟩
   have hsc:=rSchema_any st Rs a sa nc sc nds ns (scs.take j) nq wr hSI (by rw[hlen];exact hnq) (HH.out.2.2.2.2.2.1 nq (List.mem_of_getElem? hnq))
   rw[hlen,←HN.out]at hsc
   have i1:(j:Int)<(n:Int):=by omega
   by_cases hjs:j<scs.length
   ·obtain⟨s,hs⟩:∃ s,scs[j]?=some s:=⟨_,List.getElem?_eq_getElem hjs⟩
    rw[HH.out.2.2.2.2.1.ok j s nq hs hnq]at hsc
    have HS:Hid (scs[ss.length]?=some s∧j<n):=⟨by rw[←hj];exact hs,hlt⟩
    clear hnq hlen hSI hjs hs hjn hG hbw hk5w hk6w hj hlt
    go_upto_region 9 with(go_at_call 25;refine hsc.mono ?_;rintro e' W3 ⟨hb3,b,off,c,rfl,hi3,ht3⟩;have hp3:=cell_below hb3 hp;have HG3:Hid _:=HG.out.1.below hb3;have HI3:Hid (Ints W3 (some ⟨b,off,none⟩) s∧TyI W3 (some ⟨b,off,none⟩)):=⟨hi3,ht3⟩;clear hi3 ht3)
    have hqn:∀ (W:World),(binOp BinOp.eql 29 (.slice (some ⟨b,off,none⟩) s.length c) (.slice none 0 0)).run Tryz.prog W=.ok (.bool false) W:=fun W=>by kernel_rfl
    go_wp2_with (at_builtin;go_must (refine wpList_append_D (by rfl) _ _ 56 29 _ 24 info_ints (by rfl) (by decide) (by kernel_rfl) (by rfl) W2.heap.size _ _ (by rfl) (OwnC.alloc HG3.out.own _) ⟨W3.heap.size,0,none⟩ 1 [schV (some ⟨b,off,none⟩,c,s)] (by rfl) (by exact news_one W3 _ _) (by intro u hu;simp at hu;subst hu;rfl) (by simp only[List.length_cons,List.length_nil,List.length_map];have:=HJ.out;omega) (Nat.le_trans HG.out.2.size (Nat.le_trans hb3.size (by simp))) ?_);intro sv' w4 q1 q2 q3)
    go_roundw
    case rel=>
     have h3:=HJ.out.1
     have h4:=HS.out.2
     exact⟨ss++[(some ⟨b,off,none⟩,c,s)],by rw[List.length_append,←h3];simp only[List.length_cons,List.length_nil];go_num,HG3.out.more _ HS.out.1 HI3.out.1 HI3.out.2 q1 q2,below_grown (w:=W2) (below_alloc (below_then HG.out.2 hb3) _) q2 fun k hk=>(owns_block HG3.out.own hk).1,by rw[List.length_append,←h3];simp;omega⟩
    case measure=>have:=HS.out.2;have:=HJ.out.1;simp[intOf];omega
   have hje:j=scs.length:=by have:=hG.le;omega
   have hbadn:=HH.out.2.2.2.2.1.bad nq (by rw[←hje];exact hnq)
   rw[hje,List.take_length,hbadn]at hsc
   rw[←hje]at hsc
   have hRj:R=some (j:Int):=by rw[←HR.out];unfold badAt;rw[if_pos (by rw[←hje];exact hjn),←hje];rfl
   subst hRj
   clear hnq hlen hSI hjs hbadn hjn hG hbw hje hj
   go_upto_region 9 with(go_at_call 25;refine hsc.mono ?_;rintro e' W3 ⟨hb3,rfl⟩)
   have hqn:∀ (W:World),(binOp BinOp.eql 29 (.slice none 0 0) (.slice none 0 0)).run Tryz.prog W=.ok (.bool true) W:=fun W=>by kernel_rfl
   have hk5x:=(hb3.block _ (lt_of_heap hk5w)).trans hk5w
   have hk6x:=(hb3.block _ (lt_of_heap hk6w)).trans hk6w
   have hl3:=below_then hlw hb3
   clear hk5w hk6w hlw hsc hp hb3
   have e0:W3.cell? ⟨f6,1,none⟩=some (.int .i64 (-1)):=by simp[World.cell?,hk6x]
   have e1:W3.frozen? ⟨f6,1,none⟩=false:=by simp[World.frozen?,hk6x]
   go_upto_region 11 with fail
   have hk6:=heap_set hk6x 1 (.int .i64 (j:Int))
   simp only[List.setIfInBounds_toArray,List.set_cons_zero,List.set_cons_succ]at hk6
   have hk5:=(Below.heap_setCell W3 ⟨f6,1,none⟩ (.int .i64 (j:Int)) (w.heap.size+1) (Ne.symm HNE.out)).trans hk5x
   have hlow:=hl3.setCell (p:=⟨f6,1,none⟩) HF6.out (.int .i64 (j:Int))
   generalize W3.setCell ⟨f6,1,none⟩ (.int .i64 (j:Int))=W4 at hk5 hk6 hlow ⊢
   clear hk5x hk6x hl3 e0 e1 hqn
   have g0:W4.cell? ⟨f6,0,none⟩=some (.int .i64 8):=by simp[World.cell?,hk6]
   have g1:W4.cell? ⟨f6,1,none⟩=some (.int .i64 (j:Int)):=by simp[World.cell?,hk6]
   have g2:W4.cell? ⟨f6,2,none⟩=some (.int .i64 (-1)):=by simp[World.cell?,hk6]
   have g3:W4.cell? ⟨f6,3,none⟩=some (.int .i64 (-1)):=by simp[World.cell?,hk6]
   have g4:W4.cell? ⟨f6,4,none⟩=some (.int .i64 (-1)):=by simp[World.cell?,hk6]
   have a0:W4.cell? ⟨w.heap.size+1,0,none⟩=some (.int .i64 0):=by simp[World.cell?,hk5]
   have a1:W4.cell? ⟨w.heap.size+1,1,none⟩=some (.int .i64 0):=by simp[World.cell?,hk5]
   have a2:W4.cell? ⟨w.heap.size+1,2,none⟩=some (.int .i64 0):=by simp[World.cell?,hk5]
   have a3:W4.cell? ⟨w.heap.size+1,3,none⟩=some (.int .i64 0):=by simp[World.cell?,hk5]
   have a4:W4.cell? ⟨w.heap.size+1,4,none⟩=some (.int .i64 0):=by simp[World.cell?,hk5]
   have b0:W4.frozen? ⟨w.heap.size+1,0,none⟩=false:=by simp[World.frozen?,hk5]
   have b1:W4.frozen? ⟨w.heap.size+1,1,none⟩=false:=by simp[World.frozen?,hk5]
   have b2:W4.frozen? ⟨w.heap.size+1,2,none⟩=false:=by simp[World.frozen?,hk5]
   have b3:W4.frozen? ⟨w.heap.size+1,3,none⟩=false:=by simp[World.frozen?,hk5]
   have b4:W4.frozen? ⟨w.heap.size+1,4,none⟩=false:=by simp[World.frozen?,hk5]
   have hk5':=heap_set (heap_set (heap_set (heap_set (heap_set hk5 0 (.int .i64 8)) 1 (.int .i64 (j:Int))) 2 (.int .i64 (-1))) 3 (.int .i64 (-1))) 4 (.int .i64 (-1))
   simp only[List.setIfInBounds_toArray,List.set_cons_zero,List.set_cons_succ]at hk5'
   have HK5:Hid _:=hk5'
   clear hk5'
   refine wp_region_held_drew (S:=fun X=>X.cell? ⟨f6,0,none⟩=some (.int .i64 8)∧X.cell? ⟨f6,1,none⟩=some (.int .i64 (j:Int))∧X.cell? ⟨f6,2,none⟩=some (.int .i64 (-1))∧X.cell? ⟨f6,3,none⟩=some (.int .i64 (-1))∧X.cell? ⟨f6,4,none⟩=some (.int .i64 (-1))) (by kernel_rfl) ⟨cell_drew g0,cell_drew g1,cell_drew g2,cell_drew g3,cell_drew g4⟩ (fun hH=>?_)
   refine tkj 0 rfl hH ?_
   refine tkj 1 rfl hH ?_
   refine tkn ?_
   clear g0 g1 g2 g3 g4
   refine tkr 2 rfl fun K hK=>?_
   go_simp
   have hcs:∀ (b o:Nat),b≠w.heap.size+1→(((((W4.setCell ⟨w.heap.size+1,0,none⟩ (.int .i64 8)).setCell ⟨w.heap.size+1,1,none⟩ (.int .i64 (j:Int))).setCell ⟨w.heap.size+1,2,none⟩ (.int .i64 (-1))).setCell ⟨w.heap.size+1,3,none⟩ (.int .i64 (-1))).setCell ⟨w.heap.size+1,4,none⟩ (.int .i64 (-1))).drew.cell? ⟨b,o,none⟩=W4.drew.cell? ⟨b,o,none⟩:=fun b o hb=>by
    show World.cell? _ _=World.cell? W4 _
    simp only[World.cell?,World.drew,set5_other _ _ _ _ _ _ _ b hb]
   refine hK.out _ _ ⟨(hcs _ _ HNE.out).trans hH.1,(hcs _ _ HNE.out).trans hH.2.1,(hcs _ _ HNE.out).trans hH.2.2.1,(hcs _ _ HNE.out).trans hH.2.2.2.1,(hcs _ _ HNE.out).trans hH.2.2.2.2⟩ (fun hH=>?_)
   clear hK K hcs hH a0 a1 a2 a3 a4 b0 b1 b2 b3 b4
   refine wpAnyH_done (by kernel_rfl) ?_ _
   go_wp2
   exact bodyPost_ret (v:=.tuple #[.slice none 0 0,faultR 8 (j:Int) (-1) (-1) (-1)]) (by simp[results,Tryz.results14,go_sem,World.cell?,HK5.out,World.drew]) rfl ⟨drew_below (below_set5 hlow (by omega) _ _ _ _ _),rfl⟩
  have hje:j=n:=by omega
  have hss:scs.length=ns.length:=by have:=hG.le;have:=HH.out.2.2.2.2.1.le;have:=HN.out;omega
  have i1:¬ ((j:Int)<(n:Int)):=by omega
  have hRb:R=(firstOff (n-1) (flQ ns n)).map fun i=>(i:Int):=by rw[←HR.out];unfold badAt;rw[if_neg (by omega),←HN.out]
  have hkn:KnAt wr sa scs:=by have:=hG.kn;rwa [←hj,hje,HN.out,←hss,List.take_length]at this
  have hrow:∀ b o,sa=some ⟨b,o,none⟩→W2.heap.size≤b:=fun b o e=>(owns_block hG.own (g:=b) (by rw[e];rfl)).1
  have HE:Hid (KnAt wr sa scs∧(∀ b o,sa=some ⟨b,o,none⟩→W2.heap.size≤b)∧scs.length=n∧R=(firstOff (n-1) (flQ ns n)).map fun i=>(i:Int)):=⟨hkn,hrow,by rw[hss,←HN.out],hRb⟩
  have HL:Hid (Below w.heap.size w wr∧wr.heap[w.heap.size+1]?=some (.cells #[.int .i64 0,.int .i64 0,.int .i64 0,.int .i64 0,.int .i64 0] 52 (0,0))∧wr.heap[f6]?=some (.cells #[.int .i64 8,.int .i64 (-1),.int .i64 (-1),.int .i64 (-1),.int .i64 (-1)] 52 (0,0))∧wr.cell? ⟨w.heap.size,0,none⟩=some (.slice a n nc)∧w.heap.size+1<W2.heap.size):=⟨hlw,hk5w,hk6w,hp,lt_of_heap H2.out.1⟩
  clear hG hbw hk5w hk6w hlw hp hss hRb hkn hrow HG
  rw[hje]
  clear hje hlt hsn hj HJ i1 j
  generalize wr=Wa at HE HL ⊢
  have i2:¬ ((n:Int)<(n:Int)):=by omega
  have hpa:=HL.out.2.2.2.1
  go_upto_region 14 with fail
  clear hpa i2
  go_loopw [10] (fun x wr=>∃ k:Nat,k+1≤n∧x=.int .i64 (k:Int)∧Below Wa.heap.size Wa wr∧∀ y,y<k→flQ ns n y=true) (fun x _=>n-(intOf x).toNat)
  case atStart=>exact⟨0,by omega,rfl,Below.refl _ _,fun y h=>by omega⟩
  case round=>
   obtain⟨k,hk,rfl,hbw,hdn⟩:=hrel
   have HB:Hid (Below Wa.heap.size Wa wr∧(∀ y,y<k→flQ ns n y=true)∧k+1≤n):=⟨hbw,hdn,hk⟩
   have hp:=cell_below hbw HL.out.2.2.2.1
   have hk5w:=(hbw.block _ (lt_of_heap HL.out.2.1)).trans HL.out.2.1
   have hk6w:=(hbw.block _ (lt_of_heap HL.out.2.2.1)).trans HL.out.2.2.1
   have hlw:=below_then HL.out.1 hbw
   have hw1:IntKind.i64.wrap ((k:Int)+1)=(k:Int)+1:=by rw[IntKind.wrap_i64];omega
   clear hdn hbw
   by_cases hlt:k+1<n
   ·have hnm:=rNamed_any a nc nds ns (k:Int) ns.length wr (HH.out.1.below hlw) (Nat.le_refl _) HH.out.2.2.2.2.2.2.1
    rw[show ((ns.take ns.length).any fun n=>namI n (k:Int))=flQ ns ns.length k from rfl,←HN.out]at hnm
    have i3:(k:Int)+1<(n:Int):=by omega
    rcases hfk:flQ ns n k with _|_
    ·rw[hfk]at hnm
     have hRk:R=some (k:Int):=by rw[HE.out.2.2.2,firstOff_some (by omega) hfk HB.out.2.1];rfl
     subst hRk
     clear hfk hlt hk
     go_upto_region 17 with(go_at_call 26;refine hnm.mono ?_;rintro e' W3 ⟨rfl,hb3⟩)
     have hk5x:=(hb3.block _ (lt_of_heap hk5w)).trans hk5w
     have hk6x:=(hb3.block _ (lt_of_heap hk6w)).trans hk6w
     have hl3:=below_then hlw hb3
     clear hk5w hk6w hlw hnm hp hb3
     have e0:W3.cell? ⟨f6,1,none⟩=some (.int .i64 (-1)):=by simp[World.cell?,hk6x]
     have e1:W3.frozen? ⟨f6,1,none⟩=false:=by simp[World.frozen?,hk6x]
     go_upto_region 19 with fail
     have hk6:=heap_set hk6x 1 (.int .i64 (k:Int))
     simp only[List.setIfInBounds_toArray,List.set_cons_zero,List.set_cons_succ]at hk6
     have hk5:=(Below.heap_setCell W3 ⟨f6,1,none⟩ (.int .i64 (k:Int)) (w.heap.size+1) (Ne.symm HNE.out)).trans hk5x
     have hlow:=hl3.setCell (p:=⟨f6,1,none⟩) HF6.out (.int .i64 (k:Int))
     generalize W3.setCell ⟨f6,1,none⟩ (.int .i64 (k:Int))=W4 at hk5 hk6 hlow ⊢
     clear hk5x hk6x hl3 e0 e1
     have g0:W4.cell? ⟨f6,0,none⟩=some (.int .i64 8):=by simp[World.cell?,hk6]
     have g1:W4.cell? ⟨f6,1,none⟩=some (.int .i64 (k:Int)):=by simp[World.cell?,hk6]
     have g2:W4.cell? ⟨f6,2,none⟩=some (.int .i64 (-1)):=by simp[World.cell?,hk6]
     have g3:W4.cell? ⟨f6,3,none⟩=some (.int .i64 (-1)):=by simp[World.cell?,hk6]
     have g4:W4.cell? ⟨f6,4,none⟩=some (.int .i64 (-1)):=by simp[World.cell?,hk6]
     have a0:W4.cell? ⟨w.heap.size+1,0,none⟩=some (.int .i64 0):=by simp[World.cell?,hk5]
     have a1:W4.cell? ⟨w.heap.size+1,1,none⟩=some (.int .i64 0):=by simp[World.cell?,hk5]
     have a2:W4.cell? ⟨w.heap.size+1,2,none⟩=some (.int .i64 0):=by simp[World.cell?,hk5]
     have a3:W4.cell? ⟨w.heap.size+1,3,none⟩=some (.int .i64 0):=by simp[World.cell?,hk5]
     have a4:W4.cell? ⟨w.heap.size+1,4,none⟩=some (.int .i64 0):=by simp[World.cell?,hk5]
     have b0:W4.frozen? ⟨w.heap.size+1,0,none⟩=false:=by simp[World.frozen?,hk5]
     have b1:W4.frozen? ⟨w.heap.size+1,1,none⟩=false:=by simp[World.frozen?,hk5]
     have b2:W4.frozen? ⟨w.heap.size+1,2,none⟩=false:=by simp[World.frozen?,hk5]
     have b3:W4.frozen? ⟨w.heap.size+1,3,none⟩=false:=by simp[World.frozen?,hk5]
     have b4:W4.frozen? ⟨w.heap.size+1,4,none⟩=false:=by simp[World.frozen?,hk5]
     have hk5':=heap_set (heap_set (heap_set (heap_set (heap_set hk5 0 (.int .i64 8)) 1 (.int .i64 (k:Int))) 2 (.int .i64 (-1))) 3 (.int .i64 (-1))) 4 (.int .i64 (-1))
     simp only[List.setIfInBounds_toArray,List.set_cons_zero,List.set_cons_succ]at hk5'
     have HK5:Hid _:=hk5'
     clear hk5'
     refine wp_region_held_drew (S:=fun X=>X.cell? ⟨f6,0,none⟩=some (.int .i64 8)∧X.cell? ⟨f6,1,none⟩=some (.int .i64 (k:Int))∧X.cell? ⟨f6,2,none⟩=some (.int .i64 (-1))∧X.cell? ⟨f6,3,none⟩=some (.int .i64 (-1))∧X.cell? ⟨f6,4,none⟩=some (.int .i64 (-1))) (by kernel_rfl) ⟨cell_drew g0,cell_drew g1,cell_drew g2,cell_drew g3,cell_drew g4⟩ (fun hH=>?_)
     refine tkj 0 rfl hH ?_
     refine tkj 1 rfl hH ?_
     refine tkn ?_
     clear g0 g1 g2 g3 g4
     refine tkr 2 rfl fun K hK=>?_
     go_simp
     have hcs:∀ (b o:Nat),b≠w.heap.size+1→(((((W4.setCell ⟨w.heap.size+1,0,none⟩ (.int .i64 8)).setCell ⟨w.heap.size+1,1,none⟩ (.int .i64 (k:Int))).setCell ⟨w.heap.size+1,2,none⟩ (.int .i64 (-1))).setCell ⟨w.heap.size+1,3,none⟩ (.int .i64 (-1))).setCell ⟨w.heap.size+1,4,none⟩ (.int .i64 (-1))).drew.cell? ⟨b,o,none⟩=W4.drew.cell? ⟨b,o,none⟩:=fun b o hb=>by
      show World.cell? _ _=World.cell? W4 _
      simp only[World.cell?,World.drew,set5_other _ _ _ _ _ _ _ b hb]
     refine hK.out _ _ ⟨(hcs _ _ HNE.out).trans hH.1,(hcs _ _ HNE.out).trans hH.2.1,(hcs _ _ HNE.out).trans hH.2.2.1,(hcs _ _ HNE.out).trans hH.2.2.2.1,(hcs _ _ HNE.out).trans hH.2.2.2.2⟩ (fun hH=>?_)
     clear hK K hcs hH a0 a1 a2 a3 a4 b0 b1 b2 b3 b4
     refine wpAnyH_done (by kernel_rfl) ?_ _
     go_wp2
     exact bodyPost_ret (v:=.tuple #[.slice none 0 0,faultR 8 (k:Int) (-1) (-1) (-1)]) (by simp[results,Tryz.results14,go_sem,World.cell?,HK5.out,World.drew]) rfl ⟨drew_below (below_set5 hlow (by omega) _ _ _ _ _),rfl⟩
    rw[hfk]at hnm
    have HFK:Hid (flQ ns n k=true∧k+1<n):=⟨hfk,hlt⟩
    clear hfk hlt hk hk5w hk6w
    go_wp2_with (go_at_call 26;refine hnm.mono ?_;rintro e' W3 ⟨rfl,hb3⟩)
    go_roundw
    case rel=>exact⟨k+1,by have:=HFK.out.2;omega,by have:=HFK.out.2;go_num,below_then HB.out.1 hb3,fun y hy=>by by_cases e:y=k;(· rw[e];exact HFK.out.1);exact HB.out.2.1 y (by omega)⟩
    case measure=>have:=HFK.out.2;simp[intOf];omega
   have hRn:R=none:=by rw[HE.out.2.2.2,firstOff_none fun y hy=>HB.out.2.1 y (by omega)];rfl
   subst hRn
   have i3:¬ ((k:Int)+1<(n:Int)):=by omega
   have hgd:=rGood_any wr
   clear hlt hk hk6w
   go_upto_region 20 with fail
   have hgd2:=hgd
   go_wp2_with fail
   refine hgd2.mono ?_
   rintro e' W3 ⟨rfl,hb3⟩
   have hk5:=(hb3.block _ (lt_of_heap hk5w)).trans hk5w
   have a0:W3.cell? ⟨w.heap.size+1,0,none⟩=some (.int .i64 0):=by simp[World.cell?,hk5]
   have a1:W3.cell? ⟨w.heap.size+1,1,none⟩=some (.int .i64 0):=by simp[World.cell?,hk5]
   have a2:W3.cell? ⟨w.heap.size+1,2,none⟩=some (.int .i64 0):=by simp[World.cell?,hk5]
   have a3:W3.cell? ⟨w.heap.size+1,3,none⟩=some (.int .i64 0):=by simp[World.cell?,hk5]
   have a4:W3.cell? ⟨w.heap.size+1,4,none⟩=some (.int .i64 0):=by simp[World.cell?,hk5]
   have b0:W3.frozen? ⟨w.heap.size+1,0,none⟩=false:=by simp[World.frozen?,hk5]
   have b1:W3.frozen? ⟨w.heap.size+1,1,none⟩=false:=by simp[World.frozen?,hk5]
   have b2:W3.frozen? ⟨w.heap.size+1,2,none⟩=false:=by simp[World.frozen?,hk5]
   have b3:W3.frozen? ⟨w.heap.size+1,3,none⟩=false:=by simp[World.frozen?,hk5]
   have b4:W3.frozen? ⟨w.heap.size+1,4,none⟩=false:=by simp[World.frozen?,hk5]
   have hk5':=heap_set (heap_set (heap_set (heap_set (heap_set hk5 0 (.int .i64 0)) 1 (.int .i64 (-1))) 2 (.int .i64 (-1))) 3 (.int .i64 (-1))) 4 (.int .i64 (-1))
   simp only[List.setIfInBounds_toArray,List.set_cons_zero,List.set_cons_succ]at hk5'
   have HK5:Hid _:=hk5'
   have hkn:=(HE.out.1.below HB.out.1).below hb3
   obtain⟨kb,ko,_,_,hsa,_⟩:=hkn 0 (scs.getD 0 []) (by rw[List.getD_eq_getElem?_getD,List.getElem?_eq_getElem (by have:=HE.out.2.2.1;omega)];rfl)
   have HEN:Hid (RCk w none scs (.returned (.tuple #[.slice sa n sc,faultR 0 (-1) (-1) (-1) (-1)])) (((((W3.setCell ⟨w.heap.size+1,0,none⟩ (.int .i64 0)).setCell ⟨w.heap.size+1,1,none⟩ (.int .i64 (-1))).setCell ⟨w.heap.size+1,2,none⟩ (.int .i64 (-1))).setCell ⟨w.heap.size+1,3,none⟩ (.int .i64 (-1))).setCell ⟨w.heap.size+1,4,none⟩ (.int .i64 (-1)))):=by
    refine⟨below_set5 (below_then hlw hb3) (by omega) _ _ _ _ _,kb,ko,sc,by rw[←hsa,HE.out.2.2.1],?_⟩
    rw[←hsa]
    exact hkn.other hk5 (fun b o e=>by have:=HE.out.2.1 b o e;have:=HL.out.2.2.2.2;omega) (by rw[set5_size];exact Nat.le_refl _) fun k hk=>set5_other _ _ _ _ _ _ _ k hk
   clear hk5 hk5' hk5w hlw hgd hgd2 hkn hsa hp hb3
   go_wp2
   exact bodyPost_ret (v:=.tuple #[.slice sa n sc,faultR 0 (-1) (-1) (-1) (-1)]) (by simp[results,Tryz.results14,go_sem,World.cell?,HK5.out]) rfl HEN.out
theorem rCheck_any (st:Nat)(Rs:List (ByteArray×List Int))(a:Option Addr)(nc:Nat)(nds:List Nd)(ns:List QN)(scs:List (List Int))(w:World)(hP:PlnAt w a nds ns)(hRt:RTabs w st Rs)(hfew:Rs.length≤1000)(hty:∀ R∈Rs,SchOk R.2)(hC:PChk (tysR Rs) ns scs)(hks:∀ n∈ns,n.ks.length≤4400000000000) :
  Calls Tryz.prog 14 #[.pointer (some ⟨st,0,none⟩),.agg #[.slice a ns.length nc]] w (RCk w (badN ns scs) scs):=by
 unfold badN
 by_cases hn:1≤ns.length∧ns.length≤12
 ·rw[if_pos hn]
  exact rCheck_in st Rs a nc nds ns scs w hP hRt hfew hty hC hks hn.1 hn.2
 rw[if_neg hn]
 exact rCheck_size st a ns.length nc scs w hn
end Go.Proofs.YtkgibdjakgmmcaaGreatDoor
