/- The document's pages in memory: one is written, some are let go, one is spoilt. -/
import Derived.Test.YtcaocabmioafcaaGreatDoorQc
import Derived.Test.YtcaocabmioafcaaGreatDoorKe
set_option maxHeartbeats 4000000
set_option maxRecDepth 100000
namespace Go.Proofs.YtcaocabmioafcaaGreatDoor
open Go.RowKit Go.Shelf Tryz
attribute [local go_sem] Oc0
theorem Krz.put {w L:World}{g cap:Nat}{P:List RP}(h:Krz w (.slice (some ⟨g,0,none⟩) P.length cap) P){i:Nat}(hi:i<P.length){x':RP}(bj:x'.2.length=64∧∀ n∈x'.2,n≤255){I J:Array Value}(bf:w.heap[g]?=some (.cells I 117 (0,0)))(ba:L.heap[g]?=some (.cells J 117 (0,0)))(hs:J.size=I.size)
  (bh:∀ m,m<I.size→J[m]?=if i*65≤m∧m<i*65+65 then (pgC x')[m-i*65]? else I[m]?):Krz L (.slice (some ⟨g,0,none⟩) P.length cap) (P.set i x'):=by
 have K:Qby (P.set i x'):=fun y bk=>by
  rcases List.mem_or_eq_of_mem_set bk with H|H
  ·exact h.ok y H
  rw[H];exact bj
 refine⟨?_,K⟩
 obtain⟨bx,H⟩:=h.own
 rcases H with⟨h0,_⟩|⟨br,bl,bn,bi,bb,A,M,Y,Z,bc⟩
 ·cases h0
 injection bi with e1 e2 e3
 injection e1 with e1
 injection e1 with e1
 subst e1 e3
 rw[bf]at A
 injection A with A
 injection A with A _ _
 subst A
 refine⟨?_,.inr ⟨g,cap,J,by rw[Of8],bb,ba,by rw[Of8];exact M,Y,by rw[hs];exact Z,?_⟩⟩
 ·unfold Kvp
  rw[Kci pgC 65 _ K.lens]
 have bu:P.length*65≤cap*65:=Om8 _ M
 apply Oi8
 intro m
 rw[Of8]
 by_cases U:m<P.length*65
 ·rw[Oh3 U,Oe6,bh m (by omega)]
  have X:m=m / 65*65+m % 65:=by omega
  have R:m % 65<65:=Ol0 _ (by decide)
  have N:=Ks7 pgC 65 _ K.lens (m / 65) (m % 65) R
  rw[←X]at N
  unfold Kvp
  rw[N,Op2]
  by_cases e:i=m / 65
  ·rw[if_pos (by omega),if_pos e,if_pos hi,show m-i*65=m % 65 by omega]
   rfl
  rw[if_neg (by omega),if_neg e]
  have O:=Ks7 pgC 65 P h.ok.lens (m / 65) (m % 65) R
  rw[←X]at O
  rw[←O,show P.flatMap pgC=Kvp P from rfl,←bc,Oh3 U,Oe6]
 rw[List.getElem?_take_eq_none (by omega),Ob4]
 unfold Kvp
 rw[Kci pgC 65 _ K.lens,Of8]
 omega
theorem Krz.cell {w:World}{g cap:Nat}{P:List RP}(h:Krz w (.slice (some ⟨g,0,none⟩) P.length cap) P){i c:Nat}{x x':RP}(H:P[i]?=some x)(R:x'.2.length=64∧∀ n∈x'.2,n≤255)(_Z:c<65)(v:Value)(I:pgC x'=(pgC x).set c v):Krz (w.setCell ⟨g,i*65+c,none⟩ v) (.slice (some ⟨g,0,none⟩) P.length cap) (P.set i x'):=by
 obtain⟨Y,U,X,O,A,bb,M⟩:=h.at H
 injection O with e1 _ _
 injection e1 with e1
 injection e1 with e1
 subst e1
 have hi:i<P.length:=(Ob9.1 H).1
 refine h.put hi R A (Jk A (i*65+c) v) (by simp) fun m N=>?_
 rw[Array.getElem?_setIfInBounds]
 have ba:=Kwo (h.ok x (Of6 H)).1
 by_cases e:i*65+c=m
 ·subst e
  rw[if_pos rfl,if_pos N,if_pos (by omega),I,show i*65+c-i*65=c by omega,Oh0 (by omega)]
 rw[if_neg e]
 by_cases J:i*65≤m∧m<i*65+65
 ·rw[if_pos J,I,Od1 (by omega)]
  obtain⟨L,K⟩:∃ L,(pgC x)[m-i*65]?=some L:=⟨_,Oa3 (by omega)⟩
  have:=M _ _ K
  rw[show i*65+(m-i*65)=m by omega]at this
  rw[K]
  simpa [World.cell?,A] using this
 rw[if_neg J]
theorem Qbb {g:Nat}{t:TypeId}:∀ (vs:List Value) (m:Nat) (w:World) (cs:Array Value),w.heap[g]?=some (.cells cs t (0,0))→m+vs.length≤cs.size→∃ A,(w.setCells g m vs).heap[g]?=some (.cells A t (0,0))∧A.size=cs.size∧∀ j,j<cs.size→A[j]?=if m≤j∧j<m+vs.length then vs[j-m]? else cs[j]?
 |[],m,w,cs,h,_=>⟨cs,h,rfl,fun j _=>by rw[if_neg fun h=>by simp only[List.length_nil]at h;omega]⟩
 |v::vs,m,w,cs,h,M=>by
  rw[List.length_cons]at M
  obtain⟨A,L,H,I⟩:=Qbb vs (m+1) (w.setCell ⟨g,m,none⟩ v) _ (Jk h m v) (by simp;omega)
  simp only[Array.size_setIfInBounds]at H I
  refine⟨A,L,H,fun j K=>?_⟩
  rw[I j K,List.length_cons,Array.getElem?_setIfInBounds]
  by_cases e:m=j
  ·subst e
   rw[if_neg (by omega),if_pos rfl,if_pos K,if_pos (by omega),Oe1]
   rfl
  by_cases J:m+1≤j∧j<m+1+vs.length
  ·rw[if_pos J,if_pos (by omega),show j-m=(j-(m+1))+1 by omega,List.getElem?_cons_succ]
  rw[if_neg J,if_neg e,if_neg (by omega)]
theorem Kxe (g:Nat):∀ (vs:List Value) (m:Nat) (w:World),Ju (fun k=>k=g) w (w.setCells g m vs)
 |[],_,_=>Ju.refl _ _
 |v::vs,m,w=>((Ju.refl (fun k=>k=g) w).set (b:=g) rfl m v).trans (Kxe g vs (m+1) _)
theorem Krz.page {w:World}{g cap:Nat}{P:List RP}(h:Krz w (.slice (some ⟨g,0,none⟩) P.length cap) P){i:Nat}{x x':RP}(H:P[i]?=some x)(I:x'.2.length=64∧∀ n∈x'.2,n≤255):Krz (w.setCells g (i*65) (pgC x')) (.slice (some ⟨g,0,none⟩) P.length cap) (P.set i x'):=by
 obtain⟨Y,U,J,R,A,ba,Z⟩:=h.at H
 injection R with e1 _ _
 injection e1 with e1
 injection e1 with e1
 subst e1
 have hi:i<P.length:=(Ob9.1 H).1
 have N:=Kwo I.1
 obtain⟨X,K,L,M⟩:=Qbb (pgC x') (i*65) w J A (by omega)
 exact h.put hi I A K L fun m O=>by rw[M m O,N]
theorem Krz.there {w:World}{g cap:Nat}{P:List RP}(h:Krz w (.slice (some ⟨g,0,none⟩) P.length cap) P){i:Nat}{x:RP}(J:P[i]?=some x):w.there g (i*65) 65:=by
 obtain⟨L,K,H,I,A,O,M⟩:=h.at J
 injection I with e1 _ _
 injection e1 with e1
 injection e1 with e1
 subst e1
 intro j N
 exact⟨by simp[World.cell?,A,show i*65+j<H.size by omega],by simp[World.frozen?,A]⟩
theorem Kua {w:World}{K:Array Oper}{rest:List Oper}{o:Oper}{a:Act}{Q:Exit→Act→World→Prop}(O:o.guard=none)(s x:Operand)
  (U:o.op=.call {callee:=.builtin .append,args:=#[s,x],argTypes:=#[80,80]})
  (sv:Value) (P:List RP) (hs:a.eval s=sv) (I:Krz w sv P)
  (g c:Nat) (ba:a.eval x=.slice (some ⟨g,0,none⟩) 1 c) (Z:w.heap[g]?=some (.cells Kur.toArray 117 (0,0))) (_bh:P.length≤1000000)
  (h:∀ sv' w',Krz w' sv' (P++[(true,Kr4)])→w.grownBy w' sv.ownBlock→(sv'.ownBlock=sv.ownBlock∨sv'.ownBlock=some w.heap.size)→wpList prog K Q rest (a.put o.dst sv') w') :
  wpList prog K Q (o::rest) a w:=by
 obtain⟨i,hi,bc,Y,N⟩:=info_parts Qb6
 have X:Kur=pgC (true,Kr4):=by simp[Kur,pgC,Kr4]
 refine wpList_append_own_at w O s x 80 U 0 117 i _ 65 520 (by kernel_rfl) hi bc Y N (by rfl) (by decide) sv P.length (Kvp P) hs I.own ⟨g,0,none⟩ 1 c Kur ba rfl ?_ ?_ ?_ ?_ (Ob7 _) ?_
 ·intro j u R
  have:w.cell? ⟨g,j,none⟩=some u:=by simpa [World.cell?,Z] using R
  cases j with
  |zero=>exact this
  |succ j=>simpa [Addr.add] using this
 ·intro u J
  simp[Kur]at J
  rcases J with rfl|rfl<;>rfl
 ·unfold maxLen;omega
 ·omega
 intro bf w' H L _ M
 refine h bf w' ⟨?_,fun y bb=>?_⟩ L M
 ·rw[X]at H
  have e:Kvp (P++[(true,Kr4)])=Kvp P++pgC (true,Kr4):=by simp[Kvp]
  rw[e,Oa8]
  exact H
 rcases Od2.1 bb with A|A
 ·exact I.ok y A
 rw[Oc6]at A
 subst A
 exact Kgd
structure WrP (w:World) (st:Nat) (q f:Int) (sv tv:Value) (k':Int) (P':List RP) (W:World):Prop where
 ex:∃ sv',W.heap[st]?=some (.cells #[.int .i64 q,.int .i64 f,.int .i64 k',sv',tv] 83 (0,0))∧Krz W sv' P'∧(sv'.ownBlock=sv.ownBlock∨∃ g,sv'.ownBlock=some g∧w.heap.size≤g)
 keep:Ju (fun x=>x=st∨sv.ownBlock=some x) w W
def wrE (q f k:Int)(P:List RP):Value:=if q≤((Kr6 P:Nat):Int)then .tuple #[.int .i64 (-1),.int .i64 5]else if wrap64 (k+1)=f then .tuple #[.int .i64 (-1),.int .i64 6]else .tuple #[.int .i64 ((frP P:Nat):Int),.int .i64 0]
def wrK (q k:Int)(P:List RP):Int:=if q≤((Kr6 P:Nat):Int)then k else wrap64 (k+1)
def Kyb (q f k:Int)(P:List RP):List RP:=if q≤((Kr6 P:Nat):Int)then P else if wrap64 (k+1)=f then P else Kr2 P
theorem Qch (P:List RP):∀ (j:Nat),(∀ i x,i<j→P[i]?=some x→x.1=true)→∀ x,P[j]?=some x→x.1=false→frP P=j:=by
 induction P with
 |nil=>intro j _ x h;simp at h
 |cons y P K=>
  intro j H x A I
  cases j with
  |zero=>
   simp at A
   subst A
   simp[frP,I]
  |succ j=>
   have h0:=H 0 y (by omega) rfl
   simp only[frP,h0,if_true]
   rw[K j (fun i z hi J=>H (i+1) z (by omega) (by simpa using J)) x (by simpa using A) I]
theorem Qa6 (P:List RP)(A:∀ i x,i<P.length→P[i]?=some x→x.1=true):frP P=P.length:=by
 induction P with
 |nil=>rfl
 |cons y P I=>
  have h0:=A 0 y (by simp) rfl
  simp only[frP,h0,if_true,List.length_cons]
  rw[I fun i z hi H=>A (i+1) z (by simp;omega) (by simpa using H)]
theorem Qb0 (st:Nat)(q f k:Int)(P:List RP)(sv tv:Value)(w:World)(X:w.heap[st]?=some (.cells #[.int .i64 q,.int .i64 f,.int .i64 k,sv,tv] 83 (0,0)))(bL:Krz w sv P)(bC:sv.ownBlock≠some st)(bB:P.length≤990000)(_cE:0≤k)(_cF:k≤1000000000000000000) :
  Calls prog 67 #[.pointer (some ⟨st,0,none⟩)] w fun e w'=>e=.returned (wrE q f k P)∧WrP w st q f sv tv (wrK q k P) (Kyb q f k P) w':=by
 have h0:w.cell? ⟨st,0,none⟩=some (.int .i64 q):=by simp[World.cell?,X]
 have bj:w.cell? ⟨st,1,none⟩=some (.int .i64 f):=by simp[World.cell?,X]
 have bk:w.cell? ⟨st,2,none⟩=some (.int .i64 k):=by simp[World.cell?,X]
 have bx:w.cell? ⟨st,3,none⟩=some sv:=by simp[World.cell?,X]
 have ci:w.frozen? ⟨st,2,none⟩=false:=by simp[World.frozen?,X]
 have bA:=Qa2 st sv P w bx bL (by omega)
 have N:Hid (w.heap[st]?=some (.cells #[.int .i64 q,.int .i64 f,.int .i64 k,sv,tv] 83 (0,0))∧Krz w sv P∧sv.ownBlock≠some st∧P.length≤990000):=⟨X,bL,bC,bB⟩
 clear bL bC X bB
 have bZ:wrap64 (k+1)=k+1:=by unfold wrap64;omega
 obtain⟨L,bN⟩:∃ L,L=Kr6 P:=⟨_,rfl⟩
 rw[←bN]at bA
 obtain⟨E,bJ⟩:∃ E,E=wrE q f k P:=⟨_,rfl⟩
 obtain⟨bb,bK⟩:∃ bb,bb=wrK q k P:=⟨_,rfl⟩
 obtain⟨bc,bM⟩:∃ bc,bc=Kyb q f k P:=⟨_,rfl⟩
 rw[←bJ,←bK,←bM]
 have br:Hid ((q≤(L:Int)→E=.tuple #[.int .i64 (-1),.int .i64 5]∧bb=k∧bc=P)∧(¬ q≤(L:Int)→k+1=f→E=.tuple #[.int .i64 (-1),.int .i64 6]∧bb=k+1∧bc=P)∧(¬ q≤(L:Int)→¬ k+1=f→E=.tuple #[.int .i64 ((frP P:Nat):Int),.int .i64 0]∧bb=k+1∧bc=Kr2 P)):=by
  rw[bJ,bK,bM,bN]
  unfold wrE wrK Kyb
  rw[bZ]
  refine⟨fun h=>?_,fun h g=>?_,fun h g=>?_⟩
  ·rw[if_pos h,if_pos h,if_pos h];exact⟨rfl,rfl,rfl⟩
  ·rw[if_neg h,if_neg h,if_neg h,if_pos g,if_pos g];exact⟨rfl,rfl,rfl⟩
  rw[if_neg h,if_neg h,if_neg h,if_neg g,if_neg g];exact⟨rfl,rfl,rfl⟩
 clear bN bJ bK bM bZ
 by_cases U:q≤(L:Int)
 ·obtain⟨rfl,rfl,rfl⟩:=br.out.1 U
  have bQ:((L:Int)≥q):=U
  clear U bj bk ci
  go_enter func67,ntmps67
  go_wp2_with (go_at_call 20;refine bA.mono ?_;rintro e w1 ⟨rfl,cl⟩;subst w1)
  refine bodyPost_ret (v:=.tuple #[.int .i64 (-1),.int .i64 5]) (by simp[results,results67,go_sem]) rfl ?_
  exact⟨rfl,⟨⟨sv,N.out.1,N.out.2.1,.inl rfl⟩,Ju.refl _ _⟩⟩
 have bG:Hid (¬ q≤(L:Int)):=U
 have bQ:¬ ((L:Int)≥q):=U
 clear U
 have bV:Hid ((frP P<P.length→Kr2 P=P.set (frP P) (true,Kr4))∧(¬ frP P<P.length→Kr2 P=P++[(true,Kr4)])):=by
  unfold Kr2
  exact⟨fun h=>if_pos h,fun h=>if_neg h⟩
 go_enter func67,ntmps67
 go_upto_region 5 with(go_at_call 20;refine bA.mono ?_;rintro e w1 ⟨rfl,cl⟩;subst w1)
 clear bA bQ
 obtain⟨W,hW⟩:∃ W,W=w.setCell ⟨st,2,none⟩ (.int .i64 (k+1)):=⟨_,rfl⟩
 rw[←hW]
 have I:Hid (W.heap[st]?=some (.cells #[.int .i64 q,.int .i64 f,.int .i64 (k+1),sv,tv] 83 (0,0))∧Krz W sv P∧sv.ownBlock≠some st∧Ju (fun x=>x=st∨sv.ownBlock=some x) w W∧P.length≤990000):=by
  have U:=heap_setCell_same w st 2 _ _ (.int .i64 (k+1)) N.out.1
  refine⟨by rw[hW,U];rfl,N.out.2.1.of_block fun g Y=>?_,N.out.2.2.1,?_,N.out.2.2.2⟩
  ·rw[hW]
   exact heap_setCell_other _ _ _ _ fun e=>N.out.2.2.1 (by rw[Y];exact congrArg some e)
  rw[hW]
  exact(Ju.refl _ _).set (.inl rfl) _ _
 clear hW h0 bj bk bx ci N
 have bj:W.cell? ⟨st,1,none⟩=some (.int .i64 f):=by simp[World.cell?,I.out.1]
 have bk:W.cell? ⟨st,2,none⟩=some (.int .i64 (k+1)):=by simp[World.cell?,I.out.1]
 have bx:W.cell? ⟨st,3,none⟩=some sv:=by simp[World.cell?,I.out.1]
 have cx:W.frozen? ⟨st,3,none⟩=false:=by simp[World.frozen?,I.out.1]
 refine wp_region_held_drew (S:=fun H=>H.cell? ⟨st,1,none⟩=some (.int .i64 f)∧H.cell? ⟨st,2,none⟩=some (.int .i64 (k+1))) (by kernel_rfl) ⟨Jh bj,Jh bk⟩ (fun K=>?_)
 refine Kn 0 rfl K ?_
 refine Kn 1 rfl K ?_
 refine Kn 2 rfl K ?_
 refine Kn 3 rfl K ?_
 refine Kn 4 rfl K ?_
 refine Kn 5 rfl K ?_
 refine Kn 6 rfl K ?_
 refine Kn 7 rfl K ?_
 refine Kn 8 rfl K ?_
 refine Kn 9 rfl K ?_
 refine tkn ?_
 refine wpAnyH_done (by kernel_rfl) ?_ _
 obtain⟨V,bO⟩:∃ V,V=W.drew:=⟨_,rfl⟩
 rw[←bO]
 have A:Hid (V.heap[st]?=some (.cells #[.int .i64 q,.int .i64 f,.int .i64 (k+1),sv,tv] 83 (0,0))∧Krz V sv P∧sv.ownBlock≠some st∧Ju (fun x=>x=st∨sv.ownBlock=some x) w V∧P.length≤990000):=by
  rw[bO]
  exact⟨I.out.1,I.out.2.1.of_block fun _ _=>rfl,I.out.2.2.1,I.out.2.2.2.1.drewN 1,I.out.2.2.2.2⟩
 clear bO I bj bk bx cx
 by_cases bi:k+1=f
 ·obtain⟨rfl,rfl,rfl⟩:=br.out.2.1 bG.out bi
  have bR:(k+1==f)=true:=by simpa using bi
  clear bi
  go_wp2
  refine bodyPost_ret (v:=.tuple #[.int .i64 (-1),.int .i64 6]) (by simp[results,results67,go_sem]) rfl ?_
  exact⟨rfl,⟨⟨sv,A.out.1,A.out.2.1,.inl rfl⟩,A.out.2.2.2.1⟩⟩
 obtain⟨R,bf,bh⟩:=br.out.2.2 bG.out bi
 have bU:Hid (E=.tuple #[.int .i64 ((frP P:Nat):Int),.int .i64 0]∧bb=k+1∧bc=Kr2 P):=⟨R,bf,bh⟩
 clear R bf bh br bG
 have bR:(k+1==f)=false:=by simpa using bi
 clear bi
 have cC:P.length≤990000:=A.out.2.2.2.2
 obtain⟨a,c,bn⟩:=A.out.2.1.slice
 subst bn
 have bI:V.cell? ⟨st,3,none⟩=some (.slice a P.length c):=by simp[World.cell?,A.out.1]
 have cy:V.frozen? ⟨st,3,none⟩=false:=by simp[World.frozen?,A.out.1]
 go_upto_region 8 with fail
 clear bR
 go_loopw [5] (fun i wr=>∃ j:Nat,j≤P.length∧i=.int .i64 (j:Int)∧wr=V∧Hid (∀ i x,i<j→P[i]?=some x→x.1=true)) (fun i _=>P.length-(intOf i).toNat)
 case atStart=>exact⟨0,Ob7 _,rfl,rfl,(show ∀ i x,i<0→P[i]?=some x→x.1=true from fun i x h=>by omega)⟩
 case round=>
  obtain⟨j,cD,rfl,cf,bE⟩:=hrel
  rw[cf]
  clear cf
  by_cases bP:j<P.length
  ·obtain⟨x,M⟩:∃ x,P[j]?=some x:=⟨_,Oa3 bP⟩
   obtain⟨g,cap,cA,bn,_,_,bY⟩:=A.out.2.1.at M
   injection bn with bn _ hcc
   subst bn hcc
   have cn:=bY 0 _ (Ktg _)
   rw[Nat.add_zero]at cn
   have bQ:(0:Int)≤(j:Int):=by omega
   have bR:(j:Int)<(P.length:Int):=by omega
   have bu:Hid (j<P.length):=bP
   have J:Hid (P[j]?=some x):=M
   clear bY M
   rcases x with⟨_|_,cz⟩
   rotate_left
   ·go_wp2
    go_roundw
    case rel=>
     refine⟨j+1,bu.out,by have:=bu.out;go_num,(by first|rfl|trivial),(show ∀ i x,i<j+1→P[i]?=some x→x.1=true from fun i x hi M=>?_)⟩
     by_cases e:i=j
     ·subst e
      rw[J.out]at M
      cases M
      rfl
     exact bE.out i x (by omega) M
    case measure=>have:=bu.out;simp[intOf];omega
   have ba:Hid (frP P=j):=Qch P j bE.out _ J.out rfl
   have bH:Hid (V.there g (j*65) 65∧Krz (V.setCells g (j*65) (pgC (true,Kr4))) (.slice (some ⟨g,0,none⟩) P.length c) (P.set j (true,Kr4))):=
    ⟨A.out.2.1.there J.out,A.out.2.1.page J.out Kgd⟩
   clear bP
   have cH:(storeCells ⟨g,j*65,none⟩ (Tryz.zeroCells117.toList.set 0 (.bool true))).run prog V=.ok () (V.setCells g (j*65) (pgC (true,Kr4))):=by
    have e:Tryz.zeroCells117.toList.set 0 (.bool true)=pgC (true,Kr4):=by kernel_rfl
    have:=run_storeCells_cells (P:=prog) g (j*65) (pgC (true,Kr4)) 0 V (fun i hi=>(bH.out.1 i hi).1) (fun i hi=>(bH.out.1 i hi).2) (fun v cc=>by
     simp[pgC,Kr4]at cc
     rcases cc with rfl|rfl<;>rfl)
    rw[e]
    exact this
   go_wp2
   have ca:=Kxe g (pgC (true,Kr4)) (j*65) V
   have bC:g≠st:=fun e=>A.out.2.2.1 (by rw[e];rfl)
   obtain⟨R,bf,bh⟩:=bU.out
   rw[ba.out]at R
   have bz:=bV.out.1 (by rw[ba.out];exact bu.out)
   rw[ba.out]at bz
   refine bodyPost_ret (v:=.tuple #[.int .i64 (j:Int),.int .i64 0]) (by simp[results,results67,go_sem]) rfl ⟨by rw[R],⟨⟨.slice (some ⟨g,0,none⟩) P.length c,?_,?_,.inl rfl⟩,?_⟩⟩
   ·rw[bf,ca.block st (Jd A.out.1) fun e=>bC e.symm]
    exact A.out.1
   ·rw[bh,bz]
    exact bH.out.2
   exact A.out.2.2.2.1.trans (ca.mono fun i _ e=>.inr (by rw[e];rfl))
  obtain rfl:j=P.length:=by omega
  have cJ:¬ ((P.length:Int)<(P.length:Int)):=by omega
  have ba:Hid (frP P=P.length):=Qa6 P fun i x hi M=>bE.out i x hi M
  have cj:Hid (∀ H,(V.alloc (.cells Kur.toArray 117)).grownBy H (Value.slice a P.length c).ownBlock→H.heap[st]?=V.heap[st]?):=by
   intro H Y
   have ck:st<V.heap.size:=Jm bI
   rw[Y.block st (by simp;omega) (fun e=>A.out.2.2.1 e.symm),Oa9 _ _ _ ck]
  go_upto_region 14 with(at_builtin;go_must (refine Kua (by rfl) _ _ (by rfl) _ P (by rfl) (A.out.2.1.of_block fun g Y=>Oa9 _ _ _ (Je A.out.2.1.own Y).2) V.heap.size 1 (by rfl) (by exact heap_alloc_new V _) (by omega) ?_);intro sv' w4 bS Z bT;obtain⟨O,c5,bW⟩:=bS.slice;rw[Oa8,List.length_singleton]at bW;subst bW;have bD:=cj.out w4 Z;have cu:w4.frozen? ⟨st,3,none⟩=false:=(by rw[Ol7 bD];exact cy);have cv:w4.cell? ⟨st,3,none⟩=some (.slice a P.length c):=by rw[Oc3 bD];exact bI)
  obtain⟨H,bl⟩:∃ H,H=w4.setCell ⟨st,3,none⟩ (.slice O (P.length+1) c5):=⟨_,rfl⟩
  rw[←bl]
  have bX:w4.heap[st]?=some (.cells #[.int .i64 q,.int .i64 f,.int .i64 (k+1),.slice a P.length c,tv] 83 (0,0)):=bD.trans A.out.1
  have cG:st<V.heap.size:=Jm bI
  have cb:(Value.slice O (P.length+1) c5).ownBlock≠some st:=by
   intro e
   rcases bT with h|h
   ·exact A.out.2.2.1 (h▸e)
   rw[h]at e
   have:=Oj6 e
   simp at this
   omega
  have J:Hid (H.heap[st]?=some (.cells #[.int .i64 q,.int .i64 f,.int .i64 (k+1),.slice O (P.length+1) c5,tv] 83 (0,0))∧Krz H (.slice O (P.length+1) c5) (P++[(true,Kr4)])∧Ju (fun x=>x=st∨(Value.slice a P.length c).ownBlock=some x) w H∧((Value.slice O (P.length+1) c5).ownBlock=(Value.slice a P.length c).ownBlock∨∃ g,(Value.slice O (P.length+1) c5).ownBlock=some g∧w.heap.size≤g)):=by
   have cI:=A.out.2.2.2.1.size
   refine⟨by rw[bl,heap_setCell_same w4 st 3 _ _ _ bX];rfl,bS.of_block fun g Y=>?_,?_,?_⟩
   ·rw[bl]
    exact heap_setCell_other _ _ _ _ fun e=>cb (by rw[Y];exact congrArg some e)
   ·rw[bl]
    refine Ju.set ?_ (.inl rfl) _ _
    refine A.out.2.2.2.1.trans ?_
    have hk:Ju (fun x=>x=st∨(Value.slice a P.length c).ownBlock=some x) V (V.alloc (.cells Kur.toArray 117)):=(Ju.refl _ V).alloc _
    refine hk.trans ⟨Z.os,Z.tape,Z.output,Z.size,fun i hi bB=>Z.block i hi fun e=>bB (.inr e.symm)⟩
   refine bT.imp id fun h=>⟨_,h,?_⟩
   simp
   omega
  clear bl bS Z bT bD cu cv bX cb
  have cB:H.cell? ⟨st,3,none⟩=some (.slice O (P.length+1) c5):=by simp[World.cell?,J.out.1]
  go_wp2
  obtain⟨R,bf,bh⟩:=bU.out
  rw[ba.out]at R
  have bz:=bV.out.2 (by rw[ba.out];omega)
  refine bodyPost_ret (v:=.tuple #[.int .i64 (P.length:Int),.int .i64 0]) (by simp[results,results67,go_sem]) rfl ⟨by rw[R],⟨⟨.slice O (P.length+1) c5,?_,?_,J.out.2.2.2⟩,J.out.2.2.1⟩⟩
  ·rw[bf];exact J.out.1
  rw[bh,bz];exact J.out.2.1
theorem Kyz (P:List RP)(i:Nat)(l:List Nat):Kr5 P (l++[i])=Kr5 (Kr5 P l) [i]:=(Kt1 P l [i]).symm
theorem Kzx (P:List RP)(i:Nat){x:RP}(A:P[i]?=some x):Kr5 P [i]=P.set i (false,x.2):=by
 apply Oi8
 intro j
 rw[Ksp,Op2]
 by_cases e:i=j
 ·subst e
  rw[A,if_pos rfl,if_pos (Ob9.1 A).1]
  simp
 rw[if_neg e]
 cases P[j]? with
 |none=>rfl
 |some y=>simp[Ne.symm e]
theorem Kyx (st:Nat)(q f k:Int)(P:List RP)(sv tv:Value)(l:List Nat)(J:Option Addr)(bI:Nat)(w:World)(bb:w.heap[st]?=some (.cells #[.int .i64 q,.int .i64 f,.int .i64 k,sv,tv] 83 (0,0)))(ba:Krz w sv P)(bB:sv.ownBlock≠some st)(_bQ:P.length≤990000)(bz:Uh w J (l.map nv))(_bP:l.length≤1000000)(bA:∀ i∈l,i<P.length)(R:∀ b o,J=some ⟨b,o,none⟩→sv.ownBlock≠some b) :
  Calls prog 43 #[.pointer (some ⟨st,0,none⟩),.slice J l.length bI] w fun e w'=>e=.returned (.tuple #[])∧Krz w' sv (Kr5 P l)∧Ju (fun x=>sv.ownBlock=some x) w w':=by
 have L:w.cell? ⟨st,3,none⟩=some sv:=by simp[World.cell?,bb]
 obtain⟨a,c,M⟩:=ba.slice
 subst M
 have I:Hid (Krz w (.slice a P.length c) P∧(Value.slice a P.length c).ownBlock≠some st∧Uh w J (l.map nv)∧(∀ i∈l,i<P.length)∧∀ b o,J=some ⟨b,o,none⟩→(Value.slice a P.length c).ownBlock≠some b):=⟨ba,bB,bz,bA,R⟩
 have bi:Hid (w.heap[st]?=some (.cells #[.int .i64 q,.int .i64 f,.int .i64 k,.slice a P.length c,tv] 83 (0,0))):=bb
 clear bb ba bB bz bA R L
 go_enter func43,ntmps43
 go_upto_region 1 with fail
 go_loopw [4] (fun i wr=>∃ j:Nat,j≤l.length∧i=.int .i64 (j:Int)∧Hid (Krz wr (.slice a P.length c) (Kr5 P (l.take j))∧Ju (fun x=>(Value.slice a P.length c).ownBlock=some x) w wr)) (fun i _=>l.length-(intOf i).toNat)
 case atStart=>exact⟨0,Ob7 _,rfl,(show _∧_ from ⟨by rw[List.take_zero,Kv6];exact I.out.1,Ju.refl _ _⟩)⟩
 case round=>
  obtain⟨j,bO,rfl,H⟩:=hrel
  by_cases U:j<l.length
  ·have bD:wr.heap[st]?=some (.cells #[.int .i64 q,.int .i64 f,.int .i64 k,.slice a P.length c,tv] 83 (0,0)):=(H.out.2.block st (Jd bi.out) I.out.2.1).trans bi.out
   have L:wr.cell? ⟨st,3,none⟩=some (.slice a P.length c):=by simp[World.cell?,bD]
   have bu:Uh wr J (l.map nv):=I.out.2.2.1.of_block H.out.2.size fun b o e bc=>H.out.2.block b bc (I.out.2.2.2.2 b o e)
   obtain⟨O,bE,R,_,K⟩:=bu.at (i:=j) (by rw[Oa6];exact U)
   subst R
   have bC:l[j]<P.length:=I.out.2.2.2.1 _ (Ob3 U)
   rw[Od9]at K
   unfold nv at K
   have bj:Hid (l.take (j+1)=l.take j++[l[j]]):=Oc4 U
   generalize l[j]=p at K bC bj
   obtain⟨x,N⟩:∃ x,(Kr5 P (l.take j))[p]?=some x:=⟨_,Oa3 (by rw[Ktx];exact bC)⟩
   obtain⟨g,cap,bN,M,bx,bK,br⟩:=H.out.1.at N
   injection M with M hl9 hcc
   subst M hcc
   clear hl9
   have bG:=br 0 _ (Ktg _)
   rw[Nat.add_zero]at bG
   have bL:wr.frozen? ⟨g,p*65,none⟩=false:=by simp[World.frozen?,bx]
   have Y:Hid (Krz (wr.setCell ⟨g,p*65,none⟩ (.bool false)) (.slice (some ⟨g,0,none⟩) P.length c) (Kr5 P (l.take (j+1)))∧Ju (fun x=>(Value.slice (some ⟨g,0,none⟩) P.length c).ownBlock=some x) w (wr.setCell ⟨g,p*65,none⟩ (.bool false))):=by
    refine⟨?_,H.out.2.set rfl _ _⟩
    rw[bj.out,Kyz,Kzx _ _ N]
    have Z:=H.out.1
    have bJ:=Ktx P (l.take j)
    rw[←bJ]at Z ⊢
    have:=Z.cell (c:=0) N (x':=(false,x.2)) (Z.ok x (Of6 N)) (by omega) (.bool false) (by simp[pgC])
    rw[Nat.add_zero]at this
    exact this
   have X:Hid (j<l.length):=U
   have bR:(0:Int)≤(j:Int):=by omega
   have bS:(j:Int)<(l.length:Int):=by omega
   have bU:(0:Int)≤(p:Int):=by omega
   have bV:(p:Int)<(P.length:Int):=by omega
   clear bu bD N br bx bK H
   go_upto_region 3 with fail
   refine wp_region_held_drew (S:=fun bl=>bl.cell? ⟨st,3,none⟩=some (.slice (some ⟨g,0,none⟩) P.length c)∧bl.cell? ⟨O,bE+j,none⟩=some (.int .i64 (p:Int))) (by kernel_rfl) ⟨Jh L,Jh K⟩ (fun A=>?_)
   refine Kn 0 rfl A ?_
   refine Kn 1 rfl A ?_
   refine Kn 2 rfl A ?_
   refine Kn 3 rfl A ?_
   refine Kn 4 rfl A ?_
   refine Kn 5 rfl A ?_
   refine Kn 6 rfl A ?_
   refine Kn 7 rfl A ?_
   refine Kn 8 rfl A ?_
   refine Kn 9 rfl A ?_
   refine tkn ?_
   refine tkr 10 rfl fun bH bn=>?_
   go_simp
   have bh:∀ b o,b≠g→(wr.setCell ⟨g,p*65,none⟩ (.bool false)).drew.cell? ⟨b,o,none⟩=wr.cell? ⟨b,o,none⟩:=fun b o bc=>Oc3 (w':=(wr.setCell ⟨g,p*65,none⟩ (.bool false)).drew) (Oa4 wr ⟨g,p*65,none⟩ _ _ bc)
   have bf:st≠g∧O≠g:=⟨fun e=>I.out.2.1 (by rw[e];rfl),fun e=>I.out.2.2.2.2 O bE rfl (by rw[e];rfl)⟩
   refine bn.out _ _ ⟨(bh st 3 bf.1).trans L,(bh O _ bf.2).trans K⟩ (fun A=>?_)
   clear bn bH bh bf A
   refine wpAnyH_done (by kernel_rfl) ?_ _
   have bk:Hid (Krz (wr.setCell ⟨g,p*65,none⟩ (.bool false)).drew (.slice (some ⟨g,0,none⟩) P.length c) (Kr5 P (l.take (j+1)))∧Ju (fun x=>(Value.slice (some ⟨g,0,none⟩) P.length c).ownBlock=some x) w (wr.setCell ⟨g,p*65,none⟩ (.bool false)).drew):=⟨Y.out.1.of_block fun _ _=>rfl,Y.out.2.drewN 1⟩
   generalize (wr.setCell ⟨g,p*65,none⟩ (.bool false)).drew=bM at bk ⊢
   clear Y L K bG bL
   go_wp2
   go_roundw
   case rel=>exact⟨j+1,X.out,by have:=X.out;go_num,bk.out⟩
   case measure=>have:=X.out;simp[intOf];omega
  obtain rfl:j=l.length:=by omega
  have bT:¬ ((l.length:Int)<(l.length:Int)):=by omega
  rw[Of2]at H
  go_wp2
  go_end0
  exact⟨rfl,H.out.1,H.out.2⟩
end Go.Proofs.YtcaocabmioafcaaGreatDoor
