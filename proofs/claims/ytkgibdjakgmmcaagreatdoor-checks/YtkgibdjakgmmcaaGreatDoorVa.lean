/- The types of an expression's parts, whatever the parts are: the program's answers. -/
import Derived.Test.YtkgibdjakgmmcaaGreatDoorXr
set_option maxHeartbeats 1000000
set_option maxRecDepth 100000
namespace Go.Proofs.YtkgibdjakgmmcaaGreatDoor
open Go.RowKit Go.Shelf
attribute [local go_sem] Oper.semAt_some
def tyI (T:List Int)(i:Int):Option Int:=if 0≤i∧i<T.length then some (T.getD i.toNat 0)else none
def isI (o:Option Int)(k t:Int):Option Int:=if o=some k then some t else none
abbrev tyV (o:Option Int):Value:=.tuple #[.int .i64 (o.getD 0),.bool o.isSome]
theorem typeAt_any (a:Option Addr)(cap:Nat)(ts:List Int)(i:Int)(w:World)(h:Ints w a ts) :
  Calls Tryz.prog 130 #[.slice a ts.length cap,.int .i64 i] w fun e w'=>e=.returned (tyV (tyI ts i))∧w'=w:=by
 by_cases hi:0≤i∧i<ts.length
 ·obtain⟨k,rfl⟩:∃ k:Nat,i=(k:Int):=⟨i.toNat,by omega⟩
  have:=typeAt_ok a cap ts k w (by omega) h
  unfold tyI
  rw[if_pos hi]
  exact this
 unfold tyI
 rw[if_neg hi]
 clear h
 by_cases h0:i<0
 ·clear hi
  go_enter Tryz.func130,Tryz.ntmps130
  go_wp2
  exact bodyPost_ret (v:=.tuple #[.int .i64 0,.bool false]) (by simp[results,Tryz.results130,go_sem]) rfl ⟨rfl,rfl⟩
 have h1:(0:Int)≤i:=by omega
 have h2:(ts.length:Int)≤i:=by omega
 clear hi h0
 go_enter Tryz.func130,Tryz.ntmps130
 go_wp2
 exact bodyPost_ret (v:=.tuple #[.int .i64 0,.bool false]) (by simp[results,Tryz.results130,go_sem]) rfl ⟨rfl,rfl⟩
theorem o_none {o:Option Int}{t:Int}(h:t=o.getD 0∧false=o.isSome):o=none:=by cases o with
 |none=>rfl
 |some x=>exact absurd h.2 (by simp)
theorem o_some {o:Option Int}{t:Int}(h:t=o.getD 0∧true=o.isSome):o=some t:=by cases o with
 |none=>exact absurd h.2 (by simp)
 |some x=>rw[h.1];rfl
def TyQ (w:World)(o:Option Int)(e:Ending)(w':World):Prop:=(∃ t,e=.returned (.tuple #[.int .i64 t,.bool o.isSome])∧∀ x,o=some x→t=x)∧Below w.heap.size w w'
theorem tAny_any (tb:Nat)(cv:Value)(ea:Option Addr)(ec:Nat)(T:List Int)(p:Pt)(w:World)(hT:TyAt w tb cv (.slice ea T.length ec))(hE:Ints w ea T) :
  Calls Tryz.prog 163 #[.pointer (some ⟨tb,0,none⟩),p.val] w (TyQ w ((tyI T p.l).map fun _=>2)):=by
 obtain⟨_,c1⟩:=hT.cells
 obtain⟨b1,b2,_⟩:=box_cells w p
 have hbb:Below w.heap.size w (ptBox w p):=below_alloc (Below.refl _ _) _
 have HTA:Hid (∀ X,Below w.heap.size w X→Calls Tryz.prog 130 #[.slice ea T.length ec,.int .i64 p.l] X fun e w'=>e=.returned (tyV (tyI T p.l))∧w'=X):=fun X hX=>typeAt_any ea ec T p.l X (hE.below hX)
 clear hE
 generalize tyI T p.l=o at HTA ⊢
 have HO:Hid (o=o):=rfl
 obtain⟨t,ht⟩:∃ t,t=o.getD 0:=⟨_,rfl⟩
 obtain⟨b,hb⟩:∃ b,b=o.isSome:=⟨_,rfl⟩
 rw[tyV,←ht,←hb]at HTA
 have HB:Hid (t=o.getD 0∧b=o.isSome):=⟨ht,hb⟩
 clear ht hb
 go_enter Tryz.func163,Tryz.ntmps163
 go_upto_region 1 with fail
 refine wp_region_held_drew (S:=fun X=>X.cell? ⟨tb,1,none⟩=some (.slice ea T.length ec)∧X.cell? ⟨w.heap.size,1,none⟩=some (.int .i64 p.l)) (by kernel_rfl) ⟨cell_drew (cell_alloc c1),cell_drew b1⟩ (fun hH=>?_)
 refine tkj 0 rfl hH ?_
 refine tkj 1 rfl hH ?_
 refine tkj 2 rfl hH ?_
 refine tkj 3 rfl hH ?_
 refine tkj 4 rfl hH ?_
 refine tkj 5 rfl hH ?_
 refine tkn ?_
 refine tkr 6 rfl fun K hK=>?_
 go_simp
 refine(HTA.out (ptBox w p).drew (below_drew1 hbb)).mono ?_
 rintro e X1 ⟨rfl,rfl⟩
 go_simp
 refine hK.out _ _ ⟨hH.1,hH.2⟩ (fun hH=>?_)
 clear hK K
 refine tkj 7 rfl hH ?_
 refine tkj 8 rfl hH ?_
 refine tkj 9 rfl hH ?_
 refine tkj 10 rfl hH ?_
 refine tkj 11 rfl hH ?_
 refine tkn ?_
 refine wpAnyH_done (by kernel_rfl) ?_ _
 go_wp2
 refine bodyPost_ret (v:=.tuple #[.int .i64 2,.bool b]) (by simp[results,Tryz.results163,go_sem]) rfl ⟨⟨2,?_,?_⟩,below_drew1 hbb⟩
 ·rw[HB.out.2];cases o<;>rfl
 cases o<;>simp
theorem tTruth_any (tb:Nat)(cv:Value)(ea:Option Addr)(ec:Nat)(T:List Int)(p:Pt)(w:World)(hT:TyAt w tb cv (.slice ea T.length ec))(hE:Ints w ea T) :
  Calls Tryz.prog 162 #[.pointer (some ⟨tb,0,none⟩),p.val] w (TyQ w (isI (tyI T p.l) 2 2)):=by
 obtain⟨_,c1⟩:=hT.cells
 obtain⟨b1,b2,_⟩:=box_cells w p
 have hbb:Below w.heap.size w (ptBox w p):=below_alloc (Below.refl _ _) _
 have HTA:Hid (∀ X,Below w.heap.size w X→Calls Tryz.prog 130 #[.slice ea T.length ec,.int .i64 p.l] X fun e w'=>e=.returned (tyV (tyI T p.l))∧w'=X):=fun X hX=>typeAt_any ea ec T p.l X (hE.below hX)
 clear hE
 generalize tyI T p.l=o at HTA ⊢
 have HO:Hid (o=o):=rfl
 obtain⟨t,ht⟩:∃ t,t=o.getD 0:=⟨_,rfl⟩
 obtain⟨b,hb⟩:∃ b,b=o.isSome:=⟨_,rfl⟩
 rw[tyV,←ht,←hb]at HTA
 have HB:Hid (t=o.getD 0∧b=o.isSome):=⟨ht,hb⟩
 clear ht hb
 go_enter Tryz.func162,Tryz.ntmps162
 go_upto_region 1 with fail
 refine wp_region_held_drew (S:=fun X=>X.cell? ⟨tb,1,none⟩=some (.slice ea T.length ec)∧X.cell? ⟨w.heap.size,1,none⟩=some (.int .i64 p.l)) (by kernel_rfl) ⟨cell_drew (cell_alloc c1),cell_drew b1⟩ (fun hH=>?_)
 refine tkj 0 rfl hH ?_
 refine tkj 1 rfl hH ?_
 refine tkj 2 rfl hH ?_
 refine tkj 3 rfl hH ?_
 refine tkj 4 rfl hH ?_
 refine tkj 5 rfl hH ?_
 refine tkn ?_
 refine tkr 6 rfl fun K hK=>?_
 go_simp
 refine(HTA.out (ptBox w p).drew (below_drew1 hbb)).mono ?_
 rintro e X1 ⟨rfl,rfl⟩
 go_simp
 refine hK.out _ _ ⟨hH.1,hH.2⟩ (fun hH=>?_)
 clear hK K
 refine tkj 7 rfl hH ?_
 refine tkj 8 rfl hH ?_
 refine tkj 9 rfl hH ?_
 refine tkj 10 rfl hH ?_
 refine tkj 11 rfl hH ?_
 refine tkn ?_
 refine wpAnyH_done (by kernel_rfl) ?_ _
 cases b with
 |false=>
  go_wp2
  have h0:o=none:=o_none HB.out
  refine bodyPost_ret (v:=.tuple #[.int .i64 2,.bool false]) (by simp[results,Tryz.results162,go_sem]) rfl ⟨⟨2,?_,?_⟩,below_drew1 hbb⟩<;>rw[h0]<;>simp[isI]
 |true=>
  have h0:o=some t:=o_some HB.out
  have HX:Hid (o=some t):=h0
  clear h0
  by_cases h2:t=2
  ·subst h2
   go_wp2
   refine bodyPost_ret (v:=.tuple #[.int .i64 2,.bool true]) (by simp[results,Tryz.results162,go_sem]) rfl ⟨⟨2,?_,?_⟩,below_drew1 hbb⟩<;>rw[HX.out]<;>simp[isI]
  go_wp2
  refine bodyPost_ret (v:=.tuple #[.int .i64 2,.bool false]) (by simp[results,Tryz.results162,go_sem,h2]) rfl ⟨⟨2,?_,?_⟩,below_drew1 hbb⟩<;>rw[HX.out]<;>simp[isI,h2]
theorem tColumn_any (tb:Nat)(ca:Option Addr)(cc:Nat)(sch:List Int)(ev:Value)(p:Pt)(w:World)(hT:TyAt w tb (.slice ca sch.length cc) ev)(hS:Ints w ca sch) :
  Calls Tryz.prog 157 #[.pointer (some ⟨tb,0,none⟩),p.val] w (TyQ w (tyI sch p.c)):=by
 obtain⟨c0,_⟩:=hT.cells
 obtain⟨_,_,b3⟩:=box_cells w p
 have hbb:Below w.heap.size w (ptBox w p):=below_alloc (Below.refl _ _) _
 have HTA:Hid (∀ X,Below w.heap.size w X→Calls Tryz.prog 130 #[.slice ca sch.length cc,.int .i64 p.c] X fun e w'=>e=.returned (tyV (tyI sch p.c))∧w'=X):=fun X hX=>typeAt_any ca cc sch p.c X (hS.below hX)
 clear hS
 generalize tyI sch p.c=o at HTA ⊢
 obtain⟨t,ht⟩:∃ t,t=o.getD 0:=⟨_,rfl⟩
 obtain⟨b,hb⟩:∃ b,b=o.isSome:=⟨_,rfl⟩
 rw[tyV,←ht,←hb]at HTA
 have HB:Hid (t=o.getD 0∧b=o.isSome):=⟨ht,hb⟩
 clear ht hb
 go_enter Tryz.func157,Tryz.ntmps157
 go_upto_region 1 with fail
 refine wp_region_held_drew (S:=fun X=>X.cell? ⟨tb,0,none⟩=some (.slice ca sch.length cc)∧X.cell? ⟨w.heap.size,3,none⟩=some (.int .i64 p.c)) (by kernel_rfl) ⟨cell_drew (cell_alloc c0),cell_drew b3⟩ (fun hH=>?_)
 refine tkj 0 rfl hH ?_
 refine tkj 1 rfl hH ?_
 refine tkj 2 rfl hH ?_
 refine tkj 3 rfl hH ?_
 refine tkj 4 rfl hH ?_
 refine tkj 5 rfl hH ?_
 refine tkn ?_
 refine tkr 6 rfl fun K hK=>?_
 go_simp
 refine(HTA.out (ptBox w p).drew (below_drew1 hbb)).mono ?_
 rintro e X1 ⟨rfl,rfl⟩
 go_simp
 refine hK.out _ _ ⟨hH.1,hH.2⟩ (fun hH=>?_)
 clear hK K
 refine tkj 7 rfl hH ?_
 refine tkj 8 rfl hH ?_
 refine tkj 9 rfl hH ?_
 refine tkj 10 rfl hH ?_
 refine tkn ?_
 refine wpAnyH_done (by kernel_rfl) ?_ _
 go_wp2
 refine bodyPost_ret (v:=.tuple #[.int .i64 t,.bool b]) (by simp[results,Tryz.results157,go_sem]) rfl ⟨⟨t,by rw[HB.out.2],?_⟩,below_drew1 hbb⟩
 intro x hx
 rw[HB.out.1,hx]
 rfl
def shI (a b:Option Int):Option Int:=match a,b with
 |some x,some y=>if x=y then some x else none
 |_,_=>none
theorem tShared_any (tb:Nat)(cv:Value)(ea:Option Addr)(ec:Nat)(T:List Int)(p:Pt)(w:World)(hT:TyAt w tb cv (.slice ea T.length ec))(hE:Ints w ea T) :
  Calls Tryz.prog 164 #[.pointer (some ⟨tb,0,none⟩),p.val] w (TyQ w (shI (tyI T p.l) (tyI T p.r))):=by
 obtain⟨_,c1⟩:=hT.cells
 obtain⟨b1,b2,_⟩:=box_cells w p
 have hbb:Below w.heap.size w (ptBox w p):=below_alloc (Below.refl _ _) _
 have HTA:Hid (∀ X,Below w.heap.size w X→Calls Tryz.prog 130 #[.slice ea T.length ec,.int .i64 p.l] X fun e w'=>e=.returned (tyV (tyI T p.l))∧w'=X):=fun X hX=>typeAt_any ea ec T p.l X (hE.below hX)
 have HTB:Hid (∀ X,Below w.heap.size w X→Calls Tryz.prog 130 #[.slice ea T.length ec,.int .i64 p.r] X fun e w'=>e=.returned (tyV (tyI T p.r))∧w'=X):=fun X hX=>typeAt_any ea ec T p.r X (hE.below hX)
 clear hE
 generalize tyI T p.l=o at HTA ⊢
 generalize tyI T p.r=o' at HTB ⊢
 have HO:Hid (o=o):=rfl
 obtain⟨t,ht⟩:∃ t,t=o.getD 0:=⟨_,rfl⟩
 obtain⟨b,hb⟩:∃ b,b=o.isSome:=⟨_,rfl⟩
 rw[tyV,←ht,←hb]at HTA
 have HB:Hid (t=o.getD 0∧b=o.isSome):=⟨ht,hb⟩
 clear ht hb
 obtain⟨t',ht'⟩:∃ t,t=o'.getD 0:=⟨_,rfl⟩
 obtain⟨b',hb'⟩:∃ b,b=o'.isSome:=⟨_,rfl⟩
 rw[tyV,←ht',←hb']at HTB
 have HC:Hid (t'=o'.getD 0∧b'=o'.isSome):=⟨ht',hb'⟩
 clear ht' hb'
 go_enter Tryz.func164,Tryz.ntmps164
 go_upto_region 1 with fail
 refine wp_region_held_drew (S:=fun X=>X.cell? ⟨tb,1,none⟩=some (.slice ea T.length ec)∧X.cell? ⟨w.heap.size,1,none⟩=some (.int .i64 p.l)) (by kernel_rfl) ⟨cell_drew (cell_alloc c1),cell_drew b1⟩ (fun hH=>?_)
 refine tkj 0 rfl hH ?_
 refine tkj 1 rfl hH ?_
 refine tkj 2 rfl hH ?_
 refine tkj 3 rfl hH ?_
 refine tkj 4 rfl hH ?_
 refine tkj 5 rfl hH ?_
 refine tkn ?_
 refine tkr 6 rfl fun K hK=>?_
 go_simp
 refine(HTA.out (ptBox w p).drew (below_drew1 hbb)).mono ?_
 rintro e X1 ⟨rfl,rfl⟩
 go_simp
 refine hK.out _ _ ⟨hH.1,hH.2⟩ (fun hH=>?_)
 clear hK K
 refine tkj 7 rfl hH ?_
 refine tkj 8 rfl hH ?_
 refine tkj 9 rfl hH ?_
 refine tkj 10 rfl hH ?_
 refine tkj 11 rfl hH ?_
 refine tkn ?_
 refine wpAnyH_done (by kernel_rfl) ?_ _
 go_upto_region 2 with fail
 refine wp_region_held_drew (S:=fun X=>X.cell? ⟨tb,1,none⟩=some (.slice ea T.length ec)∧X.cell? ⟨w.heap.size,2,none⟩=some (.int .i64 p.r)) (by kernel_rfl) ⟨cell_drew (cell_drew (cell_alloc c1)),cell_drew (cell_drew b2)⟩ (fun hH=>?_)
 refine tkj 0 rfl hH ?_
 refine tkj 1 rfl hH ?_
 refine tkj 2 rfl hH ?_
 refine tkj 3 rfl hH ?_
 refine tkj 4 rfl hH ?_
 refine tkj 5 rfl hH ?_
 refine tkn ?_
 refine tkr 6 rfl fun K hK=>?_
 go_simp
 refine(HTB.out (ptBox w p).drew.drew (below_drew1 (below_drew1 hbb))).mono ?_
 rintro e X1 ⟨rfl,rfl⟩
 go_simp
 refine hK.out _ _ ⟨hH.1,hH.2⟩ (fun hH=>?_)
 clear hK K
 refine tkj 7 rfl hH ?_
 refine tkj 8 rfl hH ?_
 refine tkj 9 rfl hH ?_
 refine tkj 10 rfl hH ?_
 refine tkj 11 rfl hH ?_
 refine tkn ?_
 refine wpAnyH_done (by kernel_rfl) ?_ _
 cases b with
 |false=>
  have h0:Hid (o=none):=o_none HB.out
  go_wp2
  refine bodyPost_ret (v:=.tuple #[.int .i64 t,.bool false]) (by simp[results,Tryz.results164,go_sem]) rfl ⟨⟨t,?_,?_⟩,below_drew1 (below_drew1 hbb)⟩<;>rw[h0.out]<;>simp[shI]
 |true=>
  have h0:Hid (o=some t):=o_some HB.out
  cases b' with
  |false=>
   have h1:Hid (o'=none):=o_none HC.out
   go_wp2
   refine bodyPost_ret (v:=.tuple #[.int .i64 t,.bool false]) (by simp[results,Tryz.results164,go_sem]) rfl ⟨⟨t,?_,?_⟩,below_drew1 (below_drew1 hbb)⟩<;>rw[h0.out,h1.out]<;>simp[shI]
  |true=>
   have h1:Hid (o'=some t'):=o_some HC.out
   by_cases he:t=t'
   ·subst he
    go_wp2
    refine bodyPost_ret (v:=.tuple #[.int .i64 t,.bool true]) (by simp[results,Tryz.results164,go_sem]) rfl ⟨⟨t,?_,?_⟩,below_drew1 (below_drew1 hbb)⟩<;>rw[h0.out,h1.out]<;>simp[shI]
   go_wp2
   refine bodyPost_ret (v:=.tuple #[.int .i64 t,.bool false]) (by simp[results,Tryz.results164,go_sem,he]) rfl ⟨⟨t,?_,?_⟩,below_drew1 (below_drew1 hbb)⟩<;>rw[h0.out,h1.out]<;>simp[shI,he]
theorem tNumbers_any (tb:Nat)(cv:Value)(ea:Option Addr)(ec:Nat)(T:List Int)(p:Pt)(w:World)(hT:TyAt w tb cv (.slice ea T.length ec))(hE:Ints w ea T) :
  Calls Tryz.prog 159 #[.pointer (some ⟨tb,0,none⟩),p.val] w (TyQ w (isI (shI (tyI T p.l) (tyI T p.r)) 1 1)):=by
 have hsh:=tShared_any tb cv ea ec T p (ptBox w p) (heap_below_alloc hT _) (hE.below (below_alloc (Below.refl _ _) _))
 clear hE
 generalize shI (tyI T p.l) (tyI T p.r)=o at hsh ⊢
 cases o with
 |none=>
  go_enter Tryz.func159,Tryz.ntmps159
  go_wp2_with (go_at_call 164;refine hsh.mono ?_;rintro e' W1 ⟨⟨t,rfl,-⟩,hb1⟩)
  exact bodyPost_ret (v:=.tuple #[.int .i64 1,.bool false]) (by simp[results,Tryz.results159,go_sem]) rfl ⟨⟨1,by simp[isI],by simp[isI]⟩,below_then (below_alloc (Below.refl _ _) _) hb1⟩
 |some x=>
  by_cases hx:x=1
  ·subst hx
   go_enter Tryz.func159,Tryz.ntmps159
   go_wp2_with (go_at_call 164;refine hsh.mono ?_;rintro e' W1 ⟨⟨t,rfl,ht⟩,hb1⟩;obtain rfl:=ht _ rfl)
   exact bodyPost_ret (v:=.tuple #[.int .i64 1,.bool true]) (by simp[results,Tryz.results159,go_sem]) rfl ⟨⟨1,by simp[isI],by simp[isI]⟩,below_then (below_alloc (Below.refl _ _) _) hb1⟩
  go_enter Tryz.func159,Tryz.ntmps159
  go_wp2_with (go_at_call 164;refine hsh.mono ?_;rintro e' W1 ⟨⟨t,rfl,ht⟩,hb1⟩;obtain rfl:=ht _ rfl)
  exact bodyPost_ret (v:=.tuple #[.int .i64 1,.bool false]) (by simp[results,Tryz.results159,go_sem,hx]) rfl ⟨⟨1,by simp[isI,hx],by simp[isI,hx]⟩,below_then (below_alloc (Below.refl _ _) _) hb1⟩
theorem tTruths_any (tb:Nat)(cv:Value)(ea:Option Addr)(ec:Nat)(T:List Int)(p:Pt)(w:World)(hT:TyAt w tb cv (.slice ea T.length ec))(hE:Ints w ea T) :
  Calls Tryz.prog 161 #[.pointer (some ⟨tb,0,none⟩),p.val] w (TyQ w (isI (shI (tyI T p.l) (tyI T p.r)) 2 2)):=by
 have hsh:=tShared_any tb cv ea ec T p (ptBox w p) (heap_below_alloc hT _) (hE.below (below_alloc (Below.refl _ _) _))
 clear hE
 generalize shI (tyI T p.l) (tyI T p.r)=o at hsh ⊢
 cases o with
 |none=>
  go_enter Tryz.func161,Tryz.ntmps161
  go_wp2_with (go_at_call 164;refine hsh.mono ?_;rintro e' W1 ⟨⟨t,rfl,-⟩,hb1⟩)
  exact bodyPost_ret (v:=.tuple #[.int .i64 2,.bool false]) (by simp[results,Tryz.results161,go_sem]) rfl ⟨⟨2,by simp[isI],by simp[isI]⟩,below_then (below_alloc (Below.refl _ _) _) hb1⟩
 |some x=>
  by_cases hx:x=2
  ·subst hx
   go_enter Tryz.func161,Tryz.ntmps161
   go_wp2_with (go_at_call 164;refine hsh.mono ?_;rintro e' W1 ⟨⟨t,rfl,ht⟩,hb1⟩;obtain rfl:=ht _ rfl)
   exact bodyPost_ret (v:=.tuple #[.int .i64 2,.bool true]) (by simp[results,Tryz.results161,go_sem]) rfl ⟨⟨2,by simp[isI],by simp[isI]⟩,below_then (below_alloc (Below.refl _ _) _) hb1⟩
  go_enter Tryz.func161,Tryz.ntmps161
  go_wp2_with (go_at_call 164;refine hsh.mono ?_;rintro e' W1 ⟨⟨t,rfl,ht⟩,hb1⟩;obtain rfl:=ht _ rfl)
  exact bodyPost_ret (v:=.tuple #[.int .i64 2,.bool false]) (by simp[results,Tryz.results161,go_sem,hx]) rfl ⟨⟨2,by simp[isI,hx],by simp[isI,hx]⟩,below_then (below_alloc (Below.refl _ _) _) hb1⟩
theorem tOneType_any (tb:Nat)(cv:Value)(ea:Option Addr)(ec:Nat)(T:List Int)(p:Pt)(w:World)(hT:TyAt w tb cv (.slice ea T.length ec))(hE:Ints w ea T) :
  Calls Tryz.prog 160 #[.pointer (some ⟨tb,0,none⟩),p.val] w (TyQ w ((shI (tyI T p.l) (tyI T p.r)).map fun _=>2)):=by
 have hsh:=tShared_any tb cv ea ec T p (ptBox w p) (heap_below_alloc hT _) (hE.below (below_alloc (Below.refl _ _) _))
 clear hE
 generalize shI (tyI T p.l) (tyI T p.r)=o at hsh ⊢
 go_enter Tryz.func160,Tryz.ntmps160
 go_wp2_with (go_at_call 164;refine hsh.mono ?_;rintro e' W1 ⟨⟨t,rfl,-⟩,hb1⟩)
 refine bodyPost_ret (v:=.tuple #[.int .i64 2,.bool o.isSome]) (by simp[results,Tryz.results160,go_sem]) rfl ⟨⟨2,by simp,?_⟩,below_then (below_alloc (Below.refl _ _) _) hb1⟩
 cases o<;>simp
end Go.Proofs.YtkgibdjakgmmcaaGreatDoor
