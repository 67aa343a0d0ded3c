/- The node Group at work. -/
import Derived.Test.YtdlgbphkaicfaaaGreatDoorGn
import Derived.Test.YtdlgbphkaicfaaaGreatDoorXv
set_option maxHeartbeats 4000000
set_option maxRecDepth 100000
namespace Go.Proofs.YtdlgbphkaicfaaaGreatDoor
open Go.RowKit Go.Shelf Go.Maps Tryz
def Kpi (D l:Nat)(H:Addr)(ks:List Krv)(ms:List (List V))(A:List V→List Tly)(w:World):Ending→World→Prop:=fun e w'=>
 Ju (·=D) w w'∧w'.heap[D]?=Jdc w D l ∧
 ((∃ (y:Nat) (K:List Value),e=.returned (.tuple #[.slice (some ⟨y,0,none⟩) ks.length ks.length,.nilIface])∧w.heap.size≤y∧Jar w' y y K (tcI ks ms A ms.length 0)∧Klz ks ms A ms.length 0) ∨
  (∃ (E x k:Nat) (m:List V),e=.returned (.tuple #[.slice none 0 0,.iface 152 (.pointer (some ⟨E,0,none⟩))])∧w.heap.size≤E∧w'.heap[E]?=some (.cells #[.int .i64 (x:Nat),.int .i64 (k:Nat),.iface 435 (.pointer (some H))] 158 (0,0))∧ms[x]?=some m∧k<ks.length∧(tdV ks A m k).2=false∧Klz ks ms A x k))
theorem Ko2 (U y k bH l:Nat)(z:Nat)(bG bE bZ cb bI bY:Value)(op r:Int)(tn:ByteArray)(xs:Value)(kk:Int)(kb ko K M cap:Nat)(ks:List Krv)(ky:Krv)(hs:List (Option Addr×Nat))(cols:List (List V))(N:Nat)(w:World)(ba:Addr)
  (bk:Jck w U z bG bE bZ cb bI bY (.slice (some ⟨y,0,none⟩) k bH)) (cB:l<k) (bz:w.cell? ⟨y,l,none⟩=some (.slice (some ⟨M,0,none⟩) cols.length cap)) (bS:w.frozen? ⟨y,l,none⟩=false) (cC:U≠y)
  (O:Klj w kb ko ks) (cy:ks[0]?=some ky) (cA:ky.f=0) (cz:ks.length≤4) (bB:kb<w.heap.size∧kb≠y) (bK:Qd w M hs cols) (bc:Jbo M hs cols.length (fun b=>b<w.heap.size)) (bu:Jbo M hs cols.length (fun b=>b≠y)) (cE:1≤cols.length) (cF:cols.length≤1000) (bO:∀ j,j<cols.length→(cols.getD j []).length=N) (cn:N≤20000) (cG:1≤z) (cH:z≤20000) (bP:∀ k∈ks,k.c<cols.length) (bR:∀ k∈ks,k.f≤5)
  (bV:∀ r,r<N→okM (mkL ks cols r)) (bW:∀ ky∈ks,∀ r,r<N→Jg (kyV cols ky r).n) (bT:w.cell? ⟨12,0,none⟩=some (.iface 435 (.pointer (some ba)))) (cv:y≠12) :
  Calls prog 74 #[.pointer (some ⟨U,0,none⟩),.agg #[.int .i64 op,.int .i64 (l:Int),.int .i64 r,.string tn,xs,.slice (some ⟨kb,ko,none⟩) ks.length K,.int .i64 kk]] w (Kpi y l ba ks (Klt [] (mkL ks cols) (List.range N)) (tfB ks cols (List.range N)) w):=by
 have bA:y<w.heap.size:=Jm bz
 have cN:U<w.heap.size:=Jd bk
 have cx:12<w.heap.size:=Jm bT
 have R:Below w.heap.size w (w.alloc (.cells #[.int .i64 op,.int .i64 (l:Int),.int .i64 r,.string tn,xs,.slice (some ⟨kb,ko,none⟩) ks.length K,.int .i64 kk] 47)):=Jc (Oa5 _ _) _
 have bl:=heap_alloc_new w (.cells #[.int .i64 op,.int .i64 (l:Int),.int .i64 r,.string tn,xs,.slice (some ⟨kb,ko,none⟩) ks.length K,.int .i64 kk] 47)
 go_enter func74,ntmps74
 go_upto_region 1 with fail
 generalize w.alloc (.cells #[.int .i64 op,.int .i64 (l:Int),.int .i64 r,.string tn,xs,.slice (some ⟨kb,ko,none⟩) ks.length K,.int .i64 kk] 47)=bi at R bl ⊢
 have cD:=Jjb U y k bH l z bG bE bZ cb bI bY (some ⟨M,0,none⟩) cols.length cap bi.drew (bk.below (Jj R)) cB (Ja R bz) (by rw[←bS];exact Ol7 (R.block y bA))
 have bD:Hid (∀ D,D=bi.drew.setCell ⟨y,l,none⟩ (.slice none 0 0)→Calls prog 110 #[.slice (some ⟨M,0,none⟩) cols.length cap,.slice (some ⟨kb,ko,none⟩) ks.length K,.int .i64 (z:Nat)] D (Kmj D ba ks (Klt [] (mkL ks cols) (List.range N)) (tfB ks cols (List.range N)))∧Ju (·=y) w D∧D.heap[y]?=Jdc w y l):=fun D X=>by
  have E:Ju (·=y) w D:=by rw[X];exact Ju.set (F:=fun x=>x=y) (Ju.of_below (Jj R)) rfl l _
  have cl:Klj D kb ko ks:=fun j cM Z=>by
   have bj:=E.block kb bB.1 bB.2
   obtain⟨h1,h2,bb,ci⟩:=O j cM Z
   exact⟨(Oc3 bj).trans h1,(Oc3 bj).trans h2,(Oc3 bj).trans bb,(Oc3 bj).trans ci⟩
  have cj:Qd D M hs cols:=bK.kp (Fx:=fun b=>b<w.heap.size∧b≠y) ⟨E.size,fun k bU=>E.block k bU.1 bU.2⟩ ⟨⟨bc.1,bu.1⟩,fun j Z b o e=>⟨bc.2 j Z b o e,bu.2 j Z b o e⟩⟩
  exact⟨Ko0 kb ko K M cap ks ky hs cols N z D ba cl cy cA cz (Oc2 bB.1 E.size) cj ⟨Oc2 bc.1 E.size,fun j Z b o e=>Oc2 (bc.2 j Z b o e) E.size⟩ cE cF bO cn cG cH bP bR bV bW ((Oc3 (E.block 12 cx (Oc5 cv))).trans bT),E,by rw[X];exact Jol (R.block y bA)⟩
 obtain⟨H,bM⟩:∃ H,H=w.heap.size:=⟨_,rfl⟩
 rw[←bM]at bl ⊢
 have bL:y≠H:=by omega
 clear bM
 have cI:bi.cell? ⟨H,1,none⟩=some (.int .i64 (l:Int)):=by simp[World.cell?,bl]
 have cJ:bi.cell? ⟨H,5,none⟩=some (.slice (some ⟨kb,ko,none⟩) ks.length K):=by simp[World.cell?,bl]
 have cK:=(bk.below R).cells.1
 clear O bK bc bu bO bP bR bV bW bk bz bS
 refine wp_region_held_drew (S:=fun br=>br.cell? ⟨H,1,none⟩=some (.int .i64 (l:Int))∧br.cell? ⟨H,5,none⟩=some (.slice (some ⟨kb,ko,none⟩) ks.length K)∧br.cell? ⟨U,0,none⟩=some (.int .i64 (z:Int))) (by kernel_rfl) ⟨cI,cJ,cK⟩ (fun A=>?_)
 refine tk 0 ?_ rfl A ?_ (tk 1 ?_ rfl A ?_ (tk 2 ?_ rfl A ?_ (tk 4 ?_ rfl A ?_ (tk 5 ?_ rfl A ?_ (tk 6 ?_ rfl A ?_ (tk 7 ?_ rfl A ?_ (tk 8 ?_ rfl A ?_ ?_)))))))
 iterate 8
  rotate_left 1
  ·intro w bf;(try dsimp only at bf);go_simp;try rfl
 simp only[Act.put,List.getElem_toArray,List.getElem_cons_zero,List.getElem_cons_succ,Oa1,List.set_cons_zero,List.set_cons_succ]
 refine tk 9 ?_ rfl A ?_ (tk 10 ?_ rfl A ?_ ?_)
 iterate 2
  rotate_left 1
  ·intro w bf;(try dsimp only at bf);go_simp;try rfl
 simp only[Act.put,List.getElem_toArray,List.getElem_cons_zero,List.getElem_cons_succ,Oa1,List.set_cons_zero,List.set_cons_succ]
 refine wpAnyH_ready (rs:=[3]) (by kernel_rfl) (by simp) (AllReadyH.cons rfl (fun bn O=>?_) AllReadyH.nil)
 go_simp
 refine cD.mono ?_
 rintro e D ⟨rfl,X⟩
 have cu:D.cell? ⟨H,1,none⟩=some (.int .i64 (l:Int))∧D.cell? ⟨H,5,none⟩=some (.slice (some ⟨kb,ko,none⟩) ks.length K)∧D.cell? ⟨U,0,none⟩=some (.int .i64 (z:Int)):=by rw[X];exact⟨Uc (fun e=>bL (congrArg Addr.block e)) A.1,Uc (fun e=>bL (congrArg Addr.block e)) A.2.1,Uc (fun e=>cC (congrArg Addr.block e).symm) A.2.2⟩
 obtain⟨bN,E,bQ⟩:=bD.out D X
 have bC:Hid (D.heap[y]?=Jdc w y l):=bQ
 clear X bQ
 go_simp
 refine O.out _ _ cu (fun A=>?_)
 clear O bn
 refine wpAnyH_ready (rs:=[11]) (by kernel_rfl) (by simp) (AllReadyH.cons rfl (fun bn O=>?_) AllReadyH.nil)
 go_simp
 refine bN.mono ?_
 rintro e ch ⟨bh,bx⟩
 have cr:Hid (Kpi y l ba ks (Klt [] (mkL ks cols) (List.range N)) (tfB ks cols (List.range N)) w e ch):=⟨E.trans (Ju.of_below bh),(bh.block y (Oc2 bA E.size)).trans bC.out,bx.imp (fun ⟨bX,ca,h1,h2,bb⟩=>⟨bX,ca,h1,Ob2 E.size h2,bb⟩) (fun ⟨bJ,x,k,m,h1,h2,bb⟩=>⟨bJ,x,k,m,h1,Ob2 E.size h2,bb⟩)⟩
 obtain⟨cc,cf,rfl⟩:∃ cc cf,e=.returned (.tuple #[cc,cf]):=bx.elim (fun ⟨bX,ca,h1,_⟩=>⟨_,_,h1⟩) (fun ⟨bJ,x,k,m,h1,_⟩=>⟨_,_,h1⟩)
 clear bx bD bC bN
 go_simp
 refine O.out _ _ ⟨Ja bh A.1,Ja bh A.2.1,Ja bh A.2.2⟩ (fun A=>?_)
 clear O bn
 refine tk 12 ?_ rfl A ?_ (tk 13 ?_ rfl A ?_ (tk 14 ?_ rfl A ?_ (tk 15 ?_ rfl A ?_ ?_)))
 iterate 4
  rotate_left 1
  ·intro w bf;(try dsimp only at bf);go_simp;try rfl
 simp only[Act.put,List.getElem_toArray,List.getElem_cons_zero,List.getElem_cons_succ,Oa1,List.set_cons_zero,List.set_cons_succ]
 refine wpAnyH_done (by kernel_rfl) ?_ _
 go_wp2
 go_ret2
 exact cr.out
attribute [local go_sem] Oc0
structure Kn7 (sch:List Int) (k:Krv):Prop where
 c:k.c<sch.length
 f:k.f≤5
 t:k.f=3→sch.getD k.c 0=1
def tyK (sch:List Int)(k:Krv):Int:=if k.f=1∨k.f=2∨k.f=3 then 1 else sch.getD k.c 0
theorem Kn1 (a:Option Addr)(n c:Nat)(w:World)(h1:1≤n)(y:n≤4):Calls prog 132 #[.slice a n c] w fun e w'=>e=.returned (.bool true)∧Below w.heap.size w w':=by
 have A:(1:Int)≤(n:Int):=by omega
 have D:(n:Int)≤4:=by omega
 go_enter func132,ntmps132
 go_wp2
 go_ret
 exact⟨rfl,Oa5 _ _⟩
theorem Koc (a:Option Addr)(cap:Nat)(y:List Int)(k:Krv)(w:World)(K:Kn7 y k)(h:Kc w a y):Calls prog 135 #[.agg #[.int .i64 (k.c:Nat),.int .i64 k.o,.bool k.d,.int .i64 (k.f:Nat)],.slice a y.length cap] w fun e w'=>e=.returned (.tuple #[.int .i64 (tyK y k),.bool true])∧Below w.heap.size w w':=by
 have D:Below w.heap.size w (w.alloc (.cells #[.int .i64 (k.c:Nat),.int .i64 k.o,.bool k.d,.int .i64 (k.f:Nat)] 38)):=Jc (Oa5 _ _) _
 have ba:=heap_alloc_new w (.cells #[.int .i64 (k.c:Nat),.int .i64 k.o,.bool k.d,.int .i64 (k.f:Nat)] 38)
 have H:=Jef a cap y k.c (w.alloc (.cells #[.int .i64 (k.c:Nat),.int .i64 k.o,.bool k.d,.int .i64 (k.f:Nat)] 38)) K.c (h.below D)
 obtain⟨M,ko,Z,A⟩:=k
 have X:=K.f
 have E:=K.t
 simp only at X E H D ba ⊢
 clear K h
 obtain⟨t,et⟩:∃ t,t=y.getD M 0:=⟨_,rfl⟩
 rw[←et]at H E
 rcases(show A=0∨A=1∨A=2∨A=3∨A=4∨A=5 by omega)with rfl|rfl|rfl|rfl|rfl|rfl
 case inr.inl=>
  clear H
  go_enter func135,ntmps135
  go_wp2
  go_ret2
  exact⟨rfl,D⟩
 case inr.inr.inr.inl=>
  obtain rfl:=E rfl
  clear et E
  go_enter func135,ntmps135
  go_wp2_with (go_at_call 136;refine H.mono ?_;rintro R O ⟨rfl,rfl⟩)
  go_ret2
  exact⟨rfl,D⟩
 all_goals
  have U:t=tyK y ⟨M,ko,Z,0⟩:=et
  clear E et
  go_enter func135,ntmps135
  go_wp2_with (go_at_call 136;refine H.mono ?_;rintro R O ⟨rfl,rfl⟩)
  go_ret2
  exact⟨by first|(rw[U];rfl)|rfl,D⟩
theorem Kp8 (L H:Nat)(bh ev:Value)(ks:List Kn)(nd:Nd)(i:Nat)(gk:List Krv)(kb ko bC:Nat)(w:World)(h:Jed L H bh ev ks w)(bO:nd.l=(i:Int))(hi:i<ks.length)(hn:ks[i].2=false)(bN:nd.ky=(some ⟨kb,ko,none⟩,gk.length,bC))(br:1≤gk.length)(cl:gk.length≤4)
  (bI:∀ y,w.grownBy y ev.ownBlock→Klj y kb ko gk) (bR:∀ k∈gk,Kn7 ks[i].1.2.2 k) :
  Calls prog 100 #[.pointer (some ⟨H,0,none⟩),nd.val] w (Jq3 L H bh ev (ks.set i (ks[i].1,true)) (gk.map (tyK ks[i].1.2.2)) w):=by
 have Z:Below w.heap.size w (Jam w nd):=Jc (Oa5 _ _) _
 have bx:=Jh0 w nd
 have bJ:=h.below Z
 have bA:=Jr1 L H bh ev ks i (Jam w nd) bJ hi hn
 have bP:ev.ownBlock≠some w.heap.size:=fun e=>by have:=(Je h.own e).2;omega
 have bu:(ks[i].1,true)∈ks.set i (ks[i].1,true):=List.mem_set hi _
 have bG:Hid (∀ y j (K:j<gk.length),Jed L H bh ev (ks.set i (ks[i].1,true)) y→(Jam w nd).grownBy y ev.ownBlock→(y.cell? ⟨kb,ko+j*4,none⟩=some (.int .i64 (gk[j].c:Nat))∧y.cell? ⟨kb,ko+j*4+1,none⟩=some (.int .i64 gk[j].o)∧y.cell? ⟨kb,ko+j*4+2,none⟩=some (.bool gk[j].d)∧y.cell? ⟨kb,ko+j*4+3,none⟩=some (.int .i64 (gk[j].f:Nat)))∧∀ Y,Below y.heap.size y Y→Calls prog 135 #[.agg #[.int .i64 (gk[j].c:Nat),.int .i64 gk[j].o,.bool gk[j].d,.int .i64 (gk[j].f:Nat)],Jbl ks[i].1] Y fun bZ w'=>bZ=.returned (.tuple #[.int .i64 (tyK ks[i].1.2.2 gk[j]),.bool true])∧Below Y.heap.size Y w'):=fun y j K ca cf=>by
  refine⟨bI y (Ut (Qq Z) cf) j gk[j] (Oa3 K),fun Y cb=>?_⟩
  exact Koc ks[i].1.1 ks[i].1.2.1 ks[i].1.2.2 gk[j] Y (bR gk[j] (Ob3 K)) ((ca.ints (ks[i].1,true) bu).below cb)
 have U:Hid (Zm (Jam w nd) w.heap.size 0 nd∧ev.ownBlock≠some w.heap.size∧Below w.heap.size w (Jam w nd)):=⟨bx,bP,Z⟩
 have bT:=bx.2.1
 rw[bO,Od0]at bT
 have bY:Hid (nd.ky=(some ⟨kb,ko,none⟩,gk.length,bC)):=bN
 have cE:=run_neq_nil_nil (P:=prog)
 have bM:=fun y=>Kn1 (some ⟨kb,ko,none⟩) gk.length bC y br cl
 obtain⟨s,hs⟩:∃ s,s=ks[i].1:=⟨_,rfl⟩
 rw[←hs]at bA bG bu ⊢
 clear hs bO bN bx bP Z bJ h hn bI bR bu
 go_enter func100,ntmps100
 go_upto_region 2 with(go_at_call 129;refine bA.mono ?_;rintro bH A ⟨rfl,bK,bl,cF⟩)
 have bQ:=Jmi U.out.1 bl U.out.2.1
 have bf:=bQ.2.2.2.2.2.1
 rw[bY.out,Od0]at bf
 simp only at bf
 have X:Hid _:=bK
 have bE:Hid _:=bl
 clear bQ bK bl bA bT
 go_upto_region 7 with(go_at_call 132;refine(bM _).mono ?_;rintro bH cB ⟨rfl,bL⟩)
 have cG:=Ja bL bf
 clear bf bM
 go_wp2
 go_loopw [8,31] (fun sv i wr=>∃ j:Nat,j≤gk.length∧i=.int .i64 (j:Int)∧Jo wr A.heap.size 3 sv (((gk.take j).map (tyK s.2.2)).map iv)∧Below A.heap.size A wr) (fun _ i _=>gk.length-(intOf i).toNat)
 case atStart=>exact⟨0,Ob7 _,rfl,Jo.nil _ _ _,bL⟩
 case round=>
  obtain⟨j,K,rfl,bb,D⟩:=hrel
  have E:Hid _:=bb
  have bD:Hid _:=D
  obtain⟨cJ,bU,bz,M⟩:=bb.cells
  rw[Oa6,Oa6,Oc7,Oj1 K]at bz
  by_cases bn:j<gk.length
  ·obtain⟨⟨cu,cv,cx,cy⟩,bc⟩:=bG.out wr j bn (X.out.below D) (Ut bE.out (Qq D))
   subst bz
   have R:Hid (j<gk.length∧gk[j]?=some gk[j]):=⟨bn,Oa3 bn⟩
   obtain⟨ky,bk⟩:∃ ky,ky=gk[j]:=⟨_,rfl⟩
   rw[←bk]at cu cv cx cy bc
   have bV:Hid (ky=gk[j]):=bk
   obtain⟨O,bB⟩:∃ O,O=tyK s.2.2 ky:=⟨_,rfl⟩
   rw[←bB]at bc
   have bX:Hid (O=tyK s.2.2 ky):=bB
   have ba:Below wr.heap.size wr (wr.alloc (.cells #[.int .i64 (ky.c:Nat),.int .i64 ky.o,.bool ky.d,.int .i64 (ky.f:Nat)] 38)):=Jc (Oa5 _ _) _
   have cr:=bc _ ba
   clear bk bB bb D M bc
   go_wp2_with (first|(go_at_call 135;refine cr.mono ?_;rintro bH bi ⟨rfl,bj⟩)|(at_builtin;go_must (refine Ks (by rfl) _ _ 22 3 _ 8 Zw (by rfl) (by decide) (by kernel_rfl) (by rfl) A.heap.size _ _ (by rfl) (Jo.alloc (Jl E.out fun g e=>(Jb ba bj).block g (Je E.out e).2) _) ⟨bi.heap.size,0,none⟩ 1 [iv O] (by rfl) (by exact Ua bi _ _) (by intro u bS;simp at bS;subst bS;rfl) (by simp only[List.length_cons,List.length_nil,Oa6,Oc7];omega) (by simp;have:=(Jb ba bj).size;have:=bD.out.size;omega) ?_);intro sv' w4 cz cA cI))
   go_roundw
   case rel=>
    refine⟨j+1,R.out.1,by have:=R.out.1;go_num,?_,?_⟩
    ·rw[Oc4 R.out.1,Ob8,Ob8,←bV.out]
     simp only[Oe4,Oi4]
     rw[←bX.out]
     exact cz
    have cc:Below A.heap.size A (bi.alloc (.cells #[iv O] 3)):=Jc (Jb bD.out (Jb ba bj)) _
    exact Jy cc cA fun k ci=>(Je E.out ci).1
   case measure=>have:=R.out.1;simp[intOf];omega
  obtain rfl:j=gk.length:=by omega
  rw[Of2]at M E
  subst bz
  have cn:gk.map (tyK s.2.2)≠[]:=fun e=>by rw[List.map_eq_nil_iff]at e;rw[e]at br;simp at br
  obtain⟨g,o,rfl,ch,_⟩:=Kc.at (ns:=gk.map (tyK s.2.2)) M (i:=0) (Oi9.2 cn)
  have cD:=Je E.out (g:=g) rfl
  have bW:Hid (Kc wr (some ⟨g,o,none⟩) (gk.map (tyK s.2.2))):=M
  clear M bb
  go_wp2
  have cj:(gk.map (tyK s.2.2)).length=gk.length:=Oa6 ..
  refine bodyPost_ret (v:=.tuple #[.slice (some ⟨g,o,none⟩) gk.length bU,.nilIface]) (by simp[results,results100,go_sem]) rfl ⟨some ⟨g,o,none⟩,bU,by rw[Jbl,cj],X.out.below D,Ut (Ut (Qq U.out.2.2) bE.out) (Qq D),bW.out,fun cC cH e=>?_⟩
  cases e
  exact⟨fun e=>by have:=(Je X.out.own e).2;omega,by have:=Jd X.out.ck;omega,ch,.inl (by have:=U.out.2.2.size;omega)⟩
end Go.Proofs.YtdlgbphkaicfaaaGreatDoor
