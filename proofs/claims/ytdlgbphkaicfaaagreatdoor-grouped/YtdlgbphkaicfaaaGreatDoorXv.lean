/- Plans that are right: the nodes. -/
import Derived.Test.YtdlgbphkaicfaaaGreatDoorXt
import Derived.Test.YtdlgbphkaicfaaaGreatDoorXp
set_option maxHeartbeats 1000000
set_option maxRecDepth 100000
namespace Go.Proofs.YtdlgbphkaicfaaaGreatDoor
open Go.RowKit Go.Shelf Tryz
attribute [local go_sem] Oc0
def Jq3 (L y:Nat)(D ev:Value)(A:List Kn)(sch:List Int)(W:World):Ending→World→Prop:=fun e W'=>
 ∃ (a:Option Addr) (c:Nat),e=.returned (.tuple #[Jbl (a,c,sch),.nilIface])∧Jed L y D ev A W'∧W.grownBy W' ev.ownBlock∧Kc W' a sch∧∀ g o,a=some ⟨g,o,none⟩→ev.ownBlock≠some g∧g≠y∧g<W'.heap.size∧(W.heap.size≤g∨∃ k∈A,k.1.1=some ⟨g,o,none⟩)
abbrev Jam (w:World)(nd:Nd):World:=(w.alloc (.cells #[.int .i64 nd.op,.int .i64 nd.l,.int .i64 nd.r,.string nd.tn,.slice nd.xs.1 nd.xs.2.1 nd.xs.2.2,.slice nd.ky.1 nd.ky.2.1 nd.ky.2.2,.int .i64 nd.kk] 47))
theorem Jh0 (w:World)(nd:Nd):Zm (Jam w nd) w.heap.size 0 nd:=by
 have:=heap_alloc_new w (.cells #[.int .i64 nd.op,.int .i64 nd.l,.int .i64 nd.r,.string nd.tn,.slice nd.xs.1 nd.xs.2.1 nd.xs.2.2,.slice nd.ky.1 nd.ky.2.1 nd.ky.2.2,.int .i64 nd.kk] 47)
 refine⟨?_,?_,?_,?_,?_,?_,?_⟩<;>(unfold World.cell?;rw[this];rfl)
theorem Kc7 (L D s:Nat)(ev:Value)(ks:List Kn)(nd:Nd)(sch:List Int)(w:World)(h:Jed L D (.func (.func 32) #[.pointer (some ⟨s,0,none⟩)] #[]) ev ks w)
  (U:∀ A,Below w.heap.size w A→Calls prog 32 #[.pointer (some ⟨s,0,none⟩),.string nd.tn] A fun e w'=>Below A.heap.size A w'∧∃ g c,e=.returned (.tuple #[.slice (some ⟨g,0,none⟩) sch.length c,.bool true])∧A.heap.size≤g∧g<w'.heap.size∧Kc w' (some ⟨g,0,none⟩) sch) :
  Calls prog 96 #[.pointer (some ⟨D,0,none⟩),nd.val] w (Jq3 L D (.func (.func 32) #[.pointer (some ⟨s,0,none⟩)] #[]) ev ks sch w):=by
 have X:Hid _:=U
 have E:Hid _:=h
 obtain⟨c0,_⟩:=h.cells
 have O:Below w.heap.size w (Jam w nd):=Jc (Oa5 _ _) _
 obtain⟨_,_,_,b3,_,_,_⟩:=Jh0 w nd
 clear h U
 go_enter func96,ntmps96
 go_upto_region 1 with fail
 refine wp_region_held_drew (S:=fun A=>A.cell? ⟨D,0,none⟩=some (.func (.func 32) #[.pointer (some ⟨s,0,none⟩)] #[])∧A.cell? ⟨w.heap.size,3,none⟩=some (.string nd.tn)) (by kernel_rfl) ⟨Jh (Kf c0),Jh b3⟩ (fun y=>?_)
 refine tk 0 ?_ rfl y ?_ (tk 1 ?_ rfl y ?_ (tk 2 ?_ rfl y ?_ (tk 3 ?_ rfl y ?_ (tk 4 ?_ rfl y ?_ (tk 5 ?_ rfl y ?_ ?_)))))
 iterate 6
  rotate_left 1
  ·intro w H;(try dsimp only at H);go_simp;try rfl
 simp only[Act.put,List.getElem_toArray,List.getElem_cons_zero,List.getElem_cons_succ,Oa1,List.set_cons_zero,List.set_cons_succ]
 refine wpAnyH_ready (rs:=[6]) (by kernel_rfl) (by simp) (AllReadyH.cons rfl (fun Z M=>?_) AllReadyH.nil)
 go_simp
 refine(X.out (Jam w nd).drew (Jj O)).mono ?_
 rintro e ba ⟨K,g,gc,rfl,bb,bc,bf⟩
 go_simp
 refine M.out _ _ ⟨Ja K y.1,Ja K y.2⟩ (fun y=>?_)
 clear M Z
 refine tk 7 ?_ rfl y ?_ (tk 8 ?_ rfl y ?_ (tk 9 ?_ rfl y ?_ (tk 10 ?_ rfl y ?_ (tk 11 ?_ rfl y ?_ ?_))))
 iterate 5
  rotate_left 1
  ·intro w H;(try dsimp only at H);go_simp;try rfl
 simp only[Act.put,List.getElem_toArray,List.getElem_cons_zero,List.getElem_cons_succ,Oa1,List.set_cons_zero,List.set_cons_succ]
 refine wpAnyH_done (by kernel_rfl) ?_ _
 have R:Below w.heap.size w ba:=Jb (Jj O) K
 have bh:w.heap.size<g:=by have:(Jam w nd).drew.heap.size=w.heap.size+1:=(by simp[World.drew]);omega
 clear bb
 go_wp2
 refine bodyPost_ret (v:=.tuple #[Jbl (some ⟨g,0,none⟩,gc,sch),.nilIface]) (by simp[results,results96,go_sem]) rfl ⟨some ⟨g,0,none⟩,gc,rfl,E.out.below R,Qq R,bf,fun bi o e=>?_⟩
 cases e
 exact⟨fun e=>by have:=(Je E.out.own e).2;omega,by have:=Jd E.out.ck;omega,bc,.inl (Nat.le_of_lt bh)⟩
def Jm5 (op:Int):Nat:=if op=0 then 96 else if op=1 then 97 else if op=2 then 98 else if op=3 then 99 else if op=4 then 100 else if op=5 then 101 else if op=6 then 102 else 103
abbrev Jwq (y:Nat):Array Value:=#[.func (.func 96) #[.pointer (some ⟨y,0,none⟩)] #[],.func (.func 97) #[.pointer (some ⟨y,0,none⟩)] #[],.func (.func 98) #[.pointer (some ⟨y,0,none⟩)] #[],.func (.func 99) #[.pointer (some ⟨y,0,none⟩)] #[],.func (.func 100) #[.pointer (some ⟨y,0,none⟩)] #[],.func (.func 101) #[.pointer (some ⟨y,0,none⟩)] #[],.func (.func 102) #[.pointer (some ⟨y,0,none⟩)] #[],.func (.func 103) #[.pointer (some ⟨y,0,none⟩)] #[]]
theorem Jvy (op:Int)(args:Array Value)(W:World):(callFunc (Jm5 op) args).run prog W=.ok (.enter (Jm5 op) args) W:=by
 unfold Jm5
 repeat' split
 all_goals kernel_rfl
theorem Kgg (y n:Nat)(h1:n<8):(Jwq y)[n]?=some (.func (.func (Jm5 (n:Int))) #[.pointer (some ⟨y,0,none⟩)] #[]):=by
 have:n=0∨n=1∨n=2∨n=3∨n=4∨n=5∨n=6∨n=7:=by omega
 rcases this with rfl|rfl|rfl|rfl|rfl|rfl|rfl|rfl<;>rfl
theorem Jxd (y:Nat)(w:World):Calls prog 69 #[.pointer (some ⟨y,0,none⟩)] w fun e w'=>e=.returned (.agg (Jwq y))∧Below w.heap.size w w':=by
 have A:∀ (f:Nat) (a:Addr) (W:World),(store a (.func (.func f) #[.pointer (some ⟨y,0,none⟩)] #[])).run prog W=stored prog W a (.func (.func f) #[.pointer (some ⟨y,0,none⟩)] #[]) .plain:=fun f a W=>run_store _ _ _ _ _ rfl
 go_enter func69,ntmps69
 go_wp2
 exact bodyPost_ret (v:=.agg (Jwq y)) (by simp[results,results69,go_sem]) rfl ⟨rfl,(by repeat (first|exact Oa5 _ _|refine Jc ?_ _|refine Jj ?_))⟩
theorem Kbz (D:Nat)(nd:Nd)(w:World)(Q:World→Value→World→Prop)(h0:0≤nd.op)(bI:nd.op≤7)
  (bn:∀ y,Below w.heap.size w y→Calls prog (Jm5 nd.op) #[.pointer (some ⟨D,0,none⟩),nd.val] y fun e w'=>∃ a b,e=.returned (.tuple #[a,b])∧Q y (.tuple #[a,b]) w'∧y.heap.size≤w'.heap.size∧∀ k,w.heap.size≤k→k<y.heap.size→w'.heap[k]?=y.heap[k]?) :
  Calls prog 50 #[.pointer (some ⟨D,0,none⟩),nd.val] w fun e w'=>∃ y,Below w.heap.size w y∧∃ v,e=.returned v∧Q y v w':=by
 have U:Hid _:=bn
 clear bn
 obtain⟨n,hn⟩:∃ n:Nat,nd.op=(n:Int):=⟨nd.op.toNat,by omega⟩
 have bM:n<8:=by omega
 have bE:Hid (nd.op=(n:Int)):=hn
 clear hn h0 bI
 have bN:∀ (f:Nat) (a:Addr) (y:World),(store a (.func (.func f) #[.pointer (some ⟨D,0,none⟩)] #[])).run prog y=stored prog y a (.func (.func f) #[.pointer (some ⟨D,0,none⟩)] #[]) .plain:=fun f a y=>run_store _ _ _ _ _ rfl
 have bh:Below w.heap.size w (Jam w nd):=Jc (Oa5 _ _) _
 have br:=Jh0 w nd
 have bl:=Jxd D (Jam w nd)
 go_enter func50,ntmps50
 go_upto_region 2 with(go_at_call 69;refine bl.mono ?_;rintro e E ⟨rfl,R⟩)
 have hn:=bE.out
 have Z:Below E.heap.size E (E.alloc (.cells (Jwq D) 177)):=Jc (Oa5 _ _) _
 have O:=heap_alloc_new E (.cells (Jwq D) 177)
 have bu:=(br.below R).below Z
 have ba:Below w.heap.size w (E.alloc (.cells (Jwq D) 177)):=Jb (Jb bh R) Z
 have bi:w.heap.size<E.heap.size:=Oc2 (by simp) R.size
 obtain⟨kb,bj⟩:∃ kb,kb=E.heap.size:=⟨_,rfl⟩
 rw[←bj]at O bi ⊢
 clear bj
 generalize E.alloc (.cells (Jwq D) 177)=K at O bu ba ⊢
 obtain⟨bb,bx,bz,bA,bB,bC,bD⟩:=bu
 simp only[Od0]at bx bz bA bB bC bD
 rw[hn]at bb
 have bk:K.cell? ⟨kb,n,none⟩=some (.func (.func (Jm5 nd.op)) #[.pointer (some ⟨D,0,none⟩)] #[]):=by
  have:=Kgg D n bM
  rw[←hn]at this
  rw[←this]
  simp only[World.cell?,O]
  rfl
 have bK:=Jvy nd.op
 obtain⟨f,hf⟩:∃ f,f=Jm5 nd.op:=⟨_,rfl⟩
 rw[←hf]at bk bK U
 rw[Nd.val,hn]at U
 have bS:(0:Int)≤(n:Int):=by omega
 have bT:(n:Int)<8:=by omega
 have bL:kb<K.heap.size:=Jd O
 have M:w.heap.size<K.heap.size:=by have:=Jm bb;exact this
 clear hf hn Z R bl br O bh bN E
 go_upto_region 4 with fail
 refine wp_region_held_drew (S:=fun y=>y.cell? ⟨w.heap.size,0,none⟩=some (.int .i64 (n:Int))∧y.cell? ⟨w.heap.size,1,none⟩=some (.int .i64 nd.l)∧y.cell? ⟨w.heap.size,2,none⟩=some (.int .i64 nd.r)∧y.cell? ⟨w.heap.size,3,none⟩=some (.string nd.tn)∧y.cell? ⟨w.heap.size,4,none⟩=some (.slice nd.xs.1 nd.xs.2.1 nd.xs.2.2)∧y.cell? ⟨w.heap.size,5,none⟩=some (.slice nd.ky.1 nd.ky.2.1 nd.ky.2.2)∧y.cell? ⟨w.heap.size,6,none⟩=some (.int .i64 nd.kk)∧y.cell? ⟨kb,n,none⟩=some (.func (.func f) #[.pointer (some ⟨D,0,none⟩)] #[])) (by kernel_rfl) ⟨Jh bb,Jh bx,Jh bz,Jh bA,Jh bB,Jh bC,Jh bD,Jh bk⟩ (fun A=>?_)
 refine tk 0 ?_ rfl A ?_ (tk 1 ?_ rfl A ?_ (tk 2 ?_ rfl A ?_ (tk 3 ?_ rfl A ?_ (tk 4 ?_ rfl A ?_ ?_))))
 iterate 5
  rotate_left 1
  ·intro w X;(try dsimp only at X);go_simp;try rfl
 simp only[Act.put,List.getElem_toArray,List.getElem_cons_zero,List.getElem_cons_succ,Oa1,List.set_cons_zero,List.set_cons_succ]
 refine wpAnyH_ready (rs:=[5]) (by kernel_rfl) (by simp) (AllReadyH.cons rfl (fun bG bf=>?_) AllReadyH.nil)
 go_simp
 refine(U.out K.drew (Jj ba)).mono ?_
 rintro e bc ⟨bP,bQ,rfl,bJ,bR,bO⟩
 have H:∀ (g o:Nat) (u:Value),w.heap.size≤g→g<K.heap.size→K.drew.cell? ⟨g,o,none⟩=some u→bc.cell? ⟨g,o,none⟩=some u:=fun g o u h1 h2 bH=>by
  rw[←bH]
  unfold World.cell?
  rw[show bc.heap[(⟨g,o,none⟩:Addr).block]?=K.drew.heap[(⟨g,o,none⟩:Addr).block]? from bO g h1 h2]
 go_simp
 refine bf.out _ _ ⟨H _ _ _ (Oa2 _) M A.1,H _ _ _ (Oa2 _) M A.2.1,H _ _ _ (Oa2 _) M A.2.2.1,H _ _ _ (Oa2 _) M A.2.2.2.1,H _ _ _ (Oa2 _) M A.2.2.2.2.1,H _ _ _ (Oa2 _) M A.2.2.2.2.2.1,H _ _ _ (Oa2 _) M A.2.2.2.2.2.2.1,H _ _ _ (Nat.le_of_lt bi) bL A.2.2.2.2.2.2.2⟩ (fun A=>?_)
 clear bf bG
 refine tk 6 ?_ rfl A ?_ (tk 7 ?_ rfl A ?_ (tk 8 ?_ rfl A ?_ (tk 9 ?_ rfl A ?_ ?_)))
 iterate 4
  rotate_left 1
  ·intro w X;(try dsimp only at X);go_simp;try rfl
 simp only[Act.put,List.getElem_toArray,List.getElem_cons_zero,List.getElem_cons_succ,Oa1,List.set_cons_zero,List.set_cons_succ]
 refine wpAnyH_done (by kernel_rfl) ?_ _
 go_wp2
 exact bodyPost_ret (v:=.tuple #[bP,bQ]) (by simp[results,results50,go_sem]) rfl ⟨_,Jj ba,_,rfl,bJ⟩
attribute [local go_sem] Oc0
theorem Jmi {w W:World}{r:Option Nat}{g o:Nat}{nd:Nd}(h:Zm w g o nd)(D:w.grownBy W r)(E:r≠some g):Zm W g o nd:=by
 have y:∀ o v,w.cell? ⟨g,o,none⟩=some v→W.cell? ⟨g,o,none⟩=some v:=fun o v A=>by
  rw[←A]
  unfold World.cell?
  rw[show W.heap[(⟨g,o,none⟩:Addr).block]?=w.heap[(⟨g,o,none⟩:Addr).block]? from D.block g (by have:=Jm A;exact this) (Oc5 E)]
 exact⟨y _ _ h.1,y _ _ h.2.1,y _ _ h.2.2.1,y _ _ h.2.2.2.1,y _ _ h.2.2.2.2.1,y _ _ h.2.2.2.2.2.1,y _ _ h.2.2.2.2.2.2⟩
theorem Jsy (L R:Nat)(bk ev:Value)(ks:List Kn)(nd:Nd)(i:Nat)(y:List (List Pt))(bh eo bL:Nat)(w:World)(h:Jed L R bk ev ks w)(bP:nd.l=(i:Int))(hi:i<ks.length)(hn:ks[i].2=false)(bV:nd.xs=(some ⟨bh,eo,none⟩,y.length,bL))(bQ:1≤y.length)(cz:y.length≤6)
  (bM:∀ A,w.grownBy A ev.ownBlock→Jaz A bh eo y) (bT:∀ e∈y,Uj ks[i].1.2.2 e∧1≤e.length∧e.length≤12) :
  Calls prog 98 #[.pointer (some ⟨R,0,none⟩),nd.val] w (Jq3 L R bk ev (ks.set i (ks[i].1,true)) (y.map (Jbk ks[i].1.2.2)) w):=by
 have bi:Below w.heap.size w (Jam w nd):=Jc (Oa5 _ _) _
 have bA:=Jh0 w nd
 have bN:=h.below bi
 have bC:=Jr1 L R bk ev ks i (Jam w nd) bN hi hn
 have bR:ev.ownBlock≠some w.heap.size:=fun e=>by have:=(Je h.own e).2;omega
 have bz:(ks[i].1,true)∈ks.set i (ks[i].1,true):=List.mem_set hi _
 have bK:Hid (∀ A j (U:j<y.length),Jed L R bk ev (ks.set i (ks[i].1,true)) A→(Jam w nd).grownBy A ev.ownBlock→∃ H M K,A.cell? ⟨bh,eo+j,none⟩=some (.slice (some ⟨H,M,none⟩) y[j].length K)∧Calls prog 130 #[.slice (some ⟨H,M,none⟩) y[j].length K,Jbl ks[i].1] A fun ch w'=>ch=.returned (.tuple #[.int .i64 (Jbk ks[i].1.2.2 y[j]),.nilIface])∧Below A.heap.size A w'):=fun A j U ci cl=>by
  obtain⟨H,M,K,Z,bH⟩:=bM A (Ut (Qq bi) cl) j y[j] (Oa3 U)
  have bG:=bT y[j] (Ob3 U)
  exact⟨H,M,K,Z,Jts H M K y[j] ks[i].1.1 ks[i].1.2.1 ks[i].1.2.2 A bH (ci.ints (ks[i].1,true) bz) bG.1 bG.2.1 bG.2.2⟩
 have bc:Hid (Zm (Jam w nd) w.heap.size 0 nd∧ev.ownBlock≠some w.heap.size∧Below w.heap.size w (Jam w nd)):=⟨bA,bR,bi⟩
 have bW:=bA.2.1
 rw[bP,Od0]at bW
 have cc:Hid (nd.xs=(some ⟨bh,eo,none⟩,y.length,bL)):=bV
 have cA:=run_neq_nil_nil (P:=prog)
 obtain⟨s,hs⟩:∃ s,s=ks[i].1:=⟨_,rfl⟩
 rw[←hs]at bC bK bz ⊢
 clear hs bP bV bA bR bi bN h hn bM bT bz
 go_enter func98,ntmps98
 go_upto_region 2 with(go_at_call 129;refine bC.mono ?_;rintro cf D ⟨rfl,bO,bu,cB⟩)
 have bS:=Jmi bc.out.1 bu bc.out.2.1
 have bX:=bS.2.2.2.2.1
 rw[cc.out,Od0]at bX
 simp only at bX
 have cC:(1:Int)≤(y.length:Int):=by omega
 have cD:(y.length:Int)≤6:=by omega
 have bf:Hid _:=bO
 have bJ:Hid _:=bu
 clear bS bO bu bC bW
 go_wp2
 go_loopw [8,37] (fun sv i wr=>∃ j:Nat,j≤y.length∧i=.int .i64 (j:Int)∧Jo wr D.heap.size 3 sv (((y.take j).map (Jbk s.2.2)).map iv)∧Below D.heap.size D wr) (fun _ i _=>y.length-(intOf i).toNat)
 case atStart=>exact⟨0,Ob7 _,rfl,Jo.nil _ _ _,Oa5 _ _⟩
 case round=>
  obtain⟨j,U,rfl,bj,E⟩:=hrel
  have O:Hid _:=bj
  have bI:Hid _:=E
  obtain⟨cG,bY,bB,X⟩:=bj.cells
  rw[Oa6,Oa6,Oc7,Oj1 U]at bB
  by_cases bx:j<y.length
  ·obtain⟨H,M,K,Z,bE⟩:=bK.out wr j bx (bf.out.below E) (Ut bJ.out (Qq E))
   subst bB
   have bb:Hid (j<y.length∧y[j]?=some y[j]):=⟨bx,Oa3 bx⟩
   obtain⟨es,br⟩:∃ es,es=y[j]:=⟨_,rfl⟩
   rw[←br]at Z bE
   have bZ:Hid (es=y[j]):=br
   obtain⟨ba,bD⟩:∃ ba,ba=Jbk s.2.2 es:=⟨_,rfl⟩
   rw[←bD]at bE
   have cb:Hid (ba=Jbk s.2.2 es):=bD
   clear br bD bj E X
   go_wp2_with (first|(go_at_call 130;refine bE.mono ?_;rintro cf bl ⟨rfl,bn⟩)|(at_builtin;go_must (refine Ks (by rfl) _ _ 22 3 _ 8 Zw (by rfl) (by decide) (by kernel_rfl) (by rfl) D.heap.size _ _ (by rfl) (Jo.alloc (Jl O.out fun g e=>bn.block g (Je O.out e).2) _) ⟨bl.heap.size,0,none⟩ 1 [iv ba] (by rfl) (by exact Ua bl _ _) (by intro u bU;simp at bU;subst bU;rfl) (by simp only[List.length_cons,List.length_nil,Oa6,Oc7];omega) (by simp;have:=bn.size;have:=bI.out.size;omega) ?_);intro sv' w4 Z bH cF))
   go_roundw
   case rel=>
    refine⟨j+1,bb.out.1,by have:=bb.out.1;go_num,?_,?_⟩
    ·rw[Oc4 bb.out.1,Ob8,Ob8,←bZ.out]
     simp only[Oe4,Oi4]
     rw[←cb.out]
     exact Z
    have cj:Below D.heap.size D (bl.alloc (.cells #[iv ba] 3)):=Jc (Jb bI.out bn) _
    exact Jy cj bH fun k cr=>(Je O.out cr).1
   case measure=>have:=bb.out.1;simp[intOf];omega
  obtain rfl:j=y.length:=by omega
  rw[Of2]at X O
  subst bB
  have cv:y.map (Jbk s.2.2)≠[]:=fun e=>by rw[List.map_eq_nil_iff]at e;rw[e]at bQ;simp at bQ
  obtain⟨g,o,rfl,cn,_⟩:=Kc.at (ns:=y.map (Jbk s.2.2)) X (i:=0) (Oi9.2 cv)
  have cy:=Je O.out (g:=g) rfl
  have ca:Hid (Kc wr (some ⟨g,o,none⟩) (y.map (Jbk s.2.2))):=X
  clear X bj
  go_wp2
  have cu:(y.map (Jbk s.2.2)).length=y.length:=Oa6 ..
  refine bodyPost_ret (v:=.tuple #[.slice (some ⟨g,o,none⟩) y.length bY,.nilIface]) (by simp[results,results98,go_sem]) rfl ⟨some ⟨g,o,none⟩,bY,by rw[Jbl,cu],bf.out.below E,Ut (Ut (Qq bc.out.2.2) bJ.out) (Qq E),ca.out,fun cx cE e=>?_⟩
  cases e
  exact⟨fun e=>by have:=(Je bf.out.own e).2;omega,by have:=Jd bf.out.ck;omega,cn,.inl (by have:=bc.out.2.2.size;omega)⟩
end Go.Proofs.YtdlgbphkaicfaaaGreatDoor
