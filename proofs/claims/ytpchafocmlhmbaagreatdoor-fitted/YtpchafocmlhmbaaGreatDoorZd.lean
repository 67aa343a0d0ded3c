/- Run of a store: what comes out of it. -/
import Derived.Test.YtpchafocmlhmbaaGreatDoorZc
set_option maxHeartbeats 2000000
set_option maxRecDepth 100000
namespace Go.Proofs.YtpchafocmlhmbaaGreatDoor
open Go.RowKit Go.Shelf Tryz
attribute [local go_sem] Oc0
theorem Jib (y:World)(g:Nat)(D E H K O:Value)(k:Nat)(h:k≠g):(((((y.setCell ⟨g,0,none⟩ D).setCell ⟨g,1,none⟩ E).setCell ⟨g,2,none⟩ H).setCell ⟨g,3,none⟩ K).setCell ⟨g,4,none⟩ O).heap[k]?=y.heap[k]?:=Zh y g D E H K O k h
theorem Jl1 (f:Nat→Value)(n j:Nat)(h:j<n):Uq ((List.range n).map f) j=f j:=by
 unfold Uq;rw[Oa0,Ob1,Oh6 h];rfl
theorem Jrn (g cap:Nat)(hs:List (Option Addr×Nat))(cs:List (List V))(n:Nat)(w:World)(X:Qd w g hs cs)(bj:∀ i,i<cs.length→(cs.getD i []).length=n)(bc:1≤cs.length)(bf:cs.length≤1000)(hn:n≤10000) :
  Calls prog 23 #[.slice (some ⟨g,0,none⟩) cs.length cap,.nilIface] w fun e w'=>Below w.heap.size w w'∧∃ U bs,e=.returned (.tuple #[.slice (some ⟨U,0,none⟩) n n,Jb6 0])∧Jcu w' w.heap.size U bs (Qf n cs):=by
 have Y:Below w.heap.size w (w.alloc (.cells #[.int .i64 0,.int .i64 0,.int .i64 0,.int .i64 0,.int .i64 0] 45)):=(Oa5 _ _).alloc (Oa2 _) _;have bB:=run_neq_nil_nil (P:=prog);have K:=X.below Y;have ba:=by
  refine Jo4 g cap ((List.range cs.length).map fun j=>.slice (Yo hs j).1 (cs.getD j []).length (Yo hs j).2) cs n (w.alloc (.cells #[.int .i64 0,.int .i64 0,.int .i64 0,.int .i64 0,.int .i64 0] 45)) ?_ (by simp) (fun i hi=>⟨(Yo hs i).1,(Yo hs i).2,?_,K.vals i hi⟩) bj bc bf hn
  ·rw[Oa6,Op1];exact K.row.congr fun j bx=>(Jl1 (fun j=>.slice (Yo hs j).1 (cs.getD j []).length (Yo hs j).2) _ _ bx).symm
  exact Jl1 (fun j=>.slice (Yo hs j).1 (cs.getD j []).length (Yo hs j).2) _ _ hi
 clear X K;go_enter func23,ntmps23
 go_wp2_with fail
 refine ba.mono ?_;rintro e w1 ⟨rfl,⟨H,br⟩,Z⟩;clear ba;go_wp2_with fail
 refine(Jjq w1).mono ?_;rintro e bD ⟨rfl,O⟩;have bh:=Jb Y Z;obtain⟨bz,bC⟩:=Kx (Jb Z O);have bi:=Jb bh O;have R:=br.below O;rw[Oa7]at R;have bn:=R.from_;have low:∀ E:World,Jcu E (w.heap.size+1) (w.heap.size+1) H (Qf n cs)→Jcu E w.heap.size (w.heap.size+1) H (Qf n cs):=fun E y=>⟨y.len,y.outer,y.rows,⟨by have:=y.from_.1;omega,fun b D=>⟨by have:=(y.from_.2 b D).1;omega,(y.from_.2 b D).2⟩⟩,y.nodup⟩;go_wp2;refine bodyPost_ret (v:=.tuple #[.slice (some ⟨w.heap.size+1,0,none⟩) n n,Jb6 0]) (by simp[results,results23,go_sem,bz]) rfl ⟨Um bi (Oa2 _) _ _ _ _ _,?_⟩;refine⟨w.heap.size+1,H,rfl,?_⟩;refine low _ (R.of_blocks ?_ (fun b D=>?_))
 ·exact Jib _ _ _ _ _ _ _ _ (by omega)
 have bA:=(bn.2 b D).1;exact Jib _ _ _ _ _ _ _ _ (by omega)
theorem Kc0 (st d s:Nat)(O:Value)(z bu bl sd:Int)(w:World)(bE:Jdu w st d s)(P:World→Value→Value→World→Prop)(Z:World→Value→Int→Int→Int→Int→Int→World→Prop)
  (bG:∀ E,Below w.heap.size w E→Calls prog 22 #[.agg #[O],.agg #[.int .i64 z,.int .i64 bu,.int .i64 bl,.int .i64 sd],.pointer (some ⟨s,0,none⟩),.pointer (some ⟨d,0,none⟩)] E fun e w'=>Below E.heap.size E w'∧∃ a b,e=.returned (.tuple #[a,b])∧P E a b w')
  (hl:∀ E a b D,Below w.heap.size w E→Below E.heap.size E D→P E a b D→Calls prog 23 #[a,b] D fun e w'=>Below D.heap.size D w'∧∃ l c nd row col pg,e=.returned (.tuple #[l,Ko c nd row col pg])∧Z D l c nd row col pg w')
  (hR:∀ D l c nd row col pg H bi,H.heap.size≤bi.heap.size→(∀ k,D.heap.size≤k→bi.heap[k]?=H.heap[k]?)→Z D l c nd row col pg H→Z D l c nd row col pg bi) :
  Calls prog 10 #[.pointer (some ⟨st,0,none⟩),.agg #[O],.agg #[.int .i64 z,.int .i64 bu,.int .i64 bl,.int .i64 sd]] w fun e w'=>Below w.heap.size w w'∧∃ D l c nd row col pg,Below w.heap.size w D∧e=.returned (.tuple #[l,Ko c nd row col pg])∧Z D l c nd row col pg w':=by
 have bK:Hid _:=bG;have bH:Hid _:=hl;have bI:Hid _:=hR;obtain⟨c0,c1⟩:=bE.field;clear bG hl hR bE;go_enter func10,ntmps10
 go_upto_region 1 with fail
 have ba:Below w.heap.size w (((w.alloc (.cells #[O] 57)).alloc (.cells #[.int .i64 z,.int .i64 bu,.int .i64 bl,.int .i64 sd] 27)).alloc (.cells #[.int .i64 0,.int .i64 0,.int .i64 0,.int .i64 0,.int .i64 0] 45)):=Jc (Jc (Jc (Oa5 _ _) _) _) _;have br:(((w.alloc (.cells #[O] 57)).alloc (.cells #[.int .i64 z,.int .i64 bu,.int .i64 bl,.int .i64 sd] 27)).alloc (.cells #[.int .i64 0,.int .i64 0,.int .i64 0,.int .i64 0,.int .i64 0] 45)).heap[w.heap.size]?=some (.cells #[O] 57 (0,0)):=((Oa9 _ _ _ (by simp;omega)).trans (Oa9 _ _ _ (by simp))).trans (heap_alloc_new w _);have Y:(((w.alloc (.cells #[O] 57)).alloc (.cells #[.int .i64 z,.int .i64 bu,.int .i64 bl,.int .i64 sd] 27)).alloc (.cells #[.int .i64 0,.int .i64 0,.int .i64 0,.int .i64 0,.int .i64 0] 45)).heap[w.heap.size+1]?=some (.cells #[.int .i64 z,.int .i64 bu,.int .i64 bl,.int .i64 sd] 27 (0,0)):=by
  have:=heap_alloc_new (w.alloc (.cells #[O] 57)) (.cells #[.int .i64 z,.int .i64 bu,.int .i64 bl,.int .i64 sd] 27);rw[Oa7]at this;exact(Oa9 _ _ _ (by simp)).trans this
 have bx:(((w.alloc (.cells #[O] 57)).alloc (.cells #[.int .i64 z,.int .i64 bu,.int .i64 bl,.int .i64 sd] 27)).alloc (.cells #[.int .i64 0,.int .i64 0,.int .i64 0,.int .i64 0,.int .i64 0] 45)).heap[w.heap.size+2]?=some (.cells #[.int .i64 0,.int .i64 0,.int .i64 0,.int .i64 0,.int .i64 0] 45 (0,0)):=by
  have:=heap_alloc_new ((w.alloc (.cells #[O] 57)).alloc (.cells #[.int .i64 z,.int .i64 bu,.int .i64 bl,.int .i64 sd] 27)) (.cells #[.int .i64 0,.int .i64 0,.int .i64 0,.int .i64 0,.int .i64 0] 45);rw[Oa7,Oa7]at this;exact this
 have bn:(((w.alloc (.cells #[O] 57)).alloc (.cells #[.int .i64 z,.int .i64 bu,.int .i64 bl,.int .i64 sd] 27)).alloc (.cells #[.int .i64 0,.int .i64 0,.int .i64 0,.int .i64 0,.int .i64 0] 45)).heap.size=w.heap.size+3:=by rw[Oa7,Oa7,Oa7]
 generalize (((w.alloc (.cells #[O] 57)).alloc (.cells #[.int .i64 z,.int .i64 bu,.int .i64 bl,.int .i64 sd] 27)).alloc (.cells #[.int .i64 0,.int .i64 0,.int .i64 0,.int .i64 0,.int .i64 0] 45))=K at ba br Y bx bn ⊢;have bM:K.cell? ⟨w.heap.size,0,none⟩=some O:=by simp[World.cell?,br]
 have bN:K.cell? ⟨w.heap.size+1,0,none⟩=some (.int .i64 z):=by simp[World.cell?,Y]
 have bO:K.cell? ⟨w.heap.size+1,1,none⟩=some (.int .i64 bu):=by simp[World.cell?,Y]
 have bP:K.cell? ⟨w.heap.size+1,2,none⟩=some (.int .i64 bl):=by simp[World.cell?,Y]
 have bQ:K.cell? ⟨w.heap.size+1,3,none⟩=some (.int .i64 sd):=by simp[World.cell?,Y]
 have bW:=Ja ba c0;have bX:=Ja ba c1;have X:Hid (Below w.heap.size w K∧K.heap[w.heap.size+2]?=some (.cells #[.int .i64 0,.int .i64 0,.int .i64 0,.int .i64 0,.int .i64 0] 45 (0,0))∧K.heap.size=w.heap.size+3):=⟨ba,bx,bn⟩;clear c0 c1 ba br Y bx bn;refine wp_region_held_drew (S:=fun E=>E.cell? ⟨w.heap.size,0,none⟩=some O∧E.cell? ⟨w.heap.size+1,0,none⟩=some (.int .i64 z)∧E.cell? ⟨w.heap.size+1,1,none⟩=some (.int .i64 bu)∧E.cell? ⟨w.heap.size+1,2,none⟩=some (.int .i64 bl)∧E.cell? ⟨w.heap.size+1,3,none⟩=some (.int .i64 sd)∧E.cell? ⟨st,0,none⟩=some (.pointer (some ⟨d,0,none⟩))∧E.cell? ⟨st,1,none⟩=some (.pointer (some ⟨s,0,none⟩))) (by kernel_rfl) ⟨Jh bM,Jh bN,Jh bO,Jh bP,Jh bQ,Jh bW,Jh bX⟩ (fun y=>?_);refine tkj 0 rfl y ?_;refine tkj 1 rfl y ?_;refine tkj 2 rfl y ?_;refine tkj 3 rfl y ?_;refine tkj 4 rfl y ?_;refine tkj 5 rfl y ?_;refine tkj 6 rfl y ?_;refine tkj 7 rfl y ?_;refine tkj 8 rfl y ?_;refine tkj 9 rfl y ?_;refine tkn ?_;refine tkr 10 rfl fun bL bz=>?_;go_simp;refine(bK.out K.drew (Jj X.out.1)).mono ?_;rintro e D ⟨U,a,b,rfl,bA⟩;have bh:Hid (P K.drew a b D∧Below K.drew.heap.size K.drew D):=⟨bA,U⟩;clear bA;go_simp;refine bz.out _ _ ⟨Ja U y.1,Ja U y.2.1,Ja U y.2.2.1,Ja U y.2.2.2.1,Ja U y.2.2.2.2.1,Ja U y.2.2.2.2.2.1,Ja U y.2.2.2.2.2.2⟩ (fun y=>?_);clear bz bL U;refine tkj 11 rfl y ?_;refine tkj 12 rfl y ?_;refine tkj 13 rfl y ?_;refine tkj 14 rfl y ?_;refine tkj 15 rfl y ?_;refine tkn ?_;refine wpAnyH_done (by kernel_rfl) ?_ _;have bD:=bH.out K.drew a b D (Jj X.out.1) bh.out.2 bh.out.1;go_wp2_with fail
 refine bD.mono ?_;rintro e H ⟨bC,l,c,nd,row,col,pg,rfl,bB⟩;have bJ:Hid (Z D l c nd row col pg H):=bB;have bc:Below K.heap.size K D:=Jw bh.out.2;have bj:=Jb bc bC;have R:=(bj.block _ (Jd X.out.2.1)).trans X.out.2.1;have bR:H.cell? ⟨w.heap.size+2,0,none⟩=some (.int .i64 0):=by simp[World.cell?,R]
 have bS:H.cell? ⟨w.heap.size+2,1,none⟩=some (.int .i64 0):=by simp[World.cell?,R]
 have bT:H.cell? ⟨w.heap.size+2,2,none⟩=some (.int .i64 0):=by simp[World.cell?,R]
 have bU:H.cell? ⟨w.heap.size+2,3,none⟩=some (.int .i64 0):=by simp[World.cell?,R]
 have bV:H.cell? ⟨w.heap.size+2,4,none⟩=some (.int .i64 0):=by simp[World.cell?,R]
 have bY:H.frozen? ⟨w.heap.size+2,0,none⟩=false:=by simp[World.frozen?,R]
 have bZ:H.frozen? ⟨w.heap.size+2,1,none⟩=false:=by simp[World.frozen?,R]
 have ca:H.frozen? ⟨w.heap.size+2,2,none⟩=false:=by simp[World.frozen?,R]
 have cb:H.frozen? ⟨w.heap.size+2,3,none⟩=false:=by simp[World.frozen?,R]
 have cc:H.frozen? ⟨w.heap.size+2,4,none⟩=false:=by simp[World.frozen?,R]
 have bf:Hid (Below w.heap.size w H∧Below w.heap.size w D∧w.heap.size+3≤D.heap.size):=⟨Jb X.out.1 bj,Jb X.out.1 bc,by have:=bc.size;have:=X.out.2.2;omega⟩;clear bB bD bc bj R bC;go_wp2;refine bodyPost_ret (v:=.tuple #[l,Ko c nd row col pg]) (by simp[results,results10,go_sem,bR,bS,bT,bU,bV]) rfl ⟨Um bf.out.1 (by omega) _ _ _ _ _,D,l,c,nd,row,col,pg,bf.out.2.1,rfl,bI.out _ _ _ _ _ _ _ _ _ ?_ (fun k cf=>?_) bJ.out⟩
 ·simp[World.setCell]
 exact Jib _ _ _ _ _ _ _ k (by have:=bf.out.2.2;omega)
end Go.Proofs.YtpchafocmlhmbaaGreatDoor
