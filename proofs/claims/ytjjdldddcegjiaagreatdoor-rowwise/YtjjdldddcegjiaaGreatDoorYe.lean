/- The law's own expressions: a part that is one. -/
import Derived.Test.YtjjdldddcegjiaaGreatDoorYd
import Derived.Test.YtjjdldddcegjiaaGreatDoorHc
set_option maxHeartbeats 40000000
set_option maxRecDepth 100000
namespace Go.Proofs.YtjjdldddcegjiaaGreatDoor
open Go.RowKit Go.Shelf Tryz
attribute [local go_sem] Oc0
def Kbt (o:Nat):Int:=if 2≤o∧o≤5 then 1 else if 8≤o∧o≤10 then 2 else 0
def Kgr (sch T:List Int)(w:World):Ending→World→Prop:=fun e w'=>Below w.heap.size w w'∧∃ q:Pt,e=.returned (.tuple #[q.val,.int .i64 (tyP sch q)])∧Jeg sch T T.length q
theorem Km {W:World}{g:Nat}(h:W.heap[g]?=some (.cells #[.int .i64 0,.int .i64 0,.int .i64 0,.int .i64 0,.int .i64 0,.int .i64 0,.string ⟨#[]⟩] 51 (0,0))):W.cell? ⟨g,0,none⟩=some (.int .i64 0)∧W.cell? ⟨g,1,none⟩=some (.int .i64 0)∧W.cell? ⟨g,2,none⟩=some (.int .i64 0)∧W.cell? ⟨g,3,none⟩=some (.int .i64 0)∧W.cell? ⟨g,4,none⟩=some (.int .i64 0)∧W.cell? ⟨g,5,none⟩=some (.int .i64 0)∧W.cell? ⟨g,6,none⟩=some (.string ⟨#[]⟩)∧W.frozen? ⟨g,0,none⟩=false∧W.frozen? ⟨g,1,none⟩=false∧W.frozen? ⟨g,2,none⟩=false∧W.frozen? ⟨g,3,none⟩=false∧W.frozen? ⟨g,4,none⟩=false∧W.frozen? ⟨g,5,none⟩=false∧W.frozen? ⟨g,6,none⟩=false:=by
 refine⟨?_,?_,?_,?_,?_,?_,?_,?_,?_,?_,?_,?_,?_,?_⟩
 all_goals simp[World.cell?,World.frozen?,h]
theorem Ui {W:World}{g:Nat}{a b c d k n:Int}{s:ByteArray}(h:W.heap[g]?=some (.cells #[.int .i64 a,.int .i64 b,.int .i64 c,.int .i64 d,.int .i64 k,.int .i64 n,.string s] 51 (0,0))):W.cell? ⟨g,0,none⟩=some (.int .i64 a)∧W.cell? ⟨g,1,none⟩=some (.int .i64 b)∧W.cell? ⟨g,2,none⟩=some (.int .i64 c)∧W.cell? ⟨g,3,none⟩=some (.int .i64 d)∧W.cell? ⟨g,4,none⟩=some (.int .i64 k)∧W.cell? ⟨g,5,none⟩=some (.int .i64 n)∧W.cell? ⟨g,6,none⟩=some (.string s):=by
 refine⟨?_,?_,?_,?_,?_,?_,?_⟩
 all_goals simp[World.cell?,h]
theorem Ke {lo:Nat}{w W:World}{g:Nat}(h:Below lo w W)(y:lo≤g)(z A C D E H K:Value):Below lo w (((((((W.setCell ⟨g,0,none⟩ z).setCell ⟨g,1,none⟩ A).setCell ⟨g,2,none⟩ C).setCell ⟨g,3,none⟩ D).setCell ⟨g,4,none⟩ E).setCell ⟨g,5,none⟩ H).setCell ⟨g,6,none⟩ K):=
 ((((((h.setCell (p:=⟨g,0,none⟩) y _).setCell (p:=⟨g,1,none⟩) y _).setCell (p:=⟨g,2,none⟩) y _).setCell (p:=⟨g,3,none⟩) y _).setCell (p:=⟨g,4,none⟩) y _).setCell (p:=⟨g,5,none⟩) y _).setCell (p:=⟨g,6,none⟩) y _
theorem Jyp {W:World}{g:Nat}(y z A C D E H:Value)(b:Nat)(o:Nat)(h:b≠g):(((((((W.setCell ⟨g,0,none⟩ y).setCell ⟨g,1,none⟩ z).setCell ⟨g,2,none⟩ A).setCell ⟨g,3,none⟩ C).setCell ⟨g,4,none⟩ D).setCell ⟨g,5,none⟩ E).setCell ⟨g,6,none⟩ H).cell? ⟨b,o,none⟩=W.cell? ⟨b,o,none⟩:=by
 simp only[World.cell?]
 rw[Oa4 _ _ _ _ (show b≠g from h),Oa4 _ _ _ _ (show b≠g from h),Oa4 _ _ _ _ (show b≠g from h),Oa4 _ _ _ _ (show b≠g from h),Oa4 _ _ _ _ (show b≠g from h),Oa4 _ _ _ _ (show b≠g from h),Oa4 _ _ _ _ (show b≠g from h)]
theorem Jtf {sch T:List Int}{j:Nat}{t:Int}{u:V}(h:okV t u)(hn:Jg u.n)(A:1≤t∧t≤3):Jeg sch T j ⟨1,0,0,t,u⟩:=by
 have hs:u.s.size≤255:=by
  rcases Jgh h with rfl|⟨_,_,⟨_,z⟩|⟨_,_,z⟩|⟨z,C⟩⟩
  ·decide
  ·rw[z];decide
  ·rw[z];decide
  unfold okV okB okK at h
  simp only[decide_eq_true_eq]at h
  rcases h with⟨_,_,y⟩|⟨_,⟨_,y⟩|⟨_,_,y⟩|⟨_,_,y⟩⟩
  ·rw[Ja6 y];decide
  ·rw[Ja6 y];decide
  ·rw[Ja6 y];decide
  omega
 exact⟨⟨by show (0:Int)≤1;omega,by show (1:Int)≤11;omega,fun h=>absurd h (by show ¬ (1:Int)=0;omega),fun _=>⟨hs,hn⟩,fun h=>absurd h (by show ¬ (2:Int)≤1;omega),fun h=>absurd h (by show ¬ (2:Int)≤1;omega)⟩,fun h=>absurd h (by show ¬ (2:Int)≤1;omega),fun _=>⟨A,h⟩,fun h=>absurd h (by show ¬ (2:Int)≤1;omega),fun h=>absurd h (by show ¬ (6:Int)≤1;omega),fun h=>absurd h (by show ¬ (8:Int)≤1;omega),fun h=>absurd h (by show ¬ (1:Int)=10;omega)⟩
theorem Jh7 {sch T:List Int}{j c:Nat}(h:c<sch.length):Jeg sch T j ⟨0,0,0,(c:Int),Jf⟩:=
 ⟨⟨by show (0:Int)≤0;omega,by show (0:Int)≤11;omega,fun _=>⟨by show (0:Int)≤(c:Int);omega,by show (c:Int)<_;omega⟩,fun h=>absurd h (by show ¬ (0:Int)=1;omega),fun h=>absurd h (by show ¬ (2:Int)≤0;omega),fun h=>absurd h (by show ¬ (2:Int)≤0;omega)⟩,fun h=>absurd h (by show ¬ (2:Int)≤0;omega),fun h=>absurd h (by show ¬ (0:Int)=1;omega),fun h=>absurd h (by show ¬ (2:Int)≤0;omega),fun h=>absurd h (by show ¬ (6:Int)≤0;omega),fun h=>absurd h (by show ¬ (8:Int)≤0;omega),fun h=>absurd h (by show ¬ (0:Int)=10;omega)⟩
theorem Zs {sch T:List Int}{o l r:Nat}(C:2≤o)(D:o≤11)(E:l<T.length)(H:r<T.length)(z:Kbt o=0∨T.getD l 0=Kbt o)(hs:T.getD r 0=T.getD l 0):Jeg sch T T.length ⟨(o:Int),(l:Int),(r:Int),0,Jf⟩:=by
 have e:∀ k:Nat,((k:Int)).toNat=k:=fun k=>Int.toNat_natCast k
 unfold Kbt at z
 refine⟨⟨by show (0:Int)≤(o:Int);omega,by show (o:Int)≤11;omega,fun h=>absurd h (by show ¬ (o:Int)=0;omega),fun h=>absurd h (by show ¬ (o:Int)=1;omega),fun _=>⟨by show (0:Int)≤(l:Int);omega,by show (l:Int)<_;omega⟩,fun _ _=>⟨by show (0:Int)≤(r:Int);omega,by show (r:Int)<_;omega⟩⟩,fun _=>⟨by show (0:Int)≤(r:Int);omega,by show (r:Int)<_;omega⟩,fun h=>absurd h (by show ¬ (o:Int)=1;omega),fun _ h=>?_,fun h A=>?_,fun h A=>?_,fun h=>?_⟩
 ·have h:(o:Int)≤5:=h
  rw[if_pos ⟨C,by omega⟩]at z
  have y:T.getD l 0=1:=by omega
  exact⟨by rw[e];exact y,by rw[e,hs];exact y⟩
 ·show T.getD ((l:Int)).toNat 0=T.getD ((r:Int)).toNat 0
  rw[e,e,hs]
 ·have h:8≤(o:Int):=h
  have A:(o:Int)≤9:=A
  rw[if_neg (by omega),if_pos (by omega)]at z
  have y:T.getD l 0=2:=by omega
  exact⟨by rw[e];exact y,by rw[e,hs];exact y⟩
 have h:(o:Int)=10:=h
 rw[if_neg (by omega),if_pos (by omega)]at z
 have y:T.getD l 0=2:=by omega
 show T.getD ((l:Int)).toNat 0=2
 rw[e];exact y
theorem Jzh (p:Pt)(T sch:List Int)(cF cT:Option Addr)(cU du:Nat)(w:World)(A:Jg p.op)(H:Jg p.l)(z:Jg p.r)(dv:Jg p.c)(cX:Jg p.v.k)(cY:Jg p.v.n)(db:Kc w cF T)(da:Kc w cT sch)(dA:1≤sch.length)(dB:sch.length≤1000)(dc:T.length≤1000)(dd:∀ i,i<T.length→T.getD i 0≠0) :
  Calls prog 26 #[p.val,.slice cF T.length cU,.slice cT sch.length du] w (Kgr sch T w):=by
 have cJ:Hid (∀ (c m:Int) (W:World),Jg c→0<m→m≤1000→Calls prog 29 #[.int .i64 c,.int .i64 m] W fun e w'=>(∃ r:Nat,e=.returned (.int .i64 r)∧(r:Int)<m)∧w'=W):=fun c m W dp dw dx=>by
  obtain⟨n,rfl⟩:∃ n:Nat,m=(n:Int):=⟨m.toNat,by omega⟩
  refine(Jfw c n W dp (by omega) (by omega)).mono ?_
  rintro e w' ⟨⟨r,rfl,dz⟩,rfl⟩
  exact⟨⟨r,rfl,by omega⟩,rfl⟩
 have cI:Hid (∀ (l:Nat) (bV:Int),l<T.length→bV=T.getD l 0→¬ bV=0):=fun l bV A H z=>dd l A (H▸z)
 clear dd
 have dm:Jg (wrap64 (p.c-1)):=Jpb _
 have bX:Hid (Kc w cF T∧Kc w cT sch∧Jg p.l∧Jg p.r∧Jg p.v.k∧Jg p.v.n):=⟨db,da,H,z,cX,cY⟩
 clear db da H z cX cY
 go_enter func26,ntmps26
 go_upto_region 2 with(go_at_call 29;refine(cJ.out _ _ _ (by assumption) (by decide) (by decide)).mono ?_;rintro bi bW ⟨⟨o,rfl,cN⟩,rfl⟩)
 have b0:((w.alloc (.cells #[.int .i64 p.op,.int .i64 p.l,.int .i64 p.r,.int .i64 p.c,.int .i64 p.v.k,.int .i64 p.v.n,.string p.v.s] 51)).alloc (.cells #[.int .i64 0,.int .i64 0,.int .i64 0,.int .i64 0,.int .i64 0,.int .i64 0,.string ⟨#[]⟩] 51)).heap[w.heap.size]?=some (.cells #[.int .i64 p.op,.int .i64 p.l,.int .i64 p.r,.int .i64 p.c,.int .i64 p.v.k,.int .i64 p.v.n,.string p.v.s] 51 (0,0)):=(Oa9 _ _ _ (by simp)).trans (heap_alloc_new w _)
 have b1:((w.alloc (.cells #[.int .i64 p.op,.int .i64 p.l,.int .i64 p.r,.int .i64 p.c,.int .i64 p.v.k,.int .i64 p.v.n,.string p.v.s] 51)).alloc (.cells #[.int .i64 0,.int .i64 0,.int .i64 0,.int .i64 0,.int .i64 0,.int .i64 0,.string ⟨#[]⟩] 51)).heap[w.heap.size+1]?=some (.cells #[.int .i64 0,.int .i64 0,.int .i64 0,.int .i64 0,.int .i64 0,.int .i64 0,.string ⟨#[]⟩] 51 (0,0)):=by
  have:=heap_alloc_new (w.alloc (.cells #[.int .i64 p.op,.int .i64 p.l,.int .i64 p.r,.int .i64 p.c,.int .i64 p.v.k,.int .i64 p.v.n,.string p.v.s] 51)) (.cells #[.int .i64 0,.int .i64 0,.int .i64 0,.int .i64 0,.int .i64 0,.int .i64 0,.string ⟨#[]⟩] 51)
  rw[Oa7]at this
  exact this
 have cM:Below w.heap.size w ((w.alloc (.cells #[.int .i64 p.op,.int .i64 p.l,.int .i64 p.r,.int .i64 p.c,.int .i64 p.v.k,.int .i64 p.v.n,.string p.v.s] 51)).alloc (.cells #[.int .i64 0,.int .i64 0,.int .i64 0,.int .i64 0,.int .i64 0,.int .i64 0,.string ⟨#[]⟩] 51)):=Jc (Jc (Oa5 _ _) _) _
 generalize (w.alloc (.cells #[.int .i64 p.op,.int .i64 p.l,.int .i64 p.r,.int .i64 p.c,.int .i64 p.v.k,.int .i64 p.v.n,.string p.v.s] 51)).alloc (.cells #[.int .i64 0,.int .i64 0,.int .i64 0,.int .i64 0,.int .i64 0,.int .i64 0,.string ⟨#[]⟩] 51)=cC at b0 b1 cM ⊢
 have bI:cC.cell? ⟨w.heap.size,1,none⟩=some (.int .i64 p.l):=by simp[World.cell?,b0]
 have bJ:cC.cell? ⟨w.heap.size,2,none⟩=some (.int .i64 p.r):=by simp[World.cell?,b0]
 obtain⟨_,_,_,_,cb,cc,cf⟩:=Ui b0
 have bK:cC.cell? ⟨w.heap.size,3,none⟩=some (.int .i64 p.c):=by simp[World.cell?,b0]
 have D:Hid (cC.heap[w.heap.size]?=some (.cells #[.int .i64 p.op,.int .i64 p.l,.int .i64 p.r,.int .i64 p.c,.int .i64 p.v.k,.int .i64 p.v.n,.string p.v.s] 51 (0,0))∧cC.heap[w.heap.size+1]?=some (.cells #[.int .i64 0,.int .i64 0,.int .i64 0,.int .i64 0,.int .i64 0,.int .i64 0,.string ⟨#[]⟩] 51 (0,0))∧Below w.heap.size w cC):=⟨b0,b1,cM⟩
 have dy:o<12:=by omega
 clear b0 b1 cM cN A
 go_upto_region 4 with(go_at_call 29;refine(cJ.out _ _ _ (by assumption) (by decide) (by decide)).mono ?_;rintro bi bW ⟨⟨ty,rfl,dt⟩,rfl⟩)
 have dj:Hid (ty<3):=by show _<_;omega
 have dE:ty<3:=dj.out
 clear dt dm
 have bD:=fun (cV:Int)=>Ji0 p.l cF cU T cV bW bX.out.2.2.1 (bX.out.1.below D.out.2.2) dc
 have bS:=fun (cV:Int)=>Ji0 p.r cF cU T cV bW bX.out.2.2.2.1 (bX.out.1.below D.out.2.2) dc
 have bn:w.heap.size+1<bW.heap.size:=Jd D.out.2.1
 have bH:Hid (∀ W,Calls prog 21 #[p.v.val,.int .i64 (1+(ty:Int))] W fun e w'=>(∃ u:V,e=.returned u.val∧okB (1+(ty:Int)) u.k u.n u.s=true∧Jg u.n)∧Below W.heap.size W w'):=fun W=>Jk8 p.v _ W (by omega) bX.out.2.2.2.2.1 bX.out.2.2.2.2.2
 have ca:wrap64 (1+(ty:Int))=1+(ty:Int):=by unfold wrap64;omega
 have bG:Hid (∀ u:V,okB (1+(ty:Int)) u.k u.n u.s=true→Jg u.n→Jeg sch T T.length ⟨1,0,0,1+(ty:Int),u⟩):=fun u A H=>Jtf A H ⟨by omega,by omega⟩
 have cN:o=0∨o=1∨o=2∨o=3∨o=4∨o=5∨o=6∨o=7∨o=8∨o=9∨o=10∨o=11:=by omega
 rcases cN with rfl|rfl|rfl|rfl|rfl|rfl|rfl|rfl|rfl|rfl|rfl|rfl
 ·have bD:=bD 0
  have bj:=bD.mono (R':=fun e w'=>w'=bW∧∃ x:Int,e=.returned (.int .i64 x)) (fun e w' h=>by
   obtain⟨A,⟨r,rfl,_⟩|⟨rfl,_⟩⟩:=h
   ·exact⟨A,_,rfl⟩
   exact⟨A,_,rfl⟩)
  go_upto_region 17 with(first|(go_at_call 40;refine bj.mono ?_;rintro bi y ⟨M,x,rfl⟩;subst M)|(go_at_call 29;refine(cJ.out _ _ _ (by assumption) (by omega) (by omega)).mono ?_;rintro bi y ⟨⟨bZ,rfl,dq⟩,rfl⟩))
  have cD:bZ<sch.length:=by omega
  obtain⟨cH,dg,cO,dC,cG⟩:=Kc.at (bX.out.2.1.below D.out.2.2) cD
  have dD:cH<w.heap.size:=by
   obtain⟨dG,dH,dr,ds,_⟩:=Kc.at bX.out.2.1 cD
   rw[dr]at cO
   cases cO
   exact ds
  have de:sch[bZ]=sch.getD bZ 0:=by rw[Oa0,Oa3 cD];rfl
  rw[de]at cG
  subst cO
  have cQ:(0:Int)≤(bZ:Int):=by omega
  have cS:(bZ:Int)<(sch.length:Int):=by omega
  obtain⟨st,cP⟩:∃ st,st=sch.getD bZ 0:=⟨_,rfl⟩
  rw[←cP]at cG
  have cW:Hid (st=sch.getD bZ 0∧bZ<sch.length):=⟨cP,cD⟩
  obtain⟨O,R,U,X,Z,bc,bf,bL,bM,bN,bO,bP,bQ,bR⟩:=Km D.out.2.1
  clear cP de cD dq bD bj bI bJ bK cb cc cf bH bG bS ca
  refine wp_region_held_drew (S:=fun bY=>bY.cell? ⟨cH,dg+bZ,none⟩=some (.int .i64 st)) (by kernel_rfl) (Jh cG) (fun cz=>?_)
  refine tk 0 ?_ rfl cz ?_ (tk 1 ?_ rfl cz ?_ (tk 2 ?_ rfl cz ?_ (tk 3 ?_ rfl cz ?_ (tk 4 ?_ rfl cz ?_ (tk 5 ?_ rfl cz ?_ ?_)))))
  iterate 6
   rotate_left 1
   ·intro w cK;(try dsimp only at cK);go_simp;try rfl
  simp only[Act.put,List.getElem_toArray,List.getElem_cons_zero,List.getElem_cons_succ,Oa1,List.set_cons_zero,List.set_cons_succ]
  refine wpAnyH_ready (rs:=[6]) (by kernel_rfl) (by simp) (AllReadyH.cons rfl (fun dk cZ=>?_) AllReadyH.nil)
  go_simp
  refine cZ.out _ _ ?_ (fun cz=>?_)
  ·exact Jh ((Jyp _ _ _ _ _ _ _ cH (dg+bZ) (show cH≠w.heap.size+1 by omega)).trans cG)
  clear cZ dk
  refine tk 7 ?_ rfl cz ?_ ?_
  rotate_left 1
  ·intro w cK;(try dsimp only at cK);go_simp;try rfl
  simp only[Act.put,List.getElem_toArray,List.getElem_cons_zero,List.getElem_cons_succ,Oa1,List.set_cons_zero,List.set_cons_succ]
  refine wpAnyH_done (by kernel_rfl) ?_ _
  go_wp2
  exact bodyPost_ret (v:=.tuple #[Pt.val ⟨0,0,0,(bZ:Int),Jf⟩,.int .i64 st]) (by simp[results,results26,go_sem,O,R,U,X,Z,bc,bf,Jf]) rfl ⟨Jj (Ke D.out.2.2 (by omega) _ _ _ _ _ _ _),_,by rw[cW.out.1];rfl,Jh7 cW.out.2⟩
 ·have bj:=(bD (0:Int)).mono (R':=fun e w'=>w'=bW∧∃ x:Int,e=.returned (.int .i64 x)∧Hid ((∃ r:Nat,x=(r:Int)∧r<T.length∧((0:Int)=0∨T.getD r 0=(0:Int)))∨x=-1)) (fun e w' h=>by
   obtain⟨A,⟨r,rfl,H,z⟩|⟨rfl,_⟩⟩:=h
   ·exact⟨A,_,rfl,.inl ⟨r,rfl,H,z⟩⟩
   ·exact⟨A,_,rfl,.inr rfl⟩)
  clear bD
  go_upto_region 18 with(go_at_call 40;refine bj.mono ?_;rintro bi y ⟨M,x,rfl,br⟩;subst M)
  clear bI bJ bK
  go_wp2_with (go_at_call 21;refine(bH.out _).mono ?_;rintro bi ch ⟨⟨u,rfl,bT,bU⟩,bl⟩;obtain⟨O,R,U,X,Z,bc,bf,bL,bM,bN,bO,bP,bQ,bR⟩:=Km ((bl.block _ bn).trans D.out.2.1))
  exact bodyPost_ret (v:=.tuple #[Pt.val ⟨1,0,0,1+(ty:Int),u⟩,.int .i64 (1+(ty:Int))]) (by simp[results,results26,go_sem,O,R,U,X,Z,bc,bf]) rfl ⟨Ke (Jb D.out.2.2 bl) (by omega) _ _ _ _ _ _ _,_,rfl,bG.out u bT bU⟩
 ·have bj:=(bD (1:Int)).mono (R':=fun e w'=>w'=bW∧∃ x:Int,e=.returned (.int .i64 x)∧Hid ((∃ r:Nat,x=(r:Int)∧r<T.length∧((1:Int)=0∨T.getD r 0=(1:Int)))∨x=-1)) (fun e w' h=>by
   obtain⟨A,⟨r,rfl,H,z⟩|⟨rfl,_⟩⟩:=h
   ·exact⟨A,_,rfl,.inl ⟨r,rfl,H,z⟩⟩
   ·exact⟨A,_,rfl,.inr rfl⟩)
  clear bD
  go_upto_region 18 with(go_at_call 40;refine bj.mono ?_;rintro bi y ⟨M,x,rfl,br⟩;subst M)
  rcases br.out with⟨l,rfl,K,bE⟩|rfl
  ·have cj:¬ ((l:Int)<0):=by omega
   have bu:Hid (l<T.length∧((1:Int)=0∨T.getD l 0=(1:Int))):=⟨K,bE⟩
   have C:T.getD l 0=1:=by omega
   have ci:Hid (T.getD l 0=1):=C
   have bB:=(bS (1:Int)).mono (R':=fun e w'=>w'=y∧∃ r:Nat,e=.returned (.int .i64 (r:Int))∧Hid (r<T.length∧T.getD r 0=T.getD l 0)) (fun e w' h=>by
    obtain⟨A,⟨r,rfl,H,z⟩|⟨rfl,z⟩⟩:=h
    ·refine⟨A,_,rfl,H,?_⟩
     rw[C];exact z.resolve_left (by omega)
    exact absurd (.inr C) (z l K))
   clear K bE C bS br bj
   go_upto_region 23 with(go_at_call 40;refine bB.mono ?_;rintro bi y ⟨M,r,rfl,bz⟩;subst M)
   clear bB bI bJ bK cb cc cf bH bG ca
   go_upto_region 24 with fail
   have E:=heap_alloc_new y (.cells #[.int .i64 2,.int .i64 (l:Int),.int .i64 (r:Int),.int .i64 0,.int .i64 0,.int .i64 0,.string ⟨#[]⟩] 51)
   have bh:=(Oa9 y (.cells #[.int .i64 2,.int .i64 (l:Int),.int .i64 (r:Int),.int .i64 0,.int .i64 0,.int .i64 0,.string ⟨#[]⟩] 51) _ bn).trans D.out.2.1
   have bx:Hid (Below w.heap.size w (y.alloc (.cells #[.int .i64 2,.int .i64 (l:Int),.int .i64 (r:Int),.int .i64 0,.int .i64 0,.int .i64 0,.string ⟨#[]⟩] 51))):=Jc D.out.2.2 _
   obtain⟨bC,bA⟩:∃ bC,bC=y.heap.size:=⟨_,rfl⟩
   rw[←bA]at E ⊢
   generalize y.alloc (.cells #[.int .i64 2,.int .i64 (l:Int),.int .i64 (r:Int),.int .i64 0,.int .i64 0,.int .i64 0,.string ⟨#[]⟩] 51)=bY at E bh bx ⊢
   obtain⟨cl,cn,cr,cu,cv,cx,cy⟩:=Ui E
   obtain⟨O,R,U,X,Z,bc,bf,bL,bM,bN,bO,bP,bQ,bR⟩:=Km bh
   clear bA E bh bn
   go_wp2
   exact bodyPost_ret (v:=.tuple #[Pt.val ⟨2,(l:Int),(r:Int),0,Jf⟩,.int .i64 1]) (by simp[results,results26,go_sem,O,R,U,X,Z,bc,bf,Jf]) rfl ⟨Ke bx.out (by omega) _ _ _ _ _ _ _,_,rfl,Zs (o:=2) (by omega) (by omega) bu.out.1 bz.out.1 (by first|exact .inl rfl|exact .inr (bu.out.2.resolve_left (by omega))) bz.out.2⟩
  clear bI bJ bK
  go_wp2_with (go_at_call 21;refine(bH.out _).mono ?_;rintro bi ch ⟨⟨u,rfl,bT,bU⟩,bl⟩;obtain⟨O,R,U,X,Z,bc,bf,bL,bM,bN,bO,bP,bQ,bR⟩:=Km ((bl.block _ bn).trans D.out.2.1))
  exact bodyPost_ret (v:=.tuple #[Pt.val ⟨1,0,0,1+(ty:Int),u⟩,.int .i64 (1+(ty:Int))]) (by simp[results,results26,go_sem,O,R,U,X,Z,bc,bf]) rfl ⟨Ke (Jb D.out.2.2 bl) (by omega) _ _ _ _ _ _ _,_,rfl,bG.out u bT bU⟩
 ·have bj:=(bD (1:Int)).mono (R':=fun e w'=>w'=bW∧∃ x:Int,e=.returned (.int .i64 x)∧Hid ((∃ r:Nat,x=(r:Int)∧r<T.length∧((1:Int)=0∨T.getD r 0=(1:Int)))∨x=-1)) (fun e w' h=>by
   obtain⟨A,⟨r,rfl,H,z⟩|⟨rfl,_⟩⟩:=h
   ·exact⟨A,_,rfl,.inl ⟨r,rfl,H,z⟩⟩
   ·exact⟨A,_,rfl,.inr rfl⟩)
  clear bD
  go_upto_region 18 with(go_at_call 40;refine bj.mono ?_;rintro bi y ⟨M,x,rfl,br⟩;subst M)
  rcases br.out with⟨l,rfl,K,bE⟩|rfl
  ·have cj:¬ ((l:Int)<0):=by omega
   have bu:Hid (l<T.length∧((1:Int)=0∨T.getD l 0=(1:Int))):=⟨K,bE⟩
   have C:T.getD l 0=1:=by omega
   have ci:Hid (T.getD l 0=1):=C
   have bB:=(bS (1:Int)).mono (R':=fun e w'=>w'=y∧∃ r:Nat,e=.returned (.int .i64 (r:Int))∧Hid (r<T.length∧T.getD r 0=T.getD l 0)) (fun e w' h=>by
    obtain⟨A,⟨r,rfl,H,z⟩|⟨rfl,z⟩⟩:=h
    ·refine⟨A,_,rfl,H,?_⟩
     rw[C];exact z.resolve_left (by omega)
    exact absurd (.inr C) (z l K))
   clear K bE C bS br bj
   go_upto_region 23 with(go_at_call 40;refine bB.mono ?_;rintro bi y ⟨M,r,rfl,bz⟩;subst M)
   clear bB bI bJ bK cb cc cf bH bG ca
   go_upto_region 24 with fail
   have E:=heap_alloc_new y (.cells #[.int .i64 3,.int .i64 (l:Int),.int .i64 (r:Int),.int .i64 0,.int .i64 0,.int .i64 0,.string ⟨#[]⟩] 51)
   have bh:=(Oa9 y (.cells #[.int .i64 3,.int .i64 (l:Int),.int .i64 (r:Int),.int .i64 0,.int .i64 0,.int .i64 0,.string ⟨#[]⟩] 51) _ bn).trans D.out.2.1
   have bx:Hid (Below w.heap.size w (y.alloc (.cells #[.int .i64 3,.int .i64 (l:Int),.int .i64 (r:Int),.int .i64 0,.int .i64 0,.int .i64 0,.string ⟨#[]⟩] 51))):=Jc D.out.2.2 _
   obtain⟨bC,bA⟩:∃ bC,bC=y.heap.size:=⟨_,rfl⟩
   rw[←bA]at E ⊢
   generalize y.alloc (.cells #[.int .i64 3,.int .i64 (l:Int),.int .i64 (r:Int),.int .i64 0,.int .i64 0,.int .i64 0,.string ⟨#[]⟩] 51)=bY at E bh bx ⊢
   obtain⟨cl,cn,cr,cu,cv,cx,cy⟩:=Ui E
   obtain⟨O,R,U,X,Z,bc,bf,bL,bM,bN,bO,bP,bQ,bR⟩:=Km bh
   clear bA E bh bn
   go_wp2
   exact bodyPost_ret (v:=.tuple #[Pt.val ⟨3,(l:Int),(r:Int),0,Jf⟩,.int .i64 1]) (by simp[results,results26,go_sem,O,R,U,X,Z,bc,bf,Jf]) rfl ⟨Ke bx.out (by omega) _ _ _ _ _ _ _,_,rfl,Zs (o:=3) (by omega) (by omega) bu.out.1 bz.out.1 (by first|exact .inl rfl|exact .inr (bu.out.2.resolve_left (by omega))) bz.out.2⟩
  clear bI bJ bK
  go_wp2_with (go_at_call 21;refine(bH.out _).mono ?_;rintro bi ch ⟨⟨u,rfl,bT,bU⟩,bl⟩;obtain⟨O,R,U,X,Z,bc,bf,bL,bM,bN,bO,bP,bQ,bR⟩:=Km ((bl.block _ bn).trans D.out.2.1))
  exact bodyPost_ret (v:=.tuple #[Pt.val ⟨1,0,0,1+(ty:Int),u⟩,.int .i64 (1+(ty:Int))]) (by simp[results,results26,go_sem,O,R,U,X,Z,bc,bf]) rfl ⟨Ke (Jb D.out.2.2 bl) (by omega) _ _ _ _ _ _ _,_,rfl,bG.out u bT bU⟩
 ·have bj:=(bD (1:Int)).mono (R':=fun e w'=>w'=bW∧∃ x:Int,e=.returned (.int .i64 x)∧Hid ((∃ r:Nat,x=(r:Int)∧r<T.length∧((1:Int)=0∨T.getD r 0=(1:Int)))∨x=-1)) (fun e w' h=>by
   obtain⟨A,⟨r,rfl,H,z⟩|⟨rfl,_⟩⟩:=h
   ·exact⟨A,_,rfl,.inl ⟨r,rfl,H,z⟩⟩
   ·exact⟨A,_,rfl,.inr rfl⟩)
  clear bD
  go_upto_region 18 with(go_at_call 40;refine bj.mono ?_;rintro bi y ⟨M,x,rfl,br⟩;subst M)
  rcases br.out with⟨l,rfl,K,bE⟩|rfl
  ·have cj:¬ ((l:Int)<0):=by omega
   have bu:Hid (l<T.length∧((1:Int)=0∨T.getD l 0=(1:Int))):=⟨K,bE⟩
   have C:T.getD l 0=1:=by omega
   have ci:Hid (T.getD l 0=1):=C
   have bB:=(bS (1:Int)).mono (R':=fun e w'=>w'=y∧∃ r:Nat,e=.returned (.int .i64 (r:Int))∧Hid (r<T.length∧T.getD r 0=T.getD l 0)) (fun e w' h=>by
    obtain⟨A,⟨r,rfl,H,z⟩|⟨rfl,z⟩⟩:=h
    ·refine⟨A,_,rfl,H,?_⟩
     rw[C];exact z.resolve_left (by omega)
    exact absurd (.inr C) (z l K))
   clear K bE C bS br bj
   go_upto_region 23 with(go_at_call 40;refine bB.mono ?_;rintro bi y ⟨M,r,rfl,bz⟩;subst M)
   clear bB bI bJ bK cb cc cf bH bG ca
   go_upto_region 24 with fail
   have E:=heap_alloc_new y (.cells #[.int .i64 4,.int .i64 (l:Int),.int .i64 (r:Int),.int .i64 0,.int .i64 0,.int .i64 0,.string ⟨#[]⟩] 51)
   have bh:=(Oa9 y (.cells #[.int .i64 4,.int .i64 (l:Int),.int .i64 (r:Int),.int .i64 0,.int .i64 0,.int .i64 0,.string ⟨#[]⟩] 51) _ bn).trans D.out.2.1
   have bx:Hid (Below w.heap.size w (y.alloc (.cells #[.int .i64 4,.int .i64 (l:Int),.int .i64 (r:Int),.int .i64 0,.int .i64 0,.int .i64 0,.string ⟨#[]⟩] 51))):=Jc D.out.2.2 _
   obtain⟨bC,bA⟩:∃ bC,bC=y.heap.size:=⟨_,rfl⟩
   rw[←bA]at E ⊢
   generalize y.alloc (.cells #[.int .i64 4,.int .i64 (l:Int),.int .i64 (r:Int),.int .i64 0,.int .i64 0,.int .i64 0,.string ⟨#[]⟩] 51)=bY at E bh bx ⊢
   obtain⟨cl,cn,cr,cu,cv,cx,cy⟩:=Ui E
   obtain⟨O,R,U,X,Z,bc,bf,bL,bM,bN,bO,bP,bQ,bR⟩:=Km bh
   clear bA E bh bn
   go_wp2
   exact bodyPost_ret (v:=.tuple #[Pt.val ⟨4,(l:Int),(r:Int),0,Jf⟩,.int .i64 1]) (by simp[results,results26,go_sem,O,R,U,X,Z,bc,bf,Jf]) rfl ⟨Ke bx.out (by omega) _ _ _ _ _ _ _,_,rfl,Zs (o:=4) (by omega) (by omega) bu.out.1 bz.out.1 (by first|exact .inl rfl|exact .inr (bu.out.2.resolve_left (by omega))) bz.out.2⟩
  clear bI bJ bK
  go_wp2_with (go_at_call 21;refine(bH.out _).mono ?_;rintro bi ch ⟨⟨u,rfl,bT,bU⟩,bl⟩;obtain⟨O,R,U,X,Z,bc,bf,bL,bM,bN,bO,bP,bQ,bR⟩:=Km ((bl.block _ bn).trans D.out.2.1))
  exact bodyPost_ret (v:=.tuple #[Pt.val ⟨1,0,0,1+(ty:Int),u⟩,.int .i64 (1+(ty:Int))]) (by simp[results,results26,go_sem,O,R,U,X,Z,bc,bf]) rfl ⟨Ke (Jb D.out.2.2 bl) (by omega) _ _ _ _ _ _ _,_,rfl,bG.out u bT bU⟩
 ·have bj:=(bD (1:Int)).mono (R':=fun e w'=>w'=bW∧∃ x:Int,e=.returned (.int .i64 x)∧Hid ((∃ r:Nat,x=(r:Int)∧r<T.length∧((1:Int)=0∨T.getD r 0=(1:Int)))∨x=-1)) (fun e w' h=>by
   obtain⟨A,⟨r,rfl,H,z⟩|⟨rfl,_⟩⟩:=h
   ·exact⟨A,_,rfl,.inl ⟨r,rfl,H,z⟩⟩
   ·exact⟨A,_,rfl,.inr rfl⟩)
  clear bD
  go_upto_region 18 with(go_at_call 40;refine bj.mono ?_;rintro bi y ⟨M,x,rfl,br⟩;subst M)
  rcases br.out with⟨l,rfl,K,bE⟩|rfl
  ·have cj:¬ ((l:Int)<0):=by omega
   have bu:Hid (l<T.length∧((1:Int)=0∨T.getD l 0=(1:Int))):=⟨K,bE⟩
   have C:T.getD l 0=1:=by omega
   have ci:Hid (T.getD l 0=1):=C
   have bB:=(bS (1:Int)).mono (R':=fun e w'=>w'=y∧∃ r:Nat,e=.returned (.int .i64 (r:Int))∧Hid (r<T.length∧T.getD r 0=T.getD l 0)) (fun e w' h=>by
    obtain⟨A,⟨r,rfl,H,z⟩|⟨rfl,z⟩⟩:=h
    ·refine⟨A,_,rfl,H,?_⟩
     rw[C];exact z.resolve_left (by omega)
    exact absurd (.inr C) (z l K))
   clear K bE C bS br bj
   go_upto_region 23 with(go_at_call 40;refine bB.mono ?_;rintro bi y ⟨M,r,rfl,bz⟩;subst M)
   clear bB bI bJ bK cb cc cf bH bG ca
   go_upto_region 24 with fail
   have E:=heap_alloc_new y (.cells #[.int .i64 5,.int .i64 (l:Int),.int .i64 (r:Int),.int .i64 0,.int .i64 0,.int .i64 0,.string ⟨#[]⟩] 51)
   have bh:=(Oa9 y (.cells #[.int .i64 5,.int .i64 (l:Int),.int .i64 (r:Int),.int .i64 0,.int .i64 0,.int .i64 0,.string ⟨#[]⟩] 51) _ bn).trans D.out.2.1
   have bx:Hid (Below w.heap.size w (y.alloc (.cells #[.int .i64 5,.int .i64 (l:Int),.int .i64 (r:Int),.int .i64 0,.int .i64 0,.int .i64 0,.string ⟨#[]⟩] 51))):=Jc D.out.2.2 _
   obtain⟨bC,bA⟩:∃ bC,bC=y.heap.size:=⟨_,rfl⟩
   rw[←bA]at E ⊢
   generalize y.alloc (.cells #[.int .i64 5,.int .i64 (l:Int),.int .i64 (r:Int),.int .i64 0,.int .i64 0,.int .i64 0,.string ⟨#[]⟩] 51)=bY at E bh bx ⊢
   obtain⟨cl,cn,cr,cu,cv,cx,cy⟩:=Ui E
   obtain⟨O,R,U,X,Z,bc,bf,bL,bM,bN,bO,bP,bQ,bR⟩:=Km bh
   clear bA E bh bn
   go_wp2
   exact bodyPost_ret (v:=.tuple #[Pt.val ⟨5,(l:Int),(r:Int),0,Jf⟩,.int .i64 1]) (by simp[results,results26,go_sem,O,R,U,X,Z,bc,bf,Jf]) rfl ⟨Ke bx.out (by omega) _ _ _ _ _ _ _,_,rfl,Zs (o:=5) (by omega) (by omega) bu.out.1 bz.out.1 (by first|exact .inl rfl|exact .inr (bu.out.2.resolve_left (by omega))) bz.out.2⟩
  clear bI bJ bK
  go_wp2_with (go_at_call 21;refine(bH.out _).mono ?_;rintro bi ch ⟨⟨u,rfl,bT,bU⟩,bl⟩;obtain⟨O,R,U,X,Z,bc,bf,bL,bM,bN,bO,bP,bQ,bR⟩:=Km ((bl.block _ bn).trans D.out.2.1))
  exact bodyPost_ret (v:=.tuple #[Pt.val ⟨1,0,0,1+(ty:Int),u⟩,.int .i64 (1+(ty:Int))]) (by simp[results,results26,go_sem,O,R,U,X,Z,bc,bf]) rfl ⟨Ke (Jb D.out.2.2 bl) (by omega) _ _ _ _ _ _ _,_,rfl,bG.out u bT bU⟩
 ·have bj:=(bD (0:Int)).mono (R':=fun e w'=>w'=bW∧∃ x:Int,e=.returned (.int .i64 x)∧Hid ((∃ r:Nat,x=(r:Int)∧r<T.length∧((0:Int)=0∨T.getD r 0=(0:Int)))∨x=-1)) (fun e w' h=>by
   obtain⟨A,⟨r,rfl,H,z⟩|⟨rfl,_⟩⟩:=h
   ·exact⟨A,_,rfl,.inl ⟨r,rfl,H,z⟩⟩
   ·exact⟨A,_,rfl,.inr rfl⟩)
  clear bD
  go_upto_region 18 with(go_at_call 40;refine bj.mono ?_;rintro bi y ⟨M,x,rfl,br⟩;subst M)
  rcases br.out with⟨l,rfl,K,bE⟩|rfl
  ·have cj:¬ ((l:Int)<0):=by omega
   have bu:Hid (l<T.length∧((0:Int)=0∨T.getD l 0=(0:Int))):=⟨K,.inl rfl⟩
   obtain⟨dh,di,cE,df,cA⟩:=Kc.at (bX.out.1.below D.out.2.2) K
   have cB:T[l]=T.getD l 0:=by rw[Oa0,Oa3 K];rfl
   rw[cB]at cA
   subst cE
   have cQ:(0:Int)≤(l:Int):=by omega
   have cS:(l:Int)<(T.length:Int):=by omega
   obtain⟨bV,C⟩:∃ bV,bV=T.getD l 0:=⟨_,rfl⟩
   rw[←C]at cA
   have ci:Hid (bV=T.getD l 0):=C
   clear cB
   have bB:=(bS bV).mono (R':=fun e w'=>w'=y∧∃ r:Nat,e=.returned (.int .i64 (r:Int))∧Hid (r<T.length∧T.getD r 0=T.getD l 0)) (fun e w' h=>by
    obtain⟨A,⟨r,rfl,H,z⟩|⟨rfl,z⟩⟩:=h
    ·refine⟨A,_,rfl,H,?_⟩
     rcases z with z|z
     ·exact absurd z (cI.out l bV K C)
     rw[z,C]
    exact absurd (.inr C.symm) (z l K))
   clear K bE C bS br bj
   go_upto_region 23 with(go_at_call 40;refine bB.mono ?_;rintro bi y ⟨M,r,rfl,bz⟩;subst M)
   clear bB bI bJ bK cb cc cf bH bG ca
   go_upto_region 24 with fail
   have E:=heap_alloc_new y (.cells #[.int .i64 6,.int .i64 (l:Int),.int .i64 (r:Int),.int .i64 0,.int .i64 0,.int .i64 0,.string ⟨#[]⟩] 51)
   have bh:=(Oa9 y (.cells #[.int .i64 6,.int .i64 (l:Int),.int .i64 (r:Int),.int .i64 0,.int .i64 0,.int .i64 0,.string ⟨#[]⟩] 51) _ bn).trans D.out.2.1
   have bx:Hid (Below w.heap.size w (y.alloc (.cells #[.int .i64 6,.int .i64 (l:Int),.int .i64 (r:Int),.int .i64 0,.int .i64 0,.int .i64 0,.string ⟨#[]⟩] 51))):=Jc D.out.2.2 _
   obtain⟨bC,bA⟩:∃ bC,bC=y.heap.size:=⟨_,rfl⟩
   rw[←bA]at E ⊢
   generalize y.alloc (.cells #[.int .i64 6,.int .i64 (l:Int),.int .i64 (r:Int),.int .i64 0,.int .i64 0,.int .i64 0,.string ⟨#[]⟩] 51)=bY at E bh bx ⊢
   obtain⟨cl,cn,cr,cu,cv,cx,cy⟩:=Ui E
   obtain⟨O,R,U,X,Z,bc,bf,bL,bM,bN,bO,bP,bQ,bR⟩:=Km bh
   clear bA E bh bn
   go_wp2
   exact bodyPost_ret (v:=.tuple #[Pt.val ⟨6,(l:Int),(r:Int),0,Jf⟩,.int .i64 2]) (by simp[results,results26,go_sem,O,R,U,X,Z,bc,bf,Jf]) rfl ⟨Ke bx.out (by omega) _ _ _ _ _ _ _,_,rfl,Zs (o:=6) (by omega) (by omega) bu.out.1 bz.out.1 (by first|exact .inl rfl|exact .inr (bu.out.2.resolve_left (by omega))) bz.out.2⟩
  clear bI bJ bK
  go_wp2_with (go_at_call 21;refine(bH.out _).mono ?_;rintro bi ch ⟨⟨u,rfl,bT,bU⟩,bl⟩;obtain⟨O,R,U,X,Z,bc,bf,bL,bM,bN,bO,bP,bQ,bR⟩:=Km ((bl.block _ bn).trans D.out.2.1))
  exact bodyPost_ret (v:=.tuple #[Pt.val ⟨1,0,0,1+(ty:Int),u⟩,.int .i64 (1+(ty:Int))]) (by simp[results,results26,go_sem,O,R,U,X,Z,bc,bf]) rfl ⟨Ke (Jb D.out.2.2 bl) (by omega) _ _ _ _ _ _ _,_,rfl,bG.out u bT bU⟩
 ·have bj:=(bD (0:Int)).mono (R':=fun e w'=>w'=bW∧∃ x:Int,e=.returned (.int .i64 x)∧Hid ((∃ r:Nat,x=(r:Int)∧r<T.length∧((0:Int)=0∨T.getD r 0=(0:Int)))∨x=-1)) (fun e w' h=>by
   obtain⟨A,⟨r,rfl,H,z⟩|⟨rfl,_⟩⟩:=h
   ·exact⟨A,_,rfl,.inl ⟨r,rfl,H,z⟩⟩
   ·exact⟨A,_,rfl,.inr rfl⟩)
  clear bD
  go_upto_region 18 with(go_at_call 40;refine bj.mono ?_;rintro bi y ⟨M,x,rfl,br⟩;subst M)
  rcases br.out with⟨l,rfl,K,bE⟩|rfl
  ·have cj:¬ ((l:Int)<0):=by omega
   have bu:Hid (l<T.length∧((0:Int)=0∨T.getD l 0=(0:Int))):=⟨K,.inl rfl⟩
   obtain⟨dh,di,cE,df,cA⟩:=Kc.at (bX.out.1.below D.out.2.2) K
   have cB:T[l]=T.getD l 0:=by rw[Oa0,Oa3 K];rfl
   rw[cB]at cA
   subst cE
   have cQ:(0:Int)≤(l:Int):=by omega
   have cS:(l:Int)<(T.length:Int):=by omega
   obtain⟨bV,C⟩:∃ bV,bV=T.getD l 0:=⟨_,rfl⟩
   rw[←C]at cA
   have ci:Hid (bV=T.getD l 0):=C
   clear cB
   have bB:=(bS bV).mono (R':=fun e w'=>w'=y∧∃ r:Nat,e=.returned (.int .i64 (r:Int))∧Hid (r<T.length∧T.getD r 0=T.getD l 0)) (fun e w' h=>by
    obtain⟨A,⟨r,rfl,H,z⟩|⟨rfl,z⟩⟩:=h
    ·refine⟨A,_,rfl,H,?_⟩
     rcases z with z|z
     ·exact absurd z (cI.out l bV K C)
     rw[z,C]
    exact absurd (.inr C.symm) (z l K))
   clear K bE C bS br bj
   go_upto_region 23 with(go_at_call 40;refine bB.mono ?_;rintro bi y ⟨M,r,rfl,bz⟩;subst M)
   clear bB bI bJ bK cb cc cf bH bG ca
   go_upto_region 24 with fail
   have E:=heap_alloc_new y (.cells #[.int .i64 7,.int .i64 (l:Int),.int .i64 (r:Int),.int .i64 0,.int .i64 0,.int .i64 0,.string ⟨#[]⟩] 51)
   have bh:=(Oa9 y (.cells #[.int .i64 7,.int .i64 (l:Int),.int .i64 (r:Int),.int .i64 0,.int .i64 0,.int .i64 0,.string ⟨#[]⟩] 51) _ bn).trans D.out.2.1
   have bx:Hid (Below w.heap.size w (y.alloc (.cells #[.int .i64 7,.int .i64 (l:Int),.int .i64 (r:Int),.int .i64 0,.int .i64 0,.int .i64 0,.string ⟨#[]⟩] 51))):=Jc D.out.2.2 _
   obtain⟨bC,bA⟩:∃ bC,bC=y.heap.size:=⟨_,rfl⟩
   rw[←bA]at E ⊢
   generalize y.alloc (.cells #[.int .i64 7,.int .i64 (l:Int),.int .i64 (r:Int),.int .i64 0,.int .i64 0,.int .i64 0,.string ⟨#[]⟩] 51)=bY at E bh bx ⊢
   obtain⟨cl,cn,cr,cu,cv,cx,cy⟩:=Ui E
   obtain⟨O,R,U,X,Z,bc,bf,bL,bM,bN,bO,bP,bQ,bR⟩:=Km bh
   clear bA E bh bn
   go_wp2
   exact bodyPost_ret (v:=.tuple #[Pt.val ⟨7,(l:Int),(r:Int),0,Jf⟩,.int .i64 2]) (by simp[results,results26,go_sem,O,R,U,X,Z,bc,bf,Jf]) rfl ⟨Ke bx.out (by omega) _ _ _ _ _ _ _,_,rfl,Zs (o:=7) (by omega) (by omega) bu.out.1 bz.out.1 (by first|exact .inl rfl|exact .inr (bu.out.2.resolve_left (by omega))) bz.out.2⟩
  clear bI bJ bK
  go_wp2_with (go_at_call 21;refine(bH.out _).mono ?_;rintro bi ch ⟨⟨u,rfl,bT,bU⟩,bl⟩;obtain⟨O,R,U,X,Z,bc,bf,bL,bM,bN,bO,bP,bQ,bR⟩:=Km ((bl.block _ bn).trans D.out.2.1))
  exact bodyPost_ret (v:=.tuple #[Pt.val ⟨1,0,0,1+(ty:Int),u⟩,.int .i64 (1+(ty:Int))]) (by simp[results,results26,go_sem,O,R,U,X,Z,bc,bf]) rfl ⟨Ke (Jb D.out.2.2 bl) (by omega) _ _ _ _ _ _ _,_,rfl,bG.out u bT bU⟩
 ·have bj:=(bD (2:Int)).mono (R':=fun e w'=>w'=bW∧∃ x:Int,e=.returned (.int .i64 x)∧Hid ((∃ r:Nat,x=(r:Int)∧r<T.length∧((2:Int)=0∨T.getD r 0=(2:Int)))∨x=-1)) (fun e w' h=>by
   obtain⟨A,⟨r,rfl,H,z⟩|⟨rfl,_⟩⟩:=h
   ·exact⟨A,_,rfl,.inl ⟨r,rfl,H,z⟩⟩
   ·exact⟨A,_,rfl,.inr rfl⟩)
  clear bD
  go_upto_region 18 with(go_at_call 40;refine bj.mono ?_;rintro bi y ⟨M,x,rfl,br⟩;subst M)
  rcases br.out with⟨l,rfl,K,bE⟩|rfl
  ·have cj:¬ ((l:Int)<0):=by omega
   have bu:Hid (l<T.length∧((2:Int)=0∨T.getD l 0=(2:Int))):=⟨K,bE⟩
   have C:T.getD l 0=2:=by omega
   have ci:Hid (T.getD l 0=2):=C
   have bB:=(bS (2:Int)).mono (R':=fun e w'=>w'=y∧∃ r:Nat,e=.returned (.int .i64 (r:Int))∧Hid (r<T.length∧T.getD r 0=T.getD l 0)) (fun e w' h=>by
    obtain⟨A,⟨r,rfl,H,z⟩|⟨rfl,z⟩⟩:=h
    ·refine⟨A,_,rfl,H,?_⟩
     rw[C];exact z.resolve_left (by omega)
    exact absurd (.inr C) (z l K))
   clear K bE C bS br bj
   go_upto_region 23 with(go_at_call 40;refine bB.mono ?_;rintro bi y ⟨M,r,rfl,bz⟩;subst M)
   clear bB bI bJ bK cb cc cf bH bG ca
   go_upto_region 24 with fail
   have E:=heap_alloc_new y (.cells #[.int .i64 8,.int .i64 (l:Int),.int .i64 (r:Int),.int .i64 0,.int .i64 0,.int .i64 0,.string ⟨#[]⟩] 51)
   have bh:=(Oa9 y (.cells #[.int .i64 8,.int .i64 (l:Int),.int .i64 (r:Int),.int .i64 0,.int .i64 0,.int .i64 0,.string ⟨#[]⟩] 51) _ bn).trans D.out.2.1
   have bx:Hid (Below w.heap.size w (y.alloc (.cells #[.int .i64 8,.int .i64 (l:Int),.int .i64 (r:Int),.int .i64 0,.int .i64 0,.int .i64 0,.string ⟨#[]⟩] 51))):=Jc D.out.2.2 _
   obtain⟨bC,bA⟩:∃ bC,bC=y.heap.size:=⟨_,rfl⟩
   rw[←bA]at E ⊢
   generalize y.alloc (.cells #[.int .i64 8,.int .i64 (l:Int),.int .i64 (r:Int),.int .i64 0,.int .i64 0,.int .i64 0,.string ⟨#[]⟩] 51)=bY at E bh bx ⊢
   obtain⟨cl,cn,cr,cu,cv,cx,cy⟩:=Ui E
   obtain⟨O,R,U,X,Z,bc,bf,bL,bM,bN,bO,bP,bQ,bR⟩:=Km bh
   clear bA E bh bn
   go_wp2
   exact bodyPost_ret (v:=.tuple #[Pt.val ⟨8,(l:Int),(r:Int),0,Jf⟩,.int .i64 2]) (by simp[results,results26,go_sem,O,R,U,X,Z,bc,bf,Jf]) rfl ⟨Ke bx.out (by omega) _ _ _ _ _ _ _,_,rfl,Zs (o:=8) (by omega) (by omega) bu.out.1 bz.out.1 (by first|exact .inl rfl|exact .inr (bu.out.2.resolve_left (by omega))) bz.out.2⟩
  clear bI bJ bK
  go_wp2_with (go_at_call 21;refine(bH.out _).mono ?_;rintro bi ch ⟨⟨u,rfl,bT,bU⟩,bl⟩;obtain⟨O,R,U,X,Z,bc,bf,bL,bM,bN,bO,bP,bQ,bR⟩:=Km ((bl.block _ bn).trans D.out.2.1))
  exact bodyPost_ret (v:=.tuple #[Pt.val ⟨1,0,0,1+(ty:Int),u⟩,.int .i64 (1+(ty:Int))]) (by simp[results,results26,go_sem,O,R,U,X,Z,bc,bf]) rfl ⟨Ke (Jb D.out.2.2 bl) (by omega) _ _ _ _ _ _ _,_,rfl,bG.out u bT bU⟩
 ·have bj:=(bD (2:Int)).mono (R':=fun e w'=>w'=bW∧∃ x:Int,e=.returned (.int .i64 x)∧Hid ((∃ r:Nat,x=(r:Int)∧r<T.length∧((2:Int)=0∨T.getD r 0=(2:Int)))∨x=-1)) (fun e w' h=>by
   obtain⟨A,⟨r,rfl,H,z⟩|⟨rfl,_⟩⟩:=h
   ·exact⟨A,_,rfl,.inl ⟨r,rfl,H,z⟩⟩
   ·exact⟨A,_,rfl,.inr rfl⟩)
  clear bD
  go_upto_region 18 with(go_at_call 40;refine bj.mono ?_;rintro bi y ⟨M,x,rfl,br⟩;subst M)
  rcases br.out with⟨l,rfl,K,bE⟩|rfl
  ·have cj:¬ ((l:Int)<0):=by omega
   have bu:Hid (l<T.length∧((2:Int)=0∨T.getD l 0=(2:Int))):=⟨K,bE⟩
   have C:T.getD l 0=2:=by omega
   have ci:Hid (T.getD l 0=2):=C
   have bB:=(bS (2:Int)).mono (R':=fun e w'=>w'=y∧∃ r:Nat,e=.returned (.int .i64 (r:Int))∧Hid (r<T.length∧T.getD r 0=T.getD l 0)) (fun e w' h=>by
    obtain⟨A,⟨r,rfl,H,z⟩|⟨rfl,z⟩⟩:=h
    ·refine⟨A,_,rfl,H,?_⟩
     rw[C];exact z.resolve_left (by omega)
    exact absurd (.inr C) (z l K))
   clear K bE C bS br bj
   go_upto_region 23 with(go_at_call 40;refine bB.mono ?_;rintro bi y ⟨M,r,rfl,bz⟩;subst M)
   clear bB bI bJ bK cb cc cf bH bG ca
   go_upto_region 24 with fail
   have E:=heap_alloc_new y (.cells #[.int .i64 9,.int .i64 (l:Int),.int .i64 (r:Int),.int .i64 0,.int .i64 0,.int .i64 0,.string ⟨#[]⟩] 51)
   have bh:=(Oa9 y (.cells #[.int .i64 9,.int .i64 (l:Int),.int .i64 (r:Int),.int .i64 0,.int .i64 0,.int .i64 0,.string ⟨#[]⟩] 51) _ bn).trans D.out.2.1
   have bx:Hid (Below w.heap.size w (y.alloc (.cells #[.int .i64 9,.int .i64 (l:Int),.int .i64 (r:Int),.int .i64 0,.int .i64 0,.int .i64 0,.string ⟨#[]⟩] 51))):=Jc D.out.2.2 _
   obtain⟨bC,bA⟩:∃ bC,bC=y.heap.size:=⟨_,rfl⟩
   rw[←bA]at E ⊢
   generalize y.alloc (.cells #[.int .i64 9,.int .i64 (l:Int),.int .i64 (r:Int),.int .i64 0,.int .i64 0,.int .i64 0,.string ⟨#[]⟩] 51)=bY at E bh bx ⊢
   obtain⟨cl,cn,cr,cu,cv,cx,cy⟩:=Ui E
   obtain⟨O,R,U,X,Z,bc,bf,bL,bM,bN,bO,bP,bQ,bR⟩:=Km bh
   clear bA E bh bn
   go_wp2
   exact bodyPost_ret (v:=.tuple #[Pt.val ⟨9,(l:Int),(r:Int),0,Jf⟩,.int .i64 2]) (by simp[results,results26,go_sem,O,R,U,X,Z,bc,bf,Jf]) rfl ⟨Ke bx.out (by omega) _ _ _ _ _ _ _,_,rfl,Zs (o:=9) (by omega) (by omega) bu.out.1 bz.out.1 (by first|exact .inl rfl|exact .inr (bu.out.2.resolve_left (by omega))) bz.out.2⟩
  clear bI bJ bK
  go_wp2_with (go_at_call 21;refine(bH.out _).mono ?_;rintro bi ch ⟨⟨u,rfl,bT,bU⟩,bl⟩;obtain⟨O,R,U,X,Z,bc,bf,bL,bM,bN,bO,bP,bQ,bR⟩:=Km ((bl.block _ bn).trans D.out.2.1))
  exact bodyPost_ret (v:=.tuple #[Pt.val ⟨1,0,0,1+(ty:Int),u⟩,.int .i64 (1+(ty:Int))]) (by simp[results,results26,go_sem,O,R,U,X,Z,bc,bf]) rfl ⟨Ke (Jb D.out.2.2 bl) (by omega) _ _ _ _ _ _ _,_,rfl,bG.out u bT bU⟩
 ·have bj:=(bD (2:Int)).mono (R':=fun e w'=>w'=bW∧∃ x:Int,e=.returned (.int .i64 x)∧Hid ((∃ r:Nat,x=(r:Int)∧r<T.length∧((2:Int)=0∨T.getD r 0=(2:Int)))∨x=-1)) (fun e w' h=>by
   obtain⟨A,⟨r,rfl,H,z⟩|⟨rfl,_⟩⟩:=h
   ·exact⟨A,_,rfl,.inl ⟨r,rfl,H,z⟩⟩
   ·exact⟨A,_,rfl,.inr rfl⟩)
  clear bD
  go_upto_region 18 with(go_at_call 40;refine bj.mono ?_;rintro bi y ⟨M,x,rfl,br⟩;subst M)
  rcases br.out with⟨l,rfl,K,bE⟩|rfl
  ·have cj:¬ ((l:Int)<0):=by omega
   have bu:Hid (l<T.length∧((2:Int)=0∨T.getD l 0=(2:Int))):=⟨K,bE⟩
   have C:T.getD l 0=2:=by omega
   have ci:Hid (T.getD l 0=2):=C
   have bB:=(bS (2:Int)).mono (R':=fun e w'=>w'=y∧∃ r:Nat,e=.returned (.int .i64 (r:Int))∧Hid (r<T.length∧T.getD r 0=T.getD l 0)) (fun e w' h=>by
    obtain⟨A,⟨r,rfl,H,z⟩|⟨rfl,z⟩⟩:=h
    ·refine⟨A,_,rfl,H,?_⟩
     rw[C];exact z.resolve_left (by omega)
    exact absurd (.inr C) (z l K))
   clear K bE C bS br bj
   go_upto_region 23 with(go_at_call 40;refine bB.mono ?_;rintro bi y ⟨M,r,rfl,bz⟩;subst M)
   clear bB bI bJ bK cb cc cf bH bG ca
   go_upto_region 24 with fail
   have E:=heap_alloc_new y (.cells #[.int .i64 10,.int .i64 (l:Int),.int .i64 (r:Int),.int .i64 0,.int .i64 0,.int .i64 0,.string ⟨#[]⟩] 51)
   have bh:=(Oa9 y (.cells #[.int .i64 10,.int .i64 (l:Int),.int .i64 (r:Int),.int .i64 0,.int .i64 0,.int .i64 0,.string ⟨#[]⟩] 51) _ bn).trans D.out.2.1
   have bx:Hid (Below w.heap.size w (y.alloc (.cells #[.int .i64 10,.int .i64 (l:Int),.int .i64 (r:Int),.int .i64 0,.int .i64 0,.int .i64 0,.string ⟨#[]⟩] 51))):=Jc D.out.2.2 _
   obtain⟨bC,bA⟩:∃ bC,bC=y.heap.size:=⟨_,rfl⟩
   rw[←bA]at E ⊢
   generalize y.alloc (.cells #[.int .i64 10,.int .i64 (l:Int),.int .i64 (r:Int),.int .i64 0,.int .i64 0,.int .i64 0,.string ⟨#[]⟩] 51)=bY at E bh bx ⊢
   obtain⟨cl,cn,cr,cu,cv,cx,cy⟩:=Ui E
   obtain⟨O,R,U,X,Z,bc,bf,bL,bM,bN,bO,bP,bQ,bR⟩:=Km bh
   clear bA E bh bn
   go_wp2
   exact bodyPost_ret (v:=.tuple #[Pt.val ⟨10,(l:Int),(r:Int),0,Jf⟩,.int .i64 2]) (by simp[results,results26,go_sem,O,R,U,X,Z,bc,bf,Jf]) rfl ⟨Ke bx.out (by omega) _ _ _ _ _ _ _,_,rfl,Zs (o:=10) (by omega) (by omega) bu.out.1 bz.out.1 (by first|exact .inl rfl|exact .inr (bu.out.2.resolve_left (by omega))) bz.out.2⟩
  clear bI bJ bK
  go_wp2_with (go_at_call 21;refine(bH.out _).mono ?_;rintro bi ch ⟨⟨u,rfl,bT,bU⟩,bl⟩;obtain⟨O,R,U,X,Z,bc,bf,bL,bM,bN,bO,bP,bQ,bR⟩:=Km ((bl.block _ bn).trans D.out.2.1))
  exact bodyPost_ret (v:=.tuple #[Pt.val ⟨1,0,0,1+(ty:Int),u⟩,.int .i64 (1+(ty:Int))]) (by simp[results,results26,go_sem,O,R,U,X,Z,bc,bf]) rfl ⟨Ke (Jb D.out.2.2 bl) (by omega) _ _ _ _ _ _ _,_,rfl,bG.out u bT bU⟩
 have bj:=(bD (0:Int)).mono (R':=fun e w'=>w'=bW∧∃ x:Int,e=.returned (.int .i64 x)∧Hid ((∃ r:Nat,x=(r:Int)∧r<T.length∧((0:Int)=0∨T.getD r 0=(0:Int)))∨x=-1)) (fun e w' h=>by
  obtain⟨A,⟨r,rfl,H,z⟩|⟨rfl,_⟩⟩:=h
  ·exact⟨A,_,rfl,.inl ⟨r,rfl,H,z⟩⟩
  ·exact⟨A,_,rfl,.inr rfl⟩)
 clear bD
 go_upto_region 18 with(go_at_call 40;refine bj.mono ?_;rintro bi y ⟨M,x,rfl,br⟩;subst M)
 rcases br.out with⟨l,rfl,K,bE⟩|rfl
 ·have cj:¬ ((l:Int)<0):=by omega
  have bu:Hid (l<T.length∧((0:Int)=0∨T.getD l 0=(0:Int))):=⟨K,.inl rfl⟩
  obtain⟨dh,di,cE,df,cA⟩:=Kc.at (bX.out.1.below D.out.2.2) K
  have cB:T[l]=T.getD l 0:=by rw[Oa0,Oa3 K];rfl
  rw[cB]at cA
  subst cE
  have cQ:(0:Int)≤(l:Int):=by omega
  have cS:(l:Int)<(T.length:Int):=by omega
  obtain⟨bV,C⟩:∃ bV,bV=T.getD l 0:=⟨_,rfl⟩
  rw[←C]at cA
  have ci:Hid (bV=T.getD l 0):=C
  clear cB
  have bB:=(bS bV).mono (R':=fun e w'=>w'=y∧∃ r:Nat,e=.returned (.int .i64 (r:Int))∧Hid (r<T.length∧T.getD r 0=T.getD l 0)) (fun e w' h=>by
   obtain⟨A,⟨r,rfl,H,z⟩|⟨rfl,z⟩⟩:=h
   ·refine⟨A,_,rfl,H,?_⟩
    rcases z with z|z
    ·exact absurd z (cI.out l bV K C)
    rw[z,C]
   exact absurd (.inr C.symm) (z l K))
  clear K bE C bS br bj
  go_upto_region 23 with(go_at_call 40;refine bB.mono ?_;rintro bi y ⟨M,r,rfl,bz⟩;subst M)
  clear bB bI bJ bK cb cc cf bH bG ca
  go_upto_region 24 with fail
  have E:=heap_alloc_new y (.cells #[.int .i64 11,.int .i64 (l:Int),.int .i64 (r:Int),.int .i64 0,.int .i64 0,.int .i64 0,.string ⟨#[]⟩] 51)
  have bh:=(Oa9 y (.cells #[.int .i64 11,.int .i64 (l:Int),.int .i64 (r:Int),.int .i64 0,.int .i64 0,.int .i64 0,.string ⟨#[]⟩] 51) _ bn).trans D.out.2.1
  have bx:Hid (Below w.heap.size w (y.alloc (.cells #[.int .i64 11,.int .i64 (l:Int),.int .i64 (r:Int),.int .i64 0,.int .i64 0,.int .i64 0,.string ⟨#[]⟩] 51))):=Jc D.out.2.2 _
  obtain⟨bC,bA⟩:∃ bC,bC=y.heap.size:=⟨_,rfl⟩
  rw[←bA]at E ⊢
  generalize y.alloc (.cells #[.int .i64 11,.int .i64 (l:Int),.int .i64 (r:Int),.int .i64 0,.int .i64 0,.int .i64 0,.string ⟨#[]⟩] 51)=bY at E bh bx ⊢
  obtain⟨cl,cn,cr,cu,cv,cx,cy⟩:=Ui E
  obtain⟨O,R,U,X,Z,bc,bf,bL,bM,bN,bO,bP,bQ,bR⟩:=Km bh
  clear bA E bh bn
  go_wp2
  exact bodyPost_ret (v:=.tuple #[Pt.val ⟨11,(l:Int),(r:Int),0,Jf⟩,.int .i64 2]) (by simp[results,results26,go_sem,O,R,U,X,Z,bc,bf,Jf]) rfl ⟨Ke bx.out (by omega) _ _ _ _ _ _ _,_,rfl,Zs (o:=11) (by omega) (by omega) bu.out.1 bz.out.1 (by first|exact .inl rfl|exact .inr (bu.out.2.resolve_left (by omega))) bz.out.2⟩
 clear bI bJ bK
 go_wp2_with (go_at_call 21;refine(bH.out _).mono ?_;rintro bi ch ⟨⟨u,rfl,bT,bU⟩,bl⟩;obtain⟨O,R,U,X,Z,bc,bf,bL,bM,bN,bO,bP,bQ,bR⟩:=Km ((bl.block _ bn).trans D.out.2.1))
 exact bodyPost_ret (v:=.tuple #[Pt.val ⟨1,0,0,1+(ty:Int),u⟩,.int .i64 (1+(ty:Int))]) (by simp[results,results26,go_sem,O,R,U,X,Z,bc,bf]) rfl ⟨Ke (Jb D.out.2.2 bl) (by omega) _ _ _ _ _ _ _,_,rfl,bG.out u bT bU⟩
end Go.Proofs.YtjjdldddcegjiaaGreatDoor
