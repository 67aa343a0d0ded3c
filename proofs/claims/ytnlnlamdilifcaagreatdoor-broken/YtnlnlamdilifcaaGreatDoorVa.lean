/- The types of an expression's parts, as the program asks for them. -/
import Derived.Test.YtnlnlamdilifcaaGreatDoorYb
set_option maxHeartbeats 1000000
set_option maxRecDepth 100000
namespace Go.Proofs.YtnlnlamdilifcaaGreatDoor
open Go.RowKit Go.Shelf Tryz
attribute [local go_sem] Oc0
theorem Jef a(cap:Nat)ts(i:Nat)w(hi:i<ts.length)(h:Kc w a ts):
  Cq 152 #[.slice a ts.length cap,Iq (i:Int)] w fun e w'=>e=.returned (.tuple #[Iq (ts.getD i 0),.bool true])/\w'=w:=by
 obtain⟨b,o,rfl,hb,y⟩:=h.at hi;have ht:ts.getD i 0=ts[i]:=by rw[Oa0,Oa3 hi];rfl
 rw[ht];generalize ts[i]=t at y |-;clear ht h;have H:(0:Int)<=(i:Int):=zo;have I:(i:Int)<(ts.length:Int):=zo;go_enter func152,ntmps152
 go_wp2;exact bodyPost_ret (v:=.tuple #[Iq t,.bool true]) (by simp[results,results152,go_sem]) rfl ⟨rfl,rfl⟩
def Jg6 (w:World)(tb:Nat)(y ev:Value):Prop:=w.heap[tb]?=some (.cells #[y,ev] 340 (0,0))
theorem Jg6.cells {w tb y ev}(h:Jg6 w tb y ev):w.cell? (Aq tb)=some y/\w.cell? (Ar tb 1)=some ev:=by
 constructor<;>simp[World.cell?,show w.heap[tb]?=_ from h]
abbrev Zj (w:World)(p:Pt):World:=w.alloc (.cells #[Iq p.op,Iq p.l,Iq p.r,Iq p.c,Iq p.v.k,Iq p.v.n,.string p.v.s] 70)
abbrev TyP (w:World)(t:Int):Ending->World->Prop:=fun e w'=>e=.returned (.tuple #[Iq t,.bool true])/\Bq w w'
theorem Jgj w p:(Zj w p).cell? (Ar w.heap.size 1)=some (Iq p.l)/\(Zj w p).cell? (Ar w.heap.size 2)=some (Iq p.r)/\(Zj w p).cell? (Ar w.heap.size 3)=some (Iq p.c):=by
 have:=heap_alloc_new w (.cells #[Iq p.op,Iq p.l,Iq p.r,Iq p.c,Iq p.v.k,Iq p.v.n,.string p.v.s] 70);refine⟨?_,?_,?_⟩<;>(unfold World.cell?;rw[this];rfl)
theorem Jbr {w tb y ev}(h:Jg6 w tb y ev)o:Jg6 (w.alloc o) tb y ev:=(Oa9 _ _ _ (Jd h)).trans h
theorem Jtu (tb:Nat)K bf(bh:Nat)(T:List Int)(p:Pt)H(I C:Nat)(sch:List Int)(bk:K=.slice H sch.length I)(hC:p.c=(C:Int))(M:C<sch.length)w(bi:Jg6 w tb K (.slice bf T.length bh))(O:Kc w H sch):
  Cq 260 #[Pq tb,p.val] w (TyP w (sch.getD C 0)):=by
 subst bk;obtain⟨c0,_⟩:=bi.cells;obtain⟨_,_,b3⟩:=Jgj w p;have U:Bq w (Zj w p):=Jc (Oa5 _ _) _;have Y:Hid (∀ X,Bq w X->Cq 152 #[.slice H sch.length I,Iq (C:Int)] X fun e w'=>e=.returned (.tuple #[Iq (sch.getD C 0),.bool true])/\w'=X):=fun X bj=>Jef H I sch C X M (O.below bj);rw[hC]at b3;clear hC M O;go_enter func260,ntmps260
 go_upto_region 1 with fail
 refine wp_region_held_drew (S:=fun X=>X.cell? (Aq tb)=some (.slice H sch.length I)/\X.cell? (Ar w.heap.size 3)=some (Iq (C:Int))) zK ⟨Jh (Kf c0),Jh b3⟩ (fun y=>?_);refine tkj 0 rfl y ?_;refine tkj 1 rfl y ?_;refine tkj 2 rfl y ?_;refine tkj 3 rfl y ?_;refine tkj 4 rfl y ?_;refine tkj 5 rfl y ?_;refine tkn ?_;refine tkr 6 rfl fun Z hK=>?_;go_simp;refine(Y.out (Zj w p).drew (Jj U)).mono ?_;rintro e br ⟨rfl,rfl⟩;go_simp;refine hK.out _ _ ⟨y.1,y.2⟩ (fun y=>?_);clear hK Z;refine tkj 7 rfl y ?_;refine tkj 8 rfl y ?_;refine tkj 9 rfl y ?_;refine tkj 10 rfl y ?_;refine tkn ?_;refine wpAnyH_done zK ?_ _;go_wp2;exact bodyPost_ret (v:=.tuple #[Iq (sch.getD C 0),.bool true]) (by simp[results,results260,go_sem]) rfl ⟨rfl,Jj U⟩
theorem Jhp (tb:Nat)br H(I:Nat)(T:List Int)(p:Pt)(L:Nat)(bf:p.l=(L:Int))(bh:L<T.length)(R:Nat)(hR:p.r=(R:Int))(bi:R<T.length)(bj:T.getD L 0=T.getD R 0)w(bx:Jg6 w tb br (.slice H T.length I))(O:Kc w H T):
  Cq 291 #[Pq tb,p.val] w (TyP w (T.getD L 0)):=by
 obtain⟨_,c1⟩:=bx.cells;obtain⟨b1,b2,_⟩:=Jgj w p;have Y:Bq w (Zj w p):=Jc (Oa5 _ _) _;have Z:Hid (∀ X,Bq w X->Cq 152 #[.slice H T.length I,Iq (L:Int)] X fun e w'=>e=.returned (.tuple #[Iq (T.getD L 0),.bool true])/\w'=X):=fun X U=>Jef H I T L X bh (O.below U);have K:Hid (∀ X,Bq w X->Cq 152 #[.slice H T.length I,Iq (R:Int)] X fun e w'=>e=.returned (.tuple #[Iq (T.getD R 0),.bool true])/\w'=X):=fun X U=>Jef H I T R X bi (O.below U);rw[bf]at b1;rw[hR]at b2;rw[<-bj]at K;generalize T.getD L 0=t at Z K |-;clear bf bh O hR bi bj;go_enter func291,ntmps291
 go_upto_region 1 with fail
 refine wp_region_held_drew (S:=fun X=>X.cell? (Ar tb 1)=some (.slice H T.length I)/\X.cell? (Ar w.heap.size 1)=some (Iq (L:Int))) zK ⟨Jh (Kf c1),Jh b1⟩ (fun y=>?_);refine tkj 0 rfl y ?_;refine tkj 1 rfl y ?_;refine tkj 2 rfl y ?_;refine tkj 3 rfl y ?_;refine tkj 4 rfl y ?_;refine tkj 5 rfl y ?_;refine tkn ?_;refine tkr 6 rfl fun M hK=>?_;go_simp;refine(Z.out (Zj w p).drew (Jj Y)).mono ?_;rintro e bk ⟨rfl,rfl⟩;go_simp;refine hK.out _ _ ⟨y.1,y.2⟩ (fun y=>?_);clear hK M;refine tkj 7 rfl y ?_;refine tkj 8 rfl y ?_;refine tkj 9 rfl y ?_;refine tkj 10 rfl y ?_;refine tkj 11 rfl y ?_;refine tkn ?_;refine wpAnyH_done zK ?_ _;go_upto_region 2 with fail
 refine wp_region_held_drew (S:=fun X=>X.cell? (Ar tb 1)=some (.slice H T.length I)/\X.cell? (Ar w.heap.size 2)=some (Iq (R:Int))) zK ⟨Jh (Jh (Kf c1)),Jh (Jh b2)⟩ (fun y=>?_);refine tkj 0 rfl y ?_;refine tkj 1 rfl y ?_;refine tkj 2 rfl y ?_;refine tkj 3 rfl y ?_;refine tkj 4 rfl y ?_;refine tkj 5 rfl y ?_;refine tkn ?_;refine tkr 6 rfl fun M hK=>?_;go_simp;refine(K.out (Zj w p).drew.drew (Jj (Jj Y))).mono ?_;rintro e bk ⟨rfl,rfl⟩;go_simp;refine hK.out _ _ ⟨y.1,y.2⟩ (fun y=>?_);clear hK M;refine tkj 7 rfl y ?_;refine tkj 8 rfl y ?_;refine tkj 9 rfl y ?_;refine tkj 10 rfl y ?_;refine tkj 11 rfl y ?_;refine tkn ?_;refine wpAnyH_done zK ?_ _;go_wp2;exact bodyPost_ret (v:=.tuple #[Iq t,.bool true]) (by simp[results,results291,go_sem]) rfl ⟨rfl,Jj (Jj Y)⟩
theorem Jtk (tb:Nat)H y(I:Nat)(T:List Int)(p:Pt)(L:Nat)(O:p.l=(L:Int))(U:L<T.length)(R:Nat)(hR:p.r=(R:Int))(Y:R<T.length)(bf:T.getD L 0=T.getD R 0)(K:T.getD L 0=1)w(bh:Jg6 w tb H (.slice y T.length I))(M:Kc w y T):
  Cq 262 #[Pq tb,p.val] w (TyP w 1):=by
 have Z:=Jhp tb H y I T p L O U R hR Y bf (Zj w p) (Jbr bh _) (M.below (Jc (Oa5 _ _) _));rw[K]at Z;clear O U M hR Y bf K;go_enter func262,ntmps262
 go_wp2_with (go_at_call 291;refine Z.mono ?_;rintro bk bj ⟨rfl,bi⟩)
 exact bodyPost_ret (v:=.tuple #[Iq 1,.bool true]) (by simp[results,results262,go_sem]) rfl ⟨rfl,Jb (Jc (Oa5 _ _) _) bi⟩
attribute [local go_sem] Oc0
theorem Jpx (tb:Nat)(p:Pt)w(I:1<=p.c)(K:p.c<=3)(hv:okV p.c p.v):
  Cq 261 #[Pq tb,p.val] w (TyP w p.c):=by
 have U:∀ X,Cq 81 #[.agg #[Iq p.v.k,Iq p.v.n,.string p.v.s],Iq p.c] X fun e w'=>e=.returned (.bool true)/\Bq X w':=fun X=>by
  have:=Jmd p.v.k p.v.n p.v.s p.c X;rwa [show okB p.c p.v.k p.v.n p.v.s=true from hv]at this
 have hI:∀ X,Cq 80 #[Iq p.c] X fun e w'=>e=.returned (.bool true)/\w'=X:=fun X=>by
  have:=Jlh p.c X;rwa [show decide (1<=p.c/\p.c<=3)=true from decide_eq_true ⟨I,K⟩]at this
 clear I K hv;go_enter func261,ntmps261
 go_upto_region 1 with fail
 have hq:(Zj w p).heap[w.heap.size]?=_:=heap_alloc_new w (.cells #[Iq p.op,Iq p.l,Iq p.r,Iq p.c,Iq p.v.k,Iq p.v.n,.string p.v.s] 70);have M:Bq w (Zj w p):=Jc (Oa5 _ _) _;show Code.wp _ _ _ _ (Zj w p);generalize Zj w p=y at hq M |-;have bf:=zc 3 hq;have bh:=zc 4 hq;have bi:=zc 5 hq;have bj:=zc 6 hq;have Z:w.heap.size<y.heap.size:=Jd hq;clear hq;go_region_held3 (fun X=>X.cell? (Ar w.heap.size 3)=some (Iq p.c)/\X.cell? (Ar w.heap.size 4)=some (Iq p.v.k)/\X.cell? (Ar w.heap.size 5)=some (Iq p.v.n)/\X.cell? (Ar w.heap.size 6)=some (.string p.v.s))
  (first|go_keep|(go_split_ands;refine⟨?_,?_,?_,?_⟩<;>(rw[(Kx H).1 _ _ (by first|exact Z|assumption)];assumption)))
  (first|(go_at_call 80;refine(hI _).mono ?_;rintro e O ⟨rfl,rfl⟩)|(go_at_call 81;refine(U _).mono ?_;rintro e O ⟨rfl,H⟩;have Y:Bq y O:=(by first|exact Jw H|exact H)))
 clear bf bh bi bj;go_wp2;exact bodyPost_ret (v:=.tuple #[Iq p.c,.bool true]) (by simp[results,results261,go_sem]) rfl ⟨rfl,Jb M Y⟩
attribute [local go_sem] Oc0
def tyI (T:List Int)(i:Int):Option Int:=if 0<=i/\i<T.length then some (T.getD i.toNat 0)else none
abbrev tyV (o:Option Int):Value:=.tuple #[Iq (o.getD 0),.bool o.isSome]
theorem zaB {p:Prop}(h:p:=by
 go_enter func152,ntmps152
 go_wp2;exact bodyPost_ret (v:=.tuple #[iZ,.bool false]) (by simp[results,results152,go_sem]) rfl ⟨rfl,rfl⟩):p:=h
theorem Kyd a cap ts i w(h:Kc w a ts):
  Cq 152 #[.slice a ts.length cap,Iq i] w fun e w'=>e=.returned (tyV (tyI ts i))/\w'=w:=by
 by_cases hi:0<=i/\i<ts.length
 ·obtain⟨k,rfl⟩:∃ k:Nat,i=(k:Int):=⟨i.toNat,zo⟩;have:=Jef a cap ts k w zo h;unfold tyI;rw[if_pos hi];exact this
 unfold tyI;rw[if_neg hi];clear h;by_cases h0:i<0
 ·clear hi;exact zaB
 have y:(0:Int)<=i:=zo;have H:(ts.length:Int)<=i:=zo;clear hi h0;exact zaB
