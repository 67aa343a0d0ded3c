/- pack, walked. -/
import Derived.Test.YtdlgbphkaicfaaaGreatDoorTi
import Derived.Test.YtdlgbphkaicfaaaGreatDoorKq
import Derived.Test.YtdlgbphkaicfaaaGreatDoorIv
import Derived.Test.YtdlgbphkaicfaaaGreatDoorEw
set_option maxHeartbeats 4000000
set_option maxRecDepth 100000
namespace Go.Proofs.YtdlgbphkaicfaaaGreatDoor
open Go.RowKit Go.Shelf Tryz
attribute [local go_sem] Oc0
theorem Kjq:(prog.info? 9).map (fun i=>(i.zero,i.size,i.bytes))=some (some (.string ⟨#[]⟩),1,16):=by kernel_rfl
structure Kis (w:World) (C0:Array Value) (hv:Value) (W:World) (T:List (List UInt8)):Prop where
 b0:W.heap[w.heap.size]?=some (.cells C0 25 (0,0))
 b1:Boxed W (w.heap.size+1) 22 hv
 b2:Boxed W (w.heap.size+1+1) 122 (.slice none 0 0)
 b3:Boxed W (w.heap.size+1+1+1) 76 .nilIface
 own:∃ sv,Boxed W (w.heap.size+1+1+1+1) 122 sv∧Jo W (w.heap.size+7) 9 sv (T.map tv)
 below:Below w.heap.size w W
 size:w.heap.size+7≤W.heap.size
theorem Kir {W W':World}{row:Option Nat}{k:Nat}{C:Array Value}{t:TypeId}{y:Nat×Nat}(h:W.heap[k]?=some (.cells C t y))(E:W.grownBy W' row)(H:∀ r,row=some r→∃ o:Obj,W.heap[r]?=some o∧o.isCells=false):W'.heap[k]?=some (.cells C t y):=by
 refine(E.block k (Jd h) fun e=>?_).trans h
 obtain⟨o,A,D⟩:=H k e.symm
 rw[h]at A
 cases A
 cases D
theorem Kjl {W W':World}{row:Option Nat}{B:Nat}{e:TypeId}{sv:Value}{xs:List Value}(h:Jo W B e sv xs)(E:W.grownBy W' row)(H:∀ r,row=some r→∃ o:Obj,W.heap[r]?=some o∧o.isCells=false):Jo W' B e sv xs:=by
 refine Yd h fun g y=>?_
 rcases h.2 with⟨A,_⟩|⟨M,cap,K,A,_,D,_⟩
 ·subst A;simp[Value.ownBlock]at y
 subst A
 simp[Value.ownBlock]at y
 subst y
 rw[D]
 exact Kir D E H
theorem Kis.kept {w:World}{D:Array Value}{H:Value}{W W':World}{T:List (List UInt8)}{row:Option Nat}(h:Kis w D H W T)(y:W.grownBy W' row)(E:∀ r,row=some r→w.heap.size≤r∧∃ o:Obj,W.heap[r]?=some o∧o.isCells=false):Kis w D H W' T:=by
 obtain⟨sv,hs,K⟩:=h.own
 have A:∀ r,row=some r→∃ o:Obj,W.heap[r]?=some o∧o.isCells=false:=fun r e=>(E r e).2
 exact⟨Kir h.b0 y A,Kir h.b1 y A,Kir h.b2 y A,Kir h.b3 y A,⟨sv,Kir hs y A,Kjl K y A⟩,h.below.grown y h.below.size (fun k e=>(E k e).1),Ob2 h.size y.size⟩
theorem Kis.ahead {w:World}{A:Array Value}{D:Value}{W W':World}{T:List (List UInt8)}(h:Kis w A D W T)(y:Below W.heap.size W W'):Kis w A D W' T:=
 h.kept (row:=none) ⟨y.os,y.tape,y.output,y.size,fun k E _=>y.block k E⟩ (fun r e=>by cases e)
structure Ki7 (w:World) (a1:Addr) (W:World) (col:Nat):Prop where
 b2:Boxed W (w.heap.size+1+1) 122 (.slice none 0 0)
 b3:∃ b,Boxed W (w.heap.size+1+1+1) 76 (.iface 126 (.pointer (some ⟨b,0,none⟩)))∧w.heap.size≤b∧W.cell? ⟨b,1,none⟩=some (.int .i64 (col:Int))∧W.cell? ⟨b,2,none⟩=some (.iface 435 (.pointer (some a1)))
 below:Below w.heap.size w W
theorem Ki7.kept {w:World}{D:Addr}{W W':World}{col:Nat}{row:Option Nat}(h:Ki7 w D W col)(y:W.grownBy W' row)(E:∀ r,row=some r→w.heap.size≤r∧∃ o:Obj,W.heap[r]?=some o∧o.isCells=false):Ki7 w D W' col:=by
 obtain⟨b,H,K,c1,c2⟩:=h.b3
 have A:∀ r,row=some r→∃ o:Obj,W.heap[r]?=some o∧o.isCells=false:=fun r e=>(E r e).2
 exact⟨Kir h.b2 y A,⟨b,Kir H y A,K,cell_kept c1 y A,cell_kept c2 y A⟩,h.below.grown y h.below.size (fun k e=>(E k e).1)⟩
def Kkr (w:World)(y:Addr)(r:List (List UInt8)⊕Nat)(e:Ending)(w':World):Prop:=
 Below w.heap.size w w'∧match r with
  |.inl T=>∃ a cap,e=.returned (.tuple #[.slice a T.length cap,.nilIface])∧Uh w' a (T.map tv)∧∀ b o,a=some ⟨b,o,none⟩→w.heap.size≤b
  |.inr c=>∃ b,e=.returned (.tuple #[.slice none 0 0,.iface 126 (.pointer (some ⟨b,0,none⟩))])∧w.heap.size≤b∧Yu w' (.iface 126 (.pointer (some ⟨b,0,none⟩))) y (some (c:Int)) none
theorem Jb4 (w:World)(o:Obj)(k:Nat)(y:k=w.heap.size):(w.alloc o).heap[k]?=some o:=by subst y;exact heap_alloc_new w o
theorem Kkx (w:World)(y A D E H K M:Obj)(W:World)(hW:(((((((w.alloc y).alloc A).alloc D).alloc E).alloc H).alloc K).alloc M)=W) :
  W.heap.size=w.heap.size+7∧W.heap[w.heap.size]?=some y∧W.heap[w.heap.size+1]?=some A∧W.heap[w.heap.size+1+1]?=some D∧W.heap[w.heap.size+1+1+1]?=some E∧W.heap[w.heap.size+1+1+1+1]?=some H∧W.heap[w.heap.size+1+1+1+1+1]?=some K∧W.heap[w.heap.size+1+1+1+1+1+1]?=some M∧Below w.heap.size w W:=by
 subst hW
 refine⟨by simp,?_,?_,?_,?_,?_,?_,?_,?_⟩
 ·rw[Oa9 _ _ _ (by simp only[Oa7];omega),Oa9 _ _ _ (by simp only[Oa7];omega),Oa9 _ _ _ (by simp only[Oa7];omega),Oa9 _ _ _ (by simp only[Oa7];omega),Oa9 _ _ _ (by simp only[Oa7];omega),Oa9 _ _ _ (by simp)];exact Jb4 _ _ _ rfl
 ·rw[Oa9 _ _ _ (by simp only[Oa7];omega),Oa9 _ _ _ (by simp only[Oa7];omega),Oa9 _ _ _ (by simp only[Oa7];omega),Oa9 _ _ _ (by simp only[Oa7];omega),Oa9 _ _ _ (by simp)];exact Jb4 _ _ _ (by simp only[Oa7])
 ·rw[Oa9 _ _ _ (by simp only[Oa7];omega),Oa9 _ _ _ (by simp only[Oa7];omega),Oa9 _ _ _ (by simp only[Oa7];omega),Oa9 _ _ _ (by simp)];exact Jb4 _ _ _ (by simp only[Oa7])
 ·rw[Oa9 _ _ _ (by simp only[Oa7];omega),Oa9 _ _ _ (by simp only[Oa7];omega),Oa9 _ _ _ (by simp)];exact Jb4 _ _ _ (by simp only[Oa7])
 ·rw[Oa9 _ _ _ (by simp only[Oa7];omega),Oa9 _ _ _ (by simp)];exact Jb4 _ _ _ (by simp only[Oa7])
 ·rw[Oa9 _ _ _ (by simp)];exact Jb4 _ _ _ (by simp only[Oa7])
 ·exact Jb4 _ _ _ (by simp only[Oa7])
 exact(((((((Oa5 _ w).alloc (Oa2 _) _).alloc (by simp) _).alloc (by simp;omega) _).alloc (by simp;omega) _).alloc (by simp;omega) _).alloc (by simp;omega) _).alloc (by simp;omega) _
theorem Jpf.go {Q:Exit→Act→World→Prop}{a:Act}{w:World}(h:Q .normal a w):Jpf Q .normal a w:=h
theorem Kis.more {w:World}{M:Array Value}{H:Value}{y w4:World}{T:List (List UInt8)}{sv sv':Value}(h:Kis w M H y T)(bk:Boxed y (w.heap.size+1+1+1+1) 122 sv)(Z:Jo y (w.heap.size+7) 9 sv (T.map tv))(o:Obj)(bc:List UInt8)
  (ba:Jo w4 (w.heap.size+7) 9 sv' (T.map tv++[tv bc])) (A:(y.alloc o).grownBy w4 sv.ownBlock) :
  Kis w M H (w4.setCell ⟨w.heap.size+1+1+1+1,0,none⟩ sv') (T++[bc])∧KeepsOthers y (w4.setCell ⟨w.heap.size+1+1+1+1,0,none⟩ sv')∧KpC (w.heap.size+1+1+1+1+1) (w.heap.size+1+1+1+1+1+1) y (w4.setCell ⟨w.heap.size+1+1+1+1,0,none⟩ sv')∧Boxed w4 (w.heap.size+1+1+1+1) 122 sv:=by
 have bn:=h.size
 have bb:∀ g,sv.ownBlock=some g→w.heap.size+7≤g:=fun g A=>(Je Z A).1
 have bj:∀ k,k<y.heap.size→sv.ownBlock≠some k→w4.heap[k]?=y.heap[k]?:=fun k D K=>(A.block k (by simp;omega) (Oc5 K)).trans (Oa9 y o k D)
 have U:∀ k,k<w.heap.size+7→w4.heap[k]?=y.heap[k]?:=fun k D=>bj k (by omega) fun e=>by have:=bb k e;omega
 have R:Boxed w4 (w.heap.size+1+1+1+1) 122 sv:=(U _ (by omega)).trans bk
 have E:∀ k,k<w.heap.size+7→k≠w.heap.size+1+1+1+1→(w4.setCell ⟨w.heap.size+1+1+1+1,0,none⟩ sv').heap[k]?=y.heap[k]?:=fun k D K=>(Oa4 _ _ _ _ K).trans (U k D)
 have bh:=A.size
 rw[Oa7]at bh
 have bi:(w4.setCell ⟨w.heap.size+1+1+1+1,0,none⟩ sv').heap.size=w4.heap.size:=by simp[World.setCell]
 refine⟨⟨(E _ (by omega) (by omega)).trans h.b0,(E _ (by omega) (by omega)).trans h.b1,(E _ (by omega) (by omega)).trans h.b2,(E _ (by omega) (by omega)).trans h.b3,⟨sv',R.set sv',?_⟩,?_,by rw[bi];omega⟩,?_,⟨E _ (by omega) (by omega),E _ (by omega) (by omega)⟩,R⟩
 ·rw[Ob8]
  exact Yd ba fun g bf=>Oa4 _ _ _ _ (by have:=(Je ba bf).1;simp;omega)
 ·exact((h.below.alloc h.below.size o).grown A (by simp;omega) (fun k D=>by have:=bb k D;omega)).setCell (p:=⟨w.heap.size+1+1+1+1,0,none⟩) (by simp;omega) _
 refine(KeepsOthers.alloc y o).trans ((KeepsOthers.of_grownBy A fun j ob e X=>?_).trans (KeepsOthers.setCell _ _ _))
 rcases Z.2 with⟨H,_⟩|⟨g,cap,bl,H,_,O,_⟩
 ·subst H;simp[Value.ownBlock]at e
 subst H
 simp[Value.ownBlock]at e
 subst e
 rw[Oa9 _ _ _ (Jd O),O]at X
 cases X
 rfl
theorem Kis.bad {w:World}{M:Array Value}{X:Value}{y:World}{T:List (List UInt8)}(h:Kis w M X y T)(name:ByteArray)(c:Nat)(E:Addr)(A:World)(K:A.heap[y.heap.size]?=some (.cells #[.string name,.int .i64 (c:Int),.iface 435 (.pointer (some E))] 128 (0,0)))
  (h2:Boxed A (w.heap.size+1+1) 122 (.slice none 0 0)) (O:Boxed A (w.heap.size+1+1+1) 76 (.iface 126 (.pointer (some ⟨y.heap.size,0,none⟩)))) (R:Below w.heap.size w A) (hs:y.heap.size≤A.heap.size)
  (U:∀ k,k<y.heap.size→k≠w.heap.size+1+1→k≠w.heap.size+1+1+1→A.heap[k]?=y.heap[k]?):Ki7 w E A c∧KeepsOthers y A:=by
 have Z:=h.size
 refine⟨⟨h2,⟨y.heap.size,O,by omega,by simp[World.cell?,K],by simp[World.cell?,K]⟩,R⟩,hs,fun k o D H=>?_⟩
 refine(U k (Jd D) (fun e=>?_) (fun e=>?_)).trans D
 ·subst e
  rw[show y.heap[w.heap.size+1+1]?=_ from h.b2]at D
  cases D
  cases H
 subst e
 rw[show y.heap[w.heap.size+1+1+1]?=_ from h.b3]at D
 cases D
 cases H
theorem Kis.badA {w:World}{D:Array Value}{M:Value}{y:World}{T:List (List UInt8)}(h:Kis w D M y T)(name:ByteArray)(c:Nat)(A:Addr) :
  Ki7 w A (((y.alloc (.cells #[.string name,.int .i64 (c:Int),.iface 435 (.pointer (some A))] 128)).setCell ⟨w.heap.size+1+1,0,none⟩ (.slice none 0 0)).setCell ⟨w.heap.size+1+1+1,0,none⟩ (.iface 126 (.pointer (some ⟨y.heap.size,0,none⟩)))).drew c ∧
  KeepsOthers y (((y.alloc (.cells #[.string name,.int .i64 (c:Int),.iface 435 (.pointer (some A))] 128)).setCell ⟨w.heap.size+1+1,0,none⟩ (.slice none 0 0)).setCell ⟨w.heap.size+1+1+1,0,none⟩ (.iface 126 (.pointer (some ⟨y.heap.size,0,none⟩)))).drew:=by
 have O:=h.size
 have H:Boxed ((y.alloc (.cells #[.string name,.int .i64 (c:Int),.iface 435 (.pointer (some A))] 128)).setCell ⟨w.heap.size+1+1,0,none⟩ (.slice none 0 0)) (w.heap.size+1+1+1) 76 .nilIface:=(Oa4 _ _ _ _ (by simp)).trans (h.b3.alloc _)
 refine h.bad name c A _ ?_ ?_ ?_ ?_ ?_ ?_
 ·exact(Oa4 _ _ _ _ (by simp;omega)).trans ((Oa4 _ _ _ _ (by simp;omega)).trans (heap_alloc_new _ _))
 ·exact(Oa4 _ _ _ _ (by simp)).trans ((h.b2.alloc _).set _)
 ·exact H.set _
 ·exact(((h.below.alloc h.below.size _).setCell (p:=⟨w.heap.size+1+1,0,none⟩) (by simp;omega) _).setCell (p:=⟨w.heap.size+1+1+1,0,none⟩) (by simp;omega) _).drew
 ·show y.heap.size≤((((y.alloc _).setCell _ _).setCell _ _).heap).size
  simp[World.setCell]
 intro k K h2 E
 exact(Oa4 _ _ _ _ E).trans ((Oa4 _ _ _ _ h2).trans (Oa9 _ _ _ K))
theorem Kis.badB {w:World}{H:Array Value}{R:Value}{y:World}{T:List (List UInt8)}(h:Kis w H R y T)(name:ByteArray)(c:Nat)(A:Addr) :
  Ki7 w A (((y.setCell ⟨w.heap.size+1+1,0,none⟩ (.slice none 0 0)).alloc (.cells #[.string name,.int .i64 (c:Int),.iface 435 (.pointer (some A))] 128)).setCell ⟨w.heap.size+1+1+1,0,none⟩ (.iface 126 (.pointer (some ⟨y.heap.size,0,none⟩)))).drew c ∧
  KeepsOthers y (((y.setCell ⟨w.heap.size+1+1,0,none⟩ (.slice none 0 0)).alloc (.cells #[.string name,.int .i64 (c:Int),.iface 435 (.pointer (some A))] 128)).setCell ⟨w.heap.size+1+1+1,0,none⟩ (.iface 126 (.pointer (some ⟨y.heap.size,0,none⟩)))).drew:=by
 have U:=h.size
 have D:(y.setCell ⟨w.heap.size+1+1,0,none⟩ (.slice none 0 0)).heap.size=y.heap.size:=by simp[World.setCell]
 have M:Boxed ((y.setCell ⟨w.heap.size+1+1,0,none⟩ (.slice none 0 0)).alloc (.cells #[.string name,.int .i64 (c:Int),.iface 435 (.pointer (some A))] 128)) (w.heap.size+1+1+1) 76 .nilIface:=Boxed.alloc ((Oa4 _ _ _ _ (by simp)).trans h.b3) _
 have E:=heap_alloc_new (y.setCell ⟨w.heap.size+1+1,0,none⟩ (.slice none 0 0)) (.cells #[.string name,.int .i64 (c:Int),.iface 435 (.pointer (some A))] 128)
 rw[D]at E
 refine h.bad name c A _ ?_ ?_ ?_ ?_ ?_ ?_
 ·exact(Oa4 _ _ _ _ (by simp;omega)).trans E
 ·exact(Oa4 _ _ _ _ (by simp)).trans ((h.b2.set _).alloc _)
 ·exact M.set _
 ·exact(((h.below.setCell (p:=⟨w.heap.size+1+1,0,none⟩) (by simp;omega) _).alloc (by rw[D];omega) _).setCell (p:=⟨w.heap.size+1+1+1,0,none⟩) (by simp;omega) _).drew
 ·show y.heap.size≤((((y.setCell _ _).alloc _).setCell _ _).heap).size
  simp[World.setCell]
 intro k O h2 K
 exact(Oa4 _ _ _ _ K).trans ((Oa9 _ _ _ (by rw[D];exact O)).trans (Oa4 _ _ _ _ h2))
theorem Jqm {name:ByteArray}{y hs:List Int}{rs rows:List (List V)}(U:Jel name y rs)(R:∀ r∈rows,r∈rs)(O:rows.length≤64)(c:Nat)(ba:c<y.length)(bb:hs.length=y.length)(Z:∀ j (D:j<hs.length),way (y.getD j 0) hs[j]=true) :
  (Uo rows y hs c).2=0∨(Uo rows y hs c).2=2:=by
 have X:=Z c (by omega)
 have E:hs.getD c 0=hs[c]'(by omega):=by simp[show c<hs.length by omega]
 have K:Jfr (y.getD c 0) (Jaj rows c)=true:=by
  rw[Jfd]
  refine⟨by simpa [Jaj] using O,fun j D=>?_⟩
  have H:j<rows.length:=by simpa [Jaj] using D
  obtain⟨i,hi,M⟩:=Od5 (R _ (Ob3 H))
  obtain⟨h1,h2⟩:=U.2.2.2 i hi
  have A:c<(rs[i]).length:=by omega
  have:=h2 c A
  have e:(Jaj rows c)[j]=(rs[i])[c]:=by
   simp only[Jaj,Od9,Oa0]
   simp only[←M,Oa3 A,Option.getD_some]
  rw[e]
  exact this
 unfold Uo Jev
 rw[E,X,K,Bool.and_self,if_pos rfl]
 split
 ·exact .inr rfl
 exact .inl rfl
theorem Kkk (name:ByteArray)(bB X bI:Option Addr)(ct bj bC g:Nat)(y hs:List Int)(xs:List (Option Addr×Nat))(rs:List (List V))(w:World)(bO:Jel name y rs)(cH:Hid (hs.length=y.length))(da:∀ j (dJ:j<hs.length),way (y.getD j 0) hs[j]=true)(bD:1≤g)(dH:g≤64)(dO:rs.length≤bj)
  (bx:Kc w bB y) (cT:Kc w bI hs) (bY:Zd w X xs rs) (dj:Hid (∀ x∈hs,Kjk x)) (ci bi cK:Addr) (cS:Jf0 w ci bi cK) :
  Calls prog 46 #[.agg #[.string name,.slice bB y.length ct,.slice X rs.length bj],.slice bI hs.length bC,.int .i64 (g:Int)] w fun e w'=>Kkr w bi (Jfg rs y hs (cks rs.length g (ckN rs.length g))) e w':=by
 refine(callsIn_wide (n:=3)).1 ?_
 refine callsIn_of_wp_marks func46 rfl trivial ?_ rfl
 simp only[ntmps46,Om3,List.length_cons,List.length_nil,Nat.reduceAdd,Nat.reduceSub,Ok9,Array.replicate_zero,Om4,Ol2,List.nil_append,List.cons_append]
 have cQ:=fun (W:World)=>Kke X rs.length bj g bD W
 gi_wp2_with (refine⟨trivial,?_⟩;gi_at_call 63;refine(callsIn_wide.2 (cQ _)).mono ?_;rintro e w' ⟨rfl,rfl⟩)
 generalize cP:World.alloc _ (Obj.cells #[.int .i64 (g:Int)] 3)=bR
 obtain⟨cY,dr,ds,dt,du,dv,cM,cN,dC⟩:=Kkx w _ _ _ _ _ _ _ bR cP
 have bH:Hid (bR.heap.size=w.heap.size+7):=cY
 clear cP cY cQ
 have dR:rs.length=0∨∃ b o,X=some ⟨b,o,none⟩:=by
  rcases bY.cells with h|⟨b,o,h,_⟩
  ·left
   have:=congrArg List.length h
   simp[bY.len]at this
   exact Od3.2 this
  exact .inr ⟨b,o,h⟩
 have fu:rs.length≤200:=bO.2.2.1
 refine wpIn_rangeFunc_ownG rfl (by omega) (gf:=88) (lb:=#[.pointer (some ⟨w.heap.size+1+1+1+1+1,0,none⟩),.pointer (some ⟨w.heap.size+1+1+1+1+1+1,0,none⟩)]) rfl trivial (enters_of func88 (by kernel_rfl) rfl)
  (Kjw 2 (by omega) (w.heap.size+1+1+1+1+1) (w.heap.size+1+1+1+1+1+1) X rs.length bj g bD dH (by omega) dO dR bR (Jd cM) (Jd cN) (by simp[World.cell?,cM]) (by simp[World.cell?,cN]))
  (fun h k=>⟨k.1.trans h.1,k.2.trans h.2⟩) ?hKb (Oa5 _ _) (fun _=>rfl)
  (fun U W=>∃ T,Jfg rs y hs (U.map Subtype.val)=.inl T∧T.length≤U.length*6∧Kis w #[.string name,.slice bB y.length ct,.slice X rs.length bj] (.slice bI hs.length bC) W T)
  (fun c U W=>c=.ret∧∃ col,Jfg rs y hs (U.map Subtype.val)=.inr col∧Ki7 w bi W col)
  ?hI ?hIx ?h0
  (fun x=>{tmps:=#[.agg #[.string name,.slice bB y.length ct,.slice X rs.length bj],.slice bI hs.length bC,.int .i64 (g:Int),.pointer (some ⟨w.heap.size,0,none⟩),.pointer (some ⟨w.heap.size+1,0,none⟩),undef,.pointer (some ⟨w.heap.size+1+1,0,none⟩),.pointer (some ⟨w.heap.size+1+1+1,0,none⟩),.pointer (some ⟨w.heap.size+1+1+1+1,0,none⟩),ckV X x.1,undef,undef,undef,undef,
   .pointer (some ⟨w.heap.size,2,none⟩),.slice X rs.length bj,.int .i64 (g:Int),.func (.func 88) #[] #[.pointer (some ⟨w.heap.size+1+1+1+1+1,0,none⟩),.pointer (some ⟨w.heap.size+1+1+1+1+1+1,0,none⟩)],ckV X x.1,undef,undef,undef,undef,undef,undef,undef,undef,undef,undef,undef,undef,undef,undef,undef,undef,undef,undef,undef,undef,undef,undef,undef,undef,undef,undef,undef,undef,undef,undef,undef,undef,undef,undef,undef],defers:=[]}) ?assign ?body ?done ?stop
 case hKb=>
  intro W l o fy ft fw cv _
  have:=bH.out
  exact⟨World.putObj_heap_other (by omega),World.putObj_heap_other (by omega)⟩
 case hI=>
  rintro s W W' row ⟨T,h1,h2,K⟩ bD bc
  exact⟨T,h1,h2,K.kept bD fun r e=>⟨by have:=(bc r e).1;have:=bH.out;omega,(bc r e).2⟩⟩
 case hIx=>
  rintro c s W W' row ⟨cv,col,h1,K⟩ bD bc
  exact⟨cv,col,h1,K.kept bD fun r e=>⟨by have:=(bc r e).1;have:=bH.out;omega,(bc r e).2⟩⟩
 case h0=>exact⟨[],rfl,by simp,dr,ds,dt,du,⟨_,dv,Jo.nil _ _ _⟩,dC,by rw[bH.out];exact Oa2 _⟩
 case assign=>
  intro l x W D A
  gi_wp2
  exact A
 case body=>
  rintro l U x W ⟨T,cO,fp,hI⟩ cB
  obtain⟨dg,fd,db,dS⟩:=bY.piece x
  obtain⟨bZ,dm⟩:∃ bZ,Hid (x.1.2=bZ):=⟨_,rfl⟩
  have dP:(Uk rs x.1).length≤64:=by have:=x.2;unfold Uk;rw[Oc7];omega
  have ch:Hid (∀ r∈Uk rs x.1,r∈rs):=fun r bc=>Oh7 (Om9 bc)
  have cI:Hid (Jfg rs y hs ((U++[x]).map Subtype.val)=Jiu rs y hs (.inl T) x.1):=by show _=_;rw[Ob8,Oe4,Oi4,Juv,cO]
  have fr:ckN rs.length g≤rs.length:=by
   unfold ckN
   rw[Nat.div_le_iff_le_mul_add_pred (by omega)]
   have:rs.length≤g*rs.length:=Nat.le_mul_of_pos_left _ bD
   omega
  have cW:(U++[x]).length=U.length+1:=by simp
  have di:Hid ((U++[x]).length=U.length+1):=cW
  rw[db,dm.out]
  clear cO db cW
  have cJ:Hid (Jiu rs y hs (.inl T) x.1=match Jeo (Uk rs x.1) y hs y.length with|.inl l=>.inl (T++l)|.inr c=>.inr c):=rfl
  generalize Uk rs x.1=rows at *
  have fx:=bO.2.1.1
  have ff:W.cell? ⟨w.heap.size,1,none⟩=some (.slice bB y.length ct):=by simp[World.cell?,hI.b0]
  have dk:Hid (∀ j (dJ:j<hs.length),way (y.getD j 0) hs[j]=true):=da
  clear da
  gi_wp2
  gi_loopw [22] (fun i wr=>∃ (c:Nat) (L:List (List UInt8)),c≤y.length∧i=.int .i64 c∧Hid (Jeo rows y hs c=.inl L)∧Kis w #[.string name,.slice bB y.length ct,.slice X rs.length bj] (.slice bI hs.length bC) wr (T++L)∧KeepsFrom bR.heap.size W wr∧KpC (w.heap.size+1+1+1+1+1) (w.heap.size+1+1+1+1+1+1) W wr) (fun i _=>y.length-(intOf i).toNat)
  case atStart=>exact⟨0,[],Ob7 _,rfl,rfl,by simpa using hI,KeepsFrom.refl _ _,rfl,rfl⟩
  case round=>
   obtain⟨c,L,cv,rfl,bA,bf,bV,cz⟩:=hrel
   have cn:=Jjc rows y hs c L bA.out
   by_cases bW:c<y.length
   ·have br:=bf.below
    have cU:c<hs.length:=by have:=cH.out;omega
    obtain⟨b1,fz,rfl,fq,fJ⟩:=Kc.at (bx.below br) bW
    obtain⟨b2,bz,rfl,bU,ca⟩:=Kc.at (cT.below br) cU
    have c1:=bf.b1.cell
    have fe:wr.cell? ⟨w.heap.size,0,none⟩=some (.string name):=by simp[World.cell?,bf.b0]
    have cx:=Jqm bO ch.out dP c bW cH.out dk.out
    have cy:Uo rows y hs c=Jev y[c] hs[c] (Jaj rows c):=by simp[Uo,bW,cU]
    rw[cy]at cx
    have bP:Hid (Uo rows y hs c=Jev y[c] hs[c] (Jaj rows c)):=cy
    have cG:Hid (∀ W',Below w.heap.size w W'→Calls prog 65 #[.slice dg rows.length bZ,.int .i64 (c:Int)] W' fun e w'=>∃ v,e=.returned v∧Jc9 W' w' (Jaj rows c) v∧Below W'.heap.size W' w'):=fun W' cr=>by
     refine Kj5 dg bZ fd rows c W' (by omega) (dS.below cr) (fun r bc=>?_) (fun r bc=>?_)
     ·obtain⟨i,hi,rfl⟩:=Od5 (ch.out r bc)
      have:=(bO.2.2.2 i hi).1;omega
     obtain⟨i,hi,rfl⟩:=Od5 (ch.out r bc)
     have:=(bO.2.2.2 i hi).1;omega
    have bQ:Hid (∀ W' b,Below w.heap.size w W'→Kv W' b (Jaj rows c) []→Calls prog 64 #[.int .i64 y[c],.int .i64 hs[c],.slice (some ⟨b,0,none⟩) (Jaj rows c).length (Jaj rows c).length] W' fun e w'=>e=.returned (.tuple #[.string (Qw (Jev y[c] hs[c] (Jaj rows c)).1),Jk9 ci bi (Jev y[c] hs[c] (Jaj rows c)).2])∧Below W'.heap.size W' w'):=fun W' b cr dN=>
     (dj.out hs[c] (Ob3 _)).pack y[c] (some ⟨b,0,none⟩) _ (Jaj rows c) W' (by unfold maxLen;simp[Jaj];omega) dN.vals ci bi cK (cS.below cr)
    have dh:Hid (L.length=c):=cn
    have fv:prog.follows .mixedOrders=true:=by kernel_rfl
    clear cy cn bx cT bY cS
    generalize cX:Jev y[c] hs[c] (Jaj rows c)=dX at *
    obtain⟨bK,fA⟩:=dX
    simp only at cx
    rcases cx with rfl|rfl
    ·have cc:Hid (Jeo rows y hs (c+1)=.inl (L++[bK])):=by show _=_;simp only[Jeo,bA.out,bP.out];rfl
     clear cX bA bP
     have bM:=bf.b1.lt
     have cf:Hid (∀ W' b,Below w.heap.size w W'→Kv W' b (Jaj rows c) []→Calls prog 64 #[.int .i64 y[c],.int .i64 hs[c],.slice (some ⟨b,0,none⟩) (Jaj rows c).length (Jaj rows c).length] W' fun e w'=>e=.returned (.tuple #[.string (Qw bK),.nilIface])∧Below W'.heap.size W' w'):=bQ.out
     clear bQ
     gi_wp2
     refine Kix (S:=fun bh=>bh.cell? ⟨w.heap.size+1,0,none⟩=some (.slice (some ⟨b2,bz,none⟩) hs.length bC)∧bh.cell? ⟨b2,bz+c,none⟩=some (.int .i64 hs[c])∧Below w.heap.size w bh) (by kernel_rfl) (by kernel_rfl) ⟨c1,ca,br.drew⟩ (fun E=>?_)
     refine tk 0 ?_ rfl E ?_ (tk 1 ?_ rfl E ?_ (tk 2 ?_ rfl E ?_ (tk 3 ?_ rfl E ?_ (tk 4 ?_ rfl E ?_ (tk 5 ?_ rfl E ?_ (tk 6 ?_ rfl E ?_ ?_))))))
     iterate 7
      rotate_left 1
      ·intro w R;(try dsimp only at R);go_simp;try rfl
     simp only[Act.put,List.getElem_toArray,List.getElem_cons_zero,List.getElem_cons_succ,Oa1,List.set_cons_zero,List.set_cons_succ]
     refine wpAnyH_ready (rs:=[7]) (by kernel_rfl) (by simp) (AllReadyH.cons rfl (fun D A=>?_) AllReadyH.nil)
     go_simp
     refine(cG.out _ E.2.2).mono ?_
     rintro e fc ⟨v,rfl,⟨bq,rfl,dE,cC⟩,bb⟩
     go_simp
     obtain⟨kk,_⟩:=Kx bb
     refine A.out _ _ ⟨(kk (w.heap.size+1) 0 bM).trans c1,(kk b2 (bz+c) bU).trans ca,br.trans ((Jw bb).mono br.size)⟩ (fun O=>?_)
     clear A D kk E
     refine wpAnyH_ready (rs:=[8]) (by kernel_rfl) (by simp) (AllReadyH.cons rfl (fun D A=>?_) AllReadyH.nil)
     go_simp
     refine(cf.out _ _ O.2.2 cC).mono ?_
     rintro e H ⟨rfl,bl⟩
     go_simp
     obtain⟨kk,_⟩:=Kx bl
     have bk:=bb.size
     refine A.out _ _ ⟨(kk (w.heap.size+1) 0 (Oc2 bM bk)).trans O.1,(kk b2 (bz+c) (Oc2 bU bk)).trans O.2.1,O.2.2.trans (bl.mono O.2.2.size)⟩ (fun ba=>?_)
     clear A D kk O
     refine tk 9 ?_ rfl ba ?_ (tk 10 ?_ rfl ba ?_ (tk 11 ?_ rfl ba ?_ (tk 12 ?_ rfl ba ?_ (tk 13 ?_ rfl ba ?_ ?_))))
     iterate 5
      rotate_left 1
      ·intro w R;(try dsimp only at R);go_simp;try rfl
     simp only[Act.put,List.getElem_toArray,List.getElem_cons_zero,List.getElem_cons_succ,Oa1,List.set_cons_zero,List.set_cons_succ]
     refine wpAnyH_done (by kernel_rfl) (Jpf.go ?_) _
     have Z:=bf.ahead ((Jw bb).trans (bl.mono bk))
     obtain⟨sv,bX,bG⟩:=Z.own
     have c4:=bX.cell
     obtain⟨dW,hi,dT,dU,dV⟩:=info_parts Kjq
     have fo:(List.map tv (T++L)).length≤2000:=by rw[Oa6,Oa8,dh.out];omega
     have dx:=Z.size
     obtain⟨fH,fI,bN,_⟩:=bG.cells
     rw[Oa6,Oa8]at bN
     subst bN
     gi_wp2_with (gi_at_builtin;go_must (refine wpListIn_append_own _ rfl _ _ 122 rfl (w.heap.size+7) 9 dW _ 1 16 underlying122 hi dT dU dV rfl (by decide) _ _ _ rfl (Jo.alloc bG _) ⟨H.heap.size,0,none⟩ 1 1 [tv bK] rfl rfl (by exact Ua H _ _) (by intro u cZ;simp at cZ;subst cZ;rfl) (by unfold maxLen;omega) (by omega) (by simp;omega) ?_);intro fb w4 cV dI _;go_must (have bE:=Z.more bX bG _ bK (sv':=fb) (w4:=w4) (by unfold Jo;simpa [On5] using cV) dI);go_must (obtain⟨fm,fh,dQ⟩:=ownsRow_succ cV);subst dQ;have fg:=bE.2.2.2.cell;have fk:=bE.2.2.2.frozen)
     go_roundw
     case rel=>
      have bJ:Below wr.heap.size wr H:=(Jw bb).trans (bl.mono bk)
      have dL:=Kiz bJ
      rw[Oa6,Oa8]at bE
      refine⟨c+1,L++[bK],by omega,by go_num,cc.out,by rw[←Od8];exact bE.1,bV.trans ((dL.trans bE.2.1).from _),?_,?_⟩
      ·exact(bE.2.2.1.1.trans (bJ.block _ (by have:=bf.size;omega))).trans cz.1
      exact(bE.2.2.1.2.trans (bJ.block _ (by have:=bf.size;omega))).trans cz.2
     case measure=>simp[intOf];omega
    have cc:Hid (Jeo rows y hs y.length=.inr c):=Kkc rows y hs c (c+1) y.length (by simp only[Jeo,bA.out,bP.out];rfl) bW
    clear cX bA bP
    have bM:=bf.b1.lt
    have cf:Hid (∀ W' b,Below w.heap.size w W'→Kv W' b (Jaj rows c) []→Calls prog 64 #[.int .i64 y[c],.int .i64 hs[c],.slice (some ⟨b,0,none⟩) (Jaj rows c).length (Jaj rows c).length] W' fun e w'=>e=.returned (.tuple #[.string (Qw bK),.iface 435 (.pointer (some bi))])∧Below W'.heap.size W' w'):=bQ.out
    clear bQ
    gi_wp2
    refine Kix (S:=fun bh=>bh.cell? ⟨w.heap.size+1,0,none⟩=some (.slice (some ⟨b2,bz,none⟩) hs.length bC)∧bh.cell? ⟨b2,bz+c,none⟩=some (.int .i64 hs[c])∧Below w.heap.size w bh) (by kernel_rfl) (by kernel_rfl) ⟨c1,ca,br.drew⟩ (fun E=>?_)
    refine tk 0 ?_ rfl E ?_ (tk 1 ?_ rfl E ?_ (tk 2 ?_ rfl E ?_ (tk 3 ?_ rfl E ?_ (tk 4 ?_ rfl E ?_ (tk 5 ?_ rfl E ?_ (tk 6 ?_ rfl E ?_ ?_))))))
    iterate 7
     rotate_left 1
     ·intro w R;(try dsimp only at R);go_simp;try rfl
    simp only[Act.put,List.getElem_toArray,List.getElem_cons_zero,List.getElem_cons_succ,Oa1,List.set_cons_zero,List.set_cons_succ]
    refine wpAnyH_ready (rs:=[7]) (by kernel_rfl) (by simp) (AllReadyH.cons rfl (fun D A=>?_) AllReadyH.nil)
    go_simp
    refine(cG.out _ E.2.2).mono ?_
    rintro e fc ⟨v,rfl,⟨bq,rfl,dE,cC⟩,bb⟩
    go_simp
    obtain⟨kk,_⟩:=Kx bb
    refine A.out _ _ ⟨(kk (w.heap.size+1) 0 bM).trans c1,(kk b2 (bz+c) bU).trans ca,br.trans ((Jw bb).mono br.size)⟩ (fun O=>?_)
    clear A D kk E
    refine wpAnyH_ready (rs:=[8]) (by kernel_rfl) (by simp) (AllReadyH.cons rfl (fun D A=>?_) AllReadyH.nil)
    go_simp
    refine(cf.out _ _ O.2.2 cC).mono ?_
    rintro e H ⟨rfl,bl⟩
    go_simp
    obtain⟨kk,_⟩:=Kx bl
    have bk:=bb.size
    refine A.out _ _ ⟨(kk (w.heap.size+1) 0 (Oc2 bM bk)).trans O.1,(kk b2 (bz+c) (Oc2 bU bk)).trans O.2.1,O.2.2.trans (bl.mono O.2.2.size)⟩ (fun ba=>?_)
    clear A D kk O
    refine tk 9 ?_ rfl ba ?_ (tk 10 ?_ rfl ba ?_ (tk 11 ?_ rfl ba ?_ (tk 12 ?_ rfl ba ?_ (tk 13 ?_ rfl ba ?_ ?_))))
    iterate 5
     rotate_left 1
     ·intro w R;(try dsimp only at R);go_simp;try rfl
    simp only[Act.put,List.getElem_toArray,List.getElem_cons_zero,List.getElem_cons_succ,Oa1,List.set_cons_zero,List.set_cons_succ]
    refine wpAnyH_done (by kernel_rfl) (Jpf.go ?_) _
    have Z:=bf.ahead ((Jw bb).trans (bl.mono bk))
    have bJ:Below wr.heap.size wr H:=(Jw bb).trans (bl.mono bk)
    have bn:Hid (Jfg rs y hs ((U++[x]).map Subtype.val)=.inr c):=by show _=_;rw[cI.out,cJ.out,cc.out]
    have cj:H.cell? ⟨w.heap.size,0,none⟩=some (.string name):=by simp[World.cell?,Z.b0]
    have dZ:=Z.b2.cell
    have dY:=Z.b2.frozen
    have df:=Z.b3.cell
    have de:=Z.b3.frozen
    have dx:=Z.size
    gi_wp2
    refine Kix (S:=fun bh=>bh.cell? ⟨w.heap.size,0,none⟩=some (.string name)) (by kernel_rfl) (by kernel_rfl) cj (fun bL=>?_)
    refine tk 0 ?_ rfl bL ?_ (tk 1 ?_ rfl bL ?_ (tk 2 ?_ rfl bL ?_ (tk 3 ?_ rfl bL ?_ (tk 4 ?_ rfl bL ?_ ?_))))
    iterate 5
     rotate_left 1
     ·intro w R;(try dsimp only at R);go_simp;try rfl
    simp only[Act.put,List.getElem_toArray,List.getElem_cons_zero,List.getElem_cons_succ,Oa1,List.set_cons_zero,List.set_cons_succ]
    have fE:∀ o,(H.alloc o).cell? ⟨w.heap.size+1+1,0,none⟩=some (.slice none 0 0):=fun o=>(Jnf H o _ 0 (by omega)).trans dZ
    have fB:∀ o,(H.alloc o).frozen? ⟨w.heap.size+1+1,0,none⟩=false:=fun o=>(Jh9 H o _ 0 (by omega)).trans dY
    have fF:∀ o,(H.alloc o).cell? ⟨w.heap.size+1+1+1,0,none⟩=some .nilIface:=fun o=>(Jnf H o _ 0 (by omega)).trans df
    have fC:∀ o,(H.alloc o).frozen? ⟨w.heap.size+1+1+1,0,none⟩=false:=fun o=>(Jh9 H o _ 0 (by omega)).trans de
    refine wpAnyH_ready (rs:=[5,7]) (by kernel_rfl) (by simp) (AllReadyH.cons rfl (fun D A=>?_) (AllReadyH.cons rfl (fun D A=>?_) AllReadyH.nil))
    ·go_simp
     refine A.out _ _ ((Jnf H _ _ _ (by omega)).trans cj) (fun bS=>?_)
     clear A D
     refine tk 6 ?_ rfl bS ?_ ?_
     rotate_left 1
     ·intro w R;(try dsimp only at R);go_simp;try rfl
     simp only[Act.put,List.getElem_toArray,List.getElem_cons_zero,List.getElem_cons_succ,Oa1,List.set_cons_zero,List.set_cons_succ]
     refine wpAnyH_ready (rs:=[7]) (by kernel_rfl) (by simp) (AllReadyH.cons rfl (fun D A=>?_) AllReadyH.nil)
     go_simp
     refine A.out _ _ ((Ob5 _ _ _ _ (by simp)).trans bS) (fun bT=>?_)
     clear A D
     refine wpAnyH_ready (rs:=[8]) (by kernel_rfl) (by simp) (AllReadyH.cons rfl (fun D A=>?_) AllReadyH.nil)
     go_simp
     refine A.out _ _ ((Ob5 _ _ _ _ (by simp)).trans bT) (fun dz=>?_)
     clear A D
     refine wpAnyH_done (by kernel_rfl) (Jpf.go ?_) _
     gi_wp2
     have bx:=Z.badA name c bi
     exact⟨bV.trans (((Kiz bJ).trans bx.2).from _),rfl,c,bn.out,bx.1⟩
    go_simp
    refine A.out _ _ ((Ob5 _ _ _ _ (by simp)).trans cj) (fun bS=>?_)
    clear A D
    have cD:(H.setCell ⟨w.heap.size+1+1,0,none⟩ (.slice none 0 0)).heap.size=H.heap.size:=by simp[World.setCell]
    have fG:∀ o,((H.setCell ⟨w.heap.size+1+1,0,none⟩ (.slice none 0 0)).alloc o).cell? ⟨w.heap.size+1+1+1,0,none⟩=some .nilIface:=fun o=>(Jnf _ o _ 0 (by rw[cD];omega)).trans ((Ob5 _ _ _ _ (by simp)).trans df)
    have fD:∀ o,((H.setCell ⟨w.heap.size+1+1,0,none⟩ (.slice none 0 0)).alloc o).frozen? ⟨w.heap.size+1+1+1,0,none⟩=false:=fun o=>(Jh9 _ o _ 0 (by rw[cD];omega)).trans ((On9 _ _ _ _).trans de)
    refine wpAnyH_ready (rs:=[5]) (by kernel_rfl) (by simp) (AllReadyH.cons rfl (fun D A=>?_) AllReadyH.nil)
    go_simp
    refine A.out _ _ ((Jnf _ _ _ _ (by rw[cD];omega)).trans bS) (fun bT=>?_)
    clear A D
    refine tk 6 ?_ rfl bT ?_ ?_
    rotate_left 1
    ·intro w R;(try dsimp only at R);go_simp;try rfl
    simp only[Act.put,List.getElem_toArray,List.getElem_cons_zero,List.getElem_cons_succ,Oa1,List.set_cons_zero,List.set_cons_succ]
    refine wpAnyH_ready (rs:=[8]) (by kernel_rfl) (by simp) (AllReadyH.cons rfl (fun D A=>?_) AllReadyH.nil)
    go_simp
    refine A.out _ _ ((Ob5 _ _ _ _ (by simp)).trans bT) (fun dz=>?_)
    clear A D
    refine wpAnyH_done (by kernel_rfl) (Jpf.go ?_) _
    gi_wp2
    have bx:=Z.badB name c bi
    exact⟨bV.trans (((Kiz bJ).trans bx.2).from _),rfl,c,bn.out,bx.1⟩
   obtain rfl:c=y.length:=by omega
   have bn:Hid (Jfg rs y hs ((U++[x]).map Subtype.val)=.inl (T++L)):=by show _=_;rw[cI.out,cJ.out,bA.out]
   clear cn
   gi_wp2
   exact⟨bV,cz,T++L,bn.out,by rw[di.out,Oa8,Jjc rows y hs _ L bA.out];omega,bf⟩
 case done=>
  rintro M fK W dy dc ⟨T,h1,h2,K⟩ A
  rw[dc]at h1
  obtain⟨sv,bX,bG⟩:=K.own
  obtain⟨a,cap,bN,fs⟩:=bG.cells
  rw[Oa6]at bN
  subst bN
  have c4:=bX.cell
  have c2:=K.b2.cell
  have fi:=K.b2.frozen
  have c3:=K.b3.cell
  have fj:=K.b3.frozen
  have bn:Hid (Jfg rs y hs (cks rs.length g (ckN rs.length g))=.inl T):=h1
  have cb:=K
  replace cb:Hid (Kis w #[.string name,.slice bB y.length ct,.slice X rs.length bj] (.slice bI hs.length bC) W T):=cb
  clear h1 K dc
  gi_wp2
  have cl:=((KeepsOthers.setCell W ⟨w.heap.size+1+1,0,none⟩ (.slice a T.length cap)).trans (KeepsOthers.setCell _ ⟨w.heap.size+1+1+1,0,none⟩ .nilIface)).same M _ A rfl
  refine⟨by simp,.inl ⟨_,_,rfl,run_takeDeferred cl,?_⟩⟩
  have g2:((W.setCell ⟨w.heap.size+1+1,0,none⟩ (.slice a T.length cap)).setCell ⟨w.heap.size+1+1+1,0,none⟩ .nilIface).cell? ⟨w.heap.size+1+1,0,none⟩=some (.slice a T.length cap):=by
   rw[Ob5 _ _ _ _ (by simp)]
   exact Oj0 _ _ _ (by rw[c2];rfl)
  have dw:((W.setCell ⟨w.heap.size+1+1,0,none⟩ (.slice a T.length cap)).setCell ⟨w.heap.size+1+1+1,0,none⟩ .nilIface).cell? ⟨w.heap.size+1+1+1,0,none⟩=some .nilIface:=
   Oj0 _ _ _ (by rw[Ob5 _ _ _ _ (by simp),c3];rfl)
  have bu:∀ r,some M=some r→∃ o:Obj,((W.setCell ⟨w.heap.size+1+1,0,none⟩ (.slice a T.length cap)).setCell ⟨w.heap.size+1+1+1,0,none⟩ .nilIface).heap[r]?=some o∧o.isCells=false:=fun r e=>by cases e;exact⟨_,cl,rfl⟩
  have cE:=cell_kept g2 (grownBy_putObj' _ M (.deferred none)) bu
  have cF:=cell_kept dw (grownBy_putObj' _ M (.deferred none)) bu
  refine⟨.tuple #[.slice a T.length cap,.nilIface],by simp[results,Tryz.f46,go_sem,cE,cF],?_⟩
  rw[bn.out]
  have cu:Below w.heap.size w ((W.setCell ⟨w.heap.size+1+1,0,none⟩ (.slice a T.length cap)).setCell ⟨w.heap.size+1+1+1,0,none⟩ .nilIface):=(cb.out.below.setCell (p:=⟨w.heap.size+1+1,0,none⟩) (by simp;omega) _).setCell (p:=⟨w.heap.size+1+1+1,0,none⟩) (by simp;omega) _
  have dM:Jo ((W.setCell ⟨w.heap.size+1+1,0,none⟩ (.slice a T.length cap)).setCell ⟨w.heap.size+1+1+1,0,none⟩ .nilIface) (w.heap.size+7) 9 (.slice a T.length cap) (T.map tv):=Yd bG fun fl dG=>by
   have:=(Je bG dG).1
   rw[Oa4 _ _ _ _ (by simp;omega),Oa4 _ _ _ _ (by simp;omega)]
  have cA:=Kjl dM (grownBy_putObj' _ M (.deferred none)) bu
  refine⟨cu.trans (belowK_b (w:=w) (Oa2 _) _ M _ _ (by have:=bH.out;omega) cl rfl rfl),a,cap,rfl,(Jji cA).1,fun b o dA=>?_⟩
  have:=(Je cA ((Jji cA).2 b o dA)).1
  omega
 case stop=>
  rintro M c U W dy ⟨k,dK,cB⟩ ⟨rfl,col,h1,K⟩ A
  rw[cB]at h1
  obtain⟨fL,dd⟩:=Jvd rs.length g k _ dK
  have bn:Hid (Jfg rs y hs (cks rs.length g (ckN rs.length g))=.inr col):=by show _=_;rw[dd];exact Kkl rs y hs _ _ _ h1
  obtain⟨b,dB,dD,dp,dq⟩:=K.b3
  have c2:=K.b2.cell
  have c3:=dB.cell
  have cu:=K.below
  clear h1 K cB dd
  gi_wp2
  have bu:∀ r,some M=some r→∃ o:Obj,W.heap[r]?=some o∧o.isCells=false:=fun r e=>by cases e;exact⟨_,A,rfl⟩
  refine⟨by simp,.inl ⟨_,_,rfl,run_takeDeferred A,?_⟩⟩
  have cE:=cell_kept c2 (grownBy_putObj' _ M (.deferred none)) bu
  have cF:=cell_kept c3 (grownBy_putObj' _ M (.deferred none)) bu
  refine⟨.tuple #[.slice none 0 0,.iface 126 (.pointer (some ⟨b,0,none⟩))],by simp[results,Tryz.f46,go_sem,cE,cF],?_⟩
  rw[bn.out]
  exact⟨cu.trans (belowK_b (w:=w) (Oa2 _) _ M _ _ (by have:=bH.out;omega) A rfl rfl),b,rfl,dD,.tab b bi col (cell_kept dp (grownBy_putObj' _ M (.deferred none)) bu) (cell_kept dq (grownBy_putObj' _ M (.deferred none)) bu)⟩
end Go.Proofs.YtdlgbphkaicfaaaGreatDoor
