/- pack, walked. -/
import Derived.Test.YtjjdldddcegjiaaGreatDoorTi
import Derived.Test.YtjjdldddcegjiaaGreatDoorKq
import Derived.Test.YtjjdldddcegjiaaGreatDoorIv
import Derived.Test.YtjjdldddcegjiaaGreatDoorEw
set_option maxHeartbeats 4000000
set_option maxRecDepth 100000
namespace Go.Proofs.YtjjdldddcegjiaaGreatDoor
open Go.RowKit Go.Shelf Tryz
attribute [local go_sem] Oc0
theorem Kjq:(prog.info? 9).map (fun i=>(i.zero,i.size,i.bytes))=some (some (.string ⟨#[]⟩),1,16):=by kernel_rfl
structure Kis (w:World) (C0:Array Value) (hv:Value) (W:World) (T:List (List UInt8)):Prop where
 b0:W.heap[w.heap.size]?=some (.cells C0 25 (0,0))
 b1:Boxed W (w.heap.size+1) 22 hv
 b2:Boxed W (w.heap.size+1+1) 129 (.slice none 0 0)
 b3:Boxed W (w.heap.size+1+1+1) 77 .nilIface
 own:∃ sv,Boxed W (w.heap.size+1+1+1+1) 129 sv∧Jo W (w.heap.size+7) 9 sv (T.map tv)
 below:Below w.heap.size w W
 size:w.heap.size+7≤W.heap.size
theorem Kir {W z:World}{row:Option Nat}{k:Nat}{y:Array Value}{t:TypeId}{A:Nat×Nat}(h:W.heap[k]?=some (.cells y t A))(E:W.grownBy z row)(H:∀ r,row=some r→∃ o:Obj,W.heap[r]?=some o∧o.isCells=false):z.heap[k]?=some (.cells y t A):=by
 refine(E.block k (Jd h) fun e=>?_).trans h
 obtain⟨o,C,D⟩:=H k e.symm
 rw[h]at C
 cases C
 cases D
theorem Kjl {W A:World}{row:Option Nat}{B:Nat}{e:TypeId}{sv:Value}{xs:List Value}(h:Jo W B e sv xs)(D:W.grownBy A row)(E:∀ r,row=some r→∃ o:Obj,W.heap[r]?=some o∧o.isCells=false):Jo A B e sv xs:=by
 refine Yd h fun g y=>?_
 rcases h.2 with⟨z,_⟩|⟨K,cap,H,z,_,C,_⟩
 ·subst z;simp[Value.ownBlock]at y
 subst z
 simp[Value.ownBlock]at y
 subst y
 rw[C]
 exact Kir C D E
theorem Kis.kept {w:World}{A:Array Value}{E:Value}{W C:World}{T:List (List UInt8)}{row:Option Nat}(h:Kis w A E W T)(y:W.grownBy C row)(D:∀ r,row=some r→w.heap.size≤r∧∃ o:Obj,W.heap[r]?=some o∧o.isCells=false):Kis w A E C T:=by
 obtain⟨sv,hs,H⟩:=h.own
 have z:∀ r,row=some r→∃ o:Obj,W.heap[r]?=some o∧o.isCells=false:=fun r e=>(D r e).2
 exact⟨Kir h.b0 y z,Kir h.b1 y z,Kir h.b2 y z,Kir h.b3 y z,⟨sv,Kir hs y z,Kjl H y z⟩,h.below.grown y h.below.size (fun k e=>(D k e).1),Ob2 h.size y.size⟩
theorem Kis.ahead {w:World}{z:Array Value}{C:Value}{W A:World}{T:List (List UInt8)}(h:Kis w z C W T)(y:Below W.heap.size W A):Kis w z C A T:=
 h.kept (row:=none) ⟨y.os,y.tape,y.output,y.size,fun k D _=>y.block k D⟩ (fun r e=>by cases e)
structure Ki7 (w:World) (a1:Addr) (W:World) (col:Nat):Prop where
 b2:Boxed W (w.heap.size+1+1) 129 (.slice none 0 0)
 b3:∃ b,Boxed W (w.heap.size+1+1+1) 77 (.iface 133 (.pointer (some ⟨b,0,none⟩)))∧w.heap.size≤b∧W.cell? ⟨b,1,none⟩=some (.int .i64 (col:Int))∧W.cell? ⟨b,2,none⟩=some (.iface 443 (.pointer (some a1)))
 below:Below w.heap.size w W
theorem Ki7.kept {w:World}{C:Addr}{W A:World}{col:Nat}{row:Option Nat}(h:Ki7 w C W col)(y:W.grownBy A row)(D:∀ r,row=some r→w.heap.size≤r∧∃ o:Obj,W.heap[r]?=some o∧o.isCells=false):Ki7 w C A col:=by
 obtain⟨b,E,H,c1,c2⟩:=h.b3
 have z:∀ r,row=some r→∃ o:Obj,W.heap[r]?=some o∧o.isCells=false:=fun r e=>(D r e).2
 exact⟨Kir h.b2 y z,⟨b,Kir E y z,H,cell_kept c1 y z,cell_kept c2 y z⟩,h.below.grown y h.below.size (fun k e=>(D k e).1)⟩
def Kkr (w:World)(y:Addr)(r:List (List UInt8)⊕Nat)(e:Ending)(w':World):Prop:=
 Below w.heap.size w w'∧match r with
  |.inl T=>∃ a cap,e=.returned (.tuple #[.slice a T.length cap,.nilIface])∧Uh w' a (T.map tv)∧∀ b o,a=some ⟨b,o,none⟩→w.heap.size≤b
  |.inr c=>∃ b,e=.returned (.tuple #[.slice none 0 0,.iface 133 (.pointer (some ⟨b,0,none⟩))])∧w.heap.size≤b∧Yu w' (.iface 133 (.pointer (some ⟨b,0,none⟩))) y (some (c:Int)) none
theorem Jb4 (w:World)(o:Obj)(k:Nat)(y:k=w.heap.size):(w.alloc o).heap[k]?=some o:=by subst y;exact heap_alloc_new w o
theorem Kkx (w:World)(y z A C D E H:Obj)(W:World)(hW:(((((((w.alloc y).alloc z).alloc A).alloc C).alloc D).alloc E).alloc H)=W) :
  W.heap.size=w.heap.size+7∧W.heap[w.heap.size]?=some y∧W.heap[w.heap.size+1]?=some z∧W.heap[w.heap.size+1+1]?=some A∧W.heap[w.heap.size+1+1+1]?=some C∧W.heap[w.heap.size+1+1+1+1]?=some D∧W.heap[w.heap.size+1+1+1+1+1]?=some E∧W.heap[w.heap.size+1+1+1+1+1+1]?=some H∧Below w.heap.size w W:=by
 subst hW
 refine⟨by simp,?_,?_,?_,?_,?_,?_,?_,?_⟩
 ·rw[Oa9 _ _ _ (by simp only[Oa7];omega),Oa9 _ _ _ (by simp only[Oa7];omega),Oa9 _ _ _ (by simp only[Oa7];omega),Oa9 _ _ _ (by simp only[Oa7];omega),Oa9 _ _ _ (by simp only[Oa7];omega),Oa9 _ _ _ (by simp)];exact Jb4 _ _ _ rfl
 ·rw[Oa9 _ _ _ (by simp only[Oa7];omega),Oa9 _ _ _ (by simp only[Oa7];omega),Oa9 _ _ _ (by simp only[Oa7];omega),Oa9 _ _ _ (by simp only[Oa7];omega),Oa9 _ _ _ (by simp)];exact Jb4 _ _ _ (by simp only[Oa7])
 ·rw[Oa9 _ _ _ (by simp only[Oa7];omega),Oa9 _ _ _ (by simp only[Oa7];omega),Oa9 _ _ _ (by simp only[Oa7];omega),Oa9 _ _ _ (by simp)];exact Jb4 _ _ _ (by simp only[Oa7])
 ·rw[Oa9 _ _ _ (by simp only[Oa7];omega),Oa9 _ _ _ (by simp only[Oa7];omega),Oa9 _ _ _ (by simp)];exact Jb4 _ _ _ (by simp only[Oa7])
 ·rw[Oa9 _ _ _ (by simp only[Oa7];omega),Oa9 _ _ _ (by simp)];exact Jb4 _ _ _ (by simp only[Oa7])
 ·rw[Oa9 _ _ _ (by simp)];exact Jb4 _ _ _ (by simp only[Oa7])
 ·exact Jb4 _ _ _ (by simp only[Oa7])
 exact(((((((Oa5 _ w).alloc (Oa2 _) _).alloc (by simp) _).alloc (by simp;omega) _).alloc (by simp;omega) _).alloc (by simp;omega) _).alloc (by simp;omega) _).alloc (by simp;omega) _
theorem Jpf.go {Q:Exit→Act→World→Prop}{a:Act}{w:World}(h:Q .normal a w):Jpf Q .normal a w:=h
theorem Kis.more {w:World}{H:Array Value}{D:Value}{y w4:World}{T:List (List UInt8)}{sv sv':Value}(h:Kis w H D y T)(bl:Boxed y (w.heap.size+1+1+1+1) 129 sv)(U:Jo y (w.heap.size+7) 9 sv (T.map tv))(o:Obj)(bc:List UInt8)
  (X:Jo w4 (w.heap.size+7) 9 sv' (T.map tv++[tv bc])) (z:(y.alloc o).grownBy w4 sv.ownBlock) :
  Kis w H D (w4.setCell ⟨w.heap.size+1+1+1+1,0,none⟩ sv') (T++[bc])∧KeepsOthers y (w4.setCell ⟨w.heap.size+1+1+1+1,0,none⟩ sv')∧KpC (w.heap.size+1+1+1+1+1) (w.heap.size+1+1+1+1+1+1) y (w4.setCell ⟨w.heap.size+1+1+1+1,0,none⟩ sv')∧Boxed w4 (w.heap.size+1+1+1+1) 129 sv:=by
 have br:=h.size
 have Z:∀ g,sv.ownBlock=some g→w.heap.size+7≤g:=fun g z=>(Je U z).1
 have bj:∀ k,k<y.heap.size→sv.ownBlock≠some k→w4.heap[k]?=y.heap[k]?:=fun k A E=>(z.block k (by simp;omega) (Oc5 E)).trans (Oa9 y o k A)
 have O:∀ k,k<w.heap.size+7→w4.heap[k]?=y.heap[k]?:=fun k A=>bj k (by omega) fun e=>by have:=Z k e;omega
 have M:Boxed w4 (w.heap.size+1+1+1+1) 129 sv:=(O _ (by omega)).trans bl
 have C:∀ k,k<w.heap.size+7→k≠w.heap.size+1+1+1+1→(w4.setCell ⟨w.heap.size+1+1+1+1,0,none⟩ sv').heap[k]?=y.heap[k]?:=fun k A E=>(Oa4 _ _ _ _ E).trans (O k A)
 have bh:=z.size
 rw[Oa7]at bh
 have bi:(w4.setCell ⟨w.heap.size+1+1+1+1,0,none⟩ sv').heap.size=w4.heap.size:=by simp[World.setCell]
 refine⟨⟨(C _ (by omega) (by omega)).trans h.b0,(C _ (by omega) (by omega)).trans h.b1,(C _ (by omega) (by omega)).trans h.b2,(C _ (by omega) (by omega)).trans h.b3,⟨sv',M.set sv',?_⟩,?_,by rw[bi];omega⟩,?_,⟨C _ (by omega) (by omega),C _ (by omega) (by omega)⟩,M⟩
 ·rw[Ob8]
  exact Yd X fun g bf=>Oa4 _ _ _ _ (by have:=(Je X bf).1;simp;omega)
 ·exact((h.below.alloc h.below.size o).grown z (by simp;omega) (fun k A=>by have:=Z k A;omega)).setCell (p:=⟨w.heap.size+1+1+1+1,0,none⟩) (by simp;omega) _
 refine(KeepsOthers.alloc y o).trans ((KeepsOthers.of_grownBy z fun j ob e R=>?_).trans (KeepsOthers.setCell _ _ _))
 rcases U.2 with⟨D,_⟩|⟨g,cap,bn,D,_,K,_⟩
 ·subst D;simp[Value.ownBlock]at e
 subst D
 simp[Value.ownBlock]at e
 subst e
 rw[Oa9 _ _ _ (Jd K),K]at R
 cases R
 rfl
theorem Kis.bad {w:World}{H:Array Value}{U:Value}{y:World}{T:List (List UInt8)}(h:Kis w H U y T)(name:ByteArray)(c:Nat)(C:Addr)(z:World)(E:z.heap[y.heap.size]?=some (.cells #[.string name,.int .i64 (c:Int),.iface 443 (.pointer (some C))] 135 (0,0)))
  (K:Boxed z (w.heap.size+1+1) 129 (.slice none 0 0)) (M:Boxed z (w.heap.size+1+1+1) 77 (.iface 133 (.pointer (some ⟨y.heap.size,0,none⟩)))) (O:Below w.heap.size w z) (hs:y.heap.size≤z.heap.size)
  (R:∀ k,k<y.heap.size→k≠w.heap.size+1+1→k≠w.heap.size+1+1+1→z.heap[k]?=y.heap[k]?):Ki7 w C z c∧KeepsOthers y z:=by
 have X:=h.size
 refine⟨⟨K,⟨y.heap.size,M,by omega,by simp[World.cell?,E],by simp[World.cell?,E]⟩,O⟩,hs,fun k o A D=>?_⟩
 refine(R k (Jd A) (fun e=>?_) (fun e=>?_)).trans A
 ·subst e
  rw[show y.heap[w.heap.size+1+1]?=_ from h.b2]at A
  cases A
  cases D
 subst e
 rw[show y.heap[w.heap.size+1+1+1]?=_ from h.b3]at A
 cases A
 cases D
theorem Kis.badA {w:World}{A:Array Value}{K:Value}{y:World}{T:List (List UInt8)}(h:Kis w A K y T)(name:ByteArray)(c:Nat)(z:Addr) :
  Ki7 w z (((y.alloc (.cells #[.string name,.int .i64 (c:Int),.iface 443 (.pointer (some z))] 135)).setCell ⟨w.heap.size+1+1,0,none⟩ (.slice none 0 0)).setCell ⟨w.heap.size+1+1+1,0,none⟩ (.iface 133 (.pointer (some ⟨y.heap.size,0,none⟩)))).drew c ∧
  KeepsOthers y (((y.alloc (.cells #[.string name,.int .i64 (c:Int),.iface 443 (.pointer (some z))] 135)).setCell ⟨w.heap.size+1+1,0,none⟩ (.slice none 0 0)).setCell ⟨w.heap.size+1+1+1,0,none⟩ (.iface 133 (.pointer (some ⟨y.heap.size,0,none⟩)))).drew:=by
 have M:=h.size
 have E:Boxed ((y.alloc (.cells #[.string name,.int .i64 (c:Int),.iface 443 (.pointer (some z))] 135)).setCell ⟨w.heap.size+1+1,0,none⟩ (.slice none 0 0)) (w.heap.size+1+1+1) 77 .nilIface:=(Oa4 _ _ _ _ (by simp)).trans (h.b3.alloc _)
 refine h.bad name c z _ ?_ ?_ ?_ ?_ ?_ ?_
 ·exact(Oa4 _ _ _ _ (by simp;omega)).trans ((Oa4 _ _ _ _ (by simp;omega)).trans (heap_alloc_new _ _))
 ·exact(Oa4 _ _ _ _ (by simp)).trans ((h.b2.alloc _).set _)
 ·exact E.set _
 ·exact(((h.below.alloc h.below.size _).setCell (p:=⟨w.heap.size+1+1,0,none⟩) (by simp;omega) _).setCell (p:=⟨w.heap.size+1+1+1,0,none⟩) (by simp;omega) _).drew
 ·show y.heap.size≤((((y.alloc _).setCell _ _).setCell _ _).heap).size
  simp[World.setCell]
 intro k H C D
 exact(Oa4 _ _ _ _ D).trans ((Oa4 _ _ _ _ C).trans (Oa9 _ _ _ H))
theorem Kis.badB {w:World}{D:Array Value}{O:Value}{y:World}{T:List (List UInt8)}(h:Kis w D O y T)(name:ByteArray)(c:Nat)(z:Addr) :
  Ki7 w z (((y.setCell ⟨w.heap.size+1+1,0,none⟩ (.slice none 0 0)).alloc (.cells #[.string name,.int .i64 (c:Int),.iface 443 (.pointer (some z))] 135)).setCell ⟨w.heap.size+1+1+1,0,none⟩ (.iface 133 (.pointer (some ⟨y.heap.size,0,none⟩)))).drew c ∧
  KeepsOthers y (((y.setCell ⟨w.heap.size+1+1,0,none⟩ (.slice none 0 0)).alloc (.cells #[.string name,.int .i64 (c:Int),.iface 443 (.pointer (some z))] 135)).setCell ⟨w.heap.size+1+1+1,0,none⟩ (.iface 133 (.pointer (some ⟨y.heap.size,0,none⟩)))).drew:=by
 have R:=h.size
 have A:(y.setCell ⟨w.heap.size+1+1,0,none⟩ (.slice none 0 0)).heap.size=y.heap.size:=by simp[World.setCell]
 have K:Boxed ((y.setCell ⟨w.heap.size+1+1,0,none⟩ (.slice none 0 0)).alloc (.cells #[.string name,.int .i64 (c:Int),.iface 443 (.pointer (some z))] 135)) (w.heap.size+1+1+1) 77 .nilIface:=Boxed.alloc ((Oa4 _ _ _ _ (by simp)).trans h.b3) _
 have C:=heap_alloc_new (y.setCell ⟨w.heap.size+1+1,0,none⟩ (.slice none 0 0)) (.cells #[.string name,.int .i64 (c:Int),.iface 443 (.pointer (some z))] 135)
 rw[A]at C
 refine h.bad name c z _ ?_ ?_ ?_ ?_ ?_ ?_
 ·exact(Oa4 _ _ _ _ (by simp;omega)).trans C
 ·exact(Oa4 _ _ _ _ (by simp)).trans ((h.b2.set _).alloc _)
 ·exact K.set _
 ·exact(((h.below.setCell (p:=⟨w.heap.size+1+1,0,none⟩) (by simp;omega) _).alloc (by rw[A];omega) _).setCell (p:=⟨w.heap.size+1+1+1,0,none⟩) (by simp;omega) _).drew
 ·show y.heap.size≤((((y.setCell _ _).alloc _).setCell _ _).heap).size
  simp[World.setCell]
 intro k M E H
 exact(Oa4 _ _ _ _ H).trans ((Oa9 _ _ _ (by rw[A];exact M)).trans (Oa4 _ _ _ _ E))
theorem Jqm {name:ByteArray}{y hs:List Int}{rs rows:List (List V)}(R:Jel name y rs)(O:∀ r∈rows,r∈rs)(M:rows.length≤64)(c:Nat)(bc:c<y.length)(bf:hs.length=y.length)(X:∀ j (A:j<hs.length),way (y.getD j 0) hs[j]=true) :
  (Uo rows y hs c).2=0∨(Uo rows y hs c).2=2:=by
 have U:=X c (by omega)
 have D:hs.getD c 0=hs[c]'(by omega):=by simp[show c<hs.length by omega]
 have H:Jfr (y.getD c 0) (Jaj rows c)=true:=by
  rw[Jfd]
  refine⟨by simpa [Jaj] using M,fun j A=>?_⟩
  have E:j<rows.length:=by simpa [Jaj] using A
  obtain⟨i,hi,K⟩:=Od5 (O _ (Ob3 E))
  obtain⟨Z,C⟩:=R.2.2.2 i hi
  have z:c<(rs[i]).length:=by omega
  have:=C c z
  have e:(Jaj rows c)[j]=(rs[i])[c]:=by
   simp only[Jaj,Od9,Oa0]
   simp only[←K,Oa3 z,Option.getD_some]
  rw[e]
  exact this
 unfold Uo Jev
 rw[D,U,H,Bool.and_self,if_pos rfl]
 split
 ·exact .inr rfl
 exact .inl rfl
theorem Kkk (name:ByteArray)(bE U bL:Option Addr)(ct bn bG g:Nat)(y hs:List Int)(xs:List (Option Addr×Nat))(rs:List (List V))(w:World)(bR:Jel name y rs)(cK:Hid (hs.length=y.length))(de:∀ j (dN:j<hs.length),way (y.getD j 0) hs[j]=true)(bH:1≤g)(dL:g≤64)(dS:rs.length≤bn)
  (bB:Kc w bE y) (cX:Kc w bL hs) (cb:Zd w U xs rs) (dq:Hid (∀ x∈hs,Kjk x)) (cn bl cO:Addr) (cW:Jf0 w cn bl cO) :
  Calls prog 57 #[.agg #[.string name,.slice bE y.length ct,.slice U rs.length bn],.slice bL hs.length bG,.int .i64 (g:Int)] w fun e w'=>Kkr w bl (Jfg rs y hs (cks rs.length g (ckN rs.length g))) e w':=by
 refine(callsIn_wide (n:=3)).1 ?_
 refine callsIn_of_wp_marks func57 rfl trivial ?_ rfl
 simp only[ntmps57,Om3,List.length_cons,List.length_nil,Nat.reduceAdd,Nat.reduceSub,Ok9,Array.replicate_zero,Om4,Ol2,List.nil_append,List.cons_append]
 have cV:=fun (W:World)=>Kke U rs.length bn g bH W
 gi_wp2_with (refine⟨trivial,?_⟩;gi_at_call 74;refine(callsIn_wide.2 (cV _)).mono ?_;rintro e w' ⟨rfl,rfl⟩)
 generalize cU:World.alloc _ (Obj.cells #[.int .i64 (g:Int)] 3)=bU
 obtain⟨dc,dv,dw,dx,dy,dz,cP,cQ,dH⟩:=Kkx w _ _ _ _ _ _ _ bU cU
 have bK:Hid (bU.heap.size=w.heap.size+7):=dc
 clear cU dc cV
 have dV:rs.length=0∨∃ b o,U=some ⟨b,o,none⟩:=by
  rcases cb.cells with h|⟨b,o,h,_⟩
  ·left
   have:=congrArg List.length h
   simp[cb.len]at this
   exact Od3.2 this
  exact .inr ⟨b,o,h⟩
 have fy:rs.length≤200:=bR.2.2.1
 refine wpIn_rangeFunc_ownG rfl (by omega) (gf:=99) (lb:=#[.pointer (some ⟨w.heap.size+1+1+1+1+1,0,none⟩),.pointer (some ⟨w.heap.size+1+1+1+1+1+1,0,none⟩)]) rfl trivial (enters_of func99 (by kernel_rfl) rfl)
  (Kjw 2 (by omega) (w.heap.size+1+1+1+1+1) (w.heap.size+1+1+1+1+1+1) U rs.length bn g bH dL (by omega) dS dV bU (Jd cP) (Jd cQ) (by simp[World.cell?,cP]) (by simp[World.cell?,cQ]))
  (fun h k=>⟨k.1.trans h.1,k.2.trans h.2⟩) ?hKb (Oa5 _ _) (fun _=>rfl)
  (fun R W=>∃ T,Jfg rs y hs (R.map Subtype.val)=.inl T∧T.length≤R.length*6∧Kis w #[.string name,.slice bE y.length ct,.slice U rs.length bn] (.slice bL hs.length bG) W T)
  (fun c R W=>c=.ret∧∃ col,Jfg rs y hs (R.map Subtype.val)=.inr col∧Ki7 w bl W col)
  ?hI ?hIx ?h0
  (fun x=>{tmps:=#[.agg #[.string name,.slice bE y.length ct,.slice U rs.length bn],.slice bL hs.length bG,.int .i64 (g:Int),.pointer (some ⟨w.heap.size,0,none⟩),.pointer (some ⟨w.heap.size+1,0,none⟩),undef,.pointer (some ⟨w.heap.size+1+1,0,none⟩),.pointer (some ⟨w.heap.size+1+1+1,0,none⟩),.pointer (some ⟨w.heap.size+1+1+1+1,0,none⟩),ckV U x.1,undef,undef,undef,undef,
   .pointer (some ⟨w.heap.size,2,none⟩),.slice U rs.length bn,.int .i64 (g:Int),.func (.func 99) #[] #[.pointer (some ⟨w.heap.size+1+1+1+1+1,0,none⟩),.pointer (some ⟨w.heap.size+1+1+1+1+1+1,0,none⟩)],ckV U x.1,undef,undef,undef,undef,undef,undef,undef,undef,undef,undef,undef,undef,undef,undef,undef,undef,undef,undef,undef,undef,undef,undef,undef,undef,undef,undef,undef,undef,undef,undef,undef,undef,undef,undef,undef],defers:=[]}) ?assign ?body ?done ?stop
 case hKb=>
  intro W l o fC fx fA cz _
  have:=bK.out
  exact⟨World.putObj_heap_other (by omega),World.putObj_heap_other (by omega)⟩
 case hI=>
  rintro s W A row ⟨T,Z,cS,H⟩ bH bh
  exact⟨T,Z,cS,H.kept bH fun r e=>⟨by have:=(bh r e).1;have:=bK.out;omega,(bh r e).2⟩⟩
 case hIx=>
  rintro c s W A row ⟨cz,col,Z,H⟩ bH bh
  exact⟨cz,col,Z,H.kept bH fun r e=>⟨by have:=(bh r e).1;have:=bK.out;omega,(bh r e).2⟩⟩
 case h0=>exact⟨[],rfl,by simp,dv,dw,dx,dy,⟨_,dz,Jo.nil _ _ _⟩,dH,by rw[bK.out];exact Oa2 _⟩
 case assign=>
  intro l x W C z
  gi_wp2
  exact z
 case body=>
  rintro l R x W ⟨T,cT,ft,hI⟩ cE
  obtain⟨dk,fh,df,dW⟩:=cb.piece x
  obtain⟨cc,ds⟩:∃ cc,Hid (x.1.2=cc):=⟨_,rfl⟩
  have dT:(Uk rs x.1).length≤64:=by have:=x.2;unfold Uk;rw[Oc7];omega
  have cl:Hid (∀ r∈Uk rs x.1,r∈rs):=fun r bh=>Oh7 (Om9 bh)
  have cM:Hid (Jfg rs y hs ((R++[x]).map Subtype.val)=Jiu rs y hs (.inl T) x.1):=by show _=_;rw[Ob8,Oe4,Oi4,Juv,cT]
  have fv:ckN rs.length g≤rs.length:=by
   unfold ckN
   rw[Nat.div_le_iff_le_mul_add_pred (by omega)]
   have:rs.length≤g*rs.length:=Nat.le_mul_of_pos_left _ bH
   omega
  have da:(R++[x]).length=R.length+1:=by simp
  have dp:Hid ((R++[x]).length=R.length+1):=da
  rw[df,ds.out]
  clear cT df da
  have cN:Hid (Jiu rs y hs (.inl T) x.1=match Jeo (Uk rs x.1) y hs y.length with|.inl l=>.inl (T++l)|.inr c=>.inr c):=rfl
  generalize Uk rs x.1=rows at *
  have fB:=bR.2.1.1
  have fj:W.cell? ⟨w.heap.size,1,none⟩=some (.slice bE y.length ct):=by simp[World.cell?,hI.b0]
  have dr:Hid (∀ j (dN:j<hs.length),way (y.getD j 0) hs[j]=true):=de
  clear de
  gi_wp2
  gi_loopw [22] (fun i wr=>∃ (c:Nat) (L:List (List UInt8)),c≤y.length∧i=.int .i64 c∧Hid (Jeo rows y hs c=.inl L)∧Kis w #[.string name,.slice bE y.length ct,.slice U rs.length bn] (.slice bL hs.length bG) wr (T++L)∧KeepsFrom bU.heap.size W wr∧KpC (w.heap.size+1+1+1+1+1) (w.heap.size+1+1+1+1+1+1) W wr) (fun i _=>y.length-(intOf i).toNat)
  case atStart=>exact⟨0,[],Ob7 _,rfl,rfl,by simpa using hI,KeepsFrom.refl _ _,rfl,rfl⟩
  case round=>
   obtain⟨c,L,cz,rfl,bD,bi,bY,cC⟩:=hrel
   have cv:=Jjc rows y hs c L bD.out
   by_cases bZ:c<y.length
   ·have bz:=bi.below
    have cY:c<hs.length:=by have:=cK.out;omega
    obtain⟨b1,fD,rfl,fu,fN⟩:=Kc.at (bB.below bz) bZ
    obtain⟨b2,bC,rfl,bX,cf⟩:=Kc.at (cX.below bz) cY
    have c1:=bi.b1.cell
    have fi:wr.cell? ⟨w.heap.size,0,none⟩=some (.string name):=by simp[World.cell?,bi.b0]
    have cA:=Jqm bR cl.out dT c bZ cK.out dr.out
    have cB:Uo rows y hs c=Jev y[c] hs[c] (Jaj rows c):=by simp[Uo,bZ,cY]
    rw[cB]at cA
    have bS:Hid (Uo rows y hs c=Jev y[c] hs[c] (Jaj rows c)):=cB
    have cJ:Hid (∀ A,Below w.heap.size w A→Calls prog 76 #[.slice dk rows.length cc,.int .i64 (c:Int)] A fun e w'=>∃ v,e=.returned v∧Jc9 A w' (Jaj rows c) v∧Below A.heap.size A w'):=fun A cx=>by
     refine Kj5 dk cc fh rows c A (by omega) (dW.below cx) (fun r bh=>?_) (fun r bh=>?_)
     ·obtain⟨i,hi,rfl⟩:=Od5 (cl.out r bh)
      have:=(bR.2.2.2 i hi).1;omega
     obtain⟨i,hi,rfl⟩:=Od5 (cl.out r bh)
     have:=(bR.2.2.2 i hi).1;omega
    have bT:Hid (∀ A b,Below w.heap.size w A→Kv A b (Jaj rows c) []→Calls prog 75 #[.int .i64 y[c],.int .i64 hs[c],.slice (some ⟨b,0,none⟩) (Jaj rows c).length (Jaj rows c).length] A fun e w'=>e=.returned (.tuple #[.string (Qw (Jev y[c] hs[c] (Jaj rows c)).1),Jk9 cn bl (Jev y[c] hs[c] (Jaj rows c)).2])∧Below A.heap.size A w'):=fun A b cx dR=>
     (dq.out hs[c] (Ob3 _)).pack y[c] (some ⟨b,0,none⟩) _ (Jaj rows c) A (by unfold maxLen;simp[Jaj];omega) dR.vals cn bl cO (cW.below cx)
    have dm:Hid (L.length=c):=cv
    have fz:prog.follows .mixedOrders=true:=by kernel_rfl
    clear cB cv bB cX cb cW
    generalize db:Jev y[c] hs[c] (Jaj rows c)=fc at *
    obtain⟨bN,fE⟩:=fc
    simp only at cA
    rcases cA with rfl|rfl
    ·have ci:Hid (Jeo rows y hs (c+1)=.inl (L++[bN])):=by show _=_;simp only[Jeo,bD.out,bS.out];rfl
     clear db bD bS
     have bP:=bi.b1.lt
     have cj:Hid (∀ A b,Below w.heap.size w A→Kv A b (Jaj rows c) []→Calls prog 75 #[.int .i64 y[c],.int .i64 hs[c],.slice (some ⟨b,0,none⟩) (Jaj rows c).length (Jaj rows c).length] A fun e w'=>e=.returned (.tuple #[.string (Qw bN),.nilIface])∧Below A.heap.size A w'):=bT.out
     clear bT
     gi_wp2
     refine Kix (S:=fun bj=>bj.cell? ⟨w.heap.size+1,0,none⟩=some (.slice (some ⟨b2,bC,none⟩) hs.length bG)∧bj.cell? ⟨b2,bC+c,none⟩=some (.int .i64 hs[c])∧Below w.heap.size w bj) (by kernel_rfl) (by kernel_rfl) ⟨c1,cf,bz.drew⟩ (fun D=>?_)
     refine tk 0 ?_ rfl D ?_ (tk 1 ?_ rfl D ?_ (tk 2 ?_ rfl D ?_ (tk 3 ?_ rfl D ?_ (tk 4 ?_ rfl D ?_ (tk 5 ?_ rfl D ?_ (tk 6 ?_ rfl D ?_ ?_))))))
     iterate 7
      rotate_left 1
      ·intro w O;(try dsimp only at O);go_simp;try rfl
     simp only[Act.put,List.getElem_toArray,List.getElem_cons_zero,List.getElem_cons_succ,Oa1,List.set_cons_zero,List.set_cons_succ]
     refine wpAnyH_ready (rs:=[7]) (by kernel_rfl) (by simp) (AllReadyH.cons rfl (fun C z=>?_) AllReadyH.nil)
     go_simp
     refine(cJ.out _ D.2.2).mono ?_
     rintro e fg ⟨v,rfl,⟨bq,rfl,dJ,cF⟩,bf⟩
     go_simp
     obtain⟨kk,_⟩:=Kx bf
     refine z.out _ _ ⟨(kk (w.heap.size+1) 0 bP).trans c1,(kk b2 (bC+c) bX).trans cf,bz.trans ((Jw bf).mono bz.size)⟩ (fun M=>?_)
     clear z C kk D
     refine wpAnyH_ready (rs:=[8]) (by kernel_rfl) (by simp) (AllReadyH.cons rfl (fun C z=>?_) AllReadyH.nil)
     go_simp
     refine(cj.out _ _ M.2.2 cF).mono ?_
     rintro e E ⟨rfl,bu⟩
     go_simp
     obtain⟨kk,_⟩:=Kx bu
     have br:=bf.size
     refine z.out _ _ ⟨(kk (w.heap.size+1) 0 (Oc2 bP br)).trans M.1,(kk b2 (bC+c) (Oc2 bX br)).trans M.2.1,M.2.2.trans (bu.mono M.2.2.size)⟩ (fun bc=>?_)
     clear z C kk M
     refine tk 9 ?_ rfl bc ?_ (tk 10 ?_ rfl bc ?_ (tk 11 ?_ rfl bc ?_ (tk 12 ?_ rfl bc ?_ (tk 13 ?_ rfl bc ?_ ?_))))
     iterate 5
      rotate_left 1
      ·intro w O;(try dsimp only at O);go_simp;try rfl
     simp only[Act.put,List.getElem_toArray,List.getElem_cons_zero,List.getElem_cons_succ,Oa1,List.set_cons_zero,List.set_cons_succ]
     refine wpAnyH_done (by kernel_rfl) (Jpf.go ?_) _
     have X:=bi.ahead ((Jw bf).trans (bu.mono br))
     obtain⟨sv,ca,bJ⟩:=X.own
     have c4:=ca.cell
     obtain⟨fb,hi,dX,dY,dZ⟩:=info_parts Kjq
     have fs:(List.map tv (T++L)).length≤2000:=by rw[Oa6,Oa8,dm.out];omega
     have dB:=X.size
     obtain⟨fL,fM,bQ,_⟩:=bJ.cells
     rw[Oa6,Oa8]at bQ
     subst bQ
     gi_wp2_with (gi_at_builtin;go_must (refine wpListIn_append_own _ rfl _ _ 129 rfl (w.heap.size+7) 9 fb _ 1 16 underlying129 hi dX dY dZ rfl (by decide) _ _ _ rfl (Jo.alloc bJ _) ⟨E.heap.size,0,none⟩ 1 1 [tv bN] rfl rfl (by exact Ua E _ _) (by intro u dd;simp at dd;subst dd;rfl) (by unfold maxLen;omega) (by omega) (by simp;omega) ?_);intro ff w4 cZ dM _;go_must (have bI:=X.more ca bJ _ bN (sv':=ff) (w4:=w4) (by unfold Jo;simpa [On5] using cZ) dM);go_must (obtain⟨fr,fl,dU⟩:=ownsRow_succ cZ);subst dU;have fk:=bI.2.2.2.cell;have fp:=bI.2.2.2.frozen)
     go_roundw
     case rel=>
      have bM:Below wr.heap.size wr E:=(Jw bf).trans (bu.mono br)
      have dP:=Kiz bM
      rw[Oa6,Oa8]at bI
      refine⟨c+1,L++[bN],by omega,by go_num,ci.out,by rw[←Od8];exact bI.1,bY.trans ((dP.trans bI.2.1).from _),?_,?_⟩
      ·exact(bI.2.2.1.1.trans (bM.block _ (by have:=bi.size;omega))).trans cC.1
      exact(bI.2.2.1.2.trans (bM.block _ (by have:=bi.size;omega))).trans cC.2
     case measure=>simp[intOf];omega
    have ci:Hid (Jeo rows y hs y.length=.inr c):=Kkc rows y hs c (c+1) y.length (by simp only[Jeo,bD.out,bS.out];rfl) bZ
    clear db bD bS
    have bP:=bi.b1.lt
    have cj:Hid (∀ A b,Below w.heap.size w A→Kv A b (Jaj rows c) []→Calls prog 75 #[.int .i64 y[c],.int .i64 hs[c],.slice (some ⟨b,0,none⟩) (Jaj rows c).length (Jaj rows c).length] A fun e w'=>e=.returned (.tuple #[.string (Qw bN),.iface 443 (.pointer (some bl))])∧Below A.heap.size A w'):=bT.out
    clear bT
    gi_wp2
    refine Kix (S:=fun bj=>bj.cell? ⟨w.heap.size+1,0,none⟩=some (.slice (some ⟨b2,bC,none⟩) hs.length bG)∧bj.cell? ⟨b2,bC+c,none⟩=some (.int .i64 hs[c])∧Below w.heap.size w bj) (by kernel_rfl) (by kernel_rfl) ⟨c1,cf,bz.drew⟩ (fun D=>?_)
    refine tk 0 ?_ rfl D ?_ (tk 1 ?_ rfl D ?_ (tk 2 ?_ rfl D ?_ (tk 3 ?_ rfl D ?_ (tk 4 ?_ rfl D ?_ (tk 5 ?_ rfl D ?_ (tk 6 ?_ rfl D ?_ ?_))))))
    iterate 7
     rotate_left 1
     ·intro w O;(try dsimp only at O);go_simp;try rfl
    simp only[Act.put,List.getElem_toArray,List.getElem_cons_zero,List.getElem_cons_succ,Oa1,List.set_cons_zero,List.set_cons_succ]
    refine wpAnyH_ready (rs:=[7]) (by kernel_rfl) (by simp) (AllReadyH.cons rfl (fun C z=>?_) AllReadyH.nil)
    go_simp
    refine(cJ.out _ D.2.2).mono ?_
    rintro e fg ⟨v,rfl,⟨bq,rfl,dJ,cF⟩,bf⟩
    go_simp
    obtain⟨kk,_⟩:=Kx bf
    refine z.out _ _ ⟨(kk (w.heap.size+1) 0 bP).trans c1,(kk b2 (bC+c) bX).trans cf,bz.trans ((Jw bf).mono bz.size)⟩ (fun M=>?_)
    clear z C kk D
    refine wpAnyH_ready (rs:=[8]) (by kernel_rfl) (by simp) (AllReadyH.cons rfl (fun C z=>?_) AllReadyH.nil)
    go_simp
    refine(cj.out _ _ M.2.2 cF).mono ?_
    rintro e E ⟨rfl,bu⟩
    go_simp
    obtain⟨kk,_⟩:=Kx bu
    have br:=bf.size
    refine z.out _ _ ⟨(kk (w.heap.size+1) 0 (Oc2 bP br)).trans M.1,(kk b2 (bC+c) (Oc2 bX br)).trans M.2.1,M.2.2.trans (bu.mono M.2.2.size)⟩ (fun bc=>?_)
    clear z C kk M
    refine tk 9 ?_ rfl bc ?_ (tk 10 ?_ rfl bc ?_ (tk 11 ?_ rfl bc ?_ (tk 12 ?_ rfl bc ?_ (tk 13 ?_ rfl bc ?_ ?_))))
    iterate 5
     rotate_left 1
     ·intro w O;(try dsimp only at O);go_simp;try rfl
    simp only[Act.put,List.getElem_toArray,List.getElem_cons_zero,List.getElem_cons_succ,Oa1,List.set_cons_zero,List.set_cons_succ]
    refine wpAnyH_done (by kernel_rfl) (Jpf.go ?_) _
    have X:=bi.ahead ((Jw bf).trans (bu.mono br))
    have bM:Below wr.heap.size wr E:=(Jw bf).trans (bu.mono br)
    have bx:Hid (Jfg rs y hs ((R++[x]).map Subtype.val)=.inr c):=by show _=_;rw[cM.out,cN.out,ci.out]
    have cr:E.cell? ⟨w.heap.size,0,none⟩=some (.string name):=by simp[World.cell?,X.b0]
    have fe:=X.b2.cell
    have fd:=X.b2.frozen
    have dj:=X.b3.cell
    have di:=X.b3.frozen
    have dB:=X.size
    gi_wp2
    refine Kix (S:=fun bj=>bj.cell? ⟨w.heap.size,0,none⟩=some (.string name)) (by kernel_rfl) (by kernel_rfl) cr (fun bO=>?_)
    refine tk 0 ?_ rfl bO ?_ (tk 1 ?_ rfl bO ?_ (tk 2 ?_ rfl bO ?_ (tk 3 ?_ rfl bO ?_ (tk 4 ?_ rfl bO ?_ ?_))))
    iterate 5
     rotate_left 1
     ·intro w O;(try dsimp only at O);go_simp;try rfl
    simp only[Act.put,List.getElem_toArray,List.getElem_cons_zero,List.getElem_cons_succ,Oa1,List.set_cons_zero,List.set_cons_succ]
    have fI:∀ o,(E.alloc o).cell? ⟨w.heap.size+1+1,0,none⟩=some (.slice none 0 0):=fun o=>(Jnf E o _ 0 (by omega)).trans fe
    have fF:∀ o,(E.alloc o).frozen? ⟨w.heap.size+1+1,0,none⟩=false:=fun o=>(Jh9 E o _ 0 (by omega)).trans fd
    have fJ:∀ o,(E.alloc o).cell? ⟨w.heap.size+1+1+1,0,none⟩=some .nilIface:=fun o=>(Jnf E o _ 0 (by omega)).trans dj
    have fG:∀ o,(E.alloc o).frozen? ⟨w.heap.size+1+1+1,0,none⟩=false:=fun o=>(Jh9 E o _ 0 (by omega)).trans di
    refine wpAnyH_ready (rs:=[5,7]) (by kernel_rfl) (by simp) (AllReadyH.cons rfl (fun C z=>?_) (AllReadyH.cons rfl (fun C z=>?_) AllReadyH.nil))
    ·go_simp
     refine z.out _ _ ((Jnf E _ _ _ (by omega)).trans cr) (fun bV=>?_)
     clear z C
     refine tk 6 ?_ rfl bV ?_ ?_
     rotate_left 1
     ·intro w O;(try dsimp only at O);go_simp;try rfl
     simp only[Act.put,List.getElem_toArray,List.getElem_cons_zero,List.getElem_cons_succ,Oa1,List.set_cons_zero,List.set_cons_succ]
     refine wpAnyH_ready (rs:=[7]) (by kernel_rfl) (by simp) (AllReadyH.cons rfl (fun C z=>?_) AllReadyH.nil)
     go_simp
     refine z.out _ _ ((Ob5 _ _ _ _ (by simp)).trans bV) (fun bW=>?_)
     clear z C
     refine wpAnyH_ready (rs:=[8]) (by kernel_rfl) (by simp) (AllReadyH.cons rfl (fun C z=>?_) AllReadyH.nil)
     go_simp
     refine z.out _ _ ((Ob5 _ _ _ _ (by simp)).trans bW) (fun dD=>?_)
     clear z C
     refine wpAnyH_done (by kernel_rfl) (Jpf.go ?_) _
     gi_wp2
     have bB:=X.badA name c bl
     exact⟨bY.trans (((Kiz bM).trans bB.2).from _),rfl,c,bx.out,bB.1⟩
    go_simp
    refine z.out _ _ ((Ob5 _ _ _ _ (by simp)).trans cr) (fun bV=>?_)
    clear z C
    have cG:(E.setCell ⟨w.heap.size+1+1,0,none⟩ (.slice none 0 0)).heap.size=E.heap.size:=by simp[World.setCell]
    have fK:∀ o,((E.setCell ⟨w.heap.size+1+1,0,none⟩ (.slice none 0 0)).alloc o).cell? ⟨w.heap.size+1+1+1,0,none⟩=some .nilIface:=fun o=>(Jnf _ o _ 0 (by rw[cG];omega)).trans ((Ob5 _ _ _ _ (by simp)).trans dj)
    have fH:∀ o,((E.setCell ⟨w.heap.size+1+1,0,none⟩ (.slice none 0 0)).alloc o).frozen? ⟨w.heap.size+1+1+1,0,none⟩=false:=fun o=>(Jh9 _ o _ 0 (by rw[cG];omega)).trans ((On9 _ _ _ _).trans di)
    refine wpAnyH_ready (rs:=[5]) (by kernel_rfl) (by simp) (AllReadyH.cons rfl (fun C z=>?_) AllReadyH.nil)
    go_simp
    refine z.out _ _ ((Jnf _ _ _ _ (by rw[cG];omega)).trans bV) (fun bW=>?_)
    clear z C
    refine tk 6 ?_ rfl bW ?_ ?_
    rotate_left 1
    ·intro w O;(try dsimp only at O);go_simp;try rfl
    simp only[Act.put,List.getElem_toArray,List.getElem_cons_zero,List.getElem_cons_succ,Oa1,List.set_cons_zero,List.set_cons_succ]
    refine wpAnyH_ready (rs:=[8]) (by kernel_rfl) (by simp) (AllReadyH.cons rfl (fun C z=>?_) AllReadyH.nil)
    go_simp
    refine z.out _ _ ((Ob5 _ _ _ _ (by simp)).trans bW) (fun dD=>?_)
    clear z C
    refine wpAnyH_done (by kernel_rfl) (Jpf.go ?_) _
    gi_wp2
    have bB:=X.badB name c bl
    exact⟨bY.trans (((Kiz bM).trans bB.2).from _),rfl,c,bx.out,bB.1⟩
   obtain rfl:c=y.length:=by omega
   have bx:Hid (Jfg rs y hs ((R++[x]).map Subtype.val)=.inl (T++L)):=by show _=_;rw[cM.out,cN.out,bD.out]
   clear cv
   gi_wp2
   exact⟨bY,cC,T++L,bx.out,by rw[dp.out,Oa8,Jjc rows y hs _ L bD.out];omega,bi⟩
 case done=>
  rintro K fO W dC dg ⟨T,Z,cS,H⟩ z
  rw[dg]at Z
  obtain⟨sv,ca,bJ⟩:=H.own
  obtain⟨a,cap,bQ,fw⟩:=bJ.cells
  rw[Oa6]at bQ
  subst bQ
  have c4:=ca.cell
  have c2:=H.b2.cell
  have fm:=H.b2.frozen
  have c3:=H.b3.cell
  have fo:=H.b3.frozen
  have bx:Hid (Jfg rs y hs (cks rs.length g (ckN rs.length g))=.inl T):=Z
  have ch:=H
  replace ch:Hid (Kis w #[.string name,.slice bE y.length ct,.slice U rs.length bn] (.slice bL hs.length bG) W T):=ch
  clear Z H dg
  gi_wp2
  have cu:=((KeepsOthers.setCell W ⟨w.heap.size+1+1,0,none⟩ (.slice a T.length cap)).trans (KeepsOthers.setCell _ ⟨w.heap.size+1+1+1,0,none⟩ .nilIface)).same K _ z rfl
  refine⟨by simp,.inl ⟨_,_,rfl,run_takeDeferred cu,?_⟩⟩
  have g2:((W.setCell ⟨w.heap.size+1+1,0,none⟩ (.slice a T.length cap)).setCell ⟨w.heap.size+1+1+1,0,none⟩ .nilIface).cell? ⟨w.heap.size+1+1,0,none⟩=some (.slice a T.length cap):=by
   rw[Ob5 _ _ _ _ (by simp)]
   exact Oj0 _ _ _ (by rw[c2];rfl)
  have dA:((W.setCell ⟨w.heap.size+1+1,0,none⟩ (.slice a T.length cap)).setCell ⟨w.heap.size+1+1+1,0,none⟩ .nilIface).cell? ⟨w.heap.size+1+1+1,0,none⟩=some .nilIface:=
   Oj0 _ _ _ (by rw[Ob5 _ _ _ _ (by simp),c3];rfl)
  have bA:∀ r,some K=some r→∃ o:Obj,((W.setCell ⟨w.heap.size+1+1,0,none⟩ (.slice a T.length cap)).setCell ⟨w.heap.size+1+1+1,0,none⟩ .nilIface).heap[r]?=some o∧o.isCells=false:=fun r e=>by cases e;exact⟨_,cu,rfl⟩
  have cH:=cell_kept g2 (grownBy_putObj' _ K (.deferred none)) bA
  have cI:=cell_kept dA (grownBy_putObj' _ K (.deferred none)) bA
  refine⟨.tuple #[.slice a T.length cap,.nilIface],by simp[results,Tryz.f57,go_sem,cH,cI],?_⟩
  rw[bx.out]
  have cy:Below w.heap.size w ((W.setCell ⟨w.heap.size+1+1,0,none⟩ (.slice a T.length cap)).setCell ⟨w.heap.size+1+1+1,0,none⟩ .nilIface):=(ch.out.below.setCell (p:=⟨w.heap.size+1+1,0,none⟩) (by simp;omega) _).setCell (p:=⟨w.heap.size+1+1+1,0,none⟩) (by simp;omega) _
  have dQ:Jo ((W.setCell ⟨w.heap.size+1+1,0,none⟩ (.slice a T.length cap)).setCell ⟨w.heap.size+1+1+1,0,none⟩ .nilIface) (w.heap.size+7) 9 (.slice a T.length cap) (T.map tv):=Yd bJ fun fq dK=>by
   have:=(Je bJ dK).1
   rw[Oa4 _ _ _ _ (by simp;omega),Oa4 _ _ _ _ (by simp;omega)]
  have cD:=Kjl dQ (grownBy_putObj' _ K (.deferred none)) bA
  refine⟨cy.trans (belowK_b (w:=w) (Oa2 _) _ K _ _ (by have:=bK.out;omega) cu rfl rfl),a,cap,rfl,(Jji cD).1,fun b o dE=>?_⟩
  have:=(Je cD ((Jji cD).2 b o dE)).1
  omega
 case stop=>
  rintro K c R W dC ⟨k,dO,cE⟩ ⟨rfl,col,Z,H⟩ z
  rw[cE]at Z
  obtain⟨fP,dh⟩:=Jvd rs.length g k _ dO
  have bx:Hid (Jfg rs y hs (cks rs.length g (ckN rs.length g))=.inr col):=by show _=_;rw[dh];exact Kkl rs y hs _ _ _ Z
  obtain⟨b,dG,dI,dt,du⟩:=H.b3
  have c2:=H.b2.cell
  have c3:=dG.cell
  have cy:=H.below
  clear Z H cE dh
  gi_wp2
  have bA:∀ r,some K=some r→∃ o:Obj,W.heap[r]?=some o∧o.isCells=false:=fun r e=>by cases e;exact⟨_,z,rfl⟩
  refine⟨by simp,.inl ⟨_,_,rfl,run_takeDeferred z,?_⟩⟩
  have cH:=cell_kept c2 (grownBy_putObj' _ K (.deferred none)) bA
  have cI:=cell_kept c3 (grownBy_putObj' _ K (.deferred none)) bA
  refine⟨.tuple #[.slice none 0 0,.iface 133 (.pointer (some ⟨b,0,none⟩))],by simp[results,Tryz.f57,go_sem,cH,cI],?_⟩
  rw[bx.out]
  exact⟨cy.trans (belowK_b (w:=w) (Oa2 _) _ K _ _ (by have:=bK.out;omega) z rfl rfl),b,rfl,dI,.tab b bl col (cell_kept dt (grownBy_putObj' _ K (.deferred none)) bA) (cell_kept du (grownBy_putObj' _ K (.deferred none)) bA)⟩
end Go.Proofs.YtjjdldddcegjiaaGreatDoor
