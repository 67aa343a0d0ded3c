/- pack, walked. -/
import Derived.Test.YtcaocabmioafcaaGreatDoorTi
import Derived.Test.YtcaocabmioafcaaGreatDoorTe
import Derived.Test.YtcaocabmioafcaaGreatDoorKe
import Derived.Test.YtcaocabmioafcaaGreatDoorEw
set_option maxHeartbeats 4000000
set_option maxRecDepth 100000
namespace Go.Proofs.YtcaocabmioafcaaGreatDoor
open Go.RowKit Go.Shelf Tryz
attribute [local go_sem] Oc0
theorem Kjq:(prog.info? 9).map (fun i=>(i.zero,i.size,i.bytes))=some (some (.string ⟨#[]⟩),1,16):=by kernel_rfl
structure Kis (w:World) (C0:Array Value) (hv:Value) (W:World) (T:List (List UInt8)):Prop where
 b0:W.heap[w.heap.size]?=some (.cells C0 30 (0,0))
 b1:Boxed W (w.heap.size+1) 27 hv
 b2:Boxed W (w.heap.size+1+1) 70 (.slice none 0 0)
 b3:Boxed W (w.heap.size+1+1+1) 108 .nilIface
 own:∃ sv,Boxed W (w.heap.size+1+1+1+1) 70 sv∧Jo W (w.heap.size+7) 9 sv (T.map tv)
 below:Below w.heap.size w W
 size:w.heap.size+7≤W.heap.size
theorem Kir {W A:World}{row:Option Nat}{k:Nat}{C:Array Value}{t:TypeId}{H:Nat×Nat}(h:W.heap[k]?=some (.cells C t H))(K:W.grownBy A row)(L:∀ r,row=some r→∃ o:Obj,W.heap[r]?=some o∧o.isCells=false):A.heap[k]?=some (.cells C t H):=by
 refine(K.block k (Jd h) fun e=>?_).trans h
 obtain⟨o,I,J⟩:=L k e.symm
 rw[h]at I
 cases I
 cases J
theorem Kjl {W I:World}{row:Option Nat}{B:Nat}{e:TypeId}{sv:Value}{xs:List Value}(h:Jo W B e sv xs)(K:W.grownBy I row)(L:∀ r,row=some r→∃ o:Obj,W.heap[r]?=some o∧o.isCells=false):Jo I B e sv xs:=by
 refine Yd h fun g A=>?_
 rcases h.2 with⟨H,_⟩|⟨N,cap,M,H,_,J,_⟩
 ·subst H;simp[Value.ownBlock]at A
 subst H
 simp[Value.ownBlock]at A
 subst A
 rw[J]
 exact Kir J K L
theorem Kis.kept {w:World}{I:Array Value}{L:Value}{W J:World}{T:List (List UInt8)}{row:Option Nat}(h:Kis w I L W T)(A:W.grownBy J row)(K:∀ r,row=some r→w.heap.size≤r∧∃ o:Obj,W.heap[r]?=some o∧o.isCells=false):Kis w I L J T:=by
 obtain⟨sv,hs,M⟩:=h.own
 have H:∀ r,row=some r→∃ o:Obj,W.heap[r]?=some o∧o.isCells=false:=fun r e=>(K r e).2
 exact⟨Kir h.b0 A H,Kir h.b1 A H,Kir h.b2 A H,Kir h.b3 A H,⟨sv,Kir hs A H,Kjl M A H⟩,h.below.grown A h.below.size (fun k e=>(K k e).1),Ob2 h.size A.size⟩
theorem Kis.ahead {w:World}{H:Array Value}{J:Value}{W I:World}{T:List (List UInt8)}(h:Kis w H J W T)(A:Below W.heap.size W I):Kis w H J I T:=
 h.kept (row:=none) ⟨A.os,A.tape,A.output,A.size,fun k hk _=>A.block k hk⟩ (fun r e=>by cases e)
structure Ki7 (w:World) (a1:Addr) (W:World) (col:Nat):Prop where
 b2:Boxed W (w.heap.size+1+1) 70 (.slice none 0 0)
 b3:∃ b,Boxed W (w.heap.size+1+1+1) 108 (.iface 187 (.pointer (some ⟨b,0,none⟩)))∧w.heap.size≤b∧W.cell? ⟨b,1,none⟩=some (.int .i64 (col:Int))∧W.cell? ⟨b,2,none⟩=some (.iface 528 (.pointer (some a1)))
 below:Below w.heap.size w W
theorem Ki7.kept {w:World}{J:Addr}{W I:World}{K:Nat}{row:Option Nat}(h:Ki7 w J W K)(A:W.grownBy I row)(L:∀ r,row=some r→w.heap.size≤r∧∃ o:Obj,W.heap[r]?=some o∧o.isCells=false):Ki7 w J I K:=by
 obtain⟨b,M,N,c1,c2⟩:=h.b3
 have H:∀ r,row=some r→∃ o:Obj,W.heap[r]?=some o∧o.isCells=false:=fun r e=>(L r e).2
 exact⟨Kir h.b2 A H,⟨b,Kir M A H,N,cell_kept c1 A H,cell_kept c2 A H⟩,h.below.grown A h.below.size (fun k e=>(L k e).1)⟩
def Kkr (w:World)(A:Addr)(r:List (List UInt8)⊕Nat)(e:Ending)(w':World):Prop:=
 Below w.heap.size w w'∧match r with
  |.inl T=>∃ a cap,e=.returned (.tuple #[.slice a T.length cap,.nilIface])∧Uh w' a (T.map tv)∧∀ b o,a=some ⟨b,o,none⟩→w.heap.size≤b
  |.inr c=>∃ b,e=.returned (.tuple #[.slice none 0 0,.iface 187 (.pointer (some ⟨b,0,none⟩))])∧w.heap.size≤b∧Yu w' (.iface 187 (.pointer (some ⟨b,0,none⟩))) A (some (c:Int)) none
theorem Jb4 (w:World)(o:Obj)(k:Nat)(hk:k=w.heap.size):(w.alloc o).heap[k]?=some o:=by subst hk;exact heap_alloc_new w o
theorem Kkx (w:World)(o0 o1 o2 o3 A H I:Obj)(W:World)(hW:(((((((w.alloc o0).alloc o1).alloc o2).alloc o3).alloc A).alloc H).alloc I)=W) :
  W.heap.size=w.heap.size+7∧W.heap[w.heap.size]?=some o0∧W.heap[w.heap.size+1]?=some o1∧W.heap[w.heap.size+1+1]?=some o2∧W.heap[w.heap.size+1+1+1]?=some o3∧W.heap[w.heap.size+1+1+1+1]?=some A∧W.heap[w.heap.size+1+1+1+1+1]?=some H∧W.heap[w.heap.size+1+1+1+1+1+1]?=some I∧Below w.heap.size w W:=by
 subst hW
 refine⟨by simp,?_,?_,?_,?_,?_,?_,?_,?_⟩
 ·rw[Oa9 _ _ _ (by simp only[Oa7];omega),Oa9 _ _ _ (by simp only[Oa7];omega),Oa9 _ _ _ (by simp only[Oa7];omega),Oa9 _ _ _ (by simp only[Oa7];omega),Oa9 _ _ _ (by simp only[Oa7];omega),Oa9 _ _ _ (by simp)];exact Jb4 _ _ _ rfl
 ·rw[Oa9 _ _ _ (by simp only[Oa7];omega),Oa9 _ _ _ (by simp only[Oa7];omega),Oa9 _ _ _ (by simp only[Oa7];omega),Oa9 _ _ _ (by simp only[Oa7];omega),Oa9 _ _ _ (by simp)];exact Jb4 _ _ _ (by simp only[Oa7])
 ·rw[Oa9 _ _ _ (by simp only[Oa7];omega),Oa9 _ _ _ (by simp only[Oa7];omega),Oa9 _ _ _ (by simp only[Oa7];omega),Oa9 _ _ _ (by simp)];exact Jb4 _ _ _ (by simp only[Oa7])
 ·rw[Oa9 _ _ _ (by simp only[Oa7];omega),Oa9 _ _ _ (by simp only[Oa7];omega),Oa9 _ _ _ (by simp)];exact Jb4 _ _ _ (by simp only[Oa7])
 ·rw[Oa9 _ _ _ (by simp only[Oa7];omega),Oa9 _ _ _ (by simp)];exact Jb4 _ _ _ (by simp only[Oa7])
 ·rw[Oa9 _ _ _ (by simp)];exact Jb4 _ _ _ (by simp only[Oa7])
 ·exact Jb4 _ _ _ (by simp only[Oa7])
 exact(((((((Oa5 _ w).alloc (Oa2 _) _).alloc (by simp) _).alloc (by simp;omega) _).alloc (by simp;omega) _).alloc (by simp;omega) _).alloc (by simp;omega) _).alloc (by simp;omega) _
theorem Jpf.go {Q:Exit→Act→World→Prop}{a:Act}{w:World}(h:Q .normal a w):Jpf Q .normal a w:=h
theorem Kis.more {w:World}{L:Array Value}{J:Value}{A w4:World}{T:List (List UInt8)}{sv sv':Value}(h:Kis w L J A T)(bh:Boxed A (w.heap.size+1+1+1+1) 70 sv)(U:Jo A (w.heap.size+7) 9 sv (T.map tv))(o:Obj)(Z:List UInt8)
  (X:Jo w4 (w.heap.size+7) 9 sv' (T.map tv++[tv Z])) (H:(A.alloc o).grownBy w4 sv.ownBlock) :
  Kis w L J (w4.setCell ⟨w.heap.size+1+1+1+1,0,none⟩ sv') (T++[Z])∧KeepsOthers A (w4.setCell ⟨w.heap.size+1+1+1+1,0,none⟩ sv')∧KpC (w.heap.size+1+1+1+1+1) (w.heap.size+1+1+1+1+1+1) A (w4.setCell ⟨w.heap.size+1+1+1+1,0,none⟩ sv')∧Boxed w4 (w.heap.size+1+1+1+1) 70 sv:=by
 have bj:=h.size
 have Y:∀ g,sv.ownBlock=some g→w.heap.size+7≤g:=fun g H=>(Je U H).1
 have bf:∀ k,k<A.heap.size→sv.ownBlock≠some k→w4.heap[k]?=A.heap[k]?:=fun k hk K=>(H.block k (by simp;omega) (Oc5 K)).trans (Oa9 A o k hk)
 have O:∀ k,k<w.heap.size+7→w4.heap[k]?=A.heap[k]?:=fun k hk=>bf k (by omega) fun e=>by have:=Y k e;omega
 have N:Boxed w4 (w.heap.size+1+1+1+1) 70 sv:=(O _ (by omega)).trans bh
 have I:∀ k,k<w.heap.size+7→k≠w.heap.size+1+1+1+1→(w4.setCell ⟨w.heap.size+1+1+1+1,0,none⟩ sv').heap[k]?=A.heap[k]?:=fun k hk K=>(Oa4 _ _ _ _ K).trans (O k hk)
 have bb:=H.size
 rw[Oa7]at bb
 have bc:(w4.setCell ⟨w.heap.size+1+1+1+1,0,none⟩ sv').heap.size=w4.heap.size:=by simp[World.setCell]
 refine⟨⟨(I _ (by omega) (by omega)).trans h.b0,(I _ (by omega) (by omega)).trans h.b1,(I _ (by omega) (by omega)).trans h.b2,(I _ (by omega) (by omega)).trans h.b3,⟨sv',N.set sv',?_⟩,?_,by rw[bc];omega⟩,?_,⟨I _ (by omega) (by omega),I _ (by omega) (by omega)⟩,N⟩
 ·rw[Ob8]
  exact Yd X fun g ba=>Oa4 _ _ _ _ (by have:=(Je X ba).1;simp;omega)
 ·exact((h.below.alloc h.below.size o).grown H (by simp;omega) (fun k hk=>by have:=Y k hk;omega)).setCell (p:=⟨w.heap.size+1+1+1+1,0,none⟩) (by simp;omega) _
 refine(KeepsOthers.alloc A o).trans ((KeepsOthers.of_grownBy H fun j bk e R=>?_).trans (KeepsOthers.setCell _ _ _))
 rcases U.2 with⟨J,_⟩|⟨g,cap,bi,J,_,M,_⟩
 ·subst J;simp[Value.ownBlock]at e
 subst J
 simp[Value.ownBlock]at e
 subst e
 rw[Oa9 _ _ _ (Jd M),M]at R
 cases R
 rfl
theorem Kis.bad {w:World}{L:Array Value}{U:Value}{A:World}{T:List (List UInt8)}(h:Kis w L U A T)(name:ByteArray)(c:Nat)(I:Addr)(H:World)(K:H.heap[A.heap.size]?=some (.cells #[.string name,.int .i64 (c:Int),.iface 528 (.pointer (some I))] 189 (0,0)))
  (M:Boxed H (w.heap.size+1+1) 70 (.slice none 0 0)) (N:Boxed H (w.heap.size+1+1+1) 108 (.iface 187 (.pointer (some ⟨A.heap.size,0,none⟩)))) (O:Below w.heap.size w H) (hs:A.heap.size≤H.heap.size)
  (R:∀ k,k<A.heap.size→k≠w.heap.size+1+1→k≠w.heap.size+1+1+1→H.heap[k]?=A.heap[k]?):Ki7 w I H c∧KeepsOthers A H:=by
 have X:=h.size
 refine⟨⟨M,⟨A.heap.size,N,by omega,by simp[World.cell?,K],by simp[World.cell?,K]⟩,O⟩,hs,fun k o hk J=>?_⟩
 refine(R k (Jd hk) (fun e=>?_) (fun e=>?_)).trans hk
 ·subst e
  rw[show A.heap[w.heap.size+1+1]?=_ from h.b2]at hk
  cases hk
  cases J
 subst e
 rw[show A.heap[w.heap.size+1+1+1]?=_ from h.b3]at hk
 cases hk
 cases J
theorem Kis.badA {w:World}{I:Array Value}{M:Value}{A:World}{T:List (List UInt8)}(h:Kis w I M A T)(name:ByteArray)(c:Nat)(H:Addr) :
  Ki7 w H (((A.alloc (.cells #[.string name,.int .i64 (c:Int),.iface 528 (.pointer (some H))] 189)).setCell ⟨w.heap.size+1+1,0,none⟩ (.slice none 0 0)).setCell ⟨w.heap.size+1+1+1,0,none⟩ (.iface 187 (.pointer (some ⟨A.heap.size,0,none⟩)))).drew c ∧
  KeepsOthers A (((A.alloc (.cells #[.string name,.int .i64 (c:Int),.iface 528 (.pointer (some H))] 189)).setCell ⟨w.heap.size+1+1,0,none⟩ (.slice none 0 0)).setCell ⟨w.heap.size+1+1+1,0,none⟩ (.iface 187 (.pointer (some ⟨A.heap.size,0,none⟩)))).drew:=by
 have N:=h.size
 have L:Boxed ((A.alloc (.cells #[.string name,.int .i64 (c:Int),.iface 528 (.pointer (some H))] 189)).setCell ⟨w.heap.size+1+1,0,none⟩ (.slice none 0 0)) (w.heap.size+1+1+1) 108 .nilIface:=(Oa4 _ _ _ _ (by simp)).trans (h.b3.alloc _)
 refine h.bad name c H _ ?_ ?_ ?_ ?_ ?_ ?_
 ·exact(Oa4 _ _ _ _ (by simp;omega)).trans ((Oa4 _ _ _ _ (by simp;omega)).trans (heap_alloc_new _ _))
 ·exact(Oa4 _ _ _ _ (by simp)).trans ((h.b2.alloc _).set _)
 ·exact L.set _
 ·exact(((h.below.alloc h.below.size _).setCell (p:=⟨w.heap.size+1+1,0,none⟩) (by simp;omega) _).setCell (p:=⟨w.heap.size+1+1+1,0,none⟩) (by simp;omega) _).drew
 ·show A.heap.size≤((((A.alloc _).setCell _ _).setCell _ _).heap).size
  simp[World.setCell]
 intro k hk J K
 exact(Oa4 _ _ _ _ K).trans ((Oa4 _ _ _ _ J).trans (Oa9 _ _ _ hk))
theorem Kis.badB {w:World}{K:Array Value}{O:Value}{A:World}{T:List (List UInt8)}(h:Kis w K O A T)(name:ByteArray)(c:Nat)(H:Addr) :
  Ki7 w H (((A.setCell ⟨w.heap.size+1+1,0,none⟩ (.slice none 0 0)).alloc (.cells #[.string name,.int .i64 (c:Int),.iface 528 (.pointer (some H))] 189)).setCell ⟨w.heap.size+1+1+1,0,none⟩ (.iface 187 (.pointer (some ⟨A.heap.size,0,none⟩)))).drew c ∧
  KeepsOthers A (((A.setCell ⟨w.heap.size+1+1,0,none⟩ (.slice none 0 0)).alloc (.cells #[.string name,.int .i64 (c:Int),.iface 528 (.pointer (some H))] 189)).setCell ⟨w.heap.size+1+1+1,0,none⟩ (.iface 187 (.pointer (some ⟨A.heap.size,0,none⟩)))).drew:=by
 have R:=h.size
 have I:(A.setCell ⟨w.heap.size+1+1,0,none⟩ (.slice none 0 0)).heap.size=A.heap.size:=by simp[World.setCell]
 have N:Boxed ((A.setCell ⟨w.heap.size+1+1,0,none⟩ (.slice none 0 0)).alloc (.cells #[.string name,.int .i64 (c:Int),.iface 528 (.pointer (some H))] 189)) (w.heap.size+1+1+1) 108 .nilIface:=Boxed.alloc ((Oa4 _ _ _ _ (by simp)).trans h.b3) _
 have J:=heap_alloc_new (A.setCell ⟨w.heap.size+1+1,0,none⟩ (.slice none 0 0)) (.cells #[.string name,.int .i64 (c:Int),.iface 528 (.pointer (some H))] 189)
 rw[I]at J
 refine h.bad name c H _ ?_ ?_ ?_ ?_ ?_ ?_
 ·exact(Oa4 _ _ _ _ (by simp;omega)).trans J
 ·exact(Oa4 _ _ _ _ (by simp)).trans ((h.b2.set _).alloc _)
 ·exact N.set _
 ·exact(((h.below.setCell (p:=⟨w.heap.size+1+1,0,none⟩) (by simp;omega) _).alloc (by rw[I];omega) _).setCell (p:=⟨w.heap.size+1+1+1,0,none⟩) (by simp;omega) _).drew
 ·show A.heap.size≤((((A.setCell _ _).alloc _).setCell _ _).heap).size
  simp[World.setCell]
 intro k hk L M
 exact(Oa4 _ _ _ _ M).trans ((Oa9 _ _ _ (by rw[I];exact hk)).trans (Oa4 _ _ _ _ L))
theorem Jqm {name:ByteArray}{ts hs:List Int}{rs rows:List (List V)}(R:Jel name ts rs)(O:∀ r∈rows,r∈rs)(N:rows.length≤64)(c:Nat)(Y:c<ts.length)(Z:hs.length=ts.length)(U:∀ j (H:j<hs.length),way (ts.getD j 0) hs[j]=true) :
  (Uo rows ts hs c).2=0∨(Uo rows ts hs c).2=2:=by
 have hw:=U c (by omega)
 have J:hs.getD c 0=hs[c]'(by omega):=by simp[show c<hs.length by omega]
 have L:Jfr (ts.getD c 0) (Jaj rows c)=true:=by
  rw[Jfd]
  refine⟨by simpa [Jaj] using N,fun j H=>?_⟩
  have K:j<rows.length:=by simpa [Jaj] using H
  obtain⟨i,hi,M⟩:=Od5 (O _ (Ob3 K))
  obtain⟨X,I⟩:=R.2.2.2 i hi
  have A:c<(rs[i]).length:=by omega
  have:=I c A
  have e:(Jaj rows c)[j]=(rs[i])[c]:=by
   simp only[Jaj,Od9,Oa0]
   simp only[←M,Oa3 A,Option.getD_some]
  rw[e]
  exact this
 unfold Uo Jev
 rw[J,hw,L,Bool.and_self,if_pos rfl]
 split
 ·exact .inr rfl
 exact .inl rfl
theorem Kkk (name:ByteArray)(at_ ar ah:Option Addr)(ct cr ch g:Nat)(ts hs:List Int)(xs:List (Option Addr×Nat))(rs:List (List V))(w:World)(bH:Jel name ts rs)(cB:Hid (hs.length=ts.length))(cT:∀ j (dA:j<hs.length),way (ts.getD j 0) hs[j]=true)(bu:1≤g)(dy:g≤64)(dE:rs.length≤cr)
  (bl:Kc w at_ ts) (cM:Kc w ah hs) (bR:Zd w ar xs rs) (dc:Hid (∀ x∈hs,Qba x)) (bY bc cE:Addr) (cL:Jf0 w bY bc cE) :
  Calls prog 90 #[.agg #[.string name,.slice at_ ts.length ct,.slice ar rs.length cr],.slice ah hs.length ch,.int .i64 (g:Int)] w fun e w'=>Kkr w bc (Jfg rs ts hs (cks rs.length g (ckN rs.length g))) e w':=by
 refine(callsIn_wide (n:=3)).1 ?_
 refine callsIn_of_wp_marks func90 rfl trivial ?_ rfl
 simp only[ntmps90,Om3,List.length_cons,List.length_nil,Nat.reduceAdd,Nat.reduceSub,Ok9,Array.replicate_zero,Om4,Ol2,List.nil_append,List.cons_append]
 have cK:=fun (W:World)=>Kke ar rs.length cr g bu W
 gi_wp2_with (refine⟨trivial,?_⟩;gi_at_call 127;refine(callsIn_wide.2 (cK _)).mono ?_;rintro e w' ⟨rfl,rfl⟩)
 generalize cJ:World.alloc _ (Obj.cells #[.int .i64 (g:Int)] 3)=bK
 obtain⟨cR,di,dj,dk,dl,dm,cF,cG,du⟩:=Kkx w _ _ _ _ _ _ _ bK cJ
 have bA:Hid (bK.heap.size=w.heap.size+7):=cR
 clear cJ cR cK
 have dI:rs.length=0∨∃ b o,ar=some ⟨b,o,none⟩:=by
  rcases bR.cells with h|⟨b,o,h,_⟩
  ·left
   have:=congrArg List.length h
   simp[bR.len]at this
   exact Od3.2 this
  exact .inr ⟨b,o,h⟩
 have fj:rs.length≤200:=bH.2.2.1
 refine wpIn_rangeFunc_ownG rfl (by omega) (gf:=157) (lb:=#[.pointer (some ⟨w.heap.size+1+1+1+1+1,0,none⟩),.pointer (some ⟨w.heap.size+1+1+1+1+1+1,0,none⟩)]) rfl trivial (enters_of func157 (by kernel_rfl) rfl)
  (Kjw 2 (by omega) (w.heap.size+1+1+1+1+1) (w.heap.size+1+1+1+1+1+1) ar rs.length cr g bu dy (by omega) dE dI bK (Jd cF) (Jd cG) (by simp[World.cell?,cF]) (by simp[World.cell?,cG]))
  (fun h k=>⟨k.1.trans h.1,k.2.trans h.2⟩) ?hKb (Oa5 _ _) (fun _=>rfl)
  (fun pre W=>∃ T,Jfg rs ts hs (pre.map Subtype.val)=.inl T∧T.length≤pre.length*6∧Kis w #[.string name,.slice at_ ts.length ct,.slice ar rs.length cr] (.slice ah hs.length ch) W T)
  (fun c pre W=>c=.ret∧∃ br,Jfg rs ts hs (pre.map Subtype.val)=.inr br∧Ki7 w bc W br)
  ?hI ?hIx ?h0
  (fun x=>{tmps:=#[.agg #[.string name,.slice at_ ts.length ct,.slice ar rs.length cr],.slice ah hs.length ch,.int .i64 (g:Int),.pointer (some ⟨w.heap.size,0,none⟩),.pointer (some ⟨w.heap.size+1,0,none⟩),undef,.pointer (some ⟨w.heap.size+1+1,0,none⟩),.pointer (some ⟨w.heap.size+1+1+1,0,none⟩),.pointer (some ⟨w.heap.size+1+1+1+1,0,none⟩),ckV ar x.1,undef,undef,undef,undef,
   .pointer (some ⟨w.heap.size,2,none⟩),.slice ar rs.length cr,.int .i64 (g:Int),.func (.func 157) #[] #[.pointer (some ⟨w.heap.size+1+1+1+1+1,0,none⟩),.pointer (some ⟨w.heap.size+1+1+1+1+1+1,0,none⟩)],ckV ar x.1,undef,undef,undef,undef,undef,undef,undef,undef,undef,undef,undef,undef,undef,undef,undef,undef,undef,undef,undef,undef,undef,undef,undef,undef,undef,undef,undef,undef,undef,undef,undef,undef,undef,undef,undef],defers:=[]}) ?assign ?body ?done ?stop
 case hKb=>
  intro W l o fn fi fl ci _
  have:=bA.out
  exact⟨World.putObj_heap_other (by omega),World.putObj_heap_other (by omega)⟩
 case hI=>
  rintro s W H row ⟨T,U,cH,L⟩ bu Z
  exact⟨T,U,cH,L.kept bu fun r e=>⟨by have:=(Z r e).1;have:=bA.out;omega,(Z r e).2⟩⟩
 case hIx=>
  rintro c s W H row ⟨ci,br,U,L⟩ bu Z
  exact⟨ci,br,U,L.kept bu fun r e=>⟨by have:=(Z r e).1;have:=bA.out;omega,(Z r e).2⟩⟩
 case h0=>exact⟨[],rfl,by simp,di,dj,dk,dl,⟨_,dm,Jo.nil _ _ _⟩,du,by rw[bA.out];exact Oa2 _⟩
 case assign=>
  intro l x W I A
  gi_wp2
  exact A
 case body=>
  rintro l pre x W ⟨T,cI,fe,hI⟩ cu
  obtain⟨cZ,dT,cU,dJ⟩:=bR.piece x
  obtain⟨bS,df⟩:∃ bS,Hid (x.1.2=bS):=⟨_,rfl⟩
  have dG:(Uk rs x.1).length≤64:=by have:=x.2;unfold Uk;rw[Oc7];omega
  have bX:Hid (∀ r∈Uk rs x.1,r∈rs):=fun r Z=>Oh7 (Om9 Z)
  have cC:Hid (Jfg rs ts hs ((pre++[x]).map Subtype.val)=Jiu rs ts hs (.inl T) x.1):=by show _=_;rw[Ob8,Oe4,Oi4,Juv,cI]
  have fg:ckN rs.length g≤rs.length:=by
   unfold ckN
   rw[Nat.div_le_iff_le_mul_add_pred (by omega)]
   have:rs.length≤g*rs.length:=Nat.le_mul_of_pos_left _ bu
   omega
  have cP:(pre++[x]).length=pre.length+1:=by simp
  have db:Hid ((pre++[x]).length=pre.length+1):=cP
  rw[cU,df.out]
  clear cI cU cP
  have cD:Hid (Jiu rs ts hs (.inl T) x.1=match Jeo (Uk rs x.1) ts hs ts.length with|.inl l=>.inl (T++l)|.inr c=>.inr c):=rfl
  generalize Uk rs x.1=rows at *
  have fm:=bH.2.1.1
  have dV:W.cell? ⟨w.heap.size,1,none⟩=some (.slice at_ ts.length ct):=by simp[World.cell?,hI.b0]
  have de:Hid (∀ j (dA:j<hs.length),way (ts.getD j 0) hs[j]=true):=cT
  clear cT
  gi_wp2
  gi_loopw [22] (fun i wr=>∃ (c:Nat) (R:List (List UInt8)),c≤ts.length∧i=.int .i64 c∧Hid (Jeo rows ts hs c=.inl R)∧Kis w #[.string name,.slice at_ ts.length ct,.slice ar rs.length cr] (.slice ah hs.length ch) wr (T++R)∧KeepsFrom bK.heap.size W wr∧KpC (w.heap.size+1+1+1+1+1) (w.heap.size+1+1+1+1+1+1) W wr) (fun i _=>ts.length-(intOf i).toNat)
  case atStart=>exact⟨0,[],Ob7 _,rfl,rfl,by simpa using hI,KeepsFrom.refl _ _,rfl,rfl⟩
  case round=>
   obtain⟨c,R,ci,rfl,bn,ba,bO,cl⟩:=hrel
   have cb:=Jjc rows ts hs c R bn.out
   by_cases bP:c<ts.length
   ·have bj:=ba.below
    have cN:c<hs.length:=by have:=cB.out;omega
    obtain⟨b1,o1,rfl,ff,fw⟩:=Kc.at (bl.below bj) bP
    obtain⟨b2,o2,rfl,bN,bT⟩:=Kc.at (cM.below bj) cN
    have c1:=ba.b1.cell
    have dU:wr.cell? ⟨w.heap.size,0,none⟩=some (.string name):=by simp[World.cell?,ba.b0]
    have cj:=Jqm bH bX.out dG c bP cB.out de.out
    have ck:Uo rows ts hs c=Jev ts[c] hs[c] (Jaj rows c):=by simp[Uo,bP,cN]
    rw[ck]at cj
    have bI:Hid (Uo rows ts hs c=Jev ts[c] hs[c] (Jaj rows c)):=ck
    have cA:Hid (∀ H,Below w.heap.size w H→Calls prog 129 #[.slice cZ rows.length bS,.int .i64 (c:Int)] H fun e w'=>∃ v,e=.returned v∧Jc9 H w' (Jaj rows c) v∧Below H.heap.size H w'):=fun H cc=>by
     refine Kj5 cZ bS dT rows c H (by omega) (dJ.below cc) (fun r Z=>?_) (fun r Z=>?_)
     ·obtain⟨i,hi,rfl⟩:=Od5 (bX.out r Z)
      have:=(bH.2.2.2 i hi).1;omega
     obtain⟨i,hi,rfl⟩:=Od5 (bX.out r Z)
     have:=(bH.2.2.2 i hi).1;omega
    have bJ:Hid (∀ H b,Below w.heap.size w H→Kv H b (Jaj rows c) []→Calls prog 128 #[.int .i64 ts[c],.int .i64 hs[c],.slice (some ⟨b,0,none⟩) (Jaj rows c).length (Jaj rows c).length] H fun e w'=>e=.returned (.tuple #[.string (Qw (Jev ts[c] hs[c] (Jaj rows c)).1),Jk9 bY bc (Jev ts[c] hs[c] (Jaj rows c)).2])∧Below H.heap.size H w'):=fun H b cc dD=>
     (dc.out hs[c] (Ob3 _)).pack ts[c] (some ⟨b,0,none⟩) _ (Jaj rows c) H (by unfold maxLen;simp[Jaj];omega) dD.vals bY bc cE (cL.below cc)
    have da:Hid (R.length=c):=cb
    have fk:prog.follows .mixedOrders=true:=by kernel_rfl
    clear ck cb bl cM bR cL
    generalize cQ:Jev ts[c] hs[c] (Jaj rows c)=dO at *
    obtain⟨bC,pc⟩:=dO
    simp only at cj
    rcases cj with rfl|rfl
    ·have bV:Hid (Jeo rows ts hs (c+1)=.inl (R++[bC])):=by show _=_;simp only[Jeo,bn.out,bI.out];rfl
     clear cQ bn bI
     have bE:=ba.b1.lt
     have bW:Hid (∀ H b,Below w.heap.size w H→Kv H b (Jaj rows c) []→Calls prog 128 #[.int .i64 ts[c],.int .i64 hs[c],.slice (some ⟨b,0,none⟩) (Jaj rows c).length (Jaj rows c).length] H fun e w'=>e=.returned (.tuple #[.string (Qw bC),.nilIface])∧Below H.heap.size H w'):=bJ.out
     clear bJ
     gi_wp2
     refine Kix (S:=fun bb=>bb.cell? ⟨w.heap.size+1,0,none⟩=some (.slice (some ⟨b2,o2,none⟩) hs.length ch)∧bb.cell? ⟨b2,o2+c,none⟩=some (.int .i64 hs[c])∧Below w.heap.size w bb) (by kernel_rfl) (by kernel_rfl) ⟨c1,bT,bj.drew⟩ (fun J=>?_)
     refine Kn 0 rfl J ?_
     refine Kn 1 rfl J ?_
     refine Kn 2 rfl J ?_
     refine Kn 3 rfl J ?_
     refine Kn 4 rfl J ?_
     refine Kn 5 rfl J ?_
     refine Kn 6 rfl J ?_
     refine tkn ?_
     refine tkr 7 rfl fun I A=>?_
     go_simp
     refine(cA.out _ J.2.2).mono ?_
     rintro e dS ⟨v,rfl,⟨bq,rfl,dw,cv⟩,Y⟩
     go_simp
     obtain⟨M,_⟩:=Kx Y
     refine A.out _ _ ⟨(M (w.heap.size+1) 0 bE).trans c1,(M b2 (o2+c) bN).trans bT,bj.trans ((Jw Y).mono bj.size)⟩ (fun N=>?_)
     clear A I M J
     refine tkr 8 rfl fun I A=>?_
     go_simp
     refine(bW.out _ _ N.2.2 cv).mono ?_
     rintro e K ⟨rfl,bh⟩
     go_simp
     obtain⟨M,_⟩:=Kx bh
     have bf:=Y.size
     refine A.out _ _ ⟨(M (w.heap.size+1) 0 (Oc2 bE bf)).trans N.1,(M b2 (o2+c) (Oc2 bN bf)).trans N.2.1,N.2.2.trans (bh.mono N.2.2.size)⟩ (fun X=>?_)
     clear A I M N
     refine Kn 9 rfl X ?_
     refine Kn 10 rfl X ?_
     refine Kn 11 rfl X ?_
     refine Kn 12 rfl X ?_
     refine Kn 13 rfl X ?_
     refine tkn ?_
     refine wpAnyH_done (by kernel_rfl) (Jpf.go ?_) _
     have O:=ba.ahead ((Jw Y).trans (bh.mono bf))
     obtain⟨sv,bQ,bz⟩:=O.own
     have c4:=bQ.cell
     obtain⟨dN,hi,dK,dL,dM⟩:=info_parts Kjq
     have fd:(List.map tv (T++R)).length≤2000:=by rw[Oa6,Oa8,da.out];omega
     have dp:=O.size
     obtain⟨fu,fv,bG,_⟩:=bz.cells
     rw[Oa6,Oa8]at bG
     subst bG
     gi_wp2_with (gi_at_builtin;go_must (refine wpListIn_append_own _ rfl _ _ 70 rfl (w.heap.size+7) 9 dN _ 1 16 underlying70 hi dK dL dM rfl (by decide) _ _ _ rfl (Jo.alloc bz _) ⟨K.heap.size,0,none⟩ 1 1 [tv bC] rfl rfl (by exact Ua K _ _) (by intro u cS;simp at cS;subst cS;rfl) (by unfold maxLen;omega) (by omega) (by simp;omega) ?_);intro dR w4 cO dz _;go_must (have bx:=O.more bQ bz _ bC (sv':=dR) (w4:=w4) (by unfold Jo;simpa [On5] using cO) dz);go_must (obtain⟨fc,dX,dH⟩:=ownsRow_succ cO);subst dH;have dW:=bx.2.2.2.cell;have fa:=bx.2.2.2.frozen)
     go_roundw
     case rel=>
      have bB:Below wr.heap.size wr K:=(Jw Y).trans (bh.mono bf)
      have dB:=Kiz bB
      rw[Oa6,Oa8]at bx
      refine⟨c+1,R++[bC],by omega,by go_num,bV.out,by rw[←Od8];exact bx.1,bO.trans ((dB.trans bx.2.1).from _),?_,?_⟩
      ·exact(bx.2.2.1.1.trans (bB.block _ (by have:=ba.size;omega))).trans cl.1
      exact(bx.2.2.1.2.trans (bB.block _ (by have:=ba.size;omega))).trans cl.2
     case measure=>simp[intOf];omega
    have bV:Hid (Jeo rows ts hs ts.length=.inr c):=Kkc rows ts hs c (c+1) ts.length (by simp only[Jeo,bn.out,bI.out];rfl) bP
    clear cQ bn bI
    have bE:=ba.b1.lt
    have bW:Hid (∀ H b,Below w.heap.size w H→Kv H b (Jaj rows c) []→Calls prog 128 #[.int .i64 ts[c],.int .i64 hs[c],.slice (some ⟨b,0,none⟩) (Jaj rows c).length (Jaj rows c).length] H fun e w'=>e=.returned (.tuple #[.string (Qw bC),.iface 528 (.pointer (some bc))])∧Below H.heap.size H w'):=bJ.out
    clear bJ
    gi_wp2
    refine Kix (S:=fun bb=>bb.cell? ⟨w.heap.size+1,0,none⟩=some (.slice (some ⟨b2,o2,none⟩) hs.length ch)∧bb.cell? ⟨b2,o2+c,none⟩=some (.int .i64 hs[c])∧Below w.heap.size w bb) (by kernel_rfl) (by kernel_rfl) ⟨c1,bT,bj.drew⟩ (fun J=>?_)
    refine Kn 0 rfl J ?_
    refine Kn 1 rfl J ?_
    refine Kn 2 rfl J ?_
    refine Kn 3 rfl J ?_
    refine Kn 4 rfl J ?_
    refine Kn 5 rfl J ?_
    refine Kn 6 rfl J ?_
    refine tkn ?_
    refine tkr 7 rfl fun I A=>?_
    go_simp
    refine(cA.out _ J.2.2).mono ?_
    rintro e dS ⟨v,rfl,⟨bq,rfl,dw,cv⟩,Y⟩
    go_simp
    obtain⟨M,_⟩:=Kx Y
    refine A.out _ _ ⟨(M (w.heap.size+1) 0 bE).trans c1,(M b2 (o2+c) bN).trans bT,bj.trans ((Jw Y).mono bj.size)⟩ (fun N=>?_)
    clear A I M J
    refine tkr 8 rfl fun I A=>?_
    go_simp
    refine(bW.out _ _ N.2.2 cv).mono ?_
    rintro e K ⟨rfl,bh⟩
    go_simp
    obtain⟨M,_⟩:=Kx bh
    have bf:=Y.size
    refine A.out _ _ ⟨(M (w.heap.size+1) 0 (Oc2 bE bf)).trans N.1,(M b2 (o2+c) (Oc2 bN bf)).trans N.2.1,N.2.2.trans (bh.mono N.2.2.size)⟩ (fun X=>?_)
    clear A I M N
    refine Kn 9 rfl X ?_
    refine Kn 10 rfl X ?_
    refine Kn 11 rfl X ?_
    refine Kn 12 rfl X ?_
    refine Kn 13 rfl X ?_
    refine tkn ?_
    refine wpAnyH_done (by kernel_rfl) (Jpf.go ?_) _
    have O:=ba.ahead ((Jw Y).trans (bh.mono bf))
    have bB:Below wr.heap.size wr K:=(Jw Y).trans (bh.mono bf)
    have bi:Hid (Jfg rs ts hs ((pre++[x]).map Subtype.val)=.inr c):=by show _=_;rw[cC.out,cD.out,bV.out]
    have bZ:K.cell? ⟨w.heap.size,0,none⟩=some (.string name):=by simp[World.cell?,O.b0]
    have dQ:=O.b2.cell
    have dP:=O.b2.frozen
    have cY:=O.b3.cell
    have cX:=O.b3.frozen
    have dp:=O.size
    gi_wp2
    refine Kix (S:=fun bb=>bb.cell? ⟨w.heap.size,0,none⟩=some (.string name)) (by kernel_rfl) (by kernel_rfl) bZ (fun bD=>?_)
    refine Kn 0 rfl bD ?_
    refine Kn 1 rfl bD ?_
    refine Kn 2 rfl bD ?_
    refine Kn 3 rfl bD ?_
    refine Kn 4 rfl bD ?_
    refine tkn ?_
    have fr:∀ o,(K.alloc o).cell? ⟨w.heap.size+1+1,0,none⟩=some (.slice none 0 0):=fun o=>(Jnf K o _ 0 (by omega)).trans dQ
    have fo:∀ o,(K.alloc o).frozen? ⟨w.heap.size+1+1,0,none⟩=false:=fun o=>(Jh9 K o _ 0 (by omega)).trans dP
    have fs:∀ o,(K.alloc o).cell? ⟨w.heap.size+1+1+1,0,none⟩=some .nilIface:=fun o=>(Jnf K o _ 0 (by omega)).trans cY
    have fp:∀ o,(K.alloc o).frozen? ⟨w.heap.size+1+1+1,0,none⟩=false:=fun o=>(Jh9 K o _ 0 (by omega)).trans cX
    refine wpAnyH_ready (rs:=[5,7]) (by kernel_rfl) (by simp) (AllReadyH.cons rfl (fun I A=>?_) (AllReadyH.cons rfl (fun I A=>?_) AllReadyH.nil))
    ·go_simp
     refine A.out _ _ ((Jnf K _ _ _ (by omega)).trans bZ) (fun bL=>?_)
     clear A I
     refine Kn 6 rfl bL ?_
     refine tkn ?_
     refine tkr 7 rfl fun I A=>?_
     go_simp
     refine A.out _ _ ((Ob5 _ _ _ _ (by simp)).trans bL) (fun bM=>?_)
     clear A I
     refine tkr 8 rfl fun I A=>?_
     go_simp
     refine A.out _ _ ((Ob5 _ _ _ _ (by simp)).trans bM) (fun dr=>?_)
     clear A I
     refine wpAnyH_done (by kernel_rfl) (Jpf.go ?_) _
     gi_wp2
     have bl:=O.badA name c bc
     exact⟨bO.trans (((Kiz bB).trans bl.2).from _),rfl,c,bi.out,bl.1⟩
    go_simp
    refine A.out _ _ ((Ob5 _ _ _ _ (by simp)).trans bZ) (fun bL=>?_)
    clear A I
    have cx:(K.setCell ⟨w.heap.size+1+1,0,none⟩ (.slice none 0 0)).heap.size=K.heap.size:=by simp[World.setCell]
    have ft:∀ o,((K.setCell ⟨w.heap.size+1+1,0,none⟩ (.slice none 0 0)).alloc o).cell? ⟨w.heap.size+1+1+1,0,none⟩=some .nilIface:=fun o=>(Jnf _ o _ 0 (by rw[cx];omega)).trans ((Ob5 _ _ _ _ (by simp)).trans cY)
    have fq:∀ o,((K.setCell ⟨w.heap.size+1+1,0,none⟩ (.slice none 0 0)).alloc o).frozen? ⟨w.heap.size+1+1+1,0,none⟩=false:=fun o=>(Jh9 _ o _ 0 (by rw[cx];omega)).trans ((On9 _ _ _ _).trans cX)
    refine tkr 5 rfl fun I A=>?_
    go_simp
    refine A.out _ _ ((Jnf _ _ _ _ (by rw[cx];omega)).trans bL) (fun bM=>?_)
    clear A I
    refine Kn 6 rfl bM ?_
    refine tkn ?_
    refine tkr 8 rfl fun I A=>?_
    go_simp
    refine A.out _ _ ((Ob5 _ _ _ _ (by simp)).trans bM) (fun dr=>?_)
    clear A I
    refine wpAnyH_done (by kernel_rfl) (Jpf.go ?_) _
    gi_wp2
    have bl:=O.badB name c bc
    exact⟨bO.trans (((Kiz bB).trans bl.2).from _),rfl,c,bi.out,bl.1⟩
   obtain rfl:c=ts.length:=by omega
   have bi:Hid (Jfg rs ts hs ((pre++[x]).map Subtype.val)=.inl (T++R)):=by show _=_;rw[cC.out,cD.out,bn.out]
   clear cb
   gi_wp2
   exact⟨bO,cl,T++R,bi.out,by rw[db.out,Oa8,Jjc rows ts hs _ R bn.out];omega,ba⟩
 case done=>
  rintro D fx W dq cV ⟨T,U,cH,L⟩ A
  rw[cV]at U
  obtain⟨sv,bQ,bz⟩:=L.own
  obtain⟨a,cap,bG,fh⟩:=bz.cells
  rw[Oa6]at bG
  subst bG
  have c4:=bQ.cell
  have c2:=L.b2.cell
  have dY:=L.b2.frozen
  have c3:=L.b3.cell
  have dZ:=L.b3.frozen
  have bi:Hid (Jfg rs ts hs (cks rs.length g (ckN rs.length g))=.inl T):=U
  have bU:=L
  replace bU:Hid (Kis w #[.string name,.slice at_ ts.length ct,.slice ar rs.length cr] (.slice ah hs.length ch) W T):=bU
  clear U L cV
  gi_wp2
  have ca:=((KeepsOthers.setCell W ⟨w.heap.size+1+1,0,none⟩ (.slice a T.length cap)).trans (KeepsOthers.setCell _ ⟨w.heap.size+1+1+1,0,none⟩ .nilIface)).same D _ A rfl
  refine⟨by simp,.inl ⟨_,_,rfl,run_takeDeferred ca,?_⟩⟩
  have g2:((W.setCell ⟨w.heap.size+1+1,0,none⟩ (.slice a T.length cap)).setCell ⟨w.heap.size+1+1+1,0,none⟩ .nilIface).cell? ⟨w.heap.size+1+1,0,none⟩=some (.slice a T.length cap):=by
   rw[Ob5 _ _ _ _ (by simp)]
   exact World.cell?_setCell_same' _ _ _ (by rw[c2];rfl)
  have dn:((W.setCell ⟨w.heap.size+1+1,0,none⟩ (.slice a T.length cap)).setCell ⟨w.heap.size+1+1+1,0,none⟩ .nilIface).cell? ⟨w.heap.size+1+1+1,0,none⟩=some .nilIface:=
   World.cell?_setCell_same' _ _ _ (by rw[Ob5 _ _ _ _ (by simp),c3];rfl)
  have bk:∀ r,some D=some r→∃ o:Obj,((W.setCell ⟨w.heap.size+1+1,0,none⟩ (.slice a T.length cap)).setCell ⟨w.heap.size+1+1+1,0,none⟩ .nilIface).heap[r]?=some o∧o.isCells=false:=fun r e=>by cases e;exact⟨_,ca,rfl⟩
  have cy:=cell_kept g2 (grownBy_putObj' _ D (.deferred none)) bk
  have cz:=cell_kept dn (grownBy_putObj' _ D (.deferred none)) bk
  refine⟨.tuple #[.slice a T.length cap,.nilIface],by simp[results,Tryz.f90,go_sem,cy,cz],?_⟩
  rw[bi.out]
  have cf:Below w.heap.size w ((W.setCell ⟨w.heap.size+1+1,0,none⟩ (.slice a T.length cap)).setCell ⟨w.heap.size+1+1+1,0,none⟩ .nilIface):=(bU.out.below.setCell (p:=⟨w.heap.size+1+1,0,none⟩) (by simp;omega) _).setCell (p:=⟨w.heap.size+1+1+1,0,none⟩) (by simp;omega) _
  have dC:Jo ((W.setCell ⟨w.heap.size+1+1,0,none⟩ (.slice a T.length cap)).setCell ⟨w.heap.size+1+1+1,0,none⟩ .nilIface) (w.heap.size+7) 9 (.slice a T.length cap) (T.map tv):=Yd bz fun fb dx=>by
   have:=(Je bz dx).1
   rw[Oa4 _ _ _ _ (by simp;omega),Oa4 _ _ _ _ (by simp;omega)]
  have cn:=Kjl dC (grownBy_putObj' _ D (.deferred none)) bk
  refine⟨cf.trans (belowK_b (w:=w) (Oa2 _) _ D _ _ (by have:=bA.out;omega) ca rfl rfl),a,cap,rfl,(Jji cn).1,fun b o ds=>?_⟩
  have:=(Je cn ((Jji cn).2 b o ds)).1
  omega
 case stop=>
  rintro D c pre W dq ⟨k,hk,cu⟩ ⟨rfl,br,U,L⟩ A
  rw[cu]at U
  obtain⟨fy,cW⟩:=Jvd rs.length g k _ hk
  have bi:Hid (Jfg rs ts hs (cks rs.length g (ckN rs.length g))=.inr br):=by show _=_;rw[cW];exact Kkl rs ts hs _ _ _ U
  obtain⟨b,dt,dv,dg,dh⟩:=L.b3
  have c2:=L.b2.cell
  have c3:=dt.cell
  have cf:=L.below
  clear U L cu cW
  gi_wp2
  have bk:∀ r,some D=some r→∃ o:Obj,W.heap[r]?=some o∧o.isCells=false:=fun r e=>by cases e;exact⟨_,A,rfl⟩
  refine⟨by simp,.inl ⟨_,_,rfl,run_takeDeferred A,?_⟩⟩
  have cy:=cell_kept c2 (grownBy_putObj' _ D (.deferred none)) bk
  have cz:=cell_kept c3 (grownBy_putObj' _ D (.deferred none)) bk
  refine⟨.tuple #[.slice none 0 0,.iface 187 (.pointer (some ⟨b,0,none⟩))],by simp[results,Tryz.f90,go_sem,cy,cz],?_⟩
  rw[bi.out]
  exact⟨cf.trans (belowK_b (w:=w) (Oa2 _) _ D _ _ (by have:=bA.out;omega) A rfl rfl),b,rfl,dv,.tab b bc br (cell_kept dg (grownBy_putObj' _ D (.deferred none)) bk) (cell_kept dh (grownBy_putObj' _ D (.deferred none)) bk)⟩
end Go.Proofs.YtcaocabmioafcaaGreatDoor
