/- pack, walked. -/
import Derived.Test.YtpchafocmlhmbaaGreatDoorTi
set_option maxHeartbeats 4000000
set_option maxRecDepth 100000
namespace Go.Proofs.YtpchafocmlhmbaaGreatDoor
open Go.RowKit Go.Shelf Tryz
attribute [local go_sem] Oc0
theorem Kjq:(prog.info? 9).map (fun i=>(i.zero,i.size,i.bytes))=some (some (.string ⟨#[]⟩),1,16):=by kernel_rfl
structure Kis (w:World) (C0:Array Value) (hv:Value) (W:World) (T:List (List UInt8)):Prop where
 b0:W.heap[w.heap.size]?=some (.cells C0 25 (0,0))
 b1:Boxed W (w.heap.size+1) 22 hv
 b2:Boxed W (w.heap.size+1+1) 119 (.slice none 0 0)
 b3:Boxed W (w.heap.size+1+1+1) 74 .nilIface
 own:∃ sv,Boxed W (w.heap.size+1+1+1+1) 119 sv∧Jo W (w.heap.size+7) 9 sv (T.map tv)
 below:Below w.heap.size w W
 size:w.heap.size+7≤W.heap.size
theorem Kir {W y:World}{row:Option Nat}{k:Nat}{C:Array Value}{t:TypeId}{D:Nat×Nat}(h:W.heap[k]?=some (.cells C t D))(K:W.grownBy y row)(hr:∀ r,row=some r→∃ o:Obj,W.heap[r]?=some o∧o.isCells=false):y.heap[k]?=some (.cells C t D):=by
 refine(K.block k (Jd h) fun e=>?_).trans h;obtain⟨o,E,H⟩:=hr k e.symm;rw[h]at E;cases E
 cases H
theorem Kjl {W E:World}{row:Option Nat}{B:Nat}{e:TypeId}{sv:Value}{xs:List Value}(h:Jo W B e sv xs)(K:W.grownBy E row)(hr:∀ r,row=some r→∃ o:Obj,W.heap[r]?=some o∧o.isCells=false):Jo E B e sv xs:=by
 refine Yd h fun g y=>?_;rcases h.2 with⟨D,_⟩|⟨R,cap,O,D,_,H,_⟩
 ·subst D;simp[Value.ownBlock]at y
 subst D;simp[Value.ownBlock]at y;subst y;rw[H];exact Kir H K hr
theorem Kis.kept {w:World}{E:Array Value}{K:Value}{W H:World}{T:List (List UInt8)}{row:Option Nat}(h:Kis w E K W T)(y:W.grownBy H row)(hr:∀ r,row=some r→w.heap.size≤r∧∃ o:Obj,W.heap[r]?=some o∧o.isCells=false):Kis w E K H T:=by
 obtain⟨sv,hs,O⟩:=h.own;have D:∀ r,row=some r→∃ o:Obj,W.heap[r]?=some o∧o.isCells=false:=fun r e=>(hr r e).2;exact⟨Kir h.b0 y D,Kir h.b1 y D,Kir h.b2 y D,Kir h.b3 y D,⟨sv,Kir hs y D,Kjl O y D⟩,h.below.grown y h.below.size (fun k e=>(hr k e).1),Ob2 h.size y.size⟩
theorem Kis.ahead {w:World}{D:Array Value}{H:Value}{W E:World}{T:List (List UInt8)}(h:Kis w D H W T)(y:Below W.heap.size W E):Kis w D H E T:=
 h.kept (row:=none) ⟨y.os,y.tape,y.output,y.size,fun k K _=>y.block k K⟩ (fun r e=>by cases e)
structure Ki7 (w:World) (a1:Addr) (W:World) (col:Nat):Prop where
 b2:Boxed W (w.heap.size+1+1) 119 (.slice none 0 0)
 b3:∃ b,Boxed W (w.heap.size+1+1+1) 74 (.iface 123 (.pointer (some ⟨b,0,none⟩)))∧w.heap.size≤b∧W.cell? ⟨b,1,none⟩=some (.int .i64 (col:Int))∧W.cell? ⟨b,2,none⟩=some (.iface 433 (.pointer (some a1)))
 below:Below w.heap.size w W
theorem Ki7.kept {w:World}{H:Addr}{W E:World}{col:Nat}{row:Option Nat}(h:Ki7 w H W col)(y:W.grownBy E row)(hr:∀ r,row=some r→w.heap.size≤r∧∃ o:Obj,W.heap[r]?=some o∧o.isCells=false):Ki7 w H E col:=by
 obtain⟨b,K,O,c1,c2⟩:=h.b3;have D:∀ r,row=some r→∃ o:Obj,W.heap[r]?=some o∧o.isCells=false:=fun r e=>(hr r e).2;exact⟨Kir h.b2 y D,⟨b,Kir K y D,O,cell_kept c1 y D,cell_kept c2 y D⟩,h.below.grown y h.below.size (fun k e=>(hr k e).1)⟩
def Kkr (w:World)(y:Addr)(r:List (List UInt8)⊕Nat)(e:Ending)(w':World):Prop:=
 Below w.heap.size w w'∧match r with
  |.inl T=>∃ a cap,e=.returned (.tuple #[.slice a T.length cap,.nilIface])∧Uh w' a (T.map tv)∧∀ b o,a=some ⟨b,o,none⟩→w.heap.size≤b
  |.inr c=>∃ b,e=.returned (.tuple #[.slice none 0 0,.iface 123 (.pointer (some ⟨b,0,none⟩))])∧w.heap.size≤b∧Yu w' (.iface 123 (.pointer (some ⟨b,0,none⟩))) y (some (c:Int)) none
theorem Jb4 (w:World)(o:Obj)(k:Nat)(y:k=w.heap.size):(w.alloc o).heap[k]?=some o:=by subst y;exact heap_alloc_new w o
theorem Kkx (w:World)(y D E H K O R:Obj)(W:World)(U:(((((((w.alloc y).alloc D).alloc E).alloc H).alloc K).alloc O).alloc R)=W) :
  W.heap.size=w.heap.size+7∧W.heap[w.heap.size]?=some y∧W.heap[w.heap.size+1]?=some D∧W.heap[w.heap.size+1+1]?=some E∧W.heap[w.heap.size+1+1+1]?=some H∧W.heap[w.heap.size+1+1+1+1]?=some K∧W.heap[w.heap.size+1+1+1+1+1]?=some O∧W.heap[w.heap.size+1+1+1+1+1+1]?=some R∧Below w.heap.size w W:=by
 subst U;refine⟨by simp,?_,?_,?_,?_,?_,?_,?_,?_⟩
 ·rw[Oa9 _ _ _ (by simp only[Oa7];omega),Oa9 _ _ _ (by simp only[Oa7];omega),Oa9 _ _ _ (by simp only[Oa7];omega),Oa9 _ _ _ (by simp only[Oa7];omega),Oa9 _ _ _ (by simp only[Oa7];omega),Oa9 _ _ _ (by simp)];exact Jb4 _ _ _ rfl
 ·rw[Oa9 _ _ _ (by simp only[Oa7];omega),Oa9 _ _ _ (by simp only[Oa7];omega),Oa9 _ _ _ (by simp only[Oa7];omega),Oa9 _ _ _ (by simp only[Oa7];omega),Oa9 _ _ _ (by simp)];exact Jb4 _ _ _ (by simp only[Oa7])
 ·rw[Oa9 _ _ _ (by simp only[Oa7];omega),Oa9 _ _ _ (by simp only[Oa7];omega),Oa9 _ _ _ (by simp only[Oa7];omega),Oa9 _ _ _ (by simp)];exact Jb4 _ _ _ (by simp only[Oa7])
 ·rw[Oa9 _ _ _ (by simp only[Oa7];omega),Oa9 _ _ _ (by simp only[Oa7];omega),Oa9 _ _ _ (by simp)];exact Jb4 _ _ _ (by simp only[Oa7])
 ·rw[Oa9 _ _ _ (by simp only[Oa7];omega),Oa9 _ _ _ (by simp)];exact Jb4 _ _ _ (by simp only[Oa7])
 ·rw[Oa9 _ _ _ (by simp)];exact Jb4 _ _ _ (by simp only[Oa7])
 ·exact Jb4 _ _ _ (by simp only[Oa7])
 exact(((((((Oa5 _ w).alloc (Oa2 _) _).alloc (by simp) _).alloc (by simp;omega) _).alloc (by simp;omega) _).alloc (by simp;omega) _).alloc (by simp;omega) _).alloc (by simp;omega) _
theorem Jpf.go {Q:Exit→Act→World→Prop}{a:Act}{w:World}(h:Q .normal a w):Jpf Q .normal a w:=h
theorem Kis.more {w:World}{R:Array Value}{K:Value}{y w4:World}{T:List (List UInt8)}{sv sv':Value}(h:Kis w R K y T)(br:Boxed y (w.heap.size+1+1+1+1) 119 sv)(ba:Jo y (w.heap.size+7) 9 sv (T.map tv))(o:Obj)(pt:List UInt8)
  (bc:Jo w4 (w.heap.size+7) 9 sv' (T.map tv++[tv pt])) (D:(y.alloc o).grownBy w4 sv.ownBlock) :
  Kis w R K (w4.setCell ⟨w.heap.size+1+1+1+1,0,none⟩ sv') (T++[pt])∧KeepsOthers y (w4.setCell ⟨w.heap.size+1+1+1+1,0,none⟩ sv')∧KpC (w.heap.size+1+1+1+1+1) (w.heap.size+1+1+1+1+1+1) y (w4.setCell ⟨w.heap.size+1+1+1+1,0,none⟩ sv')∧Boxed w4 (w.heap.size+1+1+1+1) 119 sv:=by
 have bz:=h.size;have bf:∀ g,sv.ownBlock=some g→w.heap.size+7≤g:=fun g D=>(Je ba D).1;have bn:∀ k,k<y.heap.size→sv.ownBlock≠some k→w4.heap[k]?=y.heap[k]?:=fun k E O=>(D.block k (by simp;omega) (Oc5 O)).trans (Oa9 y o k E);have Y:∀ k,k<w.heap.size+7→w4.heap[k]?=y.heap[k]?:=fun k E=>bn k (by omega) fun e=>by have:=bf k e;omega
 have X:Boxed w4 (w.heap.size+1+1+1+1) 119 sv:=(Y _ (by omega)).trans br;have H:∀ k,k<w.heap.size+7→k≠w.heap.size+1+1+1+1→(w4.setCell ⟨w.heap.size+1+1+1+1,0,none⟩ sv').heap[k]?=y.heap[k]?:=fun k E O=>(Oa4 _ _ _ _ O).trans (Y k E);have bi:=D.size;rw[Oa7]at bi;have bj:(w4.setCell ⟨w.heap.size+1+1+1+1,0,none⟩ sv').heap.size=w4.heap.size:=by simp[World.setCell]
 refine⟨⟨(H _ (by omega) (by omega)).trans h.b0,(H _ (by omega) (by omega)).trans h.b1,(H _ (by omega) (by omega)).trans h.b2,(H _ (by omega) (by omega)).trans h.b3,⟨sv',X.set sv',?_⟩,?_,by rw[bj];omega⟩,?_,⟨H _ (by omega) (by omega),H _ (by omega) (by omega)⟩,X⟩
 ·rw[Ob8];exact Yd bc fun g bh=>Oa4 _ _ _ _ (by have:=(Je bc bh).1;simp;omega)
 ·exact((h.below.alloc h.below.size o).grown D (by simp;omega) (fun k E=>by have:=bf k E;omega)).setCell (p:=⟨w.heap.size+1+1+1+1,0,none⟩) (by simp;omega) _
 refine(KeepsOthers.alloc y o).trans ((KeepsOthers.of_grownBy D fun j ob e Z=>?_).trans (KeepsOthers.setCell _ _ _));rcases ba.2 with⟨K,_⟩|⟨g,cap,bx,K,_,U,_⟩
 ·subst K;simp[Value.ownBlock]at e
 subst K;simp[Value.ownBlock]at e;subst e;rw[Oa9 _ _ _ (Jd U),U]at Z;cases Z
 rfl
theorem Kis.bad {w:World}{R:Array Value}{ba:Value}{y:World}{T:List (List UInt8)}(h:Kis w R ba y T)(name:ByteArray)(c:Nat)(H:Addr)(D:World)(O:D.heap[y.heap.size]?=some (.cells #[.string name,.int .i64 (c:Int),.iface 433 (.pointer (some H))] 125 (0,0)))
  (U:Boxed D (w.heap.size+1+1) 119 (.slice none 0 0)) (X:Boxed D (w.heap.size+1+1+1) 74 (.iface 123 (.pointer (some ⟨y.heap.size,0,none⟩)))) (Y:Below w.heap.size w D) (hs:y.heap.size≤D.heap.size)
  (Z:∀ k,k<y.heap.size→k≠w.heap.size+1+1→k≠w.heap.size+1+1+1→D.heap[k]?=y.heap[k]?):Ki7 w H D c∧KeepsOthers y D:=by
 have bc:=h.size;refine⟨⟨U,⟨y.heap.size,X,by omega,by simp[World.cell?,O],by simp[World.cell?,O]⟩,Y⟩,hs,fun k o E K=>?_⟩;refine(Z k (Jd E) (fun e=>?_) (fun e=>?_)).trans E
 ·subst e;rw[show y.heap[w.heap.size+1+1]?=_ from h.b2]at E;cases E
  cases K
 subst e;rw[show y.heap[w.heap.size+1+1+1]?=_ from h.b3]at E;cases E
 cases K
theorem Kis.badA {w:World}{E:Array Value}{U:Value}{y:World}{T:List (List UInt8)}(h:Kis w E U y T)(name:ByteArray)(c:Nat)(D:Addr) :
  Ki7 w D (((y.alloc (.cells #[.string name,.int .i64 (c:Int),.iface 433 (.pointer (some D))] 125)).setCell ⟨w.heap.size+1+1,0,none⟩ (.slice none 0 0)).setCell ⟨w.heap.size+1+1+1,0,none⟩ (.iface 123 (.pointer (some ⟨y.heap.size,0,none⟩)))).drew c ∧
  KeepsOthers y (((y.alloc (.cells #[.string name,.int .i64 (c:Int),.iface 433 (.pointer (some D))] 125)).setCell ⟨w.heap.size+1+1,0,none⟩ (.slice none 0 0)).setCell ⟨w.heap.size+1+1+1,0,none⟩ (.iface 123 (.pointer (some ⟨y.heap.size,0,none⟩)))).drew:=by
 have X:=h.size;have O:Boxed ((y.alloc (.cells #[.string name,.int .i64 (c:Int),.iface 433 (.pointer (some D))] 125)).setCell ⟨w.heap.size+1+1,0,none⟩ (.slice none 0 0)) (w.heap.size+1+1+1) 74 .nilIface:=(Oa4 _ _ _ _ (by simp)).trans (h.b3.alloc _);refine h.bad name c D _ ?_ ?_ ?_ ?_ ?_ ?_
 ·exact(Oa4 _ _ _ _ (by simp;omega)).trans ((Oa4 _ _ _ _ (by simp;omega)).trans (heap_alloc_new _ _))
 ·exact(Oa4 _ _ _ _ (by simp)).trans ((h.b2.alloc _).set _)
 ·exact O.set _
 ·exact(((h.below.alloc h.below.size _).setCell (p:=⟨w.heap.size+1+1,0,none⟩) (by simp;omega) _).setCell (p:=⟨w.heap.size+1+1+1,0,none⟩) (by simp;omega) _).drew
 ·show y.heap.size≤((((y.alloc _).setCell _ _).setCell _ _).heap).size;simp[World.setCell]
 intro k R H K;exact(Oa4 _ _ _ _ K).trans ((Oa4 _ _ _ _ H).trans (Oa9 _ _ _ R))
theorem Kis.badB {w:World}{K:Array Value}{Y:Value}{y:World}{T:List (List UInt8)}(h:Kis w K Y y T)(name:ByteArray)(c:Nat)(D:Addr) :
  Ki7 w D (((y.setCell ⟨w.heap.size+1+1,0,none⟩ (.slice none 0 0)).alloc (.cells #[.string name,.int .i64 (c:Int),.iface 433 (.pointer (some D))] 125)).setCell ⟨w.heap.size+1+1+1,0,none⟩ (.iface 123 (.pointer (some ⟨y.heap.size,0,none⟩)))).drew c ∧
  KeepsOthers y (((y.setCell ⟨w.heap.size+1+1,0,none⟩ (.slice none 0 0)).alloc (.cells #[.string name,.int .i64 (c:Int),.iface 433 (.pointer (some D))] 125)).setCell ⟨w.heap.size+1+1+1,0,none⟩ (.iface 123 (.pointer (some ⟨y.heap.size,0,none⟩)))).drew:=by
 have Z:=h.size;have E:(y.setCell ⟨w.heap.size+1+1,0,none⟩ (.slice none 0 0)).heap.size=y.heap.size:=by simp[World.setCell]
 have U:Boxed ((y.setCell ⟨w.heap.size+1+1,0,none⟩ (.slice none 0 0)).alloc (.cells #[.string name,.int .i64 (c:Int),.iface 433 (.pointer (some D))] 125)) (w.heap.size+1+1+1) 74 .nilIface:=Boxed.alloc ((Oa4 _ _ _ _ (by simp)).trans h.b3) _;have H:=heap_alloc_new (y.setCell ⟨w.heap.size+1+1,0,none⟩ (.slice none 0 0)) (.cells #[.string name,.int .i64 (c:Int),.iface 433 (.pointer (some D))] 125);rw[E]at H;refine h.bad name c D _ ?_ ?_ ?_ ?_ ?_ ?_
 ·exact(Oa4 _ _ _ _ (by simp;omega)).trans H
 ·exact(Oa4 _ _ _ _ (by simp)).trans ((h.b2.set _).alloc _)
 ·exact U.set _
 ·exact(((h.below.setCell (p:=⟨w.heap.size+1+1,0,none⟩) (by simp;omega) _).alloc (by rw[E];omega) _).setCell (p:=⟨w.heap.size+1+1+1,0,none⟩) (by simp;omega) _).drew
 ·show y.heap.size≤((((y.setCell _ _).alloc _).setCell _ _).heap).size;simp[World.setCell]
 intro k X O R;exact(Oa4 _ _ _ _ R).trans ((Oa9 _ _ _ (by rw[E];exact X)).trans (Oa4 _ _ _ _ O))
theorem Jqm {name:ByteArray}{ts hs:List Int}{rs rows:List (List V)}(Y:Jel name ts rs)(X:∀ r∈rows,r∈rs)(U:rows.length≤64)(c:Nat)(bf:c<ts.length)(bh:hs.length=ts.length)(ba:∀ j (D:j<hs.length),way (ts.getD j 0) hs[j]=true) :
  (Uo rows ts hs c).2=0∨(Uo rows ts hs c).2=2:=by
 have Z:=ba c (by omega);have H:hs.getD c 0=hs[c]'(by omega):=by simp[show c<hs.length by omega]
 have O:Jfr (ts.getD c 0) (Jaj rows c)=true:=by
  rw[Jfd];refine⟨by simpa [Jaj] using U,fun j D=>?_⟩;have K:j<rows.length:=by simpa [Jaj] using D
  obtain⟨i,hi,R⟩:=Od5 (X _ (Ob3 K));obtain⟨bc,E⟩:=Y.2.2.2 i hi;have y:c<(rs[i]).length:=by omega
  have:=E c y;have e:(Jaj rows c)[j]=(rs[i])[c]:=by
   simp only[Jaj,Od9,Oa0];simp only[←R,Oa3 y,Option.getD_some]
  rw[e];exact this
 unfold Uo Jev;rw[H,Z,O,Bool.and_self,if_pos rfl];split
 ·exact .inr rfl
 exact .inl rfl
theorem Kkk (name:ByteArray)(at_ ar bJ:Option Addr)(ct cr bD g:Nat)(ts hs:List Int)(xs:List (Option Addr×Nat))(rs:List (List V))(w:World)(bO:Jel name ts rs)(cJ:Hid (hs.length=ts.length))(dd:∀ j (dM:j<hs.length),way (ts.getD j 0) hs[j]=true)(bE:1≤g)(dK:g≤64)(dR:rs.length≤cr)
  (bA:Kc w at_ ts) (cW:Kc w bJ hs) (bY:Zd w ar xs rs) (dp:Hid (∀ x∈hs,Kjk x)) (ci bi cN:Addr) (cV:Jf0 w ci bi cN) :
  Calls prog 45 #[.agg #[.string name,.slice at_ ts.length ct,.slice ar rs.length cr],.slice bJ hs.length bD,.int .i64 (g:Int)] w fun e w'=>Kkr w bi (Jfg rs ts hs (cks rs.length g (ckN rs.length g))) e w':=by
 refine(callsIn_wide (n:=3)).1 ?_;refine callsIn_of_wp_marks func45 rfl trivial ?_ rfl;simp only[ntmps45,Om3,List.length_cons,List.length_nil,Nat.reduceAdd,Nat.reduceSub,Ok9,Array.replicate_zero,Om4,Ol2,List.nil_append,List.cons_append];have cU:=fun (W:World)=>Kke ar rs.length cr g bE W;gi_wp2_with (refine⟨trivial,?_⟩;gi_at_call 62;refine(callsIn_wide.2 (cU _)).mono ?_;rintro e w' ⟨rfl,rfl⟩)
 generalize cT:World.alloc _ (Obj.cells #[.int .i64 (g:Int)] 3)=bR;obtain⟨db,du,dv,dw,dx,dy,cO,cP,dG⟩:=Kkx w _ _ _ _ _ _ _ bR cT;have bI:Hid (bR.heap.size=w.heap.size+7):=db;clear cT db cU;have dU:rs.length=0∨∃ b o,ar=some ⟨b,o,none⟩:=by
  rcases bY.cells with h|⟨b,o,h,_⟩
  ·left;have:=congrArg List.length h;simp[bY.len]at this;exact Od3.2 this
  exact .inr ⟨b,o,h⟩
 have fx:rs.length≤200:=bO.2.2.1;refine wpIn_rangeFunc_ownG rfl (by omega) (gf:=87) (lb:=#[.pointer (some ⟨w.heap.size+1+1+1+1+1,0,none⟩),.pointer (some ⟨w.heap.size+1+1+1+1+1+1,0,none⟩)]) rfl trivial (enters_of func87 (by kernel_rfl) rfl)
  (Kjw 2 (by omega) (w.heap.size+1+1+1+1+1) (w.heap.size+1+1+1+1+1+1) ar rs.length cr g bE dK (by omega) dR dU bR (Jd cO) (Jd cP) (by simp[World.cell?,cO]) (by simp[World.cell?,cP]))
  (fun h k=>⟨k.1.trans h.1,k.2.trans h.2⟩) ?hKb (Oa5 _ _) (fun _=>rfl)
  (fun X W=>∃ T,Jfg rs ts hs (X.map Subtype.val)=.inl T∧T.length≤X.length*6∧Kis w #[.string name,.slice at_ ts.length ct,.slice ar rs.length cr] (.slice bJ hs.length bD) W T)
  (fun c X W=>c=.ret∧∃ col,Jfg rs ts hs (X.map Subtype.val)=.inr col∧Ki7 w bi W col)
  ?hI ?hIx ?h0
  (fun x=>{tmps:=#[.agg #[.string name,.slice at_ ts.length ct,.slice ar rs.length cr],.slice bJ hs.length bD,.int .i64 (g:Int),.pointer (some ⟨w.heap.size,0,none⟩),.pointer (some ⟨w.heap.size+1,0,none⟩),undef,.pointer (some ⟨w.heap.size+1+1,0,none⟩),.pointer (some ⟨w.heap.size+1+1+1,0,none⟩),.pointer (some ⟨w.heap.size+1+1+1+1,0,none⟩),ckV ar x.1,undef,undef,undef,undef,
   .pointer (some ⟨w.heap.size,2,none⟩),.slice ar rs.length cr,.int .i64 (g:Int),.func (.func 87) #[] #[.pointer (some ⟨w.heap.size+1+1+1+1+1,0,none⟩),.pointer (some ⟨w.heap.size+1+1+1+1+1+1,0,none⟩)],ckV ar x.1,undef,undef,undef,undef,undef,undef,undef,undef,undef,undef,undef,undef,undef,undef,undef,undef,undef,undef,undef,undef,undef,undef,undef,undef,undef,undef,undef,undef,undef,undef,undef,undef,undef,undef,undef],defers:=[]}) ?assign ?body ?done ?stop
 case hKb=>
  intro W l o fB hl fz cy _;have:=bI.out;exact⟨World.putObj_heap_other (by omega),World.putObj_heap_other (by omega)⟩
 case hI=>
  rintro s W D row ⟨T,Z,cQ,O⟩ bE hr;exact⟨T,Z,cQ,O.kept bE fun r e=>⟨by have:=(hr r e).1;have:=bI.out;omega,(hr r e).2⟩⟩
 case hIx=>
  rintro c s W D row ⟨cy,col,Z,O⟩ bE hr;exact⟨cy,col,Z,O.kept bE fun r e=>⟨by have:=(hr r e).1;have:=bI.out;omega,(hr r e).2⟩⟩
 case h0=>exact⟨[],rfl,by simp,du,dv,dw,dx,⟨_,dy,Jo.nil _ _ _⟩,dG,by rw[bI.out];exact Oa2 _⟩
 case assign=>
  intro l x W E y;gi_wp2
  exact y
 case body=>
  rintro l X x W ⟨T,cS,ft,hI⟩ cD;obtain⟨dj,fg,de,dV⟩:=bY.piece x;obtain⟨bZ,dr⟩:∃ bZ,Hid (x.1.2=bZ):=⟨_,rfl⟩;have dS:(Uk rs x.1).length≤64:=by have:=x.2;unfold Uk;rw[Oc7];omega
  have ch:Hid (∀ r∈Uk rs x.1,r∈rs):=fun r hr=>Oh7 (Om9 hr);have cK:Hid (Jfg rs ts hs ((X++[x]).map Subtype.val)=Jiu rs ts hs (.inl T) x.1):=by show _=_;rw[Ob8,Oe4,Oi4,Juv,cS]
  have fv:ckN rs.length g≤rs.length:=by
   unfold ckN;rw[Nat.div_le_iff_le_mul_add_pred (by omega)];have:rs.length≤g*rs.length:=Nat.le_mul_of_pos_left _ bE;omega
  have cZ:(X++[x]).length=X.length+1:=by simp
  have dm:Hid ((X++[x]).length=X.length+1):=cZ;rw[de,dr.out];clear cS de cZ;have cM:Hid (Jiu rs ts hs (.inl T) x.1=match Jeo (Uk rs x.1) ts hs ts.length with|.inl l=>.inl (T++l)|.inr c=>.inr c):=rfl;generalize Uk rs x.1=rows at *;have fA:=bO.2.1.1;have fi:W.cell? ⟨w.heap.size,1,none⟩=some (.slice at_ ts.length ct):=by simp[World.cell?,hI.b0]
  have dq:Hid (∀ j (dM:j<hs.length),way (ts.getD j 0) hs[j]=true):=dd;clear dd;gi_wp2
  gi_loopw [22] (fun i wr=>∃ (c:Nat) (L:List (List UInt8)),c≤ts.length∧i=.int .i64 c∧Hid (Jeo rows ts hs c=.inl L)∧Kis w #[.string name,.slice at_ ts.length ct,.slice ar rs.length cr] (.slice bJ hs.length bD) wr (T++L)∧KeepsFrom bR.heap.size W wr∧KpC (w.heap.size+1+1+1+1+1) (w.heap.size+1+1+1+1+1+1) W wr) (fun i _=>ts.length-(intOf i).toNat)
  case atStart=>exact⟨0,[],Ob7 _,rfl,rfl,by simpa using hI,KeepsFrom.refl _ _,rfl,rfl⟩
  case round=>
   obtain⟨c,L,cy,rfl,bC,bf,bV,cB⟩:=hrel;have cu:=Jjc rows ts hs c L bC.out;by_cases bW:c<ts.length
   ·have bx:=bf.below;have cX:c<hs.length:=by have:=cJ.out;omega
    obtain⟨b1,fC,rfl,fu,fM⟩:=Kc.at (bA.below bx) bW;obtain⟨b2,bB,rfl,bU,ca⟩:=Kc.at (cW.below bx) cX;have c1:=bf.b1.cell;have fh:wr.cell? ⟨w.heap.size,0,none⟩=some (.string name):=by simp[World.cell?,bf.b0]
    have cz:=Jqm bO ch.out dS c bW cJ.out dq.out;have cA:Uo rows ts hs c=Jev ts[c] hs[c] (Jaj rows c):=(by simp[Uo,bW,cX]);rw[cA]at cz;have bP:Hid (Uo rows ts hs c=Jev ts[c] hs[c] (Jaj rows c)):=cA;have cI:Hid (∀ D,Below w.heap.size w D→Calls prog 64 #[.slice dj rows.length bZ,.int .i64 (c:Int)] D fun e w'=>∃ v,e=.returned v∧Jc9 D w' (Jaj rows c) v∧Below D.heap.size D w'):=fun D cv=>by
     refine Kj5 dj bZ fg rows c D (by omega) (dV.below cv) (fun r hr=>?_) (fun r hr=>?_)
     ·obtain⟨i,hi,rfl⟩:=Od5 (ch.out r hr);have:=(bO.2.2.2 i hi).1;omega
     obtain⟨i,hi,rfl⟩:=Od5 (ch.out r hr);have:=(bO.2.2.2 i hi).1;omega
    have bQ:Hid (∀ D b,Below w.heap.size w D→Kv D b (Jaj rows c) []→Calls prog 63 #[.int .i64 ts[c],.int .i64 hs[c],.slice (some ⟨b,0,none⟩) (Jaj rows c).length (Jaj rows c).length] D fun e w'=>e=.returned (.tuple #[.string (Qw (Jev ts[c] hs[c] (Jaj rows c)).1),Jk9 ci bi (Jev ts[c] hs[c] (Jaj rows c)).2])∧Below D.heap.size D w'):=fun D b cv dQ=>
     (dp.out hs[c] (Ob3 _)).pack ts[c] (some ⟨b,0,none⟩) _ (Jaj rows c) D (by unfold maxLen;simp[Jaj];omega) dQ.vals ci bi cN (cV.below cv)
    have dk:Hid (L.length=c):=cu;have fy:prog.follows .mixedOrders=true:=(by kernel_rfl);clear cA cu bA cW bY cV;generalize da:Jev ts[c] hs[c] (Jaj rows c)=fc at *;obtain⟨pt,fD⟩:=fc;simp only at cz;rcases cz with rfl|rfl
    ·have cc:Hid (Jeo rows ts hs (c+1)=.inl (L++[pt])):=by show _=_;simp only[Jeo,bC.out,bP.out];rfl
     clear da bC bP;have bM:=bf.b1.lt;have cf:Hid (∀ D b,Below w.heap.size w D→Kv D b (Jaj rows c) []→Calls prog 63 #[.int .i64 ts[c],.int .i64 hs[c],.slice (some ⟨b,0,none⟩) (Jaj rows c).length (Jaj rows c).length] D fun e w'=>e=.returned (.tuple #[.string (Qw pt),.nilIface])∧Below D.heap.size D w'):=bQ.out;clear bQ;gi_wp2
     refine Kix (S:=fun bh=>bh.cell? ⟨w.heap.size+1,0,none⟩=some (.slice (some ⟨b2,bB,none⟩) hs.length bD)∧bh.cell? ⟨b2,bB+c,none⟩=some (.int .i64 hs[c])∧Below w.heap.size w bh) (by kernel_rfl) (by kernel_rfl) ⟨c1,ca,bx.drew⟩ (fun H=>?_);refine tkj 0 rfl H ?_;refine tkj 1 rfl H ?_;refine tkj 2 rfl H ?_;refine tkj 3 rfl H ?_;refine tkj 4 rfl H ?_;refine tkj 5 rfl H ?_;refine tkj 6 rfl H ?_;refine tkn ?_;refine tkr 7 rfl fun E y=>?_;go_simp;refine(cI.out _ H.2.2).mono ?_;rintro e ff ⟨v,rfl,⟨bq,rfl,dI,cE⟩,bc⟩;go_simp;obtain⟨kk,_⟩:=Kx bc;refine y.out _ _ ⟨(kk (w.heap.size+1) 0 bM).trans c1,(kk b2 (bB+c) bU).trans ca,bx.trans ((Jw bc).mono bx.size)⟩ (fun U=>?_);clear y E kk H;refine tkr 8 rfl fun E y=>?_;go_simp;refine(cf.out _ _ U.2.2 cE).mono ?_;rintro e K ⟨rfl,bn⟩;go_simp;obtain⟨kk,_⟩:=Kx bn;have bj:=bc.size;refine y.out _ _ ⟨(kk (w.heap.size+1) 0 (Oc2 bM bj)).trans U.1,(kk b2 (bB+c) (Oc2 bU bj)).trans U.2.1,U.2.2.trans (bn.mono U.2.2.size)⟩ (fun ba=>?_);clear y E kk U;refine tkj 9 rfl ba ?_;refine tkj 10 rfl ba ?_;refine tkj 11 rfl ba ?_;refine tkj 12 rfl ba ?_;refine tkj 13 rfl ba ?_;refine tkn ?_;refine wpAnyH_done (by kernel_rfl) (Jpf.go ?_) _;have Y:=bf.ahead ((Jw bc).trans (bn.mono bj));obtain⟨sv,bX,bH⟩:=Y.own;have c4:=bX.cell;obtain⟨dZ,hi,dW,dX,dY⟩:=info_parts Kjq;have fs:(List.map tv (T++L)).length≤2000:=by rw[Oa6,Oa8,dk.out];omega
     have dA:=Y.size;obtain⟨fK,fL,bN,_⟩:=bH.cells;rw[Oa6,Oa8]at bN;subst bN;gi_wp2_with (gi_at_builtin;go_must (refine wpListIn_append_own _ rfl _ _ 119 rfl (w.heap.size+7) 9 dZ _ 1 16 underlying119 hi dW dX dY rfl (by decide) _ _ _ rfl (Jo.alloc bH _) ⟨K.heap.size,0,none⟩ 1 1 [tv pt] rfl rfl (by exact Ua K _ _) (by intro u dc;simp at dc;subst dc;rfl) (by unfold maxLen;omega) (by omega) (by simp;omega) ?_);intro v' w4 cY dL _;go_must (have bG:=Y.more bX bH _ pt (sv':=v') (w4:=w4) (by unfold Jo;simpa [On5] using cY) dL);go_must (obtain⟨fr,fk,dT⟩:=ownsRow_succ cY);subst dT;have fj:=bG.2.2.2.cell;have fp:=bG.2.2.2.frozen)
     go_roundw
     case rel=>
      have bK:Below wr.heap.size wr K:=(Jw bc).trans (bn.mono bj);have dO:=Kiz bK;rw[Oa6,Oa8]at bG;refine⟨c+1,L++[pt],by omega,by go_num,cc.out,by rw[←Od8];exact bG.1,bV.trans ((dO.trans bG.2.1).from _),?_,?_⟩
      ·exact(bG.2.2.1.1.trans (bK.block _ (by have:=bf.size;omega))).trans cB.1
      exact(bG.2.2.1.2.trans (bK.block _ (by have:=bf.size;omega))).trans cB.2
     case measure=>simp[intOf];omega
    have cc:Hid (Jeo rows ts hs ts.length=.inr c):=Kkc rows ts hs c (c+1) ts.length (by simp only[Jeo,bC.out,bP.out];rfl) bW;clear da bC bP;have bM:=bf.b1.lt;have cf:Hid (∀ D b,Below w.heap.size w D→Kv D b (Jaj rows c) []→Calls prog 63 #[.int .i64 ts[c],.int .i64 hs[c],.slice (some ⟨b,0,none⟩) (Jaj rows c).length (Jaj rows c).length] D fun e w'=>e=.returned (.tuple #[.string (Qw pt),.iface 433 (.pointer (some bi))])∧Below D.heap.size D w'):=bQ.out;clear bQ;gi_wp2
    refine Kix (S:=fun bh=>bh.cell? ⟨w.heap.size+1,0,none⟩=some (.slice (some ⟨b2,bB,none⟩) hs.length bD)∧bh.cell? ⟨b2,bB+c,none⟩=some (.int .i64 hs[c])∧Below w.heap.size w bh) (by kernel_rfl) (by kernel_rfl) ⟨c1,ca,bx.drew⟩ (fun H=>?_);refine tkj 0 rfl H ?_;refine tkj 1 rfl H ?_;refine tkj 2 rfl H ?_;refine tkj 3 rfl H ?_;refine tkj 4 rfl H ?_;refine tkj 5 rfl H ?_;refine tkj 6 rfl H ?_;refine tkn ?_;refine tkr 7 rfl fun E y=>?_;go_simp;refine(cI.out _ H.2.2).mono ?_;rintro e ff ⟨v,rfl,⟨bq,rfl,dI,cE⟩,bc⟩;go_simp;obtain⟨kk,_⟩:=Kx bc;refine y.out _ _ ⟨(kk (w.heap.size+1) 0 bM).trans c1,(kk b2 (bB+c) bU).trans ca,bx.trans ((Jw bc).mono bx.size)⟩ (fun U=>?_);clear y E kk H;refine tkr 8 rfl fun E y=>?_;go_simp;refine(cf.out _ _ U.2.2 cE).mono ?_;rintro e K ⟨rfl,bn⟩;go_simp;obtain⟨kk,_⟩:=Kx bn;have bj:=bc.size;refine y.out _ _ ⟨(kk (w.heap.size+1) 0 (Oc2 bM bj)).trans U.1,(kk b2 (bB+c) (Oc2 bU bj)).trans U.2.1,U.2.2.trans (bn.mono U.2.2.size)⟩ (fun ba=>?_);clear y E kk U;refine tkj 9 rfl ba ?_;refine tkj 10 rfl ba ?_;refine tkj 11 rfl ba ?_;refine tkj 12 rfl ba ?_;refine tkj 13 rfl ba ?_;refine tkn ?_;refine wpAnyH_done (by kernel_rfl) (Jpf.go ?_) _;have Y:=bf.ahead ((Jw bc).trans (bn.mono bj));have bK:Below wr.heap.size wr K:=(Jw bc).trans (bn.mono bj);have br:Hid (Jfg rs ts hs ((X++[x]).map Subtype.val)=.inr c):=by show _=_;rw[cK.out,cM.out,cc.out]
    have cj:K.cell? ⟨w.heap.size,0,none⟩=some (.string name):=by simp[World.cell?,Y.b0]
    have fe:=Y.b2.cell;have fd:=Y.b2.frozen;have di:=Y.b3.cell;have dh:=Y.b3.frozen;have dA:=Y.size;gi_wp2
    refine Kix (S:=fun bh=>bh.cell? ⟨w.heap.size,0,none⟩=some (.string name)) (by kernel_rfl) (by kernel_rfl) cj (fun bL=>?_);refine tkj 0 rfl bL ?_;refine tkj 1 rfl bL ?_;refine tkj 2 rfl bL ?_;refine tkj 3 rfl bL ?_;refine tkj 4 rfl bL ?_;refine tkn ?_;have fH:∀ o,(K.alloc o).cell? ⟨w.heap.size+1+1,0,none⟩=some (.slice none 0 0):=fun o=>(Jnf K o _ 0 (by omega)).trans fe;have fE:∀ o,(K.alloc o).frozen? ⟨w.heap.size+1+1,0,none⟩=false:=fun o=>(Jh9 K o _ 0 (by omega)).trans fd;have fI:∀ o,(K.alloc o).cell? ⟨w.heap.size+1+1+1,0,none⟩=some .nilIface:=fun o=>(Jnf K o _ 0 (by omega)).trans di;have fF:∀ o,(K.alloc o).frozen? ⟨w.heap.size+1+1+1,0,none⟩=false:=fun o=>(Jh9 K o _ 0 (by omega)).trans dh;refine wpAnyH_ready (rs:=[5,7]) (by kernel_rfl) (by simp) (AllReadyH.cons rfl (fun E y=>?_) (AllReadyH.cons rfl (fun E y=>?_) AllReadyH.nil))
    ·go_simp;refine y.out _ _ ((Jnf K _ _ _ (by omega)).trans cj) (fun bS=>?_);clear y E;refine tkj 6 rfl bS ?_;refine tkn ?_;refine tkr 7 rfl fun E y=>?_;go_simp;refine y.out _ _ ((Ob5 _ _ _ _ (by simp)).trans bS) (fun bT=>?_);clear y E;refine tkr 8 rfl fun E y=>?_;go_simp;refine y.out _ _ ((Ob5 _ _ _ _ (by simp)).trans bT) (fun dC=>?_);clear y E;refine wpAnyH_done (by kernel_rfl) (Jpf.go ?_) _;gi_wp2
     have bA:=Y.badA name c bi;exact⟨bV.trans (((Kiz bK).trans bA.2).from _),rfl,c,br.out,bA.1⟩
    go_simp;refine y.out _ _ ((Ob5 _ _ _ _ (by simp)).trans cj) (fun bS=>?_);clear y E;have cF:(K.setCell ⟨w.heap.size+1+1,0,none⟩ (.slice none 0 0)).heap.size=K.heap.size:=by simp[World.setCell]
    have fJ:∀ o,((K.setCell ⟨w.heap.size+1+1,0,none⟩ (.slice none 0 0)).alloc o).cell? ⟨w.heap.size+1+1+1,0,none⟩=some .nilIface:=fun o=>(Jnf _ o _ 0 (by rw[cF];omega)).trans ((Ob5 _ _ _ _ (by simp)).trans di);have fG:∀ o,((K.setCell ⟨w.heap.size+1+1,0,none⟩ (.slice none 0 0)).alloc o).frozen? ⟨w.heap.size+1+1+1,0,none⟩=false:=fun o=>(Jh9 _ o _ 0 (by rw[cF];omega)).trans ((On9 _ _ _ _).trans dh);refine tkr 5 rfl fun E y=>?_;go_simp;refine y.out _ _ ((Jnf _ _ _ _ (by rw[cF];omega)).trans bS) (fun bT=>?_);clear y E;refine tkj 6 rfl bT ?_;refine tkn ?_;refine tkr 8 rfl fun E y=>?_;go_simp;refine y.out _ _ ((Ob5 _ _ _ _ (by simp)).trans bT) (fun dC=>?_);clear y E;refine wpAnyH_done (by kernel_rfl) (Jpf.go ?_) _;gi_wp2
    have bA:=Y.badB name c bi;exact⟨bV.trans (((Kiz bK).trans bA.2).from _),rfl,c,br.out,bA.1⟩
   obtain rfl:c=ts.length:=by omega
   have br:Hid (Jfg rs ts hs ((X++[x]).map Subtype.val)=.inl (T++L)):=by show _=_;rw[cK.out,cM.out,bC.out]
   clear cu;gi_wp2
   exact⟨bV,cB,T++L,br.out,by rw[dm.out,Oa8,Jjc rows ts hs _ L bC.out];omega,bf⟩
 case done=>
  rintro R fN W dB df ⟨T,Z,cQ,O⟩ y;rw[df]at Z;obtain⟨sv,bX,bH⟩:=O.own;obtain⟨a,cap,bN,fw⟩:=bH.cells;rw[Oa6]at bN;subst bN;have c4:=bX.cell;have c2:=O.b2.cell;have fm:=O.b2.frozen;have c3:=O.b3.cell;have fo:=O.b3.frozen;have br:Hid (Jfg rs ts hs (cks rs.length g (ckN rs.length g))=.inl T):=Z;have cb:=O;replace cb:Hid (Kis w #[.string name,.slice at_ ts.length ct,.slice ar rs.length cr] (.slice bJ hs.length bD) W T):=cb;clear Z O df;gi_wp2
  have cn:=((KeepsOthers.setCell W ⟨w.heap.size+1+1,0,none⟩ (.slice a T.length cap)).trans (KeepsOthers.setCell _ ⟨w.heap.size+1+1+1,0,none⟩ .nilIface)).same R _ y rfl;refine⟨by simp,.inl ⟨_,_,rfl,run_takeDeferred cn,?_⟩⟩;have g2:((W.setCell ⟨w.heap.size+1+1,0,none⟩ (.slice a T.length cap)).setCell ⟨w.heap.size+1+1+1,0,none⟩ .nilIface).cell? ⟨w.heap.size+1+1,0,none⟩=some (.slice a T.length cap):=by
   rw[Ob5 _ _ _ _ (by simp)];exact Oj0 _ _ _ (by rw[c2];rfl)
  have dz:((W.setCell ⟨w.heap.size+1+1,0,none⟩ (.slice a T.length cap)).setCell ⟨w.heap.size+1+1+1,0,none⟩ .nilIface).cell? ⟨w.heap.size+1+1+1,0,none⟩=some .nilIface:=
   Oj0 _ _ _ (by rw[Ob5 _ _ _ _ (by simp),c3];rfl)
  have bz:∀ r,some R=some r→∃ o:Obj,((W.setCell ⟨w.heap.size+1+1,0,none⟩ (.slice a T.length cap)).setCell ⟨w.heap.size+1+1+1,0,none⟩ .nilIface).heap[r]?=some o∧o.isCells=false:=fun r e=>by cases e;exact⟨_,cn,rfl⟩
  have cG:=cell_kept g2 (grownBy_putObj' _ R (.deferred none)) bz;have cH:=cell_kept dz (grownBy_putObj' _ R (.deferred none)) bz;refine⟨.tuple #[.slice a T.length cap,.nilIface],by simp[results,Tryz.f45,go_sem,cG,cH],?_⟩;rw[br.out];have cx:Below w.heap.size w ((W.setCell ⟨w.heap.size+1+1,0,none⟩ (.slice a T.length cap)).setCell ⟨w.heap.size+1+1+1,0,none⟩ .nilIface):=(cb.out.below.setCell (p:=⟨w.heap.size+1+1,0,none⟩) (by simp;omega) _).setCell (p:=⟨w.heap.size+1+1+1,0,none⟩) (by simp;omega) _;have dP:Jo ((W.setCell ⟨w.heap.size+1+1,0,none⟩ (.slice a T.length cap)).setCell ⟨w.heap.size+1+1+1,0,none⟩ .nilIface) (w.heap.size+7) 9 (.slice a T.length cap) (T.map tv):=Yd bH fun fq dJ=>by
   have:=(Je bH dJ).1;rw[Oa4 _ _ _ _ (by simp;omega),Oa4 _ _ _ _ (by simp;omega)]
  have cC:=Kjl dP (grownBy_putObj' _ R (.deferred none)) bz;refine⟨cx.trans (belowK_b (w:=w) (Oa2 _) _ R _ _ (by have:=bI.out;omega) cn rfl rfl),a,cap,rfl,(Jji cC).1,fun b o dD=>?_⟩;have:=(Je cC ((Jji cC).2 b o dD)).1;omega
 case stop=>
  rintro R c X W dB ⟨k,dN,cD⟩ ⟨rfl,col,Z,O⟩ y;rw[cD]at Z;obtain⟨fO,dg⟩:=Jvd rs.length g k _ dN;have br:Hid (Jfg rs ts hs (cks rs.length g (ckN rs.length g))=.inr col):=by show _=_;rw[dg];exact Kkl rs ts hs _ _ _ Z
  obtain⟨b,dE,dH,ds,dt⟩:=O.b3;have c2:=O.b2.cell;have c3:=dE.cell;have cx:=O.below;clear Z O cD dg;gi_wp2
  have bz:∀ r,some R=some r→∃ o:Obj,W.heap[r]?=some o∧o.isCells=false:=fun r e=>by cases e;exact⟨_,y,rfl⟩
  refine⟨by simp,.inl ⟨_,_,rfl,run_takeDeferred y,?_⟩⟩;have cG:=cell_kept c2 (grownBy_putObj' _ R (.deferred none)) bz;have cH:=cell_kept c3 (grownBy_putObj' _ R (.deferred none)) bz;refine⟨.tuple #[.slice none 0 0,.iface 123 (.pointer (some ⟨b,0,none⟩))],by simp[results,Tryz.f45,go_sem,cG,cH],?_⟩;rw[br.out];exact⟨cx.trans (belowK_b (w:=w) (Oa2 _) _ R _ _ (by have:=bI.out;omega) y rfl rfl),b,rfl,dH,.tab b bi col (cell_kept ds (grownBy_putObj' _ R (.deferred none)) bz) (cell_kept dt (grownBy_putObj' _ R (.deferred none)) bz)⟩
end Go.Proofs.YtpchafocmlhmbaaGreatDoor
