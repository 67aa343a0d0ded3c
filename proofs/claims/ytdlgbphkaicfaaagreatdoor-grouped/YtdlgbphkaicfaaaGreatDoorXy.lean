/- Run: the walk. -/
import Derived.Test.YtdlgbphkaicfaaaGreatDoorXx
set_option maxHeartbeats 4000000
set_option maxRecDepth 100000
namespace Go.Proofs.YtdlgbphkaicfaaaGreatDoor
open Go.RowKit Go.Shelf Tryz
attribute [local go_sem] Oc0
def Jx8 (n:Nat)(D:Nat→List Dn→Prop)(A:Nat→Value→World→Prop)(w:World):Ending→World→Prop:=fun e w'=>Below w.heap.size w w' ∧
 ((∃ (x:Nat×List (Option Addr×Nat)×List (List V)) (E:List Dn),e=.returned (.tuple #[dnV (some x),.nilIface])∧Qd w' x.1 x.2.1 x.2.2∧D n (E++[some x])) ∨
  (∃ (j:Nat) (v:Value) (y:Nat),e=.returned (.tuple #[.slice none 0 0,.iface 105 (.pointer (some ⟨y,0,none⟩))])∧w'.heap[y]?=some (.cells #[.int .i64 (j:Int),v] 107 (0,0))∧A j v w'∧w.heap.size≤y))
structure Jty (W2:World) (z bu bl:Int) (se tp dp sc sv:Value) (nds:List Nd) (PS:Nat→List Dn→Prop) (j:Nat) (dv:Value) (ds:List Dn) (wr:World):Prop where
 rs:Jd6 (W2.heap.size+1) W2.heap.size z bu bl se tp dp sc dv ds wr
 len:ds.length=j
 ps:PS j ds
 last:0<j→∃ ds' x,ds=ds'++[some x]
 steps:wr.ownsRow (W2.heap.size+1) 104 8 sv nds.length (nds.flatMap (Jbu W2.heap.size))
 sep:∀ g,sv.ownBlock=some g→dv.ownBlock≠some g
 low:Below W2.heap.size W2 wr
theorem Jty.step {D:World}{z K H:Int}{bb bc M ba sv:Value}{A:List Nd}{E:Nat→List Dn→Prop}{j:Nat}{R:Value}{O:List Dn}{wr:World}(h:Jty D z K H bb bc M ba sv A E j R O wr){i:Nat}{nd:Nd}(hi:A[i]?=some nd) :
  ∃ g cap,sv=.slice (some ⟨g,0,none⟩) A.length cap∧Zm wr g (i*8) nd∧wr.cell? ⟨g,i*8+7,none⟩=some (.func (.func (Jej nd.op)) #[.pointer (some ⟨D.heap.size,0,none⟩)] #[]):=by
 have bk:i<A.length:=(Ob9.1 hi).1
 rcases h.steps with⟨h0,⟨h1,h2⟩|⟨g,cap,bf,h1,h2,U,bh,bi,bj,X⟩⟩
 ·omega
 have y:∀ k,k<8→wr.cell? ⟨g,i*8+k,none⟩=(Jbu D.heap.size nd)[k]?:=fun k Z=>by
  have:=Jek (Jbu D.heap.size) 8 (fun _=>rfl) A i k nd hi Z
  rw[←X,Oe7,if_pos (by omega),Oe6]at this
  rw[←this]
  simp[World.cell?,U]
 exact⟨g,cap,h1,⟨y 0 (by omega),y 1 (by omega),y 2 (by omega),y 3 (by omega),y 4 (by omega),y 5 (by omega),y 6 (by omega)⟩,y 7 (by omega)⟩
theorem Jty.next {y:World}{z M K:Int}{Z ba O X sv:Value}{bl:List Nd}{bb:Nat→List Dn→Prop}{j:Nat}{A H:Value}{br E:List Dn}{wr D w4:World}{x:Nat×List (Option Addr×Nat)×List (List V)}(h:Jty y z M K Z ba O X sv bl bb j A br wr)(bf:wr.grownBy D A.ownBlock)(hR:Jd6 (y.heap.size+1) y.heap.size z M K Z ba O X A E D)(bx:Jfk y.heap.size A x D)(bz:E.length=j)(bA:bb (j+1) (E++[some x]))(R:Obj)
  (bB:Jo w4 (y.heap.size+1) 74 H (E.map dnV++[dnV (some x)])) (U:(D.alloc R).grownBy w4 A.ownBlock) (bi:H.ownBlock=A.ownBlock∨H.ownBlock=some (D.alloc R).heap.size) :
  Jty y z M K Z ba O X sv bl bb (j+1) H (E++[some x]) (w4.setCell ⟨y.heap.size,7,none⟩ H)∧Jck w4 y.heap.size z (.int .i64 M) (.int .i64 K) Z ba O X A:=by
 obtain⟨h1,h2⟩:=hR.more bx R bB U bi
 have bk:∀ g,A.ownBlock=some g→y.heap.size+1≤g∧g<wr.heap.size:=fun g e=>Je h.rs.own e
 have bj:∀ g,sv.ownBlock=some g→y.heap.size+1≤g∧g<wr.heap.size:=fun g e=>Je h.steps e
 have bD:=bf.size
 have bC:=U.size
 rw[Oa7]at bC bi
 have bn:∀ k,k<wr.heap.size→A.ownBlock≠some k→k≠y.heap.size→(w4.setCell ⟨y.heap.size,7,none⟩ H).heap[k]?=wr.heap[k]?:=fun k h1 h2 bu=>by
  rw[Oa4 _ _ _ _ bu,U.block k (by rw[Oa7];omega) (Oc5 h2),Oa9 _ _ _ (by omega)]
  exact bf.block k h1 (Oc5 h2)
 refine⟨⟨h1,by rw[Oa8,List.length_singleton,bz],bA,fun _=>⟨E,x,rfl⟩,Jl h.steps fun g e=>bn g (bj g e).2 (h.sep g e) (by have:=bj g e;omega),fun g e bc=>?_,?_⟩,h2⟩
 ·rcases bi with q|q
  ·exact h.sep g e (q.symm.trans bc)
  rw[q]at bc
  cases bc
  have:=bj _ e
  omega
 have b1:Below y.heap.size y D:=Jy h.low bf fun k bh=>by have:=bk k bh;omega
 have b2:Below y.heap.size y w4:=Jy (Jc b1 R) U fun k bh=>by have:=bk k bh;omega
 exact b2.setCell (p:=⟨y.heap.size,7,none⟩) (Oa2 _) _
theorem Jzj:(prog.info? 74).map (fun i=>(i.zero,i.size,i.bytes))=some (some (.slice none 0 0),1,24):=by kernel_rfl
theorem Jr6 (bb no bh s d:Nat)(A:List Nd)(z E D H:Int)(bc:Nat→List Dn→Prop)(bj:Nat→Value→World→Prop)(bf:Value→World→Prop)(w:World)
  (cM:∀ j nd,A[j]?=some nd→Zm w bb (no+j*7) nd) (h1:1≤A.length) (fA:A.length≤12) (dx:1≤z) (dy:z≤1000) (bn:2≤E) (ba:E≤1000) (dd:0≤D) (de:D≤4096)
  (dt:∀ K,Below w.heap.size w K→Calls prog 31 #[(.agg #[.slice (some ⟨bb,no,none⟩) A.length bh]),(.func (.func 32) #[.pointer (some ⟨s,0,none⟩)] #[])] K fun e w'=>∃ a n c,e=.returned (.tuple #[.slice a n c,.nilIface])∧Below K.heap.size K w'∧bf (.slice a n c) w')
  (cO:∀ v W W',Below W.heap.size W W'→bf v W→bf v W')
  (dw:∀ K bM,Below w.heap.size w K→bf bM K→∀ j nd,A[j]?=some nd→Ju1 K (K.heap.size+1) K.heap.size z E D (.int .i64 H) (.pointer (some ⟨s,0,none⟩)) (.pointer (some ⟨d,0,none⟩)) bM bc bj nd j)
  (cI:∀ j v W W',Below W.heap.size W W'→bj j v W→bj j v W') (cN:bc 0 []) :
  Calls prog 23 #[(.agg #[.slice (some ⟨bb,no,none⟩) A.length bh]),.agg #[.int .i64 z,.int .i64 E,.int .i64 D,.int .i64 H],(.pointer (some ⟨s,0,none⟩)),(.pointer (some ⟨d,0,none⟩))] w (Jx8 A.length bc bj w):=by
 have bE:Hid ((∀ j nd,A[j]?=some nd→Zm w bb (no+j*7) nd)∧(∀ K bM,Below w.heap.size w K→bf bM K→∀ j nd,A[j]?=some nd→Ju1 K (K.heap.size+1) K.heap.size z E D (.int .i64 H) (.pointer (some ⟨s,0,none⟩)) (.pointer (some ⟨d,0,none⟩)) bM bc bj nd j)∧(∀ j v W W',Below W.heap.size W W'→bj j v W→bj j v W')∧bc 0 []∧∀ v W W',Below W.heap.size W W'→bf v W→bf v W'):=⟨cM,dw,cI,cN,cO⟩
 have fC:=run_neq_nil_nil (P:=prog)
 obtain⟨w1,bB⟩:∃ w1,w1=(w.alloc (.cells #[.slice (some ⟨bb,no,none⟩) A.length bh] 51)).alloc (.cells #[.int .i64 z,.int .i64 E,.int .i64 D,.int .i64 H] 27):=⟨_,rfl⟩
 have cf:Below w.heap.size w w1:=by rw[bB];exact Jc (Jc (Oa5 _ _) _) _
 have cr:=dt w1 cf
 have cB:Hid (Below w.heap.size w w1):=cf
 have dB:w1.heap[w.heap.size]?=some (.cells #[.slice (some ⟨bb,no,none⟩) A.length bh] 51 (0,0)):=by rw[bB];exact(Oa9 _ _ _ (by simp)).trans (heap_alloc_new w _)
 have dC:w1.heap[w.heap.size+1]?=some (.cells #[.int .i64 z,.int .i64 E,.int .i64 D,.int .i64 H] 27 (0,0)):=by
  have:=heap_alloc_new (w.alloc (.cells #[.slice (some ⟨bb,no,none⟩) A.length bh] 51)) (.cells #[.int .i64 z,.int .i64 E,.int .i64 D,.int .i64 H] 27)
  rw[Oa7]at this
  rw[bB]
  exact this
 have dj:=fun W=>Jk5 z E D (.int .i64 H) W dx dy bn ba dd de
 have bG:Hid (w1.heap[w.heap.size]?=some (.cells #[.slice (some ⟨bb,no,none⟩) A.length bh] 51 (0,0))∧w1.heap[w.heap.size+1]?=some (.cells #[.int .i64 z,.int .i64 E,.int .i64 D,.int .i64 H] 27 (0,0))):=⟨dB,dC⟩
 rw[bB]at cr
 have cD:Hid (w1=_):=bB
 clear cM dw cI cN dt cf dB dC dx dy bn ba dd de bB cO
 go_enter func23,ntmps23
 go_upto_region 2 with(go_at_call 31;refine cr.mono ?_;rintro bO bk ⟨M,R,O,rfl,bn,ds⟩)
 rw[←cD.out]at bn
 have dG:=(bn.block _ (Jd bG.out.1)).trans bG.out.1
 have bi:=(bn.block _ (Jd bG.out.2)).trans bG.out.2
 have bY:bk.cell? ⟨w.heap.size+1,0,none⟩=some (.int .i64 z):=by simp[World.cell?,bi]
 have br:bk.cell? ⟨w.heap.size+1,1,none⟩=some (.int .i64 E):=by simp[World.cell?,bi]
 have bC:bk.cell? ⟨w.heap.size+1,2,none⟩=some (.int .i64 D):=by simp[World.cell?,bi]
 have bD:bk.cell? ⟨w.heap.size+1,3,none⟩=some (.int .i64 H):=by simp[World.cell?,bi]
 have bH:Hid (Below w.heap.size w bk∧bf (.slice M R O) bk∧bk.heap[w.heap.size]?=some (.cells #[.slice (some ⟨bb,no,none⟩) A.length bh] 51 (0,0))∧bk.heap[w.heap.size+1]?=some (.cells #[.int .i64 z,.int .i64 E,.int .i64 D,.int .i64 H] 27 (0,0))):=⟨Jb cB.out bn,ds,dG,bi⟩
 clear cr bn ds dG bi cD bG cB w1
 go_upto_region 6 with(go_at_call 33;refine(dj _).mono ?_;rintro bO y ⟨rfl,ba⟩)
 have dU:=Ja ba bY
 have dV:=Ja ba br
 have bJ:=Ja ba bC
 have dW:=Ja ba bD
 have cA:=(ba.block _ (Jd bH.out.2.2.1)).trans bH.out.2.2.1
 have bV:Below w.heap.size w y:=Jb bH.out.1 ba
 have cu:=bE.out.2.2.2.2 _ _ _ ba bH.out.2.1
 have cc:Hid (Below w.heap.size w y∧bf (.slice M R O) y):=⟨bV,cu⟩
 have cz:=bE.out.2.1 y (.slice M R O) bV cu
 have dO:Hid _:=cz
 have bP:Below y.heap.size y (y.alloc (.cells #[.int .i64 z,.int .i64 E,.int .i64 D,.int .i64 H,(.pointer (some ⟨s,0,none⟩)),(.pointer (some ⟨d,0,none⟩)),.slice M R O,.slice none 0 0] 99)):=Jc (Oa5 _ _) _
 have dm:(y.alloc (.cells #[.int .i64 z,.int .i64 E,.int .i64 D,.int .i64 H,(.pointer (some ⟨s,0,none⟩)),(.pointer (some ⟨d,0,none⟩)),.slice M R O,.slice none 0 0] 99)).heap[y.heap.size]?=_:=heap_alloc_new y (.cells #[.int .i64 z,.int .i64 E,.int .i64 D,.int .i64 H,(.pointer (some ⟨s,0,none⟩)),(.pointer (some ⟨d,0,none⟩)),.slice M R O,.slice none 0 0] 99)
 have dE:=(bP.block _ (Jd cA)).trans cA
 have cv:=Jxb y.heap.size bb no bh A (y.alloc (.cells #[.int .i64 z,.int .i64 E,.int .i64 D,.int .i64 H,(.pointer (some ⟨s,0,none⟩)),(.pointer (some ⟨d,0,none⟩)),.slice M R O,.slice none 0 0] 99)) (fun j p cl=>((bE.out.1 j p cl).below bV).below bP) (fun p cl=>by
  obtain⟨j,db⟩:=Ok2.1 cl
  have:=cz j p db
  exact⟨this.1,this.2.1⟩) (by omega)
 have dD:(y.alloc (.cells #[.int .i64 z,.int .i64 E,.int .i64 D,.int .i64 H,(.pointer (some ⟨s,0,none⟩)),(.pointer (some ⟨d,0,none⟩)),.slice M R O,.slice none 0 0] 99)).cell? ⟨w.heap.size,0,none⟩=some (.slice (some ⟨bb,no,none⟩) A.length bh):=by simp[World.cell?,dE]
 clear bY br bC bD ba dj bH cA bV cu cz dE
 go_upto_region 7 with fail
 have bA:Hid ((y.alloc (.cells #[.int .i64 z,.int .i64 E,.int .i64 D,.int .i64 H,(.pointer (some ⟨s,0,none⟩)),(.pointer (some ⟨d,0,none⟩)),.slice M R O,.slice none 0 0] 99)).heap[y.heap.size]?=some (.cells #[.int .i64 z,.int .i64 E,.int .i64 D,.int .i64 H,(.pointer (some ⟨s,0,none⟩)),(.pointer (some ⟨d,0,none⟩)),.slice M R O,.slice none 0 0] 99 (0,0))∧Below y.heap.size y (y.alloc (.cells #[.int .i64 z,.int .i64 E,.int .i64 D,.int .i64 H,(.pointer (some ⟨s,0,none⟩)),(.pointer (some ⟨d,0,none⟩)),.slice M R O,.slice none 0 0] 99))∧(y.alloc (.cells #[.int .i64 z,.int .i64 E,.int .i64 D,.int .i64 H,(.pointer (some ⟨s,0,none⟩)),(.pointer (some ⟨d,0,none⟩)),.slice M R O,.slice none 0 0] 99)).heap.size=y.heap.size+1):=⟨dm,bP,by simp⟩
 clear dm bP
 generalize y.alloc (.cells #[.int .i64 z,.int .i64 E,.int .i64 D,.int .i64 H,(.pointer (some ⟨s,0,none⟩)),(.pointer (some ⟨d,0,none⟩)),.slice M R O,.slice none 0 0] 99)=dQ at cv dD bA ⊢
 go_wp2_with (go_at_call 34;refine cv.mono ?_;rintro bO cE ⟨cQ,sv,rfl,cx⟩;obtain⟨bZ,ca,cy⟩:=Jcz cx;have dM:Hid (cE.ownsRow dQ.heap.size 104 8 sv A.length (A.flatMap (Jbu y.heap.size))):=cx;have fv:Hid (sv=.slice bZ A.length ca):=cy;have fe:sv=.slice bZ A.length ca:=cy;clear cx cy;subst fe)
 have cK:Jty y z E D (.int .i64 H) (.pointer (some ⟨s,0,none⟩)) (.pointer (some ⟨d,0,none⟩)) (.slice M R O) (.slice bZ A.length ca) A bc 0 (.slice none 0 0) [] cE:=
  ⟨⟨(cQ.block _ (Jd bA.out.1)).trans bA.out.1,Jo.nil _ _ _,fun x fg=>(by cases fg),by omega⟩,rfl,bE.out.2.2.2.1,fun h=>absurd h (Oe3 _),(by have:=dM.out;rw[bA.out.2.2]at this;exact this),fun g e bJ=>(by cases bJ),Jb bA.out.2.1 cQ⟩
 have dJ:Hid _:=cK
 clear cK cv bA dD dU dV bJ dW
 go_loopw [41] (fun i wr=>∃ (j:Nat) (X:Value) (bN:List Dn),j≤A.length∧i=.int .i64 (j:Int)∧Jty y z E D (.int .i64 H) (.pointer (some ⟨s,0,none⟩)) (.pointer (some ⟨d,0,none⟩)) (.slice M R O) (.slice bZ A.length ca) A bc j X bN wr) (fun i _=>A.length-(intOf i).toNat)
 case atStart=>exact⟨0,_,_,Ob7 _,rfl,dJ.out⟩
 case round=>
  obtain⟨j,X,bN,db,rfl,hL⟩:=hrel
  have cb:Hid _:=hL
  have dq:=hL.rs.run
  obtain⟨cF,cG,bR,cV⟩:=hL.rs.own.cells
  rw[Oa6,hL.len]at bR
  by_cases df:j<A.length
  ·obtain⟨nd,bW⟩:∃ nd,A[j]?=some nd:=⟨_,Oa3 df⟩
   obtain⟨fh,fi,ci⟩:=dO.out j nd bW
   obtain⟨fH,fG,du,⟨fI,fJ,fK,fL,fM,fN,fO⟩,fu⟩:=hL.step bW
   simp only[On8]at du
   obtain⟨rfl,-,rfl⟩:=du
   have dZ:=Js3 nd.op
   obtain⟨f,hf⟩:∃ f,f=Jej nd.op:=⟨_,rfl⟩
   rw[←hf]at dZ fu ci
   have fD:∀ (a:Addr) (K:World),(store a (.func (.func f) #[.pointer (some ⟨y.heap.size,0,none⟩)] #[])).run prog K=stored prog K a (.func (.func f) #[.pointer (some ⟨y.heap.size,0,none⟩)] #[]) .plain:=fun a K=>run_store _ _ _ _ _ rfl
   have bQ:Below wr.heap.size wr (wr.alloc (.cells #[.int .i64 nd.op,.int .i64 nd.l,.int .i64 nd.r,.string nd.tn,.slice nd.xs.1 nd.xs.2.1 nd.xs.2.2,.slice nd.ky.1 nd.ky.2.1 nd.ky.2.2,.int .i64 nd.kk,.func (.func f) #[.pointer (some ⟨y.heap.size,0,none⟩)] #[]] 104)):=Jc (Oa5 _ _) _
   have ch:=(ci (wr.alloc (.cells #[.int .i64 nd.op,.int .i64 nd.l,.int .i64 nd.r,.string nd.tn,.slice nd.xs.1 nd.xs.2.1 nd.xs.2.2,.slice nd.ky.1 nd.ky.2.1 nd.ky.2.2,.int .i64 nd.kk,.func (.func f) #[.pointer (some ⟨y.heap.size,0,none⟩)] #[]] 104)) X bN (Jb hL.low bQ) (fun g e=>by have:=(Je hL.rs.own e).1;omega) (hL.rs.below bQ) hL.len hL.ps).mono (R':=fun e W'=>∃ a b,e=.returned (.tuple #[a,b])∧(wr.alloc (.cells #[.int .i64 nd.op,.int .i64 nd.l,.int .i64 nd.r,.string nd.tn,.slice nd.xs.1 nd.xs.2.1 nd.xs.2.2,.slice nd.ky.1 nd.ky.2.1 nd.ky.2.2,.int .i64 nd.kk,.func (.func f) #[.pointer (some ⟨y.heap.size,0,none⟩)] #[]] 104)).grownBy W' X.ownBlock∧((∃ (x:Nat×List (Option Addr×Nat)×List (List V)) (U:List Dn),a=dnV (some x)∧b=.nilIface∧Jd6 (y.heap.size+1) y.heap.size z E D (.int .i64 H) (.pointer (some ⟨s,0,none⟩)) (.pointer (some ⟨d,0,none⟩)) (.slice M R O) X U W'∧Jfk y.heap.size X x W'∧U.length=j∧bc (j+1) (U++[some x]))∨(∃ (ty bI:Nat),a=.slice none 0 0∧b=.iface ty (.pointer (some ⟨bI,0,none⟩))∧bj j b W'))) (fun e W' h=>by
    obtain⟨cZ,⟨x,U,rfl,fp,fq,fr,fs⟩|⟨ty,bI,rfl,bT⟩⟩:=h
    ·exact⟨_,_,rfl,cZ,.inl ⟨x,U,rfl,rfl,fp,fq,fr,fs⟩⟩
    exact⟨_,_,rfl,cZ,.inr ⟨ty,bI,rfl,rfl,bT⟩⟩)
   have bx:Hid (j<A.length∧A[j]?=some nd∧Below wr.heap.size wr (wr.alloc (.cells #[.int .i64 nd.op,.int .i64 nd.l,.int .i64 nd.r,.string nd.tn,.slice nd.xs.1 nd.xs.2.1 nd.xs.2.2,.slice nd.ky.1 nd.ky.2.1 nd.ky.2.2,.int .i64 nd.kk,.func (.func f) #[.pointer (some ⟨y.heap.size,0,none⟩)] #[]] 104))):=⟨df,bW,bQ⟩
   have cX:∀ g,X.ownBlock=some g→y.heap.size+1≤g∧g<wr.heap.size:=fun g e=>Je hL.rs.own e
   have bu:Hid (X=.slice cF j cG∧∀ g,X.ownBlock=some g→y.heap.size+1≤g∧g<wr.heap.size):=⟨bR,cX⟩
   clear hf hL ci bW fh fi dq cV bQ bR cX
   go_upto_region 11 with(refine ch.mono ?_;rintro bO Z ⟨ft,fF,rfl,bU,dY⟩)
   rcases dY with⟨x,U,dp,rfl,hR,cH,cW,dk⟩|⟨ty,bI,rfl,rfl,bT⟩
   ·as_aux_lemma=>
     have fd:ft=.slice (some ⟨x.1,0,none⟩) x.2.2.length x.2.2.length:=dp
     subst fd
     have dI:Hid (wr.grownBy Z X.ownBlock):=Ut (Qq bx.out.2.2) bU
     have bz:Hid (Jd6 (y.heap.size+1) y.heap.size z E D (.int .i64 H) (.pointer (some ⟨s,0,none⟩)) (.pointer (some ⟨d,0,none⟩)) (.slice M R O) X U Z∧Jfk y.heap.size X x Z∧U.length=j∧bc (j+1) (U++[some x])):=⟨hR,cH,cW,dk⟩
     have c7:=hR.run.cells.2.2.2.2
     rw[bu.out.1]at c7
     have fc:Jo Z (y.heap.size+1) 74 (.slice cF j cG) (U.map dnV):=by have:=hR.own;rw[bu.out.1]at this;exact this
     clear dp hR cH cW dk bU ch
     go_wp2_with (at_builtin;go_must (refine Ul (by rfl) _ _ 97 74 _ 24 Jzj (by rfl) (by decide) (by kernel_rfl) (by rfl) (y.heap.size+1) _ _ (by rfl) (Jo.alloc fc _) ⟨Z.heap.size,0,none⟩ 1 [dnV (some x)] (by rfl) (by exact Ua Z _ _) (by intro u dv;simp at dv;subst dv;rfl) (by have:=bz.out.2.2.1;have:=bx.out.1;simp only[List.length_cons,List.length_nil,Oa6];omega) (by simp;have:=Jd bz.out.1.run;omega) ?_);intro fy w4 bi fm fo;go_must (obtain⟨dX,cn⟩:=cb.out.next dI.out bz.out.1 bz.out.2.1 bz.out.2.2.1 bz.out.2.2.2 (.cells #[dnV (some x)] 74) bi (by rw[bu.out.1];exact fm) (by rw[bu.out.1];exact fo));obtain⟨fw,c6,dr,_⟩:=bi.cells;obtain⟨dz,dh⟩:∃ dz,dz=(U.map dnV++[dnV (some x)]).length:=⟨_,rfl⟩;rw[←dh]at dr;clear dh;subst dr;rw[bu.out.1]at cn;have fx:=cn.cells.2.2.2.2;have fz:w4.frozen? ⟨y.heap.size,7,none⟩=false:=(by simp[World.frozen?,show w4.heap[y.heap.size]?=_ from cn]))
     go_roundw
     case rel=>exact⟨j+1,_,_,bx.out.1,by have:=bx.out.1;go_num,dX⟩
     case measure=>have:=bx.out.1;simp[intOf];omega
   as_aux_lemma=>
    have da:=Ut (Qq (r:=X.ownBlock) bx.out.2.2) bU
    have cS:Below y.heap.size y Z:=Jy cb.out.low da fun k cj=>by have:=bu.out.2 k cj;omega
    have cC:Hid (Below w.heap.size w Z):=Jb cc.out.1 cS
    have cJ:=bE.out.2.2.1 j _ Z (Z.alloc (.cells #[.int .i64 (j:Int),.iface ty (.pointer (some ⟨bI,0,none⟩))] 107)) (Jc (Oa5 _ _) _) bT
    have dH:Hid _:=cJ
    clear bT cJ cS da bU ch
    go_wp2
    refine bodyPost_ret (v:=.tuple #[.slice none 0 0,.iface 105 (.pointer (some ⟨Z.heap.size,0,none⟩))]) (by simp[results,results23,go_sem]) rfl ⟨Jc cC.out _,.inr ⟨j,_,Z.heap.size,rfl,heap_alloc_new Z _,dH.out,cC.out.size⟩⟩
  as_aux_lemma=>
   have dc:j=A.length:=by omega
   obtain⟨U,x,bK⟩:=hL.last (by omega)
   have fb:U.length+1=A.length:=by have:=hL.len;rw[bK,Oa8,List.length_singleton]at this;omega
   obtain⟨m,dg⟩:∃ m,m=U.length:=⟨_,rfl⟩
   rcases hL.rs.own with⟨bY,⟨br,bC⟩|⟨bl,dT,dS,br,bC,bD,fj,fk,fl,dA⟩⟩
   ·rw[Oa6,hL.len]at bC;omega
   rw[Oa6,hL.len]at br
   have cU:dS[m]?=some (dnV (some x)):=by
    have bL:(bN.map dnV)[m]?=some (dnV (some x)):=by rw[bK,Ob8,Ob6 (by rw[Oa6];omega),Oa6,dg,Oe1];rfl
    rw[←dA,Oe7]at bL
    split at bL
    ·rw[Oe6]at bL;exact bL
    cases bL
   have cT:wr.cell? ⟨bl,m,none⟩=some (.slice (some ⟨x.1,0,none⟩) x.2.2.length x.2.2.length):=by
    simp only[World.cell?,bD]
    exact cU
   have cY:wr.frozen? ⟨bl,m,none⟩=false:=by simp[World.frozen?,bD]
   have bX:=hL.rs.run
   rw[br]at bX
   have ff:=Jjb y.heap.size bl j dT m z (.int .i64 E) (.int .i64 D) (.int .i64 H) (.pointer (some ⟨s,0,none⟩)) (.pointer (some ⟨d,0,none⟩)) (.slice M R O) _ _ _ wr bX (by omega) cT cY
   have c7:=bX.cells.2.2.2.2
   have bS:=hL.rs.cols x (by rw[bK];simp)
   have dP:Hid (Qd (wr.setCell ⟨bl,m,none⟩ (.slice none 0 0)) x.1 x.2.1 x.2.2):=by
    have di:X.ownBlock=some bl:=by rw[br];rfl
    exact bS.1.blocks (by simp[World.setCell]) ⟨Oa4 _ _ _ _ (fun e=>bS.2.1.2.1 (di.trans (congrArg some e.symm))),fun k cj b o e=>Oa4 _ _ _ _ (fun bJ=>(bS.2.2 k cj b o e).2.1 (di.trans (congrArg some bJ.symm)))⟩
   have dL:Hid (bc A.length (U++[some x])):=by have:=hL.ps;rw[bK,dc]at this;exact this
   have dK:Hid (Below w.heap.size w (wr.setCell ⟨bl,m,none⟩ (.slice none 0 0))):=(Jb cc.out.1 hL.low).setCell (p:=⟨bl,m,none⟩) (by have:=cc.out.1.size;simp;omega) _
   rw[dc]at c7 ⊢
   have fE:(A.length:Int)-1=(m:Int):=by omega
   have fB:m≤11:=by omega
   clear bS bX hL cb cU cY cT bY br bC bD fj fk fl dA cV bR bK fb dg dq
   go_wp2_with (go_at_call 35;refine ff.mono ?_;rintro bO dR ⟨rfl,cP⟩;have dN:Hid (dR=wr.setCell ⟨bl,m,none⟩ (.slice none 0 0)):=cP;clear cP)
   refine bodyPost_ret (v:=.tuple #[.slice (some ⟨x.1,0,none⟩) x.2.2.length x.2.2.length,.nilIface]) (by simp[results,results23,go_sem]) rfl ?_
   rw[dN.out]
   exact⟨dK.out,.inl ⟨x,U,rfl,dP.out,dL.out⟩⟩
end Go.Proofs.YtdlgbphkaicfaaaGreatDoor
