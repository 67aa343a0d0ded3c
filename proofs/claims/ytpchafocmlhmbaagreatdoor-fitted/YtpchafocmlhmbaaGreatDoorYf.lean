/- Run: the nodes of a plan, worked one after the other. -/
import Derived.Test.YtpchafocmlhmbaaGreatDoorXw
import Derived.Test.YtpchafocmlhmbaaGreatDoorGn
set_option maxHeartbeats 4000000
set_option maxRecDepth 100000
namespace Go.Proofs.YtpchafocmlhmbaaGreatDoor
section
open Go.RowKit Go.Shelf Tryz
attribute [local go_sem] Oc0
abbrev Dn:=Option (Nat×List (Option Addr×Nat)×List (List V))
def Ktu (hs:List (Option Addr×Nat))(n:Nat):Nat:=match hs[n]? with|none=>n|some x=>x.2
theorem Ku2 {hs:List (Option Addr×Nat)}{n:Nat}(h:hs.length≤n):Ktu hs n=n:=by
 unfold Ktu;rw[Ob4 h]
def dnV (d:Dn):Value:=match d with|none=>.slice none 0 0|some x=>.slice (some ⟨x.1,0,none⟩) x.2.2.length (Ktu x.2.1 x.2.2.length)
def Jfk (rb:Nat)(y:Value)(x:Nat×List (Option Addr×Nat)×List (List V))(W:World):Prop:=Qd W x.1 x.2.1 x.2.2∧Jbo x.1 x.2.1 x.2.2.length (fun b=>b≠rb∧y.ownBlock≠some b∧b<W.heap.size)
structure Jd6 (L rb:Nat) (z bu bl:Int) (se tp dp sc dv:Value) (ds:List Dn) (W:World):Prop where
 run:Jck W rb z (.int .i64 bu) (.int .i64 bl) se tp dp sc dv
 own:Jo W L 72 dv (ds.map dnV)
 cols:∀ x,some x∈ds→Jfk rb dv x W
 low:rb<L
theorem Qd.blocks {W y:World}{g:Nat}{hs:List (Option Addr×Nat)}{cs:List (List V)}(h:Qd W g hs cs)(D:W.heap.size≤y.heap.size)(hF:Jbo g hs cs.length fun b=>y.heap[b]?=W.heap[b]?):Qd y g hs cs:=
 h.kp (Fx:=fun b=>y.heap[b]?=W.heap[b]?) ⟨D,fun _ h=>h⟩ hF
theorem Jfk.move {rb:Nat}{K O:Value}{x:Nat×List (Option Addr×Nat)×List (List V)}{W E:World}(h:Jfk rb K x W)(H:W.heap.size≤E.heap.size)(D:∀ b,b≠rb→K.ownBlock≠some b→b<W.heap.size→E.heap[b]?=W.heap[b]?∧O.ownBlock≠some b):Jfk rb O x E:=
 ⟨h.1.blocks H ⟨(D _ h.2.1.1 h.2.1.2.1 h.2.1.2.2).1,fun j y b o e=>(D b (h.2.2 j y b o e).1 (h.2.2 j y b o e).2.1 (h.2.2 j y b o e).2.2).1⟩,⟨h.2.1.1,(D _ h.2.1.1 h.2.1.2.1 h.2.1.2.2).2,Oc2 h.2.1.2.2 H⟩,fun j y b o e=>⟨(h.2.2 j y b o e).1,(D b (h.2.2 j y b o e).1 (h.2.2 j y b o e).2.1 (h.2.2 j y b o e).2.2).2,Oc2 (h.2.2 j y b o e).2.2 H⟩⟩
theorem Jfk.below {rb:Nat}{D:Value}{x:Nat×List (Option Addr×Nat)×List (List V)}{W y:World}(h:Jfk rb D x W)(E:Below W.heap.size W y):Jfk rb D x y:=h.move E.size fun b _ H K=>⟨E.block b K,H⟩
theorem Jd6.below {L rb:Nat}{z bu bl:Int}{R U E O K:Value}{H:List Dn}{W D:World}(h:Jd6 L rb z bu bl R U E O K H W)(y:Below W.heap.size W D):Jd6 L rb z bu bl R U E O K H D:=
 ⟨h.run.below y,Jl h.own fun g e=>y.block g (Je h.own e).2,fun x X=>(h.cols x X).below y,h.low⟩
theorem Jd6.more {L rb:Nat}{z bu bl:Int}{U X K R y D:Value}{Y:List Dn}{W w4:World}{x:Nat×List (Option Addr×Nat)×List (List V)}(h:Jd6 L rb z bu bl U X K R y Y W)(bB:Jfk rb y x W)(bi:Obj)
  (bj:Jo w4 L 72 D (Y.map dnV++[dnV (some x)])) (bn:(W.alloc bi).grownBy w4 y.ownBlock) (br:D.ownBlock=y.ownBlock∨D.ownBlock=some (W.alloc bi).heap.size) :
  Jd6 L rb z bu bl U X K R D (Y++[some x]) (w4.setCell ⟨rb,7,none⟩ D)∧Jck w4 rb z (.int .i64 bu) (.int .i64 bl) U X K R y:=by
 have bx:∀ g,y.ownBlock=some g→L≤g∧g<W.heap.size:=fun g e=>Je h.own e;have bz:∀ g,D.ownBlock=some g→L≤g∧g<w4.heap.size:=fun g e=>Je bj e;have hl:=h.low;have bC:=bn.size;rw[Oa7]at bC br;have ba:∀ k,k<W.heap.size→y.ownBlock≠some k→w4.heap[k]?=W.heap[k]?:=fun k Z O=>(bn.block k (by rw[Oa7];omega) (Oc5 O)).trans (Oa9 _ _ _ Z);have bf:Jck w4 rb z (.int .i64 bu) (.int .i64 bl) U X K R y:=(ba rb (Jd h.run) (fun e=>by have:=bx _ e;omega)).trans h.run;have bh:=Jk bf 7 D;simp only[Oa1,List.set_cons_zero,List.set_cons_succ]at bh;have bc:∀ H,Jfk rb y H W→Jfk rb D H (w4.setCell ⟨rb,7,none⟩ D):=fun H E=>E.move (by simp[World.setCell];omega) fun b Z O bA=>⟨(Oa4 _ _ _ _ Z).trans (ba b bA O),fun e=>by
  rcases br with q|q
  ·exact O (q.symm.trans e)
  rw[q]at e;cases e;omega⟩
 refine⟨⟨bh,?_,fun H E=>?_,hl⟩,bf⟩
 ·rw[Ob8];exact Jl bj fun g e=>Oa4 _ _ _ _ (by have:=bz g e;simp;omega)
 rw[Od2,Oc6]at E;rcases E with E|E
 ·exact bc H (h.cols H E)
 cases E
 exact bc x bB
def Ju1 (w:World)(L rb:Nat)(z bu bl:Int)(U X O R:Value)(K:Nat→List Dn→Prop)(Y:Nat→Value→World→Prop)(nd:Nd)(j:Nat):Prop:=
 0≤nd.op∧nd.op≤7∧∀ W y E,Below w.heap.size w W→(∀ g,y.ownBlock=some g→w.heap.size≤g)→Jd6 L rb z bu bl U X O R y E W→E.length=j→K j E →
  Calls prog (Jej nd.op) #[.pointer (some ⟨rb,0,none⟩),nd.val] W fun e D=>W.grownBy D y.ownBlock ∧
   ((∃ (x:Nat×List (Option Addr×Nat)×List (List V)) (H:List Dn),e=.returned (.tuple #[dnV (some x),.nilIface])∧Jd6 L rb z bu bl U X O R y H D∧Jfk rb y x D∧H.length=j∧K (j+1) (H++[some x])) ∨
    (∃ (ty b:Nat),e=.returned (.tuple #[.slice none 0 0,.iface ty (.pointer (some ⟨b,0,none⟩))])∧Y j (.iface ty (.pointer (some ⟨b,0,none⟩))) D))
attribute [local go_sem] Oc0
def Jx8 (n:Nat)(E:Nat→List Dn→Prop)(D:Nat→Value→World→Prop)(w:World):Ending→World→Prop:=fun e w'=>Below w.heap.size w w' ∧
 ((∃ (x:Nat×List (Option Addr×Nat)×List (List V)) (H:List Dn),e=.returned (.tuple #[dnV (some x),.nilIface])∧Qd w' x.1 x.2.1 x.2.2∧E n (H++[some x])) ∨
  (∃ (j:Nat) (v:Value) (y:Nat),e=.returned (.tuple #[.slice none 0 0,.iface 102 (.pointer (some ⟨y,0,none⟩))])∧w'.heap[y]?=some (.cells #[.int .i64 (j:Int),v] 104 (0,0))∧D j v w'∧w.heap.size≤y))
structure Jty (W2:World) (z bu bl:Int) (se tp dp sc sv:Value) (nds:List Nd) (PS:Nat→List Dn→Prop) (j:Nat) (dv:Value) (ds:List Dn) (wr:World):Prop where
 rs:Jd6 (W2.heap.size+1) W2.heap.size z bu bl se tp dp sc dv ds wr
 len:ds.length=j
 ps:PS j ds
 last:0<j→∃ ds' x,ds=ds'++[some x]
 steps:wr.ownsRow (W2.heap.size+1) 101 8 sv nds.length (nds.flatMap (Jbu W2.heap.size))
 sep:∀ g,sv.ownBlock=some g→dv.ownBlock≠some g
 low:Below W2.heap.size W2 wr
theorem Jty.step {E:World}{z bu bl:Int}{bf bh O bc sv:Value}{D:List Nd}{K:Nat→List Dn→Prop}{j:Nat}{U:Value}{R:List Dn}{wr:World}(h:Jty E z bu bl bf bh O bc sv D K j U R wr){i:Nat}{nd:Nd}(hi:D[i]?=some nd) :
  ∃ g cap,sv=.slice (some ⟨g,0,none⟩) D.length cap∧Zm wr g (i*8) nd∧wr.cell? ⟨g,i*8+7,none⟩=some (.func (.func (Jej nd.op)) #[.pointer (some ⟨E.heap.size,0,none⟩)] #[]):=by
 have bx:i<D.length:=(Ob9.1 hi).1;rcases h.steps with⟨h0,⟨H,X⟩|⟨g,cap,bi,H,X,Y,bj,bn,br,Z⟩⟩
 ·omega
 have y:∀ k,k<8→wr.cell? ⟨g,i*8+k,none⟩=(Jbu E.heap.size nd)[k]?:=fun k ba=>by
  have:=Jek (Jbu E.heap.size) 8 (fun _=>rfl) D i k nd hi ba;rw[←Z,Oe7,if_pos (by omega),Oe6]at this;rw[←this];simp[World.cell?,Y]
 exact⟨g,cap,H,⟨y 0 (by omega),y 1 (by omega),y 2 (by omega),y 3 (by omega),y 4 (by omega),y 5 (by omega),y 6 (by omega)⟩,y 7 (by omega)⟩
theorem Jty.next {y:World}{z bu bl:Int}{Z ba O Y sv:Value}{bz:List Nd}{bc:Nat→List Dn→Prop}{j:Nat}{D K:Value}{bB H:List Dn}{wr E w4:World}{x:Nat×List (Option Addr×Nat)×List (List V)}(h:Jty y z bu bl Z ba O Y sv bz bc j D bB wr)(bi:wr.grownBy E D.ownBlock)(hR:Jd6 (y.heap.size+1) y.heap.size z bu bl Z ba O Y D H E)(bD:Jfk y.heap.size D x E)(hl:H.length=j)(hp:bc (j+1) (H++[some x]))(U:Obj)
  (bE:Jo w4 (y.heap.size+1) 72 K (H.map dnV++[dnV (some x)])) (X:(E.alloc U).grownBy w4 D.ownBlock) (bn:K.ownBlock=D.ownBlock∨K.ownBlock=some (E.alloc U).heap.size) :
  Jty y z bu bl Z ba O Y sv bz bc (j+1) K (H++[some x]) (w4.setCell ⟨y.heap.size,7,none⟩ K)∧Jck w4 y.heap.size z (.int .i64 bu) (.int .i64 bl) Z ba O Y D:=by
 obtain⟨bh,R⟩:=hR.more bD U bE X bn;have bx:∀ g,D.ownBlock=some g→y.heap.size+1≤g∧g<wr.heap.size:=fun g e=>Je h.rs.own e;have br:∀ g,sv.ownBlock=some g→y.heap.size+1≤g∧g<wr.heap.size:=fun g e=>Je h.steps e;have bH:=bi.size;have bG:=X.size;rw[Oa7]at bG bn;have bA:∀ k,k<wr.heap.size→D.ownBlock≠some k→k≠y.heap.size→(w4.setCell ⟨y.heap.size,7,none⟩ K).heap[k]?=wr.heap[k]?:=fun k bh R bC=>by
  rw[Oa4 _ _ _ _ bC,X.block k (by rw[Oa7];omega) (Oc5 R),Oa9 _ _ _ (by omega)];exact bi.block k bh (Oc5 R)
 refine⟨⟨bh,by rw[Oa8,List.length_singleton,hl],hp,fun _=>⟨H,x,rfl⟩,Jl h.steps fun g e=>bA g (br g e).2 (h.sep g e) (by have:=br g e;omega),fun g e bf=>?_,?_⟩,R⟩
 ·rcases bn with q|q
  ·exact h.sep g e (q.symm.trans bf)
  rw[q]at bf;cases bf
  have:=br _ e;omega
 have b1:Below y.heap.size y E:=Jy h.low bi fun k bj=>by have:=bx k bj;omega
 have b2:Below y.heap.size y w4:=Jy (Jc b1 U) X fun k bj=>by have:=bx k bj;omega
 exact b2.setCell (p:=⟨y.heap.size,7,none⟩) (Oa2 _) _
theorem Jzj:(prog.info? 72).map (fun i=>(i.zero,i.size,i.bytes))=some (some (.slice none 0 0),1,24):=by kernel_rfl
theorem Jr6 (ba no bh s d:Nat)(D:List Nd)(z bu bl sd:Int)(bc:Nat→List Dn→Prop)(bj:Nat→Value→World→Prop)(bf:Value→World→Prop)(w:World)
  (cQ:∀ j nd,D[j]?=some nd→Zm w ba (no+j*7) nd) (fH:1≤D.length) (fI:D.length≤12) (dB:1≤z) (dC:z≤1000) (bx:2≤bu) (Z:bu≤1000) (dh:0≤bl) (di:bl≤4096)
  (dx:∀ E,Below w.heap.size w E→Calls prog 30 #[(.agg #[.slice (some ⟨ba,no,none⟩) D.length bh]),(.func (.func 31) #[.pointer (some ⟨s,0,none⟩)] #[])] E fun e w'=>∃ a n c,e=.returned (.tuple #[.slice a n c,.nilIface])∧Below E.heap.size E w'∧bf (.slice a n c) w')
  (cT:∀ v W R,Below W.heap.size W R→bf v W→bf v R)
  (dA:∀ E bO,Below w.heap.size w E→bf bO E→∀ j nd,D[j]?=some nd→Ju1 E (E.heap.size+1) E.heap.size z bu bl (.int .i64 sd) (.pointer (some ⟨s,0,none⟩)) (.pointer (some ⟨d,0,none⟩)) bO bc bj nd j)
  (cN:∀ j v W R,Below W.heap.size W R→bj j v W→bj j v R) (cS:bc 0 []) :
  Calls prog 22 #[(.agg #[.slice (some ⟨ba,no,none⟩) D.length bh]),.agg #[.int .i64 z,.int .i64 bu,.int .i64 bl,.int .i64 sd],(.pointer (some ⟨s,0,none⟩)),(.pointer (some ⟨d,0,none⟩))] w (Jx8 D.length bc bj w):=by
 have bI:Hid ((∀ j nd,D[j]?=some nd→Zm w ba (no+j*7) nd)∧(∀ E bO,Below w.heap.size w E→bf bO E→∀ j nd,D[j]?=some nd→Ju1 E (E.heap.size+1) E.heap.size z bu bl (.int .i64 sd) (.pointer (some ⟨s,0,none⟩)) (.pointer (some ⟨d,0,none⟩)) bO bc bj nd j)∧(∀ j v W R,Below W.heap.size W R→bj j v W→bj j v R)∧bc 0 []∧∀ v W R,Below W.heap.size W R→bf v W→bf v R):=⟨cQ,dA,cN,cS,cT⟩;have fK:=run_neq_nil_nil (P:=prog);obtain⟨w1,bE⟩:∃ w1,w1=(w.alloc (.cells #[.slice (some ⟨ba,no,none⟩) D.length bh] 57)).alloc (.cells #[.int .i64 z,.int .i64 bu,.int .i64 bl,.int .i64 sd] 27):=⟨_,rfl⟩;have cj:Below w.heap.size w w1:=by rw[bE];exact Jc (Jc (Oa5 _ _) _) _
 have cy:=dx w1 cj;have cF:Hid (Below w.heap.size w w1):=cj;have dG:w1.heap[w.heap.size]?=some (.cells #[.slice (some ⟨ba,no,none⟩) D.length bh] 57 (0,0)):=by rw[bE];exact(Oa9 _ _ _ (by simp)).trans (heap_alloc_new w _)
 have dH:w1.heap[w.heap.size+1]?=some (.cells #[.int .i64 z,.int .i64 bu,.int .i64 bl,.int .i64 sd] 27 (0,0)):=by
  have:=heap_alloc_new (w.alloc (.cells #[.slice (some ⟨ba,no,none⟩) D.length bh] 57)) (.cells #[.int .i64 z,.int .i64 bu,.int .i64 bl,.int .i64 sd] 27);rw[Oa7]at this;rw[bE];exact this
 have dq:=fun W=>Jk5 z bu bl (.int .i64 sd) W dB dC bx Z dh di;have bJ:Hid (w1.heap[w.heap.size]?=some (.cells #[.slice (some ⟨ba,no,none⟩) D.length bh] 57 (0,0))∧w1.heap[w.heap.size+1]?=some (.cells #[.int .i64 z,.int .i64 bu,.int .i64 bl,.int .i64 sd] 27 (0,0))):=⟨dG,dH⟩;rw[bE]at cy;have cH:Hid (w1=_):=bE;clear cQ dA cN cS dx cj dG dH dB dC bx Z dh di bE cT;go_enter func22,ntmps22
 go_upto_region 2 with(go_at_call 30;refine cy.mono ?_;rintro bQ bn ⟨H,O,K,rfl,bx,dw⟩)
 rw[←cH.out]at bx;have dK:=(bx.block _ (Jd bJ.out.1)).trans bJ.out.1;have bi:=(bx.block _ (Jd bJ.out.2)).trans bJ.out.2;have ca:bn.cell? ⟨w.heap.size+1,0,none⟩=some (.int .i64 z):=by simp[World.cell?,bi]
 have bz:bn.cell? ⟨w.heap.size+1,1,none⟩=some (.int .i64 bu):=by simp[World.cell?,bi]
 have bG:bn.cell? ⟨w.heap.size+1,2,none⟩=some (.int .i64 bl):=by simp[World.cell?,bi]
 have bH:bn.cell? ⟨w.heap.size+1,3,none⟩=some (.int .i64 sd):=by simp[World.cell?,bi]
 have bK:Hid (Below w.heap.size w bn∧bf (.slice H O K) bn∧bn.heap[w.heap.size]?=some (.cells #[.slice (some ⟨ba,no,none⟩) D.length bh] 57 (0,0))∧bn.heap[w.heap.size+1]?=some (.cells #[.int .i64 z,.int .i64 bu,.int .i64 bl,.int .i64 sd] 27 (0,0))):=⟨Jb cF.out bx,dw,dK,bi⟩;clear cy bx dw dK bi cH bJ cF w1;go_upto_region 6 with(go_at_call 32;refine(dq _).mono ?_;rintro bQ y ⟨rfl,Z⟩)
 have dY:=Ja Z ca;have dZ:=Ja Z bz;have bL:=Ja Z bG;have fc:=Ja Z bH;have cE:=(Z.block _ (Jd bK.out.2.2.1)).trans bK.out.2.2.1;have bX:Below w.heap.size w y:=Jb bK.out.1 Z;have cz:=bI.out.2.2.2.2 _ _ _ Z bK.out.2.1;have ch:Hid (Below w.heap.size w y∧bf (.slice H O K) y):=⟨bX,cz⟩;have cD:=bI.out.2.1 y (.slice H O K) bX cz;have dS:Hid _:=cD;have bR:Below y.heap.size y (y.alloc (.cells #[.int .i64 z,.int .i64 bu,.int .i64 bl,.int .i64 sd,(.pointer (some ⟨s,0,none⟩)),(.pointer (some ⟨d,0,none⟩)),.slice H O K,.slice none 0 0] 96)):=Jc (Oa5 _ _) _;have ds:(y.alloc (.cells #[.int .i64 z,.int .i64 bu,.int .i64 bl,.int .i64 sd,(.pointer (some ⟨s,0,none⟩)),(.pointer (some ⟨d,0,none⟩)),.slice H O K,.slice none 0 0] 96)).heap[y.heap.size]?=_:=heap_alloc_new y (.cells #[.int .i64 z,.int .i64 bu,.int .i64 bl,.int .i64 sd,(.pointer (some ⟨s,0,none⟩)),(.pointer (some ⟨d,0,none⟩)),.slice H O K,.slice none 0 0] 96);have dJ:=(bR.block _ (Jd cE)).trans cE;have cA:=Jxb y.heap.size ba no bh D (y.alloc (.cells #[.int .i64 z,.int .i64 bu,.int .i64 bl,.int .i64 sd,(.pointer (some ⟨s,0,none⟩)),(.pointer (some ⟨d,0,none⟩)),.slice H O K,.slice none 0 0] 96)) (fun j p hp=>((bI.out.1 j p hp).below bX).below bR) (fun p hp=>by
  obtain⟨j,df⟩:=Ok2.1 hp;have:=cD j p df;exact⟨this.1,this.2.1⟩) (by omega)
 have dI:(y.alloc (.cells #[.int .i64 z,.int .i64 bu,.int .i64 bl,.int .i64 sd,(.pointer (some ⟨s,0,none⟩)),(.pointer (some ⟨d,0,none⟩)),.slice H O K,.slice none 0 0] 96)).cell? ⟨w.heap.size,0,none⟩=some (.slice (some ⟨ba,no,none⟩) D.length bh):=by simp[World.cell?,dJ]
 clear ca bz bG bH Z dq bK cE bX cz cD dJ;go_upto_region 7 with fail
 have bD:Hid ((y.alloc (.cells #[.int .i64 z,.int .i64 bu,.int .i64 bl,.int .i64 sd,(.pointer (some ⟨s,0,none⟩)),(.pointer (some ⟨d,0,none⟩)),.slice H O K,.slice none 0 0] 96)).heap[y.heap.size]?=some (.cells #[.int .i64 z,.int .i64 bu,.int .i64 bl,.int .i64 sd,(.pointer (some ⟨s,0,none⟩)),(.pointer (some ⟨d,0,none⟩)),.slice H O K,.slice none 0 0] 96 (0,0))∧Below y.heap.size y (y.alloc (.cells #[.int .i64 z,.int .i64 bu,.int .i64 bl,.int .i64 sd,(.pointer (some ⟨s,0,none⟩)),(.pointer (some ⟨d,0,none⟩)),.slice H O K,.slice none 0 0] 96))∧(y.alloc (.cells #[.int .i64 z,.int .i64 bu,.int .i64 bl,.int .i64 sd,(.pointer (some ⟨s,0,none⟩)),(.pointer (some ⟨d,0,none⟩)),.slice H O K,.slice none 0 0] 96)).heap.size=y.heap.size+1):=⟨ds,bR,by simp⟩;clear ds bR;generalize y.alloc (.cells #[.int .i64 z,.int .i64 bu,.int .i64 bl,.int .i64 sd,(.pointer (some ⟨s,0,none⟩)),(.pointer (some ⟨d,0,none⟩)),.slice H O K,.slice none 0 0] 96)=dU at cA dI bD ⊢;go_wp2_with (go_at_call 33;refine cA.mono ?_;rintro bQ cI ⟨cV,sv,rfl,cB⟩;obtain⟨cb,cc,cC⟩:=Jcz cB;have dQ:Hid (cI.ownsRow dU.heap.size 101 8 sv D.length (D.flatMap (Jbu y.heap.size))):=cB;have fB:Hid (sv=.slice cb D.length cc):=cC;have fj:sv=.slice cb D.length cc:=cC;clear cB cC;subst fj)
 have cP:Jty y z bu bl (.int .i64 sd) (.pointer (some ⟨s,0,none⟩)) (.pointer (some ⟨d,0,none⟩)) (.slice H O K) (.slice cb D.length cc) D bc 0 (.slice none 0 0) [] cI:=
  ⟨⟨(cV.block _ (Jd bD.out.1)).trans bD.out.1,Jo.nil _ _ _,fun x fm=>(by cases fm),by omega⟩,rfl,bI.out.2.2.2.1,fun h=>absurd h (Oe3 _),(by have:=dQ.out;rw[bD.out.2.2]at this;exact this),fun g e bL=>(by cases bL),Jb bD.out.2.1 cV⟩
 have dN:Hid _:=cP;clear cP cA bD dI dY dZ bL fc;go_loopw [41] (fun i wr=>∃ (j:Nat) (X:Value) (bP:List Dn),j≤D.length∧i=.int .i64 (j:Int)∧Jty y z bu bl (.int .i64 sd) (.pointer (some ⟨s,0,none⟩)) (.pointer (some ⟨d,0,none⟩)) (.slice H O K) (.slice cb D.length cc) D bc j X bP wr) (fun i _=>D.length-(intOf i).toNat)
 case atStart=>exact⟨0,_,_,Ob7 _,rfl,dN.out⟩
 case round=>
  obtain⟨j,X,bP,df,rfl,hL⟩:=hrel;have cf:Hid _:=hL;have du:=hL.rs.run;obtain⟨cJ,cK,bT,cZ⟩:=hL.rs.own.cells;rw[Oa6,hL.len]at bT;by_cases dj:j<D.length
  ·obtain⟨nd,bY⟩:∃ nd,D[j]?=some nd:=⟨_,Oa3 dj⟩;obtain⟨fo,fp,cu⟩:=dS.out j nd bY;obtain⟨fP,fO,dy,⟨fQ,fR,fS,fT,fU,fV,fW⟩,fA⟩:=hL.step bY;simp only[On8]at dy;obtain⟨rfl,-,rfl⟩:=dy;have ff:=Js3 nd.op;obtain⟨f,hf⟩:∃ f,f=Jej nd.op:=⟨_,rfl⟩;rw[←hf]at ff fA cu;have fL:∀ (a:Addr) (E:World),(store a (.func (.func f) #[.pointer (some ⟨y.heap.size,0,none⟩)] #[])).run prog E=stored prog E a (.func (.func f) #[.pointer (some ⟨y.heap.size,0,none⟩)] #[]) .plain:=fun a E=>run_store _ _ _ _ _ rfl;have bS:Below wr.heap.size wr (wr.alloc (.cells #[.int .i64 nd.op,.int .i64 nd.l,.int .i64 nd.r,.string nd.tn,.slice nd.xs.1 nd.xs.2.1 nd.xs.2.2,.slice nd.ky.1 nd.ky.2.1 nd.ky.2.2,.int .i64 nd.kk,.func (.func f) #[.pointer (some ⟨y.heap.size,0,none⟩)] #[]] 101)):=Jc (Oa5 _ _) _;have cn:=(cu (wr.alloc (.cells #[.int .i64 nd.op,.int .i64 nd.l,.int .i64 nd.r,.string nd.tn,.slice nd.xs.1 nd.xs.2.1 nd.xs.2.2,.slice nd.ky.1 nd.ky.2.1 nd.ky.2.2,.int .i64 nd.kk,.func (.func f) #[.pointer (some ⟨y.heap.size,0,none⟩)] #[]] 101)) X bP (Jb hL.low bS) (fun g e=>by have:=(Je hL.rs.own e).1;omega) (hL.rs.below bS) hL.len hL.ps).mono (R':=fun e R=>∃ a b,e=.returned (.tuple #[a,b])∧(wr.alloc (.cells #[.int .i64 nd.op,.int .i64 nd.l,.int .i64 nd.r,.string nd.tn,.slice nd.xs.1 nd.xs.2.1 nd.xs.2.2,.slice nd.ky.1 nd.ky.2.1 nd.ky.2.2,.int .i64 nd.kk,.func (.func f) #[.pointer (some ⟨y.heap.size,0,none⟩)] #[]] 101)).grownBy R X.ownBlock∧((∃ (x:Nat×List (Option Addr×Nat)×List (List V)) (U:List Dn),a=dnV (some x)∧b=.nilIface∧Jd6 (y.heap.size+1) y.heap.size z bu bl (.int .i64 sd) (.pointer (some ⟨s,0,none⟩)) (.pointer (some ⟨d,0,none⟩)) (.slice H O K) X U R∧Jfk y.heap.size X x R∧U.length=j∧bc (j+1) (U++[some x]))∨(∃ (ty bb:Nat),a=.slice none 0 0∧b=.iface ty (.pointer (some ⟨bb,0,none⟩))∧bj j b R))) (fun e R h=>by
    obtain⟨dd,⟨x,U,rfl,fv,fw,fx,fy⟩|⟨ty,bb,rfl,bV⟩⟩:=h
    ·exact⟨_,_,rfl,dd,.inl ⟨x,U,rfl,rfl,fv,fw,fx,fy⟩⟩
    exact⟨_,_,rfl,dd,.inr ⟨ty,bb,rfl,rfl,bV⟩⟩)
   have bB:Hid (j<D.length∧D[j]?=some nd∧Below wr.heap.size wr (wr.alloc (.cells #[.int .i64 nd.op,.int .i64 nd.l,.int .i64 nd.r,.string nd.tn,.slice nd.xs.1 nd.xs.2.1 nd.xs.2.2,.slice nd.ky.1 nd.ky.2.1 nd.ky.2.2,.int .i64 nd.kk,.func (.func f) #[.pointer (some ⟨y.heap.size,0,none⟩)] #[]] 101))):=⟨dj,bY,bS⟩;have db:∀ g,X.ownBlock=some g→y.heap.size+1≤g∧g<wr.heap.size:=fun g e=>Je hL.rs.own e;have bA:Hid (X=.slice cJ j cK∧∀ g,X.ownBlock=some g→y.heap.size+1≤g∧g<wr.heap.size):=⟨bT,db⟩;clear hf hL cu bY fo fp du cZ bS bT db;go_upto_region 11 with(refine cn.mono ?_;rintro bQ Y ⟨fz,fN,rfl,bW,fe⟩)
   rcases fe with⟨x,U,dt,rfl,hR,cM,da,dr⟩|⟨ty,bb,rfl,rfl,bV⟩
   ·as_aux_lemma=>
     have fi:fz=.slice (some ⟨x.1,0,none⟩) x.2.2.length (Ktu x.2.1 x.2.2.length):=dt;subst fi;have dM:Hid (wr.grownBy Y X.ownBlock):=Ut (Qq bB.out.2.2) bW;have bC:Hid (Jd6 (y.heap.size+1) y.heap.size z bu bl (.int .i64 sd) (.pointer (some ⟨s,0,none⟩)) (.pointer (some ⟨d,0,none⟩)) (.slice H O K) X U Y∧Jfk y.heap.size X x Y∧U.length=j∧bc (j+1) (U++[some x])):=⟨hR,cM,da,dr⟩;have ci:=hR.run.cells.2.2.2.2;rw[bA.out.1]at ci;have fh:Jo Y (y.heap.size+1) 72 (.slice cJ j cK) (U.map dnV):=by have:=hR.own;rw[bA.out.1]at this;exact this
     clear dt hR cM da dr bW cn;go_wp2_with (at_builtin;go_must (refine Ul (by rfl) _ _ 94 72 _ 24 Jzj (by rfl) (by decide) (by kernel_rfl) (by rfl) (y.heap.size+1) _ _ (by rfl) (Jo.alloc fh _) ⟨Y.heap.size,0,none⟩ 1 [dnV (some x)] (by rfl) (by exact Ua Y _ _) (by intro u dz;simp at dz;subst dz;rfl) (by have:=bC.out.2.2.1;have:=bB.out.1;simp only[List.length_cons,List.length_nil,Oa6];omega) (by simp;have:=Jd bC.out.1.run;omega) ?_);intro fF w4 bi ft fu;go_must (obtain⟨fd,cx⟩:=cf.out.next dM.out bC.out.1 bC.out.2.1 bC.out.2.2.1 bC.out.2.2.2 (.cells #[dnV (some x)] 72) bi (by rw[bA.out.1];exact ft) (by rw[bA.out.1];exact fu));obtain⟨fC,fD,dv,_⟩:=bi.cells;obtain⟨dD,dm⟩:∃ dD,dD=(U.map dnV++[dnV (some x)]).length:=⟨_,rfl⟩;rw[←dm]at dv;clear dm;subst dv;rw[bA.out.1]at cx;have fE:=cx.cells.2.2.2.2;have fG:w4.frozen? ⟨y.heap.size,7,none⟩=false:=(by simp[World.frozen?,show w4.heap[y.heap.size]?=_ from cx]))
     go_roundw
     case rel=>exact⟨j+1,_,_,bB.out.1,by have:=bB.out.1;go_num,fd⟩
     case measure=>have:=bB.out.1;simp[intOf];omega
   as_aux_lemma=>
    have de:=Ut (Qq (r:=X.ownBlock) bB.out.2.2) bW;have cW:Below y.heap.size y Y:=Jy cf.out.low de fun k cv=>by have:=bA.out.2 k cv;omega
    have cG:Hid (Below w.heap.size w Y):=Jb ch.out.1 cW;have cO:=bI.out.2.2.1 j _ Y (Y.alloc (.cells #[.int .i64 (j:Int),.iface ty (.pointer (some ⟨bb,0,none⟩))] 104)) (Jc (Oa5 _ _) _) bV;have dL:Hid _:=cO;clear bV cO cW de bW cn;go_wp2;refine bodyPost_ret (v:=.tuple #[.slice none 0 0,.iface 102 (.pointer (some ⟨Y.heap.size,0,none⟩))]) (by simp[results,results22,go_sem]) rfl ⟨Jc cG.out _,.inr ⟨j,_,Y.heap.size,rfl,heap_alloc_new Y _,dL.out,cG.out.size⟩⟩
  as_aux_lemma=>
   have dg:j=D.length:=(by omega);obtain⟨U,x,bM⟩:=hL.last (by omega);have fg:U.length+1=D.length:=by have:=hL.len;rw[bM,Oa8,List.length_singleton]at this;omega
   obtain⟨m,dk⟩:∃ m,m=U.length:=⟨_,rfl⟩;rcases hL.rs.own with⟨ca,⟨bz,bG⟩|⟨br,dX,dW,bz,bG,bH,fq,fr,fs,dE⟩⟩
   ·rw[Oa6,hL.len]at bG;omega
   rw[Oa6,hL.len]at bz;have cY:dW[m]?=some (dnV (some x)):=by
    have bN:(bP.map dnV)[m]?=some (dnV (some x)):=by rw[bM,Ob8,Ob6 (by rw[Oa6];omega),Oa6,dk,Oe1];rfl
    rw[←dE,Oe7]at bN;split at bN
    ·rw[Oe6]at bN;exact bN
    cases bN
   have cX:wr.cell? ⟨br,m,none⟩=some (.slice (some ⟨x.1,0,none⟩) x.2.2.length (Ktu x.2.1 x.2.2.length)):=by
    simp only[World.cell?,bH];exact cY
   have dc:wr.frozen? ⟨br,m,none⟩=false:=by simp[World.frozen?,bH]
   have bZ:=hL.rs.run;rw[bz]at bZ;have fk:=Jjb y.heap.size br j dX m z (.int .i64 bu) (.int .i64 bl) (.int .i64 sd) (.pointer (some ⟨s,0,none⟩)) (.pointer (some ⟨d,0,none⟩)) (.slice H O K) _ _ _ wr bZ (by omega) cX dc;have ci:=bZ.cells.2.2.2.2;have bU:=hL.rs.cols x (by rw[bM];simp);have dT:Hid (Qd (wr.setCell ⟨br,m,none⟩ (.slice none 0 0)) x.1 x.2.1 x.2.2):=by
    have dp:X.ownBlock=some br:=by rw[bz];rfl
    exact bU.1.blocks (by simp[World.setCell]) ⟨Oa4 _ _ _ _ (fun e=>bU.2.1.2.1 (dp.trans (congrArg some e.symm))),fun k cv b o e=>Oa4 _ _ _ _ (fun bL=>(bU.2.2 k cv b o e).2.1 (dp.trans (congrArg some bL.symm)))⟩
   have dP:Hid (bc D.length (U++[some x])):=by have:=hL.ps;rw[bM,dg]at this;exact this
   have dO:Hid (Below w.heap.size w (wr.setCell ⟨br,m,none⟩ (.slice none 0 0))):=(Jb ch.out.1 hL.low).setCell (p:=⟨br,m,none⟩) (by have:=ch.out.1.size;simp;omega) _;rw[dg]at ci ⊢;have fM:(D.length:Int)-1=(m:Int):=(by omega);have fJ:m≤11:=(by omega);clear bU bZ hL cf cY dc cX ca bz bG bH fq fr fs dE cZ bT bM fg dk du;go_wp2_with (go_at_call 34;refine fk.mono ?_;rintro bQ dV ⟨rfl,cU⟩;have dR:Hid (dV=wr.setCell ⟨br,m,none⟩ (.slice none 0 0)):=cU;clear cU)
   refine bodyPost_ret (v:=.tuple #[.slice (some ⟨x.1,0,none⟩) x.2.2.length (Ktu x.2.1 x.2.2.length),.nilIface]) (by simp[results,results22,go_sem]) rfl ?_;rw[dR.out];exact⟨dO.out,.inl ⟨x,U,rfl,dT.out,dP.out⟩⟩
attribute [local go_sem] Oc0
theorem Jd6.take {L rb:Nat}{z bu bl:Int}{bn br bf bj E:Value}{D:List Dn}{W:World}(h:Jd6 L rb z bu bl bn br bf bj E D W){i:Nat}{x:Nat×List (Option Addr×Nat)×List (List V)}(hi:D[i]?=some (some x)) :
  ∃ y R,E=.slice (some ⟨y,0,none⟩) D.length R∧i<D.length∧L≤y∧y<W.heap.size∧W.cell? ⟨y,i,none⟩=some (.slice (some ⟨x.1,0,none⟩) x.2.2.length (Ktu x.2.1 x.2.2.length))∧W.frozen? ⟨y,i,none⟩=false∧Jfk rb E x W ∧
   ∀ O,W.grownBy O (some y)→O.heap[y]?=Jdc W y i→Jd6 L rb z bu bl bn br bf bj E (D.set i none) O:=by
 have bB:i<D.length:=(Ob9.1 hi).1;have hl:=h.low;rcases h.own with⟨bK,⟨K,U⟩|⟨y,R,bc,K,U,X,bi,bH,bI,ba⟩⟩
 ·rw[Oa6]at U;omega
 rw[Oa6]at K bi;have bA:bc[i]?=some (dnV (some x)):=by
  have H:(D.map dnV)[i]?=some (dnV (some x)):=by rw[Ob1,hi];rfl
  rw[←ba,Oe7]at H;split at H
  ·rw[Oe6]at H;exact H
  cases H
 have bC:some x∈D:=Of6 hi;have bD:E.ownBlock=some y:=by rw[K];rfl
 refine⟨y,R,K,bB,U,Jd X,?_,by simp[World.frozen?,X],h.cols x bC,fun O Z Y=>?_⟩
 ·simp only[World.cell?,X];exact bA
 have hs:=Jk X i (.slice none 0 0);unfold Jdc at Y;rw[hs]at Y;refine⟨(Z.block rb (Jd h.run) (fun e=>by cases e;omega)).trans h.run,⟨?_,.inr ⟨y,R,bc.setIfInBounds i (.slice none 0 0),?_,U,Y,?_,bH,?_,?_⟩⟩,fun bx bE=>?_,hl⟩
 ·rw[Oa6,Of8];omega
 ·rw[Oa6,Of8];exact K
 ·rw[Oa6,Of8];exact bi
 ·simpa using bI
 ·rw[Oa6,Of8,Ok0,List.take_set];rw[Oa6]at ba;rw[ba,Op0];rfl
 have bG:some bx∈D:=by
  rcases List.mem_or_eq_of_mem_set bE with h|h
  ·exact h
  ·cases h
 exact(h.cols bx bG).move Z.size fun b bJ bh bz=>⟨Z.block b bz (fun e=>bh (bD.trans e.symm)),bh⟩
theorem Jgr {y:Nat}{w w':World}(h:Ju (·=y) w w'):w.grownBy w' (some y):=⟨h.os,h.tape,h.output,h.size,fun k D E=>h.block k D fun e=>E (by rw[show k=y from e])⟩
def slH (v:Value):Option Addr×Nat:=match v with|.slice a _ c=>(a,c)|_=>(none,0)
theorem Jo6 {w:World}{B g:Nat}{D:List Value}{cs:List (List V)}(h:Jar w B g D cs):Qd w g (D.map slH) cs∧∀ j,j<cs.length→∀ b o,(Yo (D.map slH) j).1=some ⟨b,o,none⟩→B≤b∧b<w.heap.size:=by
 have R:∀ j,j<cs.length→Yo (D.map slH) j=slH (Uq D j):=fun j y=>by
  unfold Yo Uq;rw[Oa0,Oa0,Ob1,Oa3 (by rw[h.len];exact y)];rfl
 have E:∀ j,j<cs.length→Uq D j=.slice (Yo (D.map slH) j).1 (cs.getD j []).length (Yo (D.map slH) j).2∧Jv w (Yo (D.map slH) j).1 (cs.getD j [])∧(cs.getD j []).length≤(Yo (D.map slH) j).2:=fun j y=>by
  obtain⟨a,cap,e,U⟩:=(h.own j y).vals;rw[R j y,e];refine⟨rfl,U,?_⟩;rcases h.own j y with⟨_,⟨H,K⟩|⟨Y,X,_,H,_,_,O,_⟩⟩
  ·rw[K];exact Ob7 _
  rw[e]at H;cases H
  exact O
 refine⟨⟨?_,fun j y=>(E j y).2.1,fun j y=>(E j y).2.2⟩,fun j y b o e=>?_⟩
 ·rw[←h.len];exact(Kt4 h.row).congr fun j y=>(E j (by rw[←h.len];exact y)).1
 refine Je (h.own j y) ?_;rw[(E j y).1,e];rfl
def Khw (L rb:Nat)(z bu bl:Int)(Z ba O Y E:Value)(R:List Dn)(l:Nat)(U X:Addr)(y:List (List Pt))(cols:List (List V))(N:Nat)(W:World):Ending→World→Prop:=fun K D=>W.grownBy D E.ownBlock ∧
 ((∃ (g:Nat) (hs:List (Option Addr×Nat)),K=.returned (.tuple #[dnV (some (g,hs,y.map fun e=>(List.range N).map fun i=>pv1 e (Ji cols i))),.nilIface])∧Jd6 L rb z bu bl Z ba O Y E (R.set l none) D∧Jfk rb E (g,hs,y.map fun e=>(List.range N).map fun i=>pv1 e (Ji cols i)) D∧∀ i,i<N→∀ e∈y,∃ v,Kl e (Ji cols i)=.inl v) ∨
  (∃ H kk r:Nat,K=.returned (.tuple #[.slice none 0 0,Qv H])∧r<N∧Kr y (Ji cols r)≠0∧Ja8 D H (r:Int) kk (Jdb U X (Kr y (Ji cols r)))∧∀ i,i<r→∀ e∈y,∃ v,Kl e (Ji cols i)=.inl v))
theorem Jsx {L rb:Nat}{z:Nat}{bu bl:Int}{bc bf R ba U:Value}{O:List Dn}{W:World}(h:Jd6 L rb z bu bl bc bf R ba U O W)(nd:Nd)(l:Nat)(g:Nat)(hs:List (Option Addr×Nat))(cols:List (List V))(hi:O[l]?=some (some (g,hs,cols)))(hl:nd.l=(l:Int))(Y eo bi:Nat)(y:List (List Pt))(ca:nd.xs=(some ⟨Y,eo,none⟩,y.length,bi))(B N:Nat)(ci:B≤L)(X Z:Addr)
  (bG:Jaz W Y eo y) (bW:Jga cols.length y) (bO:1≤y.length) (bP:y.length≤1000) (cb:1≤z) (cz:z≤1000) (bX:1≤cols.length) (bY:cols.length≤1000) (bM:∀ j,j<cols.length→(cols.getD j []).length=N) (bI:N≤100000) (bR:∀ i,i<N→∀ v∈Ji cols i,Jg v.n) (bH:Jdo W X Z) (cx:10<B∧11<B) :
  Calls prog 71 #[.pointer (some ⟨rb,0,none⟩),nd.val] W (Khw L rb z bu bl bc bf R ba U O l X Z y cols N W):=by
 obtain⟨bh,bC,br,bS,cj,cn,bL,hf,H,bV⟩:=h.take hi;have bA:=h.run;rw[br]at bA;have D:U.ownBlock=some bh:=by rw[br];rfl
 have cy:=h.low;have:=Jp8 rb bh O.length bC l z (.int .i64 bu) (.int .i64 bl) bc bf R ba nd.op nd.r nd.tn (.slice nd.ky.1 nd.ky.2.1 nd.ky.2.2) nd.kk Y eo bi y g (Ktu hs cols.length) hs cols N W X Z bA bS bL hf (by omega) bG bW bO bP cb (by omega) H.1 bX bY bM bI bR ⟨fun e=>H.2.1.2.1 (D.trans (congrArg some e.symm)),fun j K b o E bD=>(H.2.2 j K b o E).2.1 (D.trans (congrArg some bD.symm))⟩ ⟨H.2.1.2.2,fun j K b o E=>(H.2.2 j K b o E).2.2⟩ bH ⟨by omega,by omega⟩;rw[Nd.val,hl,ca];refine this.mono fun ch bB hp=>?_;obtain⟨bz,⟨cc,cf,rfl,cv,bn,bJ,bN⟩|⟨bE,kk,r,rfl,hr,cu,bU,bZ,bQ⟩⟩:=hp
 ·have bx:=Jgr bz;obtain⟨bj,bT⟩:=Jo6 bn;refine⟨by rw[D];exact bx,.inl ⟨cc,cf.map slH,?_,bV bB bx bN,⟨bj,⟨?_,?_⟩⟩,bJ⟩⟩
  ·simp only[dnV];rw[Ku2 (by rw[Oa6,bn.len];exact Oa2 _),Oa6]
  ·exact⟨by have:=Jd h.run;omega,by rw[D];intro e;cases e;omega,bj.row.lt⟩
  intro j K b o E;have bK:=bT j K b o E;exact⟨by have:=Jd h.run;omega,by rw[D];intro e;cases e;omega,bK.2⟩
 exact⟨by rw[D];exact Jgr bz,.inr ⟨bE,kk,r,rfl,hr,bU,bZ,bQ⟩⟩
theorem Kdz {L rb s:Nat}{z bu bl:Int}{X K U E:Value}{Y:List Dn}{W:World}(h:Jd6 L rb z bu bl X (.pointer (some ⟨s,0,none⟩)) K U E Y W)(nd:Nd)(cols:List (List V))
  (bn:∀ y,Below W.heap.size W y→Calls prog 36 #[.pointer (some ⟨s,0,none⟩),.string nd.tn] y fun e w'=>Below y.heap.size y w'∧∃ g D,e=.returned (.tuple #[.slice (some ⟨g,0,none⟩) cols.length cols.length,.nilIface])∧Jar w' y.heap.size g D cols) :
  Calls prog 69 #[.pointer (some ⟨rb,0,none⟩),nd.val] W fun Z H=>Below W.heap.size W H∧∃ (g:Nat) (hs:List (Option Addr×Nat)),Z=.returned (.tuple #[dnV (some (g,hs,cols)),.nilIface])∧Jd6 L rb z bu bl X (.pointer (some ⟨s,0,none⟩)) K U E Y H∧Jfk rb E (g,hs,cols) H:=by
 have:=Jos rb s z (.int .i64 bu) (.int .i64 bl) X K U E nd.op nd.l nd.r nd.tn (.slice nd.xs.1 nd.xs.2.1 nd.xs.2.2) (.slice nd.ky.1 nd.ky.2.1 nd.ky.2.2) nd.kk W (fun y a b w'=>∃ g D,a=.slice (some ⟨g,0,none⟩) cols.length cols.length∧b=.nilIface∧Jar w' y.heap.size g D cols) h.run (fun y R=>(bn y R).mono fun e w' hp=>by
  obtain⟨bf,g,D,rfl,bh⟩:=hp;exact⟨bf,_,_,rfl,g,D,rfl,rfl,bh⟩)
 refine this.mono fun Z H hp=>?_;obtain⟨ba,y,R,a,b,rfl,g,D,rfl,rfl,O⟩:=hp;obtain⟨hC,bj⟩:=Jo6 O;have bz:=R.size;have br:=O.low;have bx:=Jd h.run;have bc:∀ k,E.ownBlock=some k→k<W.heap.size:=fun k e=>(Je h.own e).2;refine⟨ba,g,D.map slH,by simp only[dnV];rw[Ku2 (by rw[Oa6,O.len];exact Oa2 _)],h.below ba,hC,⟨by omega,fun e=>by have:=bc _ e;omega,hC.row.lt⟩,fun j bi b o e=>?_⟩;have:=bj j bi b o e;exact⟨by omega,fun e=>by have:=bc _ e;omega,this.2⟩
end
section
open Go.RowKit Go.Shelf
attribute [local go_sem] Oc0
attribute [local go_sem] Jdy
theorem Jyb {sch T:List Int}{x d:List V}{p:Pt}{es:List Pt}(K:T=es.map (tyP sch))(E:es[d.length]?=some p)(hp:Jeg sch T d.length p)(H:Jee sch x)(y:Jho T d)(h0:(Qp p x d).2=0):Jho T (d++[(Qp p x d).1]):=by
 have hl:d.length<es.length:=(Ob9.1 E).1;have R:T.getD d.length 0=tyP sch p:=by
  rw[K,Oa0,Ob1,E];rfl
 refine⟨fun k O=>?_,fun v U=>?_⟩
 ·rw[Oa8,List.length_singleton]at O;by_cases e:k<d.length
  ·rw[show (d++[(Qp p x d).1]).getD k Jf=d.getD k Jf by rw[Oa0,Oa0,Ob0 e]];exact y.1 k e
  obtain rfl:k=d.length:=by omega
  rw[R,show (d++[(Qp p x d).1]).getD d.length Jf=(Qp p x d).1 by rw[Oa0,Ob6 (Oa2 _)];simp];exact Kfb hp H y h0
 have hr:Yy [p] x d=.inl (d++[(Qp p x d).1]):=by simp only[Yy];rw[if_pos h0]
 refine Jo0 (W:=sch.length) H.2.2 [p] d _ (fun j q D=>?_) y.2 hr v U;match j,D with
 |0,D=>cases D;exact hp.ok
theorem Jmx {es:List Pt}{x:List V}{j:Nat}{p:Pt}{d:List V}(y:es[j]?=some p)(hr:Yy (es.take j) x []=.inl d):Yy (es.take (j+1)) x []=if (Qp p x d).2=0 then .inl (d++[(Qp p x d).1])else .inr (Qp p x d).2:=by
 obtain⟨D,hp⟩:=Ob9.1 y;rw[Oc4 D,hp];exact Jsv p hr
attribute [local go_sem] Oc0
end
section
open Go.RowKit Go.Shelf Go.Maps
end
section
open Go.RowKit Go.Shelf Go.Maps Tryz
attribute [local go_sem] Oc0
structure Kn7 (sch:List Int) (k:Krv):Prop where
 c:k.c<sch.length
 f:k.f≤5
 t:k.f=3→sch.getD k.c 0=1
def tyK (sch:List Int)(k:Krv):Int:=if k.f=1∨k.f=2∨k.f=3 then 1 else sch.getD k.c 0
theorem Kn1 (a:Option Addr)(n c:Nat)(w:World)(y:1≤n)(D:n≤4):Calls prog 131 #[.slice a n c] w fun e w'=>e=.returned (.bool true)∧Below w.heap.size w w':=by
 have E:(1:Int)≤(n:Int):=by omega
 have H:(n:Int)≤4:=by omega
 go_enter func131,ntmps131
 go_wp2;go_ret
 exact⟨rfl,Oa5 _ _⟩
end
section
open Go.RowKit Go.Shelf
attribute [local go_sem] Oc0
def Kbt (o:Nat):Int:=if 2≤o∧o≤5 then 1 else if 8≤o∧o≤10 then 2 else 0
theorem Jtf {sch T:List Int}{j:Nat}{t:Int}{u:V}(h:okV t u)(hn:Jg u.n)(E:1≤t∧t≤3):Jeg sch T j ⟨1,0,0,t,u⟩:=by
 have hs:u.s.size≤255:=by
  rcases Jgh h with rfl|⟨_,_,⟨_,D⟩|⟨_,_,D⟩|⟨D,H⟩⟩
  ·decide
  ·rw[D];decide
  ·rw[D];decide
  unfold okV okB okK at h;simp only[decide_eq_true_eq]at h;rcases h with⟨_,_,y⟩|⟨_,⟨_,y⟩|⟨_,_,y⟩|⟨_,_,y⟩⟩
  ·rw[Ja6 y];decide
  ·rw[Ja6 y];decide
  ·rw[Ja6 y];decide
  omega
 exact⟨⟨⟨by show (0:Int)≤1;omega,by show (1:Int)≤11;omega,fun h=>absurd h (by show ¬ (1:Int)=0;omega),fun _=>⟨hs,hn⟩,fun h=>absurd h (by show ¬ (2:Int)≤1;omega),fun h=>absurd h (by show ¬ (2:Int)≤1;omega)⟩,Kxq⟩,fun h=>absurd h (by show ¬ (2:Int)≤1;omega),fun _=>⟨E,h⟩,fun h=>absurd h (by show ¬ (2:Int)≤1;omega),fun h=>absurd h (by show ¬ (6:Int)≤1;omega),fun h=>absurd h (by show ¬ (8:Int)≤1;omega),fun h=>absurd h (by show ¬ (1:Int)=10;omega)⟩
theorem Jh7 {sch T:List Int}{j c:Nat}(h:c<sch.length):Jeg sch T j ⟨0,0,0,(c:Int),Jf⟩:=
 ⟨⟨⟨by show (0:Int)≤0;omega,by show (0:Int)≤11;omega,fun _=>⟨by show (0:Int)≤(c:Int);omega,by show (c:Int)<_;omega⟩,fun h=>absurd h (by show ¬ (0:Int)=1;omega),fun h=>absurd h (by show ¬ (2:Int)≤0;omega),fun h=>absurd h (by show ¬ (2:Int)≤0;omega)⟩,Kw5⟩,fun h=>absurd h (by show ¬ (2:Int)≤0;omega),fun h=>absurd h (by show ¬ (0:Int)=1;omega),fun h=>absurd h (by show ¬ (2:Int)≤0;omega),fun h=>absurd h (by show ¬ (6:Int)≤0;omega),fun h=>absurd h (by show ¬ (8:Int)≤0;omega),fun h=>absurd h (by show ¬ (0:Int)=10;omega)⟩
theorem Zs {sch T:List Int}{o l r:Nat}(K:Kui o)(H:2≤o)(O:o≤11)(hl:l<T.length)(hr:r<T.length)(D:Kbt o=0∨T.getD l 0=Kbt o)(hs:T.getD r 0=T.getD l 0):Jeg sch T T.length ⟨(o:Int),(l:Int),(r:Int),0,Jf⟩:=by
 have e:∀ k:Nat,((k:Int)).toNat=k:=fun k=>Int.toNat_natCast k;unfold Kbt at D;refine⟨⟨⟨by show (0:Int)≤(o:Int);omega,by show (o:Int)≤11;omega,fun h=>absurd h (by show ¬ (o:Int)=0;omega),fun h=>absurd h (by show ¬ (o:Int)=1;omega),fun _=>⟨by show (0:Int)≤(l:Int);omega,by show (l:Int)<_;omega⟩,fun _ _=>⟨by show (0:Int)≤(r:Int);omega,by show (r:Int)<_;omega⟩⟩,K⟩,fun _=>⟨by show (0:Int)≤(r:Int);omega,by show (r:Int)<_;omega⟩,fun h=>absurd h (by show ¬ (o:Int)=1;omega),fun _ h=>?_,fun h E=>?_,fun h E=>?_,fun h=>?_⟩
 ·have h:(o:Int)≤5:=h;rw[if_pos ⟨H,by omega⟩]at D;have y:T.getD l 0=1:=by omega
  exact⟨by rw[e];exact y,by rw[e,hs];exact y⟩
 ·show T.getD ((l:Int)).toNat 0=T.getD ((r:Int)).toNat 0;rw[e,e,hs]
 ·have h:8≤(o:Int):=h;have E:(o:Int)≤9:=E;rw[if_neg (by omega),if_pos (by omega)]at D;have y:T.getD l 0=2:=by omega
  exact⟨by rw[e];exact y,by rw[e,hs];exact y⟩
 have h:(o:Int)=10:=h;rw[if_neg (by omega),if_pos (by omega)]at D;have y:T.getD l 0=2:=by omega
 show T.getD ((l:Int)).toNat 0=2;rw[e];exact y
attribute [local go_sem] Oc0
def ptC (p:Pt):List Value:=[.int .i64 p.op,.int .i64 p.l,.int .i64 p.r,.int .i64 p.c,.int .i64 p.v.k,.int .i64 p.v.n,.string p.v.s]
theorem Jeg.more {sch T y:List Int}{j:Nat}{p:Pt}(h:Jeg sch T j p)(E:∀ k,k<j→y.getD k 0=T.getD k 0):Jeg sch y j p:=by
 have hl:2≤p.op→y.getD p.l.toNat 0=T.getD p.l.toNat 0:=fun D=>E _ (by have:=h.ok.pt.left D;omega);have hr:2≤p.op→y.getD p.r.toNat 0=T.getD p.r.toNat 0:=fun D=>E _ (by have:=h.r D;omega);exact⟨h.ok,h.r,h.con,fun a b=>by rw[hl a,hr a];exact h.num a b,fun a b=>by rw[hl (by omega),hr (by omega)];exact h.same a b,fun a b=>by rw[hl (by omega),hr (by omega)];exact h.tru a b,fun a=>by rw[hl (by omega)];exact h.nt a⟩
theorem Jmm (T:List Int)(t:Int)(k:Nat)(y:k<T.length):(T++[t]).getD k 0=T.getD k 0:=by
 rw[Oa0,Oa0,Ob0 y]
theorem Uj.snoc {sch:List Int}{es:List Pt}{p:Pt}(h:Uj sch es)(hp:Jeg sch (es.map (tyP sch)) es.length p):Uj sch (es++[p]):=fun j q y=>by
 rw[Ob8,List.map_singleton];rw[Om7]at y;split at y
 ·rename_i D
  exact(h j q y).more fun k K=>Jmm _ _ _ (by rw[Oa6];omega)
 rename_i D
 have E:j-es.length=0:=by
  have:=(Ob9.1 y).1;simp at this;omega
 rw[E]at y;cases y
 have H:j=es.length:=by omega
 subst H;exact hp.more fun k K=>Jmm _ _ _ (by rw[Oa6];omega)
attribute [local go_sem] Oc0
end
section
open Go.RowKit Go.Shelf Tryz
attribute [local go_sem] Oc0
theorem Juj {lo:Nat}{w W:World}{g:Nat}(h:Below lo w W)(y:lo≤g)(D E H K:Value):Below lo w ((((W.setCell ⟨g,0,none⟩ D).setCell ⟨g,1,none⟩ E).setCell ⟨g,2,none⟩ H).setCell ⟨g,3,none⟩ K):=
 (((h.setCell (p:=⟨g,0,none⟩) y _).setCell (p:=⟨g,1,none⟩) y _).setCell (p:=⟨g,2,none⟩) y _).setCell (p:=⟨g,3,none⟩) y _
theorem Jg1 {W:World}{g:Nat}(y D E H:Value)(b:Nat)(o:Nat)(h:b≠g):((((W.setCell ⟨g,0,none⟩ y).setCell ⟨g,1,none⟩ D).setCell ⟨g,2,none⟩ E).setCell ⟨g,3,none⟩ H).cell? ⟨b,o,none⟩=W.cell? ⟨b,o,none⟩:=by
 simp only[World.cell?];rw[Oa4 _ _ _ _ (show b≠g from h),Oa4 _ _ _ _ (show b≠g from h),Oa4 _ _ _ _ (show b≠g from h),Oa4 _ _ _ _ (show b≠g from h)]
theorem Jqk (a b c d:Int)(w:World)(bD:Jg a)(bE:Jg b)(Z:Jg c):Calls prog 12 #[.agg #[.int .i64 a,.int .i64 b,.int .i64 c,.int .i64 d]] w fun e w'=>(∃ z:Nat,∃ bu bl:Int,e=.returned (.agg #[.int .i64 z,.int .i64 bu,.int .i64 bl,.int .i64 d])∧1≤z∧z≤1000∧2≤bu∧bu≤1000∧0≤bl∧bl≤4096)∧Below w.heap.size w w':=by
 have R:Hid (∀ (c m:Int) (W:World),Jg c→0<m→m≤5000→Calls prog 8 #[.int .i64 c,.int .i64 m] W fun e w'=>(∃ r:Nat,e=.returned (.int .i64 r)∧(r:Int)<m)∧w'=W):=fun c m W Z bG bH=>by
  obtain⟨n,rfl⟩:∃ n:Nat,m=(n:Int):=⟨m.toNat,by omega⟩;refine(Jfw c n W Z (by omega) (by omega)).mono ?_;rintro e w' ⟨⟨r,rfl,hr⟩,rfl⟩;exact⟨⟨r,rfl,by omega⟩,rfl⟩
 go_enter func12,ntmps12
 go_upto_region 1 with fail
 have b0:((w.alloc (.cells #[.int .i64 a,.int .i64 b,.int .i64 c,.int .i64 d] 27)).alloc (.cells #[.int .i64 0,.int .i64 0,.int .i64 0,.int .i64 0] 27)).heap[w.heap.size]?=some (.cells #[.int .i64 a,.int .i64 b,.int .i64 c,.int .i64 d] 27 (0,0)):=(Oa9 _ _ _ (by simp)).trans (heap_alloc_new w _);have b1:((w.alloc (.cells #[.int .i64 a,.int .i64 b,.int .i64 c,.int .i64 d] 27)).alloc (.cells #[.int .i64 0,.int .i64 0,.int .i64 0,.int .i64 0] 27)).heap[w.heap.size+1]?=some (.cells #[.int .i64 0,.int .i64 0,.int .i64 0,.int .i64 0] 27 (0,0)):=by
  have:=heap_alloc_new (w.alloc (.cells #[.int .i64 a,.int .i64 b,.int .i64 c,.int .i64 d] 27)) (.cells #[.int .i64 0,.int .i64 0,.int .i64 0,.int .i64 0] 27);rw[Oa7]at this;exact this
 have U:Below w.heap.size w ((w.alloc (.cells #[.int .i64 a,.int .i64 b,.int .i64 c,.int .i64 d] 27)).alloc (.cells #[.int .i64 0,.int .i64 0,.int .i64 0,.int .i64 0] 27)):=Jc (Jc (Oa5 _ _) _) _;generalize (w.alloc (.cells #[.int .i64 a,.int .i64 b,.int .i64 c,.int .i64 d] 27)).alloc (.cells #[.int .i64 0,.int .i64 0,.int .i64 0,.int .i64 0] 27)=y at b0 b1 U ⊢;have ba:y.cell? ⟨w.heap.size,0,none⟩=some (.int .i64 a):=by simp[World.cell?,b0]
 have bc:y.cell? ⟨w.heap.size,1,none⟩=some (.int .i64 b):=by simp[World.cell?,b0]
 have bf:y.cell? ⟨w.heap.size,2,none⟩=some (.int .i64 c):=by simp[World.cell?,b0]
 have bh:y.cell? ⟨w.heap.size,3,none⟩=some (.int .i64 d):=by simp[World.cell?,b0]
 have bj:y.cell? ⟨w.heap.size+1,0,none⟩=some (.int .i64 0):=by simp[World.cell?,b1]
 have bn:y.cell? ⟨w.heap.size+1,1,none⟩=some (.int .i64 0):=by simp[World.cell?,b1]
 have br:y.cell? ⟨w.heap.size+1,2,none⟩=some (.int .i64 0):=by simp[World.cell?,b1]
 have bx:y.cell? ⟨w.heap.size+1,3,none⟩=some (.int .i64 0):=by simp[World.cell?,b1]
 have bz:y.frozen? ⟨w.heap.size+1,0,none⟩=false:=by simp[World.frozen?,b1]
 have bA:y.frozen? ⟨w.heap.size+1,1,none⟩=false:=by simp[World.frozen?,b1]
 have bB:y.frozen? ⟨w.heap.size+1,2,none⟩=false:=by simp[World.frozen?,b1]
 have bC:y.frozen? ⟨w.heap.size+1,3,none⟩=false:=by simp[World.frozen?,b1]
 have bi:Hid (Below w.heap.size w y):=U;have K:Hid (y.cell? ⟨w.heap.size,0,none⟩=some (.int .i64 a)∧y.cell? ⟨w.heap.size,1,none⟩=some (.int .i64 b)∧y.cell? ⟨w.heap.size,2,none⟩=some (.int .i64 c)∧y.cell? ⟨w.heap.size,3,none⟩=some (.int .i64 d)):=⟨ba,bc,bf,bh⟩;clear b0 b1 U;refine wp_region_held_drew (S:=fun O=>O.cell? ⟨w.heap.size,0,none⟩=some (.int .i64 a)∧O.cell? ⟨w.heap.size,1,none⟩=some (.int .i64 b)∧O.cell? ⟨w.heap.size,2,none⟩=some (.int .i64 c)∧O.cell? ⟨w.heap.size,3,none⟩=some (.int .i64 d)) (by kernel_rfl) ⟨Jh ba,Jh bc,Jh bf,Jh bh⟩ (fun D=>?_);refine tkj 0 rfl D ?_;refine tkj 1 rfl D ?_;refine tkj 4 rfl D ?_;refine tkj 5 rfl D ?_;refine tkj 8 rfl D ?_;refine tkj 9 rfl D ?_;refine tkj 11 rfl D ?_;refine tkj 12 rfl D ?_;refine tkn ?_;refine tkr 2 rfl fun H E=>?_;go_simp;refine(R.out _ 1000 y.drew (by assumption) (by omega) (by omega)).mono ?_;rintro e Y ⟨⟨x,rfl,bJ⟩,rfl⟩;go_simp;refine E.out _ _ D (fun D=>?_);clear E H;refine tkj 3 rfl D ?_;refine tkn ?_;rw[show IntKind.i64.wrap (1+(x:Int))=((x+1:Nat):Int) by rw[Od4];omega];refine tkr 6 rfl fun H E=>?_;go_simp;refine(R.out _ 999 y.drew (by assumption) (by omega) (by omega)).mono ?_;rintro e Y ⟨⟨X,rfl,bK⟩,rfl⟩;go_simp;refine E.out _ _ D (fun D=>?_);clear E H;refine tkj 7 rfl D ?_;refine tkn ?_;rw[show IntKind.i64.wrap (2+(X:Int))=((X+2:Nat):Int) by rw[Od4];omega];refine tkr 10 rfl fun H E=>?_;go_simp;refine(R.out _ 4097 y.drew (by assumption) (by omega) (by omega)).mono ?_;rintro e Y ⟨⟨u,rfl,bI⟩,rfl⟩;go_simp;refine E.out _ _ D (fun D=>?_);clear E H;refine tkj 13 rfl D ?_;refine tkn ?_;refine tkr 14 rfl fun H E=>?_;go_simp;refine E.out _ _ ?_ (fun D=>?_)
 ·exact⟨Jh ((Jg1 _ _ _ _ w.heap.size 0 (by omega)).trans K.out.1),Jh ((Jg1 _ _ _ _ w.heap.size 1 (by omega)).trans K.out.2.1),Jh ((Jg1 _ _ _ _ w.heap.size 2 (by omega)).trans K.out.2.2.1),Jh ((Jg1 _ _ _ _ w.heap.size 3 (by omega)).trans K.out.2.2.2)⟩
 clear E H;refine wpAnyH_done (by kernel_rfl) ?_ _;go_wp2;exact bodyPost_ret (v:=.agg #[.int .i64 ((x+1:Nat):Int),.int .i64 ((X+2:Nat):Int),.int .i64 (u:Int),.int .i64 d]) (by simp[results,results12,go_sem,bj,bn,br,bx]) rfl ⟨⟨x+1,_,_,rfl,by omega,by omega,by omega,by omega,by omega,by omega⟩,Jj (Juj bi.out (by omega) _ _ _ _)⟩
attribute [local go_sem] Oc0
theorem Jor (n:ByteArray)(w:World):Calls prog 11 #[.string n] w fun e w'=>e=.returned (Nd.val ⟨0,0,0,n,(none,0,0),(none,0,0),0⟩)∧Below w.heap.size w w':=by
 go_enter func11,ntmps11
 go_wp2;exact bodyPost_ret (v:=Nd.val ⟨0,0,0,n,(none,0,0),(none,0,0),0⟩) (by simp[results,results11,go_sem]) rfl ⟨rfl,Jc (Oa5 _ _) _⟩
theorem Kbg (w:World):Calls prog 16 #[] w fun e w'=>e=.returned (.agg #[.int .i64 1000,.int .i64 1000,.int .i64 0,.int .i64 0])∧Below w.heap.size w w':=by
 go_enter func16,ntmps16
 go_wp2;exact bodyPost_ret (v:=.agg #[.int .i64 1000,.int .i64 1000,.int .i64 0,.int .i64 0]) (by simp[results,results16,go_sem]) rfl ⟨rfl,Jc (Oa5 _ _) _⟩
end
end Go.Proofs.YtpchafocmlhmbaaGreatDoor
