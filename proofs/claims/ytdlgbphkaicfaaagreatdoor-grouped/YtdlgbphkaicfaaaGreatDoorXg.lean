/- An expression worked on a batch. -/
import Derived.Test.YtdlgbphkaicfaaaGreatDoorXf
import Derived.Deep.AppendLies
set_option maxHeartbeats 2000000
set_option maxRecDepth 100000
namespace Go.Proofs.YtdlgbphkaicfaaaGreatDoor
open Go.RowKit Go.Shelf Tryz
attribute [local go_sem] Oc0
abbrev slV (q:Option Addr×Nat×List V):Value:=.slice q.1 q.2.2.length q.2.1
def Jp6 (w:World)(g o b:Nat)(p:Pt):Prop:=
 w.cell? ⟨g,o,none⟩=some (.int .i64 p.op)∧w.cell? ⟨g,o+1,none⟩=some (.int .i64 p.l)∧w.cell? ⟨g,o+2,none⟩=some (.int .i64 p.r)∧w.cell? ⟨g,o+3,none⟩=some (.int .i64 p.c)∧w.cell? ⟨g,o+4,none⟩=some (.int .i64 p.v.k)∧w.cell? ⟨g,o+5,none⟩=some (.int .i64 p.v.n)∧w.cell? ⟨g,o+6,none⟩=some (.string p.v.s)∧w.cell? ⟨g,o+7,none⟩=some (.func (.func (Zv p.op)) #[.pointer (some ⟨b,0,none⟩)] #[])
theorem Jp6.keep {w w':World}{g o b:Nat}{p:Pt}(h:Jp6 w g o b p)(A:Ju (·=b) w w')(y:g≠b):Jp6 w' g o b p:=
 ⟨A.cell h.1 y,A.cell h.2.1 y,A.cell h.2.2.1 y,A.cell h.2.2.2.1 y,A.cell h.2.2.2.2.1 y,A.cell h.2.2.2.2.2.1 y,A.cell h.2.2.2.2.2.2.1 y,A.cell h.2.2.2.2.2.2.2 y⟩
structure Jco (w:World) (g b:Nat) (es:List Pt):Prop where
 ne:g≠b
 step:∀ j p,es[j]?=some p→Jp6 w g (j*8) b p
theorem Jco.keep {w w':World}{g b:Nat}{es:List Pt}(h:Jco w g b es)(A:Ju (·=b) w w'):Jco w' g b es:=⟨h.ne,fun j p y=>(h.step j p y).keep A h.ne⟩
theorem Js0 (op:Int)(args:Array Value)(W:World):(callFunc (Zv op) args).run prog W=.ok (.enter (Zv op) args) W:=by
 unfold Zv
 repeat (split;(first|kernel_rfl|skip))
 kernel_rfl
def Jrv (M R:Addr)(U w':World)(cols:List (List V))(K:List V→Nat→Prop)(first H y:Nat)(O E:Value):Prop:=
 (y=H∧E=O)∨(y<H∧∃ D A kk:Nat,A≠0∧K (Ji cols y) A∧E=Qv D∧U.heap.size≤D∧Ja8 w' D ((first+y:Nat):Int) kk (Jdb M R A))
theorem Ja8.of_block {w w':World}{y:Nat}{row A:Int}{D:Value}(h:Ja8 w y row A D)(e:w'.heap[y]?=w.heap[y]?):Ja8 w' y row A D:=e.trans h
theorem Jrv.of_blocks {E X:Addr}{A w w':World}{cols:List (List V)}{D:List V→Nat→Prop}{first U R:Nat}{K H:Value}(h:Jrv E X A w cols D first U R K H)(bc:∀ y row bf bh,A.heap.size≤y→Ja8 w y row bf bh→w'.heap[y]?=w.heap[y]?):Jrv E X A w' cols D first U R K H:=by
 rcases h with h|⟨h1,y,Z,kk,h2,ba,bb,M,O⟩
 ·exact .inl h
 exact .inr ⟨h1,y,Z,kk,h2,ba,bb,M,O.of_block (bc y _ _ _ M O)⟩
structure ExS (B0 M:Nat) (w:World) (b:Nat) (ex ba:Value) (first n0 n':Nat) (er0 er' sv:Value) (qs:List (Option Addr×Nat×List V)) (cols:List (List V)) (es:List Pt) (j:Nat) (dv ov:Addr) (wr:World):Prop where
 own:Jo wr w.heap.size 54 sv (qs.map slV)
 wk:Uz wr b ex ba first n' sv er'
 keep:Ju (·=b) w wr
 len:qs.length=j
 vals:∀ q∈qs,Jv wr q.1 q.2.2∧n'≤q.2.2.length∧q.2.2.length≤M
 off:∀ q∈qs,∀ g o,q.1=some ⟨g,o,none⟩→g≠b∧g<wr.heap.size∧sv.ownBlock≠some g∧(g<B0∨w.heap.size≤g)
 le:n'≤n0
 run:∀ i,i<n'→Yy (es.take j) (Ji cols i) []=.inl (Ji (qs.map (·.2.2)) i)
 err:Jrv dv ov w wr cols (fun x c=>Yy es x []=.inr c) first n0 n' er0 er'
theorem Jpw {K M:Addr}{b:Nat}{ex H:Value}{first n:Nat}{O D:Value}{k:Nat}{w:World}{A:Nat→Nat}{m:Nat}{w':World}(h:Je5 K M b ex H first n O D k w A m w') :
  ∃ E,Uz w' b ex H first m O E∧((m=n∧E=D)∨(m<n∧A m≠0∧∃ y,E=Qv y∧w.heap.size≤y∧Ja8 w' y ((first+m:Nat):Int) k (Jdb K M (A m)))):=by
 obtain⟨_,_,_,h|⟨h1,h2,y,R,U,X⟩⟩:=h
 ·obtain⟨rfl,h⟩:=h
  exact⟨D,h,.inl ⟨rfl,rfl⟩⟩
 exact⟨_,U,.inr ⟨h1,h2,y,rfl,R,X⟩⟩
theorem Jwj (ps:List (List V))(vs:List V)(i:Nat):Ji (ps++[vs]) i=Ji ps i++[vs.getD i Jf]:=by simp[Ji]
theorem Jmb {w:World}{B:Nat}{sv:Value}{xs:List Value}{A:Nat}{row E:Int}{H:Value}(D:Jo w B 54 sv xs)(y:Ja8 w A row E H):sv.ownBlock≠some A:=fun e=>by
 obtain⟨_,⟨h1,_⟩|⟨g,cap,K,h1,_,h2,_⟩⟩:=D
 ·rw[h1]at e;cases e
 rw[h1]at e
 simp only[Value.ownBlock,Oc9]at e
 subst e
 unfold Ja8 at y
 rw[h2]at y
 simp at y
theorem Joe {bf bl:Nat}{w:World}{b:Nat}{ex bh:Value}{first bP bD:Nat}{bH bG sv:Value}{y:List (Option Addr×Nat×List V)}{cols:List (List V)}{es:List Pt}{j:Nat}{br bE:Addr}{wr:World}(h:ExS bf bl w b ex bh first bP bD bH bG sv y cols es j br bE wr)(cc:b<w.heap.size)(cb:bf≤w.heap.size){p:Pt}(bM:es[j]?=some p){bn E:World}(ba:Below wr.heap.size wr bn)
  {a:Option Addr} {m c kk:Nat} {vs:List V} (bB:∀ g o,a=some ⟨g,o,none⟩→g≠b∧g<E.heap.size∧(g<bf∨bn.heap.size≤g)) (bU:bD≤vs.length∧vs.length≤bl) (bX:Jv E a vs) (bY:∀ i,i<m→vs.getD i Jf=(Qp p (Ji cols i) (Ji (y.map (·.2.2)) i)).1) (bN:Je5 br bE b ex bh first bD sv bG kk bn (fun i=>(Qp p (Ji cols i) (Ji (y.map (·.2.2)) i)).2) m E)
  {H:World} {A K:Nat} (O:(E.alloc (.cells #[slV (a,c,vs)] 54)).grownBy H sv.ownBlock) (bV:H.ownsRow w.heap.size 54 1 (.slice (some ⟨A,0,none⟩) (y.length+1) K) (y.length+1) (y.map slV++[slV (a,c,vs)])) (bu:sv.ownBlock=some A∨A=E.heap.size+1) :
  ∃ bj,ExS bf bl w b ex bh first bP m bH bj (.slice (some ⟨A,0,none⟩) (y.length+1) K) (y++[(a,c,vs)]) cols es (j+1) br bE (H.setCell ⟨b,4,none⟩ (.slice (some ⟨A,0,none⟩) (y.length+1) K)):=by
 obtain⟨bj,bZ,bR⟩:=Jpw bN
 obtain⟨bb,bT,ca,_⟩:=bN
 have cx:=h.keep.size
 have cu:=ba.size
 have cn:=bb.size
 have cv:=O.size
 have cr:(E.alloc (.cells #[slV (a,c,vs)] 54)).heap.size=E.heap.size+1:=by simp
 have bc:∀ g,sv.ownBlock=some g→w.heap.size≤g∧g<wr.heap.size:=fun g e=>Je h.own e
 have ch:w.heap.size≤A:=by
  rcases bu with e|e
  ·exact(bc A e).1
  omega
 have bx:∀ k,k<wr.heap.size→k≠b→sv.ownBlock≠some k→(H.setCell ⟨b,4,none⟩ (.slice (some ⟨A,0,none⟩) (y.length+1) K)).heap[k]?=wr.heap[k]?:=fun k bk R bA=>by
  rw[Oa4 _ _ _ _ R,O.block k (by omega) (fun e=>bA e.symm),Oa9 _ _ k (by omega),bb.block k (by omega) R,ba.block k bk]
 have bK:∀ k,k<E.heap.size→k≠b→sv.ownBlock≠some k→(H.setCell ⟨b,4,none⟩ (.slice (some ⟨A,0,none⟩) (y.length+1) K)).heap[k]?=E.heap[k]?:=fun k bk R bA=>by
  rw[Oa4 _ _ _ _ R,O.block k (by omega) (fun e=>bA e.symm),Oa9 _ _ k (by omega)]
 have ci:(H.setCell ⟨b,4,none⟩ (.slice (some ⟨A,0,none⟩) (y.length+1) K)).heap.size=H.heap.size:=by simp[World.setCell]
 have bL:∀ g o,a=some ⟨g,o,none⟩→sv.ownBlock≠some g:=fun g o e M=>by
  have h1:=bc g M
  have h2:=bB g o e
  omega
 refine⟨bj,?_,?_,?_,?_,?_,?_,Ob2 bT h.le,?_,?_⟩
 ·unfold Jo
  rw[Ob8,Oa8,Oa6]
  refine Jl bV fun g e=>?_
  simp only[Value.ownBlock,Oc9]at e
  subst e
  exact Oa4 _ _ _ _ (by show A≠b;omega)
 ·have bQ:Uz H b ex bh first m sv bj:=by
   show H.heap[b]?=_
   rw[O.block b (by omega) (fun e=>by have:=bc b e.symm;omega),Oa9 _ _ b (by omega)]
   exact bZ
  have:=Jk bQ 4 (.slice (some ⟨A,0,none⟩) (y.length+1) K)
  simp only[Oa1,List.set_cons_zero,List.set_cons_succ]at this
  exact this
 ·have bi:=h.keep
  refine⟨?_,?_,?_,by omega,fun k bk R=>?_⟩
  ·exact O.os.trans (bb.os.trans (ba.os.trans bi.os))
  ·exact O.tape.trans (bb.tape.trans (ba.tape.trans bi.tape))
  ·exact O.output.trans (bb.output.trans (ba.output.trans bi.output))
  rw[bx k (by omega) R (fun e=>by have:=bc k e;omega)]
  exact bi.block k bk R
 ·rw[Oa8,List.length_singleton,h.len]
 ·intro q D
  rw[Od2,Oc6]at D
  rcases D with D|rfl
  ·obtain⟨h1,h2,U⟩:=h.vals q D
   exact⟨h1.of_block (by omega) fun g o e bz=>bx g bz (h.off q D g o e).1 (h.off q D g o e).2.2.1,by omega,U⟩
  exact⟨bX.of_block (by omega) fun g o e bz=>bK g bz (bB g o e).1 (bL g o e),by show m≤vs.length;omega,bU.2⟩
 ·intro q D g o e
  rw[Od2,Oc6]at D
  rcases D with D|rfl
  ·obtain⟨h1,h2,U,bI⟩:=h.off q D g o e
   refine⟨h1,by omega,fun M=>?_,bI⟩
   simp only[Value.ownBlock,Oc9]at M
   rcases bu with X|X
   ·exact U (by rw[X,M])
   omega
  obtain⟨h1,h2,U⟩:=bB g o e
  refine⟨h1,by omega,fun M=>?_,by omega⟩
  simp only[Value.ownBlock,Oc9]at M
  rcases bu with X|X
  ·exact bL g o e (by rw[X,M])
  omega
 ·intro i hi
  have bC:es.take (j+1)=es.take j++[p]:=by
   rw[Oi7,bM]
   rfl
  rw[bC,Jsv p (h.run i (by omega)),if_pos (ca i hi),Ob8,List.map_singleton,Jwj,bY i hi]
 rcases bR with⟨rfl,rfl⟩|⟨h1,h2,Z,U,bI,bJ⟩
 ·refine h.err.of_blocks fun Z row cj cl cf bO=>bx Z (Jd bO) (by omega) (Jmb h.own bO)
 refine .inr ⟨by have:=h.le;omega,Z,_,kk,h2,?_,U,by omega,bJ.of_block (bK Z (Jd bJ) (by omega) ?_)⟩
 ·have bC:es=es.take j++(p::es.drop (j+1)):=by
   obtain⟨bS,bW⟩:=Ob9.1 bM
   rw[←bW,←Oi1 bS,Ok3]
  show Yy es (Ji cols m) []=_
  rw[bC,Jdz,h.run m h1]
  simp only[Yy]
  rw[if_neg h2]
 intro e
 have:=bc Z e
 omega
theorem Jcs {w:World}{B b:Nat}{sv:Value}{A:List (Option Addr×Nat×List V)}(K:Jo w B 54 sv (A.map slV))(bf:b<B)(Z:A≠[])(bc:∀ q∈A,Jv w q.1 q.2.2)(ba:∀ q∈A,∀ g o,q.1=some ⟨g,o,none⟩→g≠b) :
  ∃ M cp,sv=.slice (some ⟨M,0,none⟩) (A.map (·.2.2)).length cp∧Jha w b M (A.map fun q=>(q.1,q.2.1)) (A.map (·.2.2)):=by
 obtain⟨a,cap,bb,H⟩:=Ji8 K
 have X:0<A.length:=Oi9.2 Z
 obtain⟨g,R,U,_⟩:=H 0 (slV A[0]) (by rw[Ob1,Oa3 X];rfl)
 subst R
 have D:∀ j (y:j<A.length),((A.map (·.2.2)).getD j [])=A[j].2.2∧Yo (A.map fun q=>(q.1,q.2.1)) j=(A[j].1,A[j].2.1):=fun j y=>by
  constructor
  ·rw[Oa0,Ob1,Oa3 y];rfl
  unfold Yo;rw[Oa0,Ob1,Oa3 y];rfl
 refine⟨g,cap,by rw[bb,Oa6,Oa6],?_,fun j y=>?_,fun j y=>?_,fun j y O o e=>?_⟩
 ·have:=Je K U
  omega
 ·rw[Oa6]at y
  rw[(D j y).1,(D j y).2]
  obtain⟨g2,E,_,h2,_⟩:=H j (slV A[j]) (by rw[Ob1,Oa3 y];rfl)
  simp only[Oc9,Oh2,and_true]at E
  rw[E]
  exact h2
 ·rw[Oa6]at y
  rw[(D j y).1,(D j y).2]
  exact bc _ (Ob3 y)
 rw[Oa6]at y
 rw[(D j y).2]at e
 exact ba _ (Ob3 y) O o e
def Kl (es:List Pt)(x:List V):V⊕Nat:=match Yy es x []with|.inl d=>.inl (d.getLastD Jf)|.inr c=>.inr c
theorem Ke8 {es:List Pt}{x d:List V}(h:Yy es x []=.inl d):Kl es x=.inl (d.getLastD Jf):=by unfold Kl;rw[h]
theorem Keu {es:List Pt}{x:List V}{c:Nat}(h:Yy es x []=.inr c):Kl es x=.inr c:=by unfold Kl;rw[h]
def Jwi (D E:Nat)(K O:Addr)(b:Nat)(ex H:Value)(first n:Nat)(M:Value)(cols:List (List V))(es:List Pt)(w:World):Ending→World→Prop:=fun e w'=>
 ∃ (a:Option Addr) (c y:Nat) (vs:List V) (R A:Value),e=.returned (.slice a vs.length c)∧(∀ g o,a=some ⟨g,o,none⟩→g≠b∧g<w'.heap.size∧(g<D∨w.heap.size≤g))∧Jv w' a vs∧y≤vs.length∧vs.length≤E∧y≤n∧(∀ i,i<y→Kl es (Ji cols i)=.inl (vs.getD i Jf))∧Ju (·=b) w w'∧Uz w' b ex H first y R A∧Jrv K O w w' cols (fun x c=>Yy es x []=.inr c) first n y M A
theorem Jm2 {w w':World}{B b:Nat}{sv:Value}{xs:List Value}(h:Jo w B 54 sv xs)(A:b<B)(y:Ju (·=b) w w'):Jo w' B 54 sv xs:=Jl h fun g e=>y.block g (Je h e).2 (by have:=(Je h e).1;show g≠b;omega)
theorem Jkm (bh bc b:Nat)(ex:Value)(first n:Nat)(bb cap:Nat)(hs:List (Option Addr×Nat))(cols:List (List V))(dg bu:Value)(cB dJ:Nat)(es:List Pt)(bi bj:Addr)(w:World)
  (hW:Uz w b ex (.slice (some ⟨bb,0,none⟩) cols.length cap) first n dg bu) (cG:Jha w b bb hs cols) (cP:∀ j,j<cols.length→n≤(cols.getD j []).length) (cO:∀ j,j<cols.length→∀ g o,(Yo hs j).1=some ⟨g,o,none⟩→g<bh) (cN:∀ i,i<n→∀ v∈Ji cols i,Jg v.n) (cM:∀ j,j<cols.length→(cols.getD j []).length≤bc) (cV:n≤bc)
  (cK:Jco w cB b es) (cX:∀ j p,es[j]?=some p→Jr0 cols.length j p) (cW:es≠[]) (dv:es.length≤1000) (hn:n≤100000) (hf:first+n≤10000000) (cH:Jdo w bi bj) (cl:bh≤w.heap.size) (cI:b≠10∧b≠11) :
  Calls prog 140 #[.pointer (some ⟨b,0,none⟩),.slice (some ⟨cB,0,none⟩) es.length dJ] w (Jwi bh bc bi bj b ex (.slice (some ⟨bb,0,none⟩) cols.length cap) first n bu cols es w):=by
 obtain⟨c0,c1,c2,c3,c4,c5⟩:=hW.cells
 have ds:=hW.thaw 4
 have bJ:=Jd hW
 have di:Hid (Uz w b ex (.slice (some ⟨bb,0,none⟩) cols.length cap) first n dg bu):=hW
 have bU:Hid (Jha w b bb hs cols∧(∀ j,j<cols.length→n≤(cols.getD j []).length)∧(∀ j,j<cols.length→∀ g o,(Yo hs j).1=some ⟨g,o,none⟩→g<bh)∧(∀ i,i<n→∀ v∈Ji cols i,Jg v.n)):=⟨cG,cP,cO,cN⟩
 have cc:Hid (Jco w cB b es∧(∀ j p,es[j]?=some p→Jr0 cols.length j p)):=⟨cK,cX⟩
 have bV:Hid (Jdo w bi bj∧b≠10∧b≠11):=⟨cH,cI⟩
 have cC:Hid (n≤100000∧first+n≤10000000):=⟨hn,hf⟩
 have cE:Hid ((∀ j,j<cols.length→(cols.getD j []).length≤bc)∧n≤bc):=⟨cM,cV⟩
 have dw:0<es.length:=Oi9.2 cW
 clear hW cG cP cO cN cM cV cK cX cH cI hn hf cW
 go_enter func140,ntmps140
 go_wp2
 go_loopw [12] (fun i wr=>∃ (j bn:Nat) (bC sv:Value) (A:List (Option Addr×Nat×List V)),j≤es.length∧i=.int .i64 (j:Int)∧Hid (ExS bh bc w b ex (.slice (some ⟨bb,0,none⟩) cols.length cap) first n bn bu bC sv A cols es j bi bj wr)) (fun i _=>es.length-(intOf i).toNat)
 case atStart=>
  refine⟨0,n,bu,.slice none 0 0,[],Ob7 _,rfl,?_,?_,?_,rfl,fun q O=>by simp at O,fun q O=>by simp at O,Oa2 _,fun i _=>rfl,.inl ⟨rfl,rfl⟩⟩
  ·exact Jo.nil _ _ _
  ·have:=Jk di.out 4 (.slice none 0 0)
   simp only[Oa1,List.set_cons_zero,List.set_cons_succ]at this
   exact this
  exact Ju.set (F:=fun x=>x=b) (Ju.refl _ w) rfl 4 _
 case round=>
  obtain⟨j,bn,bC,sv,A,dy,rfl,D⟩:=hrel
  obtain⟨dk,dm,dp,dq,cf,dr⟩:=D.out.wk.cells
  have dW:=D.out.keep.size
  by_cases cT:j<es.length
  ·obtain⟨p,bZ⟩:∃ p,es[j]?=some p:=⟨_,Oa3 cT⟩
   obtain⟨dK,dL,dM,dN,dO,dP,dQ,dh⟩:=(cc.out.1.keep D.out.keep).step j p bZ
   have dt:=Js0 p.op
   obtain⟨f,hf⟩:∃ f,f=Zv p.op:=⟨_,rfl⟩
   rw[←hf]at dh dt
   have cF:Hid (es[j]?=some p):=bZ
   have j1:(0:Int)≤(j:Int):=by omega
   have j2:(j:Int)<(es.length:Int):=by omega
   have br:Below wr.heap.size wr ((wr.alloc (.cells #[.int .i64 p.op,.int .i64 p.l,.int .i64 p.r,.int .i64 p.c,.int .i64 p.v.k,.int .i64 p.v.n,.string p.v.s,.func (.func f) #[.pointer (some ⟨b,0,none⟩)] #[]] 270)).drew):=Jj (Jc (Oa5 _ _) _)
   have cx:Calls prog (Zv p.op) #[.pointer (some ⟨b,0,none⟩),p.val] (wr.alloc (.cells #[.int .i64 p.op,.int .i64 p.l,.int .i64 p.r,.int .i64 p.c,.int .i64 p.v.k,.int .i64 p.v.n,.string p.v.s,.func (.func f) #[.pointer (some ⟨b,0,none⟩)] #[]] 270)).drew (Jbi bh bc bi bj b ex (.slice (some ⟨bb,0,none⟩) cols.length cap) first bn sv bC (A.map (·.2.2)).length (wr.alloc (.cells #[.int .i64 p.op,.int .i64 p.l,.int .i64 p.r,.int .i64 p.c,.int .i64 p.v.k,.int .i64 p.v.n,.string p.v.s,.func (.func f) #[.pointer (some ⟨b,0,none⟩)] #[]] 270)).drew fun i=>Qp p (Ji cols i) (Ji (A.map (·.2.2)) i)):=by
    have bY:Ju (·=b) w (wr.alloc (.cells #[.int .i64 p.op,.int .i64 p.l,.int .i64 p.r,.int .i64 p.c,.int .i64 p.v.k,.int .i64 p.v.n,.string p.v.s,.func (.func f) #[.pointer (some ⟨b,0,none⟩)] #[]] 270)).drew:=D.out.keep.trans (Ju.of_below br)
    have dC:∀ i,i<bn→∀ v∈Ji (A.map (·.2.2)) i,Jg v.n:=fun i hi=>Jo0 (W:=cols.length) (bU.out.2.2.2 i (by have:=D.out.le;omega)) (es.take j) [] _ (fun j2 q O=>by
     rw[Oe7]at O
     split at O
     ·have:=cc.out.2 j2 q O
      simpa using this
     cases O) (fun v dE=>by simp at dE) (D.out.run i hi)
    have dx:∀ j2,j2<(A.map (·.2.2)).length→∃ q∈A,(A.map (·.2.2)).getD j2 []=q.2.2:=fun j2 cu=>by
     rw[Oa6]at cu
     exact⟨_,Ob3 cu,by rw[Oa0,Ob1,Oa3 cu];rfl⟩
    have dB:=cc.out.2 j p bZ
    have bN:(A.map (·.2.2)).length=j:=by rw[Oa6,D.out.len]
    refine Kcm bh bc b ex first bn bb cap hs cols sv bC (A.map fun q=>(q.1,q.2.1)) (A.map (·.2.2)) p bi bj _ (D.out.wk.below br) (bU.out.1.keep bY) (fun j2 h2=>by have:=bU.out.2.1 j2 h2;have:=D.out.le;omega) bU.out.2.2.1 (Ob2 cl bY.size) cE.out.1 (by have:=cE.out.2;have:=D.out.le;omega) ?_ (fun j2 h2=>?_) (fun j2 h2 i hi=>?_) (by rw[bN];exact dB) (by have:=cC.out;have:=D.out.le;omega) (by have:=cC.out;have:=D.out.le;omega) ?_
    ·by_cases cY:A=[]
     ·exact .inl (by rw[cY];rfl)
     exact .inr (Jcs (D.out.own.below br) bJ cY (fun q O=>(D.out.vals q O).1.below br) fun q O g o e=>(D.out.off q O g o e).1)
    ·obtain⟨q,O,du⟩:=dx j2 h2
     rw[du]
     exact(D.out.vals q O).2.1
    ·rw[←Jdj _ _ _ h2]
     exact Jg3 (dC i hi) _
    exact⟨bY.cell bV.out.1.d (by exact fun e=>bV.out.2.1 e.symm),bY.cell bV.out.1.o (by exact fun e=>bV.out.2.2 e.symm)⟩
   rw[←hf]at cx
   have cD:Hid (Calls prog f #[.pointer (some ⟨b,0,none⟩),p.val] (wr.alloc (.cells #[.int .i64 p.op,.int .i64 p.l,.int .i64 p.r,.int .i64 p.c,.int .i64 p.v.k,.int .i64 p.v.n,.string p.v.s,.func (.func f) #[.pointer (some ⟨b,0,none⟩)] #[]] 270)).drew (Jbi bh bc bi bj b ex (.slice (some ⟨bb,0,none⟩) cols.length cap) first bn sv bC (A.map (·.2.2)).length (wr.alloc (.cells #[.int .i64 p.op,.int .i64 p.l,.int .i64 p.r,.int .i64 p.c,.int .i64 p.v.k,.int .i64 p.v.n,.string p.v.s,.func (.func f) #[.pointer (some ⟨b,0,none⟩)] #[]] 270)).drew fun i=>Qp p (Ji cols i) (Ji (A.map (·.2.2)) i))):=cx
   clear hf bZ cx
   have dD:∀ (a:Addr) (W:World),(store a (.func (.func f) #[.pointer (some ⟨b,0,none⟩)] #[])).run prog W=stored prog W a (.func (.func f) #[.pointer (some ⟨b,0,none⟩)] #[]) .plain:=fun a W=>run_store _ _ _ _ _ rfl
   go_upto_region 5 with fail
   clear dD
   have Z:wr.heap.size≠b:=by omega
   have cU:=heap_alloc_new wr (.cells #[.int .i64 p.op,.int .i64 p.l,.int .i64 p.r,.int .i64 p.c,.int .i64 p.v.k,.int .i64 p.v.n,.string p.v.s,.func (.func f) #[.pointer (some ⟨b,0,none⟩)] #[]] 270)
   have dU:(wr.alloc (.cells #[.int .i64 p.op,.int .i64 p.l,.int .i64 p.r,.int .i64 p.c,.int .i64 p.v.k,.int .i64 p.v.n,.string p.v.s,.func (.func f) #[.pointer (some ⟨b,0,none⟩)] #[]] 270)).drew.cell? ⟨b,4,none⟩=some sv:=Jh (Kf cf)
   obtain⟨de,cS,db,dc,dd⟩:=info_parts Jps
   refine wp_region_held_drew (S:=fun bl=>bl.cell? ⟨wr.heap.size,0,none⟩=some (.int .i64 p.op)∧bl.cell? ⟨wr.heap.size,1,none⟩=some (.int .i64 p.l)∧bl.cell? ⟨wr.heap.size,2,none⟩=some (.int .i64 p.r)∧bl.cell? ⟨wr.heap.size,3,none⟩=some (.int .i64 p.c)∧bl.cell? ⟨wr.heap.size,4,none⟩=some (.int .i64 p.v.k)∧bl.cell? ⟨wr.heap.size,5,none⟩=some (.int .i64 p.v.n)∧bl.cell? ⟨wr.heap.size,6,none⟩=some (.string p.v.s)∧bl.cell? ⟨wr.heap.size,7,none⟩=some (.func (.func f) #[.pointer (some ⟨b,0,none⟩)] #[])) (by kernel_rfl) (by refine⟨?_,?_,?_,?_,?_,?_,?_,?_⟩<;>(unfold World.cell?;rw[heap_drew,cU];rfl)) (fun y=>?_)
   refine tk 0 ?_ rfl y ?_ (tk 1 ?_ rfl y ?_ (tk 2 ?_ rfl y ?_ (tk 3 ?_ rfl y ?_ (tk 5 ?_ rfl y ?_ (tk 6 ?_ rfl y ?_ (tk 7 ?_ rfl y ?_ (tk 8 ?_ rfl y ?_ ?_)))))))
   iterate 8
    rotate_left 1
    ·intro w bG;(try dsimp only at bG);go_simp;try rfl
   simp only[Act.put,List.getElem_toArray,List.getElem_cons_zero,List.getElem_cons_succ,Oa1,List.set_cons_zero,List.set_cons_succ]
   clear cU dK dL dM dN dO dP dQ dh
   refine wpAnyH_ready (rs:=[4,9]) (by kernel_rfl) (by simp) (AllReadyH.cons rfl (fun R H=>?_) (AllReadyH.cons rfl (fun R H=>?_) AllReadyH.nil))
   ·go_simp
    refine H.out _ _ y (fun y=>?_)
    clear H R
    refine wpAnyH_ready (rs:=[9]) (by kernel_rfl) (by simp) (AllReadyH.cons rfl (fun R H=>?_) AllReadyH.nil)
    go_simp
    refine cD.out.mono ?_
    rintro e E ⟨a,m,c,vs,rfl,bQ,bO,bS,bT,bz⟩
    obtain⟨ch,bB,_⟩:=Jpw bz
    have bX:=bB.cells.2.2.2.2.1
    have ci:=bB.thaw 4
    have M:=bz.1
    have bR:=Jm2 (D.out.own.below br) bJ M
    have bk:Hid ((∀ g o,a=some ⟨g,o,none⟩→g≠b∧g<E.heap.size∧(g<bh∨(wr.alloc (.cells #[.int .i64 p.op,.int .i64 p.l,.int .i64 p.r,.int .i64 p.c,.int .i64 p.v.k,.int .i64 p.v.n,.string p.v.s,.func (.func f) #[.pointer (some ⟨b,0,none⟩)] #[]] 270)).drew.heap.size≤g))∧(bn≤vs.length∧vs.length≤bc)∧Jv E a vs∧(∀ i,i<m→vs.getD i Jf=(Qp p (Ji cols i) (Ji (A.map (·.2.2)) i)).1)∧Je5 bi bj b ex (.slice (some ⟨bb,0,none⟩) cols.length cap) first bn sv bC (A.map (·.2.2)).length (wr.alloc (.cells #[.int .i64 p.op,.int .i64 p.l,.int .i64 p.r,.int .i64 p.c,.int .i64 p.v.k,.int .i64 p.v.n,.string p.v.s,.func (.func f) #[.pointer (some ⟨b,0,none⟩)] #[]] 270)).drew (fun i=>(Qp p (Ji cols i) (Ji (A.map (·.2.2)) i)).2) m E):=⟨bQ,bO,bS,bT,bz⟩
    have dj:Hid (Uz E b ex (.slice (some ⟨bb,0,none⟩) cols.length cap) first m sv ch):=bB
    have cb:Hid (Jo E w.heap.size 54 sv (A.map slV)):=bR
    clear bQ bO bS bT bz bR bB
    go_simp
    refine H.out _ _ ⟨M.cell y.1 Z,M.cell y.2.1 Z,M.cell y.2.2.1 Z,M.cell y.2.2.2.1 Z,M.cell y.2.2.2.2.1 Z,M.cell y.2.2.2.2.2.1 Z,M.cell y.2.2.2.2.2.2.1 Z,M.cell y.2.2.2.2.2.2.2 Z⟩ (fun y=>?_)
    clear H R
    refine wpAnyH_ready (rs:=[10]) (by kernel_rfl) (by simp) (AllReadyH.cons rfl (fun R H=>?_) AllReadyH.nil)
    go_simp
    have K:Below E.heap.size E (E.alloc (.cells #[.slice a vs.length c] 54)):=Jc (Oa5 _ _) _
    refine H.out _ _ ⟨Ja K y.1,Ja K y.2.1,Ja K y.2.2.1,Ja K y.2.2.2.1,Ja K y.2.2.2.2.1,Ja K y.2.2.2.2.2.1,Ja K y.2.2.2.2.2.2.1,Ja K y.2.2.2.2.2.2.2⟩ (fun y=>?_)
    clear H R
    refine wpAnyH_ready (rs:=[11]) (by kernel_rfl) (by simp) (AllReadyH.cons rfl (fun R H=>?_) AllReadyH.nil)
    have cz:(E.alloc (.cells #[.slice a vs.length c] 54)).ownsRow w.heap.size 54 1 sv A.length (A.map slV):=by
     have:=cb.out.below K
     unfold Jo at this
     rwa [Oa6]at this
    have cr:(E.alloc (.cells #[.slice a vs.length c] 54)).heap[E.heap.size]?=some (.cells #[.slice a vs.length c] 54 (0,0)):=heap_alloc_new E _
    have dS:=M.size
    have dT:=br.size
    refine step_append_lies (E.alloc (.cells #[.slice a vs.length c] 54)) rfl (.tmp 20) (.tmp 26) 73 rfl w.heap.size 54 de (.slice none 0 0) 1 24 underlying73 cS db dc dd rfl (by decide) sv A.length (A.map slV) rfl cz ⟨E.heap.size,0,none⟩ 1 1 [.slice a vs.length c] rfl rfl (fun j u bA=>World.news_of_block cr j u (by simpa using bA)) (fun u bA=>by simp at bA;subst bA;rfl) (by decide) (by unfold maxLen;have:=D.out.len;omega) (by have:=D.out.len;omega) (by rw[Oa7];omega) (E.heap.size+1) (by simp) (fun bE bD bf cy bx cn dA=>?_)
    have dR:=bx.size
    have bP:∀ g,sv.ownBlock=some g→w.heap.size≤g∧g<wr.heap.size:=fun g e=>Je D.out.own e
    have bH:bf.heap[b]?=E.heap[b]?:=by rw[bx.block b (by simp;omega) (fun e=>by have:=bP b e.symm;omega),Oa9 _ _ b (by omega)]
    have X:∀ o:Nat,bf.cell? ⟨wr.heap.size,o,none⟩=(E.alloc (.cells #[.slice a vs.length c] 54)).cell? ⟨wr.heap.size,o,none⟩:=fun o=>by simp only[World.cell?,bx.block wr.heap.size (Jm y.1) (fun e=>by have:=bP _ e.symm;omega)]
    refine H.out _ _ ⟨(X 0).trans y.1,(X 1).trans y.2.1,(X 2).trans y.2.2.1,(X 3).trans y.2.2.2.1,(X 4).trans y.2.2.2.2.1,(X 5).trans y.2.2.2.2.2.1,(X 6).trans y.2.2.2.2.2.2.1,(X 7).trans y.2.2.2.2.2.2.2⟩ (fun y=>?_)
    clear H R X
    have cA:bf.cell? ⟨b,4,none⟩=some sv:=by rw[←bX];simp only[World.cell?,bH]
    have cj:bf.frozen? ⟨b,4,none⟩=false:=by rw[←ci];simp only[World.frozen?,bH]
    simp only[Act.put,List.getElem_toArray,List.getElem_cons_zero,List.getElem_cons_succ,Oa1,List.set_cons_zero,List.set_cons_succ]
    refine tk 12 ?_ rfl y ?_ (tk 13 ?_ rfl y ?_ ?_)
    iterate 2
     rotate_left 1
     ·intro w bG;(try dsimp only at bG);go_simp;try rfl
    simp only[Act.put,List.getElem_toArray,List.getElem_cons_zero,List.getElem_cons_succ,Oa1,List.set_cons_zero,List.set_cons_succ]
    refine wpAnyH_ready (rs:=[14]) (by kernel_rfl) (by simp) (AllReadyH.cons rfl (fun R H=>?_) AllReadyH.nil)
    go_simp
    have U:∀ o:Nat,(bf.setCell ⟨b,4,none⟩ (.slice (some ⟨bE,0,none⟩) (A.length+1) bD)).cell? ⟨wr.heap.size,o,none⟩=bf.cell? ⟨wr.heap.size,o,none⟩:=fun o=>Ob5 _ _ _ _ (fun e=>Z (congrArg Addr.block e).symm)
    refine H.out _ _ ⟨(U 0).trans y.1,(U 1).trans y.2.1,(U 2).trans y.2.2.1,(U 3).trans y.2.2.2.1,(U 4).trans y.2.2.2.2.1,(U 5).trans y.2.2.2.2.2.1,(U 6).trans y.2.2.2.2.2.2.1,(U 7).trans y.2.2.2.2.2.2.2⟩ (fun y=>?_)
    clear H R U
    refine wpAnyH_done (by kernel_rfl) ?_ _
    clear y cA cj bH
    obtain⟨bL,bM⟩:=Joe D.out bJ cl cF.out br bk.out.1 bk.out.2.1 bk.out.2.2.1 bk.out.2.2.2.1 bk.out.2.2.2.2 bx (by simpa using cy) cn
    have ca:Hid (ExS bh bc w b ex (.slice (some ⟨bb,0,none⟩) cols.length cap) first n m bu bL (.slice (some ⟨bE,0,none⟩) (A.length+1) bD) (A++[(a,c,vs)]) cols es (j+1) bi bj (bf.setCell ⟨b,4,none⟩ (.slice (some ⟨bE,0,none⟩) (A.length+1) bD))):=bM
    clear bM
    go_wp2
    go_roundw
    case rel=>exact⟨j+1,m,bL,_,_,by omega,by go_num,ca⟩
    case measure=>simp[intOf];omega
   go_simp
   refine cD.out.mono ?_
   rintro e E ⟨a,m,c,vs,rfl,bQ,bO,bS,bT,bz⟩
   obtain⟨ch,bB,_⟩:=Jpw bz
   have bX:=bB.cells.2.2.2.2.1
   have ci:=bB.thaw 4
   have M:=bz.1
   have bR:=Jm2 (D.out.own.below br) bJ M
   have bk:Hid ((∀ g o,a=some ⟨g,o,none⟩→g≠b∧g<E.heap.size∧(g<bh∨(wr.alloc (.cells #[.int .i64 p.op,.int .i64 p.l,.int .i64 p.r,.int .i64 p.c,.int .i64 p.v.k,.int .i64 p.v.n,.string p.v.s,.func (.func f) #[.pointer (some ⟨b,0,none⟩)] #[]] 270)).drew.heap.size≤g))∧(bn≤vs.length∧vs.length≤bc)∧Jv E a vs∧(∀ i,i<m→vs.getD i Jf=(Qp p (Ji cols i) (Ji (A.map (·.2.2)) i)).1)∧Je5 bi bj b ex (.slice (some ⟨bb,0,none⟩) cols.length cap) first bn sv bC (A.map (·.2.2)).length (wr.alloc (.cells #[.int .i64 p.op,.int .i64 p.l,.int .i64 p.r,.int .i64 p.c,.int .i64 p.v.k,.int .i64 p.v.n,.string p.v.s,.func (.func f) #[.pointer (some ⟨b,0,none⟩)] #[]] 270)).drew (fun i=>(Qp p (Ji cols i) (Ji (A.map (·.2.2)) i)).2) m E):=⟨bQ,bO,bS,bT,bz⟩
   have dj:Hid (Uz E b ex (.slice (some ⟨bb,0,none⟩) cols.length cap) first m sv ch):=bB
   have cb:Hid (Jo E w.heap.size 54 sv (A.map slV)):=bR
   clear bQ bO bS bT bz bR bB
   go_simp
   refine H.out _ _ ⟨M.cell y.1 Z,M.cell y.2.1 Z,M.cell y.2.2.1 Z,M.cell y.2.2.2.1 Z,M.cell y.2.2.2.2.1 Z,M.cell y.2.2.2.2.2.1 Z,M.cell y.2.2.2.2.2.2.1 Z,M.cell y.2.2.2.2.2.2.2 Z⟩ (fun y=>?_)
   clear H R
   refine wpAnyH_ready (rs:=[4,10]) (by kernel_rfl) (by simp) (AllReadyH.cons rfl (fun R H=>?_) (AllReadyH.cons rfl (fun R H=>?_) AllReadyH.nil))
   focus
    go_simp
    refine H.out _ _ y (fun y=>?_)
    clear H R
    refine wpAnyH_ready (rs:=[10]) (by kernel_rfl) (by simp) (AllReadyH.cons rfl (fun R H=>?_) AllReadyH.nil)
    go_simp
    have K:Below E.heap.size E (E.alloc (.cells #[.slice a vs.length c] 54)):=Jc (Oa5 _ _) _
    refine H.out _ _ ⟨Ja K y.1,Ja K y.2.1,Ja K y.2.2.1,Ja K y.2.2.2.1,Ja K y.2.2.2.2.1,Ja K y.2.2.2.2.2.1,Ja K y.2.2.2.2.2.2.1,Ja K y.2.2.2.2.2.2.2⟩ (fun y=>?_)
   rotate_left 1
   focus
    go_simp
    have K:Below E.heap.size E (E.alloc (.cells #[.slice a vs.length c] 54)):=Jc (Oa5 _ _) _
    refine H.out _ _ ⟨Ja K y.1,Ja K y.2.1,Ja K y.2.2.1,Ja K y.2.2.2.1,Ja K y.2.2.2.2.1,Ja K y.2.2.2.2.2.1,Ja K y.2.2.2.2.2.2.1,Ja K y.2.2.2.2.2.2.2⟩ (fun y=>?_)
    clear H R
    have dV:=Ja K bX
    refine wpAnyH_ready (rs:=[4]) (by kernel_rfl) (by simp) (AllReadyH.cons rfl (fun R H=>?_) AllReadyH.nil)
    go_simp
    refine H.out _ _ y (fun y=>?_)
   all_goals
    clear H R
    refine wpAnyH_ready (rs:=[11]) (by kernel_rfl) (by simp) (AllReadyH.cons rfl (fun R H=>?_) AllReadyH.nil)
    have cz:(E.alloc (.cells #[.slice a vs.length c] 54)).ownsRow w.heap.size 54 1 sv A.length (A.map slV):=by
     have:=cb.out.below K
     unfold Jo at this
     rwa [Oa6]at this
    have cr:(E.alloc (.cells #[.slice a vs.length c] 54)).heap[E.heap.size]?=some (.cells #[.slice a vs.length c] 54 (0,0)):=heap_alloc_new E _
    have dS:=M.size
    have dT:=br.size
    refine step_append_lies (E.alloc (.cells #[.slice a vs.length c] 54)) rfl (.tmp 20) (.tmp 26) 73 rfl w.heap.size 54 de (.slice none 0 0) 1 24 underlying73 cS db dc dd rfl (by decide) sv A.length (A.map slV) rfl cz ⟨E.heap.size,0,none⟩ 1 1 [.slice a vs.length c] rfl rfl (fun j u bA=>World.news_of_block cr j u (by simpa using bA)) (fun u bA=>by simp at bA;subst bA;rfl) (by decide) (by unfold maxLen;have:=D.out.len;omega) (by have:=D.out.len;omega) (by rw[Oa7];omega) (E.heap.size+1) (by simp) (fun bE bD bf cy bx cn dA=>?_)
    have dR:=bx.size
    have bP:∀ g,sv.ownBlock=some g→w.heap.size≤g∧g<wr.heap.size:=fun g e=>Je D.out.own e
    have bH:bf.heap[b]?=E.heap[b]?:=by rw[bx.block b (by simp;omega) (fun e=>by have:=bP b e.symm;omega),Oa9 _ _ b (by omega)]
    have X:∀ o:Nat,bf.cell? ⟨wr.heap.size,o,none⟩=(E.alloc (.cells #[.slice a vs.length c] 54)).cell? ⟨wr.heap.size,o,none⟩:=fun o=>by simp only[World.cell?,bx.block wr.heap.size (Jm y.1) (fun e=>by have:=bP _ e.symm;omega)]
    refine H.out _ _ ⟨(X 0).trans y.1,(X 1).trans y.2.1,(X 2).trans y.2.2.1,(X 3).trans y.2.2.2.1,(X 4).trans y.2.2.2.2.1,(X 5).trans y.2.2.2.2.2.1,(X 6).trans y.2.2.2.2.2.2.1,(X 7).trans y.2.2.2.2.2.2.2⟩ (fun y=>?_)
    clear H R X
    have cA:bf.cell? ⟨b,4,none⟩=some sv:=by rw[←bX];simp only[World.cell?,bH]
    have cj:bf.frozen? ⟨b,4,none⟩=false:=by rw[←ci];simp only[World.frozen?,bH]
    simp only[Act.put,List.getElem_toArray,List.getElem_cons_zero,List.getElem_cons_succ,Oa1,List.set_cons_zero,List.set_cons_succ]
    refine tk 12 ?_ rfl y ?_ (tk 13 ?_ rfl y ?_ ?_)
    iterate 2
     rotate_left 1
     ·intro w bG;(try dsimp only at bG);go_simp;try rfl
    simp only[Act.put,List.getElem_toArray,List.getElem_cons_zero,List.getElem_cons_succ,Oa1,List.set_cons_zero,List.set_cons_succ]
    refine wpAnyH_ready (rs:=[14]) (by kernel_rfl) (by simp) (AllReadyH.cons rfl (fun R H=>?_) AllReadyH.nil)
    go_simp
    have U:∀ o:Nat,(bf.setCell ⟨b,4,none⟩ (.slice (some ⟨bE,0,none⟩) (A.length+1) bD)).cell? ⟨wr.heap.size,o,none⟩=bf.cell? ⟨wr.heap.size,o,none⟩:=fun o=>Ob5 _ _ _ _ (fun e=>Z (congrArg Addr.block e).symm)
    refine H.out _ _ ⟨(U 0).trans y.1,(U 1).trans y.2.1,(U 2).trans y.2.2.1,(U 3).trans y.2.2.2.1,(U 4).trans y.2.2.2.2.1,(U 5).trans y.2.2.2.2.2.1,(U 6).trans y.2.2.2.2.2.2.1,(U 7).trans y.2.2.2.2.2.2.2⟩ (fun y=>?_)
    clear H R U
    refine wpAnyH_done (by kernel_rfl) ?_ _
    clear y cA cj bH
    obtain⟨bL,bM⟩:=Joe D.out bJ cl cF.out br bk.out.1 bk.out.2.1 bk.out.2.2.1 bk.out.2.2.2.1 bk.out.2.2.2.2 bx (by simpa using cy) cn
    have ca:Hid (ExS bh bc w b ex (.slice (some ⟨bb,0,none⟩) cols.length cap) first n m bu bL (.slice (some ⟨bE,0,none⟩) (A.length+1) bD) (A++[(a,c,vs)]) cols es (j+1) bi bj (bf.setCell ⟨b,4,none⟩ (.slice (some ⟨bE,0,none⟩) (A.length+1) bD))):=bM
    clear bM
    go_wp2
    go_roundw
    case rel=>exact⟨j+1,m,bL,_,_,by omega,by go_num,ca⟩
    case measure=>simp[intOf];omega
  obtain rfl:j=es.length:=by omega
  clear cT
  obtain⟨ba,cv⟩:∃ ba,es.length=ba+1:=⟨es.length-1,by omega⟩
  have bN:A.length=ba+1:=by rw[D.out.len,cv]
  have M:ba<A.length:=by omega
  obtain⟨df,cp,da,cJ⟩:=Jcs D.out.own bJ (fun e=>by rw[e]at M;simp at M) (fun q O=>(D.out.vals q O).1) fun q O g o e=>(D.out.off q O g o e).1
  have bK:=cJ.cell ba (by rw[Oa6];exact M)
  obtain⟨q,O⟩:∃ q,A[ba]?=some q:=⟨_,Oa3 M⟩
  have g1:(A.map (·.2.2)).getD ba []=q.2.2:=by rw[Oa0,Ob1,O];rfl
  have g2:Yo (A.map fun q=>(q.1,q.2.1)) ba=(q.1,q.2.1):=by unfold Yo;rw[Oa0,Ob1,O];rfl
  rw[g1,g2]at bK
  simp only at bK
  rw[Oa6,bN]at da
  have bI:q∈A:=Of6 O
  have cQ:Jwi bh bc bi bj b ex (.slice (some ⟨bb,0,none⟩) cols.length cap) first n bu cols es w (.returned (.slice q.1 q.2.2.length q.2.1)) wr.drew:=by
   refine⟨q.1,q.2.1,bn,q.2.2,sv,bC,rfl,fun g o e=>⟨(D.out.off q bI g o e).1,(D.out.off q bI g o e).2.1,(D.out.off q bI g o e).2.2.2⟩,(D.out.vals q bI).1,(D.out.vals q bI).2.1,(D.out.vals q bI).2.2,D.out.le,fun i hi=>?_,D.out.keep.drewN 1,D.out.wk,D.out.err⟩
   have cZ:=D.out.run i hi
   rw[Oc8 (Oa2 _)]at cZ
   rw[Ke8 cZ,←g1,←Jdj _ _ _ (by rw[Oa6];exact M)]
   congr 1
   have dz:(Ji (A.map (·.2.2)) i).length=ba+1:=by rw[Yk,Oa6,bN]
   rw[Ok7,Om6,dz,Oa0,Nat.add_sub_cancel]
  have bW:Hid (Jwi bh bc bi bj b ex (.slice (some ⟨bb,0,none⟩) cols.length cap) first n bu cols es w (.returned (.slice q.1 q.2.2.length q.2.1)) wr.drew):=cQ
  rw[da]at cf
  have dX:IntKind.i64.wrap ((ba:Int)+1-1)=(ba:Int):=by rw[Od4];omega
  have dY:IntKind.i64.wrap (ba:Int)=(ba:Int):=by rw[Od4];omega
  have dZ:(0:Int)≤(ba:Int):=by omega
  have fb:(ba:Int)<(ba:Int)+1:=by omega
  generalize q.2.2.length=dI at bK bW
  generalize q.1=dG at bK bW
  generalize q.2.1=dH at bK bW
  clear cQ g1 g2 O cJ bI bN M D dk dm dp dq dr c0 c1 c2 c3 c4 c5 ds
  rw[cv]
  clear cv dv dw dy
  go_upto_region 7 with fail
  refine wp_region_held_drew (S:=fun bl=>bl.cell? ⟨b,4,none⟩=some (.slice (some ⟨df,0,none⟩) (ba+1) cp)∧bl.cell? ⟨df,ba,none⟩=some (.slice dG dI dH)) (by kernel_rfl) ⟨cf,bK⟩ (fun y=>?_)
  refine tk 0 ?_ rfl y ?_ (tk 1 ?_ rfl y ?_ (tk 2 ?_ rfl y ?_ (tk 3 ?_ rfl y ?_ (tk 4 ?_ rfl y ?_ (tk 5 ?_ rfl y ?_ (tk 6 ?_ rfl y ?_ (tk 7 ?_ rfl y ?_ (tk 8 ?_ rfl y ?_ (tk 9 ?_ rfl y ?_ (tk 10 ?_ rfl y ?_ (tk 11 ?_ rfl y ?_ (tk 12 ?_ rfl y ?_ ?_))))))))))))
  iterate 13
   rotate_left 1
   ·intro w bG;(try dsimp only at bG);go_simp;try rfl
  simp only[Act.put,List.getElem_toArray,List.getElem_cons_zero,List.getElem_cons_succ,Oa1,List.set_cons_zero,List.set_cons_succ]
  refine wpAnyH_done (by kernel_rfl) ?_ _
  go_wp2
  go_ret
  exact bW.out
end Go.Proofs.YtdlgbphkaicfaaaGreatDoor
