/- An expression worked on a batch. -/
import Derived.Test.YtjjdldddcegjiaaGreatDoorXf
import Derived.Deep.AppendLies
set_option maxHeartbeats 2000000
set_option maxRecDepth 100000
namespace Go.Proofs.YtjjdldddcegjiaaGreatDoor
open Go.RowKit Go.Shelf Tryz
attribute [local go_sem] Oc0
abbrev slV (q:Option Addr×Nat×List V):Value:=.slice q.1 q.2.2.length q.2.1
def Jp6 (w:World)(g o b:Nat)(p:Pt):Prop:=
 w.cell? ⟨g,o,none⟩=some (.int .i64 p.op)∧w.cell? ⟨g,o+1,none⟩=some (.int .i64 p.l)∧w.cell? ⟨g,o+2,none⟩=some (.int .i64 p.r)∧w.cell? ⟨g,o+3,none⟩=some (.int .i64 p.c)∧w.cell? ⟨g,o+4,none⟩=some (.int .i64 p.v.k)∧w.cell? ⟨g,o+5,none⟩=some (.int .i64 p.v.n)∧w.cell? ⟨g,o+6,none⟩=some (.string p.v.s)∧w.cell? ⟨g,o+7,none⟩=some (.func (.func (Zv p.op)) #[.pointer (some ⟨b,0,none⟩)] #[])
theorem Jp6.keep {w w':World}{g o b:Nat}{p:Pt}(h:Jp6 w g o b p)(z:Ju (·=b) w w')(y:g≠b):Jp6 w' g o b p:=
 ⟨z.cell h.1 y,z.cell h.2.1 y,z.cell h.2.2.1 y,z.cell h.2.2.2.1 y,z.cell h.2.2.2.2.1 y,z.cell h.2.2.2.2.2.1 y,z.cell h.2.2.2.2.2.2.1 y,z.cell h.2.2.2.2.2.2.2 y⟩
structure Jco (w:World) (g b:Nat) (es:List Pt):Prop where
 ne:g≠b
 step:∀ j p,es[j]?=some p→Jp6 w g (j*8) b p
theorem Jco.keep {w w':World}{g b:Nat}{es:List Pt}(h:Jco w g b es)(z:Ju (·=b) w w'):Jco w' g b es:=⟨h.ne,fun j p y=>(h.step j p y).keep z h.ne⟩
theorem Js0 (op:Int)(args:Array Value)(W:World):(callFunc (Zv op) args).run prog W=.ok (.enter (Zv op) args) W:=by
 unfold Zv
 repeat (split;(first|kernel_rfl|skip))
 kernel_rfl
def Jrv (H M:Addr)(O w':World)(cols:List (List V))(E:List V→Nat→Prop)(first D y:Nat)(K C:Value):Prop:=
 (y=D∧C=K)∨(y<D∧∃ A z kk:Nat,z≠0∧E (Ji cols y) z∧C=Qv A∧O.heap.size≤A∧Ja8 w' A ((first+y:Nat):Int) kk (Jdb H M z))
theorem Ja8.of_block {w w':World}{y:Nat}{row z:Int}{A:Value}(h:Ja8 w y row z A)(e:w'.heap[y]?=w.heap[y]?):Ja8 w' y row z A:=e.trans h
theorem Jrv.of_blocks {C R:Addr}{z w w':World}{cols:List (List V)}{A:List V→Nat→Prop}{first O M:Nat}{E D:Value}(h:Jrv C R z w cols A first O M E D)(bh:∀ y row bi bj,z.heap.size≤y→Ja8 w y row bi bj→w'.heap[y]?=w.heap[y]?):Jrv C R z w' cols A first O M E D:=by
 rcases h with h|⟨X,y,U,kk,Z,bc,bf,H,K⟩
 ·exact .inl h
 exact .inr ⟨X,y,U,kk,Z,bc,bf,H,K.of_block (bh y _ _ _ H K)⟩
structure ExS (B0 M:Nat) (w:World) (b:Nat) (ex ba:Value) (first n0 n':Nat) (er0 er' sv:Value) (qs:List (Option Addr×Nat×List V)) (cols:List (List V)) (es:List Pt) (j:Nat) (dv ov:Addr) (wr:World):Prop where
 own:Jo wr w.heap.size 58 sv (qs.map slV)
 wk:Uz wr b ex ba first n' sv er'
 keep:Ju (·=b) w wr
 len:qs.length=j
 vals:∀ q∈qs,Jv wr q.1 q.2.2∧n'≤q.2.2.length∧q.2.2.length≤M
 off:∀ q∈qs,∀ g o,q.1=some ⟨g,o,none⟩→g≠b∧g<wr.heap.size∧sv.ownBlock≠some g∧(g<B0∨w.heap.size≤g)
 le:n'≤n0
 run:∀ i,i<n'→Yy (es.take j) (Ji cols i) []=.inl (Ji (qs.map (·.2.2)) i)
 err:Jrv dv ov w wr cols (fun x c=>Yy es x []=.inr c) first n0 n' er0 er'
theorem Jpw {D E:Addr}{b:Nat}{ex ba:Value}{first n:Nat}{H A:Value}{k:Nat}{w:World}{z:Nat→Nat}{m:Nat}{w':World}(h:Je5 D E b ex ba first n H A k w z m w') :
  ∃ C,Uz w' b ex ba first m H C∧((m=n∧C=A)∨(m<n∧z m≠0∧∃ y,C=Qv y∧w.heap.size≤y∧Ja8 w' y ((first+m:Nat):Int) k (Jdb D E (z m)))):=by
 obtain⟨_,_,_,h|⟨K,M,y,O,R,U⟩⟩:=h
 ·obtain⟨rfl,h⟩:=h
  exact⟨A,h,.inl ⟨rfl,rfl⟩⟩
 exact⟨_,R,.inr ⟨K,M,y,rfl,O,U⟩⟩
theorem Jwj (ps:List (List V))(vs:List V)(i:Nat):Ji (ps++[vs]) i=Ji ps i++[vs.getD i Jf]:=by simp[Ji]
theorem Jmb {w:World}{B:Nat}{sv:Value}{xs:List Value}{A:Nat}{row E:Int}{H:Value}(D:Jo w B 58 sv xs)(z:Ja8 w A row E H):sv.ownBlock≠some A:=fun e=>by
 obtain⟨_,⟨y,_⟩|⟨g,cap,K,y,_,C,_⟩⟩:=D
 ·rw[y]at e;cases e
 rw[y]at e
 simp only[Value.ownBlock,Oc9]at e
 subst e
 unfold Ja8 at z
 rw[C]at z
 simp at z
theorem Joe {bi br:Nat}{w:World}{b:Nat}{ex ba:Value}{first bR bG:Nat}{bJ bI sv:Value}{y:List (Option Addr×Nat×List V)}{cols:List (List V)}{es:List Pt}{j:Nat}{bx bH:Addr}{wr:World}(h:ExS bi br w b ex ba first bR bG bJ bI sv y cols es j bx bH wr)(ch:b<w.heap.size)(cf:bi≤w.heap.size){p:Pt}(bO:es[j]?=some p){bu C:World}(bc:Below wr.heap.size wr bu)
  {a:Option Addr} {m c kk:Nat} {vs:List V} (bD:∀ g o,a=some ⟨g,o,none⟩→g≠b∧g<C.heap.size∧(g<bi∨bu.heap.size≤g)) (bW:bG≤vs.length∧vs.length≤br) (bZ:Jv C a vs) (ca:∀ i,i<m→vs.getD i Jf=(Qp p (Ji cols i) (Ji (y.map (·.2.2)) i)).1) (bP:Je5 bx bH b ex ba first bG sv bI kk bu (fun i=>(Qp p (Ji cols i) (Ji (y.map (·.2.2)) i)).2) m C)
  {D:World} {z H:Nat} (M:(C.alloc (.cells #[slV (a,c,vs)] 58)).grownBy D sv.ownBlock) (bX:D.ownsRow w.heap.size 58 1 (.slice (some ⟨z,0,none⟩) (y.length+1) H) (y.length+1) (y.map slV++[slV (a,c,vs)])) (bz:sv.ownBlock=some z∨z=C.heap.size+1) :
  ∃ bl,ExS bi br w b ex ba first bR m bJ bl (.slice (some ⟨z,0,none⟩) (y.length+1) H) (y++[(a,c,vs)]) cols es (j+1) bx bH (D.setCell ⟨b,4,none⟩ (.slice (some ⟨z,0,none⟩) (y.length+1) H)):=by
 obtain⟨bl,cb,bT⟩:=Jpw bP
 obtain⟨bf,bV,cc,_⟩:=bP
 have cz:=h.keep.size
 have cx:=bc.size
 have cu:=bf.size
 have cy:=M.size
 have cv:(C.alloc (.cells #[slV (a,c,vs)] 58)).heap.size=C.heap.size+1:=by simp
 have bh:∀ g,sv.ownBlock=some g→w.heap.size≤g∧g<wr.heap.size:=fun g e=>Je h.own e
 have cj:w.heap.size≤z:=by
  rcases bz with e|e
  ·exact(bh z e).1
  omega
 have bA:∀ k,k<wr.heap.size→k≠b→sv.ownBlock≠some k→(D.setCell ⟨b,4,none⟩ (.slice (some ⟨z,0,none⟩) (y.length+1) H)).heap[k]?=wr.heap[k]?:=fun k bn O bC=>by
  rw[Oa4 _ _ _ _ O,M.block k (by omega) (fun e=>bC e.symm),Oa9 _ _ k (by omega),bf.block k (by omega) O,bc.block k bn]
 have bM:∀ k,k<C.heap.size→k≠b→sv.ownBlock≠some k→(D.setCell ⟨b,4,none⟩ (.slice (some ⟨z,0,none⟩) (y.length+1) H)).heap[k]?=C.heap[k]?:=fun k bn O bC=>by
  rw[Oa4 _ _ _ _ O,M.block k (by omega) (fun e=>bC e.symm),Oa9 _ _ k (by omega)]
 have cl:(D.setCell ⟨b,4,none⟩ (.slice (some ⟨z,0,none⟩) (y.length+1) H)).heap.size=D.heap.size:=by simp[World.setCell]
 have bN:∀ g o,a=some ⟨g,o,none⟩→sv.ownBlock≠some g:=fun g o e K=>by
  have E:=bh g K
  have R:=bD g o e
  omega
 refine⟨bl,?_,?_,?_,?_,?_,?_,Ob2 bV h.le,?_,?_⟩
 ·unfold Jo
  rw[Ob8,Oa8,Oa6]
  refine Jl bX fun g e=>?_
  simp only[Value.ownBlock,Oc9]at e
  subst e
  exact Oa4 _ _ _ _ (by show z≠b;omega)
 ·have bS:Uz D b ex ba first m sv bl:=by
   show D.heap[b]?=_
   rw[M.block b (by omega) (fun e=>by have:=bh b e.symm;omega),Oa9 _ _ b (by omega)]
   exact cb
  have:=Jk bS 4 (.slice (some ⟨z,0,none⟩) (y.length+1) H)
  simp only[Oa1,List.set_cons_zero,List.set_cons_succ]at this
  exact this
 ·have bj:=h.keep
  refine⟨?_,?_,?_,by omega,fun k bn O=>?_⟩
  ·exact M.os.trans (bf.os.trans (bc.os.trans bj.os))
  ·exact M.tape.trans (bf.tape.trans (bc.tape.trans bj.tape))
  ·exact M.output.trans (bf.output.trans (bc.output.trans bj.output))
  rw[bA k (by omega) O (fun e=>by have:=bh k e;omega)]
  exact bj.block k bn O
 ·rw[Oa8,List.length_singleton,h.len]
 ·intro q A
  rw[Od2,Oc6]at A
  rcases A with A|rfl
  ·obtain⟨E,R,U⟩:=h.vals q A
   exact⟨E.of_block (by omega) fun g o e bB=>bA g bB (h.off q A g o e).1 (h.off q A g o e).2.2.1,by omega,U⟩
  exact⟨bZ.of_block (by omega) fun g o e bB=>bM g bB (bD g o e).1 (bN g o e),by show m≤vs.length;omega,bW.2⟩
 ·intro q A g o e
  rw[Od2,Oc6]at A
  rcases A with A|rfl
  ·obtain⟨E,R,U,bK⟩:=h.off q A g o e
   refine⟨E,by omega,fun K=>?_,bK⟩
   simp only[Value.ownBlock,Oc9]at K
   rcases bz with X|X
   ·exact U (by rw[X,K])
   omega
  obtain⟨E,R,U⟩:=bD g o e
  refine⟨E,by omega,fun K=>?_,by omega⟩
  simp only[Value.ownBlock,Oc9]at K
  rcases bz with X|X
  ·exact bN g o e (by rw[X,K])
  omega
 ·intro i hi
  have bE:es.take (j+1)=es.take j++[p]:=by
   rw[Oi7,bO]
   rfl
  rw[bE,Jsv p (h.run i (by omega)),if_pos (cc i hi),Ob8,List.map_singleton,Jwj,ca i hi]
 rcases bT with⟨rfl,rfl⟩|⟨E,R,Z,U,bK,bL⟩
 ·refine h.err.of_blocks fun Z row cn cr ci bQ=>bA Z (Jd bQ) (by omega) (Jmb h.own bQ)
 refine .inr ⟨by have:=h.le;omega,Z,_,kk,R,?_,U,by omega,bL.of_block (bM Z (Jd bL) (by omega) ?_)⟩
 ·have bE:es=es.take j++(p::es.drop (j+1)):=by
   obtain⟨bU,bY⟩:=Ob9.1 bO
   rw[←bY,←Oi1 bU,Ok3]
  show Yy es (Ji cols m) []=_
  rw[bE,Jdz,h.run m E]
  simp only[Yy]
  rw[if_neg R]
 intro e
 have:=bh Z e
 omega
theorem Jcs {w:World}{B b:Nat}{sv:Value}{z:List (Option Addr×Nat×List V)}(E:Jo w B 58 sv (z.map slV))(bh:b<B)(X:z≠[])(bf:∀ q∈z,Jv w q.1 q.2.2)(Z:∀ q∈z,∀ g o,q.1=some ⟨g,o,none⟩→g≠b) :
  ∃ H cp,sv=.slice (some ⟨H,0,none⟩) (z.map (·.2.2)).length cp∧Jha w b H (z.map fun q=>(q.1,q.2.1)) (z.map (·.2.2)):=by
 obtain⟨a,cap,bc,D⟩:=Ji8 E
 have U:0<z.length:=Oi9.2 X
 obtain⟨g,O,R,_⟩:=D 0 (slV z[0]) (by rw[Ob1,Oa3 U];rfl)
 subst O
 have A:∀ j (y:j<z.length),((z.map (·.2.2)).getD j [])=z[j].2.2∧Yo (z.map fun q=>(q.1,q.2.1)) j=(z[j].1,z[j].2.1):=fun j y=>by
  constructor
  ·rw[Oa0,Ob1,Oa3 y];rfl
  unfold Yo;rw[Oa0,Ob1,Oa3 y];rfl
 refine⟨g,cap,by rw[bc,Oa6,Oa6],?_,fun j y=>?_,fun j y=>?_,fun j y K o e=>?_⟩
 ·have:=Je E R
  omega
 ·rw[Oa6]at y
  rw[(A j y).1,(A j y).2]
  obtain⟨g2,C,_,M,_⟩:=D j (slV z[j]) (by rw[Ob1,Oa3 y];rfl)
  simp only[Oc9,Oh2,and_true]at C
  rw[C]
  exact M
 ·rw[Oa6]at y
  rw[(A j y).1,(A j y).2]
  exact bf _ (Ob3 y)
 rw[Oa6]at y
 rw[(A j y).2]at e
 exact Z _ (Ob3 y) K o e
def Kl (es:List Pt)(x:List V):V⊕Nat:=match Yy es x []with|.inl d=>.inl (d.getLastD Jf)|.inr c=>.inr c
theorem Ke8 {es:List Pt}{x d:List V}(h:Yy es x []=.inl d):Kl es x=.inl (d.getLastD Jf):=by unfold Kl;rw[h]
theorem Keu {es:List Pt}{x:List V}{c:Nat}(h:Yy es x []=.inr c):Kl es x=.inr c:=by unfold Kl;rw[h]
def Jwi (A C:Nat)(D H:Addr)(b:Nat)(ex ba:Value)(first n:Nat)(E:Value)(cols:List (List V))(es:List Pt)(w:World):Ending→World→Prop:=fun e w'=>
 ∃ (a:Option Addr) (c y:Nat) (vs:List V) (K z:Value),e=.returned (.slice a vs.length c)∧(∀ g o,a=some ⟨g,o,none⟩→g≠b∧g<w'.heap.size∧(g<A∨w.heap.size≤g))∧Jv w' a vs∧y≤vs.length∧vs.length≤C∧y≤n∧(∀ i,i<y→Kl es (Ji cols i)=.inl (vs.getD i Jf))∧Ju (·=b) w w'∧Uz w' b ex ba first y K z∧Jrv D H w w' cols (fun x c=>Yy es x []=.inr c) first n y E z
theorem Jm2 {w w':World}{B b:Nat}{sv:Value}{xs:List Value}(h:Jo w B 58 sv xs)(z:b<B)(y:Ju (·=b) w w'):Jo w' B 58 sv xs:=Jl h fun g e=>y.block g (Je h e).2 (by have:=(Je h e).1;show g≠b;omega)
theorem Jkm (bh bc b:Nat)(ex:Value)(first n:Nat)(Z cap:Nat)(hs:List (Option Addr×Nat))(cols:List (List V))(dj bz:Value)(cE dM:Nat)(es:List Pt)(bi bj:Addr)(w:World)
  (hW:Uz w b ex (.slice (some ⟨Z,0,none⟩) cols.length cap) first n dj bz) (cJ:Jha w b Z hs cols) (cT:∀ j,j<cols.length→n≤(cols.getD j []).length) (cS:∀ j,j<cols.length→∀ g o,(Yo hs j).1=some ⟨g,o,none⟩→g<bh) (cQ:∀ i,i<n→∀ v∈Ji cols i,Jg v.n) (cP:∀ j,j<cols.length→(cols.getD j []).length≤bc) (cY:n≤bc)
  (cO:Jco w cE b es) (da:∀ j p,es[j]?=some p→Jr0 cols.length j p) (cZ:es≠[]) (dy:es.length≤1000) (hn:n≤100000) (hf:first+n≤10000000) (cK:Jdo w bi bj) (cu:bh≤w.heap.size) (cM:b≠10∧b≠11) :
  Calls prog 151 #[.pointer (some ⟨b,0,none⟩),.slice (some ⟨cE,0,none⟩) es.length dM] w (Jwi bh bc bi bj b ex (.slice (some ⟨Z,0,none⟩) cols.length cap) first n bz cols es w):=by
 obtain⟨c0,c1,c2,c3,c4,c5⟩:=hW.cells
 have dv:=hW.thaw 4
 have bL:=Jd hW
 have dm:Hid (Uz w b ex (.slice (some ⟨Z,0,none⟩) cols.length cap) first n dj bz):=hW
 have bX:Hid (Jha w b Z hs cols∧(∀ j,j<cols.length→n≤(cols.getD j []).length)∧(∀ j,j<cols.length→∀ g o,(Yo hs j).1=some ⟨g,o,none⟩→g<bh)∧(∀ i,i<n→∀ v∈Ji cols i,Jg v.n)):=⟨cJ,cT,cS,cQ⟩
 have ci:Hid (Jco w cE b es∧(∀ j p,es[j]?=some p→Jr0 cols.length j p)):=⟨cO,da⟩
 have bY:Hid (Jdo w bi bj∧b≠10∧b≠11):=⟨cK,cM⟩
 have cF:Hid (n≤100000∧first+n≤10000000):=⟨hn,hf⟩
 have cH:Hid ((∀ j,j<cols.length→(cols.getD j []).length≤bc)∧n≤bc):=⟨cP,cY⟩
 have dz:0<es.length:=Oi9.2 cZ
 clear hW cJ cT cS cQ cP cY cO da cK cM hn hf cZ
 go_enter func151,ntmps151
 go_wp2
 go_loopw [12] (fun i wr=>∃ (j bu:Nat) (bE sv:Value) (z:List (Option Addr×Nat×List V)),j≤es.length∧i=.int .i64 (j:Int)∧Hid (ExS bh bc w b ex (.slice (some ⟨Z,0,none⟩) cols.length cap) first n bu bz bE sv z cols es j bi bj wr)) (fun i _=>es.length-(intOf i).toNat)
 case atStart=>
  refine⟨0,n,bz,.slice none 0 0,[],Ob7 _,rfl,?_,?_,?_,rfl,fun q K=>by simp at K,fun q K=>by simp at K,Oa2 _,fun i _=>rfl,.inl ⟨rfl,rfl⟩⟩
  ·exact Jo.nil _ _ _
  ·have:=Jk dm.out 4 (.slice none 0 0)
   simp only[Oa1,List.set_cons_zero,List.set_cons_succ]at this
   exact this
  exact Ju.set (F:=fun x=>x=b) (Ju.refl _ w) rfl 4 _
 case round=>
  obtain⟨j,bu,bE,sv,z,dB,rfl,A⟩:=hrel
  obtain⟨dq,dr,ds,dt,cj,du⟩:=A.out.wk.cells
  have dZ:=A.out.keep.size
  by_cases cW:j<es.length
  ·obtain⟨p,cc⟩:∃ p,es[j]?=some p:=⟨_,Oa3 cW⟩
   obtain⟨dN,dO,dP,dQ,dR,dS,dT,dk⟩:=(ci.out.1.keep A.out.keep).step j p cc
   have dw:=Js0 p.op
   obtain⟨f,hf⟩:∃ f,f=Zv p.op:=⟨_,rfl⟩
   rw[←hf]at dk dw
   have cI:Hid (es[j]?=some p):=cc
   have ff:(0:Int)≤(j:Int):=by omega
   have br:(j:Int)<(es.length:Int):=by omega
   have bx:Below wr.heap.size wr ((wr.alloc (.cells #[.int .i64 p.op,.int .i64 p.l,.int .i64 p.r,.int .i64 p.c,.int .i64 p.v.k,.int .i64 p.v.n,.string p.v.s,.func (.func f) #[.pointer (some ⟨b,0,none⟩)] #[]] 278)).drew):=Jj (Jc (Oa5 _ _) _)
   have cA:Calls prog (Zv p.op) #[.pointer (some ⟨b,0,none⟩),p.val] (wr.alloc (.cells #[.int .i64 p.op,.int .i64 p.l,.int .i64 p.r,.int .i64 p.c,.int .i64 p.v.k,.int .i64 p.v.n,.string p.v.s,.func (.func f) #[.pointer (some ⟨b,0,none⟩)] #[]] 278)).drew (Jbi bh bc bi bj b ex (.slice (some ⟨Z,0,none⟩) cols.length cap) first bu sv bE (z.map (·.2.2)).length (wr.alloc (.cells #[.int .i64 p.op,.int .i64 p.l,.int .i64 p.r,.int .i64 p.c,.int .i64 p.v.k,.int .i64 p.v.n,.string p.v.s,.func (.func f) #[.pointer (some ⟨b,0,none⟩)] #[]] 278)).drew fun i=>Qp p (Ji cols i) (Ji (z.map (·.2.2)) i)):=by
    have cb:Ju (·=b) w (wr.alloc (.cells #[.int .i64 p.op,.int .i64 p.l,.int .i64 p.r,.int .i64 p.c,.int .i64 p.v.k,.int .i64 p.v.n,.string p.v.s,.func (.func f) #[.pointer (some ⟨b,0,none⟩)] #[]] 278)).drew:=A.out.keep.trans (Ju.of_below bx)
    have dG:∀ i,i<bu→∀ v∈Ji (z.map (·.2.2)) i,Jg v.n:=fun i hi=>Jo0 (W:=cols.length) (bX.out.2.2.2 i (by have:=A.out.le;omega)) (es.take j) [] _ (fun br q K=>by
     rw[Oe7]at K
     split at K
     ·have:=ci.out.2 br q K
      simpa using this
     cases K) (fun v dI=>by simp at dI) (A.out.run i hi)
    have dA:∀ br,br<(z.map (·.2.2)).length→∃ q∈z,(z.map (·.2.2)).getD br []=q.2.2:=fun br cy=>by
     rw[Oa6]at cy
     exact⟨_,Ob3 cy,by rw[Oa0,Ob1,Oa3 cy];rfl⟩
    have dE:=ci.out.2 j p cc
    have bQ:(z.map (·.2.2)).length=j:=by rw[Oa6,A.out.len]
    refine Kcm bh bc b ex first bu Z cap hs cols sv bE (z.map fun q=>(q.1,q.2.1)) (z.map (·.2.2)) p bi bj _ (A.out.wk.below bx) (bX.out.1.keep cb) (fun br bO=>by have:=bX.out.2.1 br bO;have:=A.out.le;omega) bX.out.2.2.1 (Ob2 cu cb.size) cH.out.1 (by have:=cH.out.2;have:=A.out.le;omega) ?_ (fun br bO=>?_) (fun br bO i hi=>?_) (by rw[bQ];exact dE) (by have:=cF.out;have:=A.out.le;omega) (by have:=cF.out;have:=A.out.le;omega) ?_
    ·by_cases db:z=[]
     ·exact .inl (by rw[db];rfl)
     exact .inr (Jcs (A.out.own.below bx) bL db (fun q K=>(A.out.vals q K).1.below bx) fun q K g o e=>(A.out.off q K g o e).1)
    ·obtain⟨q,K,dx⟩:=dA br bO
     rw[dx]
     exact(A.out.vals q K).2.1
    ·rw[←Jdj _ _ _ bO]
     exact Jg3 (dG i hi) _
    exact⟨cb.cell bY.out.1.d (by exact fun e=>bY.out.2.1 e.symm),cb.cell bY.out.1.o (by exact fun e=>bY.out.2.2 e.symm)⟩
   rw[←hf]at cA
   have cG:Hid (Calls prog f #[.pointer (some ⟨b,0,none⟩),p.val] (wr.alloc (.cells #[.int .i64 p.op,.int .i64 p.l,.int .i64 p.r,.int .i64 p.c,.int .i64 p.v.k,.int .i64 p.v.n,.string p.v.s,.func (.func f) #[.pointer (some ⟨b,0,none⟩)] #[]] 278)).drew (Jbi bh bc bi bj b ex (.slice (some ⟨Z,0,none⟩) cols.length cap) first bu sv bE (z.map (·.2.2)).length (wr.alloc (.cells #[.int .i64 p.op,.int .i64 p.l,.int .i64 p.r,.int .i64 p.c,.int .i64 p.v.k,.int .i64 p.v.n,.string p.v.s,.func (.func f) #[.pointer (some ⟨b,0,none⟩)] #[]] 278)).drew fun i=>Qp p (Ji cols i) (Ji (z.map (·.2.2)) i))):=cA
   clear hf cc cA
   have dH:∀ (a:Addr) (W:World),(store a (.func (.func f) #[.pointer (some ⟨b,0,none⟩)] #[])).run prog W=stored prog W a (.func (.func f) #[.pointer (some ⟨b,0,none⟩)] #[]) .plain:=fun a W=>run_store _ _ _ _ _ rfl
   go_upto_region 5 with fail
   clear dH
   have U:wr.heap.size≠b:=by omega
   have cX:=heap_alloc_new wr (.cells #[.int .i64 p.op,.int .i64 p.l,.int .i64 p.r,.int .i64 p.c,.int .i64 p.v.k,.int .i64 p.v.n,.string p.v.s,.func (.func f) #[.pointer (some ⟨b,0,none⟩)] #[]] 278)
   have dX:(wr.alloc (.cells #[.int .i64 p.op,.int .i64 p.l,.int .i64 p.r,.int .i64 p.c,.int .i64 p.v.k,.int .i64 p.v.n,.string p.v.s,.func (.func f) #[.pointer (some ⟨b,0,none⟩)] #[]] 278)).drew.cell? ⟨b,4,none⟩=some sv:=Jh (Kf cj)
   obtain⟨dh,cV,de,df,dg⟩:=info_parts Jps
   refine wp_region_held_drew (S:=fun bn=>bn.cell? ⟨wr.heap.size,0,none⟩=some (.int .i64 p.op)∧bn.cell? ⟨wr.heap.size,1,none⟩=some (.int .i64 p.l)∧bn.cell? ⟨wr.heap.size,2,none⟩=some (.int .i64 p.r)∧bn.cell? ⟨wr.heap.size,3,none⟩=some (.int .i64 p.c)∧bn.cell? ⟨wr.heap.size,4,none⟩=some (.int .i64 p.v.k)∧bn.cell? ⟨wr.heap.size,5,none⟩=some (.int .i64 p.v.n)∧bn.cell? ⟨wr.heap.size,6,none⟩=some (.string p.v.s)∧bn.cell? ⟨wr.heap.size,7,none⟩=some (.func (.func f) #[.pointer (some ⟨b,0,none⟩)] #[])) (by kernel_rfl) (by refine⟨?_,?_,?_,?_,?_,?_,?_,?_⟩<;>(unfold World.cell?;rw[heap_drew,cX];rfl)) (fun y=>?_)
   refine tk 0 ?_ rfl y ?_ (tk 1 ?_ rfl y ?_ (tk 2 ?_ rfl y ?_ (tk 3 ?_ rfl y ?_ (tk 5 ?_ rfl y ?_ (tk 6 ?_ rfl y ?_ (tk 7 ?_ rfl y ?_ (tk 8 ?_ rfl y ?_ ?_)))))))
   iterate 8
    rotate_left 1
    ·intro w bI;(try dsimp only at bI);go_simp;try rfl
   simp only[Act.put,List.getElem_toArray,List.getElem_cons_zero,List.getElem_cons_succ,Oa1,List.set_cons_zero,List.set_cons_succ]
   clear cX dN dO dP dQ dR dS dT dk
   refine wpAnyH_ready (rs:=[4,9]) (by kernel_rfl) (by simp) (AllReadyH.cons rfl (fun M D=>?_) (AllReadyH.cons rfl (fun M D=>?_) AllReadyH.nil))
   ·go_simp
    refine D.out _ _ y (fun y=>?_)
    clear D M
    refine wpAnyH_ready (rs:=[9]) (by kernel_rfl) (by simp) (AllReadyH.cons rfl (fun M D=>?_) AllReadyH.nil)
    go_simp
    refine cG.out.mono ?_
    rintro e C ⟨a,m,c,vs,rfl,bT,bR,bV,bW,bB⟩
    obtain⟨cl,bD,_⟩:=Jpw bB
    have ca:=bD.cells.2.2.2.2.1
    have cn:=bD.thaw 4
    have H:=bB.1
    have bU:=Jm2 (A.out.own.below bx) bL H
    have bl:Hid ((∀ g o,a=some ⟨g,o,none⟩→g≠b∧g<C.heap.size∧(g<bh∨(wr.alloc (.cells #[.int .i64 p.op,.int .i64 p.l,.int .i64 p.r,.int .i64 p.c,.int .i64 p.v.k,.int .i64 p.v.n,.string p.v.s,.func (.func f) #[.pointer (some ⟨b,0,none⟩)] #[]] 278)).drew.heap.size≤g))∧(bu≤vs.length∧vs.length≤bc)∧Jv C a vs∧(∀ i,i<m→vs.getD i Jf=(Qp p (Ji cols i) (Ji (z.map (·.2.2)) i)).1)∧Je5 bi bj b ex (.slice (some ⟨Z,0,none⟩) cols.length cap) first bu sv bE (z.map (·.2.2)).length (wr.alloc (.cells #[.int .i64 p.op,.int .i64 p.l,.int .i64 p.r,.int .i64 p.c,.int .i64 p.v.k,.int .i64 p.v.n,.string p.v.s,.func (.func f) #[.pointer (some ⟨b,0,none⟩)] #[]] 278)).drew (fun i=>(Qp p (Ji cols i) (Ji (z.map (·.2.2)) i)).2) m C):=⟨bT,bR,bV,bW,bB⟩
    have dp:Hid (Uz C b ex (.slice (some ⟨Z,0,none⟩) cols.length cap) first m sv cl):=bD
    have ch:Hid (Jo C w.heap.size 58 sv (z.map slV)):=bU
    clear bT bR bV bW bB bU bD
    go_simp
    refine D.out _ _ ⟨H.cell y.1 U,H.cell y.2.1 U,H.cell y.2.2.1 U,H.cell y.2.2.2.1 U,H.cell y.2.2.2.2.1 U,H.cell y.2.2.2.2.2.1 U,H.cell y.2.2.2.2.2.2.1 U,H.cell y.2.2.2.2.2.2.2 U⟩ (fun y=>?_)
    clear D M
    refine wpAnyH_ready (rs:=[10]) (by kernel_rfl) (by simp) (AllReadyH.cons rfl (fun M D=>?_) AllReadyH.nil)
    go_simp
    have E:Below C.heap.size C (C.alloc (.cells #[.slice a vs.length c] 58)):=Jc (Oa5 _ _) _
    refine D.out _ _ ⟨Ja E y.1,Ja E y.2.1,Ja E y.2.2.1,Ja E y.2.2.2.1,Ja E y.2.2.2.2.1,Ja E y.2.2.2.2.2.1,Ja E y.2.2.2.2.2.2.1,Ja E y.2.2.2.2.2.2.2⟩ (fun y=>?_)
    clear D M
    refine wpAnyH_ready (rs:=[11]) (by kernel_rfl) (by simp) (AllReadyH.cons rfl (fun M D=>?_) AllReadyH.nil)
    have cC:(C.alloc (.cells #[.slice a vs.length c] 58)).ownsRow w.heap.size 58 1 sv z.length (z.map slV):=by
     have:=ch.out.below E
     unfold Jo at this
     rwa [Oa6]at this
    have cx:(C.alloc (.cells #[.slice a vs.length c] 58)).heap[C.heap.size]?=some (.cells #[.slice a vs.length c] 58 (0,0)):=heap_alloc_new C _
    have dV:=H.size
    have dW:=bx.size
    refine step_append_lies (C.alloc (.cells #[.slice a vs.length c] 58)) rfl (.tmp 20) (.tmp 26) 74 rfl w.heap.size 58 dh (.slice none 0 0) 1 24 underlying74 cV de df dg rfl (by decide) sv z.length (z.map slV) rfl cC ⟨C.heap.size,0,none⟩ 1 1 [.slice a vs.length c] rfl rfl (fun j u bC=>World.news_of_block cx j u (by simpa using bC)) (fun u bC=>by simp at bC;subst bC;rfl) (by decide) (by unfold maxLen;have:=A.out.len;omega) (by have:=A.out.len;omega) (by rw[Oa7];omega) (C.heap.size+1) (by simp) (fun bH bG bf cB bA cv dD=>?_)
    have dU:=bA.size
    have bS:∀ g,sv.ownBlock=some g→w.heap.size≤g∧g<wr.heap.size:=fun g e=>Je A.out.own e
    have bJ:bf.heap[b]?=C.heap[b]?:=by rw[bA.block b (by simp;omega) (fun e=>by have:=bS b e.symm;omega),Oa9 _ _ b (by omega)]
    have R:∀ o:Nat,bf.cell? ⟨wr.heap.size,o,none⟩=(C.alloc (.cells #[.slice a vs.length c] 58)).cell? ⟨wr.heap.size,o,none⟩:=fun o=>by simp only[World.cell?,bA.block wr.heap.size (Jm y.1) (fun e=>by have:=bS _ e.symm;omega)]
    refine D.out _ _ ⟨(R 0).trans y.1,(R 1).trans y.2.1,(R 2).trans y.2.2.1,(R 3).trans y.2.2.2.1,(R 4).trans y.2.2.2.2.1,(R 5).trans y.2.2.2.2.2.1,(R 6).trans y.2.2.2.2.2.2.1,(R 7).trans y.2.2.2.2.2.2.2⟩ (fun y=>?_)
    clear D M R
    have cD:bf.cell? ⟨b,4,none⟩=some sv:=by rw[←ca];simp only[World.cell?,bJ]
    have cr:bf.frozen? ⟨b,4,none⟩=false:=by rw[←cn];simp only[World.frozen?,bJ]
    simp only[Act.put,List.getElem_toArray,List.getElem_cons_zero,List.getElem_cons_succ,Oa1,List.set_cons_zero,List.set_cons_succ]
    refine tk 12 ?_ rfl y ?_ (tk 13 ?_ rfl y ?_ ?_)
    iterate 2
     rotate_left 1
     ·intro w bI;(try dsimp only at bI);go_simp;try rfl
    simp only[Act.put,List.getElem_toArray,List.getElem_cons_zero,List.getElem_cons_succ,Oa1,List.set_cons_zero,List.set_cons_succ]
    refine wpAnyH_ready (rs:=[14]) (by kernel_rfl) (by simp) (AllReadyH.cons rfl (fun M D=>?_) AllReadyH.nil)
    go_simp
    have O:∀ o:Nat,(bf.setCell ⟨b,4,none⟩ (.slice (some ⟨bH,0,none⟩) (z.length+1) bG)).cell? ⟨wr.heap.size,o,none⟩=bf.cell? ⟨wr.heap.size,o,none⟩:=fun o=>Ob5 _ _ _ _ (fun e=>U (congrArg Addr.block e).symm)
    refine D.out _ _ ⟨(O 0).trans y.1,(O 1).trans y.2.1,(O 2).trans y.2.2.1,(O 3).trans y.2.2.2.1,(O 4).trans y.2.2.2.2.1,(O 5).trans y.2.2.2.2.2.1,(O 6).trans y.2.2.2.2.2.2.1,(O 7).trans y.2.2.2.2.2.2.2⟩ (fun y=>?_)
    clear D M O
    refine wpAnyH_done (by kernel_rfl) ?_ _
    clear y cD cr bJ
    obtain⟨bN,bP⟩:=Joe A.out bL cu cI.out bx bl.out.1 bl.out.2.1 bl.out.2.2.1 bl.out.2.2.2.1 bl.out.2.2.2.2 bA (by simpa using cB) cv
    have cf:Hid (ExS bh bc w b ex (.slice (some ⟨Z,0,none⟩) cols.length cap) first n m bz bN (.slice (some ⟨bH,0,none⟩) (z.length+1) bG) (z++[(a,c,vs)]) cols es (j+1) bi bj (bf.setCell ⟨b,4,none⟩ (.slice (some ⟨bH,0,none⟩) (z.length+1) bG))):=bP
    clear bP
    go_wp2
    go_roundw
    case rel=>exact⟨j+1,m,bN,_,_,by omega,by go_num,cf⟩
    case measure=>simp[intOf];omega
   go_simp
   refine cG.out.mono ?_
   rintro e C ⟨a,m,c,vs,rfl,bT,bR,bV,bW,bB⟩
   obtain⟨cl,bD,_⟩:=Jpw bB
   have ca:=bD.cells.2.2.2.2.1
   have cn:=bD.thaw 4
   have H:=bB.1
   have bU:=Jm2 (A.out.own.below bx) bL H
   have bl:Hid ((∀ g o,a=some ⟨g,o,none⟩→g≠b∧g<C.heap.size∧(g<bh∨(wr.alloc (.cells #[.int .i64 p.op,.int .i64 p.l,.int .i64 p.r,.int .i64 p.c,.int .i64 p.v.k,.int .i64 p.v.n,.string p.v.s,.func (.func f) #[.pointer (some ⟨b,0,none⟩)] #[]] 278)).drew.heap.size≤g))∧(bu≤vs.length∧vs.length≤bc)∧Jv C a vs∧(∀ i,i<m→vs.getD i Jf=(Qp p (Ji cols i) (Ji (z.map (·.2.2)) i)).1)∧Je5 bi bj b ex (.slice (some ⟨Z,0,none⟩) cols.length cap) first bu sv bE (z.map (·.2.2)).length (wr.alloc (.cells #[.int .i64 p.op,.int .i64 p.l,.int .i64 p.r,.int .i64 p.c,.int .i64 p.v.k,.int .i64 p.v.n,.string p.v.s,.func (.func f) #[.pointer (some ⟨b,0,none⟩)] #[]] 278)).drew (fun i=>(Qp p (Ji cols i) (Ji (z.map (·.2.2)) i)).2) m C):=⟨bT,bR,bV,bW,bB⟩
   have dp:Hid (Uz C b ex (.slice (some ⟨Z,0,none⟩) cols.length cap) first m sv cl):=bD
   have ch:Hid (Jo C w.heap.size 58 sv (z.map slV)):=bU
   clear bT bR bV bW bB bU bD
   go_simp
   refine D.out _ _ ⟨H.cell y.1 U,H.cell y.2.1 U,H.cell y.2.2.1 U,H.cell y.2.2.2.1 U,H.cell y.2.2.2.2.1 U,H.cell y.2.2.2.2.2.1 U,H.cell y.2.2.2.2.2.2.1 U,H.cell y.2.2.2.2.2.2.2 U⟩ (fun y=>?_)
   clear D M
   refine wpAnyH_ready (rs:=[4,10]) (by kernel_rfl) (by simp) (AllReadyH.cons rfl (fun M D=>?_) (AllReadyH.cons rfl (fun M D=>?_) AllReadyH.nil))
   focus
    go_simp
    refine D.out _ _ y (fun y=>?_)
    clear D M
    refine wpAnyH_ready (rs:=[10]) (by kernel_rfl) (by simp) (AllReadyH.cons rfl (fun M D=>?_) AllReadyH.nil)
    go_simp
    have E:Below C.heap.size C (C.alloc (.cells #[.slice a vs.length c] 58)):=Jc (Oa5 _ _) _
    refine D.out _ _ ⟨Ja E y.1,Ja E y.2.1,Ja E y.2.2.1,Ja E y.2.2.2.1,Ja E y.2.2.2.2.1,Ja E y.2.2.2.2.2.1,Ja E y.2.2.2.2.2.2.1,Ja E y.2.2.2.2.2.2.2⟩ (fun y=>?_)
   rotate_left 1
   focus
    go_simp
    have E:Below C.heap.size C (C.alloc (.cells #[.slice a vs.length c] 58)):=Jc (Oa5 _ _) _
    refine D.out _ _ ⟨Ja E y.1,Ja E y.2.1,Ja E y.2.2.1,Ja E y.2.2.2.1,Ja E y.2.2.2.2.1,Ja E y.2.2.2.2.2.1,Ja E y.2.2.2.2.2.2.1,Ja E y.2.2.2.2.2.2.2⟩ (fun y=>?_)
    clear D M
    have dY:=Ja E ca
    refine wpAnyH_ready (rs:=[4]) (by kernel_rfl) (by simp) (AllReadyH.cons rfl (fun M D=>?_) AllReadyH.nil)
    go_simp
    refine D.out _ _ y (fun y=>?_)
   all_goals
    clear D M
    refine wpAnyH_ready (rs:=[11]) (by kernel_rfl) (by simp) (AllReadyH.cons rfl (fun M D=>?_) AllReadyH.nil)
    have cC:(C.alloc (.cells #[.slice a vs.length c] 58)).ownsRow w.heap.size 58 1 sv z.length (z.map slV):=by
     have:=ch.out.below E
     unfold Jo at this
     rwa [Oa6]at this
    have cx:(C.alloc (.cells #[.slice a vs.length c] 58)).heap[C.heap.size]?=some (.cells #[.slice a vs.length c] 58 (0,0)):=heap_alloc_new C _
    have dV:=H.size
    have dW:=bx.size
    refine step_append_lies (C.alloc (.cells #[.slice a vs.length c] 58)) rfl (.tmp 20) (.tmp 26) 74 rfl w.heap.size 58 dh (.slice none 0 0) 1 24 underlying74 cV de df dg rfl (by decide) sv z.length (z.map slV) rfl cC ⟨C.heap.size,0,none⟩ 1 1 [.slice a vs.length c] rfl rfl (fun j u bC=>World.news_of_block cx j u (by simpa using bC)) (fun u bC=>by simp at bC;subst bC;rfl) (by decide) (by unfold maxLen;have:=A.out.len;omega) (by have:=A.out.len;omega) (by rw[Oa7];omega) (C.heap.size+1) (by simp) (fun bH bG bf cB bA cv dD=>?_)
    have dU:=bA.size
    have bS:∀ g,sv.ownBlock=some g→w.heap.size≤g∧g<wr.heap.size:=fun g e=>Je A.out.own e
    have bJ:bf.heap[b]?=C.heap[b]?:=by rw[bA.block b (by simp;omega) (fun e=>by have:=bS b e.symm;omega),Oa9 _ _ b (by omega)]
    have R:∀ o:Nat,bf.cell? ⟨wr.heap.size,o,none⟩=(C.alloc (.cells #[.slice a vs.length c] 58)).cell? ⟨wr.heap.size,o,none⟩:=fun o=>by simp only[World.cell?,bA.block wr.heap.size (Jm y.1) (fun e=>by have:=bS _ e.symm;omega)]
    refine D.out _ _ ⟨(R 0).trans y.1,(R 1).trans y.2.1,(R 2).trans y.2.2.1,(R 3).trans y.2.2.2.1,(R 4).trans y.2.2.2.2.1,(R 5).trans y.2.2.2.2.2.1,(R 6).trans y.2.2.2.2.2.2.1,(R 7).trans y.2.2.2.2.2.2.2⟩ (fun y=>?_)
    clear D M R
    have cD:bf.cell? ⟨b,4,none⟩=some sv:=by rw[←ca];simp only[World.cell?,bJ]
    have cr:bf.frozen? ⟨b,4,none⟩=false:=by rw[←cn];simp only[World.frozen?,bJ]
    simp only[Act.put,List.getElem_toArray,List.getElem_cons_zero,List.getElem_cons_succ,Oa1,List.set_cons_zero,List.set_cons_succ]
    refine tk 12 ?_ rfl y ?_ (tk 13 ?_ rfl y ?_ ?_)
    iterate 2
     rotate_left 1
     ·intro w bI;(try dsimp only at bI);go_simp;try rfl
    simp only[Act.put,List.getElem_toArray,List.getElem_cons_zero,List.getElem_cons_succ,Oa1,List.set_cons_zero,List.set_cons_succ]
    refine wpAnyH_ready (rs:=[14]) (by kernel_rfl) (by simp) (AllReadyH.cons rfl (fun M D=>?_) AllReadyH.nil)
    go_simp
    have O:∀ o:Nat,(bf.setCell ⟨b,4,none⟩ (.slice (some ⟨bH,0,none⟩) (z.length+1) bG)).cell? ⟨wr.heap.size,o,none⟩=bf.cell? ⟨wr.heap.size,o,none⟩:=fun o=>Ob5 _ _ _ _ (fun e=>U (congrArg Addr.block e).symm)
    refine D.out _ _ ⟨(O 0).trans y.1,(O 1).trans y.2.1,(O 2).trans y.2.2.1,(O 3).trans y.2.2.2.1,(O 4).trans y.2.2.2.2.1,(O 5).trans y.2.2.2.2.2.1,(O 6).trans y.2.2.2.2.2.2.1,(O 7).trans y.2.2.2.2.2.2.2⟩ (fun y=>?_)
    clear D M O
    refine wpAnyH_done (by kernel_rfl) ?_ _
    clear y cD cr bJ
    obtain⟨bN,bP⟩:=Joe A.out bL cu cI.out bx bl.out.1 bl.out.2.1 bl.out.2.2.1 bl.out.2.2.2.1 bl.out.2.2.2.2 bA (by simpa using cB) cv
    have cf:Hid (ExS bh bc w b ex (.slice (some ⟨Z,0,none⟩) cols.length cap) first n m bz bN (.slice (some ⟨bH,0,none⟩) (z.length+1) bG) (z++[(a,c,vs)]) cols es (j+1) bi bj (bf.setCell ⟨b,4,none⟩ (.slice (some ⟨bH,0,none⟩) (z.length+1) bG))):=bP
    clear bP
    go_wp2
    go_roundw
    case rel=>exact⟨j+1,m,bN,_,_,by omega,by go_num,cf⟩
    case measure=>simp[intOf];omega
  obtain rfl:j=es.length:=by omega
  clear cW
  obtain⟨X,cz⟩:∃ X,es.length=X+1:=⟨es.length-1,by omega⟩
  have bQ:z.length=X+1:=by rw[A.out.len,cz]
  have H:X<z.length:=by omega
  obtain⟨di,cp,dd,cN⟩:=Jcs A.out.own bL (fun e=>by rw[e]at H;simp at H) (fun q K=>(A.out.vals q K).1) fun q K g o e=>(A.out.off q K g o e).1
  have bM:=cN.cell X (by rw[Oa6];exact H)
  obtain⟨q,K⟩:∃ q,z[X]?=some q:=⟨_,Oa3 H⟩
  have g1:(z.map (·.2.2)).getD X []=q.2.2:=by rw[Oa0,Ob1,K];rfl
  have g2:Yo (z.map fun q=>(q.1,q.2.1)) X=(q.1,q.2.1):=by unfold Yo;rw[Oa0,Ob1,K];rfl
  rw[g1,g2]at bM
  simp only at bM
  rw[Oa6,bQ]at dd
  have bK:q∈z:=Of6 K
  have cU:Jwi bh bc bi bj b ex (.slice (some ⟨Z,0,none⟩) cols.length cap) first n bz cols es w (.returned (.slice q.1 q.2.2.length q.2.1)) wr.drew:=by
   refine⟨q.1,q.2.1,bu,q.2.2,sv,bE,rfl,fun g o e=>⟨(A.out.off q bK g o e).1,(A.out.off q bK g o e).2.1,(A.out.off q bK g o e).2.2.2⟩,(A.out.vals q bK).1,(A.out.vals q bK).2.1,(A.out.vals q bK).2.2,A.out.le,fun i hi=>?_,A.out.keep.drewN 1,A.out.wk,A.out.err⟩
   have dc:=A.out.run i hi
   rw[Oc8 (Oa2 _)]at dc
   rw[Ke8 dc,←g1,←Jdj _ _ _ (by rw[Oa6];exact H)]
   congr 1
   have dC:(Ji (z.map (·.2.2)) i).length=X+1:=by rw[Yk,Oa6,bQ]
   rw[Ok7,Om6,dC,Oa0,Nat.add_sub_cancel]
  have bZ:Hid (Jwi bh bc bi bj b ex (.slice (some ⟨Z,0,none⟩) cols.length cap) first n bz cols es w (.returned (.slice q.1 q.2.2.length q.2.1)) wr.drew):=cU
  rw[dd]at cj
  have fb:IntKind.i64.wrap ((X:Int)+1-1)=(X:Int):=by rw[Od4];omega
  have fc:IntKind.i64.wrap (X:Int)=(X:Int):=by rw[Od4];omega
  have fd:(0:Int)≤(X:Int):=by omega
  have fe:(X:Int)<(X:Int)+1:=by omega
  generalize q.2.2.length=dL at bM bZ
  generalize q.1=dJ at bM bZ
  generalize q.2.1=dK at bM bZ
  clear cU g1 g2 K cN bK bQ H A dq dr ds dt du c0 c1 c2 c3 c4 c5 dv
  rw[cz]
  clear cz dy dz dB
  go_upto_region 7 with fail
  refine wp_region_held_drew (S:=fun bn=>bn.cell? ⟨b,4,none⟩=some (.slice (some ⟨di,0,none⟩) (X+1) cp)∧bn.cell? ⟨di,X,none⟩=some (.slice dJ dL dK)) (by kernel_rfl) ⟨cj,bM⟩ (fun y=>?_)
  refine tk 0 ?_ rfl y ?_ (tk 1 ?_ rfl y ?_ (tk 2 ?_ rfl y ?_ (tk 3 ?_ rfl y ?_ (tk 4 ?_ rfl y ?_ (tk 5 ?_ rfl y ?_ (tk 6 ?_ rfl y ?_ (tk 7 ?_ rfl y ?_ (tk 8 ?_ rfl y ?_ (tk 9 ?_ rfl y ?_ (tk 10 ?_ rfl y ?_ (tk 11 ?_ rfl y ?_ (tk 12 ?_ rfl y ?_ ?_))))))))))))
  iterate 13
   rotate_left 1
   ·intro w bI;(try dsimp only at bI);go_simp;try rfl
  simp only[Act.put,List.getElem_toArray,List.getElem_cons_zero,List.getElem_cons_succ,Oa1,List.set_cons_zero,List.set_cons_succ]
  refine wpAnyH_done (by kernel_rfl) ?_ _
  go_wp2
  go_ret
  exact bZ.out
end Go.Proofs.YtjjdldddcegjiaaGreatDoor
