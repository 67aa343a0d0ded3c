/- An expression worked on a batch. -/
import Derived.Test.YtpchafocmlhmbaaGreatDoorXf
import Derived.Test.YtpchafocmlhmbaaGreatDoorHc
set_option maxHeartbeats 2000000
set_option maxRecDepth 100000
namespace Go.Proofs.YtpchafocmlhmbaaGreatDoor
open Go.RowKit Go.Shelf Tryz
attribute [local go_sem] Oc0
abbrev slV (q:Option Addr×Nat×List V):Value:=.slice q.1 q.2.2.length q.2.1
def Jp6 (w:World)(g o b:Nat)(p:Pt):Prop:=
 w.cell? ⟨g,o,none⟩=some (.int .i64 p.op)∧w.cell? ⟨g,o+1,none⟩=some (.int .i64 p.l)∧w.cell? ⟨g,o+2,none⟩=some (.int .i64 p.r)∧w.cell? ⟨g,o+3,none⟩=some (.int .i64 p.c)∧w.cell? ⟨g,o+4,none⟩=some (.int .i64 p.v.k)∧w.cell? ⟨g,o+5,none⟩=some (.int .i64 p.v.n)∧w.cell? ⟨g,o+6,none⟩=some (.string p.v.s)∧w.cell? ⟨g,o+7,none⟩=some (.func (.func (Zv p.op)) #[.pointer (some ⟨b,0,none⟩)] #[])
theorem Jp6.keep {w w':World}{g o b:Nat}{p:Pt}(h:Jp6 w g o b p)(D:Ju (·=b) w w')(y:g≠b):Jp6 w' g o b p:=
 ⟨D.cell h.1 y,D.cell h.2.1 y,D.cell h.2.2.1 y,D.cell h.2.2.2.1 y,D.cell h.2.2.2.2.1 y,D.cell h.2.2.2.2.2.1 y,D.cell h.2.2.2.2.2.2.1 y,D.cell h.2.2.2.2.2.2.2 y⟩
structure Jco (w:World) (g b:Nat) (es:List Pt):Prop where
 ne:g≠b
 step:∀ j p,es[j]?=some p→Jp6 w g (j*8) b p
theorem Jco.keep {w w':World}{g b:Nat}{es:List Pt}(h:Jco w g b es)(D:Ju (·=b) w w'):Jco w' g b es:=⟨h.ne,fun j p y=>(h.step j p y).keep D h.ne⟩
theorem Js0 (op:Int)(args:Array Value)(W:World):(callFunc (Zv op) args).run prog W=.ok (.enter (Zv op) args) W:=by
 unfold Zv;repeat (split;(first|kernel_rfl|skip))
 kernel_rfl
def Jrv (R X:Addr)(Y w':World)(cols:List (List V))(O:List V→Nat→Prop)(first K y:Nat)(U H:Value):Prop:=
 (y=K∧H=U)∨(y<K∧∃ E D kk:Nat,D≠0∧O (Ji cols y) D∧H=Qv E∧Y.heap.size≤E∧Ja8 w' E ((first+y:Nat):Int) kk (Jdb R X D))
theorem Ja8.of_block {w w':World}{y:Nat}{row D:Int}{E:Value}(h:Ja8 w y row D E)(e:w'.heap[y]?=w.heap[y]?):Ja8 w' y row D E:=e.trans h
theorem Jrv.of_blocks {H Z:Addr}{D w w':World}{cols:List (List V)}{E:List V→Nat→Prop}{first Y X:Nat}{O K:Value}(h:Jrv H Z D w cols E first Y X O K)(bj:∀ y row bn br,D.heap.size≤y→Ja8 w y row bn br→w'.heap[y]?=w.heap[y]?):Jrv H Z D w' cols E first Y X O K:=by
 rcases h with h|⟨bc,y,ba,kk,bf,bh,bi,R,U⟩
 ·exact .inl h
 exact .inr ⟨bc,y,ba,kk,bf,bh,bi,R,U.of_block (bj y _ _ _ R U)⟩
structure ExS (B0 M:Nat) (w:World) (b:Nat) (ex ba:Value) (first n0 n':Nat) (er0 er' sv:Value) (qs:List (Option Addr×Nat×List V)) (cols:List (List V)) (es:List Pt) (j:Nat) (dv ov:Addr) (wr:World):Prop where
 own:Jo wr w.heap.size 40 sv (qs.map slV)
 wk:Uz wr b ex ba first n' sv er'
 keep:Ju (·=b) w wr
 len:qs.length=j
 vals:∀ q∈qs,Jv wr q.1 q.2.2∧n'≤q.2.2.length∧q.2.2.length≤M
 off:∀ q∈qs,∀ g o,q.1=some ⟨g,o,none⟩→g≠b∧g<wr.heap.size∧sv.ownBlock≠some g∧(g<B0∨w.heap.size≤g)
 le:n'≤n0
 run:∀ i,i<n'→Yy (es.take j) (Ji cols i) []=.inl (Ji (qs.map (·.2.2)) i)
 err:Jrv dv ov w wr cols (fun x c=>Yy es x []=.inr c) first n0 n' er0 er'
theorem Jpw {K O:Addr}{b:Nat}{ex H:Value}{first n:Nat}{R er:Value}{k:Nat}{w:World}{D:Nat→Nat}{m:Nat}{w':World}(h:Je5 K O b ex H first n R er k w D m w') :
  ∃ E,Uz w' b ex H first m R E∧((m=n∧E=er)∨(m<n∧D m≠0∧∃ y,E=Qv y∧w.heap.size≤y∧Ja8 w' y ((first+m:Nat):Int) k (Jdb K O (D m)))):=by
 obtain⟨_,_,_,h|⟨U,X,y,Y,Z,ba⟩⟩:=h
 ·obtain⟨rfl,h⟩:=h;exact⟨er,h,.inl ⟨rfl,rfl⟩⟩
 exact⟨_,Z,.inr ⟨U,X,y,rfl,Y,ba⟩⟩
theorem Jwj (ps:List (List V))(vs:List V)(i:Nat):Ji (ps++[vs]) i=Ji ps i++[vs.getD i Jf]:=by simp[Ji]
theorem Jmb {w:World}{B:Nat}{sv:Value}{xs:List Value}{E:Nat}{row O:Int}{R:Value}(K:Jo w B 40 sv xs)(D:Ja8 w E row O R):sv.ownBlock≠some E:=fun e=>by
 obtain⟨_,⟨y,_⟩|⟨g,cap,U,y,_,H,_⟩⟩:=K
 ·rw[y]at e;cases e
 rw[y]at e;simp only[Value.ownBlock,Oc9]at e;subst e;unfold Ja8 at D;rw[H]at D;simp at D
theorem Joe {bn M:Nat}{w:World}{b:Nat}{ex br:Value}{first bT bJ:Nat}{bM bL sv:Value}{y:List (Option Addr×Nat×List V)}{cols:List (List V)}{es:List Pt}{j:Nat}{bC bK:Addr}{wr:World}(h:ExS bn M w b ex br first bT bJ bM bL sv y cols es j bC bK wr)(cj:b<w.heap.size)(ci:bn≤w.heap.size){p:Pt}(hp:es[j]?=some p){bB H:World}(bh:Below wr.heap.size wr bB)
  {a:Option Addr} {m c kk:Nat} {vs:List V} (bH:∀ g o,a=some ⟨g,o,none⟩→g≠b∧g<H.heap.size∧(g<bn∨bB.heap.size≤g)) (bY:bJ≤vs.length∧vs.length≤M) (cb:Jv H a vs) (cc:∀ i,i<m→vs.getD i Jf=(Qp p (Ji cols i) (Ji (y.map (·.2.2)) i)).1) (bR:Je5 bC bK b ex br first bJ sv bL kk bB (fun i=>(Qp p (Ji cols i) (Ji (y.map (·.2.2)) i)).2) m H)
  {K:World} {D R:Nat} (X:(H.alloc (.cells #[slV (a,c,vs)] 40)).grownBy K sv.ownBlock) (bZ:K.ownsRow w.heap.size 40 1 (.slice (some ⟨D,0,none⟩) (y.length+1) R) (y.length+1) (y.map slV++[slV (a,c,vs)])) (bD:sv.ownBlock=some D∨D=H.heap.size+1) :
  ∃ bz,ExS bn M w b ex br first bT m bM bz (.slice (some ⟨D,0,none⟩) (y.length+1) R) (y++[(a,c,vs)]) cols es (j+1) bC bK (K.setCell ⟨b,4,none⟩ (.slice (some ⟨D,0,none⟩) (y.length+1) R)):=by
 obtain⟨bz,cf,bV⟩:=Jpw bR;obtain⟨bi,bX,ch,_⟩:=bR;have cB:=h.keep.size;have cz:=bh.size;have z1:=bi.size;have cA:=X.size;have z2:(H.alloc (.cells #[slV (a,c,vs)] 40)).heap.size=H.heap.size+1:=by simp
 have bj:∀ g,sv.ownBlock=some g→w.heap.size≤g∧g<wr.heap.size:=fun g e=>Je h.own e;have cu:w.heap.size≤D:=by
  rcases bD with e|e
  ·exact(bj D e).1
  omega
 have bE:∀ k,k<wr.heap.size→k≠b→sv.ownBlock≠some k→(K.setCell ⟨b,4,none⟩ (.slice (some ⟨D,0,none⟩) (y.length+1) R)).heap[k]?=wr.heap[k]?:=fun k bA Y bG=>by
  rw[Oa4 _ _ _ _ Y,X.block k (by omega) (fun e=>bG e.symm),Oa9 _ _ k (by omega),bi.block k (by omega) Y,bh.block k bA]
 have bP:∀ k,k<H.heap.size→k≠b→sv.ownBlock≠some k→(K.setCell ⟨b,4,none⟩ (.slice (some ⟨D,0,none⟩) (y.length+1) R)).heap[k]?=H.heap[k]?:=fun k bA Y bG=>by
  rw[Oa4 _ _ _ _ Y,X.block k (by omega) (fun e=>bG e.symm),Oa9 _ _ k (by omega)]
 have cv:(K.setCell ⟨b,4,none⟩ (.slice (some ⟨D,0,none⟩) (y.length+1) R)).heap.size=K.heap.size:=by simp[World.setCell]
 have bQ:∀ g o,a=some ⟨g,o,none⟩→sv.ownBlock≠some g:=fun g o e U=>by
  have O:=bj g U;have Z:=bH g o e;omega
 refine⟨bz,?_,?_,?_,?_,?_,?_,Ob2 bX h.le,?_,?_⟩
 ·unfold Jo;rw[Ob8,Oa8,Oa6];refine Jl bZ fun g e=>?_;simp only[Value.ownBlock,Oc9]at e;subst e;exact Oa4 _ _ _ _ (by show D≠b;omega)
 ·have bU:Uz K b ex br first m sv bz:=by
   show K.heap[b]?=_;rw[X.block b (by omega) (fun e=>by have:=bj b e.symm;omega),Oa9 _ _ b (by omega)];exact cf
  have:=Jk bU 4 (.slice (some ⟨D,0,none⟩) (y.length+1) R);simp only[Oa1,List.set_cons_zero,List.set_cons_succ]at this;exact this
 ·have bx:=h.keep;refine⟨?_,?_,?_,by omega,fun k bA Y=>?_⟩
  ·exact X.os.trans (bi.os.trans (bh.os.trans bx.os))
  ·exact X.tape.trans (bi.tape.trans (bh.tape.trans bx.tape))
  ·exact X.output.trans (bi.output.trans (bh.output.trans bx.output))
  rw[bE k (by omega) Y (fun e=>by have:=bj k e;omega)];exact bx.block k bA Y
 ·rw[Oa8,List.length_singleton,h.len]
 ·intro q E;rw[Od2,Oc6]at E;rcases E with E|rfl
  ·obtain⟨O,Z,ba⟩:=h.vals q E;exact⟨O.of_block (by omega) fun g o e hl=>bE g hl (h.off q E g o e).1 (h.off q E g o e).2.2.1,by omega,ba⟩
  exact⟨cb.of_block (by omega) fun g o e hl=>bP g hl (bH g o e).1 (bQ g o e),by show m≤vs.length;omega,bY.2⟩
 ·intro q E g o e;rw[Od2,Oc6]at E;rcases E with E|rfl
  ·obtain⟨O,Z,ba,bN⟩:=h.off q E g o e;refine⟨O,by omega,fun U=>?_,bN⟩;simp only[Value.ownBlock,Oc9]at U;rcases bD with bc|bc
   ·exact ba (by rw[bc,U])
   omega
  obtain⟨O,Z,ba⟩:=bH g o e;refine⟨O,by omega,fun U=>?_,by omega⟩;simp only[Value.ownBlock,Oc9]at U;rcases bD with bc|bc
  ·exact bQ g o e (by rw[bc,U])
  omega
 ·intro i hi;have bI:es.take (j+1)=es.take j++[p]:=by
   rw[Oi7,hp];rfl
  rw[bI,Jsv p (h.run i (by omega)),if_pos (ch i hi),Ob8,List.map_singleton,Jwj,cc i hi]
 rcases bV with⟨rfl,rfl⟩|⟨O,Z,bf,ba,bN,bO⟩
 ·refine h.err.of_blocks fun bf row cx cy cn bS=>bE bf (Jd bS) (by omega) (Jmb h.own bS)
 refine .inr ⟨by have:=h.le;omega,bf,_,kk,Z,?_,ba,by omega,bO.of_block (bP bf (Jd bO) (by omega) ?_)⟩
 ·have bI:es=es.take j++(p::es.drop (j+1)):=by
   obtain⟨bW,ca⟩:=Ob9.1 hp;rw[←ca,←Oi1 bW,Ok3]
  show Yy es (Ji cols m) []=_;rw[bI,Jdz,h.run m O];simp only[Yy];rw[if_neg Z]
 intro e;have:=bj bf e;omega
theorem Jcs {w:World}{B b:Nat}{sv:Value}{D:List (Option Addr×Nat×List V)}(O:Jo w B 40 sv (D.map slV))(bh:b<B)(Z:D≠[])(bf:∀ q∈D,Jv w q.1 q.2.2)(ba:∀ q∈D,∀ g o,q.1=some ⟨g,o,none⟩→g≠b) :
  ∃ pb cp,sv=.slice (some ⟨pb,0,none⟩) (D.map (·.2.2)).length cp∧Jha w b pb (D.map fun q=>(q.1,q.2.1)) (D.map (·.2.2)):=by
 obtain⟨a,cap,bc,K⟩:=Ji8 O;have hl:0<D.length:=Oi9.2 Z;obtain⟨g,X,Y,_⟩:=K 0 (slV D[0]) (by rw[Ob1,Oa3 hl];rfl);subst X;have E:∀ j (y:j<D.length),((D.map (·.2.2)).getD j [])=D[j].2.2∧Yo (D.map fun q=>(q.1,q.2.1)) j=(D[j].1,D[j].2.1):=fun j y=>by
  constructor
  ·rw[Oa0,Ob1,Oa3 y];rfl
  unfold Yo;rw[Oa0,Ob1,Oa3 y];rfl
 refine⟨g,cap,by rw[bc,Oa6,Oa6],?_,fun j y=>?_,fun j y=>?_,fun j y R o e=>?_⟩
 ·have:=Je O Y;omega
 ·rw[Oa6]at y;rw[(E j y).1,(E j y).2];obtain⟨g2,H,_,U,_⟩:=K j (slV D[j]) (by rw[Ob1,Oa3 y];rfl);simp only[Oc9,Oh2,and_true]at H;rw[H];exact U
 ·rw[Oa6]at y;rw[(E j y).1,(E j y).2];exact bf _ (Ob3 y)
 rw[Oa6]at y;rw[(E j y).2]at e;exact ba _ (Ob3 y) R o e
def Kl (es:List Pt)(x:List V):V⊕Nat:=match Yy es x []with|.inl d=>.inl (d.getLastD Jf)|.inr c=>.inr c
theorem Ke8 {es:List Pt}{x d:List V}(h:Yy es x []=.inl d):Kl es x=.inl (d.getLastD Jf):=by unfold Kl;rw[h]
theorem Keu {es:List Pt}{x:List V}{c:Nat}(h:Yy es x []=.inr c):Kl es x=.inr c:=by unfold Kl;rw[h]
def Jwi (E M:Nat)(K O:Addr)(b:Nat)(ex H:Value)(first n:Nat)(er:Value)(cols:List (List V))(es:List Pt)(w:World):Ending→World→Prop:=fun e w'=>
 ∃ (a:Option Addr) (c y:Nat) (vs:List V) (R D:Value),e=.returned (.slice a vs.length c)∧(∀ g o,a=some ⟨g,o,none⟩→g≠b∧g<w'.heap.size∧(g<E∨w.heap.size≤g))∧Jv w' a vs∧y≤vs.length∧vs.length≤M∧y≤n∧(∀ i,i<y→Kl es (Ji cols i)=.inl (vs.getD i Jf))∧Ju (·=b) w w'∧Uz w' b ex H first y R D∧Jrv K O w w' cols (fun x c=>Yy es x []=.inr c) first n y er D
theorem Jm2 {w w':World}{B b:Nat}{sv:Value}{xs:List Value}(h:Jo w B 40 sv xs)(D:b<B)(y:Ju (·=b) w w'):Jo w' B 40 sv xs:=Jl h fun g e=>y.block g (Je h e).2 (by have:=(Je h e).1;show g≠b;omega)
theorem Jkm (bi M b:Nat)(ex:Value)(first n:Nat)(bf cap:Nat)(hs:List (Option Addr×Nat))(cols:List (List V))(di er:Value)(cG dK:Nat)(es:List Pt)(bj bn:Addr)(w:World)
  (bP:Uz w b ex (.slice (some ⟨bf,0,none⟩) cols.length cap) first n di er) (hC:Jha w b bf hs cols) (cU:∀ j,j<cols.length→n≤(cols.getD j []).length) (cT:∀ j,j<cols.length→∀ g o,(Yo hs j).1=some ⟨g,o,none⟩→g<bi) (cS:∀ i,i<n→∀ v∈Ji cols i,Jg v.n) (cQ:∀ j,j<cols.length→(cols.getD j []).length≤M) (cZ:n≤M)
  (cP:Jco w cG b es) (db:∀ j p,es[j]?=some p→Jr0 cols.length j p) (da:es≠[]) (dx:es.length≤1000) (hn:n≤100000) (hf:first+n≤10000000) (cM:Jdo w bj bn) (cx:bi≤w.heap.size) (cN:b≠10∧b≠11) :
  Calls prog 139 #[.pointer (some ⟨b,0,none⟩),.slice (some ⟨cG,0,none⟩) es.length dK] w (Jwi bi M bj bn b ex (.slice (some ⟨bf,0,none⟩) cols.length cap) first n er cols es w):=by
 obtain⟨c0,c1,c2,c3,c4,c5⟩:=bP.cells;have du:=bP.thaw 4;have bL:=Jd bP;have dk:Hid (Uz w b ex (.slice (some ⟨bf,0,none⟩) cols.length cap) first n di er):=bP;have bY:Hid (Jha w b bf hs cols∧(∀ j,j<cols.length→n≤(cols.getD j []).length)∧(∀ j,j<cols.length→∀ g o,(Yo hs j).1=some ⟨g,o,none⟩→g<bi)∧(∀ i,i<n→∀ v∈Ji cols i,Jg v.n)):=⟨hC,cU,cT,cS⟩;have ci:Hid (Jco w cG b es∧(∀ j p,es[j]?=some p→Jr0 cols.length j p)):=⟨cP,db⟩;have bZ:Hid (Jdo w bj bn∧b≠10∧b≠11):=⟨cM,cN⟩;have cH:Hid (n≤100000∧first+n≤10000000):=⟨hn,hf⟩;have cJ:Hid ((∀ j,j<cols.length→(cols.getD j []).length≤M)∧n≤M):=⟨cQ,cZ⟩;have dy:0<es.length:=Oi9.2 da;clear bP hC cU cT cS cQ cZ cP db cM cN hn hf da;go_enter func139,ntmps139
 go_wp2;go_loopw [12] (fun i wr=>∃ (j bz:Nat) (bG sv:Value) (D:List (Option Addr×Nat×List V)),j≤es.length∧i=.int .i64 (j:Int)∧Hid (ExS bi M w b ex (.slice (some ⟨bf,0,none⟩) cols.length cap) first n bz er bG sv D cols es j bj bn wr)) (fun i _=>es.length-(intOf i).toNat)
 case atStart=>
  refine⟨0,n,er,.slice none 0 0,[],Ob7 _,rfl,?_,?_,?_,rfl,fun q U=>by simp at U,fun q U=>by simp at U,Oa2 _,fun i _=>rfl,.inl ⟨rfl,rfl⟩⟩
  ·exact Jo.nil _ _ _
  ·have:=Jk dk.out 4 (.slice none 0 0);simp only[Oa1,List.set_cons_zero,List.set_cons_succ]at this;exact this
  exact Ju.set (F:=fun x=>x=b) (Ju.refl _ w) rfl 4 _
 case round=>
  obtain⟨j,bz,bG,sv,D,dA,rfl,E⟩:=hrel;obtain⟨dp,dq,dr,ds,cj,dt⟩:=E.out.wk.cells;have dX:=E.out.keep.size;by_cases cX:j<es.length
  ·obtain⟨p,hp⟩:∃ p,es[j]?=some p:=⟨_,Oa3 cX⟩;obtain⟨dL,dM,dN,dO,dP,dQ,dR,dj⟩:=(ci.out.1.keep E.out.keep).step j p hp;have dv:=Js0 p.op;obtain⟨f,hf⟩:∃ f,f=Zv p.op:=⟨_,rfl⟩;rw[←hf]at dj dv;have cK:Hid (es[j]?=some p):=hp;have j1:(0:Int)≤(j:Int):=(by omega);have j2:(j:Int)<(es.length:Int):=(by omega);have bA:Below wr.heap.size wr ((wr.alloc (.cells #[.int .i64 p.op,.int .i64 p.l,.int .i64 p.r,.int .i64 p.c,.int .i64 p.v.k,.int .i64 p.v.n,.string p.v.s,.func (.func f) #[.pointer (some ⟨b,0,none⟩)] #[]] 267)).drew):=Jj (Jc (Oa5 _ _) _);have cC:Calls prog (Zv p.op) #[.pointer (some ⟨b,0,none⟩),p.val] (wr.alloc (.cells #[.int .i64 p.op,.int .i64 p.l,.int .i64 p.r,.int .i64 p.c,.int .i64 p.v.k,.int .i64 p.v.n,.string p.v.s,.func (.func f) #[.pointer (some ⟨b,0,none⟩)] #[]] 267)).drew (Jbi bi M bj bn b ex (.slice (some ⟨bf,0,none⟩) cols.length cap) first bz sv bG (D.map (·.2.2)).length (wr.alloc (.cells #[.int .i64 p.op,.int .i64 p.l,.int .i64 p.r,.int .i64 p.c,.int .i64 p.v.k,.int .i64 p.v.n,.string p.v.s,.func (.func f) #[.pointer (some ⟨b,0,none⟩)] #[]] 267)).drew fun i=>Qp p (Ji cols i) (Ji (D.map (·.2.2)) i)):=by
    have cc:Ju (·=b) w (wr.alloc (.cells #[.int .i64 p.op,.int .i64 p.l,.int .i64 p.r,.int .i64 p.c,.int .i64 p.v.k,.int .i64 p.v.n,.string p.v.s,.func (.func f) #[.pointer (some ⟨b,0,none⟩)] #[]] 267)).drew:=E.out.keep.trans (Ju.of_below bA);have dD:∀ i,i<bz→∀ v∈Ji (D.map (·.2.2)) i,Jg v.n:=fun i hi=>Jo0 (W:=cols.length) (bY.out.2.2.2 i (by have:=E.out.le;omega)) (es.take j) [] _ (fun j2 q U=>by
     rw[Oe7]at U;split at U
     ·have:=ci.out.2 j2 q U;simpa using this
     cases U) (fun v dG=>by simp at dG) (E.out.run i hi)
    have dz:∀ j2,j2<(D.map (·.2.2)).length→∃ q∈D,(D.map (·.2.2)).getD j2 []=q.2.2:=fun j2 cA=>by
     rw[Oa6]at cA;exact⟨_,Ob3 cA,by rw[Oa0,Ob1,Oa3 cA];rfl⟩
    have dC:=ci.out.2 j p hp;have bR:(D.map (·.2.2)).length=j:=by rw[Oa6,E.out.len]
    refine Kcm bi M b ex first bz bf cap hs cols sv bG (D.map fun q=>(q.1,q.2.1)) (D.map (·.2.2)) p bj bn _ (E.out.wk.below bA) (bY.out.1.keep cc) (fun j2 bO=>by have:=bY.out.2.1 j2 bO;have:=E.out.le;omega) bY.out.2.2.1 (Ob2 cx cc.size) cJ.out.1 (by have:=cJ.out.2;have:=E.out.le;omega) ?_ (fun j2 bO=>?_) (fun j2 bO i hi=>?_) (by rw[bR];exact dC) (by have:=cH.out;have:=E.out.le;omega) (by have:=cH.out;have:=E.out.le;omega) ?_
    ·by_cases dc:D=[]
     ·exact .inl (by rw[dc];rfl)
     exact .inr (Jcs (E.out.own.below bA) bL dc (fun q U=>(E.out.vals q U).1.below bA) fun q U g o e=>(E.out.off q U g o e).1)
    ·obtain⟨q,U,dw⟩:=dz j2 bO;rw[dw];exact(E.out.vals q U).2.1
    ·rw[←Jdj _ _ _ bO];exact Jg3 (dD i hi) _
    exact⟨cc.cell bZ.out.1.d (by exact fun e=>bZ.out.2.1 e.symm),cc.cell bZ.out.1.o (by exact fun e=>bZ.out.2.2 e.symm)⟩
   rw[←hf]at cC;have cI:Hid (Calls prog f #[.pointer (some ⟨b,0,none⟩),p.val] (wr.alloc (.cells #[.int .i64 p.op,.int .i64 p.l,.int .i64 p.r,.int .i64 p.c,.int .i64 p.v.k,.int .i64 p.v.n,.string p.v.s,.func (.func f) #[.pointer (some ⟨b,0,none⟩)] #[]] 267)).drew (Jbi bi M bj bn b ex (.slice (some ⟨bf,0,none⟩) cols.length cap) first bz sv bG (D.map (·.2.2)).length (wr.alloc (.cells #[.int .i64 p.op,.int .i64 p.l,.int .i64 p.r,.int .i64 p.c,.int .i64 p.v.k,.int .i64 p.v.n,.string p.v.s,.func (.func f) #[.pointer (some ⟨b,0,none⟩)] #[]] 267)).drew fun i=>Qp p (Ji cols i) (Ji (D.map (·.2.2)) i))):=cC;clear hf hp cC;have dE:∀ (a:Addr) (W:World),(store a (.func (.func f) #[.pointer (some ⟨b,0,none⟩)] #[])).run prog W=stored prog W a (.func (.func f) #[.pointer (some ⟨b,0,none⟩)] #[]) .plain:=fun a W=>run_store _ _ _ _ _ rfl;go_upto_region 5 with fail
   clear dE;have ba:wr.heap.size≠b:=(by omega);have cY:=heap_alloc_new wr (.cells #[.int .i64 p.op,.int .i64 p.l,.int .i64 p.r,.int .i64 p.c,.int .i64 p.v.k,.int .i64 p.v.n,.string p.v.s,.func (.func f) #[.pointer (some ⟨b,0,none⟩)] #[]] 267);have dV:(wr.alloc (.cells #[.int .i64 p.op,.int .i64 p.l,.int .i64 p.r,.int .i64 p.c,.int .i64 p.v.k,.int .i64 p.v.n,.string p.v.s,.func (.func f) #[.pointer (some ⟨b,0,none⟩)] #[]] 267)).drew.cell? ⟨b,4,none⟩=some sv:=Jh (Kf cj);obtain⟨dh,cW,de,df,dg⟩:=info_parts Jps;refine wp_region_held_drew (S:=fun bx=>bx.cell? ⟨wr.heap.size,0,none⟩=some (.int .i64 p.op)∧bx.cell? ⟨wr.heap.size,1,none⟩=some (.int .i64 p.l)∧bx.cell? ⟨wr.heap.size,2,none⟩=some (.int .i64 p.r)∧bx.cell? ⟨wr.heap.size,3,none⟩=some (.int .i64 p.c)∧bx.cell? ⟨wr.heap.size,4,none⟩=some (.int .i64 p.v.k)∧bx.cell? ⟨wr.heap.size,5,none⟩=some (.int .i64 p.v.n)∧bx.cell? ⟨wr.heap.size,6,none⟩=some (.string p.v.s)∧bx.cell? ⟨wr.heap.size,7,none⟩=some (.func (.func f) #[.pointer (some ⟨b,0,none⟩)] #[])) (by kernel_rfl) (by refine⟨?_,?_,?_,?_,?_,?_,?_,?_⟩<;>(unfold World.cell?;rw[heap_drew,cY];rfl)) (fun y=>?_);refine tkj 0 rfl y ?_;refine tkj 1 rfl y ?_;refine tkj 2 rfl y ?_;refine tkj 3 rfl y ?_;refine tkj 5 rfl y ?_;refine tkj 6 rfl y ?_;refine tkj 7 rfl y ?_;refine tkj 8 rfl y ?_;refine tkn ?_;clear cY dL dM dN dO dP dQ dR dj;refine wpAnyH_ready (rs:=[4,9]) (by kernel_rfl) (by simp) (AllReadyH.cons rfl (fun X K=>?_) (AllReadyH.cons rfl (fun X K=>?_) AllReadyH.nil))
   ·go_simp;refine K.out _ _ y (fun y=>?_);clear K X;refine tkr 9 rfl fun X K=>?_;go_simp;refine cI.out.mono ?_;rintro e H ⟨a,m,c,vs,rfl,bU,bS,bW,bX,bC⟩;obtain⟨cn,bE,_⟩:=Jpw bC;have cb:=bE.cells.2.2.2.2.1;have cu:=bE.thaw 4;have R:=bC.1;have bV:=Jm2 (E.out.own.below bA) bL R;have br:Hid ((∀ g o,a=some ⟨g,o,none⟩→g≠b∧g<H.heap.size∧(g<bi∨(wr.alloc (.cells #[.int .i64 p.op,.int .i64 p.l,.int .i64 p.r,.int .i64 p.c,.int .i64 p.v.k,.int .i64 p.v.n,.string p.v.s,.func (.func f) #[.pointer (some ⟨b,0,none⟩)] #[]] 267)).drew.heap.size≤g))∧(bz≤vs.length∧vs.length≤M)∧Jv H a vs∧(∀ i,i<m→vs.getD i Jf=(Qp p (Ji cols i) (Ji (D.map (·.2.2)) i)).1)∧Je5 bj bn b ex (.slice (some ⟨bf,0,none⟩) cols.length cap) first bz sv bG (D.map (·.2.2)).length (wr.alloc (.cells #[.int .i64 p.op,.int .i64 p.l,.int .i64 p.r,.int .i64 p.c,.int .i64 p.v.k,.int .i64 p.v.n,.string p.v.s,.func (.func f) #[.pointer (some ⟨b,0,none⟩)] #[]] 267)).drew (fun i=>(Qp p (Ji cols i) (Ji (D.map (·.2.2)) i)).2) m H):=⟨bU,bS,bW,bX,bC⟩;have dm:Hid (Uz H b ex (.slice (some ⟨bf,0,none⟩) cols.length cap) first m sv cn):=bE;have ch:Hid (Jo H w.heap.size 40 sv (D.map slV)):=bV;clear bU bS bW bX bC bV bE;go_simp;refine K.out _ _ ⟨R.cell y.1 ba,R.cell y.2.1 ba,R.cell y.2.2.1 ba,R.cell y.2.2.2.1 ba,R.cell y.2.2.2.2.1 ba,R.cell y.2.2.2.2.2.1 ba,R.cell y.2.2.2.2.2.2.1 ba,R.cell y.2.2.2.2.2.2.2 ba⟩ (fun y=>?_);clear K X;refine tkr 10 rfl fun X K=>?_;go_simp;have O:Below H.heap.size H (H.alloc (.cells #[.slice a vs.length c] 40)):=Jc (Oa5 _ _) _;refine K.out _ _ ⟨Ja O y.1,Ja O y.2.1,Ja O y.2.2.1,Ja O y.2.2.2.1,Ja O y.2.2.2.2.1,Ja O y.2.2.2.2.2.1,Ja O y.2.2.2.2.2.2.1,Ja O y.2.2.2.2.2.2.2⟩ (fun y=>?_);clear K X;refine tkr 11 rfl fun X K=>?_;have cE:(H.alloc (.cells #[.slice a vs.length c] 40)).ownsRow w.heap.size 40 1 sv D.length (D.map slV):=by
     have:=ch.out.below O;unfold Jo at this;rwa [Oa6]at this
    have cz:(H.alloc (.cells #[.slice a vs.length c] 40)).heap[H.heap.size]?=some (.cells #[.slice a vs.length c] 40 (0,0)):=heap_alloc_new H _;have dT:=R.size;have dU:=bA.size;refine step_append_lies (H.alloc (.cells #[.slice a vs.length c] 40)) rfl (.tmp 20) (.tmp 26) 71 rfl w.heap.size 40 dh (.slice none 0 0) 1 24 underlying71 cW de df dg rfl (by decide) sv D.length (D.map slV) rfl cE ⟨H.heap.size,0,none⟩ 1 1 [.slice a vs.length c] rfl rfl (fun j u bD=>World.news_of_block cz j u (by simpa using bD)) (fun u bD=>by simp at bD;subst bD;rfl) (by decide) (by unfold maxLen;have:=E.out.len;omega) (by have:=E.out.len;omega) (by rw[Oa7];omega) (H.heap.size+1) (by simp) (fun bI bH bh cD bB cy dB=>?_);have dS:=bB.size;have bT:∀ g,sv.ownBlock=some g→w.heap.size≤g∧g<wr.heap.size:=fun g e=>Je E.out.own e;have bJ:bh.heap[b]?=H.heap[b]?:=by rw[bB.block b (by simp;omega) (fun e=>by have:=bT b e.symm;omega),Oa9 _ _ b (by omega)]
    have Z:∀ o:Nat,bh.cell? ⟨wr.heap.size,o,none⟩=(H.alloc (.cells #[.slice a vs.length c] 40)).cell? ⟨wr.heap.size,o,none⟩:=fun o=>by simp only[World.cell?,bB.block wr.heap.size (Jm y.1) (fun e=>by have:=bT _ e.symm;omega)]
    refine K.out _ _ ⟨(Z 0).trans y.1,(Z 1).trans y.2.1,(Z 2).trans y.2.2.1,(Z 3).trans y.2.2.2.1,(Z 4).trans y.2.2.2.2.1,(Z 5).trans y.2.2.2.2.2.1,(Z 6).trans y.2.2.2.2.2.2.1,(Z 7).trans y.2.2.2.2.2.2.2⟩ (fun y=>?_);clear K X Z;have cF:bh.cell? ⟨b,4,none⟩=some sv:=by rw[←cb];simp only[World.cell?,bJ]
    have cv:bh.frozen? ⟨b,4,none⟩=false:=by rw[←cu];simp only[World.frozen?,bJ]
    simp only[Act.put,List.getElem_toArray,List.getElem_cons_zero,List.getElem_cons_succ,Oa1,List.set_cons_zero,List.set_cons_succ];refine tkj 12 rfl y ?_;refine tkj 13 rfl y ?_;refine tkn ?_;refine tkr 14 rfl fun X K=>?_;go_simp;have Y:∀ o:Nat,(bh.setCell ⟨b,4,none⟩ (.slice (some ⟨bI,0,none⟩) (D.length+1) bH)).cell? ⟨wr.heap.size,o,none⟩=bh.cell? ⟨wr.heap.size,o,none⟩:=fun o=>Ob5 _ _ _ _ (fun e=>ba (congrArg Addr.block e).symm);refine K.out _ _ ⟨(Y 0).trans y.1,(Y 1).trans y.2.1,(Y 2).trans y.2.2.1,(Y 3).trans y.2.2.2.1,(Y 4).trans y.2.2.2.2.1,(Y 5).trans y.2.2.2.2.2.1,(Y 6).trans y.2.2.2.2.2.2.1,(Y 7).trans y.2.2.2.2.2.2.2⟩ (fun y=>?_);clear K X Y;refine wpAnyH_done (by kernel_rfl) ?_ _;clear y cF cv bJ;obtain⟨bN,bQ⟩:=Joe E.out bL cx cK.out bA br.out.1 br.out.2.1 br.out.2.2.1 br.out.2.2.2.1 br.out.2.2.2.2 bB (by simpa using cD) cy;have cf:Hid (ExS bi M w b ex (.slice (some ⟨bf,0,none⟩) cols.length cap) first n m er bN (.slice (some ⟨bI,0,none⟩) (D.length+1) bH) (D++[(a,c,vs)]) cols es (j+1) bj bn (bh.setCell ⟨b,4,none⟩ (.slice (some ⟨bI,0,none⟩) (D.length+1) bH))):=bQ;clear bQ;go_wp2;go_roundw
    case rel=>exact⟨j+1,m,bN,_,_,by omega,by go_num,cf⟩
    case measure=>simp[intOf];omega
   go_simp;refine cI.out.mono ?_;rintro e H ⟨a,m,c,vs,rfl,bU,bS,bW,bX,bC⟩;obtain⟨cn,bE,_⟩:=Jpw bC;have cb:=bE.cells.2.2.2.2.1;have cu:=bE.thaw 4;have R:=bC.1;have bV:=Jm2 (E.out.own.below bA) bL R;have br:Hid ((∀ g o,a=some ⟨g,o,none⟩→g≠b∧g<H.heap.size∧(g<bi∨(wr.alloc (.cells #[.int .i64 p.op,.int .i64 p.l,.int .i64 p.r,.int .i64 p.c,.int .i64 p.v.k,.int .i64 p.v.n,.string p.v.s,.func (.func f) #[.pointer (some ⟨b,0,none⟩)] #[]] 267)).drew.heap.size≤g))∧(bz≤vs.length∧vs.length≤M)∧Jv H a vs∧(∀ i,i<m→vs.getD i Jf=(Qp p (Ji cols i) (Ji (D.map (·.2.2)) i)).1)∧Je5 bj bn b ex (.slice (some ⟨bf,0,none⟩) cols.length cap) first bz sv bG (D.map (·.2.2)).length (wr.alloc (.cells #[.int .i64 p.op,.int .i64 p.l,.int .i64 p.r,.int .i64 p.c,.int .i64 p.v.k,.int .i64 p.v.n,.string p.v.s,.func (.func f) #[.pointer (some ⟨b,0,none⟩)] #[]] 267)).drew (fun i=>(Qp p (Ji cols i) (Ji (D.map (·.2.2)) i)).2) m H):=⟨bU,bS,bW,bX,bC⟩;have dm:Hid (Uz H b ex (.slice (some ⟨bf,0,none⟩) cols.length cap) first m sv cn):=bE;have ch:Hid (Jo H w.heap.size 40 sv (D.map slV)):=bV;clear bU bS bW bX bC bV bE;go_simp;refine K.out _ _ ⟨R.cell y.1 ba,R.cell y.2.1 ba,R.cell y.2.2.1 ba,R.cell y.2.2.2.1 ba,R.cell y.2.2.2.2.1 ba,R.cell y.2.2.2.2.2.1 ba,R.cell y.2.2.2.2.2.2.1 ba,R.cell y.2.2.2.2.2.2.2 ba⟩ (fun y=>?_);clear K X;refine wpAnyH_ready (rs:=[4,10]) (by kernel_rfl) (by simp) (AllReadyH.cons rfl (fun X K=>?_) (AllReadyH.cons rfl (fun X K=>?_) AllReadyH.nil));focus
    go_simp;refine K.out _ _ y (fun y=>?_);clear K X;refine tkr 10 rfl fun X K=>?_;go_simp;have O:Below H.heap.size H (H.alloc (.cells #[.slice a vs.length c] 40)):=Jc (Oa5 _ _) _;refine K.out _ _ ⟨Ja O y.1,Ja O y.2.1,Ja O y.2.2.1,Ja O y.2.2.2.1,Ja O y.2.2.2.2.1,Ja O y.2.2.2.2.2.1,Ja O y.2.2.2.2.2.2.1,Ja O y.2.2.2.2.2.2.2⟩ (fun y=>?_)
   rotate_left 1;focus
    go_simp;have O:Below H.heap.size H (H.alloc (.cells #[.slice a vs.length c] 40)):=Jc (Oa5 _ _) _;refine K.out _ _ ⟨Ja O y.1,Ja O y.2.1,Ja O y.2.2.1,Ja O y.2.2.2.1,Ja O y.2.2.2.2.1,Ja O y.2.2.2.2.2.1,Ja O y.2.2.2.2.2.2.1,Ja O y.2.2.2.2.2.2.2⟩ (fun y=>?_);clear K X;have dW:=Ja O cb;refine tkr 4 rfl fun X K=>?_;go_simp;refine K.out _ _ y (fun y=>?_)
   all_goals
    clear K X;refine tkr 11 rfl fun X K=>?_;have cE:(H.alloc (.cells #[.slice a vs.length c] 40)).ownsRow w.heap.size 40 1 sv D.length (D.map slV):=by
     have:=ch.out.below O;unfold Jo at this;rwa [Oa6]at this
    have cz:(H.alloc (.cells #[.slice a vs.length c] 40)).heap[H.heap.size]?=some (.cells #[.slice a vs.length c] 40 (0,0)):=heap_alloc_new H _;have dT:=R.size;have dU:=bA.size;refine step_append_lies (H.alloc (.cells #[.slice a vs.length c] 40)) rfl (.tmp 20) (.tmp 26) 71 rfl w.heap.size 40 dh (.slice none 0 0) 1 24 underlying71 cW de df dg rfl (by decide) sv D.length (D.map slV) rfl cE ⟨H.heap.size,0,none⟩ 1 1 [.slice a vs.length c] rfl rfl (fun j u bD=>World.news_of_block cz j u (by simpa using bD)) (fun u bD=>by simp at bD;subst bD;rfl) (by decide) (by unfold maxLen;have:=E.out.len;omega) (by have:=E.out.len;omega) (by rw[Oa7];omega) (H.heap.size+1) (by simp) (fun bI bH bh cD bB cy dB=>?_);have dS:=bB.size;have bT:∀ g,sv.ownBlock=some g→w.heap.size≤g∧g<wr.heap.size:=fun g e=>Je E.out.own e;have bJ:bh.heap[b]?=H.heap[b]?:=by rw[bB.block b (by simp;omega) (fun e=>by have:=bT b e.symm;omega),Oa9 _ _ b (by omega)]
    have Z:∀ o:Nat,bh.cell? ⟨wr.heap.size,o,none⟩=(H.alloc (.cells #[.slice a vs.length c] 40)).cell? ⟨wr.heap.size,o,none⟩:=fun o=>by simp only[World.cell?,bB.block wr.heap.size (Jm y.1) (fun e=>by have:=bT _ e.symm;omega)]
    refine K.out _ _ ⟨(Z 0).trans y.1,(Z 1).trans y.2.1,(Z 2).trans y.2.2.1,(Z 3).trans y.2.2.2.1,(Z 4).trans y.2.2.2.2.1,(Z 5).trans y.2.2.2.2.2.1,(Z 6).trans y.2.2.2.2.2.2.1,(Z 7).trans y.2.2.2.2.2.2.2⟩ (fun y=>?_);clear K X Z;have cF:bh.cell? ⟨b,4,none⟩=some sv:=by rw[←cb];simp only[World.cell?,bJ]
    have cv:bh.frozen? ⟨b,4,none⟩=false:=by rw[←cu];simp only[World.frozen?,bJ]
    simp only[Act.put,List.getElem_toArray,List.getElem_cons_zero,List.getElem_cons_succ,Oa1,List.set_cons_zero,List.set_cons_succ];refine tkj 12 rfl y ?_;refine tkj 13 rfl y ?_;refine tkn ?_;refine tkr 14 rfl fun X K=>?_;go_simp;have Y:∀ o:Nat,(bh.setCell ⟨b,4,none⟩ (.slice (some ⟨bI,0,none⟩) (D.length+1) bH)).cell? ⟨wr.heap.size,o,none⟩=bh.cell? ⟨wr.heap.size,o,none⟩:=fun o=>Ob5 _ _ _ _ (fun e=>ba (congrArg Addr.block e).symm);refine K.out _ _ ⟨(Y 0).trans y.1,(Y 1).trans y.2.1,(Y 2).trans y.2.2.1,(Y 3).trans y.2.2.2.1,(Y 4).trans y.2.2.2.2.1,(Y 5).trans y.2.2.2.2.2.1,(Y 6).trans y.2.2.2.2.2.2.1,(Y 7).trans y.2.2.2.2.2.2.2⟩ (fun y=>?_);clear K X Y;refine wpAnyH_done (by kernel_rfl) ?_ _;clear y cF cv bJ;obtain⟨bN,bQ⟩:=Joe E.out bL cx cK.out bA br.out.1 br.out.2.1 br.out.2.2.1 br.out.2.2.2.1 br.out.2.2.2.2 bB (by simpa using cD) cy;have cf:Hid (ExS bi M w b ex (.slice (some ⟨bf,0,none⟩) cols.length cap) first n m er bN (.slice (some ⟨bI,0,none⟩) (D.length+1) bH) (D++[(a,c,vs)]) cols es (j+1) bj bn (bh.setCell ⟨b,4,none⟩ (.slice (some ⟨bI,0,none⟩) (D.length+1) bH))):=bQ;clear bQ;go_wp2;go_roundw
    case rel=>exact⟨j+1,m,bN,_,_,by omega,by go_num,cf⟩
    case measure=>simp[intOf];omega
  obtain rfl:j=es.length:=by omega
  clear cX;obtain⟨bc,cB⟩:∃ bc,es.length=bc+1:=⟨es.length-1,by omega⟩;have bR:D.length=bc+1:=by rw[E.out.len,cB]
  have R:bc<D.length:=by omega
  obtain⟨pb,cp,dd,cO⟩:=Jcs E.out.own bL (fun e=>by rw[e]at R;simp at R) (fun q U=>(E.out.vals q U).1) fun q U g o e=>(E.out.off q U g o e).1;have bM:=cO.cell bc (by rw[Oa6];exact R);obtain⟨q,U⟩:∃ q,D[bc]?=some q:=⟨_,Oa3 R⟩;have g1:(D.map (·.2.2)).getD bc []=q.2.2:=by rw[Oa0,Ob1,U];rfl
  have g2:Yo (D.map fun q=>(q.1,q.2.1)) bc=(q.1,q.2.1):=by unfold Yo;rw[Oa0,Ob1,U];rfl
  rw[g1,g2]at bM;simp only at bM;rw[Oa6,bR]at dd;have bK:q∈D:=Of6 U;have cV:Jwi bi M bj bn b ex (.slice (some ⟨bf,0,none⟩) cols.length cap) first n er cols es w (.returned (.slice q.1 q.2.2.length q.2.1)) wr.drew:=by
   refine⟨q.1,q.2.1,bz,q.2.2,sv,bG,rfl,fun g o e=>⟨(E.out.off q bK g o e).1,(E.out.off q bK g o e).2.1,(E.out.off q bK g o e).2.2.2⟩,(E.out.vals q bK).1,(E.out.vals q bK).2.1,(E.out.vals q bK).2.2,E.out.le,fun i hi=>?_,E.out.keep.drewN 1,E.out.wk,E.out.err⟩;have hr:=E.out.run i hi;rw[Oc8 (Oa2 _)]at hr;rw[Ke8 hr,←g1,←Jdj _ _ _ (by rw[Oa6];exact R)];congr 1
   have hl:(Ji (D.map (·.2.2)) i).length=bc+1:=by rw[Yk,Oa6,bR]
   rw[Ok7,Om6,hl,Oa0,Nat.add_sub_cancel]
  have ca:Hid (Jwi bi M bj bn b ex (.slice (some ⟨bf,0,none⟩) cols.length cap) first n er cols es w (.returned (.slice q.1 q.2.2.length q.2.1)) wr.drew):=cV;rw[dd]at cj;have dY:IntKind.i64.wrap ((bc:Int)+1-1)=(bc:Int):=by rw[Od4];omega
  have dZ:IntKind.i64.wrap (bc:Int)=(bc:Int):=by rw[Od4];omega
  have fc:(0:Int)≤(bc:Int):=by omega
  have fd:(bc:Int)<(bc:Int)+1:=by omega
  generalize q.2.2.length=dJ at bM ca;generalize q.1=dH at bM ca;generalize q.2.1=dI at bM ca;clear cV g1 g2 U cO bK bR R E dp dq dr ds dt c0 c1 c2 c3 c4 c5 du;rw[cB];clear cB dx dy dA;go_upto_region 7 with fail
  refine wp_region_held_drew (S:=fun bx=>bx.cell? ⟨b,4,none⟩=some (.slice (some ⟨pb,0,none⟩) (bc+1) cp)∧bx.cell? ⟨pb,bc,none⟩=some (.slice dH dJ dI)) (by kernel_rfl) ⟨cj,bM⟩ (fun y=>?_);refine tkj 0 rfl y ?_;refine tkj 1 rfl y ?_;refine tkj 2 rfl y ?_;refine tkj 3 rfl y ?_;refine tkj 4 rfl y ?_;refine tkj 5 rfl y ?_;refine tkj 6 rfl y ?_;refine tkj 7 rfl y ?_;refine tkj 8 rfl y ?_;refine tkj 9 rfl y ?_;refine tkj 10 rfl y ?_;refine tkj 11 rfl y ?_;refine tkj 12 rfl y ?_;refine tkn ?_;refine wpAnyH_done (by kernel_rfl) ?_ _;go_wp2;go_ret
  exact ca.out
attribute [local go_sem] Oc0
def Kr:List (List Pt)→List V→Nat
 |[],_=>0
 |e::es,x=>match Kl e x with|.inl _=>Kr es x|.inr c=>c
theorem Jiy {es:List (List Pt)}(y:List (List Pt)){x:List V}(h:∀ e∈es,∃ v,Kl e x=.inl v):Kr (es++y) x=Kr y x:=by
 induction es with
 |nil=>rfl
 |cons e es K=>
  obtain⟨v,H⟩:=h e (Of4 ..);simp only[List.cons_append,Kr,H];exact K fun D E=>h D (Og1 _ E)
theorem Kek {y:List (List Pt)}{j c:Nat}{es:List Pt}{x:List V}(H:y[j]?=some es)(h:∀ k e,y[k]?=some e→k<j→∃ v,Kl e x=.inl v)(E:Kl es x=.inr c):Kr y x=c:=by
 obtain⟨O,K⟩:=Ob9.1 H;have X:y=y.take j++(es::y.drop (j+1)):=by rw[←K,←Oi1 O,Ok3]
 rw[X,Jiy]
 ·simp only[Kr,E]
 intro e U;obtain⟨k,D⟩:=Ok2.1 U;rw[Oe7]at D;split at D
 ·rename_i R;exact h k e D R
 cases D
def Jx0 (w:World)(b:Nat)(ex:Value)(D:List (List Pt)):Prop:=∃ y H,ex=.slice (some ⟨y,0,none⟩) D.length H∧y≠b∧∀ j es,D[j]?=some es→∃ E K,w.cell? ⟨y,j,none⟩=some (.slice (some ⟨E,0,none⟩) es.length K)∧Jco w E b es
def Jga (W:Nat)(y:List (List Pt)):Prop:=∀ es∈y,es≠[]∧es.length≤1000∧∀ j p,es[j]?=some p→Jr0 W j p
structure OnS (B0:Nat) (w:World) (b:Nat) (ex ba:Value) (first N n':Nat) (er' pv sv:Value) (qs:List (Option Addr×Nat×List V)) (cols:List (List V)) (ess:List (List Pt)) (j:Nat) (dv ov:Addr) (wr:World):Prop where
 own:Jo wr w.heap.size 40 sv (qs.map slV)
 wk:Uz wr b ex ba first n' pv er'
 keep:Ju (·=b) w wr
 len:qs.length=j
 vals:∀ q∈qs,Jv wr q.1 q.2.2∧n'≤q.2.2.length∧q.2.2.length≤N
 off:∀ q∈qs,∀ g o,q.1=some ⟨g,o,none⟩→g≠b∧g<wr.heap.size∧sv.ownBlock≠some g∧(g<B0∨w.heap.size≤g)
 le:n'≤N
 run:∀ i,i<n'→∀ k e,ess[k]?=some e→k<j→Kl e (Ji cols i)=.inl (((qs.map (·.2.2)).getD k []).getD i Jf)
 err:Jrv dv ov w wr cols (fun x c=>Kr ess x=c) first N n' .nilIface er'
theorem Kfl {bi:Nat}{w:World}{b:Nat}{ex bz:Value}{first N bI:Nat}{bK cc sv:Value}{X:List (Option Addr×Nat×List V)}{cols:List (List V)}{bC:List (List Pt)}{j:Nat}{bA bJ:Addr}{wr:World}(h:OnS bi w b ex bz first N bI bK cc sv X cols bC j bA bJ wr)(ci:b<w.heap.size)(ch:bi≤w.heap.size){es:List Pt}(bG:bC[j]?=some es){y:World}
  {a:Option Addr} {c O:Nat} {vs:List V} {bR bB:Value} (bP:∀ g o,a=some ⟨g,o,none⟩→g≠b∧g<y.heap.size∧(g<bi∨wr.heap.size≤g)) (ca:Jv y a vs) (bV:O≤vs.length) (bW:vs.length≤N) (bX:O≤bI) (bZ:∀ i,i<O→Kl es (Ji cols i)=.inl (vs.getD i Jf)) (bf:Ju (·=b) wr y) (cb:Uz y b ex bz first O bR bB) (bU:Jrv bA bJ wr y cols (fun x c=>Yy es x []=.inr c) first bI O bK bB)
  {R:World} {sv':Value} (ba:(y.alloc (.cells #[slV (a,c,vs)] 40)).grownBy R sv.ownBlock) (bY:Jo R w.heap.size 40 sv' (X.map slV++[slV (a,c,vs)])) (bM:sv'.ownBlock=sv.ownBlock∨sv'.ownBlock=some (y.heap.size+1)) :
  OnS bi w b ex bz first N O bB bR sv' (X++[(a,c,vs)]) cols bC (j+1) bA bJ R:=by
 have cv:=h.keep.size;have z1:=bf.size;have cu:=ba.size;have z2:(y.alloc (.cells #[slV (a,c,vs)] 40)).heap.size=y.heap.size+1:=by simp
 have bx:∀ g,sv.ownBlock=some g→w.heap.size≤g∧g<wr.heap.size:=fun g e=>Je h.own e;have bn:∀ k,k<y.heap.size→sv.ownBlock≠some k→R.heap[k]?=y.heap[k]?:=fun k bc bH=>by
  rw[ba.block k (by omega) (fun e=>bH e.symm),Oa9 _ _ k (by omega)]
 have bE:∀ k,k<wr.heap.size→k≠b→sv.ownBlock≠some k→R.heap[k]?=wr.heap[k]?:=fun k bc br bH=>by
  rw[bn k (by omega) bH,bf.block k (by omega) br]
 have bO:∀ g o,a=some ⟨g,o,none⟩→sv.ownBlock≠some g:=fun g o e E=>by
  have H:=bx g E;have Z:=bP g o e;omega
 have bT:R.heap[b]?=y.heap[b]?:=bn b (by omega) (fun e=>by have:=bx b e;omega);refine⟨?_,bT.trans cb,?_,?_,?_,?_,Ob2 bX h.le,?_,?_⟩
 ·rw[Ob8];exact bY
 ·have bj:=h.keep;refine⟨?_,?_,?_,by omega,fun k bc br=>?_⟩
  ·exact ba.os.trans (bf.os.trans bj.os)
  ·exact ba.tape.trans (bf.tape.trans bj.tape)
  ·exact ba.output.trans (bf.output.trans bj.output)
  rw[bE k (by omega) br (fun e=>by have:=bx k e;omega)];exact bj.block k bc br
 ·rw[Oa8,List.length_singleton,h.len]
 ·intro q D;rw[Od2,Oc6]at D;rcases D with D|rfl
  ·obtain⟨H,Z,U⟩:=h.vals q D;exact⟨H.of_block (by omega) fun g o e hl=>bE g hl (h.off q D g o e).1 (h.off q D g o e).2.2.1,by omega,U⟩
  exact⟨ca.of_block (by omega) fun g o e hl=>bn g hl (bO g o e),bV,bW⟩
 ·intro q D g o e;rw[Od2,Oc6]at D;rcases D with D|rfl
  ·obtain⟨H,Z,U,bD⟩:=h.off q D g o e;refine⟨H,by omega,fun E=>?_,bD⟩;rcases bM with K|K
   ·exact U (K▸E)
   rw[K]at E;simp at E;omega
  obtain⟨H,Z,U⟩:=bP g o e;refine⟨H,by omega,fun E=>?_,by omega⟩;rcases bM with K|K
  ·exact bO g o e (K▸E)
  rw[K]at E;simp at E;omega
 ·intro i hi k e bh bN;rw[Ob8,List.map_singleton];have hl:(X.map (·.2.2)).length=j:=by rw[Oa6,h.len]
  by_cases bc:k<j
  ·rw[Oa0 (l:=X.map (·.2.2)++[vs]),Ob0 (by omega),←Oa0];exact h.run i (by omega) k e bh bc
  obtain rfl:k=j:=by omega
  rw[bG]at bh;cases bh
  rw[Oa0 (l:=X.map (·.2.2)++[vs]),Ob6 (by omega),hl,Oe1];exact bZ i hi
 rcases bU with⟨rfl,rfl⟩|⟨H,Y,bS,kk,Z,U,bD,cf,bL⟩
 ·exact h.err.of_blocks fun Y row cj cn bG bQ=>bE Y (Jd bQ) (by omega) (Jmb h.own bQ)
 refine .inr ⟨by have:=h.le;omega,Y,bS,kk,Z,?_,bD,by omega,bL.of_block (bn Y (Jd bL) ?_)⟩
 ·exact Kek bG (fun k e bh bN=>⟨_,h.run O H k e bh bN⟩) (Keu U)
 intro e;have:=bx Y e;omega
def Jjk (H:Nat)(O R:Addr)(b:Nat)(ex:Value)(cols:List (List V))(first N:Nat)(y:List (List Pt))(w:World):Ending→World→Prop:=fun e w'=>
 Ju (·=b) w w'∧(∃ (K:Value) (f n:Int) (U er:Value),Uz w' b ex K f n U er) ∧
 ((∃ (sv:Value) (D:List (Option Addr×Nat×List V)),e=.returned (.tuple #[sv,.nilIface])∧Jo w' w.heap.size 40 sv (D.map slV)∧D.length=y.length∧(∀ q∈D,Jv w' q.1 q.2.2∧q.2.2.length=N)∧(∀ q∈D,∀ g o,q.1=some ⟨g,o,none⟩→g≠b∧g<w'.heap.size∧(g<H∨w.heap.size≤g))∧∀ i,i<N→∀ k e,y[k]?=some e→Kl e (Ji cols i)=.inl (((D.map (·.2.2)).getD k []).getD i Jf)) ∨
  (∃ E kk m:Nat,m<N∧e=.returned (.tuple #[.slice none 0 0,Qv E])∧w.heap.size≤E∧Kr y (Ji cols m)≠0∧Ja8 w' E ((first+m:Nat):Int) kk (Jdb O R (Kr y (Ji cols m)))∧∀ i,i<m→∀ e∈y,∃ v,Kl e (Ji cols i)=.inl v))
theorem Jx4 (O b:Nat)(ex cP:Value)(cT di:Int)(bV cS:Value)(E cap:Nat)(hs:List (Option Addr×Nat))(cols:List (List V))(first N:Nat)(D:List (List Pt))(X ba:Addr)(w:World)
  (R:Uz w b ex cP cT di bV cS) (db:Jx0 w b ex D) (cE:Jga cols.length D) (dp:D.length≤1000) (hC:Jha w b E hs cols) (bR:1≤cols.length) (bQ:∀ j,j<cols.length→(cols.getD j []).length=N) (cv:∀ j,j<cols.length→∀ g o,(Yo hs j).1=some ⟨g,o,none⟩→g<O) (cu:∀ i,i<N→∀ v∈Ji cols i,Jg v.n)
  (hn:N≤100000) (hf:first+N≤10000000) (ch:Jdo w X ba) (cf:O≤w.heap.size) (ci:b≠10∧b≠11) :
  Calls prog 105 #[.pointer (some ⟨b,0,none⟩),(.slice (some ⟨E,0,none⟩) cols.length cap),.int .i64 (first:Int)] w (Jjk O X ba b ex cols first N D w):=by
 obtain⟨bc,br,rfl,dd,cj⟩:=db;obtain⟨c0,c1,c2,c3,c4,c5⟩:=R.cells;have cU:=R.thaw 1;have cV:=R.thaw 2;have cW:=R.thaw 3;have cX:=R.thaw 5;have cn:=Jd R;have cz:=Jlg E cols.length cap (Yo hs 0).1 N (Yo hs 0).2 w bR (by have:=hC.cell 0 bR;rwa [bQ 0 bR]at this);have bH:=Jk (Jk (Jk (Jk R 1 (.slice (some ⟨E,0,none⟩) cols.length cap)) 2 (.int .i64 (first:Int))) 3 (.int .i64 (N:Int))) 5 .nilIface;simp only[Oa1,List.set_cons_zero,List.set_cons_succ]at bH;have cy:Ju (·=b) w ((((w.setCell ⟨b,1,none⟩ (.slice (some ⟨E,0,none⟩) cols.length cap)).setCell ⟨b,2,none⟩ (.int .i64 (first:Int))).setCell ⟨b,3,none⟩ (.int .i64 (N:Int))).setCell ⟨b,5,none⟩ .nilIface):=Ju.set (F:=fun x=>x=b) (Ju.set (F:=fun x=>x=b) (Ju.set (F:=fun x=>x=b) (Ju.set (F:=fun x=>x=b) (Ju.refl _ w) rfl 1 _) rfl 2 _) rfl 3 _) rfl 5 _;obtain⟨w1,bT⟩:∃ w1,w1=(((w.setCell ⟨b,1,none⟩ (.slice (some ⟨E,0,none⟩) cols.length cap)).setCell ⟨b,2,none⟩ (.int .i64 (first:Int))).setCell ⟨b,3,none⟩ (.int .i64 (N:Int))).setCell ⟨b,5,none⟩ .nilIface:=⟨_,rfl⟩;rw[←bT]at bH cy;have bZ:Hid (Uz w1 b (.slice (some ⟨bc,0,none⟩) D.length br) (.slice (some ⟨E,0,none⟩) cols.length cap) first N bV .nilIface):=bH;have bj:Hid (Jha w b E hs cols∧(∀ j,j<cols.length→(cols.getD j []).length=N)∧(∀ j,j<cols.length→∀ g o,(Yo hs j).1=some ⟨g,o,none⟩→g<O)∧(∀ i,i<N→∀ v∈Ji cols i,Jg v.n)):=⟨hC,bQ,cv,cu⟩;have cb:Hid ((∀ j es,D[j]?=some es→∃ bI bX,w.cell? ⟨bc,j,none⟩=some (.slice (some ⟨bI,0,none⟩) es.length bX)∧Jco w bI b es)∧Jga cols.length D):=⟨cj,cE⟩;have bn:Hid (Jdo w X ba∧b≠10∧b≠11):=⟨ch,ci⟩;have bY:Hid (N≤100000∧first+N≤10000000):=⟨hn,hf⟩;have ca:Hid (w1=(((w.setCell ⟨b,1,none⟩ (.slice (some ⟨E,0,none⟩) cols.length cap)).setCell ⟨b,2,none⟩ (.int .i64 (first:Int))).setCell ⟨b,3,none⟩ (.int .i64 (N:Int))).setCell ⟨b,5,none⟩ .nilIface):=bT;clear R hC bQ cv cu cj cE ch ci hn hf bH bT;go_enter func105,ntmps105
 go_upto_region 2 with(go_at_call 53;refine cz.mono ?_;rintro e dj ⟨rfl,da⟩;rw[da])
 rw[←ca.out];obtain⟨bJ,bK,bL,bM,bN,bO⟩:=bZ.out.cells;clear c0 c1 c2 c3 c4 c5 cU cV cW cX cz ca;go_wp2;go_loopw [8,32] (fun s i wr=>∃ (j Z:Nat) (bC bU sv:Value) (bW:List (Option Addr×Nat×List V)),j≤D.length∧i=.int .i64 (j:Int)∧s=sv∧Hid (OnS O w b (.slice (some ⟨bc,0,none⟩) D.length br) (.slice (some ⟨E,0,none⟩) cols.length cap) first N Z bC bU sv bW cols D j X ba wr)) (fun _ i _=>D.length-(intOf i).toNat)
 case atStart=>exact⟨0,N,.nilIface,bV,.slice none 0 0,[],Ob7 _,rfl,rfl,Jo.nil _ _ _,bZ.out,cy,rfl,fun q H=>by simp at H,fun q H=>by simp at H,Oa2 _,fun i _ k e _ Y=>absurd Y (Oe0 _),.inl ⟨rfl,rfl⟩⟩
 case round=>
  obtain⟨j,Z,bC,bU,sv,bW,bE,rfl,rfl,y⟩:=hrel;have dh:=y.out.keep.size;by_cases df:j<D.length
  ·obtain⟨es,bD⟩:∃ es,D[j]?=some es:=⟨_,Oa3 df⟩;obtain⟨bI,bX,cK,cF⟩:=cb.out.1 j es bD;have dr:=y.out.keep.cell cK dd;have bG:=cb.out.2 es (Of6 bD);have de:=Jkm O N b (.slice (some ⟨bc,0,none⟩) D.length br) first Z E cap hs cols bU bC bI bX es X ba wr y.out.wk (bj.out.1.keep y.out.keep) (fun j bE=>by have:=bj.out.2.1 j bE;have:=y.out.le;omega) bj.out.2.2.1 (fun i hi=>bj.out.2.2.2 i (by have:=y.out.le;omega)) (fun j bE=>by have:=bj.out.2.1 j bE;omega) y.out.le (cF.keep y.out.keep) bG.2.2 bG.1 bG.2.1 (by have:=bY.out;have:=y.out.le;omega) (by have:=bY.out;have:=y.out.le;omega) ⟨y.out.keep.cell bn.out.1.d (fun e=>bn.out.2.1 e.symm),y.out.keep.cell bn.out.1.o (fun e=>bn.out.2.2 e.symm)⟩ (Ob2 cf dh) bn.out.2
   have cM:Hid (D[j]?=some es):=bD;have j1:(0:Int)≤(j:Int):=(by omega);have j2:(j:Int)<(D.length:Int):=(by omega);clear bD cF bG cK bJ bK bL bM bN bO;go_wp2_with (first|(go_at_call 139;refine de.mono ?_;rintro e U ⟨a,c,bi,vs,cJ,bP,rfl,cD,cH,cA,cB,cC,bA,bS,cI,cx⟩;have K:Hid ((∀ g o,a=some ⟨g,o,none⟩→g≠b∧g<U.heap.size∧(g<O∨wr.heap.size≤g))∧Jv U a vs∧bi≤vs.length∧vs.length≤N∧bi≤Z∧(∀ i,i<bi→Kl es (Ji cols i)=.inl (vs.getD i Jf))∧Ju (·=b) wr U∧Uz U b (.slice (some ⟨bc,0,none⟩) D.length br) (.slice (some ⟨E,0,none⟩) cols.length cap) first bi cJ bP∧Jrv X ba wr U cols (fun x c=>Yy es x []=.inr c) first Z bi bC bP):=⟨cD,cH,cA,cB,cC,bA,bS,cI,cx⟩;have dq:=bS.size;clear cD cH cA cB cC bA cI cx)|(at_builtin;go_must (refine Ul (by rfl) _ _ 72 40 _ 24 Jps (by rfl) (by decide) (by kernel_rfl) (by rfl) w.heap.size _ _ (by rfl) (Jo.alloc (Jm2 y.out.own cn bS) _) ⟨U.heap.size,0,none⟩ 1 [.slice a vs.length c] (by rfl) (by exact Ua U _ _) (by intro u cG;simp at cG;subst cG;rfl) (by rw[Oa6,y.out.len];simp only[List.length_cons,List.length_nil];omega) (by simp;omega) ?_);intro sv' dk bx bz bf))
   have dg:=Kfl y.out cn cf cM.out K.out.1 K.out.2.1 K.out.2.2.1 K.out.2.2.2.1 K.out.2.2.2.2.1 K.out.2.2.2.2.2.1 K.out.2.2.2.2.2.2.1 K.out.2.2.2.2.2.2.2.1 K.out.2.2.2.2.2.2.2.2 bz bx (by rw[Oa7]at bf;exact bf);go_roundw
   case rel=>exact⟨j+1,bi,bP,cJ,sv',_,by omega,by go_num,rfl,dg⟩
   case measure=>simp[intOf];omega
  obtain rfl:j=D.length:=by omega
  have cQ:=y.out.wk.cells.2.2.2.2.2;have bA:∀ i,i<Z→∀ e∈D,∃ v,Kl e (Ji cols i)=.inl v:=fun i hi e dc=>by
   obtain⟨k,Y⟩:=Ok2.1 dc;exact⟨_,y.out.run i hi k e Y (Ob9.1 Y).1⟩
  rcases y.out.err with⟨bx,bz⟩|⟨bx,bB,dm,kk,bz,bf,cY,cZ,cc⟩
  ·subst bx bz;clear bJ bK bL bM bN bO;go_wp2;refine bodyPost_ret (v:=.tuple #[u8,.nilIface]) (by simp[results,results105,go_sem]) rfl ?_;exact⟨y.out.keep,⟨_,_,_,_,_,y.out.wk⟩,.inl ⟨_,bW,rfl,y.out.own,y.out.len,fun q H=>⟨(y.out.vals q H).1,by have:=(y.out.vals q H).2;omega⟩,fun q H g o e=>⟨(y.out.off q H g o e).1,(y.out.off q H g o e).2.1,(y.out.off q H g o e).2.2.2⟩,fun i hi k e Y=>y.out.run i hi k e Y (Ob9.1 Y).1⟩⟩
  subst cY;have cN:Hid (Jjk O X ba b (.slice (some ⟨bc,0,none⟩) D.length br) cols first N D w (.returned (.tuple #[.slice none 0 0,Qv bB])) wr.drew):=by
   refine⟨y.out.keep.drewN 1,⟨_,_,_,_,_,y.out.wk⟩,.inr ⟨bB,kk,Z,bx,rfl,cZ,?_,?_,bA⟩⟩
   ·rw[bf];exact bz
   rw[bf];exact cc
  clear bJ bK bL bM bN bO bA bf cc;go_upto_region 9 with fail
  refine wp_region_held_drew (S:=fun cO=>cO.cell? ⟨b,5,none⟩=some (Qv bB)) (by kernel_rfl) cQ (fun bh=>?_);refine tkj 0 rfl bh ?_;refine tkj 1 rfl bh ?_;refine tkj 2 rfl bh ?_;refine tkj 3 rfl bh ?_;refine tkj 4 rfl bh ?_;refine tkj 5 rfl bh ?_;refine tkn ?_;refine wpAnyH_done (by kernel_rfl) ?_ _;go_wp2;exact bodyPost_ret (v:=.tuple #[.slice none 0 0,Qv bB]) (by simp[results,results105,go_sem]) rfl cN.out
attribute [local go_sem] Oc0
abbrev Jfq (b:Nat):Array Value:=#[.func (.func 173) #[.pointer (some ⟨b,0,none⟩)] #[],.func (.func 174) #[.pointer (some ⟨b,0,none⟩)] #[],.func (.func 175) #[.pointer (some ⟨b,0,none⟩)] #[],.func (.func 176) #[.pointer (some ⟨b,0,none⟩)] #[],.func (.func 177) #[.pointer (some ⟨b,0,none⟩)] #[],.func (.func 178) #[.pointer (some ⟨b,0,none⟩)] #[],.func (.func 179) #[.pointer (some ⟨b,0,none⟩)] #[],.func (.func 180) #[.pointer (some ⟨b,0,none⟩)] #[],.func (.func 181) #[.pointer (some ⟨b,0,none⟩)] #[],.func (.func 182) #[.pointer (some ⟨b,0,none⟩)] #[],.func (.func 183) #[.pointer (some ⟨b,0,none⟩)] #[],.func (.func 184) #[.pointer (some ⟨b,0,none⟩)] #[]]
theorem Jz6 (b:Nat)(k:Nat)(y:k<12):(Jfq b)[k]?=some (.func (.func (Zv (k:Int))) #[.pointer (some ⟨b,0,none⟩)] #[]):=by
 match k,y with
 |0,_=>rfl
 |1,_=>rfl
 |2,_=>rfl
 |3,_=>rfl
 |4,_=>rfl
 |5,_=>rfl
 |6,_=>rfl
 |7,_=>rfl
 |8,_=>rfl
 |9,_=>rfl
 |10,_=>rfl
 |11,_=>rfl
 |k+12,h=>omega
theorem Jvt (b:Nat)(w:World):Calls prog 137 #[.pointer (some ⟨b,0,none⟩)] w fun e w'=>e=.returned (.agg (Jfq b))∧Below w.heap.size w w':=by
 have y:∀ (f:Nat) (a:Addr) (W:World),(store a (.func (.func f) #[.pointer (some ⟨b,0,none⟩)] #[])).run prog W=stored prog W a (.func (.func f) #[.pointer (some ⟨b,0,none⟩)] #[]) .plain:=fun f a W=>run_store _ _ _ _ _ rfl;go_enter func137,ntmps137
 go_wp2;exact bodyPost_ret (v:=.agg (Jfq b)) (by simp[results,results137,go_sem]) rfl ⟨rfl,(by repeat (first|exact Oa5 _ _|refine Jc ?_ _|refine Jj ?_))⟩
def Qi (w:World)(g o:Nat)(p:Pt):Prop:=
 w.cell? ⟨g,o,none⟩=some (.int .i64 p.op)∧w.cell? ⟨g,o+1,none⟩=some (.int .i64 p.l)∧w.cell? ⟨g,o+2,none⟩=some (.int .i64 p.r)∧w.cell? ⟨g,o+3,none⟩=some (.int .i64 p.c)∧w.cell? ⟨g,o+4,none⟩=some (.int .i64 p.v.k)∧w.cell? ⟨g,o+5,none⟩=some (.int .i64 p.v.n)∧w.cell? ⟨g,o+6,none⟩=some (.string p.v.s)
theorem Qi.below {w w':World}{g o:Nat}{p:Pt}(h:Qi w g o p)(y:Below w.heap.size w w'):Qi w' g o p:=
 ⟨Ja y h.1,Ja y h.2.1,Ja y h.2.2.1,Ja y h.2.2.2.1,Ja y h.2.2.2.2.1,Ja y h.2.2.2.2.2.1,Ja y h.2.2.2.2.2.2⟩
def Jaz (w:World)(D eo:Nat)(E:List (List Pt)):Prop:=∀ j es,E[j]?=some es→∃ pb y H,w.cell? ⟨D,eo+j,none⟩=some (.slice (some ⟨pb,y,none⟩) es.length H)∧∀ k p,es[k]?=some p→Qi w pb (y+k*7) p
theorem Jaz.below {w w':World}{y eo:Nat}{D:List (List Pt)}(h:Jaz w y eo D)(E:Below w.heap.size w w'):Jaz w' y eo D:=fun j es O=>by
 obtain⟨pb,U,R,H,K⟩:=h j es O;exact⟨pb,U,R,Ja E H,fun k p hp=>(K k p hp).below E⟩
def Jft (b:Nat)(p:Pt):List Value:=[.int .i64 p.op,.int .i64 p.l,.int .i64 p.r,.int .i64 p.c,.int .i64 p.v.k,.int .i64 p.v.n,.string p.v.s,.func (.func (Zv p.op)) #[.pointer (some ⟨b,0,none⟩)] #[]]
theorem Jek {α:Type}(f:α→List Value)(z:Nat)(hf:∀ a,(f a).length=z):∀ (l:List α) (k i:Nat) (a:α),l[k]?=some a→i<z→(l.flatMap f)[k*z+i]?=(f a)[i]?:=by
 intro l;induction l with
 |nil=>intro k i a h;simp at h
 |cons x l y=>
  intro k i a h hi;rw[Og7];cases k with
  |zero=>
   simp at h;subst h;rw[Nat.zero_mul,Od0,Ob0 (by rw[hf];exact hi)]
  |succ k=>
   have e:(k+1)*z+i=z+(k*z+i):=by rw[Of5];omega
   rw[e,Ob6 (by rw[hf];omega),hf,Nat.add_sub_cancel_left];exact y k i a (by simpa using h) hi
theorem Kci {α:Type}(f:α→List Value)(z:Nat)(hf:∀ a,(f a).length=z)(l:List α):(l.flatMap f).length=l.length*z:=by
 induction l with
 |nil=>simp
 |cons x l y=>rw[Og7,Oa8,y,hf,List.length_cons,Of5];omega
def Jxp (w:World)(B b:Nat)(sv:Value)(es:List Pt):Prop:=w.ownsRow B 267 8 sv es.length (es.flatMap (Jft b))
theorem Jnn {w:World}{B b E R:Nat}{es:List Pt}(h:Jxp w B b (.slice (some ⟨E,0,none⟩) es.length R) es)(O:E≠b):Jco w E b es:=by
 obtain⟨_,⟨D,_⟩|⟨g,cap,U,D,_,H,_,_,X,K⟩⟩:=h
 ·cases D
 simp only[On8,Oc9,Oh2,and_true]at D;obtain⟨rfl,-,rfl⟩:=D;refine⟨O,fun j p hp=>?_⟩;have Y:j<es.length:=(Ob9.1 hp).1;have y:∀ i,i<8→w.cell? ⟨E,j*8+i,none⟩=(Jft b p)[i]?:=fun i hi=>by
  have:=Jek (Jft b) 8 (fun _=>rfl) es j i p hp hi;rw[←K,Oe7,if_pos (by omega),Oe6]at this;rw[←this];simp[World.cell?,H]
 exact⟨y 0 (by omega),y 1 (by omega),y 2 (by omega),y 3 (by omega),y 4 (by omega),y 5 (by omega),y 6 (by omega),y 7 (by omega)⟩
theorem Jue:(prog.info? 267).map (fun i=>(i.zero,i.size,i.bytes))=some (some (.agg #[.int .i64 0,.int .i64 0,.int .i64 0,.int .i64 0,.int .i64 0,.int .i64 0,.string ⟨#[]⟩,.nilFunc]),8,72):=by kernel_rfl
theorem Jsw:(prog.info? 265).map (fun i=>(i.zero,i.size,i.bytes))=some (some (.slice none 0 0),1,24):=by kernel_rfl
abbrev stV (q:Nat×Nat×List Pt):Value:=.slice (some ⟨q.1,0,none⟩) q.2.2.length q.2.1
structure Jw1 (w:World) (kb:Nat) (exv:Value) (qs:List (Nat×Nat×List Pt)) (ess:List (List Pt)) (j:Nat) (wr:World):Prop where
 own:Jo wr w.heap.size 265 exv (qs.map stV)
 wk:Uz wr w.heap.size exv (.slice none 0 0) 0 0 (.slice none 0 0) .nilIface
 kinds:∃ ty,wr.heap[kb]?=some (.cells (Jfq w.heap.size) ty (0,0))∧ty≠267∧ty≠265∧ty≠261
 steps:∀ q∈qs,Jxp wr w.heap.size w.heap.size (stV q) q.2.2
 took:qs.map (·.2.2)=ess.take j
 below:Below w.heap.size w wr
def Jd3 (lo hi:Nat)(w:World)(b:Nat)(ex:Value)(E:List (List Pt)):Prop:=∃ y H,ex=.slice (some ⟨y,0,none⟩) E.length H∧y≠b∧lo≤y∧y<hi∧∀ j es,E[j]?=some es→∃ D K,lo≤D∧D<hi∧w.cell? ⟨y,j,none⟩=some (.slice (some ⟨D,0,none⟩) es.length K)∧Jco w D b es
theorem Jd3.at {lo hi:Nat}{w:World}{b:Nat}{ex:Value}{y:List (List Pt)}(h:Jd3 lo hi w b ex y):Jx0 w b ex y:=by
 obtain⟨E,D,H,K,_,_,O⟩:=h;refine⟨E,D,H,K,fun j es X=>?_⟩;obtain⟨Y,Z,_,_,R,U⟩:=O j es X;exact⟨Y,Z,R,U⟩
theorem Jd3.of_blocks {lo hi:Nat}{w w':World}{b:Nat}{ex:Value}{X:List (List Pt)}(h:Jd3 lo hi w b ex X)(Z:∀ k,lo≤k→k<hi→k≠b→w'.heap[k]?=w.heap[k]?):Jd3 lo hi w' b ex X:=by
 obtain⟨E,ba,bc,Y,K,O,bf⟩:=h;refine⟨E,ba,bc,Y,K,O,fun j es bi=>?_⟩;obtain⟨D,bE,R,U,bh,H⟩:=bf j es bi;have y:∀ o v,w.cell? ⟨D,o,none⟩=some v→w'.cell? ⟨D,o,none⟩=some v:=fun o v bj=>(Oc3 (a:=⟨D,o,none⟩) (Z D R U H.ne)).trans bj;refine⟨D,bE,R,U,(Oc3 (a:=⟨E,j,none⟩) (Z E K O Y)).trans bh,H.ne,fun j p hp=>?_⟩;obtain⟨bn,br,bx,bz,bA,bB,bC,bD⟩:=H.step j p hp;exact⟨y _ _ bn,y _ _ br,y _ _ bx,y _ _ bz,y _ _ bA,y _ _ bB,y _ _ bC,y _ _ bD⟩
theorem Ja4 {w:World}{B:Nat}{e:TypeId}{z:Nat}{sv:Value}{n:Nat}{xs:List Value}{g:Nat}(h:w.ownsRow B e z sv n xs)(y:sv.ownBlock=some g):∃ D,w.heap[g]?=some (.cells D e (0,0)):=by
 obtain⟨_,⟨E,_⟩|⟨K,cap,D,E,_,H,_⟩⟩:=h
 ·rw[E]at y;cases y
 rw[E]at y;simp only[Value.ownBlock,Oc9]at y;exact⟨D,y▸H⟩
theorem Jfc {w:World}{g E:Nat}{c H:Array Value}{e D:TypeId}{f K:Nat×Nat}(h:w.heap[g]?=some (.cells c e f))(y:w.heap[E]?=some (.cells H D K))(R:e≠D):g≠E:=fun O=>by
 subst O;rw[h]at y;simp only[Oc9,Obj.cells.injEq]at y;exact R y.2.1
theorem Kg0 {w:World}{kb:Nat}{y:Value}{Y:List (Nat×Nat×List Pt)}{K:List (List Pt)}{j:Nat}{wr H D:World}(h:Jw1 w kb y Y K j wr)(E:Below wr.heap.size wr H){o:Obj}(R:(H.alloc o).grownBy D y.ownBlock):Uz D w.heap.size y (.slice none 0 0) 0 0 (.slice none 0 0) .nilIface:=by
 have U:=Jd h.wk;have z2:=E.size;have X:y.ownBlock≠some w.heap.size:=fun e=>by
  obtain⟨Z,O⟩:=Ja4 h.own e;exact Jfc O h.wk (by decide) rfl
 show D.heap[w.heap.size]?=_;rw[R.block _ (by rw[Oa7];omega) (fun e=>X e.symm),Oa9 _ _ _ (by omega),E.block _ U];exact h.wk
theorem Ket {w:World}{kb:Nat}{H:Value}{bz:List (Nat×Nat×List Pt)}{bn:List (List Pt)}{j:Nat}{wr K y:World}(h:Jw1 w kb H bz bn j wr){es:List Pt}(bI:bn[j]?=some es)(O:Below wr.heap.size wr K){bh bi:Nat}(bL:Jxp K wr.heap.size w.heap.size (.slice (some ⟨bh,0,none⟩) es.length bi) es)
  {R:Value} (U:(K.alloc (.cells #[.slice (some ⟨bh,0,none⟩) es.length bi] 265)).grownBy y H.ownBlock) (bG:Jo y w.heap.size 265 R (bz.map stV++[stV (bh,bi,es)])) :
  Jw1 w kb R (bz++[(bh,bi,es)]) bn (j+1) (y.setCell ⟨w.heap.size,0,none⟩ R):=by
 have bO:=h.below.size;have z2:=O.size;have bP:=U.size;rw[Oa7]at bP;have bM:=Jd h.wk;have bc:∀ g,H.ownBlock=some g→(w.heap.size≤g∧g<wr.heap.size)∧∃ E,wr.heap[g]?=some (.cells E 265 (0,0)):=fun g e=>⟨Je h.own e,Ja4 h.own e⟩;have bC:∀ k,k<K.heap.size→H.ownBlock≠some k→y.heap[k]?=K.heap[k]?:=fun k X bx=>by
  rw[U.block k (by rw[Oa7];omega) (fun e=>bx e.symm),Oa9 _ _ k X]
 have br:∀ k,k<wr.heap.size→H.ownBlock≠some k→y.heap[k]?=wr.heap[k]?:=fun k X bx=>by
  rw[bC k (by omega) bx,O.block k X]
 have bN:H.ownBlock≠some w.heap.size:=fun e=>by
  obtain⟨_,E,D⟩:=bc _ e;exact Jfc D h.wk (by decide) rfl
 have bf:Uz y w.heap.size H (.slice none 0 0) 0 0 (.slice none 0 0) .nilIface:=(br _ bM bN).trans h.wk;have bK:∀ g E,K.heap[g]?=some (.cells E 267 (0,0))→H.ownBlock≠some g:=fun g E D e=>by
  obtain⟨⟨_,hl⟩,bQ,bD⟩:=bc _ e;rw[←O.block g hl]at bD;exact Jfc bD D (by decide) rfl
 have bE:∀ sv bj,Jxp K w.heap.size w.heap.size sv bj→Jxp (y.setCell ⟨w.heap.size,0,none⟩ R) w.heap.size w.heap.size sv bj:=fun sv bj hs=>Jl hs fun g e=>by
  obtain⟨E,D⟩:=Ja4 hs e;have Z:y.heap[g]?=K.heap[g]?:=bC g (Jd D) (bK g E D);rw[Oa4 _ _ _ _ ?_,Z];exact Jfc (Z.trans D) bf (by decide)
 refine⟨?_,?_,?_,?_,?_,?_⟩
 ·rw[Ob8];refine Jl bG fun g e=>?_;obtain⟨E,D⟩:=Ja4 bG e;exact Oa4 _ _ _ _ (Jfc D bf (by decide))
 ·have:=Jk bf 0 R;simp only[Oa1,List.set_cons_zero]at this;exact this
 ·obtain⟨ty,ba,bH,bA,bB⟩:=h.kinds;have Z:y.heap[kb]?=wr.heap[kb]?:=br kb (Jd ba) fun e=>by
   obtain⟨_,E,D⟩:=bc _ e;exact Jfc D ba (fun e=>bA e.symm) rfl
  have bJ:kb≠w.heap.size:=Jfc (Z.trans ba) bf bB;exact⟨ty,(Oa4 _ _ _ _ bJ).trans (Z.trans ba),bH,bA,bB⟩
 ·intro q Y;rw[Od2,Oc6]at Y;rcases Y with Y|rfl
  ·exact bE _ _ (Jl (h.steps q Y) fun g e=>O.block g (Je (h.steps q Y) e).2)
  exact bE _ _ (Jgl bL bO)
 ·rw[Ob8,h.took,Oi7,bI];rfl
 refine⟨?_,?_,?_,?_,fun k X=>?_⟩
 ·exact U.os.trans (O.os.trans h.below.os)
 ·exact U.tape.trans (O.tape.trans h.below.tape)
 ·exact U.output.trans (O.output.trans h.below.output)
 ·have:(y.setCell ⟨w.heap.size,0,none⟩ R).heap.size=y.heap.size:=by simp[World.setCell]
  omega
 rw[Oa4 _ _ _ _ (by show k≠w.heap.size;omega),br k (by omega) (fun e=>by have:=(bc k e).1;omega)];exact h.below.block k X
theorem Jsm (bO eo cT W:Nat)(E:List (List Pt))(w:World)(ch:Jaz w bO eo E)(cE:Jga W E)(hl:E.length≤1000)(dD:1≤E.length) :
  Calls prog 103 #[.slice (some ⟨bO,eo,none⟩) E.length cT] w fun e w'=>Below w.heap.size w w'∧e=.returned (.pointer (some ⟨w.heap.size,0,none⟩))∧∃ ex,Uz w' w.heap.size ex (.slice none 0 0) 0 0 (.slice none 0 0) .nilIface∧Jd3 w.heap.size w'.heap.size w' w.heap.size ex E:=by
 have bZ:Hid (Jaz w bO eo E∧Jga W E):=⟨ch,cE⟩;clear ch cE;have dG:∀ (f:Nat) (a:Addr) (O:World),(store a (.func (.func f) #[.pointer (some ⟨w.heap.size,0,none⟩)] #[])).run prog O=stored prog O a (.func (.func f) #[.pointer (some ⟨w.heap.size,0,none⟩)] #[]) .plain:=fun f a O=>run_store _ _ _ _ _ rfl;obtain⟨w1,bB⟩:∃ w1,w1=w.alloc (.cells #[.slice none 0 0,.slice none 0 0,.int .i64 0,.int .i64 0,.slice none 0 0,.nilIface] 261):=⟨_,rfl⟩;have ci:Below w.heap.size w w1:=by rw[bB];exact Jc (Oa5 _ _) _
 have cI:Uz w1 w.heap.size (.slice none 0 0) (.slice none 0 0) 0 0 (.slice none 0 0) .nilIface:=by rw[bB];exact heap_alloc_new w _
 have bT:=Jvt w.heap.size w1;have bM:Hid (Below w.heap.size w w1∧Uz w1 w.heap.size (.slice none 0 0) (.slice none 0 0) 0 0 (.slice none 0 0) .nilIface):=⟨ci,cI⟩;have ca:Hid (w1=w.alloc (.cells #[.slice none 0 0,.slice none 0 0,.int .i64 0,.int .i64 0,.slice none 0 0,.nilIface] 261)):=bB;rw[bB]at bT;clear ci cI bB;go_enter func103,ntmps103
 go_upto_region 3 with(go_at_call 137;refine bT.mono ?_;rintro e Y ⟨rfl,bD⟩;rw[←ca.out]at bD)
 have cC:Jw1 w Y.heap.size (.slice none 0 0) [] E 0 (Y.alloc (.cells (Jfq w.heap.size) 263)):=by
  have U:Below Y.heap.size Y (Y.alloc (.cells (Jfq w.heap.size) 263)):=Jc (Oa5 _ _) _;exact⟨Jo.nil _ _ _,(bM.out.2.below bD).below U,⟨263,heap_alloc_new Y _,by decide,by decide,by decide⟩,fun q dg=>by simp at dg,rfl,Jb (Jb bM.out.1 bD) U⟩
 have bC:Hid (Jw1 w Y.heap.size (.slice none 0 0) [] E 0 (Y.alloc (.cells (Jfq w.heap.size) 263))):=cC;clear cC bT bM ca bD;obtain⟨kb,cy⟩:∃ kb,kb=Y.heap.size:=⟨_,rfl⟩;rw[←cy]at bC ⊢;clear cy;generalize Y.alloc (.cells (Jfq w.heap.size) 263)=dx at bC ⊢;go_wp2;go_loopw [16] (fun i wr=>∃ (j:Nat) (bP:Value) (H:List (Nat×Nat×List Pt)),j≤E.length∧i=.int .i64 (j:Int)∧Hid (Jw1 w kb bP H E j wr)) (fun i _=>E.length-(intOf i).toNat)
 case atStart=>exact⟨0,_,_,Ob7 _,rfl,bC⟩
 case round=>
  obtain⟨j,bP,H,dA,rfl,R⟩:=hrel;clear bC;obtain⟨K,dj⟩:∃ K,K=wr:=⟨_,rfl⟩;subst dj;by_cases de:j<E.length
  ·obtain⟨es,bj⟩:∃ es,E[j]?=some es:=⟨_,Oa3 de⟩;obtain⟨pb,dr,dN,bK,cG⟩:=bZ.out.1 j es bj;have dP:=Ja R.out.below bK;have bU:=bZ.out.2 es (Of6 bj);have bL:Hid ((∀ k p,es[k]?=some p→Qi w pb (dr+k*7) p)∧es≠[]∧es.length≤1000∧∀ j p,es[j]?=some p→Jr0 W j p):=⟨cG,bU⟩;have cK:Hid (E[j]?=some es):=bj;have dz:es.length≤1000:=bU.2.1;have j1:(0:Int)≤(j:Int):=(by omega);have j2:(j:Int)<(E.length:Int):=(by omega);have dI:w.heap.size<K.heap.size:=Jd R.out.wk;clear bj cG bU bK;go_wp2;go_loopw [7,22] (fun s i wr=>∃ k:Nat,k≤es.length∧i=.int .i64 (k:Int)∧Hid (wr.ownsRow K.heap.size 267 8 s k ((es.take k).flatMap (Jft w.heap.size)))∧Below K.heap.size K wr) (fun _ i _=>es.length-(intOf i).toNat)
   case atStart=>exact⟨0,Ob7 _,rfl,⟨rfl,.inl ⟨rfl,rfl⟩⟩,Oa5 _ _⟩
   case round=>
    obtain⟨k,bG,rfl,br,bh⟩:=hrel;have dH:=bh.size;by_cases dd:k<es.length
    ·obtain⟨p,hp⟩:∃ p,es[k]?=some p:=⟨_,Oa3 dd⟩;obtain⟨cJ,bK,ds,dt,du,dv,dw⟩:=(bL.out.1 k p hp).below (Jb R.out.below bh);have bV:=bL.out.2.2.2 k p hp;obtain⟨y,bI⟩:∃ y:Nat,p.op=(y:Int):=⟨p.op.toNat,by have:=bV.pt.lo;omega⟩;have df:y<12:=by have:=bV.pt.hi;omega
     have bS:wr.cell? ⟨kb,y,none⟩=some (.func (.func (Zv p.op)) #[.pointer (some ⟨w.heap.size,0,none⟩)] #[]):=by
      obtain⟨ty,bH,_⟩:=R.out.kinds;have da:=(bh.block _ (Jd bH)).trans bH;have:=Jz6 w.heap.size y df;rw[←bI]at this;rw[←this];simp only[World.cell?,da];rfl
     obtain⟨f,hf⟩:∃ f,f=Zv p.op:=⟨_,rfl⟩;have cP:Hid (Jft w.heap.size p=[.int .i64 (y:Int),.int .i64 p.l,.int .i64 p.r,.int .i64 p.c,.int .i64 p.v.k,.int .i64 p.v.n,.string p.v.s,.func (.func f) #[.pointer (some ⟨w.heap.size,0,none⟩)] #[]]):=by
      show _=_;unfold Jft;rw[hf,bI]
     rw[←hf]at bS;rw[bI]at cJ;have cO:Hid (es[k]?=some p):=hp;have dJ:(0:Int)≤(k:Int):=(by omega);have dK:(k:Int)<(es.length:Int):=(by omega);have dL:(0:Int)≤(y:Int):=(by omega);have dM:(y:Int)<12:=(by omega);clear hf bI hp bV;go_upto_region 10 with fail
     have cA:=heap_alloc_new wr (.cells #[.int .i64 (y:Int),.int .i64 p.l,.int .i64 p.r,.int .i64 p.c,.int .i64 p.v.k,.int .i64 p.v.n,.string p.v.s] 63);have db:(wr.alloc (.cells #[.int .i64 (y:Int),.int .i64 p.l,.int .i64 p.r,.int .i64 p.c,.int .i64 p.v.k,.int .i64 p.v.n,.string p.v.s] 63)).drew.cell? ⟨kb,y,none⟩=some (.func (.func f) #[.pointer (some ⟨w.heap.size,0,none⟩)] #[]):=Jh (Kf bS);obtain⟨dq,cZ,dk,dm,dp⟩:=info_parts Jue;refine wp_region_held_drew (S:=fun O=>O.cell? ⟨wr.heap.size,0,none⟩=some (.int .i64 (y:Int))∧O.cell? ⟨wr.heap.size,1,none⟩=some (.int .i64 p.l)∧O.cell? ⟨wr.heap.size,2,none⟩=some (.int .i64 p.r)∧O.cell? ⟨wr.heap.size,3,none⟩=some (.int .i64 p.c)∧O.cell? ⟨wr.heap.size,4,none⟩=some (.int .i64 p.v.k)∧O.cell? ⟨wr.heap.size,5,none⟩=some (.int .i64 p.v.n)∧O.cell? ⟨wr.heap.size,6,none⟩=some (.string p.v.s)∧O.cell? ⟨kb,y,none⟩=some (.func (.func f) #[.pointer (some ⟨w.heap.size,0,none⟩)] #[])) (by kernel_rfl) (by refine⟨?_,?_,?_,?_,?_,?_,?_,db⟩<;>(unfold World.cell?;rw[heap_drew,cA];rfl)) (fun D=>?_);refine tkj 0 rfl D ?_;refine tkj 1 rfl D ?_;refine tkj 2 rfl D ?_;refine tkj 3 rfl D ?_;refine tkj 4 rfl D ?_;refine tkj 5 rfl D ?_;refine tkj 6 rfl D ?_;refine tkn ?_;clear cA cJ bK ds dt du dv dw;refine tkr 7 rfl fun bN bA=>?_;go_simp;have U:Below (wr.alloc (.cells #[.int .i64 (y:Int),.int .i64 p.l,.int .i64 p.r,.int .i64 p.c,.int .i64 p.v.k,.int .i64 p.v.n,.string p.v.s] 63)).drew.heap.size (wr.alloc (.cells #[.int .i64 (y:Int),.int .i64 p.l,.int .i64 p.r,.int .i64 p.c,.int .i64 p.v.k,.int .i64 p.v.n,.string p.v.s] 63)).drew (((wr.alloc (.cells #[.int .i64 (y:Int),.int .i64 p.l,.int .i64 p.r,.int .i64 p.c,.int .i64 p.v.k,.int .i64 p.v.n,.string p.v.s] 63)).alloc (.cells #[.int .i64 (y:Int),.int .i64 p.l,.int .i64 p.r,.int .i64 p.c,.int .i64 p.v.k,.int .i64 p.v.n,.string p.v.s,.func (.func f) #[.pointer (some ⟨w.heap.size,0,none⟩)] #[]] 267)).drew):=by
      have:=Jc (Oa5 _ (wr.alloc (.cells #[.int .i64 (y:Int),.int .i64 p.l,.int .i64 p.r,.int .i64 p.c,.int .i64 p.v.k,.int .i64 p.v.n,.string p.v.s] 63))) (.cells #[.int .i64 (y:Int),.int .i64 p.l,.int .i64 p.r,.int .i64 p.c,.int .i64 p.v.k,.int .i64 p.v.n,.string p.v.s,.func (.func f) #[.pointer (some ⟨w.heap.size,0,none⟩)] #[]] 267);exact⟨this.os,this.tape,this.output,this.size,this.block⟩
     refine bA.out _ _ ⟨Ja U D.1,Ja U D.2.1,Ja U D.2.2.1,Ja U D.2.2.2.1,Ja U D.2.2.2.2.1,Ja U D.2.2.2.2.2.1,Ja U D.2.2.2.2.2.2.1,Ja U D.2.2.2.2.2.2.2⟩ (fun D=>?_);clear bA bN;refine tkr 8 rfl fun bN bA=>?_;have cn:Below wr.heap.size wr (((wr.alloc (.cells #[.int .i64 (y:Int),.int .i64 p.l,.int .i64 p.r,.int .i64 p.c,.int .i64 p.v.k,.int .i64 p.v.n,.string p.v.s] 63)).alloc (.cells #[.int .i64 (y:Int),.int .i64 p.l,.int .i64 p.r,.int .i64 p.c,.int .i64 p.v.k,.int .i64 p.v.n,.string p.v.s,.func (.func f) #[.pointer (some ⟨w.heap.size,0,none⟩)] #[]] 267)).drew):=Jj (Jc (Jc (Oa5 _ _) _) _);have cF:(((wr.alloc (.cells #[.int .i64 (y:Int),.int .i64 p.l,.int .i64 p.r,.int .i64 p.c,.int .i64 p.v.k,.int .i64 p.v.n,.string p.v.s] 63)).alloc (.cells #[.int .i64 (y:Int),.int .i64 p.l,.int .i64 p.r,.int .i64 p.c,.int .i64 p.v.k,.int .i64 p.v.n,.string p.v.s,.func (.func f) #[.pointer (some ⟨w.heap.size,0,none⟩)] #[]] 267)).drew).ownsRow K.heap.size 267 8 u7 k ((es.take k).flatMap (Jft w.heap.size)):=Jaw br.out cn;have cj:(((wr.alloc (.cells #[.int .i64 (y:Int),.int .i64 p.l,.int .i64 p.r,.int .i64 p.c,.int .i64 p.v.k,.int .i64 p.v.n,.string p.v.s] 63)).alloc (.cells #[.int .i64 (y:Int),.int .i64 p.l,.int .i64 p.r,.int .i64 p.c,.int .i64 p.v.k,.int .i64 p.v.n,.string p.v.s,.func (.func f) #[.pointer (some ⟨w.heap.size,0,none⟩)] #[]] 267)).drew).heap[wr.heap.size+1]?=some (.cells #[.int .i64 (y:Int),.int .i64 p.l,.int .i64 p.r,.int .i64 p.c,.int .i64 p.v.k,.int .i64 p.v.n,.string p.v.s,.func (.func f) #[.pointer (some ⟨w.heap.size,0,none⟩)] #[]] 267 (0,0)):=by
      have:=heap_alloc_new (wr.alloc (.cells #[.int .i64 (y:Int),.int .i64 p.l,.int .i64 p.r,.int .i64 p.c,.int .i64 p.v.k,.int .i64 p.v.n,.string p.v.s] 63)) (.cells #[.int .i64 (y:Int),.int .i64 p.l,.int .i64 p.r,.int .i64 p.c,.int .i64 p.v.k,.int .i64 p.v.n,.string p.v.s,.func (.func f) #[.pointer (some ⟨w.heap.size,0,none⟩)] #[]] 267);rw[Oa7]at this;exact this
     refine step_append_lies (((wr.alloc (.cells #[.int .i64 (y:Int),.int .i64 p.l,.int .i64 p.r,.int .i64 p.c,.int .i64 p.v.k,.int .i64 p.v.n,.string p.v.s] 63)).alloc (.cells #[.int .i64 (y:Int),.int .i64 p.l,.int .i64 p.r,.int .i64 p.c,.int .i64 p.v.k,.int .i64 p.v.n,.string p.v.s,.func (.func f) #[.pointer (some ⟨w.heap.size,0,none⟩)] #[]] 267)).drew) rfl (.tmp 26) (.tmp 33) 265 rfl K.heap.size 267 dq (.agg #[.int .i64 0,.int .i64 0,.int .i64 0,.int .i64 0,.int .i64 0,.int .i64 0,.string ⟨#[]⟩,.nilFunc]) 8 72 underlying265 cZ dk dm dp rfl (by decide) u7 k ((es.take k).flatMap (Jft w.heap.size)) rfl cF ⟨wr.heap.size+1,0,none⟩ 1 1 [.int .i64 (y:Int),.int .i64 p.l,.int .i64 p.r,.int .i64 p.c,.int .i64 p.v.k,.int .i64 p.v.n,.string p.v.s,.func (.func f) #[.pointer (some ⟨w.heap.size,0,none⟩)] #[]] rfl rfl (fun j u bn=>World.news_of_block cj j u (by simpa using bn)) (fun u bn=>by simp at bn;rcases bn with rfl|rfl|rfl|rfl|rfl|rfl|rfl|rfl<;>rfl) (by decide) (by unfold maxLen;omega) (by omega) (by rw[heap_drew,Oa7,Oa7];omega) (wr.heap.size+2) (by rw[heap_drew,Oa7,Oa7]) (fun cU cS bx cD bE cW dc=>?_);have dR:=bE.size;have dC:=Jm bS;have dB:kb<K.heap.size:=by obtain⟨ty,bH,_⟩:=R.out.kinds;exact Jd bH
     have bi:∀ o:Nat,bx.cell? ⟨wr.heap.size,o,none⟩=(((wr.alloc (.cells #[.int .i64 (y:Int),.int .i64 p.l,.int .i64 p.r,.int .i64 p.c,.int .i64 p.v.k,.int .i64 p.v.n,.string p.v.s] 63)).alloc (.cells #[.int .i64 (y:Int),.int .i64 p.l,.int .i64 p.r,.int .i64 p.c,.int .i64 p.v.k,.int .i64 p.v.n,.string p.v.s,.func (.func f) #[.pointer (some ⟨w.heap.size,0,none⟩)] #[]] 267)).drew).cell? ⟨wr.heap.size,o,none⟩:=fun o=>by simp only[World.cell?,bE.block wr.heap.size (Jm D.1) (fun e=>by have:=Je br.out e.symm;omega)]
     have cx:bx.cell? ⟨kb,y,none⟩=(((wr.alloc (.cells #[.int .i64 (y:Int),.int .i64 p.l,.int .i64 p.r,.int .i64 p.c,.int .i64 p.v.k,.int .i64 p.v.n,.string p.v.s] 63)).alloc (.cells #[.int .i64 (y:Int),.int .i64 p.l,.int .i64 p.r,.int .i64 p.c,.int .i64 p.v.k,.int .i64 p.v.n,.string p.v.s,.func (.func f) #[.pointer (some ⟨w.heap.size,0,none⟩)] #[]] 267)).drew).cell? ⟨kb,y,none⟩:=by simp only[World.cell?,bE.block kb (by rw[heap_drew,Oa7,Oa7];omega) (fun e=>by have:=Je br.out e.symm;omega)]
     refine bA.out _ _ ⟨(bi 0).trans D.1,(bi 1).trans D.2.1,(bi 2).trans D.2.2.1,(bi 3).trans D.2.2.2.1,(bi 4).trans D.2.2.2.2.1,(bi 5).trans D.2.2.2.2.2.1,(bi 6).trans D.2.2.2.2.2.2.1,cx.trans D.2.2.2.2.2.2.2⟩ (fun D=>?_);clear bA bN bi cx;simp only[Act.put,List.getElem_toArray,List.getElem_cons_zero,List.getElem_cons_succ,Oa1,List.set_cons_zero,List.set_cons_succ];refine tkj 9 rfl D ?_;refine tkn ?_;refine wpAnyH_done (by kernel_rfl) ?_ _;have cN:Hid (bx.ownsRow K.heap.size 267 8 (.slice (some ⟨cU,0,none⟩) (k+1) cS) (k+1) ((es.take (k+1)).flatMap (Jft w.heap.size))):=by
      show World.ownsRow _ _ _ _ _ _ _;rw[Oi7,cO.out,Oe8];show World.ownsRow _ _ _ _ _ _ ((es.take k).flatMap (Jft w.heap.size)++(Jft w.heap.size p++[]));rw[Od7,cP.out];exact cD
     have cX:Below K.heap.size K bx:=Jy (Jb bh cn) bE fun g e=>(Je br.out e).1;clear D cD cW dc cF cj;go_wp2;go_roundw
     case rel=>exact⟨k+1,by omega,by go_num,cN,cX⟩
     case measure=>simp[intOf];omega
    obtain rfl:k=es.length:=by omega
    have cB:es.length≠0:=fun e=>bL.out.2.1 (Od3.1 e);obtain⟨ba,bc,bW⟩:∃ ba bc,u7=.slice (some ⟨ba,0,none⟩) es.length bc:=by
     obtain⟨_,⟨_,bf⟩|⟨ba,bc,cc,bz,_⟩⟩:=br.out
     ·exact absurd bf cB
     exact⟨ba,bc,bz⟩
    subst bW;have Z:Jxp wr K.heap.size w.heap.size (.slice (some ⟨ba,0,none⟩) es.length bc) es:=by
     have:=br.out;rwa [Oc8 (Oa2 _)]at this
    have cQ:Hid (Jxp wr K.heap.size w.heap.size (.slice (some ⟨ba,0,none⟩) es.length bc) es):=Z;have c0:=(R.out.wk.below bh).cells.1;have dE:H.length≤E.length:=by
     have:=congrArg List.length R.out.took;rw[Oa6,Oc7]at this;omega
    clear Z cB;go_wp2_with (at_builtin;go_must (refine Ul (by rfl) _ _ 259 265 _ 24 Jsw (by rfl) (by decide) (by kernel_rfl) (by rfl) w.heap.size _ _ (by rfl) (Jo.alloc (R.out.own.below bh) _) ⟨wr.heap.size,0,none⟩ 1 [.slice (some ⟨ba,0,none⟩) es.length bc] (by rfl) (by exact Ua wr _ _) (by intro u bn;simp at bn;subst bn;rfl) (by rw[Oa6];simp only[List.length_cons,List.length_nil];omega) (by simp;omega) ?_);intro dy bx bz bf cV;obtain⟨cb,c5,cH,_⟩:=bz.cells;obtain⟨bJ,cz⟩:∃ bJ,bJ=(H.map stV++[Value.slice (some ⟨ba,0,none⟩) es.length bc]).length:=⟨_,rfl⟩;rw[←cz]at cH;subst cH;clear cz;have bY:=Kg0 R.out bh bf;have dO:=bY.cells.1;have dQ:=bY.thaw 0;have cM:Hid (Jw1 w kb (.slice cb bJ c5) (H++[(ba,bc,es)]) E (j+1) (bx.setCell ⟨w.heap.size,0,none⟩ (.slice cb bJ c5))):=Ket R.out cK.out bh cQ.out bf bz;clear bz bf cV bY)
    go_roundw
    case rel=>exact⟨j+1,_,_,by omega,by go_num,cM⟩
    case measure=>simp[intOf];omega
  obtain rfl:j=E.length:=by omega
  have X:=R;go_wp2;go_ret
  refine⟨X.out.below,rfl,bP,X.out.wk,?_⟩;have bX:=X.out.took;rw[Oc8 (Oa2 _)]at bX;have di:H.length=E.length:=by rw[←bX,Oa6]
  obtain⟨a,cap,bW,cu⟩:=Ji8 X.out.own;have dh:0<H.length:=by omega
  obtain⟨g,cY,bR,_⟩:=cu 0 (stV H[0]) (by rw[Ob1,Oa3 dh];rfl);subst cY;refine⟨g,cap,by rw[bW,Oa6,di],?_,(Je X.out.own bR).1,(Je X.out.own bR).2,fun k es bj=>?_⟩
  ·obtain⟨cc,bQ⟩:=Ja4 X.out.own bR;exact Jfc bQ X.out.wk (by decide)
  have bG:k<H.length:=by have:=(Ob9.1 bj).1;omega
  have cv:H[k].2.2=es:=by
   have:=congrArg (·[k]?) bX;simp only[Ob1,Oa3 bG,bj,Option.map_some]at this;exact Oj6 this
  obtain⟨g2,cf,_,bf,_⟩:=cu k (stV H[k]) (by rw[Ob1,Oa3 bG];rfl);simp only[Oc9,Oh2,and_true]at cf;subst cf;have Z:=X.out.steps H[k] (Ob3 bG);rw[show stV H[k]=Value.slice (some ⟨H[k].1,0,none⟩) es.length H[k].2.1 by rw[←cv]]at bf Z;rw[cv]at Z;refine⟨H[k].1,H[k].2.1,(Je Z rfl).1,(Je Z rfl).2,bf,Jnn Z ?_⟩;obtain⟨cc,bQ⟩:=Ja4 Z rfl;exact Jfc bQ X.out.wk (by decide)
attribute [local go_sem] Oc0
def Jck (w:World)(rb:Nat)(z:Int)(bu bl E H y D dn:Value):Prop:=w.heap[rb]?=some (.cells #[.int .i64 z,bu,bl,E,H,y,D,dn] 96 (0,0))
theorem Jck.below {w w':World}{rb:Nat}{z:Int}{bu bl E H y D dn:Value}(h:Jck w rb z bu bl E H y D dn)(K:Below w.heap.size w w'):Jck w' rb z bu bl E H y D dn:=(K.block rb (Jd h)).trans h
theorem Jck.cells {w:World}{rb:Nat}{z:Int}{bu bl H E y D dn:Value}(h:Jck w rb z bu bl H E y D dn):w.cell? ⟨rb,0,none⟩=some (.int .i64 z)∧w.cell? ⟨rb,4,none⟩=some E∧w.cell? ⟨rb,5,none⟩=some y∧w.cell? ⟨rb,6,none⟩=some D∧w.cell? ⟨rb,7,none⟩=some dn:=by
 unfold Jck at h;simp[World.cell?,h]
theorem Jjb (rb y k cap i:Nat)(z:Int)(bu bl H K D E:Value)(a:Option Addr)(n c:Nat)(w:World)(h:Jck w rb z bu bl H K D E (.slice (some ⟨y,0,none⟩) k cap))(hi:i<k)(U:w.cell? ⟨y,i,none⟩=some (.slice a n c))(hf:w.frozen? ⟨y,i,none⟩=false) :
  Calls prog 34 #[.pointer (some ⟨rb,0,none⟩),.int .i64 (i:Int)] w fun e w'=>e=.returned (.slice a n c)∧w'=w.setCell ⟨y,i,none⟩ (.slice none 0 0):=by
 obtain⟨c0,c4,c5,O,R⟩:=h.cells;have X:(0:Int)≤(i:Int):=by omega
 have Y:(i:Int)<(k:Int):=by omega
 clear h;go_enter func34,ntmps34
 go_wp2;go_ret
 exact⟨rfl,rfl⟩
theorem Jh4 (v:Value)(z:Int)(a:Option Addr)(n c:Nat)(y:v=.slice a n c)(w:World):Calls prog 104 #[v,.int .i64 z] w fun e w'=>e=.returned (.func (.func 138) #[] #[.pointer (some ⟨w.heap.size,0,none⟩),.pointer (some ⟨w.heap.size+1,0,none⟩)])∧w'=(w.alloc (.cells #[v] 72)).alloc (.cells #[.int .i64 z] 3):=by
 subst y;go_enter func104,ntmps104
 go_wp2;go_ret
 exact⟨rfl,rfl⟩
structure CK (W W':World):Prop where
 size:W.heap.size≤W'.heap.size
 cells:∀ (k:Nat) (c:Array Value) (t:TypeId) (f:Nat×Nat),W.heap[k]?=some (Obj.cells c t f)→W'.heap[k]?=some (Obj.cells c t f)
theorem CK.of_grown {W y:World}{row:Option Nat}(D:W.grownBy y row)(hr:∀ r,row=some r→∃ o:Obj,W.heap[r]?=some o∧o.isCells=false):CK W y:=
 ⟨D.size,fun k c t f h=>by
  rw[D.block k (Oe2.1 h).1 (fun e=>by
   obtain⟨o,E,hn⟩:=hr k e.symm;rw[h]at E;cases E
   simp[Obj.isCells]at hn)]
  exact h⟩
theorem CK.cell {W D:World}(h:CK W D){a:Addr}{v:Value}(y:W.cell? a=some v):D.cell? a=some v:=by
 unfold World.cell? at y ⊢;split at y
 ·rename_i c t f E
  rw[h.cells _ _ _ _ E];exact y
 cases y
theorem Jv.ck {W E:World}{a:Option Addr}{vs:List V}(h:Jv W a vs)(y:CK W E):Jv E a vs:=by
 rcases h with h|⟨b,o,H,K,D⟩
 ·exact .inl h
 exact .inr ⟨b,o,H,Oc2 K y.size,fun i v hi=>⟨y.cell (D i v hi).1,y.cell (D i v hi).2.1,y.cell (D i v hi).2.2⟩⟩
theorem Jxz {W D:World}{B:Nat}{e:TypeId}{z:Nat}{sv:Value}{n:Nat}{xs:List Value}(h:W.ownsRow B e z sv n xs)(R:CK W D):D.ownsRow B e z sv n xs:=by
 obtain⟨h0,y|⟨g,cap,E,y,H,K,O⟩⟩:=h
 ·exact⟨h0,.inl y⟩
 exact⟨h0,.inr ⟨g,cap,E,y,H,R.cells _ _ _ _ K,O⟩⟩
theorem Jq5 {W y:World}{b:Nat}{t:TypeId}{n:Nat}{f:Nat→Value}(h:W.rowIs b t n f)(H:CK W y):y.rowIs b t n f:=by
 obtain⟨c,D,E⟩:=h;exact⟨c,H.cells _ _ _ _ D,E⟩
theorem Kxx {W y:World}{b:Nat}{t:TypeId}{n:Nat}{f:Nat→Value}(h:Ktm W b t n f)(H:CK W y):Ktm y b t n f:=by
 obtain⟨c,D,E⟩:=h;exact⟨c,H.cells _ _ _ _ D,E⟩
theorem Jar.ck {W y:World}{B g:Nat}{E:List Value}{cs:List (List V)}(h:Jar W B g E cs)(D:CK W y):Jar y B g E cs:=⟨Jq5 h.row D,h.low,h.len,fun i hi=>Jxz (h.own i hi) D,h.ne,h.apart⟩
theorem Qd.ck {W y:World}{g:Nat}{hs:List (Option Addr×Nat)}{cs:List (List V)}(h:Qd W g hs cs)(D:CK W y):Qd y g hs cs:=⟨Kxx h.row D,fun j E=>(h.vals j E).ck D,h.cap⟩
def pv1 (e:List Pt)(x:List V):V:=match Kl e x with|.inl v=>v|.inr _=>Jf
theorem Jgd {e:List Pt}{x:List V}{v:V}(h:Kl e x=.inl v):pv1 e x=v:=by unfold pv1;rw[h]
def Un (y:List (List Pt))(cols:List (List V))(ps:List (Nat×Nat)):List (List V):=y.map fun e=>ps.flatMap fun x=>(List.range x.2).map fun i=>pv1 e (Ji cols (x.1+i))
theorem Up (y:List (List Pt))(cols:List (List V))(ps:List (Nat×Nat)):(Un y cols ps).length=y.length:=by simp[Un]
theorem Jht {y:List (List Pt)}(cols:List (List V))(ps:List (Nat×Nat)){j:Nat}{e:List Pt}(h:y[j]?=some e):(Un y cols ps).getD j []=ps.flatMap fun x=>(List.range x.2).map fun i=>pv1 e (Ji cols (x.1+i)):=by
 unfold Un;rw[Oa0,Ob1,h];rfl
theorem Jz7 (f m i:Nat)(c:List V)(hi:i<m):(Jbx f (f+m) c).getD i Jf=c.getD (f+i) Jf:=by
 unfold Jbx;rw[Oa0,Oh9,Oe7,if_pos (by omega),Oa0]
theorem Yw (cols:List (List V))(f m i:Nat)(hi:i<m):Ji (cols.map (Jbx f (f+m))) i=Ji cols (f+i):=by
 unfold Ji;rw[Oi6];exact Oj9 fun c _=>Jz7 f m i c hi
theorem Jwo (y:List (List Pt))(cols:List (List V))(ps:List (Nat×Nat))(f m:Nat)(D:List (List V))(hl:D.length=y.length)(O:∀ k,k<D.length→(D.getD k []).length=m)(Y:∀ i,i<m→∀ k e,y[k]?=some e→Kl e (Ji cols (f+i))=.inl ((D.getD k []).getD i Jf)):Jdi (Un y cols ps) D (Un y cols ps).length=Un y cols (ps++[(f,m)]):=by
 apply Oi8;intro k;by_cases E:k<y.length
 ·have H:y[k]?=some y[k]:=Oa3 E;have K:=Jlm (Un y cols ps) D (Un y cols ps).length k (by rw[Up];exact E);rw[if_pos (by rw[Up];exact E),Jht cols ps H]at K;have X:=Jht cols (ps++[(f,m)]) H;have R:(Jdi (Un y cols ps) D (Un y cols ps).length)[k]?=some ((Jdi (Un y cols ps) D (Un y cols ps).length).getD k []):=by
   rw[Oa0,Oa3 (by rw[Jf9,Up];exact E)];rfl
  have U:(Un y cols (ps++[(f,m)]))[k]?=some ((Un y cols (ps++[(f,m)])).getD k []):=by
   rw[Oa0,Oa3 (by rw[Up];exact E)];rfl
  rw[R,U,K,X,Oe8,Ol6];congr 2
  apply Oi8;intro i;by_cases hi:i<m
  ·rw[Ob1,Oh6 hi];have hr:=Y i hi k _ H;simp only[Option.map_some];rw[Jgd hr,Oa0 (l:=D.getD k []),Oa3 (by rw[O k (by omega)];exact hi)];rfl
  rw[Ob4 (by rw[O k (by omega)];omega),Ob4 (by simp;omega)]
 rw[Ob4 (by rw[Jf9,Up];omega),Ob4 (by rw[Up];omega)]
theorem Jm9 (N z:Nat){α:Type}(f:Nat→α):∀ k,(cks N z k).flatMap (fun x=>(List.range x.2).map fun i=>f (x.1+i))=(List.range (min (k*z) N)).map f:=by
 intro k;induction k with
 |zero=>rw[Nat.zero_mul,Nat.zero_min];rfl
 |succ k y=>
  rw[Jbj,Oe8,y,Ol6];have e:min ((k+1)*z) N=min (k*z) N+min z (N-k*z):=by rw[Of5];omega
  rw[e,List.range_add,Ob8,Oi6];congr 1
  by_cases h:k*z<N
  ·rw[Oj1 (Nat.le_of_lt h)];rfl
  have h0:min z (N-k*z)=0:=by omega
  show List.map _ (List.range (min z (N-k*z)))=List.map _ (List.range (min z (N-k*z)));rw[h0];rfl
theorem Jgt (N z k i:Nat)(hi:i<min (k*z) N):∃ x∈cks N z k,∃ t,t<x.2∧i=x.1+t:=by
 have h:=Jm9 N z (fun i=>i) k;have y:i∈(List.range (min (k*z) N)).map fun i=>i:=by simpa using hi
 rw[←h,Op5]at y;obtain⟨x,E,y⟩:=y;rw[Of0]at y;obtain⟨t,D,e⟩:=y;exact⟨x,E,t,by simpa using D,e.symm⟩
theorem Kbb (y:List (List Pt))(cols:List (List V))(N z:Nat)(D:1≤z):Un y cols (cks N z (ckN N z))=y.map fun e=>(List.range N).map fun i=>pv1 e (Ji cols i):=by
 unfold Un;refine Oj9 fun e _=>?_;rw[Jm9 N z (fun i=>pv1 e (Ji cols i)),Ol4 (Jcy D)]
def Jdc (w:World)(y l:Nat):Option Obj:=(w.setCell ⟨y,l,none⟩ (.slice none 0 0)).heap[y]?
theorem Jol {w W:World}{y l:Nat}(h:W.heap[y]?=w.heap[y]?):(W.setCell ⟨y,l,none⟩ (.slice none 0 0)).heap[y]?=Jdc w y l:=by
 unfold Jdc World.setCell;simp only[Oi3,h]
structure Jj0 (w:World) (z db l L b wb tb rg:Nat) (ex:Value) (ess:List (List Pt)) (cols:List (List V)) (ps:List (Nat×Nat)) (W:World):Prop where
 b1:W.heap[w.heap.size+1]?=some (.cells #[.slice none 0 0] 72 (0,0))
 b2:W.heap[w.heap.size+2]?=some (.cells #[.nilIface] 74 (0,0))
 bw:W.heap[wb]?=some (.cells #[.pointer (some ⟨b,0,none⟩)] 209 (0,0))
 bt:W.heap[tb]?=some (.cells #[.slice (some ⟨rg,0,none⟩) ess.length ess.length] 72 (0,0))
 wk:∃ (ba:Value) (f n:Int) (pv er:Value),Uz W b ex ba f n pv er
 exs:Jd3 (w.heap.size+3) wb W b ex ess
 tot:∀ x∈ps,x.2≤z
 low:L≤W.heap.size∧wb<L
 ct:∃ svs,Jar W rg rg svs (Un ess cols ps)∧∀ j c,j<ess.length→(Uq svs j).ownBlock=some c→L≤c
 keep:Ju (·=db) w W
 size:L≤W.heap.size
 run:∀ x∈ps,∀ i,i<x.2→∀ e∈ess,∃ v,Kl e (Ji cols (x.1+i))=.inl v
 dl:db<w.heap.size
 dn:W.heap[db]?=Jdc w db l
structure Jq9 (w:World) (db:Nat) (dv ov:Addr) (ess:List (List Pt)) (cols:List (List V)) (ps:List (Nat×Nat)) (W:World):Prop where
 b1:W.heap[w.heap.size+1]?=some (.cells #[.slice none 0 0] 72 (0,0))
 err:∃ (eb kk m:Nat) (pre:List (Nat×Nat)) (x:Nat×Nat),ps=pre++[x]∧m<x.2∧W.heap[w.heap.size+2]?=some (.cells #[Qv eb] 74 (0,0))∧w.heap.size≤eb∧Kr ess (Ji cols (x.1+m))≠0∧Ja8 W eb ((x.1+m:Nat):Int) kk (Jdb dv ov (Kr ess (Ji cols (x.1+m))))∧(∀ y∈pre,∀ i,i<y.2→∀ e∈ess,∃ v,Kl e (Ji cols (y.1+i))=.inl v)∧∀ i,i<m→∀ e∈ess,∃ v,Kl e (Ji cols (x.1+i))=.inl v
 keep:Ju (·=db) w W
theorem Jau {F:Nat→Prop}{w W D:World}{row:Option Nat}(h:Ju F w W)(y:W.grownBy D row)(hr:∀ r,row=some r→w.heap.size≤r):Ju F w D:=
 ⟨y.os.trans h.os,y.tape.trans h.tape,y.output.trans h.output,Ob2 h.size y.size,fun k E hn=>(y.block k (Oc2 E h.size) (fun e=>by have:=hr k e.symm;omega)).trans (h.block k E hn)⟩
theorem Jj0.kept {w:World}{z E l L b U R O:Nat}{ex:Value}{K:List (List Pt)}{cols:List (List V)}{ps:List (Nat×Nat)}{W H:World}{row:Option Nat}(h:Jj0 w z E l L b U R O ex K cols ps W)(hL:w.heap.size≤L)(y:W.grownBy H row)(hr:∀ r,row=some r→L≤r∧∃ o:Obj,W.heap[r]?=some o∧o.isCells=false):Jj0 w z E l L b U R O ex K cols ps H:=by
 have D:=CK.of_grown y fun r e=>(hr r e).2;obtain⟨X,f,ba,bc,er,Z⟩:=h.wk;obtain⟨bf,Y,hs⟩:=h.ct;exact⟨D.cells _ _ _ _ h.b1,D.cells _ _ _ _ h.b2,D.cells _ _ _ _ h.bw,D.cells _ _ _ _ h.bt,⟨X,f,ba,bc,er,D.cells _ _ _ _ Z⟩,h.exs.of_blocks (fun k bh bi _=>y.block k (by have:=h.low;omega) (fun e=>by have:=(hr k e.symm).1;have:=h.low;omega)),h.tot,⟨Ob2 h.low.1 y.size,h.low.2⟩,⟨bf,Y.ck D,hs⟩,Jau h.keep y fun r e=>Ob2 hL (hr r e).1,Ob2 h.size y.size,h.run,h.dl,(y.block E (by have:=h.dl;have:=h.low;omega) (fun e=>by have:=(hr E e.symm).1;have:=h.dl;omega)).trans h.dn⟩
theorem Jq9.kept {w:World}{E L:Nat}{H R:Addr}{K:List (List Pt)}{cols:List (List V)}{ps:List (Nat×Nat)}{W D:World}{row:Option Nat}(h:Jq9 w E H R K cols ps W)(hL:w.heap.size≤L)(O:W.grownBy D row)(hr:∀ r,row=some r→L≤r∧∃ o:Obj,W.heap[r]?=some o∧o.isCells=false):Jq9 w E H R K cols ps D:=by
 have y:=CK.of_grown O fun r e=>(hr r e).2;obtain⟨U,kk,m,bh,x,h0,Z,X,Y,ba,bc,bf⟩:=h.err;exact⟨y.cells _ _ _ _ h.b1,⟨U,kk,m,bh,x,h0,Z,y.cells _ _ _ _ X,Y,ba,y.cells _ _ _ _ bc,bf⟩,Jau h.keep O fun r e=>Ob2 hL (hr r e).1⟩
theorem Jsd {α:Type}(f:Nat×Nat→List α)(z:Nat)(hf:∀ x,(f x).length=x.2):∀ ps:List (Nat×Nat),(∀ x∈ps,x.2≤z)→(ps.flatMap f).length≤ps.length*z:=by
 intro ps;induction ps with
 |nil=>intro _;simp
 |cons x ps D=>
  intro h;rw[Og7,Oa8,hf,List.length_cons,Of5];have H:=h x (Of4 ..);have K:=D fun E y=>h E (Og1 _ y);omega
theorem Jyu {y:List (List Pt)}(cols:List (List V))(ps:List (Nat×Nat))(z:Nat)(h:∀ x∈ps,x.2≤z){j:Nat}{e:List Pt}(D:y[j]?=some e):((Un y cols ps).getD j []).length≤ps.length*z:=by
 rw[Jht cols ps D];exact Jsd _ z (fun x=>by simp) ps h
theorem Jxx {N z k:Nat}(y:1≤z)(h:k<ckN N z):k*z<N:=Jqs y h
attribute [local go_sem] Oc0
theorem Jur (w:World)(y D E:Obj)(W:World)(R:((w.alloc y).alloc D).alloc E=W):W.heap.size=w.heap.size+3∧W.heap[w.heap.size]?=some y∧W.heap[w.heap.size+1]?=some D∧W.heap[w.heap.size+2]?=some E∧Below w.heap.size w W:=by
 subst R;have O:=heap_alloc_new w y;have H:=heap_alloc_new (w.alloc y) D;have K:=heap_alloc_new ((w.alloc y).alloc D) E;have z1:(w.alloc y).heap.size=w.heap.size+1:=by simp
 have z2:((w.alloc y).alloc D).heap.size=w.heap.size+2:=by simp
 rw[z1]at H;rw[z2]at K;exact⟨by simp,by rw[Oa9 _ _ _ (by omega),Oa9 _ _ _ (by omega)];exact O,by rw[Oa9 _ _ _ (by omega)];exact H,K,Jc (Jc (Jc (Oa5 _ _) _) _) _⟩
theorem Jmn {hs:List (Option Addr×Nat)}{k f t j b o y D:Nat}(K:j<k)(H:(Yo hs j).1=some ⟨y,D,none⟩)(h:(Yo (Jnt hs k f t) j).1=some ⟨b,o,none⟩):b=y:=by
 have E:Yo (Jnt hs k f t) j=(Jkl (Yo hs j).1 f t,t-f):=by simp[Yo,Jnt,K]
 rw[E,H]at h;simp only at h;unfold Jkl at h;split at h
 ·simp only[Oc9,Oh2]at h;exact h.1.symm
 rw[Option.map_some,Op7]at h;simp only[Oc9,Oh2]at h;exact h.1.symm
theorem Jjk.ok {E:Nat}{K bc:Addr}{b:Nat}{ex:Value}{cols:List (List V)}{first N:Nat}{D:List (List Pt)}{w w':World}{e:Ending}(h:Jjk E K bc b ex cols first N D w e w')(ba:∀ i,i<N→Kr D (Ji cols i)=0) :
  ∃ (sv:Value) (y:List (Option Addr×Nat×List V)),e=.returned (.tuple #[sv,.nilIface])∧Ju (·=b) w w'∧(∃ (H:Value) (f n:Int) (bf er:Value),Uz w' b ex H f n bf er)∧Jo w' w.heap.size 40 sv (y.map slV)∧y.length=D.length∧(∀ q∈y,Jv w' q.1 q.2.2∧q.2.2.length=N)∧(∀ q∈y,∀ g o,q.1=some ⟨g,o,none⟩→g≠b∧g<w'.heap.size∧(g<E∨w.heap.size≤g))∧∀ i,i<N→∀ k e,D[k]?=some e→Kl e (Ji cols i)=.inl (((y.map (·.2.2)).getD k []).getD i Jf):=by
 obtain⟨O,R,⟨sv,y,U,X⟩|⟨bh,kk,m,Z,_,_,Y,_⟩⟩:=h
 ·exact⟨sv,y,U,O,R,X⟩
 exact absurd (ba m Z) Y
theorem Jux {y:List (List Pt)}{x:List V}(h:∀ e∈y,∃ v,Kl e x=.inl v):Kr y x=0:=by
 have:=Jiy [] h;rw[Od7]at this;exact this
theorem Jjk.bad {R:Nat}{E O:Addr}{b:Nat}{ex:Value}{cols:List (List V)}{first N:Nat}{D:List (List Pt)}{w w':World}{e:Ending}(h:Jjk R E O b ex cols first N D w e w')(Y:¬ ∀ i,i<N→Kr D (Ji cols i)=0) :
  ∃ y kk m:Nat,e=.returned (.tuple #[.slice none 0 0,Qv y])∧Ju (·=b) w w'∧m<N∧w.heap.size≤y∧Kr D (Ji cols m)≠0∧Ja8 w' y ((first+m:Nat):Int) kk (Jdb E O (Kr D (Ji cols m)))∧∀ i,i<m→∀ e∈D,∃ v,Kl e (Ji cols i)=.inl v:=by
 obtain⟨U,bf,⟨sv,bn,H,K,bh,bi,bj,X⟩|⟨y,kk,m,bc,H,K⟩⟩:=h
 ·exact absurd (fun i hi=>Jux fun e Z=>by
   obtain⟨k,ba⟩:=Ok2.1 Z;exact⟨_,X i hi k e ba⟩) Y
 exact⟨y,kk,m,H,U,bc,K⟩
def Kde (E l:Nat)(K O:Addr)(y:List (List Pt))(cols:List (List V))(N:Nat)(w:World):Ending→World→Prop:=fun e w'=>
 Ju (·=E) w w' ∧
 ((∃ (D:Nat) (R:List Value),e=.returned (.tuple #[.slice (some ⟨D,0,none⟩) y.length y.length,.nilIface])∧w.heap.size≤D∧Jar w' D D R (y.map fun e=>(List.range N).map fun i=>pv1 e (Ji cols i))∧(∀ i,i<N→∀ e∈y,∃ v,Kl e (Ji cols i)=.inl v)∧w'.heap[E]?=Jdc w E l) ∨
  (∃ H kk r:Nat,e=.returned (.tuple #[.slice none 0 0,Qv H])∧r<N∧w.heap.size≤H∧Kr y (Ji cols r)≠0∧Ja8 w' H (r:Int) kk (Jdb K O (Kr y (Ji cols r)))∧∀ i,i<r→∀ e∈y,∃ v,Kl e (Ji cols i)=.inl v))
theorem Jp8 (rb D k dI l:Nat)(z:Nat)(bu bl ft fu dJ fs:Value)(op r:Int)(tn:ByteArray)(ky:Value)(kk:Int)(bO eo bW:Nat)(y:List (List Pt))(g cap:Nat)(hs:List (Option Addr×Nat))(cols:List (List V))(N:Nat)(w:World)(cH cP:Addr)
  (hr:Jck w rb z bu bl ft fu dJ fs (.slice (some ⟨D,0,none⟩) k dI)) (hl:l<k) (bZ:w.cell? ⟨D,l,none⟩=some (.slice (some ⟨g,0,none⟩) cols.length cap)) (fO:w.frozen? ⟨D,l,none⟩=false) (dy:rb≠D)
  (fz:Jaz w bO eo y) (fT:Jga cols.length y) (gE:1≤y.length) (ds:y.length≤1000) (dB:1≤z) (gQ:z≤100000)
  (hC:Qd w g hs cols) (fY:1≤cols.length) (gL:cols.length≤1000) (fK:∀ j,j<cols.length→(cols.getD j []).length=N) (gx:N≤100000) (fR:∀ i,i<N→∀ v∈Ji cols i,Jg v.n) (fP:Jbo g hs cols.length (fun b=>b≠D)) (fQ:Jbo g hs cols.length (fun b=>b<w.heap.size)) (fB:Jdo w cH cP) (fA:D≠10∧D≠11) :
  Calls prog 71 #[.pointer (some ⟨rb,0,none⟩),.agg #[.int .i64 op,.int .i64 (l:Int),.int .i64 r,.string tn,.slice (some ⟨bO,eo,none⟩) y.length bW,ky,.int .i64 kk]] w (Kde D l cH cP y cols N w):=by
 have cJ:D<w.heap.size:=by have:=Jm bZ;exact this
 have cD:Hid (Jck w rb z bu bl ft fu dJ fs (.slice (some ⟨D,0,none⟩) k dI)∧l<k∧w.cell? ⟨D,l,none⟩=some (.slice (some ⟨g,0,none⟩) cols.length cap)∧w.frozen? ⟨D,l,none⟩=false∧rb≠D):=⟨hr,hl,bZ,fO,dy⟩;have dH:Hid (Jaz w bO eo y∧Jga cols.length y):=⟨fz,fT⟩;have bA:Hid (Qd w g hs cols∧(∀ j,j<cols.length→(cols.getD j []).length=N)∧(∀ i,i<N→∀ v∈Ji cols i,Jg v.n)∧Jbo g hs cols.length (fun b=>b≠D)∧Jbo g hs cols.length (fun b=>b<w.heap.size)):=⟨hC,fK,fR,fP,fQ⟩;have cC:Hid (Jdo w cH cP∧D≠10∧D≠11):=⟨fB,fA⟩;clear hr hl bZ fO dy fz fT hC fK fR fP fQ fB fA;refine(callsIn_wide (n:=3)).1 ?_;refine callsIn_of_wp_marks func71 rfl trivial ?_ rfl;simp only[ntmps71,Om3,List.length_cons,List.length_nil,Nat.reduceAdd,Nat.reduceSub,Ok9,Array.replicate_zero,Om4,Ol2,List.nil_append,List.cons_append];refine wpIn_wide.2 ?_;go_upto_region 1 with fail
 generalize fD:((w.alloc (.cells #[.int .i64 op,.int .i64 (l:Int),.int .i64 r,.string tn,.slice (some ⟨bO,eo,none⟩) y.length bW,ky,.int .i64 kk] 51)).alloc _).alloc _=dj;obtain⟨fe,cT,cj,bS,dR⟩:=Jur w _ _ _ dj fD;clear fD;have dN:=Jsm bO eo bW cols.length y dj (dH.out.1.below dR) dH.out.2 ds gE;rw[fe]at dN;have gW:dj.cell? ⟨w.heap.size,4,none⟩=some (.slice (some ⟨bO,eo,none⟩) y.length bW):=by simp[World.cell?,cT]
 go_upto_region 2 with(go_at_call 103;refine dN.mono ?_;rintro e H ⟨bT,rfl,ex,cO,fM⟩)
 have bC:Below H.heap.size H (H.alloc (.cells #[.pointer (some ⟨w.heap.size+3,0,none⟩)] 209)):=Jc (Oa5 _ _) _;have cU:=heap_alloc_new H (.cells #[.pointer (some ⟨w.heap.size+3,0,none⟩)] 209);rw[←fe]at bT;have cn:=(bC.block _ (Oc2 (Jd cT) bT.size)).trans ((bT.block _ (Jd cT)).trans cT);have cI:=(bC.block _ (Oc2 (Jd cj) bT.size)).trans ((bT.block _ (Jd cj)).trans cj);have cV:=(bC.block _ (Oc2 (Jd bS) bT.size)).trans ((bT.block _ (Jd bS)).trans bS);have fg:=cO.below bC;have dt:=fM.of_blocks (fun k _ R _=>bC.block k R);have dS:=Jb dR (Jb bT bC);have fo:w.heap.size+3<H.heap.size:=Jd cO;have dC:(H.alloc (.cells #[.pointer (some ⟨w.heap.size+3,0,none⟩)] 209)).heap.size=H.heap.size+1:=by rw[Oa7]
 clear dN gW cT cj bS cO fM bT bC fe dR;generalize H.alloc (.cells #[.pointer (some ⟨w.heap.size+3,0,none⟩)] 209)=bn at cU cn cI cV fg dt dS dC ⊢;generalize H.heap.size=bL at cU dt fo dC ⊢;have cS:Hid (w.heap.size+3<bL∧bn.heap.size=bL+1):=⟨fo,dC⟩;clear fo dC dj H;have fH:=Jiz y.length bn ds;have gS:bn.cell? ⟨w.heap.size,4,none⟩=some (.slice (some ⟨bO,eo,none⟩) y.length bW):=by simp[World.cell?,cn]
 go_upto_region 3 with(go_at_call 77;refine fH.mono ?_;rintro e bN ⟨rfl,dV,fF⟩)
 have dQ:Below bN.heap.size bN (bN.alloc (.cells #[.slice (some ⟨bn.heap.size,0,none⟩) y.length y.length] 72)):=Jc (Oa5 _ _) _;have et:=heap_alloc_new bN (.cells #[.slice (some ⟨bn.heap.size,0,none⟩) y.length y.length] 72);have bY:=Jb fF dQ;have fx:=(bY.block _ (Jd cn)).trans cn;have g1:=(bY.block _ (Jd cI)).trans cI;have g2:=(bY.block _ (Jd cV)).trans cV;have dL:=(bY.block _ (Jd cU)).trans cU;have fh:=fg.below bY;have fN:=dt.of_blocks (fun k _ R _=>bY.block k (by have:=cS.out;omega));have cu:=Jb dS bY;have ca:=dV.below dQ;have dD:bn.heap.size<bN.heap.size:=dV.row.lt;have bz:(bN.alloc (.cells #[.slice (some ⟨bn.heap.size,0,none⟩) y.length y.length] 72)).heap.size=bN.heap.size+1:=by rw[Oa7]
 clear fH gS cn cI cV cU fg dt dS dV fF dQ bY;generalize bN.alloc (.cells #[.slice (some ⟨bn.heap.size,0,none⟩) y.length y.length] 72)=cE at et fx g1 g2 dL fh fN cu ca bz ⊢;generalize bN.heap.size=O at et dD bz ⊢;generalize bn.heap.size=E at et dD ca cS ⊢;have bM:Hid (w.heap.size+3<bL∧E=bL+1∧E<O∧cE.heap.size=O+1):=⟨cS.out.1,cS.out.2,dD,bz⟩;clear dD bz bn bN cS;have gR:cE.cell? ⟨w.heap.size,1,none⟩=some (.int .i64 (l:Int)):=by simp[World.cell?,fx]
 have gT:=(cD.out.1.below cu).cells.1;have gK:=Jjb rb D k dI l z bu bl ft fu dJ fs (some ⟨g,0,none⟩) cols.length cap cE.drew (cD.out.1.below (Jj cu)) cD.out.2.1 (Ja cu cD.out.2.2.1) (by rw[←cD.out.2.2.2.1];exact Ol7 (cu.block D cJ));have dq:=fun dk=>Jh4 (.slice (some ⟨g,0,none⟩) cols.length cap) (z:Int) (some ⟨g,0,none⟩) cols.length cap rfl dk;have gM:D≠w.heap.size:=by omega
 have dy:=cD.out.2.2.2.2;refine(wpIn_wide (n:=3)).1 (Code.wpIn_mono Jpf.imp ((wpIn_wide (n:=3)).2 (wp_region_held_drew (S:=fun dk=>dk.cell? ⟨w.heap.size,1,none⟩=some (.int .i64 (l:Int))∧dk.cell? ⟨rb,0,none⟩=some (.int .i64 (z:Int))) (by kernel_rfl) ⟨gR,gT⟩ (fun bB=>?_))));refine tkj 0 rfl bB ?_;refine tkj 1 rfl bB ?_;refine tkj 2 rfl bB ?_;refine tkj 4 rfl bB ?_;refine tkj 5 rfl bB ?_;refine tkj 6 rfl bB ?_;refine tkj 7 rfl bB ?_;refine tkj 8 rfl bB ?_;refine tkn ?_;refine tkr 3 rfl fun di bG=>?_;go_simp;refine gK.mono ?_;rintro e bK ⟨rfl,dO⟩;have gy:bK.cell? ⟨w.heap.size,1,none⟩=some (.int .i64 (l:Int))∧bK.cell? ⟨rb,0,none⟩=some (.int .i64 (z:Int)):=by rw[dO];exact⟨Uc (fun e=>gM (congrArg Addr.block e)) bB.1,Uc (fun e=>dy (congrArg Addr.block e).symm) bB.2⟩
 have dg:Hid (bK=cE.drew.setCell ⟨D,l,none⟩ (.slice none 0 0)):=dO;clear dO;go_simp;refine bG.out _ _ gy (fun bB=>?_);clear bG di;refine tkr 9 rfl fun di bG=>?_;go_simp;refine(dq bK).mono ?_;rintro e bi ⟨rfl,dP⟩;have dp:Below bK.heap.size bK bi:=by rw[dP];exact Jc (Jc (Oa5 _ _) _) _
 have dh:Hid (bi=(bK.alloc (.cells #[.slice (some ⟨g,0,none⟩) cols.length cap] 72)).alloc (.cells #[.int .i64 (z:Int)] 3)):=dP;clear dP;go_simp;refine bG.out _ _ ⟨Ja dp bB.1,Ja dp bB.2⟩ (fun bB=>?_);clear bG di;refine wpAnyH_done (by kernel_rfl) (Jpf.go ?_) _;go_wp2_with fail
 refine(wpIn_wide (n:=3)).1 ?_;have bP:bK.heap.size=O+1:=by rw[dg.out,←bM.out.2.2.2];simp[World.setCell]
 have bQ:bi.heap.size=O+3:=by rw[dh.out,Oa7,Oa7,bP]
 have cv:∀ k,k<cE.heap.size→k≠D→bi.heap[k]?=cE.heap[k]?:=fun k R bx=>by
  have Y:k<bK.heap.size:=by rw[bP,←bM.out.2.2.2];exact R
  rw[dp.block k Y,dg.out,Oa4 _ _ _ _ bx];rfl
 have gn:bi.heap[O+1]?=some (.cells #[.slice (some ⟨g,0,none⟩) cols.length cap] 72 (0,0)):=by
  have:=heap_alloc_new bK (.cells #[.slice (some ⟨g,0,none⟩) cols.length cap] 72);rw[dh.out,Oa9 _ _ _ (by rw[Oa7,bP];omega),←bP];exact this
 have gm:bi.heap[O+1+1]?=some (.cells #[.int .i64 (z:Int)] 3 (0,0)):=by
  have:=heap_alloc_new (bK.alloc (.cells #[.slice (some ⟨g,0,none⟩) cols.length cap] 72)) (.cells #[.int .i64 (z:Int)] 3);rw[Oa7,bP]at this;rw[dh.out];exact this
 have dv:Ju (·=D) w bi:=by
  rw[dh.out,dg.out];exact Ju.alloc (Ju.alloc (Ju.set (F:=fun x=>x=D) (Ju.of_below (Jj cu)) rfl l _) _) _
 have bz:=bM.out;have gD:bi.heap[D]?=Jdc w D l:=by
  rw[dp.block D (by have:=bM.out;omega),dg.out];exact Jol (cu.block D cJ)
 have gw:Jj0 w z D l (O+3) (w.heap.size+3) bL O E ex y cols [] bi:=by
  refine⟨(cv _ (Jd g1) (by omega)).trans g1,(cv _ (Jd g2) (by omega)).trans g2,(cv _ (Jd dL) (by omega)).trans dL,(cv _ (Jd et) (by omega)).trans et,⟨_,_,_,_,_,(cv _ (Jd fh) (by omega)).trans fh⟩,fN.of_blocks (fun k bf bc _=>cv k (by omega) (by omega)),fun x ba=>by simp at ba,⟨by omega,by omega⟩,⟨List.replicate y.length (.slice none 0 0),?_,?_⟩,dv,by omega,fun x ba=>(by simp at ba),cJ,gD⟩
  ·have e:Un y cols []=List.replicate y.length []:=by
    unfold Un;rw[List.eq_replicate_iff];simp
   rw[e];refine⟨ca.row.of_block (cv E (by omega) (by omega)),ca.low,ca.len,fun i hi=>Jl (ca.own i hi) fun g e=>?_,ca.ne,ca.apart⟩;have:Uq (List.replicate y.length (Value.slice none 0 0)) i=.slice none 0 0:=by
    unfold Uq;rw[Oa0,Of3];split<;>rfl
   rw[this]at e;cases e
  intro j c _ e;have:Uq (List.replicate y.length (Value.slice none 0 0)) j=.slice none 0 0:=by
   unfold Uq;rw[Oa0,Of3];split<;>rfl
  rw[this]at e;cases e
 have ge:Hid (Jj0 w z D l (O+3) (w.heap.size+3) bL O E ex y cols [] bi):=gw;have ja:Hid (∀ k,k<w.heap.size→k≠D→bi.heap[k]?=w.heap[k]?):=fun k R bx=>dv.block k R bx;have gt:Qd bi g hs cols:=bA.out.1.kp (Fx:=fun k=>k<w.heap.size∧k≠D) ⟨dv.size,fun k R=>dv.block k R.1 R.2⟩ ⟨⟨bA.out.2.2.2.2.1,bA.out.2.2.2.1.1⟩,fun j K b o e=>⟨bA.out.2.2.2.2.2 j K b o e,bA.out.2.2.2.1.2 j K b o e⟩⟩;rw[bP];refine Jg8 rfl (by omega) (gf:=138) (lb:=#[.pointer (some ⟨O+1,0,none⟩),.pointer (some ⟨O+1+1,0,none⟩)]) rfl trivial (enters_of func138 (by kernel_rfl) rfl)
  (Jjx 2 (by omega) (O+1) (O+1+1) g cap hs cols N z dB gQ gx fY gL bi gt bA.out.2.1 (by simp[World.cell?,gn]) (by simp[World.cell?,gm]) (fun k=>k=O+1∨k=O+1+1∨(k<w.heap.size∧k≠D)) ⟨.inl rfl,.inr (.inl rfl),.inr (.inr ⟨bA.out.2.2.2.2.1,bA.out.2.2.2.1.1⟩),fun j K b o e=>.inr (.inr ⟨bA.out.2.2.2.2.2 j K b o e,bA.out.2.2.2.1.2 j K b o e⟩)⟩ (fun k R=>by omega))
  (fun h k=>h.trans k) ?hKb (Oa5 _ _) (fun _=>rfl)
  (fun bh W=>Jj0 w z D l (O+3) (w.heap.size+3) bL O E ex y cols (bh.map fun x=>(x.1,x.2.1)) W)
  (fun c bh W=>c=.ret∧Jq9 w D cH cP y cols (bh.map fun x=>(x.1,x.2.1)) W)
  ?hI ?hIx ?hR ge.out (fun x=>{tmps:=#[.pointer (some ⟨rb,0,none⟩),.agg #[.int .i64 op,.int .i64 (l:Int),.int .i64 r,.string tn,.slice (some ⟨bO,eo,none⟩) y.length bW,ky,.int .i64 kk],undef,.pointer (some ⟨w.heap.size,0,none⟩),.pointer (some ⟨w.heap.size+1,0,none⟩),.pointer (some ⟨w.heap.size+1+1,0,none⟩),.pointer (some ⟨bL,0,none⟩),.pointer (some ⟨O,0,none⟩),.int .i64 (x.1:Int),.slice (some ⟨x.2.2,0,none⟩) cols.length cols.length,undef,undef,.pointer (some ⟨w.heap.size,4,none⟩),.slice (some ⟨bO,eo,none⟩) y.length bW,.pointer (some ⟨w.heap.size+3,0,none⟩),.pointer (some ⟨w.heap.size,4,none⟩),.slice (some ⟨bO,eo,none⟩) y.length bW,.int .i64 (y.length:Int),.slice (some ⟨E,0,none⟩) y.length y.length,.pointer (some ⟨rb,0,none⟩),.pointer (some ⟨w.heap.size,1,none⟩),.int .i64 (l:Int),.slice (some ⟨g,0,none⟩) cols.length cap,.pointer (some ⟨rb,0,none⟩),.pointer (some ⟨rb,0,none⟩),.pointer (some ⟨rb,0,none⟩),.pointer (some ⟨rb,0,none⟩),.int .i64 (z:Int),.func (.func 138) #[] #[.pointer (some ⟨O+1,0,none⟩),.pointer (some ⟨O+1+1,0,none⟩)],.int .i64 (x.1:Int),.slice (some ⟨x.2.2,0,none⟩) cols.length cols.length,undef,undef,undef,undef,undef,undef,undef,undef,undef,undef,undef,undef,undef,undef],defers:=[]}) ?assign ?body ?done ?stop
 case hKb=>
  intro W l o ch hl cc _ _;exact⟨by simp,fun k R=>World.putObj_heap_other (by omega)⟩
 case hI=>
  intro s W fw row h cY hr;exact h.kept (by omega) cY fun r e=>⟨by have:=(hr r e).1;omega,(hr r e).2⟩
 case hIx=>
  rintro c s W fw row ⟨bZ,h⟩ cY hr;exact⟨bZ,h.kept (L:=O+3) (by omega) cY fun r e=>⟨by have:=(hr r e).1;omega,(hr r e).2⟩⟩
 case hR=>
  rintro x W fw row ⟨bf,bc,bD,bX⟩ cY hr;exact⟨bf,bc,bD,bX.ck (CK.of_grown cY fun r e=>(hr r e).2)⟩
 case assign=>
  clear bz bP bQ;intro l x W di bG;gi_wp2
  exact bG
 case body=>
  rintro fr bh ⟨f,m,fy⟩ W hI ⟨fi,⟨fj,fk⟩,fm,dA⟩ dc;simp only at fi fj fk fm dA;obtain⟨gi,cn,gU,gX,er,cO⟩:=hI.wk;have cM:(cols.map (Jbx f (f+m))).length=cols.length:=by rw[Oa6]
  have dT:∀ j,j<(cols.map (Jbx f (f+m))).length→∀ cW o,(Yo (Jnt hs cols.length f (f+m)) j).1=some ⟨cW,o,none⟩→cW<w.heap.size:=fun j K cW o e=>by
   rw[cM]at K;rcases bA.out.1.vals j K with h0|⟨jc,jd,gA,hl,_⟩
   ·have:=bA.out.2.1 j K;rw[h0]at this;simp at this;omega
   rw[Jmn K gA e];exact hl
  have hcut:∀ j,j<(cols.map (Jbx f (f+m))).length→((cols.map (Jbx f (f+m))).getD j []).length=m:=fun j K=>by
   rw[cM]at K;rw[Oa0,Ob1,Oa3 K];have:=bA.out.2.1 j K;rw[Oa0,Oa3 K]at this;simp only[Option.map_some,Option.getD_some]at this ⊢;rw[Jca (by omega)];omega
  have dw:=hI.keep;have cK:=Jm cC.out.1.d;have fU:=Jm cC.out.1.o;simp only at cK fU;have da:=Jx4 w.heap.size (w.heap.size+3) ex gi cn gU gX er fy cols.length (Jnt hs cols.length f (f+m)) (cols.map (Jbx f (f+m))) f m y cH cP W cO hI.exs.at (by rw[cM];exact dH.out.2) ds ⟨by omega,fun j K=>dA.row.cell K,dA.vals,fun j K cW o e=>by have:=dT j K cW o e;omega⟩ (by rw[cM];exact fY) hcut dT (fun i hi v fX=>by rw[Yw cols f m i hi]at fX;exact bA.out.2.2.1 (f+i) (by omega) v fX) (by omega) (by omega) ⟨dw.cell cC.out.1.d (fun e=>cC.out.2.1 e.symm),dw.cell cC.out.1.o (fun e=>cC.out.2.2 e.symm)⟩ dw.size ⟨by omega,by omega⟩;rw[cM]at da;have cw:W.cell? ⟨bL,0,none⟩=some (.pointer (some ⟨w.heap.size+3,0,none⟩)):=by simp[World.cell?,hI.bw]
  have U:Hid (Jj0 w z D l (O+3) (w.heap.size+3) bL O E ex y cols (bh.map fun x=>(x.1,x.2.1)) W):=hI;have fv:Hid (f+m≤N∧1≤m∧m≤z∧bi.heap.size≤fy∧bh.length<ckN N z):=⟨fi,fj,fk,fm,dc⟩;have bV:Hid (bi.heap.size=O+3∧D<w.heap.size):=⟨bQ,cJ⟩;clear hI fi fj fk fm dA dc cO dT hcut cM cK fU dw bz bP bQ;by_cases fG:∀ i,i<m→Kr y (Ji (cols.map (Jbx f (f+m))) i)=0
  ·have fc:=da.mono fun e w' h=>h.ok fG;clear da;have bz:=bM.out;have dY:=U.out.low;obtain⟨bJ,Z,cz⟩:=U.out.ct;have dq:=U.out.bt;have fI:∀ (sv:Value) (X:List (Option Addr×Nat×List V)) (H:World),Ju (·=w.heap.size+3) W H→Jo H W.heap.size 40 sv (X.map slV)→X.length=y.length→(∀ q∈X,Jv H q.1 q.2.2∧q.2.2.length=m)→(∀ q∈X,∀ g o,q.1=some ⟨g,o,none⟩→g≠w.heap.size+3∧g<H.heap.size∧(g<w.heap.size∨W.heap.size≤g)) →
     ∃ g2 cp,sv=.slice (some ⟨g2,0,none⟩) y.length cp∧Calls prog 107 #[.slice (some ⟨E,0,none⟩) y.length y.length,.slice (some ⟨g2,0,none⟩) y.length cp] H fun e w'=>e=.returned (.tuple #[])∧(∃ cQ,Jar w' E E cQ (Jdi (Un y cols (bh.map fun x=>(x.1,x.2.1))) (X.map (·.2.2)) (Un y cols (bh.map fun x=>(x.1,x.2.1))).length)∧∀ j b,j<y.length→(Uq cQ j).ownBlock=some b→O+3≤b)∧Below E H w'∧H.heap.size≤w'.heap.size∧∀ x,x<H.heap.size→x≠E→(∀ j,j<y.length→(Uq bJ j).ownBlock≠some x)→w'.heap[x]?=H.heap[x]?:=by
    intro sv X H Y db cx cN cZ;have jq:=Y.size;have bH:(Un y cols (bh.map fun x=>(x.1,x.2.1))).length=y.length:=Up _ _ _;obtain⟨g2,cp,cA,fJ⟩:=Jcs (b:=w.heap.size+3) db (by omega) (fun e=>by rw[e]at cx;simp at cx;omega) (fun q dd=>(cN q dd).1) fun q dd g o e=>(cZ q dd g o e).1;have cK:(X.map (·.2.2)).length=y.length:=by rw[Oa6,cx]
    rw[cK]at cA;have gG:W.heap.size≤g2∧g2<H.heap.size:=Je db (by rw[cA];rfl);have fV:∀ j b,j<y.length→(Uq bJ j).ownBlock=some b→O+3≤b∧b<W.heap.size:=fun j b K e=>⟨cz j b K e,(Je (Z.own j (by rw[bH];exact K)) e).2⟩;have gz:Jar H E E bJ (Un y cols (bh.map fun x=>(x.1,x.2.1))):=⟨Z.row.of_block (Y.block E Z.row.lt (by show ¬ E=w.heap.size+3;omega)),Z.low,Z.len,fun i hi=>Jl (Z.own i hi) fun g e=>Y.block g (Je (Z.own i hi) e).2 (by have:=cz i g (by rw[bH]at hi;exact hi) e;show ¬ g=w.heap.size+3;omega),Z.ne,Z.apart⟩;have fL:∀ k bR ch,k<(X.map (·.2.2)).length→(Yo (X.map fun q=>(q.1,q.2.1)) k).1=some ⟨bR,ch,none⟩→bR<w.heap.size∨W.heap.size≤bR:=fun k bR ch R e=>by
     rw[Oa6]at R;have bS:Yo (X.map fun q=>(q.1,q.2.1)) k=(X[k].1,X[k].2.1):=by unfold Yo;rw[Oa0,Ob1,Oa3 R];rfl
     rw[bS]at e;exact(cZ _ (Ob3 R) bR ch e).2.2
    have gB:∀ j,j<(Un y cols (bh.map fun x=>(x.1,x.2.1))).length→((Un y cols (bh.map fun x=>(x.1,x.2.1))).getD j []).length+((X.map (·.2.2)).getD j []).length≤1000000:=fun j K=>by
     rw[bH]at K;have bf:=Jyu cols (bh.map fun x=>(x.1,x.2.1)) z U.out.tot (Oa3 K);have bc:((X.map (·.2.2)).getD j []).length=m:=by
      rw[Oa0,Ob1,Oa3 (by omega:j<X.length)];exact(cN _ (Ob3 _)).2
     have bD:=fv.out;have bX:=Jxx (N:=N) dB bD.2.2.2.2;rw[Oa6]at bf;omega
    have dm:=Kb4 E E y.length bJ (Un y cols (bh.map fun x=>(x.1,x.2.1))) g2 cp (X.map fun q=>(q.1,q.2.1)) (X.map (·.2.2)) H gz ⟨gG.2,fJ.cell,fJ.vals⟩ (by rw[cK,bH]) gB (by omega) (by rw[bH];exact ds) (fun j b K e=>by
     rw[bH]at K;have bf:=fV j b K e;exact⟨by omega,fun k bR ch R dK=>by have:=fL k bR ch R dK;omega⟩) ⟨by omega,fun k bR ch R dK=>by have:=fL k bR ch R dK;omega⟩
    rw[cK,bH]at dm;refine⟨g2,cp,cA,dm.mono fun e w' h=>?_⟩;obtain⟨bf,⟨cQ,bc,bD⟩,gs,bX,dM⟩:=h;rw[bH];exact⟨bf,⟨cQ,bc,fun j b K e=>by rcases bD j b K e with h|h;exact(fV j b K h).1;omega⟩,gs,bX,dM⟩
   have gd:Hid _:=fI;have cB:Hid (Jar W E E bJ (Un y cols (bh.map fun x=>(x.1,x.2.1)))∧∀ j c,j<y.length→(Uq bJ j).ownBlock=some c→O+3≤c):=⟨Z,cz⟩;clear fI Z cz bz dY;gi_wp2_with (first|(refine⟨trivial,?_⟩;gi_at_call 105;refine(CallsIn.inRound fr (callsIn_wide.2 fc)).mono ?_;rintro e H ⟨sv,X,rfl,Y,gN,db,cx,cN,cZ,fW⟩;obtain⟨g2,cp,cA,dm⟩:=gd.out sv X H Y db cx cN cZ;subst cA;have ct:H.cell? ⟨O,0,none⟩=some (.slice (some ⟨E,0,none⟩) y.length y.length):=Y.cell (by simp[World.cell?,dq]) (by have:=bM.out;show ¬ O=w.heap.size+3;omega);have df:Hid (X.length=y.length∧(∀ q∈X,q.2.2.length=m)∧∀ i,i<m→∀ k e,y[k]?=some e→Kl e (Ji (cols.map (Jbx f (f+m))) i)=.inl (((X.map (·.2.2)).getD k []).getD i Jf)):=⟨cx,fun q dd=>(cN q dd).2,fW⟩;clear db cx cN cZ fW)|(refine⟨trivial,?_⟩;gi_at_call 107;refine(CallsIn.inRound fr (callsIn_wide.2 dm)).mono ?_;rintro e bn ⟨rfl,⟨cQ,dr,cA⟩,bC,jj,fZ⟩))
   have bz:=bM.out;have dY:=U.out.low;have ga:=U.out.keep.size;have dX:=Y.size;have gP:=fv.out;have bQ:=bV.out;have bH:(Un y cols (bh.map fun x=>(x.1,x.2.1))).length=y.length:=Up _ _ _;have fS:∀ k,(∀ j,j<y.length→(Uq bJ j).ownBlock≠some k)→k<W.heap.size→k≠E→k≠w.heap.size+3→bn.heap[k]?=W.heap[k]?:=fun k bf bc bD bX=>by rw[fZ k (by omega) bD bf,Y.block k bc bX]
   have cb:∀ k,k<O+3→k≠E→k≠w.heap.size+3→bn.heap[k]?=W.heap[k]?:=fun k bf bc bD=>fS k (fun j K e=>by have:=cB.out.2 j k K e;omega) (by omega) bc bD;have gH:Ju (·=D) w bn:=by
    have br:=U.out.keep;exact⟨bC.os.trans (Y.os.trans br.os),bC.tape.trans (Y.tape.trans br.tape),bC.output.trans (Y.output.trans br.output),by omega,fun k R bx=>(cb k (by omega) (by omega) (by omega)).trans (br.block k R bx)⟩
   refine⟨⟨by omega,fun k o R cc bZ=>?_⟩,⟨by omega,fun k R=>cb k (by omega) (by omega) (by omega)⟩,?_⟩
   ·rw[fS k (fun j K e=>?_) (Jd cc) (by omega) (by omega)]
    ·exact cc
    obtain⟨je,gC⟩:=Ja4 (cB.out.1.own j (by rw[bH];exact K)) e;rw[gC]at cc;cases cc
    simp[Obj.isCells]at bZ
   obtain⟨gj,cI,gV,gY,gp,gO⟩:=gN;rw[Ob8];refine⟨(cb _ (by omega) (by omega) (by omega)).trans U.out.b1,(cb _ (by omega) (by omega) (by omega)).trans U.out.b2,(cb _ (by omega) (by omega) (by omega)).trans U.out.bw,(cb _ (by omega) (by omega) (by omega)).trans dq,⟨gj,cI,gV,gY,gp,?_⟩,U.out.exs.of_blocks (fun k bf bc bD=>cb k (by omega) (by omega) bD),?_,⟨by omega,dY.2⟩,⟨cQ,?_,cA⟩,gH,by omega,?_,U.out.dl,(cb D (by omega) (by omega) (by omega)).trans U.out.dn⟩
   ·show bn.heap[w.heap.size+3]?=_;rw[fZ _ (by omega) (by omega) (fun j K e=>by have:=cB.out.2 j _ K e;omega)];exact gO
   ·intro x ba;rw[Od2]at ba;rcases ba with ba|ba
    ·exact U.out.tot x ba
    simp only[Oe4,Oi4,Oc6]at ba;subst ba;exact gP.2.2.1
   ·rw[Jwo y cols (bh.map fun x=>(x.1,x.2.1)) f m (X.map (·.2.2)) (by rw[Oa6];exact df.out.1) (fun k R=>?_) (fun i hi k e bU=>?_)]at dr
    ·exact dr
    ·rw[Oa6]at R;rw[Oa0,Ob1,Oa3 R];exact df.out.2.1 _ (Ob3 R)
    have:=df.out.2.2 i hi k e bU;rwa [Yw cols f m i hi]at this
   intro x ba i hi e bU;rw[Od2]at ba;rcases ba with ba|ba
   ·exact U.out.run x ba i hi e bU
   simp only[Oe4,Oi4,Oc6]at ba;subst ba;obtain⟨k,R⟩:=Ok2.1 bU;have:=df.out.2.2 i hi k e R;rw[Yw cols f m i hi]at this;exact⟨_,this⟩
  have fc:=da.mono fun e w' h=>h.bad fG;clear da;have b2:=U.out.b2;have b1:=U.out.b1;gi_wp2_with (first|(refine⟨trivial,?_⟩;gi_at_call 105;refine(CallsIn.inRound fr (callsIn_wide.2 fc)).mono ?_;rintro e H ⟨bj,dE,bI,rfl,Y,dZ,dW,bx,de,du⟩;have ci:=(Y.block _ (Jd b1) (by show ¬ w.heap.size+1=w.heap.size+3;omega)).trans b1;have cG:=(Y.block _ (Jd b2) (by show ¬ w.heap.size+2=w.heap.size+3;omega)).trans b2;have jk:H.cell? ⟨w.heap.size+1,0,none⟩=some (.slice none 0 0):=(by simp[World.cell?,ci]);have jl:H.frozen? ⟨w.heap.size+1,0,none⟩=false:=(by simp[World.frozen?,ci]);have jm:H.cell? ⟨w.heap.size+1+1,0,none⟩=some .nilIface:=(by simp[World.cell?,cG]);have jo:H.frozen? ⟨w.heap.size+1+1,0,none⟩=false:=(by simp[World.frozen?,cG]);have dG:Hid (H.heap[w.heap.size+1]?=some (.cells #[.slice none 0 0] 72 (0,0))∧H.heap[w.heap.size+1+1]?=some (.cells #[.nilIface] 74 (0,0))):=⟨ci,cG⟩;clear ci cG))
  have bz:=bM.out;have jg:=U.out.size;have ga:=U.out.keep.size;have ci:=Jk dG.out.1 0 (.slice none 0 0);have cG:=Jk dG.out.2 0 (Qv bj);simp only[Oa1,List.set_cons_zero]at ci cG;have cj:((H.setCell ⟨w.heap.size+1,0,none⟩ (.slice none 0 0)).setCell ⟨w.heap.size+1+1,0,none⟩ (Qv bj)).heap[w.heap.size+1]?=some (.cells #[.slice none 0 0] 72 (0,0)):=by rw[Oa4 _ _ _ _ (by show w.heap.size+1≠w.heap.size+1+1;omega)];exact ci
  have bS:((H.setCell ⟨w.heap.size+1,0,none⟩ (.slice none 0 0)).setCell ⟨w.heap.size+1+1,0,none⟩ (Qv bj)).heap[w.heap.size+1+1]?=some (.cells #[Qv bj] 74 (0,0)):=by
   have:=Jk (w:=H.setCell ⟨w.heap.size+1,0,none⟩ (.slice none 0 0)) (b:=w.heap.size+1+1) (cs:=#[.nilIface]) (t:=74) (by rw[Oa4 _ _ _ _ (by show w.heap.size+1+1≠w.heap.size+1;omega)];exact dG.out.2) 0 (Qv bj);simpa only[Oa1,List.set_cons_zero] using this
  have cf:∀ k,k≠w.heap.size+1→k≠w.heap.size+1+1→((H.setCell ⟨w.heap.size+1,0,none⟩ (.slice none 0 0)).setCell ⟨w.heap.size+1+1,0,none⟩ (Qv bj)).heap[k]?=H.heap[k]?:=fun k bf bc=>by rw[Oa4 _ _ _ _ bc,Oa4 _ _ _ _ bf]
  have dz:((H.setCell ⟨w.heap.size+1,0,none⟩ (.slice none 0 0)).setCell ⟨w.heap.size+1+1,0,none⟩ (Qv bj)).heap.size=H.heap.size:=by simp[World.setCell]
  have dX:=Y.size;refine⟨⟨Ob2 dX (Oo0 dz.symm),fun k o R cc bZ=>?_⟩,rfl,cj,⟨bj,dE,bI,bh.map (fun x=>(x.1,x.2.1)),(f,m),by rw[Ob8];rfl,dZ,bS,by omega,?_,?_,U.out.run,fun i hi=>?_⟩,?_⟩
  ·have gJ:=Jd cc;rw[cf k (by have:=bV.out;omega) (by have:=bV.out;omega),Y.block k gJ (by show ¬ k=w.heap.size+3;have:=bV.out;omega)];exact cc
  ·rw[Yw cols f m bI dZ]at bx;exact bx
  ·rw[Yw cols f m bI dZ]at de;exact de.of_block (cf bj (by omega) (by omega))
  ·have:=du i hi;rwa [Yw cols f m i (by omega)]at this
  have br:=U.out.keep;refine⟨Y.os.trans br.os,Y.tape.trans br.tape,Y.output.trans br.output,Ob2 (Ob2 ga dX) (Oo0 dz.symm),fun k R bx=>?_⟩;rw[cf k (by omega) (by omega),Y.block k (by omega) (by show ¬ k=w.heap.size+3;omega)];exact br.block k R bx
 case done=>
  rintro bE jp W gu gc hI bG;rw[gc]at hI;obtain⟨bJ,Z,cz⟩:=hI.ct;have c2:W.cell? ⟨w.heap.size+1,0,none⟩=some (.slice none 0 0):=by simp[World.cell?,hI.b1]
  have cV:W.frozen? ⟨w.heap.size+1,0,none⟩=false:=by simp[World.frozen?,hI.b1]
  have cF:W.heap[w.heap.size+1+1]?=some (.cells #[.nilIface] 74 (0,0)):=hI.b2;have c3:W.cell? ⟨w.heap.size+1+1,0,none⟩=some .nilIface:=by simp[World.cell?,cF]
  have jf:W.frozen? ⟨w.heap.size+1+1,0,none⟩=false:=by simp[World.frozen?,cF]
  have c4:W.cell? ⟨O,0,none⟩=some (.slice (some ⟨E,0,none⟩) y.length y.length):=by simp[World.cell?,hI.bt]
  have U:Hid (Jj0 w z D l (O+3) (w.heap.size+3) bL O E ex y cols (cks N z (ckN N z)) W):=hI;have cB:Hid (Jar W E E bJ (Un y cols (cks N z (ckN N z)))∧∀ j c,j<y.length→(Uq bJ j).ownBlock=some c→O+3≤c):=⟨Z,cz⟩;have bV:Hid (bi.heap.size=O+3∧D<w.heap.size):=⟨bQ,cJ⟩;clear hI gc Z cz cF bz bP bQ;go_wp2_with fail
  have bz:=bM.out;have bQ:=bV.out;have fC:=((KeepsOthers.setCell W ⟨w.heap.size+1,0,none⟩ (.slice (some ⟨E,0,none⟩) y.length y.length)).trans (KeepsOthers.setCell _ ⟨w.heap.size+1+1,0,none⟩ .nilIface)).same bE _ bG rfl;refine⟨by simp,.inl ⟨_,_,rfl,run_takeDeferred fC,?_⟩⟩;have g2:((W.setCell ⟨w.heap.size+1,0,none⟩ (.slice (some ⟨E,0,none⟩) y.length y.length)).setCell ⟨w.heap.size+1+1,0,none⟩ .nilIface).cell? ⟨w.heap.size+1,0,none⟩=some (.slice (some ⟨E,0,none⟩) y.length y.length):=by
   rw[Ob5 _ _ _ _ (by simp)];exact Oj0 _ _ _ (by rw[c2];rfl)
  have gq:((W.setCell ⟨w.heap.size+1,0,none⟩ (.slice (some ⟨E,0,none⟩) y.length y.length)).setCell ⟨w.heap.size+1+1,0,none⟩ .nilIface).cell? ⟨w.heap.size+1+1,0,none⟩=some .nilIface:=
   Oj0 _ _ _ (by rw[Ob5 _ _ _ _ (by simp),c3];rfl)
  have cy:∀ r,some bE=some r→∃ o:Obj,((W.setCell ⟨w.heap.size+1,0,none⟩ (.slice (some ⟨E,0,none⟩) y.length y.length)).setCell ⟨w.heap.size+1+1,0,none⟩ .nilIface).heap[r]?=some o∧o.isCells=false:=fun r e=>by cases e;exact⟨_,fC,rfl⟩
  have cf:∀ k,k≠w.heap.size+1→k≠w.heap.size+1+1→((W.setCell ⟨w.heap.size+1,0,none⟩ (.slice (some ⟨E,0,none⟩) y.length y.length)).setCell ⟨w.heap.size+1+1,0,none⟩ .nilIface).heap[k]?=W.heap[k]?:=fun k bf bc=>by rw[Oa4 _ _ _ _ bc,Oa4 _ _ _ _ bf]
  have dz:((W.setCell ⟨w.heap.size+1,0,none⟩ (.slice (some ⟨E,0,none⟩) y.length y.length)).setCell ⟨w.heap.size+1+1,0,none⟩ .nilIface).heap.size=W.heap.size:=by simp[World.setCell]
  have bH:(Un y cols (cks N z (ckN N z))).length=y.length:=Up _ _ _;have br:=U.out.keep;have gI:Ju (·=D) w ((W.setCell ⟨w.heap.size+1,0,none⟩ (.slice (some ⟨E,0,none⟩) y.length y.length)).setCell ⟨w.heap.size+1+1,0,none⟩ .nilIface):=⟨br.os,br.tape,br.output,Ob2 br.size (Oo0 dz.symm),fun k R bx=>(cf k (by omega) (by omega)).trans (br.block k R bx)⟩;have Z:=cB.out.1;have dr:Jar ((W.setCell ⟨w.heap.size+1,0,none⟩ (.slice (some ⟨E,0,none⟩) y.length y.length)).setCell ⟨w.heap.size+1+1,0,none⟩ .nilIface) E E bJ (Un y cols (cks N z (ckN N z))):=⟨Z.row.of_block (cf E (by omega) (by omega)),Z.low,Z.len,fun i hi=>Jl (Z.own i hi) fun g e=>by have:=cB.out.2 i g (by rw[bH]at hi;exact hi) e;exact cf g (by omega) (by omega),Z.ne,Z.apart⟩;have fp:=cell_kept g2 (grownBy_putObj' _ bE (.deferred none)) cy;have fq:=cell_kept gq (grownBy_putObj' _ bE (.deferred none)) cy;have dU:=CK.of_grown (grownBy_putObj' _ bE (.deferred none)) cy;refine⟨.tuple #[.slice (some ⟨E,0,none⟩) y.length y.length,.nilIface],by simp[results,Tryz.f71,go_sem,fp,fq],?_⟩;refine⟨Jau gI (grownBy_putObj' _ bE (.deferred none)) (fun r e=>by cases e;omega),.inl ⟨E,bJ,rfl,by omega,?_,fun i hi e bU=>?_,(World.putObj_heap_other (by omega)).trans ((cf D (by omega) (by omega)).trans U.out.dn)⟩⟩
  ·rw[←Kbb y cols N z dB];exact dr.ck dU
  obtain⟨x,ba,t,ff,rfl⟩:=Jgt N z (ckN N z) i (by rw[Ol4 (Jcy dB)];exact hi);exact U.out.run x ba t ff e bU
 case stop=>
  rintro bE c bh W gu ⟨k,R,dc⟩ ⟨rfl,cX⟩ bG;rw[dc]at cX;obtain⟨bj,dE,bI,X,x,dx,ji,bC,dW,bx,de,fE,du⟩:=cX.err;have c2:W.cell? ⟨w.heap.size+1,0,none⟩=some (.slice none 0 0):=by simp[World.cell?,cX.b1]
  have cF:W.heap[w.heap.size+1+1]?=some (.cells #[Qv bj] 74 (0,0)):=bC;have c3:W.cell? ⟨w.heap.size+1+1,0,none⟩=some (Qv bj):=by simp[World.cell?,cF]
  have gh:Hid (Ju (·=D) w W):=cX.keep;have fd:x.1+bI<N∧∀ i,i<x.1+bI→∀ e∈y,∃ v,Kl e (Ji cols i)=.inl v:=by
   cases k with
   |zero=>simp[cks]at dx
   |succ k=>
    rw[Jbj]at dx;obtain⟨bf,bc⟩:=List.append_inj' dx rfl;simp only[List.cons.injEq,and_true]at bc;have cj:x.1=k*z:=by rw[←bc];rfl
    have bS:x.2=min z (N-k*z):=by rw[←bc];rfl
    refine⟨by omega,fun i hi e bU=>?_⟩;by_cases jh:i<k*z
    ·obtain⟨gZ,gb,t,ff,rfl⟩:=Jgt N z k i (by omega);rw[bf]at gb;exact fE gZ gb t ff e bU
    have:=du (i-x.1) (by omega) e bU;rwa [show x.1+(i-x.1)=i by omega]at this
  have gg:Hid (x.1+bI<N∧(∀ i,i<x.1+bI→∀ e∈y,∃ v,Kl e (Ji cols i)=.inl v)∧Kr y (Ji cols (x.1+bI))≠0∧Ja8 W bj ((x.1+bI:Nat):Int) dE (Jdb cH cP (Kr y (Ji cols (x.1+bI))))∧w.heap.size≤bj):=⟨fd.1,fd.2,bx,de,dW⟩;have bV:Hid (bi.heap.size=O+3∧D<w.heap.size):=⟨bQ,cJ⟩;clear cX dc dx fd bx de fE du bC cF bz bP bQ dW;gi_wp2
  have bz:=bM.out;have bQ:=bV.out;have cy:∀ r,some bE=some r→∃ o:Obj,W.heap[r]?=some o∧o.isCells=false:=fun r e=>by cases e;exact⟨_,bG,rfl⟩
  refine⟨by simp,.inl ⟨_,_,rfl,run_takeDeferred bG,?_⟩⟩;have fp:=cell_kept c2 (grownBy_putObj' _ bE (.deferred none)) cy;have fq:=cell_kept c3 (grownBy_putObj' _ bE (.deferred none)) cy;have dU:=CK.of_grown (grownBy_putObj' W bE (.deferred none)) cy;refine⟨.tuple #[.slice none 0 0,Qv bj],by simp[results,Tryz.f71,go_sem,fp,fq],?_⟩;obtain⟨bf,bc,bD,bX,dM⟩:=gg.out;exact⟨Jau gh.out (grownBy_putObj' _ bE (.deferred none)) (fun r e=>by cases e;omega),.inr ⟨bj,dE,x.1+bI,rfl,bf,dM,bD,dU.cells _ _ _ _ bX,bc⟩⟩
end Go.Proofs.YtpchafocmlhmbaaGreatDoor
