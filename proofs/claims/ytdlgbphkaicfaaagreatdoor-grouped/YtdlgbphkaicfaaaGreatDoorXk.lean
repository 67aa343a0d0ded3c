/- The nodes of a plan at work: what is taken, Project. -/
import Derived.Test.YtdlgbphkaicfaaaGreatDoorSb
import Derived.Test.YtdlgbphkaicfaaaGreatDoorXj
set_option maxHeartbeats 1000000
set_option maxRecDepth 100000
namespace Go.Proofs.YtdlgbphkaicfaaaGreatDoor
open Go.RowKit Go.Shelf Tryz
attribute [local go_sem] Oc0
def Jck (w:World)(E:Nat)(z:Int)(A y K M D H dn:Value):Prop:=w.heap[E]?=some (.cells #[.int .i64 z,A,y,K,M,D,H,dn] 99 (0,0))
theorem Jck.below {w w':World}{y:Nat}{z:Int}{D A K M E H dn:Value}(h:Jck w y z D A K M E H dn)(O:Below w.heap.size w w'):Jck w' y z D A K M E H dn:=(O.block y (Jd h)).trans h
theorem Jck.cells {w:World}{y:Nat}{z:Int}{K H M E A D dn:Value}(h:Jck w y z K H M E A D dn):w.cell? ⟨y,0,none⟩=some (.int .i64 z)∧w.cell? ⟨y,4,none⟩=some E∧w.cell? ⟨y,5,none⟩=some A∧w.cell? ⟨y,6,none⟩=some D∧w.cell? ⟨y,7,none⟩=some dn:=by
 unfold Jck at h
 simp[World.cell?,h]
theorem Jjb (A y k cap i:Nat)(z:Int)(E D M O H K:Value)(a:Option Addr)(n c:Nat)(w:World)(h:Jck w A z E D M O H K (.slice (some ⟨y,0,none⟩) k cap))(hi:i<k)(R:w.cell? ⟨y,i,none⟩=some (.slice a n c))(hf:w.frozen? ⟨y,i,none⟩=false) :
  Calls prog 35 #[.pointer (some ⟨A,0,none⟩),.int .i64 (i:Int)] w fun e w'=>e=.returned (.slice a n c)∧w'=w.setCell ⟨y,i,none⟩ (.slice none 0 0):=by
 obtain⟨c0,c4,c5,c6,c7⟩:=h.cells
 have U:(0:Int)≤(i:Int):=by omega
 have X:(i:Int)<(k:Int):=by omega
 clear h
 go_enter func35,ntmps35
 go_wp2
 go_ret
 exact⟨rfl,rfl⟩
theorem Jh4 (v:Value)(z:Int)(a:Option Addr)(n c:Nat)(y:v=.slice a n c)(w:World):Calls prog 105 #[v,.int .i64 z] w fun e w'=>e=.returned (.func (.func 139) #[] #[.pointer (some ⟨w.heap.size,0,none⟩),.pointer (some ⟨w.heap.size+1,0,none⟩)])∧w'=(w.alloc (.cells #[v] 74)).alloc (.cells #[.int .i64 z] 3):=by
 subst y
 go_enter func105,ntmps105
 go_wp2
 go_ret
 exact⟨rfl,rfl⟩
structure CK (W W':World):Prop where
 size:W.heap.size≤W'.heap.size
 cells:∀ (k:Nat) (c:Array Value) (t:TypeId) (f:Nat×Nat),W.heap[k]?=some (Obj.cells c t f)→W'.heap[k]?=some (Obj.cells c t f)
theorem CK.of_grown {W W':World}{row:Option Nat}(y:W.grownBy W' row)(D:∀ r,row=some r→∃ o:Obj,W.heap[r]?=some o∧o.isCells=false):CK W W':=
 ⟨y.size,fun k c t f h=>by
  rw[y.block k (Oe2.1 h).1 (fun e=>by
   obtain⟨o,A,hn⟩:=D k e.symm
   rw[h]at A
   cases A
   simp[Obj.isCells]at hn)]
  exact h⟩
theorem CK.cell {W W':World}(h:CK W W'){a:Addr}{v:Value}(y:W.cell? a=some v):W'.cell? a=some v:=by
 unfold World.cell? at y ⊢
 split at y
 ·rename_i c t f A
  rw[h.cells _ _ _ _ A]
  exact y
 cases y
theorem Jv.ck {W W':World}{a:Option Addr}{vs:List V}(h:Jv W a vs)(y:CK W W'):Jv W' a vs:=by
 rcases h with h|⟨b,o,h1,h2,A⟩
 ·exact .inl h
 exact .inr ⟨b,o,h1,Oc2 h2 y.size,fun i v hi=>⟨y.cell (A i v hi).1,y.cell (A i v hi).2.1,y.cell (A i v hi).2.2⟩⟩
theorem Jxz {W W':World}{B:Nat}{e:TypeId}{z:Nat}{sv:Value}{n:Nat}{xs:List Value}(h:W.ownsRow B e z sv n xs)(E:CK W W'):W'.ownsRow B e z sv n xs:=by
 obtain⟨h0,h1|⟨g,cap,y,h1,h2,A,D⟩⟩:=h
 ·exact⟨h0,.inl h1⟩
 exact⟨h0,.inr ⟨g,cap,y,h1,h2,E.cells _ _ _ _ A,D⟩⟩
theorem Jq5 {W W':World}{b:Nat}{t:TypeId}{n:Nat}{f:Nat→Value}(h:W.rowIs b t n f)(y:CK W W'):W'.rowIs b t n f:=by
 obtain⟨c,h1,h2⟩:=h
 exact⟨c,y.cells _ _ _ _ h1,h2⟩
theorem Jar.ck {W W':World}{B g:Nat}{A:List Value}{cs:List (List V)}(h:Jar W B g A cs)(y:CK W W'):Jar W' B g A cs:=⟨Jq5 h.row y,h.low,h.len,fun i hi=>Jxz (h.own i hi) y,h.ne,h.apart⟩
theorem Qd.ck {W W':World}{g:Nat}{hs:List (Option Addr×Nat)}{cs:List (List V)}(h:Qd W g hs cs)(y:CK W W'):Qd W' g hs cs:=⟨Jq5 h.row y,fun j A=>(h.vals j A).ck y,h.cap⟩
def pv1 (e:List Pt)(x:List V):V:=match Kl e x with|.inl v=>v|.inr _=>Jf
theorem Jgd {e:List Pt}{x:List V}{v:V}(h:Kl e x=.inl v):pv1 e x=v:=by unfold pv1;rw[h]
def Un (y:List (List Pt))(cols:List (List V))(ps:List (Nat×Nat)):List (List V):=y.map fun e=>ps.flatMap fun x=>(List.range x.2).map fun i=>pv1 e (Ji cols (x.1+i))
theorem Up (y:List (List Pt))(cols:List (List V))(ps:List (Nat×Nat)):(Un y cols ps).length=y.length:=by simp[Un]
theorem Jht {y:List (List Pt)}(cols:List (List V))(ps:List (Nat×Nat)){j:Nat}{e:List Pt}(h:y[j]?=some e):(Un y cols ps).getD j []=ps.flatMap fun x=>(List.range x.2).map fun i=>pv1 e (Ji cols (x.1+i)):=by
 unfold Un
 rw[Oa0,Ob1,h]
 rfl
theorem Jz7 (f m i:Nat)(c:List V)(hi:i<m):(Jbx f (f+m) c).getD i Jf=c.getD (f+i) Jf:=by
 unfold Jbx
 rw[Oa0,Oh9,Oe7,if_pos (by omega),Oa0]
theorem Yw (cols:List (List V))(f m i:Nat)(hi:i<m):Ji (cols.map (Jbx f (f+m))) i=Ji cols (f+i):=by
 unfold Ji
 rw[Oi6]
 exact Oj9 fun c _=>Jz7 f m i c hi
theorem Jwo (y:List (List Pt))(cols:List (List V))(ps:List (Nat×Nat))(f m:Nat)(A:List (List V))(U:A.length=y.length)(H:∀ k,k<A.length→(A.getD k []).length=m)(R:∀ i,i<m→∀ k e,y[k]?=some e→Kl e (Ji cols (f+i))=.inl ((A.getD k []).getD i Jf)):Jdi (Un y cols ps) A (Un y cols ps).length=Un y cols (ps++[(f,m)]):=by
 apply Oi8
 intro k
 by_cases D:k<y.length
 ·have E:y[k]?=some y[k]:=Oa3 D
  have h1:=Jlm (Un y cols ps) A (Un y cols ps).length k (by rw[Up];exact D)
  rw[if_pos (by rw[Up];exact D),Jht cols ps E]at h1
  have h2:=Jht cols (ps++[(f,m)]) E
  have K:(Jdi (Un y cols ps) A (Un y cols ps).length)[k]?=some ((Jdi (Un y cols ps) A (Un y cols ps).length).getD k []):=by
   rw[Oa0,Oa3 (by rw[Jf9,Up];exact D)];rfl
  have M:(Un y cols (ps++[(f,m)]))[k]?=some ((Un y cols (ps++[(f,m)])).getD k []):=by
   rw[Oa0,Oa3 (by rw[Up];exact D)];rfl
  rw[K,M,h1,h2,Oe8,Ol6]
  congr 2
  apply Oi8
  intro i
  by_cases hi:i<m
  ·rw[Ob1,Oh6 hi]
   have O:=R i hi k _ E
   simp only[Option.map_some]
   rw[Jgd O,Oa0 (l:=A.getD k []),Oa3 (by rw[H k (by omega)];exact hi)]
   rfl
  rw[Ob4 (by rw[H k (by omega)];omega),Ob4 (by simp;omega)]
 rw[Ob4 (by rw[Jf9,Up];omega),Ob4 (by rw[Up];omega)]
theorem Jm9 (N z:Nat){α:Type}(f:Nat→α):∀ k,(cks N z k).flatMap (fun x=>(List.range x.2).map fun i=>f (x.1+i))=(List.range (min (k*z) N)).map f:=by
 intro k
 induction k with
 |zero=>rw[Nat.zero_mul,Nat.zero_min];rfl
 |succ k y=>
  rw[Jbj,Oe8,y,Ol6]
  have e:min ((k+1)*z) N=min (k*z) N+min z (N-k*z):=by rw[Of5];omega
  rw[e,List.range_add,Ob8,Oi6]
  congr 1
  by_cases h:k*z<N
  ·rw[Oj1 (Nat.le_of_lt h)]
   rfl
  have h0:min z (N-k*z)=0:=by omega
  show List.map _ (List.range (min z (N-k*z)))=List.map _ (List.range (min z (N-k*z)))
  rw[h0]
  rfl
theorem Jgt (N z k i:Nat)(hi:i<min (k*z) N):∃ x∈cks N z k,∃ t,t<x.2∧i=x.1+t:=by
 have h:=Jm9 N z (fun i=>i) k
 have y:i∈(List.range (min (k*z) N)).map fun i=>i:=by simpa using hi
 rw[←h,Op5]at y
 obtain⟨x,D,y⟩:=y
 rw[Of0]at y
 obtain⟨t,A,e⟩:=y
 exact⟨x,D,t,by simpa using A,e.symm⟩
theorem Kbb (y:List (List Pt))(cols:List (List V))(N z:Nat)(A:1≤z):Un y cols (cks N z (ckN N z))=y.map fun e=>(List.range N).map fun i=>pv1 e (Ji cols i):=by
 unfold Un
 refine Oj9 fun e _=>?_
 rw[Jm9 N z (fun i=>pv1 e (Ji cols i)),Ol4 (Jcy A)]
def Jdc (w:World)(y l:Nat):Option Obj:=(w.setCell ⟨y,l,none⟩ (.slice none 0 0)).heap[y]?
theorem Jol {w W:World}{y l:Nat}(h:W.heap[y]?=w.heap[y]?):(W.setCell ⟨y,l,none⟩ (.slice none 0 0)).heap[y]?=Jdc w y l:=by
 unfold Jdc World.setCell
 simp only[Oi3,h]
structure Jj0 (w:World) (z db l L b wb tb rg:Nat) (ex:Value) (ess:List (List Pt)) (cols:List (List V)) (ps:List (Nat×Nat)) (W:World):Prop where
 b1:W.heap[w.heap.size+1]?=some (.cells #[.slice none 0 0] 74 (0,0))
 b2:W.heap[w.heap.size+2]?=some (.cells #[.nilIface] 76 (0,0))
 bw:W.heap[wb]?=some (.cells #[.pointer (some ⟨b,0,none⟩)] 212 (0,0))
 bt:W.heap[tb]?=some (.cells #[.slice (some ⟨rg,0,none⟩) ess.length ess.length] 74 (0,0))
 wk:∃ (ba:Value) (f n:Int) (pv er:Value),Uz W b ex ba f n pv er
 exs:Jd3 (w.heap.size+3) wb W b ex ess
 tot:∀ x∈ps,x.2≤z
 low:L≤W.heap.size∧wb<L
 ct:∃ svs,Jar W rg rg svs (Un ess cols ps)∧∀ j c,j<ess.length→(Uq svs j).ownBlock=some c→L≤c
 keep:Ju (·=db) w W
 size:L≤W.heap.size
 run:∀ x∈ps,∀ i,i<x.2→∀ e∈ess,∃ v,Kl e (Ji cols (x.1+i))=.inl v
 dl:db<w.heap.size
 dn:W.heap[db]?=Jdc w db l
structure Jq9 (w:World) (db:Nat) (dv ov:Addr) (ess:List (List Pt)) (cols:List (List V)) (ps:List (Nat×Nat)) (W:World):Prop where
 b1:W.heap[w.heap.size+1]?=some (.cells #[.slice none 0 0] 74 (0,0))
 err:∃ (eb kk m:Nat) (pre:List (Nat×Nat)) (x:Nat×Nat),ps=pre++[x]∧m<x.2∧W.heap[w.heap.size+2]?=some (.cells #[Qv eb] 76 (0,0))∧w.heap.size≤eb∧Kr ess (Ji cols (x.1+m))≠0∧Ja8 W eb ((x.1+m:Nat):Int) kk (Jdb dv ov (Kr ess (Ji cols (x.1+m))))∧(∀ y∈pre,∀ i,i<y.2→∀ e∈ess,∃ v,Kl e (Ji cols (y.1+i))=.inl v)∧∀ i,i<m→∀ e∈ess,∃ v,Kl e (Ji cols (x.1+i))=.inl v
 keep:Ju (·=db) w W
theorem Jau {F:Nat→Prop}{w W W':World}{row:Option Nat}(h:Ju F w W)(y:W.grownBy W' row)(D:∀ r,row=some r→w.heap.size≤r):Ju F w W':=
 ⟨y.os.trans h.os,y.tape.trans h.tape,y.output.trans h.output,Ob2 h.size y.size,fun k A hn=>(y.block k (Oc2 A h.size) (fun e=>by have:=D k e.symm;omega)).trans (h.block k A hn)⟩
theorem Jj0.kept {w:World}{z D l L b O M K:Nat}{ex:Value}{H:List (List Pt)}{cols:List (List V)}{ps:List (Nat×Nat)}{W W':World}{row:Option Nat}(h:Jj0 w z D l L b O M K ex H cols ps W)(hL:w.heap.size≤L)(y:W.grownBy W' row)(E:∀ r,row=some r→L≤r∧∃ o:Obj,W.heap[r]?=some o∧o.isCells=false):Jj0 w z D l L b O M K ex H cols ps W':=by
 have A:=CK.of_grown y fun r e=>(E r e).2
 obtain⟨R,f,ba,bb,U,Z⟩:=h.wk
 obtain⟨bc,X,hs⟩:=h.ct
 exact⟨A.cells _ _ _ _ h.b1,A.cells _ _ _ _ h.b2,A.cells _ _ _ _ h.bw,A.cells _ _ _ _ h.bt,⟨R,f,ba,bb,U,A.cells _ _ _ _ Z⟩,h.exs.of_blocks (fun k bf bh _=>y.block k (by have:=h.low;omega) (fun e=>by have:=(E k e.symm).1;have:=h.low;omega)),h.tot,⟨Ob2 h.low.1 y.size,h.low.2⟩,⟨bc,X.ck A,hs⟩,Jau h.keep y fun r e=>Ob2 hL (E r e).1,Ob2 h.size y.size,h.run,h.dl,(y.block D (by have:=h.dl;have:=h.low;omega) (fun e=>by have:=(E D e.symm).1;have:=h.dl;omega)).trans h.dn⟩
theorem Jq9.kept {w:World}{A L:Nat}{D M:Addr}{E:List (List Pt)}{cols:List (List V)}{ps:List (Nat×Nat)}{W W':World}{row:Option Nat}(h:Jq9 w A D M E cols ps W)(hL:w.heap.size≤L)(H:W.grownBy W' row)(K:∀ r,row=some r→L≤r∧∃ o:Obj,W.heap[r]?=some o∧o.isCells=false):Jq9 w A D M E cols ps W':=by
 have y:=CK.of_grown H fun r e=>(K r e).2
 obtain⟨O,kk,m,ba,x,h0,R,h1,h2,U,X,Z⟩:=h.err
 exact⟨y.cells _ _ _ _ h.b1,⟨O,kk,m,ba,x,h0,R,y.cells _ _ _ _ h1,h2,U,y.cells _ _ _ _ X,Z⟩,Jau h.keep H fun r e=>Ob2 hL (K r e).1⟩
theorem Jsd {α:Type}(f:Nat×Nat→List α)(z:Nat)(hf:∀ x,(f x).length=x.2):∀ ps:List (Nat×Nat),(∀ x∈ps,x.2≤z)→(ps.flatMap f).length≤ps.length*z:=by
 intro ps
 induction ps with
 |nil=>intro _;simp
 |cons x ps A=>
  intro h
  rw[Og7,Oa8,hf,List.length_cons,Of5]
  have h1:=h x (Of4 ..)
  have h2:=A fun D y=>h D (Og1 _ y)
  omega
theorem Jyu {y:List (List Pt)}(cols:List (List V))(ps:List (Nat×Nat))(z:Nat)(h:∀ x∈ps,x.2≤z){j:Nat}{e:List Pt}(A:y[j]?=some e):((Un y cols ps).getD j []).length≤ps.length*z:=by
 rw[Jht cols ps A]
 exact Jsd _ z (fun x=>by simp) ps h
theorem Jxx {N z k:Nat}(y:1≤z)(h:k<ckN N z):k*z<N:=Jqs y h
end Go.Proofs.YtdlgbphkaicfaaaGreatDoor
