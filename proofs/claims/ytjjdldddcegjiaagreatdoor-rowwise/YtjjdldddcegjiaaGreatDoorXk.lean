/- The nodes of a plan at work: what is taken, Project. -/
import Derived.Test.YtjjdldddcegjiaaGreatDoorCb
import Derived.Test.YtjjdldddcegjiaaGreatDoorXj
set_option maxHeartbeats 1000000
set_option maxRecDepth 100000
namespace Go.Proofs.YtjjdldddcegjiaaGreatDoor
open Go.RowKit Go.Shelf Tryz
attribute [local go_sem] Oc0
def Jck (w:World)(C:Nat)(K:Int)(z y E H A D dn:Value):Prop:=w.heap[C]?=some (.cells #[.int .i64 K,z,y,E,H,A,D,dn] 105 (0,0))
theorem Jck.below {w w':World}{y:Nat}{K:Int}{A z E H C D dn:Value}(h:Jck w y K A z E H C D dn)(M:Below w.heap.size w w'):Jck w' y K A z E H C D dn:=(M.block y (Jd h)).trans h
theorem Jck.cells {w:World}{y:Nat}{D:Int}{H E K C z A dn:Value}(h:Jck w y D H E K C z A dn):w.cell? ⟨y,0,none⟩=some (.int .i64 D)∧w.cell? ⟨y,4,none⟩=some C∧w.cell? ⟨y,5,none⟩=some z∧w.cell? ⟨y,6,none⟩=some A∧w.cell? ⟨y,7,none⟩=some dn:=by
 unfold Jck at h
 simp[World.cell?,h]
theorem Jjb (z y k cap i:Nat)(M:Int)(C A H K D E:Value)(a:Option Addr)(n c:Nat)(w:World)(h:Jck w z M C A H K D E (.slice (some ⟨y,0,none⟩) k cap))(hi:i<k)(U:w.cell? ⟨y,i,none⟩=some (.slice a n c))(hf:w.frozen? ⟨y,i,none⟩=false) :
  Calls prog 45 #[.pointer (some ⟨z,0,none⟩),.int .i64 (i:Int)] w fun e w'=>e=.returned (.slice a n c)∧w'=w.setCell ⟨y,i,none⟩ (.slice none 0 0):=by
 obtain⟨c0,c4,c5,O,R⟩:=h.cells
 have X:(0:Int)≤(i:Int):=by omega
 have Z:(i:Int)<(k:Int):=by omega
 clear h
 go_enter func45,ntmps45
 go_wp2
 go_ret
 exact⟨rfl,rfl⟩
theorem Jh4 (v:Value)(y:Int)(a:Option Addr)(n c:Nat)(z:v=.slice a n c)(w:World):Calls prog 116 #[v,.int .i64 y] w fun e w'=>e=.returned (.func (.func 150) #[] #[.pointer (some ⟨w.heap.size,0,none⟩),.pointer (some ⟨w.heap.size+1,0,none⟩)])∧w'=(w.alloc (.cells #[v] 75)).alloc (.cells #[.int .i64 y] 3):=by
 subst z
 go_enter func116,ntmps116
 go_wp2
 go_ret
 exact⟨rfl,rfl⟩
structure CK (W W':World):Prop where
 size:W.heap.size≤W'.heap.size
 cells:∀ (k:Nat) (c:Array Value) (t:TypeId) (f:Nat×Nat),W.heap[k]?=some (Obj.cells c t f)→W'.heap[k]?=some (Obj.cells c t f)
theorem CK.of_grown {W y:World}{row:Option Nat}(z:W.grownBy y row)(C:∀ r,row=some r→∃ o:Obj,W.heap[r]?=some o∧o.isCells=false):CK W y:=
 ⟨z.size,fun k c t f h=>by
  rw[z.block k (Oe2.1 h).1 (fun e=>by
   obtain⟨o,A,hn⟩:=C k e.symm
   rw[h]at A
   cases A
   simp[Obj.isCells]at hn)]
  exact h⟩
theorem CK.cell {W z:World}(h:CK W z){a:Addr}{v:Value}(y:W.cell? a=some v):z.cell? a=some v:=by
 unfold World.cell? at y ⊢
 split at y
 ·rename_i c t f A
  rw[h.cells _ _ _ _ A]
  exact y
 cases y
theorem Jv.ck {W A:World}{a:Option Addr}{vs:List V}(h:Jv W a vs)(y:CK W A):Jv A a vs:=by
 rcases h with h|⟨b,o,C,D,z⟩
 ·exact .inl h
 exact .inr ⟨b,o,C,Oc2 D y.size,fun i v hi=>⟨y.cell (z i v hi).1,y.cell (z i v hi).2.1,y.cell (z i v hi).2.2⟩⟩
theorem Jxz {W z:World}{B:Nat}{e:TypeId}{A:Nat}{sv:Value}{n:Nat}{xs:List Value}(h:W.ownsRow B e A sv n xs)(K:CK W z):z.ownsRow B e A sv n xs:=by
 obtain⟨h0,y|⟨g,cap,C,y,D,E,H⟩⟩:=h
 ·exact⟨h0,.inl y⟩
 exact⟨h0,.inr ⟨g,cap,C,y,D,K.cells _ _ _ _ E,H⟩⟩
theorem Jq5 {W y:World}{b:Nat}{t:TypeId}{n:Nat}{f:Nat→Value}(h:W.rowIs b t n f)(C:CK W y):y.rowIs b t n f:=by
 obtain⟨c,z,A⟩:=h
 exact⟨c,C.cells _ _ _ _ z,A⟩
theorem Jar.ck {W y:World}{B g:Nat}{A:List Value}{cs:List (List V)}(h:Jar W B g A cs)(z:CK W y):Jar y B g A cs:=⟨Jq5 h.row z,h.low,h.len,fun i hi=>Jxz (h.own i hi) z,h.ne,h.apart⟩
theorem Qd.ck {W y:World}{g:Nat}{hs:List (Option Addr×Nat)}{cs:List (List V)}(h:Qd W g hs cs)(z:CK W y):Qd y g hs cs:=⟨Jq5 h.row z,fun j A=>(h.vals j A).ck z,h.cap⟩
def pv1 (e:List Pt)(x:List V):V:=match Kl e x with|.inl v=>v|.inr _=>Jf
theorem Jgd {e:List Pt}{x:List V}{v:V}(h:Kl e x=.inl v):pv1 e x=v:=by unfold pv1;rw[h]
def Un (y:List (List Pt))(cols:List (List V))(ps:List (Nat×Nat)):List (List V):=y.map fun e=>ps.flatMap fun x=>(List.range x.2).map fun i=>pv1 e (Ji cols (x.1+i))
theorem Up (y:List (List Pt))(cols:List (List V))(ps:List (Nat×Nat)):(Un y cols ps).length=y.length:=by simp[Un]
theorem Jht {y:List (List Pt)}(cols:List (List V))(ps:List (Nat×Nat)){j:Nat}{e:List Pt}(h:y[j]?=some e):(Un y cols ps).getD j []=ps.flatMap fun x=>(List.range x.2).map fun i=>pv1 e (Ji cols (x.1+i)):=by
 unfold Un
 rw[Oa0,Ob1,h]
 rfl
theorem Jz7 (f m i:Nat)(c:List V)(hi:i<m):(Jbx f (f+m) c).getD i Jf=c.getD (f+i) Jf:=by
 unfold Jbx
 rw[Oa0,Oh9,Oe7,if_pos (by omega),Oa0]
theorem Yw (cols:List (List V))(f m i:Nat)(hi:i<m):Ji (cols.map (Jbx f (f+m))) i=Ji cols (f+i):=by
 unfold Ji
 rw[Oi6]
 exact Oj9 fun c _=>Jz7 f m i c hi
theorem Jwo (y:List (List Pt))(cols:List (List V))(ps:List (Nat×Nat))(f m:Nat)(z:List (List V))(U:z.length=y.length)(E:∀ k,k<z.length→(z.getD k []).length=m)(R:∀ i,i<m→∀ k e,y[k]?=some e→Kl e (Ji cols (f+i))=.inl ((z.getD k []).getD i Jf)):Jdi (Un y cols ps) z (Un y cols ps).length=Un y cols (ps++[(f,m)]):=by
 apply Oi8
 intro k
 by_cases A:k<y.length
 ·have C:y[k]?=some y[k]:=Oa3 A
  have D:=Jlm (Un y cols ps) z (Un y cols ps).length k (by rw[Up];exact A)
  rw[if_pos (by rw[Up];exact A),Jht cols ps C]at D
  have M:=Jht cols (ps++[(f,m)]) C
  have H:(Jdi (Un y cols ps) z (Un y cols ps).length)[k]?=some ((Jdi (Un y cols ps) z (Un y cols ps).length).getD k []):=by
   rw[Oa0,Oa3 (by rw[Jf9,Up];exact A)];rfl
  have K:(Un y cols (ps++[(f,m)]))[k]?=some ((Un y cols (ps++[(f,m)])).getD k []):=by
   rw[Oa0,Oa3 (by rw[Up];exact A)];rfl
  rw[H,K,D,M,Oe8,Ol6]
  congr 2
  apply Oi8
  intro i
  by_cases hi:i<m
  ·rw[Ob1,Oh6 hi]
   have O:=R i hi k _ C
   simp only[Option.map_some]
   rw[Jgd O,Oa0 (l:=z.getD k []),Oa3 (by rw[E k (by omega)];exact hi)]
   rfl
  rw[Ob4 (by rw[E k (by omega)];omega),Ob4 (by simp;omega)]
 rw[Ob4 (by rw[Jf9,Up];omega),Ob4 (by rw[Up];omega)]
theorem Jm9 (N y:Nat){α:Type}(f:Nat→α):∀ k,(cks N y k).flatMap (fun x=>(List.range x.2).map fun i=>f (x.1+i))=(List.range (min (k*y) N)).map f:=by
 intro k
 induction k with
 |zero=>rw[Nat.zero_mul,Nat.zero_min];rfl
 |succ k z=>
  rw[Jbj,Oe8,z,Ol6]
  have e:min ((k+1)*y) N=min (k*y) N+min y (N-k*y):=by rw[Of5];omega
  rw[e,List.range_add,Ob8,Oi6]
  congr 1
  by_cases h:k*y<N
  ·rw[Oj1 (Nat.le_of_lt h)]
   rfl
  have h0:min y (N-k*y)=0:=by omega
  show List.map _ (List.range (min y (N-k*y)))=List.map _ (List.range (min y (N-k*y)))
  rw[h0]
  rfl
theorem Jgt (N z k i:Nat)(hi:i<min (k*z) N):∃ x∈cks N z k,∃ t,t<x.2∧i=x.1+t:=by
 have h:=Jm9 N z (fun i=>i) k
 have y:i∈(List.range (min (k*z) N)).map fun i=>i:=by simpa using hi
 rw[←h,Op5]at y
 obtain⟨x,C,y⟩:=y
 rw[Of0]at y
 obtain⟨t,A,e⟩:=y
 exact⟨x,C,t,by simpa using A,e.symm⟩
theorem Kbb (z:List (List Pt))(cols:List (List V))(N y:Nat)(A:1≤y):Un z cols (cks N y (ckN N y))=z.map fun e=>(List.range N).map fun i=>pv1 e (Ji cols i):=by
 unfold Un
 refine Oj9 fun e _=>?_
 rw[Jm9 N y (fun i=>pv1 e (Ji cols i)),Ol4 (Jcy A)]
def Jdc (w:World)(y l:Nat):Option Obj:=(w.setCell ⟨y,l,none⟩ (.slice none 0 0)).heap[y]?
theorem Jol {w W:World}{y l:Nat}(h:W.heap[y]?=w.heap[y]?):(W.setCell ⟨y,l,none⟩ (.slice none 0 0)).heap[y]?=Jdc w y l:=by
 unfold Jdc World.setCell
 simp only[Oi3,h]
structure Jj0 (w:World) (z db l L b wb tb rg:Nat) (ex:Value) (ess:List (List Pt)) (cols:List (List V)) (ps:List (Nat×Nat)) (W:World):Prop where
 b1:W.heap[w.heap.size+1]?=some (.cells #[.slice none 0 0] 75 (0,0))
 b2:W.heap[w.heap.size+2]?=some (.cells #[.nilIface] 77 (0,0))
 bw:W.heap[wb]?=some (.cells #[.pointer (some ⟨b,0,none⟩)] 220 (0,0))
 bt:W.heap[tb]?=some (.cells #[.slice (some ⟨rg,0,none⟩) ess.length ess.length] 75 (0,0))
 wk:∃ (ba:Value) (f n:Int) (pv er:Value),Uz W b ex ba f n pv er
 exs:Jd3 (w.heap.size+3) wb W b ex ess
 tot:∀ x∈ps,x.2≤z
 low:L≤W.heap.size∧wb<L
 ct:∃ svs,Jar W rg rg svs (Un ess cols ps)∧∀ j c,j<ess.length→(Uq svs j).ownBlock=some c→L≤c
 keep:Ju (·=db) w W
 size:L≤W.heap.size
 run:∀ x∈ps,∀ i,i<x.2→∀ e∈ess,∃ v,Kl e (Ji cols (x.1+i))=.inl v
 dl:db<w.heap.size
 dn:W.heap[db]?=Jdc w db l
structure Jq9 (w:World) (db:Nat) (dv ov:Addr) (ess:List (List Pt)) (cols:List (List V)) (ps:List (Nat×Nat)) (W:World):Prop where
 b1:W.heap[w.heap.size+1]?=some (.cells #[.slice none 0 0] 75 (0,0))
 err:∃ (eb kk m:Nat) (pre:List (Nat×Nat)) (x:Nat×Nat),ps=pre++[x]∧m<x.2∧W.heap[w.heap.size+2]?=some (.cells #[Qv eb] 77 (0,0))∧w.heap.size≤eb∧Kr ess (Ji cols (x.1+m))≠0∧Ja8 W eb ((x.1+m:Nat):Int) kk (Jdb dv ov (Kr ess (Ji cols (x.1+m))))∧(∀ y∈pre,∀ i,i<y.2→∀ e∈ess,∃ v,Kl e (Ji cols (y.1+i))=.inl v)∧∀ i,i<m→∀ e∈ess,∃ v,Kl e (Ji cols (x.1+i))=.inl v
 keep:Ju (·=db) w W
theorem Jau {F:Nat→Prop}{w W z:World}{row:Option Nat}(h:Ju F w W)(y:W.grownBy z row)(C:∀ r,row=some r→w.heap.size≤r):Ju F w z:=
 ⟨y.os.trans h.os,y.tape.trans h.tape,y.output.trans h.output,Ob2 h.size y.size,fun k A hn=>(y.block k (Oc2 A h.size) (fun e=>by have:=C k e.symm;omega)).trans (h.block k A hn)⟩
theorem Jj0.kept {w:World}{O A l L b M K H:Nat}{ex:Value}{E:List (List Pt)}{cols:List (List V)}{ps:List (Nat×Nat)}{W D:World}{row:Option Nat}(h:Jj0 w O A l L b M K H ex E cols ps W)(hL:w.heap.size≤L)(y:W.grownBy D row)(C:∀ r,row=some r→L≤r∧∃ o:Obj,W.heap[r]?=some o∧o.isCells=false):Jj0 w O A l L b M K H ex E cols ps D:=by
 have z:=CK.of_grown y fun r e=>(C r e).2
 obtain⟨ba,f,Z,bc,R,X⟩:=h.wk
 obtain⟨bf,U,hs⟩:=h.ct
 exact⟨z.cells _ _ _ _ h.b1,z.cells _ _ _ _ h.b2,z.cells _ _ _ _ h.bw,z.cells _ _ _ _ h.bt,⟨ba,f,Z,bc,R,z.cells _ _ _ _ X⟩,h.exs.of_blocks (fun k bh bi _=>y.block k (by have:=h.low;omega) (fun e=>by have:=(C k e.symm).1;have:=h.low;omega)),h.tot,⟨Ob2 h.low.1 y.size,h.low.2⟩,⟨bf,U.ck z,hs⟩,Jau h.keep y fun r e=>Ob2 hL (C r e).1,Ob2 h.size y.size,h.run,h.dl,(y.block A (by have:=h.dl;have:=h.low;omega) (fun e=>by have:=(C A e.symm).1;have:=h.dl;omega)).trans h.dn⟩
theorem Jq9.kept {w:World}{A L:Nat}{C K:Addr}{D:List (List Pt)}{cols:List (List V)}{ps:List (Nat×Nat)}{W z:World}{row:Option Nat}(h:Jq9 w A C K D cols ps W)(hL:w.heap.size≤L)(E:W.grownBy z row)(H:∀ r,row=some r→L≤r∧∃ o:Obj,W.heap[r]?=some o∧o.isCells=false):Jq9 w A C K D cols ps z:=by
 have y:=CK.of_grown E fun r e=>(H r e).2
 obtain⟨M,kk,m,bf,x,h0,U,O,R,X,Z,bc⟩:=h.err
 exact⟨y.cells _ _ _ _ h.b1,⟨M,kk,m,bf,x,h0,U,y.cells _ _ _ _ O,R,X,y.cells _ _ _ _ Z,bc⟩,Jau h.keep E fun r e=>Ob2 hL (H r e).1⟩
theorem Jsd {α:Type}(f:Nat×Nat→List α)(y:Nat)(hf:∀ x,(f x).length=x.2):∀ ps:List (Nat×Nat),(∀ x∈ps,x.2≤y)→(ps.flatMap f).length≤ps.length*y:=by
 intro ps
 induction ps with
 |nil=>intro _;simp
 |cons x ps A=>
  intro h
  rw[Og7,Oa8,hf,List.length_cons,Of5]
  have D:=h x (Of4 ..)
  have E:=A fun C z=>h C (Og1 _ z)
  omega
theorem Jyu {z:List (List Pt)}(cols:List (List V))(ps:List (Nat×Nat))(y:Nat)(h:∀ x∈ps,x.2≤y){j:Nat}{e:List Pt}(A:z[j]?=some e):((Un z cols ps).getD j []).length≤ps.length*y:=by
 rw[Jht cols ps A]
 exact Jsd _ y (fun x=>by simp) ps h
theorem Jxx {N y k:Nat}(z:1≤y)(h:k<ckN N y):k*y<N:=Jqs z h
end Go.Proofs.YtjjdldddcegjiaaGreatDoor
