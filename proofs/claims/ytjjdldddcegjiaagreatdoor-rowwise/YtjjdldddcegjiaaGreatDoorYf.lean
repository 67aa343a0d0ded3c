/- Plans as they are meant: nodes, their schemas, what they tell; a plan's check. -/
import Derived.Test.YtjjdldddcegjiaaGreatDoorXz
import Derived.Test.YtjjdldddcegjiaaGreatDoorYd
import Derived.Test.YtjjdldddcegjiaaGreatDoorHf
import Derived.Test.YtjjdldddcegjiaaGreatDoorXp
import Derived.Test.YtjjdldddcegjiaaGreatDoorHc
set_option maxHeartbeats 2000000
set_option maxRecDepth 100000
namespace Go.Proofs.YtjjdldddcegjiaaGreatDoor
open Go.RowKit Go.Shelf Tryz
structure PN where
 op:Nat
 l:Nat
 tn:ByteArray
 es:List (List Pt)
def Jg7 (n:PN):List Nat:=if n.op=0 then []else [n.l]
def flN (ns:List PN)(j i:Nat):Bool:=(ns.take j).any fun n=>(Jg7 n).contains i
theorem Jtp {ns:List PN}{j:Nat}{n:PN}(h:ns[j]?=some n)(i:Nat):flN ns (j+1) i=(flN ns j i||(Jg7 n).contains i):=by
 unfold flN
 rw[Oi7,h]
 simp
structure Jnm (w:World) (n:PN) (nd:Nd):Prop where
 op:nd.op=(n.op:Int)
 l:nd.l=(n.l:Int)
 tn:nd.tn=n.tn
 es:n.op≠0→∃ eb eo ec,nd.xs=(some ⟨eb,eo,none⟩,n.es.length,ec)∧n.es.length≤ec∧Jaz w eb eo n.es
theorem Jb0 {w:World}{b o:Nat}{v:Value}(h:w.cell? ⟨b,o,none⟩=some v):b<w.heap.size:=by
 unfold World.cell? at h
 cases e:w.heap[b]? with
 |none=>simp[e]at h
 |some x=>exact(Oe2.1 e).1
theorem Zx {B:Nat}{w w':World}{b o:Nat}{v:Value}(z:∀ k,k<B→w'.heap[k]?=w.heap[k]?)(h:w.cell? ⟨b,o,none⟩=some v)(y:b<B):w'.cell? ⟨b,o,none⟩=some v:=by
 rw[←h]
 simp only[World.cell?,z b y]
theorem Jaz.under {w w':World}{z eo:Nat}{A:List (List Pt)}(h:Jaz w z eo A)(y:∀ k,k<w.heap.size→w'.heap[k]?=w.heap[k]?):Jaz w' z eo A:=fun j es X=>by
 obtain⟨bc,bh,bf,C,U⟩:=h j es X
 refine⟨bc,bh,bf,Zx y C (Jb0 C),fun k p Z=>?_⟩
 obtain⟨D,E,H,K,M,O,R⟩:=U k p Z
 exact⟨Zx y D (Jb0 D),Zx y E (Jb0 E),Zx y H (Jb0 H),Zx y K (Jb0 K),Zx y M (Jb0 M),Zx y O (Jb0 O),Zx y R (Jb0 R)⟩
theorem Jnm.under {w w':World}{n:PN}{nd:Nd}(h:Jnm w n nd)(E:∀ k,k<w.heap.size→w'.heap[k]?=w.heap[k]?):Jnm w' n nd:=
 ⟨h.op,h.l,h.tn,fun h0=>by
  obtain⟨y,eo,z,A,C,D⟩:=h.es h0
  exact⟨y,eo,z,A,C,D.under E⟩⟩
theorem Jnm.below {w w':World}{n:PN}{nd:Nd}(h:Jnm w n nd)(y:Below w.heap.size w w'):Jnm w' n nd:=h.under fun k z=>y.block k z
structure Kik (tys:ByteArray→List Int) (scs:List (List Int)) (n:PN) (sch:List Int):Prop where
 le:n.op≤2
 scan:n.op=0→sch=tys n.tn
 filt:n.op=1→scs[n.l]?=some sch∧∃ e,n.es=[e]∧Uj sch e∧1≤e.length∧e.length≤12∧Jbk sch e=2
 proj:n.op=2→∃ sc,scs[n.l]?=some sc∧sch=n.es.map (Jbk sc)∧1≤n.es.length∧n.es.length≤6∧∀ e∈n.es,Uj sc e∧1≤e.length∧e.length≤12
structure Jdk (tys:ByteArray→List Int) (scs:List (List Int)) (ns:List PN):Prop where
 len:scs.length=ns.length
 ok:∀ (j:Nat) (n:PN),ns[j]?=some n→∃ sch,scs[j]?=some sch∧Kik tys scs n sch
 ahead:∀ (j:Nat) (n:PN),ns[j]?=some n→∀ i∈Jg7 n,i<j∧flN ns j i=false
 all:∀ i,i+1<ns.length→flN ns ns.length i=true
 one:1≤ns.length
 few:ns.length≤12
theorem Jdk.unnamed {tys:ByteArray→List Int}{z:List (List Int)}{ns:List PN}(h:Jdk tys z ns)(j:Nat):flN ns (j+1) j=false:=by
 unfold flN
 rw[List.any_eq_false]
 intro n hn
 obtain⟨i,hi⟩:=Ok2.1 hn
 rw[Oe7]at hi
 split at hi
 ·intro y
  have:=(h.ahead i n hi j (by simpa using y)).1
  omega
 cases hi
theorem Kaf {w W y:World}{ev:Value}(z:Below w.heap.size w W)(C:∀ g,ev.ownBlock=some g→w.heap.size≤g)(D:W.grownBy y ev.ownBlock):∀ k,k<w.heap.size→y.heap[k]?=w.heap[k]?:=fun k A=>by
 rw[D.block k (Oc2 A z.size) (fun e=>by have:=C k e.symm;omega)]
 exact z.block k A
theorem Jzz {tys:ByteArray→List Int}{bH:List (List Int)}{ns:List PN}(h:Jdk tys bH ns){j:Nat}{n:PN}(Z:ns[j]?=some n){nd:Nd}{w:World}(hi:Jnm w n nd)(s:Nat)
  (bM:n.op=0→∀ z,Below w.heap.size w z→Calls prog 42 #[.pointer (some ⟨s,0,none⟩),.string n.tn] z fun e w'=>Below z.heap.size z w'∧∃ g c,e=.returned (.tuple #[.slice (some ⟨g,0,none⟩) (tys n.tn).length c,.bool true])∧z.heap.size≤g∧g<w'.heap.size∧Kc w' (some ⟨g,0,none⟩) (tys n.tn)) :
  Jvz w (.func (.func 42) #[.pointer (some ⟨s,0,none⟩)] #[]) bH (flN ns) nd j:=by
 obtain⟨sch,hs,ok⟩:=h.ok j n Z
 have bP:=ok.le
 refine⟨by rw[hi.op];omega,by rw[hi.op];omega,sch,hs,fun W ev y bx bI R D=>?_⟩
 have bE:=Jtp Z
 by_cases h0:n.op=0
 ·have E:Jm5 nd.op=107:=by rw[hi.op,h0];rfl
  rw[E]
  have bL:=ok.scan h0
  have:=Kc7 (w.heap.size+2) (w.heap.size+1) s ev y nd sch W R fun z X=>by
   have:=bM h0 z (Jb bx X)
   rw[hi.tn,bL]
   exact this
  refine this.mono fun e bl K=>⟨y,rfl,fun i k A=>?_,K⟩
  rw[bE,D.flg i k A]
  simp[Jg7,h0]
 have bB:Jg7 n=[n.l]:=by unfold Jg7;rw[if_neg h0]
 obtain⟨bK,bJ⟩:=h.ahead j n Z n.l (by rw[bB];exact Oc6.2 rfl)
 have H:n.l<y.length:=by rw[D.len];exact bK
 have bA:y[n.l]?=some y[n.l]:=Oa3 H
 have bC:y[n.l].2=false:=by rw[D.flg n.l _ bA];exact bJ
 have bG:=D.sch n.l _ bA
 obtain⟨O,eo,bn,bc,bQ,bN⟩:=hi.es h0
 have U:∀ z,W.grownBy z ev.ownBlock→Jaz z O eo n.es:=fun z X=>bN.under (Kaf bx bI X)
 have bD:(y.set n.l (y[n.l].1,true)).map (·.1)=y.map (·.1):=by
  rw[Op0]
  apply Oi8
  intro i
  rw[Op2]
  by_cases C:n.l=i
  ·subst C
   rw[if_pos rfl]
   simp[H]
  rw[if_neg C]
 have bz:∀ (i:Nat) (k:Kn),(y.set n.l (y[n.l].1,true))[i]?=some k→k.2=flN ns (j+1) i:=fun i k A=>by
  rw[bE,bB]
  rw[Op2]at A
  by_cases C:n.l=i
  ·subst C
   rw[if_pos rfl]at A
   simp only[H,if_true]at A
   cases A
   simp
  rw[if_neg C]at A
  rw[D.flg i k A]
  have:([n.l]:List Nat).contains i=false:=by simp;exact fun e=>C e.symm
  rw[this,Bool.or_false]
 by_cases br:n.op=1
 ·have E:Jm5 nd.op=108:=by rw[hi.op,br];rfl
  rw[E]
  obtain⟨M,e,bf,bh,bi,bj,bO⟩:=ok.filt br
  rw[bG]at M
  cases M
  rw[bf]at U bc
  have:=Jua (w.heap.size+2) (w.heap.size+1) _ ev y nd n.l e O eo 1 bn W R hi.l H bC bc (Oa2 _) U bh bi bj bO
  exact this.mono fun e bl K=>⟨_,bD,bz,K⟩
 have bu:n.op=2:=by omega
 have E:Jm5 nd.op=109:=by rw[hi.op,bu];rfl
 rw[E]
 obtain⟨bR,M,bf,bh,bi,bj⟩:=ok.proj bu
 rw[bG]at M
 cases M
 have:=Jsy (w.heap.size+2) (w.heap.size+1) _ ev y nd n.l n.es O eo bn W R hi.l H bC bc bh bi U bj
 rw[bf]
 exact this.mono fun e bl K=>⟨_,bD,bz,K⟩
theorem Jvh {tys:ByteArray→List Int}{D:List (List Int)}{ns:List PN}(h:Jdk tys D ns)(C no K:Nat)(z:List Nd)(A:z.length=ns.length)(s:Nat)(w:World)(M:∀ (j:Nat) (nd:Nd),z[j]?=some nd→Zm w C (no+j*7) nd)(hI:∀ (j:Nat) (n:PN) (nd:Nd),ns[j]?=some n→z[j]?=some nd→Jnm w n nd)
  (R:∀ n∈ns,n.op=0→∀ y,Below w.heap.size w y→Calls prog 42 #[.pointer (some ⟨s,0,none⟩),.string n.tn] y fun e w'=>Below y.heap.size y w'∧∃ g c,e=.returned (.tuple #[.slice (some ⟨g,0,none⟩) (tys n.tn).length c,.bool true])∧y.heap.size≤g∧g<w'.heap.size∧Kc w' (some ⟨g,0,none⟩) (tys n.tn)) :
  Calls prog 41 #[.agg #[.slice (some ⟨C,no,none⟩) z.length K],.func (.func 42) #[.pointer (some ⟨s,0,none⟩)] #[]] w fun e w'=>∃ (E:List Sch) (sv:Value),e=.returned (.tuple #[sv,.nilIface])∧Below w.heap.size w w'∧Jo w' (w.heap.size+2) 22 sv (E.map Jbl)∧E.map (·.2.2)=D∧∀ s∈E,Kc w' s.1 s.2.2:=by
 have U:=h.one
 have X:=h.few
 refine Jrc C no K z 42 _ D (flN ns) w M (by omega) (by omega) (by rw[h.len,A]) (fun j nd H=>?_) h.unnamed (fun i hi=>by rw[A]at hi ⊢;exact h.all i hi)
 have O:j<ns.length:=by rw[←A];exact(Ob9.1 H).1
 obtain⟨n,hn⟩:∃ n,ns[j]?=some n:=⟨_,Oa3 O⟩
 exact Jzz h hn (hI j n nd hn H) s (R n (Of6 hn))
end Go.Proofs.YtjjdldddcegjiaaGreatDoor
namespace Go.Proofs.YtjjdldddcegjiaaGreatDoor
open Go.RowKit Go.Shelf
abbrev Cs:=List (List V)
def nR (cs:Cs):Nat:=(cs.getD 0 []).length
structure Zt (sch:List Int) (cs:Cs):Prop where
 len:cs.length=sch.length
 one:1≤cs.length
 few:cs.length≤1000
 rows:∀ j,j<cs.length→(cs.getD j []).length=nR cs
 many:nR cs≤100000
 ty:∀ i,i<nR cs→Jee sch (Ji cs i)
def Jbs (n:PN)(st:List (Option Cs)):Cs:=(st.getD n.l none).getD []
def Jba (y:List Nat)(cs:Cs):Cs:=cs.map (Yq (y.map fun (i:Nat)=>(i:Int)))
def Jcb (es:List (List Pt))(cs:Cs):Cs:=es.map fun e=>(List.range (nR cs)).map fun i=>pv1 e (Ji cs i)
def Jkq (tab:ByteArray→Cs⊕Nat)(n:PN)(st:List (Option Cs)):Cs:=
 if n.op=0 then (tab n.tn).elim id fun _=>[]else if n.op=1 then Jba (Yf (n.es.getD 0 []) (Jbs n st) (nR (Jbs n st))) (Jbs n st)else Jcb n.es (Jbs n st)
def Jb3 (tab:ByteArray→Cs⊕Nat)(n:PN)(st:List (Option Cs)):List (Option Cs):=(if n.op=0 then st else st.set n.l none)++[some (Jkq tab n st)]
def stN (tab:ByteArray→Cs⊕Nat)(ns:List PN)(j:Nat):List (Option Cs):=(ns.take j).foldl (fun s n=>Jb3 tab n s) []
theorem Jma {tab:ByteArray→Cs⊕Nat}{ns:List PN}{j:Nat}{n:PN}(h:ns[j]?=some n):stN tab ns (j+1)=Jb3 tab n (stN tab ns j):=by
 unfold stN
 rw[Oi7,h,Ol1]
 rfl
def Jlw (tab:ByteArray→Cs⊕Nat)(n:PN)(st:List (Option Cs)):Prop:=(n.op=0→∃ cs,tab n.tn=.inl cs)∧(n.op≠0→∀ i,i<nR (Jbs n st)→∀ e∈n.es,∃ v,Kl e (Ji (Jbs n st) i)=.inl v)
theorem Jix (tab:ByteArray→Cs⊕Nat)(n:PN)(st:List (Option Cs)):(Jb3 tab n st).length=st.length+1:=by
 unfold Jb3
 split<;>simp
theorem Jhh (tab:ByteArray→Cs⊕Nat)(ns:List PN):∀ j,j≤ns.length→(stN tab ns j).length=j
 |0,_=>by simp[stN]
 |j+1,h=>by
  rw[Jma (Oa3 (by omega:j<ns.length)),Jix,Jhh tab ns j (by omega)]
theorem Kee {sch:List Int}{es:List Pt}{x:List V}(A:Uj sch es)(C:Jee sch x):∀ j d,j≤es.length→Yy (es.take j) x []=.inl d→d.length=j∧Jho (es.map (tyP sch)) d
 |0,d,_,h=>by
  rw[List.take_zero]at h
  simp only[Yy]at h
  cases h
  exact⟨rfl,fun k H=>absurd H (Oe0 _),fun v K=>by cases K⟩
 |j+1,d,M,h=>by
  have z:es[j]?=some es[j]:=Oa3 (by omega)
  cases hr:Yy (es.take j) x []with
  |inr c=>
   have:=Oi7 (l:=es) (i:=j)
   rw[this,Jdz,hr]at h
   cases h
  |inl D=>
   obtain⟨y,E⟩:=Kee A C j D (by omega) hr
   rw[Jmx z hr]at h
   split at h
   ·rename_i h0
    cases h
    refine⟨by simp[y],?_⟩
    refine Jyb rfl (by rw[y];exact z) ?_ C E h0
    rw[y]
    exact A j _ z
   cases h
theorem Jp2 {sch:List Int}{es:List Pt}{x:List V}{v:V}(C:Uj sch es)(E:Jee sch x)(H:1≤es.length)(h:Kl es x=.inl v):okV (Jbk sch es) v∧Jg v.n:=by
 unfold Kl at h
 cases hr:Yy es x []with
 |inr c=>rw[hr]at h;cases h
 |inl d=>
  rw[hr]at h
  cases h
  obtain⟨y,A⟩:=Kee C E es.length d (Oa2 _) (by rw[Of2];exact hr)
  have z:d≠[]:=by intro e;rw[e]at y;simp at y;omega
  have D:d.getLastD Jf=d.getD (es.length-1) Jf:=by
   rw[Ok7,Om6,Oa0,y]
  constructor
  ·rw[D]
   unfold Jbk
   exact A.1 (es.length-1) (by omega)
  have:d.getLastD Jf∈d:=by
   rw[Ok7,List.getLast?_eq_some_getLast z]
   exact List.getLast_mem z
  exact A.2 _ this
theorem Jot (y:List Nat)(cs:Cs)(i:Nat)(hi:i<y.length):Ji (Jba y cs) i=Ji cs y[i]:=by
 unfold Ji Jba Yq
 rw[Oi6]
 refine Oj9 fun c _=>?_
 simp only[Function.comp_apply]
 rw[Oa0,Ob1,Ob1,Oa3 hi]
 simp only[Option.map_some,Option.getD_some,Int.toNat_natCast]
 rw[if_neg (by omega)]
theorem Jr8 (y:List Nat)(cs:Cs)(h:1≤cs.length):nR (Jba y cs)=y.length:=by
 unfold nR Jba
 rw[Oa0,Ob1,Oa3 (by omega:0<cs.length)]
 simp[Yq]
theorem Ju7 {sch:List Int}{cs:Cs}(h:Zt sch cs)(y:List Nat)(A:∀ k∈y,k<nR cs)(C:y.length≤100000):Zt sch (Jba y cs):=by
 have hn:=Jr8 y cs h.one
 refine⟨by unfold Jba;rw[Oa6];exact h.len,by unfold Jba;rw[Oa6];exact h.one,by unfold Jba;rw[Oa6];exact h.few,fun j z=>?_,by omega,fun i hi=>?_⟩
 ·rw[hn]
  unfold Jba at z ⊢
  rw[Oa6]at z
  rw[Oa0,Ob1,Oa3 z]
  simp[Yq]
 rw[hn]at hi
 rw[Jot y cs i hi]
 exact h.ty _ (A _ (Ob3 hi))
theorem Kcz (e:List Pt)(cs:Cs)(N:Nat):∀ k∈Yf e cs N,k<N:=fun k y=>by
 unfold Yf at y
 have:=(Om0.1 y).1
 exact Oj4.1 this
theorem Jyw (e:List Pt)(cs:Cs)(N:Nat):(Yf e cs N).length≤N:=by
 unfold Yf
 refine Ob2 (Ok1 _ _) ?_
 rw[Op1]
 exact Oa2 _
theorem Jjj (es:List (List Pt))(cs:Cs)(i:Nat)(hi:i<nR cs):Ji (Jcb es cs) i=es.map fun e=>pv1 e (Ji cs i):=by
 unfold Jcb
 conv=>lhs;unfold Ji
 rw[Oi6]
 refine Oj9 fun e _=>?_
 simp only[Function.comp_apply]
 rw[Oa0,Ob1,Oh6 hi]
 rfl
theorem Jm1 (es:List (List Pt))(cs:Cs)(h:1≤es.length):nR (Jcb es cs)=nR cs:=by
 conv=>lhs;unfold nR Jcb
 rw[Oa0,Ob1,Oa3 (by omega:0<es.length)]
 simp
theorem Jxl {E:List Int}{cs:Cs}(h:Zt E cs){es:List (List Pt)}(O:1≤es.length)(R:es.length≤6)(y:∀ e∈es,Uj E e∧1≤e.length∧e.length≤12)(hf:∀ i,i<nR cs→∀ e∈es,∃ v,Kl e (Ji cs i)=.inl v):Zt (es.map (Jbk E)) (Jcb es cs):=by
 have hn:=Jm1 es cs O
 have K:(Jcb es cs).length=es.length:=by unfold Jcb;rw[Oa6]
 refine⟨by rw[K,Oa6],by omega,by omega,fun j H=>?_,by rw[hn];exact h.many,fun i hi=>?_⟩
 ·rw[hn]
  rw[K]at H
  unfold Jcb
  rw[Oa0,Ob1,Oa3 H]
  simp
 rw[hn]at hi
 rw[Jjj es cs i hi]
 refine⟨by simp,fun k C=>?_,fun v z=>?_⟩
 ·rw[Oa6]at C
  have D:=Ob3 C
  obtain⟨v,z⟩:=hf i hi _ D
  rw[Oa0,Ob1,Oa0,Ob1,Oa3 C]
  simp only[Option.map_some,Option.getD_some]
  rw[Jgd z]
  exact(Jp2 (y _ D).1 (h.ty i hi) (y _ D).2.1 z).1
 obtain⟨e,A,rfl⟩:=Of0.1 z
 obtain⟨u,M⟩:=hf i hi e A
 rw[Jgd M]
 exact(Jp2 (y _ A).1 (h.ty i hi) (y _ A).2.1 M).2
structure Khz (tys:ByteArray→List Int) (scs:List (List Int)) (tab:ByteArray→Cs⊕Nat) (ns:List PN) (j:Nat):Prop where
 good:∀ (l:Nat) (cs:Cs),(stN tab ns j)[l]?=some (some cs)→∃ sch,scs[l]?=some sch∧Zt sch cs
 there:∀ (l:Nat),l<j→flN ns j l=false→∃ cs,(stN tab ns j)[l]?=some (some cs)
theorem Kcs {tys:ByteArray→List Int}{D:List (List Int)}{ns:List PN}(h:Jdk tys D ns){tab:ByteArray→Cs⊕Nat}(bc:∀ n∈ns,n.op=0→∀ cs,tab n.tn=.inl cs→Zt (tys n.tn) cs){j:Nat}{n:PN}(C:ns[j]?=some n)(E:Khz tys D tab ns j)(hf:Jlw tab n (stN tab ns j)):∃ sch,D[j]?=some sch∧Zt sch (Jkq tab n (stN tab ns j)):=by
 obtain⟨sch,hs,ok⟩:=h.ok j n C
 refine⟨sch,hs,?_⟩
 have bl:=ok.le
 unfold Jkq
 by_cases h0:n.op=0
 ·rw[if_pos h0]
  obtain⟨cs,H⟩:=hf.1 h0
  rw[H,ok.scan h0]
  exact bc n (Of6 C) h0 cs H
 rw[if_neg h0]
 have X:Jg7 n=[n.l]:=by unfold Jg7;rw[if_neg h0]
 obtain⟨Z,U⟩:=h.ahead j n C n.l (by rw[X];exact Oc6.2 rfl)
 obtain⟨cs,M⟩:=E.there n.l Z U
 obtain⟨bn,R,A⟩:=E.good n.l cs M
 have K:Jbs n (stN tab ns j)=cs:=by unfold Jbs;rw[Oa0,M];rfl
 rw[K]
 have O:=hf.2 h0
 rw[K]at O
 by_cases z:n.op=1
 ·rw[if_pos z]
  obtain⟨y,_⟩:=ok.filt z
  rw[R]at y
  cases y
  exact Ju7 A _ (Kcz _ _ _) (Ob2 (Jyw _ _ _) A.many)
 rw[if_neg z]
 obtain⟨br,y,bf,bh,bi,bj⟩:=ok.proj (by omega)
 rw[R]at y
 cases y
 rw[bf]
 exact Jxl A bh bi bj O
theorem Jqw {tys:ByteArray→List Int}{R:List (List Int)}{ns:List PN}(h:Jdk tys R ns){tab:ByteArray→Cs⊕Nat}(O:∀ n∈ns,n.op=0→∀ cs,tab n.tn=.inl cs→Zt (tys n.tn) cs):∀ j,j≤ns.length→(∀ (k:Nat) (n:PN),k<j→ns[k]?=some n→Jlw tab n (stN tab ns k))→Khz tys R tab ns j
 |0,_,_=>⟨fun l cs z=>by simp[stN]at z,fun l z=>absurd z (Oe0 _)⟩
 |j+1,bf,hf=>by
  have hn:ns[j]?=some ns[j]:=Oa3 (by omega)
  have D:=Jqw h O j (by omega) fun k n bh y=>hf k n (by omega) y
  have X:=hf j _ (by omega) hn
  have H:=Jhh tab ns j (by omega)
  have A:(if ns[j].op=0 then stN tab ns j else (stN tab ns j).set ns[j].l none).length=j:=by split<;>simp[H]
  have M:=Jma (tab:=tab) hn
  have bc:∀ l x,l<j→(Jb3 tab ns[j] (stN tab ns j))[l]?=some (some x)→(stN tab ns j)[l]?=some (some x):=fun l x z y=>by
   unfold Jb3 at y
   rw[Ob0 (by rw[A];exact z)]at y
   split at y
   ·exact y
   rw[Op2]at y
   split at y
   ·split at y<;>cases y
   exact y
  have K:(Jb3 tab ns[j] (stN tab ns j))[j]?=some (some (Jkq tab ns[j] (stN tab ns j))):=by
   unfold Jb3
   rw[Ob6 (by rw[A];exact Oa2 _),A,Oe1]
   rfl
  refine⟨fun l cs y=>?_,fun l z C=>?_⟩
  ·rw[M]at y
   have bi:l<j+1:=by
    have:=(Ob9.1 y).1
    rw[Jix,H]at this
    exact this
   by_cases e:l=j
   ·subst e
    rw[K]at y
    cases y
    exact Kcs h O hn D X
   exact D.good l cs (bc l cs (by omega) y)
  rw[M]
  by_cases e:l=j
  ·subst e
   exact⟨_,K⟩
  rw[Jtp hn,Bool.or_eq_false_iff]at C
  obtain⟨cs,E⟩:=D.there l (by omega) C.1
  refine⟨cs,?_⟩
  unfold Jb3
  rw[Ob0 (by rw[A];omega)]
  split
  ·exact E
  rename_i h0
  have Z:ns[j].l≠l:=by
   have:=C.2
   unfold Jg7 at this
   rw[if_neg h0]at this
   intro U
   rw[U]at this
   simp at this
  rw[Op2,if_neg Z]
  exact E
end Go.Proofs.YtjjdldddcegjiaaGreatDoor
namespace Go.Proofs.YtjjdldddcegjiaaGreatDoor
open Go.RowKit Go.Shelf Tryz
def Jd7 (tab:ByteArray→Cs⊕Nat)(ns:List PN)(j:Nat):Prop:=∀ (k:Nat) (m:PN),k<j→ns[k]?=some m→Jlw tab m (stN tab ns k)
def PSp (tab:ByteArray→Cs⊕Nat)(ns:List PN)(j:Nat)(y:List Dn):Prop:=y.map (Option.map fun x=>x.2.2)=stN tab ns j∧Jd7 tab ns j
def ERp (tab:ByteArray→Cs⊕Nat)(ns:List PN)(z A pg:Addr)(j:Nat)(v:Value)(W:World):Prop:=
 Jd7 tab ns j∧∃ n,ns[j]?=some n ∧
  ((n.op=0∧∃ p b:Nat,tab n.tn=.inr p∧v=.iface 133 (.pointer (some ⟨b,0,none⟩))∧Yu W v pg (some (-1)) (some (p:Int))) ∨
   (n.op≠0∧∃ y kk r:Nat,v=Qv y∧r<nR (Jbs n (stN tab ns j))∧Kr n.es (Ji (Jbs n (stN tab ns j)) r)≠0∧Ja8 W y (r:Int) kk (Jdb z A (Kr n.es (Ji (Jbs n (stN tab ns j)) r)))∧∀ i,i<r→∀ e∈n.es,∃ v,Kl e (Ji (Jbs n (stN tab ns j)) i)=.inl v))
theorem Ja8.below {w w':World}{y:Nat}{row z:Int}{A:Value}(h:Ja8 w y row z A)(C:Below w.heap.size w w'):Ja8 w' y row z A:=(C.block y (Jd h)).trans h
theorem ERp.below {tab:ByteArray→Cs⊕Nat}{ns:List PN}{E M pg:Addr}{j:Nat}{v:Value}{W D:World}(h:ERp tab ns E M pg j v W)(K:Below W.heap.size W D):ERp tab ns E M pg j v D:=by
 obtain⟨h0,n,H,⟨y,p,b,z,A,C⟩|⟨y,O,kk,r,z,A,C,R,U⟩⟩:=h
 ·exact⟨h0,n,H,.inl ⟨y,p,b,z,A,C.below K⟩⟩
 exact⟨h0,n,H,.inr ⟨y,O,kk,r,z,A,C,R.below K,U⟩⟩
theorem Jd7.more {tab:ByteArray→Cs⊕Nat}{ns:List PN}{j:Nat}{n:PN}(h:Jd7 tab ns j)(z:ns[j]?=some n)(hf:Jlw tab n (stN tab ns j)):Jd7 tab ns (j+1):=fun k m A y=>by
 by_cases e:k=j
 ·subst e
  rw[z]at y
  cases y
  exact hf
 exact h k m (by omega) y
theorem Js5 {z:List Int}{es:List (List Pt)}(h:∀ e∈es,Uj z e∧1≤e.length∧e.length≤12)(m:Nat)(E:m=z.length):Jga m es:=fun e D=>by
 obtain⟨C,y,K⟩:=h e D
 exact⟨by intro A;rw[A]at y;simp at y,by omega,fun j p H=>by rw[E];exact(C j p H).ok⟩
theorem Jo3 {sch:List Int}{cs:Cs}(h:Zt sch cs):∀ i,i<nR cs→∀ v∈Ji cs i,Jg v.n:=fun i hi=>(h.ty i hi).2.2
theorem Ka3 {tys:ByteArray→List Int}{cK:List (List Int)}{ns:List PN}(h:Jdk tys cK ns){tab:ByteArray→Cs⊕Nat}(cJ:∀ n∈ns,n.op=0→∀ cs,tab n.tn=.inl cs→Zt (tys n.tn) cs){j:Nat}{n:PN}(D:ns[j]?=some n){nd:Nd}{z:World}(hi:Jnm z n nd)(s:Nat)(bE:Nat)(bW bV:Int)(cy bX cx:Value)(Z br et pg:Addr)(cr:1≤bE)(cu:bE≤1000)
  (ch:n.op=0→∀ Y,Below z.heap.size z Y→Calls prog 48 #[.pointer (some ⟨s,0,none⟩),.string n.tn] Y fun e w'=>Jrr Y et pg (some (tab n.tn)) e w') (bJ:Jdo z Z br) :
  Ju1 z (z.heap.size+1) z.heap.size bE bW bV cy (.pointer (some ⟨s,0,none⟩)) bX cx (PSp tab ns) (ERp tab ns Z br pg) nd j:=by
 obtain⟨sch,hs,ok⟩:=h.ok j n D
 have cO:=ok.le
 have cN:j<ns.length:=(Ob9.1 D).1
 refine⟨by rw[hi.op];omega,by rw[hi.op];omega,fun W cz H bi cM hR cc cB=>?_⟩
 obtain⟨bB,K⟩:=cB
 have cl:=Jqw h cJ j (by omega) K
 have bO:=Jma (tab:=tab) D
 have ca:Jdo W Z br:=bJ.below bi
 have cb:10<z.heap.size∧11<z.heap.size:=⟨Jb0 bJ.d,Jb0 bJ.o⟩
 by_cases h0:n.op=0
 ·have bj:Jej nd.op=81:=by rw[hi.op,h0];rfl
  rw[bj]
  cases htab:tab n.tn with
  |inl cs=>
   have cF:Jlw tab n (stN tab ns j):=⟨fun _=>⟨cs,htab⟩,fun bn=>absurd h0 bn⟩
   have:=Kdz hR nd cs fun Y R=>by
    rw[hi.tn]
    refine(ch h0 Y (Jb bi R)).mono fun e w' y=>?_
    rw[htab]at y
    exact y
   refine this.mono fun bI bG y=>?_
   obtain⟨bL,g,bD,rfl,bh,bf⟩:=y
   refine⟨Qq bL,.inl ⟨(g,bD,cs),H,rfl,bh,bf,cc,?_,K.more D cF⟩⟩
   rw[bO,Ob8,bB]
   unfold Jb3 Jkq
   rw[if_pos h0,if_pos h0,htab]
   rfl
  |inr p=>
   have:=Jos z.heap.size s bE (.int .i64 bW) (.int .i64 bV) cy bX cx cz nd.op nd.l nd.r nd.tn (.slice nd.xs.1 nd.xs.2.1 nd.xs.2.2) (.slice nd.ky.1 nd.ky.2.1 nd.ky.2.2) nd.kk W (fun _ a b w'=>∃ g:Nat,a=.slice none 0 0∧b=.iface 133 (.pointer (some ⟨g,0,none⟩))∧Yu w' b pg (some (-1)) (some (p:Int))) hR.run (fun Y R=>by
    rw[hi.tn]
    refine(ch h0 Y (Jb bi R)).mono fun e w' y=>?_
    rw[htab]at y
    obtain⟨O,b,rfl,_,bA⟩:=y
    exact⟨O,_,_,rfl,b,rfl,rfl,bA⟩)
   refine this.mono fun bI bG y=>?_
   obtain⟨bL,Y,R,a,b,rfl,g,rfl,rfl,cC⟩:=y
   exact⟨Qq bL,.inr ⟨_,g,rfl,K,n,D,.inl ⟨h0,p,g,htab,rfl,cC⟩⟩⟩
 have cG:Jg7 n=[n.l]:=by unfold Jg7;rw[if_neg h0]
 obtain⟨cH,cE⟩:=h.ahead j n D n.l (by rw[cG];exact Oc6.2 rfl)
 obtain⟨cs,E⟩:=cl.there n.l cH cE
 obtain⟨cQ,ci,A⟩:=cl.good n.l cs E
 have U:Jbs n (stN tab ns j)=cs:=by unfold Jbs;rw[Oa0,E];rfl
 obtain⟨⟨g,bD,X⟩,bM⟩:∃ x,H[n.l]?=some (some x):=by
  rw[←bB,Ob1]at E
  cases e:H[n.l]? with
  |none=>rw[e]at E;cases E
  |some o=>
   cases o with
   |none=>rw[e]at E;cases E
   |some x=>exact⟨x,rfl⟩
 have cD:X=cs:=by
  rw[←bB,Ob1,bM]at E
  simpa using E
 subst cD
 obtain⟨bY,eo,bZ,bR,cn,bS⟩:=hi.es h0
 have cj:∀ x:Nat×List (Option Addr×Nat)×List (List V),(H.set n.l none++[some x]).map (Option.map fun x=>x.2.2)=(stN tab ns j).set n.l none++[some x.2.2]:=fun x=>by
  rw[Ob8,Op0,bB]
  rfl
 have cf:(H.set n.l none).length=j:=by rw[Of8];exact cc
 by_cases O:n.op=1
 ·have bj:Jej nd.op=82:=by rw[hi.op,O];rfl
  rw[bj]
  obtain⟨bu,e,bx,bT,cv,bU,cP⟩:=ok.filt O
  rw[ci]at bu
  cases bu
  rw[bx]at bR bS cn
  have:=Juo hR nd n.l g bD X bM hi.l bY eo 1 bZ bR cn e z.heap.size (nR X) (Nat.le_succ _) Z br (fun Y R=>bS.under fun k bC=>(R k bC).trans (bi.block k bC)) (Js5 (fun bz C=>by rw[Oc6]at C;subst C;exact⟨bT,cv,bU⟩) _ A.len) cr cu A.one A.few A.rows A.many (Jo3 A) ca cb
  refine this.mono fun bI bG y=>?_
  obtain⟨bl,⟨cA,cI,rfl,bh,bf,bK⟩|⟨bc,kk,r,rfl,bP,bn,bQ,bN⟩⟩:=y
  ·refine⟨bl,.inl ⟨_,H.set n.l none,rfl,bh,bf,cf,?_,K.more D ⟨fun bH=>absurd bH h0,fun _ i M bz C=>?_⟩⟩⟩
   ·rw[cj,bO]
    unfold Jb3 Jkq
    rw[if_neg h0,if_neg h0,if_pos O,U,bx]
    rfl
   rw[bx,Oc6]at C
   subst C
   rw[U]at M ⊢
   exact bK i M
  refine⟨bl,.inr ⟨_,bc,rfl,K,n,D,.inr ⟨h0,bc,kk,r,rfl,?_⟩⟩⟩
  rw[U,bx]
  exact⟨bP,bn,bQ,fun i M bz C=>by rw[Oc6]at C;subst C;exact bN i M⟩
 have bA:n.op=2:=by omega
 have bj:Jej nd.op=83:=by rw[hi.op,bA];rfl
 rw[bj]
 obtain⟨cS,bu,bx,bT,cv,bU⟩:=ok.proj bA
 rw[ci]at bu
 cases bu
 have:=Jsx hR nd n.l g bD X bM hi.l bY eo bZ n.es bR z.heap.size (nR X) (Nat.le_succ _) Z br (bS.under fun k bC=>bi.block k bC) (Js5 bU _ A.len) bT (by omega) cr cu A.one A.few A.rows A.many (Jo3 A) ca cb
 refine this.mono fun bI bG y=>?_
 obtain⟨bl,⟨cA,cI,rfl,bh,bf,bK⟩|⟨bc,kk,r,rfl,bP,bn,bQ,bN⟩⟩:=y
 ·refine⟨bl,.inl ⟨_,H.set n.l none,rfl,bh,bf,cf,?_,K.more D ⟨fun bH=>absurd bH h0,fun _ i M bz C=>?_⟩⟩⟩
  ·rw[cj,bO]
   unfold Jb3 Jkq
   rw[if_neg h0,if_neg h0,if_neg O,U]
   rfl
  rw[U]at M ⊢
  exact bK i M bz C
 refine⟨bl,.inr ⟨_,bc,rfl,K,n,D,.inr ⟨h0,bc,kk,r,rfl,?_⟩⟩⟩
 rw[U]
 exact⟨bP,bn,bQ,bN⟩
attribute [local go_sem] Oc0
theorem Jib (y:World)(g:Nat)(z A C D E:Value)(k:Nat)(h:k≠g):(((((y.setCell ⟨g,0,none⟩ z).setCell ⟨g,1,none⟩ A).setCell ⟨g,2,none⟩ C).setCell ⟨g,3,none⟩ D).setCell ⟨g,4,none⟩ E).heap[k]?=y.heap[k]?:=Zh y g z A C D E k h
theorem Jl1 (f:Nat→Value)(n j:Nat)(h:j<n):Uq ((List.range n).map f) j=f j:=by
 unfold Uq
 rw[Oa0,Ob1,Oh6 h]
 rfl
theorem Jrn (g:Nat)(hs:List (Option Addr×Nat))(cs:List (List V))(n:Nat)(w:World)(M:Qd w g hs cs)(bh:∀ i,i<cs.length→(cs.getD i []).length=n)(X:1≤cs.length)(Z:cs.length≤1000)(hn:n≤10000) :
  Calls prog 28 #[.slice (some ⟨g,0,none⟩) cs.length cs.length,.nilIface] w fun e w'=>Below w.heap.size w w'∧∃ K bs,e=.returned (.tuple #[.slice (some ⟨K,0,none⟩) n n,Jb6 0])∧Jcu w' w.heap.size K bs (Qf n cs):=by
 have O:Below w.heap.size w (w.alloc (.cells #[.int .i64 0,.int .i64 0,.int .i64 0,.int .i64 0,.int .i64 0] 40)):=(Oa5 _ _).alloc (Oa2 _) _
 have bu:=run_neq_nil_nil (P:=prog)
 have D:=M.below O
 have U:=by
  refine Jo4 g cs.length ((List.range cs.length).map fun j=>.slice (Yo hs j).1 (cs.getD j []).length (Yo hs j).2) cs n (w.alloc (.cells #[.int .i64 0,.int .i64 0,.int .i64 0,.int .i64 0,.int .i64 0] 40)) ?_ (by simp) (fun i hi=>⟨(Yo hs i).1,(Yo hs i).2,?_,D.vals i hi⟩) bh X Z hn
  ·rw[Oa6,Op1]
   exact D.row.congr fun j bl=>(Jl1 (fun j=>.slice (Yo hs j).1 (cs.getD j []).length (Yo hs j).2) _ _ bl).symm
  exact Jl1 (fun j=>.slice (Yo hs j).1 (cs.getD j []).length (Yo hs j).2) _ _ hi
 clear M D
 go_enter func28,ntmps28
 go_wp2_with fail
 refine U.mono ?_
 rintro e w1 ⟨rfl,⟨C,bj⟩,R⟩
 clear U
 go_wp2_with fail
 refine(Jjq w1).mono ?_
 rintro e bz ⟨rfl,E⟩
 have bc:=Jb O R
 obtain⟨bn,bx⟩:=Kx (Jb R E)
 have bf:=Jb bc E
 have H:=bj.below E
 rw[Oa7]at H
 have bi:=H.from_
 have low:∀ A:World,Jcu A (w.heap.size+1) (w.heap.size+1) C (Qf n cs)→Jcu A w.heap.size (w.heap.size+1) C (Qf n cs):=fun A y=>⟨y.len,y.outer,y.rows,⟨by have:=y.from_.1;omega,fun b z=>⟨by have:=(y.from_.2 b z).1;omega,(y.from_.2 b z).2⟩⟩,y.nodup⟩
 go_wp2
 refine bodyPost_ret (v:=.tuple #[.slice (some ⟨w.heap.size+1,0,none⟩) n n,Jb6 0]) (by simp[results,results28,go_sem,bn]) rfl ⟨Um bf (Oa2 _) _ _ _ _ _,?_⟩
 refine⟨w.heap.size+1,C,rfl,?_⟩
 refine low _ (H.of_blocks ?_ (fun b z=>?_))
 ·exact Jib _ _ _ _ _ _ _ _ (by omega)
 have br:=(bi.2 b z).1
 exact Jib _ _ _ _ _ _ _ _ (by omega)
theorem Kc0 (st d s:Nat)(H:Value)(M E D K:Int)(w:World)(bG:Jdu w st d s)(P:World→Value→Value→World→Prop)(Z:World→Value→Int→Int→Int→Int→Int→World→Prop)
  (bH:∀ z,Below w.heap.size w z→Calls prog 27 #[.agg #[H],.agg #[.int .i64 M,.int .i64 E,.int .i64 D,.int .i64 K],.pointer (some ⟨s,0,none⟩),.pointer (some ⟨d,0,none⟩)] z fun e w'=>Below z.heap.size z w'∧∃ a b,e=.returned (.tuple #[a,b])∧P z a b w')
  (bD:∀ z a b Y,Below w.heap.size w z→Below z.heap.size z Y→P z a b Y→Calls prog 28 #[a,b] Y fun e w'=>Below Y.heap.size Y w'∧∃ l c nd row col pg,e=.returned (.tuple #[l,Ko c nd row col pg])∧Z Y l c nd row col pg w')
  (hR:∀ Y l c nd row col pg A bj,A.heap.size≤bj.heap.size→(∀ k,Y.heap.size≤k→bj.heap[k]?=A.heap[k]?)→Z Y l c nd row col pg A→Z Y l c nd row col pg bj) :
  Calls prog 10 #[.pointer (some ⟨st,0,none⟩),.agg #[H],.agg #[.int .i64 M,.int .i64 E,.int .i64 D,.int .i64 K]] w fun e w'=>Below w.heap.size w w'∧∃ Y l c nd row col pg,Below w.heap.size w Y∧e=.returned (.tuple #[l,Ko c nd row col pg])∧Z Y l c nd row col pg w':=by
 have bL:Hid _:=bH
 have bI:Hid _:=bD
 have bJ:Hid _:=hR
 obtain⟨c0,c1⟩:=bG.field
 clear bH bD hR bG
 go_enter func10,ntmps10
 go_upto_region 1 with fail
 have bc:Below w.heap.size w (((w.alloc (.cells #[H] 54)).alloc (.cells #[.int .i64 M,.int .i64 E,.int .i64 D,.int .i64 K] 28)).alloc (.cells #[.int .i64 0,.int .i64 0,.int .i64 0,.int .i64 0,.int .i64 0] 40)):=Jc (Jc (Jc (Oa5 _ _) _) _) _
 have bu:(((w.alloc (.cells #[H] 54)).alloc (.cells #[.int .i64 M,.int .i64 E,.int .i64 D,.int .i64 K] 28)).alloc (.cells #[.int .i64 0,.int .i64 0,.int .i64 0,.int .i64 0,.int .i64 0] 40)).heap[w.heap.size]?=some (.cells #[H] 54 (0,0)):=((Oa9 _ _ _ (by simp;omega)).trans (Oa9 _ _ _ (by simp))).trans (heap_alloc_new w _)
 have X:(((w.alloc (.cells #[H] 54)).alloc (.cells #[.int .i64 M,.int .i64 E,.int .i64 D,.int .i64 K] 28)).alloc (.cells #[.int .i64 0,.int .i64 0,.int .i64 0,.int .i64 0,.int .i64 0] 40)).heap[w.heap.size+1]?=some (.cells #[.int .i64 M,.int .i64 E,.int .i64 D,.int .i64 K] 28 (0,0)):=by
  have:=heap_alloc_new (w.alloc (.cells #[H] 54)) (.cells #[.int .i64 M,.int .i64 E,.int .i64 D,.int .i64 K] 28)
  rw[Oa7]at this
  exact(Oa9 _ _ _ (by simp)).trans this
 have bx:(((w.alloc (.cells #[H] 54)).alloc (.cells #[.int .i64 M,.int .i64 E,.int .i64 D,.int .i64 K] 28)).alloc (.cells #[.int .i64 0,.int .i64 0,.int .i64 0,.int .i64 0,.int .i64 0] 40)).heap[w.heap.size+2]?=some (.cells #[.int .i64 0,.int .i64 0,.int .i64 0,.int .i64 0,.int .i64 0] 40 (0,0)):=by
  have:=heap_alloc_new ((w.alloc (.cells #[H] 54)).alloc (.cells #[.int .i64 M,.int .i64 E,.int .i64 D,.int .i64 K] 28)) (.cells #[.int .i64 0,.int .i64 0,.int .i64 0,.int .i64 0,.int .i64 0] 40)
  rw[Oa7,Oa7]at this
  exact this
 have br:(((w.alloc (.cells #[H] 54)).alloc (.cells #[.int .i64 M,.int .i64 E,.int .i64 D,.int .i64 K] 28)).alloc (.cells #[.int .i64 0,.int .i64 0,.int .i64 0,.int .i64 0,.int .i64 0] 40)).heap.size=w.heap.size+3:=by rw[Oa7,Oa7,Oa7]
 generalize (((w.alloc (.cells #[H] 54)).alloc (.cells #[.int .i64 M,.int .i64 E,.int .i64 D,.int .i64 K] 28)).alloc (.cells #[.int .i64 0,.int .i64 0,.int .i64 0,.int .i64 0,.int .i64 0] 40))=C at bc bu X bx br ⊢
 have bN:C.cell? ⟨w.heap.size,0,none⟩=some H:=by simp[World.cell?,bu]
 have bO:C.cell? ⟨w.heap.size+1,0,none⟩=some (.int .i64 M):=by simp[World.cell?,X]
 have bP:C.cell? ⟨w.heap.size+1,1,none⟩=some (.int .i64 E):=by simp[World.cell?,X]
 have bQ:C.cell? ⟨w.heap.size+1,2,none⟩=some (.int .i64 D):=by simp[World.cell?,X]
 have bR:C.cell? ⟨w.heap.size+1,3,none⟩=some (.int .i64 K):=by simp[World.cell?,X]
 have bX:=Ja bc c0
 have bY:=Ja bc c1
 have U:Hid (Below w.heap.size w C∧C.heap[w.heap.size+2]?=some (.cells #[.int .i64 0,.int .i64 0,.int .i64 0,.int .i64 0,.int .i64 0] 40 (0,0))∧C.heap.size=w.heap.size+3):=⟨bc,bx,br⟩
 clear c0 c1 bc bu X bx br
 refine wp_region_held_drew (S:=fun z=>z.cell? ⟨w.heap.size,0,none⟩=some H∧z.cell? ⟨w.heap.size+1,0,none⟩=some (.int .i64 M)∧z.cell? ⟨w.heap.size+1,1,none⟩=some (.int .i64 E)∧z.cell? ⟨w.heap.size+1,2,none⟩=some (.int .i64 D)∧z.cell? ⟨w.heap.size+1,3,none⟩=some (.int .i64 K)∧z.cell? ⟨st,0,none⟩=some (.pointer (some ⟨d,0,none⟩))∧z.cell? ⟨st,1,none⟩=some (.pointer (some ⟨s,0,none⟩))) (by kernel_rfl) ⟨Jh bN,Jh bO,Jh bP,Jh bQ,Jh bR,Jh bX,Jh bY⟩ (fun y=>?_)
 refine tk 0 ?_ rfl y ?_ (tk 1 ?_ rfl y ?_ (tk 2 ?_ rfl y ?_ (tk 3 ?_ rfl y ?_ (tk 4 ?_ rfl y ?_ (tk 5 ?_ rfl y ?_ (tk 6 ?_ rfl y ?_ (tk 7 ?_ rfl y ?_ (tk 8 ?_ rfl y ?_ (tk 9 ?_ rfl y ?_ ?_)))))))))
 iterate 10
  rotate_left 1
  ·intro w bl;(try dsimp only at bl);go_simp;try rfl
 simp only[Act.put,List.getElem_toArray,List.getElem_cons_zero,List.getElem_cons_succ,Oa1,List.set_cons_zero,List.set_cons_succ]
 refine wpAnyH_ready (rs:=[10]) (by kernel_rfl) (by simp) (AllReadyH.cons rfl (fun bM bz=>?_) AllReadyH.nil)
 go_simp
 refine(bL.out C.drew (Jj U.out.1)).mono ?_
 rintro e Y ⟨R,a,b,rfl,bA⟩
 have bi:Hid (P C.drew a b Y∧Below C.drew.heap.size C.drew Y):=⟨bA,R⟩
 clear bA
 go_simp
 refine bz.out _ _ ⟨Ja R y.1,Ja R y.2.1,Ja R y.2.2.1,Ja R y.2.2.2.1,Ja R y.2.2.2.2.1,Ja R y.2.2.2.2.2.1,Ja R y.2.2.2.2.2.2⟩ (fun y=>?_)
 clear bz bM R
 refine tk 11 ?_ rfl y ?_ (tk 12 ?_ rfl y ?_ (tk 13 ?_ rfl y ?_ (tk 14 ?_ rfl y ?_ (tk 15 ?_ rfl y ?_ ?_))))
 iterate 5
  rotate_left 1
  ·intro w bl;(try dsimp only at bl);go_simp;try rfl
 simp only[Act.put,List.getElem_toArray,List.getElem_cons_zero,List.getElem_cons_succ,Oa1,List.set_cons_zero,List.set_cons_succ]
 refine wpAnyH_done (by kernel_rfl) ?_ _
 have bE:=bI.out C.drew a b Y (Jj U.out.1) bi.out.2 bi.out.1
 go_wp2_with fail
 refine bE.mono ?_
 rintro e A ⟨bC,l,c,nd,row,col,pg,rfl,bB⟩
 have bK:Hid (Z Y l c nd row col pg A):=bB
 have bf:Below C.heap.size C Y:=Jw bi.out.2
 have bn:=Jb bf bC
 have O:=(bn.block _ (Jd U.out.2.1)).trans U.out.2.1
 have bS:A.cell? ⟨w.heap.size+2,0,none⟩=some (.int .i64 0):=by simp[World.cell?,O]
 have bT:A.cell? ⟨w.heap.size+2,1,none⟩=some (.int .i64 0):=by simp[World.cell?,O]
 have bU:A.cell? ⟨w.heap.size+2,2,none⟩=some (.int .i64 0):=by simp[World.cell?,O]
 have bV:A.cell? ⟨w.heap.size+2,3,none⟩=some (.int .i64 0):=by simp[World.cell?,O]
 have bW:A.cell? ⟨w.heap.size+2,4,none⟩=some (.int .i64 0):=by simp[World.cell?,O]
 have bZ:A.frozen? ⟨w.heap.size+2,0,none⟩=false:=by simp[World.frozen?,O]
 have ca:A.frozen? ⟨w.heap.size+2,1,none⟩=false:=by simp[World.frozen?,O]
 have cb:A.frozen? ⟨w.heap.size+2,2,none⟩=false:=by simp[World.frozen?,O]
 have cc:A.frozen? ⟨w.heap.size+2,3,none⟩=false:=by simp[World.frozen?,O]
 have cf:A.frozen? ⟨w.heap.size+2,4,none⟩=false:=by simp[World.frozen?,O]
 have bh:Hid (Below w.heap.size w A∧Below w.heap.size w Y∧w.heap.size+3≤Y.heap.size):=⟨Jb U.out.1 bn,Jb U.out.1 bf,by have:=bf.size;have:=U.out.2.2;omega⟩
 clear bB bE bf bn O bC
 go_wp2
 refine bodyPost_ret (v:=.tuple #[l,Ko c nd row col pg]) (by simp[results,results10,go_sem,bS,bT,bU,bV,bW]) rfl ⟨Um bh.out.1 (by omega) _ _ _ _ _,Y,l,c,nd,row,col,pg,bh.out.2.1,rfl,bJ.out _ _ _ _ _ _ _ _ _ ?_ (fun k ch=>?_) bK.out⟩
 ·simp[World.setCell]
 exact Jib _ _ _ _ _ _ _ k (by have:=bh.out.2.2;omega)
def Jmo (c:Nat):Prop:=c=0∨c=9∨c=10
theorem Jbn {y:V→V→V×Nat}(h:∀ a b,Jmo (y a b).2)(a b:V):Jmo (Kd y a b).2:=by
 unfold Kd
 split
 ·exact .inl rfl
 exact h a b
theorem Kg9 (op:Int)(a b:V):Jmo (opR op a b).2:=by
 unfold opR
 split
 ·exact Jbn (fun a b=>by unfold Jik;split;exact .inl rfl;exact .inr (.inr rfl)) a b
 split
 ·exact Jbn (fun a b=>by unfold Jiw;split;exact .inl rfl;exact .inr (.inr rfl)) a b
 split
 ·exact Jbn (fun a b=>by unfold Jkj;split;exact .inl rfl;exact .inr (.inr rfl)) a b
 split
 ·exact Jbn (fun a b=>by unfold Jg4;split;exact .inr (.inl rfl);split;exact .inl rfl;exact .inr (.inr rfl)) a b
 split
 ·exact Jbn (fun a b=>.inl rfl) a b
 split
 ·exact Jbn (fun a b=>.inl rfl) a b
 split
 ·exact .inl rfl
 split
 ·exact .inl rfl
 split
 ·exact Jbn (fun a b=>.inl rfl) a b
 exact .inl rfl
theorem Keb (p:Pt)(x d:List V):Jmo (Qp p x d).2:=by
 unfold Qp
 split
 ·exact .inl rfl
 split
 ·exact .inl rfl
 exact Kg9 _ _ _
theorem Jlz:∀ (es:List Pt)(x d:List V)(c:Nat),Yy es x d=.inr c→Jmo c
 |[],x,d,c,h=>by simp only[Yy]at h;cases h
 |p::es,x,d,c,h=>by
  simp only[Yy]at h
  split at h
  ·exact Jlz es x _ c h
  cases h
  exact Keb p x d
theorem Jxg {es:List Pt}{x:List V}{c:Nat}(h:Kl es x=.inr c):Jmo c:=by
 unfold Kl at h
 cases hr:Yy es x []with
 |inl d=>rw[hr]at h;cases h
 |inr y=>
  rw[hr]at h
  cases h
  exact Jlz es x [] c hr
theorem Jjy:∀ (y:List (List Pt))(x:List V),Jmo (Kr y x)
 |[],x=>.inl rfl
 |e::y,x=>by
  simp only[Kr]
  cases h:Kl e x with
  |inl v=>exact Jjy y x
  |inr c=>exact Jxg h
theorem Jny.plan {w:World}{v:Value}{a:Addr}{r c p g gc:Option Int}{y:Nat}{j:Int}(h:Jny w v a none r c p g gc)(z:w.heap[y]?=some (.cells #[.int .i64 j,v] 113 (0,0))):Jny w (.iface 111 (.pointer (some ⟨y,0,none⟩))) a (some j) r c p g gc:=by
 have c0:w.cell? ⟨y,0,none⟩=some (.int .i64 j):=by simp[World.cell?,z]
 have c1:w.cell? ⟨y,1,none⟩=some v:=by simp[World.cell?,z]
 obtain⟨⟨M,A⟩,⟨bf,bc⟩,⟨O,C⟩,⟨R,D⟩,⟨U,E⟩,⟨X,H⟩,⟨Z,K⟩⟩:=h
 exact⟨⟨M+1,.wrap _ _ _ _ _ _ _ Jdg c1 A⟩,⟨0,.hit _ _ c0⟩,⟨O+1,.miss _ _ _ _ _ _ _ Jdg Jro c1 C⟩,⟨R+1,.miss _ _ _ _ _ _ _ Jdg Jlp c1 D⟩,⟨U+1,.miss _ _ _ _ _ _ _ Jdg Jv1 c1 E⟩,⟨X+1,.miss _ _ _ _ _ _ _ Jdg Jlp c1 H⟩,⟨Z+1,.miss _ _ _ _ _ _ _ Jdg Jsi c1 K⟩⟩
theorem Ja8.errX {w:World}{y:Nat}{row z:Int}{q:Addr}(h:Ja8 w y row z (.iface 443 (.pointer (some q)))):Jny w (Qv y) q none (some row) none none none none:=by
 unfold Ja8 at h
 have c0:w.cell? ⟨y,0,none⟩=some (.int .i64 row):=by simp[World.cell?,h]
 have c2:w.cell? ⟨y,2,none⟩=some (.iface 443 (.pointer (some q))):=by simp[World.cell?,h]
 exact⟨⟨1,.wrap _ _ _ _ _ _ _ Jc8 c2 (.root q)⟩,⟨1,.miss _ _ _ _ _ _ _ Jc8 Jsq c2 (.root q)⟩,⟨0,.hit _ _ c0⟩,⟨1,.miss _ _ _ _ _ _ _ Jc8 Jnb c2 (.root q)⟩,⟨1,.miss _ _ _ _ _ _ _ Jc8 Jwk c2 (.root q)⟩,⟨1,.miss _ _ _ _ _ _ _ Jc8 Jnb c2 (.root q)⟩,⟨1,.miss _ _ _ _ _ _ _ Jc8 Js6 c2 (.root q)⟩⟩
def Jv3 (tab:ByteArray→Cs⊕Nat)(ns:List PN)(c nd row col pg:Int):Prop:=
 ∃ (j:Nat) (n:PN),nd=(j:Int)∧col=-1∧Jd7 tab ns j∧ns[j]?=some n ∧
  ((n.op=0∧∃ p:Nat,tab n.tn=.inr p∧c=7∧row=-1∧pg=(p:Int)) ∨
   (n.op≠0∧pg=-1∧∃ r:Nat,row=(r:Int)∧r<nR (Jbs n (stN tab ns j))∧Kr n.es (Ji (Jbs n (stN tab ns j)) r)≠0∧c=((Kr n.es (Ji (Jbs n (stN tab ns j)) r):Nat):Int)∧∀ i,i<r→∀ e∈n.es,∃ v,Kl e (Ji (Jbs n (stN tab ns j)) i)=.inl v))
def Jac (tab:ByteArray→Cs⊕Nat)(ns:List PN):Cs:=((stN tab ns ns.length).getLastD none).getD []
def Jnv (tab:ByteArray→Cs⊕Nat)(ns:List PN)(Y:World)(l:Value)(c nd row col pg:Int)(W:World):Prop:=
 (c=0∧nd=-1∧row=-1∧col=-1∧pg=-1∧Jd7 tab ns ns.length∧∃ g bs,l=.slice (some ⟨g,0,none⟩) (nR (Jac tab ns)) (nR (Jac tab ns))∧Jcu W Y.heap.size g bs (Qf (nR (Jac tab ns)) (Jac tab ns))) ∨
 (l=.slice none 0 0∧Jv3 tab ns c nd row col pg)
def Ye (y:DS)(Ts:List TS)(n:ByteArray):Cs⊕Nat:=(Jcm y Ts n).getD (.inr 0)
def Jhd (Ts:List TS)(n:ByteArray):List Int:=(Ts[Ub Ts n]?.map TS.types).getD []
theorem Juy {tys:ByteArray→List Int}{A:List (List Int)}{ns:List PN}(h:Jdk tys A ns){tab:ByteArray→Cs⊕Nat}(E:∀ n∈ns,n.op=0→∀ cs,tab n.tn=.inl cs→Zt (tys n.tn) cs)(hf:Jd7 tab ns ns.length):∃ sch,A[ns.length-1]?=some sch∧Zt sch (Jac tab ns):=by
 have C:=h.one
 have y:=Jqw h E ns.length (Oa2 _) hf
 have D:=Jhh tab ns ns.length (Oa2 _)
 have H:flN ns ns.length (ns.length-1)=false:=by
  have:=h.unnamed (ns.length-1)
  rwa [Nat.sub_add_cancel C]at this
 obtain⟨cs,z⟩:=y.there (ns.length-1) (by omega) H
 obtain⟨sch,K,M⟩:=y.good _ cs z
 refine⟨sch,K,?_⟩
 have:Jac tab ns=cs:=by
  unfold Jac
  rw[Ok7,Om6,D,z]
  rfl
 rw[this]
 exact M
theorem Jr5 (cG:Nat→Prop)(st:Nat)(y:DS)(Ts:List TS)(w:World)(h:Sto cG w st y Ts)(cC:∀ T∈Ts,Jid y T)(de:∀ T∈Ts,∀ cs,Zo y T=.inl cs→Zt T.types cs)(bU bI bJ bH q wr pg ch ex dw:Addr)(D:Jax w bU bI bJ bH q wr pg ch ex dw)
  (ns:List PN) (cF:List (List Int)) (bA:Jdk (Jhd Ts) cF ns) (bW:∀ n∈ns,n.op=0→Ub Ts n.tn<Ts.length) (di:Jd7 (Ye y Ts) ns ns.length→nR (Jac (Ye y Ts) ns)≤10000)
  (bO no cc:Nat) (bl:List Nd) (bN:bl.length=ns.length) (cy:∀ (j:Nat) (nd:Nd),bl[j]?=some nd→Zm w bO (no+j*7) nd) (hI:∀ (j:Nat) (n:PN) (nd:Nd),ns[j]?=some n→bl[j]?=some nd→Jnm w n nd) (bx:Nat) (bh bf cn:Int) (ds:1≤bx) (dt:bx≤1000) (db:2≤bh) (dc:bh≤1000) (dg:0≤bf) (dh:bf≤4096) :
  Calls prog 10 #[.pointer (some ⟨st,0,none⟩),.agg #[.slice (some ⟨bO,no,none⟩) ns.length cc],.agg #[.int .i64 bx,.int .i64 bh,.int .i64 bf,.int .i64 cn]] w fun e w'=>Below w.heap.size w w'∧∃ Y l c nd row col pg,Below w.heap.size w Y∧e=.returned (.tuple #[l,Ko c nd row col pg])∧Jnv (Ye y Ts) ns Y l c nd row col pg w':=by
 obtain⟨⟨d,s,F,G,sv,bs,cS,cu,cT,dB,dC,dD,dE,dG,dH,dA,dI⟩,dK⟩:=h
 obtain⟨U,X,cr,cE,O,dM⟩:=D.m3
 have dL:=bA.one
 have dJ:=bA.few
 have dp:∀ n∈ns,n.op=0→∀ z,Below w.heap.size w z→Calls prog 42 #[.pointer (some ⟨s,0,none⟩),.string n.tn] z fun e w'=>Below z.heap.size z w'∧∃ g c,e=.returned (.tuple #[.slice (some ⟨g,0,none⟩) (Jhd Ts n.tn).length c,.bool true])∧z.heap.size≤g∧g<w'.heap.size∧Kc w' (some ⟨g,0,none⟩) (Jhd Ts n.tn):=fun n hn h0 z K=>by
  have A:=bW n hn h0
  have da:=Ob3 A
  have bz:Jhd Ts n.tn=Ts[Ub Ts n.tn].types:=by unfold Jhd;rw[Oa3 A];rfl
  rw[bz]
  have cz:=(cC _ da).cols
  exact Kbe n.tn z G s d Ts sv bs (cu.below K) (Ub Ts n.tn) rfl A (fun e=>by rw[e]at cz;simp at cz) (by omega)
 have dm:∀ n∈ns,n.op=0→Jcm y Ts n.tn=some (Ye y Ts n.tn):=fun n hn h0=>by
  have A:=bW n hn h0
  unfold Ye Jcm
  rw[Oa3 A]
  rfl
 have cD:∀ n∈ns,n.op=0→∀ cs,Ye y Ts n.tn=.inl cs→Zt (Jhd Ts n.tn) cs:=fun n hn h0 cs dd=>by
  have A:=bW n hn h0
  have bz:Jhd Ts n.tn=Ts[Ub Ts n.tn].types:=by unfold Jhd;rw[Oa3 A];rfl
  have bV:Ye y Ts n.tn=Zo y Ts[Ub Ts n.tn]:=by unfold Ye Jcm;rw[Oa3 A];rfl
  rw[bz]
  exact de _ (Ob3 A) cs (bV.symm.trans dd)
 have cX:Jdo w U X:=⟨O.cd,O.co⟩
 have dq:=fun z (K:Below w.heap.size w z)=>Jr6 bO no cc s d bl bx bh bf cn (PSp (Ye y Ts) ns) (ERp (Ye y Ts) ns U X pg)
  (fun v W=>∃ (B:Nat) (bc:List Sch),Jo W B 22 v (bc.map Jbl)∧bc.map (fun x=>x.2.2)=cF∧∀ x∈bc,Kc W x.1 x.2.2) z (fun j nd R=>(cy j nd R).below K) (by omega) (by omega) (by omega) (by omega) db dc dg dh
  (fun Y bX=>by
   have M:=Jb K bX
   refine(Jvh bA bO no cc bl bN s Y (fun j nd R=>(cy j nd R).below M) (fun j n nd R df=>(hI j n nd R df).below M) (fun n hn h0 bT bY=>dp n hn h0 bT (Jb M bY))).mono fun e w' E=>?_
   obtain⟨bc,sv',rfl,Z,H,C,ci⟩:=E
   obtain⟨a,c,rfl⟩:=Jcz H
   exact⟨a,_,c,rfl,Z,_,bc,H,C,ci⟩)
  (fun v W cH bi cZ=>by
   obtain⟨B,bc,Z,H,C⟩:=cZ
   exact⟨B,bc,Jl Z fun g e=>bi.block g (Je Z e).2,H,fun x dr=>(C x dr).below bi⟩)
  (fun Y dv bX _ j nd R=>by
   have M:=Jb K bX
   have cA:j<ns.length:=by rw[←bN];exact(Ob9.1 R).1
   have hn:ns[j]?=some ns[j]:=Oa3 cA
   refine Ka3 bA cD hn ((hI j _ nd hn R).below M) s bx bh bf _ _ dv U X bH pg ds dt (fun h0 bT bY=>?_) (cX.below M)
   have bB:=Jb M bY
   rw[←dm _ (Ob3 cA) h0]
   exact Jou _ bT F G s d y Ts sv bs (cu.below bB) (cT.below bB) cC bU bI bJ (D.e.below bB) bH pg (D.m.below bB).cp (D.m.below bB).ct)
  (fun j v W cH bi bC=>bC.below bi) ⟨by simp[stN],fun k m A=>absurd A (Oe0 _)⟩
 rw[←bN]
 refine Kc0 st d s _ bx bh bf cn w cS (fun z a b W=>Jx8 bl.length (PSp (Ye y Ts) ns) (ERp (Ye y Ts) ns U X pg) z (.returned (.tuple #[a,b])) W) (Jnv (Ye y Ts) ns) (fun z K=>(dq z K).mono fun e w' E=>?_) (fun z a b Y K M E=>?_) (fun Y l c nd row col bD dx dy dN A cb=>?_)
 ·obtain⟨Z,⟨x,cI,rfl,H,C⟩|⟨j,v,cP,rfl,H,C,ci⟩⟩:=id E
  ·exact⟨Z,_,_,rfl,E⟩
  exact⟨Z,_,_,rfl,E⟩
 ·have bL:=Jb K M
  obtain⟨_,⟨x,cI,bC,H,C⟩|⟨j,v,cP,bC,H,C,ci⟩⟩:=E
  ·cases bC
   rw[bN]at C
   have ca:Jac (Ye y Ts) ns=x.2.2:=by
    unfold Jac
    rw[←C.1,Ob8]
    simp
   obtain⟨sch,_,bM⟩:=Juy bA cD C.2
   have cB:=di C.2
   rw[ca]at bM cB
   refine(Jrn x.1 x.2.1 x.2.2 (nR x.2.2) Y H bM.rows bM.one bM.few cB).mono fun e w' E=>?_
   obtain⟨cf,cQ,bs',rfl,du⟩:=E
   refine⟨cf,_,0,-1,-1,-1,-1,rfl,.inl ⟨rfl,rfl,rfl,rfl,rfl,C.2,cQ,bs',?_,?_⟩⟩
   ·rw[ca]
   rw[ca];exact du
  cases bC
  have cY:∃ (c row bD:Int) (a:Addr) (bS bQ bR:Option Int),Jny Y v a none bS bQ bR none none∧Jby bI bJ bH q wr pg ch ex U X cr cE a=c∧(∃ c t,Y.heap[a.block]?=some (.cells c t (0,0)))∧(bS.or none).getD (-1)=row∧(bQ.or none).getD (-1)=-1∧bR.getD (-1)=bD∧Jv3 (Ye y Ts) ns c (j:Int) row (-1) bD:=by
   have bj:=D.m.nd
   have dj:=D.m2.np
   have dk:=D.m2.ne
   have cv:=O.nd
   have cx:=O.no
   have cU:=O.ng
   have cV:=O.nm
   simp only[Og0,Of1,Oi0,or_false,not_or]at bj dj dk cv cx cU cV
   obtain⟨bZ,n,hn,⟨bn,p,b,cj,bE,br⟩|⟨bn,dz,kk,r,bE,br,bG,bu,bP⟩⟩:=C
   ·refine⟨7,-1,p,pg,none,some (-1),some (p:Int),br.errV,?_,Kg bL D.m.bp,rfl,rfl,rfl,j,n,rfl,rfl,bZ,hn,.inl ⟨bn,p,cj,rfl,rfl,rfl⟩⟩
    unfold Jby
    simp[Ne.symm bj.2.1.2.2.2.2,Ne.symm bj.2.2.1.2.2.2,Ne.symm bj.2.2.2.1.2.2,Ne.symm bj.2.2.2.2.1.2,Ne.symm bj.2.2.2.2.2.1]
   rcases Jjy n.es (Ji (Jbs n (stN (Ye y Ts) ns j)) r)with e0|e9|e10
   ·exact absurd e0 bG
   ·rw[e9]at bu
    refine⟨9,r,-1,U,some (r:Int),none,none,by rw[bE];exact Ja8.errX bu,?_,Kg bL O.bd,rfl,rfl,rfl,j,n,rfl,rfl,bZ,hn,.inr ⟨bn,rfl,r,rfl,br,bG,by rw[e9];rfl,bP⟩⟩
    unfold Jby
    simp[cv]
   rw[e10]at bu
   refine⟨10,r,-1,X,some (r:Int),none,none,by rw[bE];exact Ja8.errX bu,?_,Kg bL O.bo,rfl,rfl,rfl,j,n,rfl,rfl,bZ,hn,.inr ⟨bn,rfl,r,rfl,br,bG,by rw[e10];rfl,bP⟩⟩
   unfold Jby
   simp[cx]
  obtain⟨c,row,bD,a,bS,bQ,bR,bz,bV,cJ,cK,cM,cN,cO⟩:=cY
  have cW:=bz.plan H
  refine(Jhu (.slice none 0 0) _ c (j:Int) row (-1) bD Y ⟨_,_,rfl⟩ (fun W hW=>?_)).mono fun e w' E=>?_
  ·have bK:=Jb bL hW
   have:=Jic _ a (some (j:Int)) bS bQ bR none none W (cW.below hW) (Kg hW cJ) bU bI bJ bH q wr pg ch ex U X cr cE (D.e.below bK) (D.m.below bK) (D.m2.below bK) (O.below bK)
   rw[bV,cK,cM,cN]at this
   exact this
  obtain⟨rfl,cf⟩:=E
  exact⟨cf,_,_,_,_,_,_,rfl,.inr ⟨rfl,cO⟩⟩
 rcases cb with⟨bn,cj,bE,br,bG,bu,g,bs',bP,cl⟩|cb
 ·refine .inl ⟨bn,cj,bE,br,bG,bu,g,bs',bP,cl.of_blocks (A g cl.from_.1) fun b bi=>A b (cl.from_.2 b bi).1⟩
 exact .inr cb
attribute [local go_sem] Oc0
theorem Jor (n:ByteArray)(w:World):Calls prog 11 #[.string n] w fun e w'=>e=.returned (Nd.val ⟨0,0,0,n,(none,0,0),(none,0,0),0⟩)∧Below w.heap.size w w':=by
 go_enter func11,ntmps11
 go_wp2
 exact bodyPost_ret (v:=Nd.val ⟨0,0,0,n,(none,0,0),(none,0,0),0⟩) (by simp[results,results11,go_sem]) rfl ⟨rfl,Jc (Oa5 _ _) _⟩
theorem Kbg (w:World):Calls prog 19 #[] w fun e w'=>e=.returned (.agg #[.int .i64 1000,.int .i64 1000,.int .i64 0,.int .i64 0])∧Below w.heap.size w w':=by
 go_enter func19,ntmps19
 go_wp2
 exact bodyPost_ret (v:=.agg #[.int .i64 1000,.int .i64 1000,.int .i64 0,.int .i64 0]) (by simp[results,results19,go_sem]) rfl ⟨rfl,Jc (Oa5 _ _) _⟩
theorem Jxv (c nd row:Int)(w:World):Calls prog 14 #[.int .i64 c,.int .i64 nd,.int .i64 row] w fun e w'=>e=.returned (Ko c nd row (-1) (-1))∧Below w.heap.size w w':=by
 go_enter func14,ntmps14
 go_upto_region 5 with(go_at_call 17;refine(Jfu _).mono ?_;rintro bc A ⟨rfl,C⟩)
 have E:=heap_alloc_new w (.cells #[.int .i64 0,.int .i64 0,.int .i64 0,.int .i64 0,.int .i64 0] 40)
 have H:=(C.block _ (Jd E)).trans E
 have hn:=heap_alloc_new A (.cells #[.int .i64 c,.int .i64 nd,.int .i64 row,.int .i64 (-1),.int .i64 (-1)] 40)
 have z:=(Oa9 A (.cells #[.int .i64 c,.int .i64 nd,.int .i64 row,.int .i64 (-1),.int .i64 (-1)] 40) _ (Jd H)).trans H
 have D:Below w.heap.size w (A.alloc (.cells #[.int .i64 c,.int .i64 nd,.int .i64 row,.int .i64 (-1),.int .i64 (-1)] 40)):=Jc (Jb (Jc (Oa5 _ _) _) C) _
 obtain⟨b,K⟩:∃ b,b=A.heap.size:=⟨_,rfl⟩
 rw[←K]at hn ⊢
 clear K E H C
 generalize A.alloc (.cells #[.int .i64 c,.int .i64 nd,.int .i64 row,.int .i64 (-1),.int .i64 (-1)] 40)=y at hn z D ⊢
 have bn:y.cell? ⟨b,0,none⟩=some (.int .i64 c):=by simp[World.cell?,hn]
 have br:y.cell? ⟨b,1,none⟩=some (.int .i64 nd):=by simp[World.cell?,hn]
 have bu:y.cell? ⟨b,2,none⟩=some (.int .i64 row):=by simp[World.cell?,hn]
 have bx:y.cell? ⟨b,3,none⟩=some (.int .i64 (-1)):=by simp[World.cell?,hn]
 have bz:y.cell? ⟨b,4,none⟩=some (.int .i64 (-1)):=by simp[World.cell?,hn]
 have O:y.cell? ⟨w.heap.size,0,none⟩=some (.int .i64 0):=by simp[World.cell?,z]
 have R:y.cell? ⟨w.heap.size,1,none⟩=some (.int .i64 0):=by simp[World.cell?,z]
 have U:y.cell? ⟨w.heap.size,2,none⟩=some (.int .i64 0):=by simp[World.cell?,z]
 have X:y.cell? ⟨w.heap.size,3,none⟩=some (.int .i64 0):=by simp[World.cell?,z]
 have Z:y.cell? ⟨w.heap.size,4,none⟩=some (.int .i64 0):=by simp[World.cell?,z]
 have bf:y.frozen? ⟨w.heap.size,0,none⟩=false:=by simp[World.frozen?,z]
 have bh:y.frozen? ⟨w.heap.size,1,none⟩=false:=by simp[World.frozen?,z]
 have bi:y.frozen? ⟨w.heap.size,2,none⟩=false:=by simp[World.frozen?,z]
 have bj:y.frozen? ⟨w.heap.size,3,none⟩=false:=by simp[World.frozen?,z]
 have bl:y.frozen? ⟨w.heap.size,4,none⟩=false:=by simp[World.frozen?,z]
 have M:Hid _:=D
 clear hn z D
 go_wp2
 exact bodyPost_ret (v:=Ko c nd row (-1) (-1)) (by simp[results,results14,go_sem,O,R,U,X,Z]) rfl ⟨rfl,((((M.out.setCell (p:=⟨w.heap.size,0,none⟩) (Oa2 _) _).setCell (p:=⟨w.heap.size,1,none⟩) (Oa2 _) _).setCell (p:=⟨w.heap.size,2,none⟩) (Oa2 _) _).setCell (p:=⟨w.heap.size,3,none⟩) (Oa2 _) _).setCell (p:=⟨w.heap.size,4,none⟩) (Oa2 _) _⟩
end Go.Proofs.YtjjdldddcegjiaaGreatDoor
