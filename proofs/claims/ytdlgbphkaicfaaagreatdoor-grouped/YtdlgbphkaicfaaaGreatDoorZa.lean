/- Plans as they are meant: nodes, their schemas, what they tell; a plan's check. -/
import Derived.Test.YtdlgbphkaicfaaaGreatDoorXz
import Derived.Test.YtdlgbphkaicfaaaGreatDoorYf
import Derived.Test.YtdlgbphkaicfaaaGreatDoorHf
import Derived.Test.YtdlgbphkaicfaaaGreatDoorGp
namespace Go.Proofs.YtdlgbphkaicfaaaGreatDoor
open Go.RowKit Go.Shelf Tryz
structure PN where
 op:Nat
 l:Nat
 tn:ByteArray
 es:List (List Pt)
 gk:List Krv
 r:Nat
 kk:Int
def Jg7 (n:PN):List Nat:=if n.op=0 then []else [n.l]
def flN (ns:List PN)(j i:Nat):Bool:=(ns.take j).any fun n=>(Jg7 n).contains i
theorem Jtp {ns:List PN}{j:Nat}{n:PN}(h:ns[j]?=some n)(i:Nat):flN ns (j+1) i=(flN ns j i||(Jg7 n).contains i):=by
 unfold flN
 rw[Oi7,h]
 simp
structure Jnm (w:World) (n:PN) (nd:Nd):Prop where
 op:nd.op=(n.op:Int)
 l:nd.l=(n.l:Int)
 tn:nd.tn=n.tn
 es:n.op=1∨n.op=2→∃ eb eo ec,nd.xs=(some ⟨eb,eo,none⟩,n.es.length,ec)∧n.es.length≤ec∧Jaz w eb eo n.es
 gk:n.op=4→∃ kb ko kc,nd.ky=(some ⟨kb,ko,none⟩,n.gk.length,kc)∧Klj w kb ko n.gk
theorem Jb0 {w:World}{b o:Nat}{v:Value}(h:w.cell? ⟨b,o,none⟩=some v):b<w.heap.size:=by
 unfold World.cell? at h
 cases e:w.heap[b]? with
 |none=>simp[e]at h
 |some x=>exact(Oe2.1 e).1
theorem Zx {B:Nat}{w w':World}{b o:Nat}{v:Value}(A:∀ k,k<B→w'.heap[k]?=w.heap[k]?)(h:w.cell? ⟨b,o,none⟩=some v)(y:b<B):w'.cell? ⟨b,o,none⟩=some v:=by
 rw[←h]
 simp only[World.cell?,A b y]
theorem Jaz.under {w w':World}{A eo:Nat}{D:List (List Pt)}(h:Jaz w A eo D)(y:∀ k,k<w.heap.size→w'.heap[k]?=w.heap[k]?):Jaz w' A eo D:=fun j es X=>by
 obtain⟨ba,bc,bb,h1,h2⟩:=h j es X
 refine⟨ba,bc,bb,Zx y h1 (Jb0 h1),fun k p Z=>?_⟩
 obtain⟨E,H,K,M,O,R,U⟩:=h2 k p Z
 exact⟨Zx y E (Jb0 E),Zx y H (Jb0 H),Zx y K (Jb0 K),Zx y M (Jb0 M),Zx y O (Jb0 O),Zx y R (Jb0 R),Zx y U (Jb0 U)⟩
theorem Klj.under {w w':World}{kb ko:Nat}{ks:List Krv}(h:Klj w kb ko ks)(y:∀ k,k<w.heap.size→w'.heap[k]?=w.heap[k]?):Klj w' kb ko ks:=fun j k K=>by
 obtain⟨A,D,E,H⟩:=h j k K
 exact⟨Zx y A (Jb0 A),Zx y D (Jb0 D),Zx y E (Jb0 E),Zx y H (Jb0 H)⟩
theorem Jnm.under {w w':World}{n:PN}{nd:Nd}(h:Jnm w n nd)(y:∀ k,k<w.heap.size→w'.heap[k]?=w.heap[k]?):Jnm w' n nd:=
 ⟨h.op,h.l,h.tn,fun h0=>by
  obtain⟨A,eo,D,h1,h2,E⟩:=h.es h0
  exact⟨A,eo,D,h1,h2,E.under y⟩,fun h0=>by
  obtain⟨kb,ko,H,h1,h2⟩:=h.gk h0
  exact⟨kb,ko,H,h1,h2.under y⟩⟩
theorem Jnm.below {w w':World}{n:PN}{nd:Nd}(h:Jnm w n nd)(y:Below w.heap.size w w'):Jnm w' n nd:=h.under fun k A=>y.block k A
structure Kik (tys:ByteArray→List Int) (scs:List (List Int)) (n:PN) (sch:List Int):Prop where
 le:n.op≤2∨n.op=4
 scan:n.op=0→sch=tys n.tn
 filt:n.op=1→scs[n.l]?=some sch∧∃ e,n.es=[e]∧Uj sch e∧1≤e.length∧e.length≤12∧Jbk sch e=2
 proj:n.op=2→∃ sc,scs[n.l]?=some sc∧sch=n.es.map (Jbk sc)∧1≤n.es.length∧n.es.length≤6∧∀ e∈n.es,Uj sc e∧1≤e.length∧e.length≤12
 grp:n.op=4→∃ sc ky,scs[n.l]?=some sc∧sch=n.gk.map (tyK sc)∧n.es=[]∧n.gk.length≤4∧(∀ k∈n.gk,Kn7 sc k)∧n.gk[0]?=some ky∧ky.f=0
structure Jdk (tys:ByteArray→List Int) (scs:List (List Int)) (ns:List PN):Prop where
 len:scs.length=ns.length
 ok:∀ (j:Nat) (n:PN),ns[j]?=some n→∃ sch,scs[j]?=some sch∧Kik tys scs n sch
 ahead:∀ (j:Nat) (n:PN),ns[j]?=some n→∀ i∈Jg7 n,i<j∧flN ns j i=false
 all:∀ i,i+1<ns.length→flN ns ns.length i=true
 one:1≤ns.length
 few:ns.length≤12
theorem Jdk.unnamed {tys:ByteArray→List Int}{A:List (List Int)}{ns:List PN}(h:Jdk tys A ns)(j:Nat):flN ns (j+1) j=false:=by
 unfold flN
 rw[List.any_eq_false]
 intro n hn
 obtain⟨i,hi⟩:=Ok2.1 hn
 rw[Oe7]at hi
 split at hi
 ·intro y
  have:=(h.ahead i n hi j (by simpa using y)).1
  omega
 cases hi
theorem Kaf {w W y:World}{ev:Value}(A:Below w.heap.size w W)(E:∀ g,ev.ownBlock=some g→w.heap.size≤g)(H:W.grownBy y ev.ownBlock):∀ k,k<w.heap.size→y.heap[k]?=w.heap[k]?:=fun k D=>by
 rw[H.block k (Oc2 D A.size) (fun e=>by have:=E k e.symm;omega)]
 exact A.block k D
theorem Koi {tys:ByteArray→List Int}{D:List (List Int)}{ns:List PN}(h:Jdk tys D ns){j:Nat}{n:PN}(A:ns[j]?=some n){nd:Nd}{w:World}(hi:Jnm w n nd)(h0:n.op=0)(s:Nat)
  (Z:∀ y,Below w.heap.size w y→Calls prog 32 #[.pointer (some ⟨s,0,none⟩),.string n.tn] y fun e w'=>Below y.heap.size y w'∧∃ g c,e=.returned (.tuple #[.slice (some ⟨g,0,none⟩) (tys n.tn).length c,.bool true])∧y.heap.size≤g∧g<w'.heap.size∧Kc w' (some ⟨g,0,none⟩) (tys n.tn)) :
  Jvz w (.func (.func 32) #[.pointer (some ⟨s,0,none⟩)] #[]) D (flN ns) nd j:=by
 obtain⟨sch,hs,ok⟩:=h.ok j n A
 refine⟨by rw[hi.op];omega,by rw[hi.op];omega,sch,hs,fun W ev ks M ba E H=>?_⟩
 have O:Jm5 nd.op=96:=by rw[hi.op,h0];rfl
 rw[O]
 have X:=ok.scan h0
 have:=Kc7 (w.heap.size+2) (w.heap.size+1) s ev ks nd sch W E fun y K=>by
  have:=Z y (Jb M K)
  rw[hi.tn,X]
  exact this
 refine this.mono fun e W' U=>⟨ks,rfl,fun i k R=>?_,U⟩
 rw[Jtp A,H.flg i k R]
 simp[Jg7,h0]
theorem Km2 {tys:ByteArray→List Int}{H:List (List Int)}{ns:List PN}(h:Jdk tys H ns){j:Nat}{n:PN}(K:ns[j]?=some n){nd:Nd}{w:World}(hi:Jnm w n nd)(h0:n.op≠0)(M:Value)(sch:List Int)(hs:H[j]?=some sch)
  (Z:∀ W ev (ks:List Kn),Below w.heap.size w W→(∀ g,ev.ownBlock=some g→w.heap.size≤g)→Jed (w.heap.size+2) (w.heap.size+1) M ev ks W→∀ D:n.l<ks.length,ks[n.l].2=false→H[n.l]?=some ks[n.l].1.2.2 →
   Calls prog (Jm5 nd.op) #[.pointer (some ⟨w.heap.size+1,0,none⟩),nd.val] W (Jq3 (w.heap.size+2) (w.heap.size+1) M ev (ks.set n.l (ks[n.l].1,true)) sch W)) :
  Jvz w M H (flN ns) nd j:=by
 obtain⟨_,_,ok⟩:=h.ok j n K
 have bn:=ok.le
 refine⟨by rw[hi.op];omega,by rw[hi.op];omega,sch,hs,fun W ev ks X ba U E=>?_⟩
 have bj:=Jtp K
 have R:Jg7 n=[n.l]:=by unfold Jg7;rw[if_neg h0]
 obtain⟨bh,bb⟩:=h.ahead j n K n.l (by rw[R];exact Oc6.2 rfl)
 have D:n.l<ks.length:=by rw[E.len];exact bh
 have O:ks[n.l]?=some ks[n.l]:=Oa3 D
 have bf:ks[n.l].2=false:=by rw[E.flg n.l _ O];exact bb
 have bl:=E.sch n.l _ O
 have bi:(ks.set n.l (ks[n.l].1,true)).map (·.1)=ks.map (·.1):=by
  rw[Op0]
  apply Oi8
  intro i
  rw[Op2]
  by_cases y:n.l=i
  ·subst y
   rw[if_pos rfl]
   simp[D]
  rw[if_neg y]
 have bc:∀ (i:Nat) (k:Kn),(ks.set n.l (ks[n.l].1,true))[i]?=some k→k.2=flN ns (j+1) i:=fun i k A=>by
  rw[bj,R]
  rw[Op2]at A
  by_cases y:n.l=i
  ·subst y
   rw[if_pos rfl]at A
   simp only[D,if_true]at A
   cases A
   simp
  rw[if_neg y]at A
  rw[E.flg i k A]
  have:([n.l]:List Nat).contains i=false:=by simp;exact fun e=>y e.symm
  rw[this,Bool.or_false]
 exact(Z W ev ks X ba U D bf bl).mono fun e W' bk=>⟨_,bi,bc,bk⟩
theorem Kne {tys:ByteArray→List Int}{H:List (List Int)}{ns:List PN}(h:Jdk tys H ns){j:Nat}{n:PN}(D:ns[j]?=some n){nd:Nd}{w:World}(hi:Jnm w n nd)(h2:n.op=2)(K:Value):Jvz w K H (flN ns) nd j:=by
 obtain⟨sch,hs,ok⟩:=h.ok j n D
 refine Km2 h D hi (by omega) K sch hs fun W ev ks X ba O bc bb bf=>?_
 obtain⟨A,eo,M,bh,br,bi⟩:=hi.es (.inr h2)
 have R:∀ y,W.grownBy y ev.ownBlock→Jaz y A eo n.es:=fun y U=>bi.under (Kaf X ba U)
 have Z:Jm5 nd.op=98:=by rw[hi.op,h2];rfl
 rw[Z]
 obtain⟨bu,E,bj,bk,bl,bn⟩:=ok.proj h2
 rw[bf]at E
 cases E
 rw[bj]
 exact Jsy (w.heap.size+2) (w.heap.size+1) _ ev ks nd n.l n.es A eo M W O hi.l bc bb bh bk bl R bn
theorem Knx {tys:ByteArray→List Int}{H:List (List Int)}{ns:List PN}(h:Jdk tys H ns){j:Nat}{n:PN}(D:ns[j]?=some n){nd:Nd}{w:World}(hi:Jnm w n nd)(A:n.op=4)(K:Value):Jvz w K H (flN ns) nd j:=by
 obtain⟨sch,hs,ok⟩:=h.ok j n D
 refine Km2 h D hi (by omega) K sch hs fun W ev ks U Z M bb ba bc=>?_
 obtain⟨kb,ko,bi,bf,bh⟩:=hi.gk A
 have O:∀ y,W.grownBy y ev.ownBlock→Klj y kb ko n.gk:=fun y R=>bh.under (Kaf U Z R)
 have X:Jm5 nd.op=100:=by rw[hi.op,A];rfl
 rw[X]
 obtain⟨br,ky,E,bj,_,bk,bl,bn,_⟩:=ok.grp A
 rw[bc]at E
 cases E
 rw[bj]
 exact Kp8 (w.heap.size+2) (w.heap.size+1) _ ev ks nd n.l n.gk kb ko bi W M hi.l bb ba bf (by have:=(Ob9.1 bn).1;omega) bk O bl
theorem Jvh {tys:ByteArray→List Int}{A:List (List Int)}{ns:List PN}(h:Jdk tys A ns)(E no M:Nat)(y:List Nd)(D:y.length=ns.length)(s:Nat)(w:World)(O:∀ (j:Nat) (nd:Nd),y[j]?=some nd→Zm w E (no+j*7) nd)
  (U:∀ (j:Nat) (n:PN) (nd:Nd),ns[j]?=some n→y[j]?=some nd→Jvz w (.func (.func 32) #[.pointer (some ⟨s,0,none⟩)] #[]) A (flN ns) nd j) :
  Calls prog 31 #[.agg #[.slice (some ⟨E,no,none⟩) y.length M],.func (.func 32) #[.pointer (some ⟨s,0,none⟩)] #[]] w fun e w'=>∃ (H:List Sch) (sv:Value),e=.returned (.tuple #[sv,.nilIface])∧Below w.heap.size w w'∧Jo w' (w.heap.size+2) 22 sv (H.map Jbl)∧H.map (·.2.2)=A∧∀ s∈H,Kc w' s.1 s.2.2:=by
 have h1:=h.one
 have h2:=h.few
 refine Jrc E no M y 32 _ A (flN ns) w O (by omega) (by omega) (by rw[h.len,D]) (fun j nd K=>?_) h.unnamed (fun i hi=>by rw[D]at hi ⊢;exact h.all i hi)
 have R:j<ns.length:=by rw[←D];exact(Ob9.1 K).1
 exact U j _ nd (Oa3 R) K
end Go.Proofs.YtdlgbphkaicfaaaGreatDoor
