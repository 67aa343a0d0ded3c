/- Run: the nodes scan, filter, project at work. -/
import Derived.Test.YtdlgbphkaicfaaaGreatDoorXy
namespace Go.Proofs.YtdlgbphkaicfaaaGreatDoor
open Go.RowKit Go.Shelf Tryz
attribute [local go_sem] Oc0
theorem Jd6.take {L R:Nat}{z bb ba:Int}{bj bk bf bi D:Value}{A:List Dn}{W:World}(h:Jd6 L R z bb ba bj bk bf bi D A W){i:Nat}{x:Nat×List (Option Addr×Nat)×List (List V)}(hi:A[i]?=some (some x)) :
  ∃ y K,D=.slice (some ⟨y,0,none⟩) A.length K∧i<A.length∧L≤y∧y<W.heap.size∧W.cell? ⟨y,i,none⟩=some (.slice (some ⟨x.1,0,none⟩) x.2.2.length x.2.2.length)∧W.frozen? ⟨y,i,none⟩=false∧Jfk R D x W ∧
   ∀ W',W.grownBy W' (some y)→W'.heap[y]?=Jdc W y i→Jd6 L R z bb ba bj bk bf bi D (A.set i none) W':=by
 have bu:i<A.length:=(Ob9.1 hi).1
 have bx:=h.low
 rcases h.own with⟨bG,⟨H,M⟩|⟨y,K,bc,H,M,O,bh,bD,bE,Z⟩⟩
 ·rw[Oa6]at M;omega
 rw[Oa6]at H bh
 have br:bc[i]?=some (dnV (some x)):=by
  have E:(A.map dnV)[i]?=some (dnV (some x)):=by rw[Ob1,hi];rfl
  rw[←Z,Oe7]at E
  split at E
  ·rw[Oe6]at E;exact E
  cases E
 have bz:some x∈A:=Of6 hi
 have bA:D.ownBlock=some y:=by rw[H];rfl
 refine⟨y,K,H,bu,M,Jd O,?_,by simp[World.frozen?,O],h.cols x bz,fun W' X U=>?_⟩
 ·simp only[World.cell?,O]
  exact br
 have hs:=Jk O i (.slice none 0 0)
 unfold Jdc at U
 rw[hs]at U
 refine⟨(X.block R (Jd h.run) (fun e=>by cases e;omega)).trans h.run,⟨?_,.inr ⟨y,K,bc.setIfInBounds i (.slice none 0 0),?_,M,U,?_,bD,?_,?_⟩⟩,fun bl bB=>?_,bx⟩
 ·rw[Oa6,Of8];omega
 ·rw[Oa6,Of8];exact H
 ·rw[Oa6,Of8];exact bh
 ·simpa using bE
 ·rw[Oa6,Of8,Ok0,List.take_set]
  rw[Oa6]at Z
  rw[Z,Op0]
  rfl
 have bC:some bl∈A:=by
  rcases List.mem_or_eq_of_mem_set bB with h|h
  ·exact h
  ·cases h
 exact(h.cols bl bC).move X.size fun b h1 h2 bn=>⟨X.block b bn (fun e=>h2 (bA.trans e.symm)),h2⟩
theorem Jgr {y:Nat}{w w':World}(h:Ju (·=y) w w'):w.grownBy w' (some y):=⟨h.os,h.tape,h.output,h.size,fun k A D=>h.block k A fun e=>D (by rw[show k=y from e])⟩
def slH (v:Value):Option Addr×Nat:=match v with|.slice a _ c=>(a,c)|_=>(none,0)
theorem Jo6 {w:World}{B g:Nat}{A:List Value}{cs:List (List V)}(h:Jar w B g A cs):Qd w g (A.map slH) cs∧∀ j,j<cs.length→∀ b o,(Yo (A.map slH) j).1=some ⟨b,o,none⟩→B≤b∧b<w.heap.size:=by
 have H:∀ j,j<cs.length→Yo (A.map slH) j=slH (Uq A j):=fun j y=>by
  unfold Yo Uq
  rw[Oa0,Oa0,Ob1,Oa3 (by rw[h.len];exact y)]
  rfl
 have D:∀ j,j<cs.length→Uq A j=.slice (Yo (A.map slH) j).1 (cs.getD j []).length (Yo (A.map slH) j).2∧Jv w (Yo (A.map slH) j).1 (cs.getD j [])∧(cs.getD j []).length≤(Yo (A.map slH) j).2:=fun j y=>by
  obtain⟨a,cap,e,K⟩:=(h.own j y).vals
  rw[H j y,e]
  refine⟨rfl,K,?_⟩
  rcases h.own j y with⟨_,⟨h1,h2⟩|⟨O,M,_,h1,_,_,E,_⟩⟩
  ·rw[h2];exact Ob7 _
  rw[e]at h1
  cases h1
  exact E
 refine⟨⟨?_,fun j y=>(D j y).2.1,fun j y=>(D j y).2.2⟩,fun j y b o e=>?_⟩
 ·rw[←h.len]
  exact h.row.congr fun j y=>(D j (by rw[←h.len];exact y)).1
 refine Je (h.own j y) ?_
 rw[(D j y).1,e]
 rfl
def Khw (L H:Nat)(z M K:Int)(ba bb O Z A:Value)(R:List Dn)(l:Nat)(U X:Addr)(y:List (List Pt))(cols:List (List V))(N:Nat)(W:World):Ending→World→Prop:=fun E W'=>W.grownBy W' A.ownBlock ∧
 ((∃ (g:Nat) (hs:List (Option Addr×Nat)),E=.returned (.tuple #[dnV (some (g,hs,y.map fun e=>(List.range N).map fun i=>pv1 e (Ji cols i))),.nilIface])∧Jd6 L H z M K ba bb O Z A (R.set l none) W'∧Jfk H A (g,hs,y.map fun e=>(List.range N).map fun i=>pv1 e (Ji cols i)) W'∧∀ i,i<N→∀ e∈y,∃ v,Kl e (Ji cols i)=.inl v) ∨
  (∃ D kk r:Nat,E=.returned (.tuple #[.slice none 0 0,Qv D])∧r<N∧Kr y (Ji cols r)≠0∧Ja8 W' D (r:Int) kk (Jdb U X (Kr y (Ji cols r)))∧∀ i,i<r→∀ e∈y,∃ v,Kl e (Ji cols i)=.inl v))
theorem Jsx {L M:Nat}{z:Nat}{R O:Int}{bf bh U bc X:Value}{K:List Dn}{W:World}(h:Jd6 L M z R O bf bh U bc X K W)(nd:Nd)(l:Nat)(g:Nat)(hs:List (Option Addr×Nat))(cols:List (List V))(hi:K[l]?=some (some (g,hs,cols)))(bQ:nd.l=(l:Int))(ba eo bj:Nat)(y:List (List Pt))(ca:nd.xs=(some ⟨ba,eo,none⟩,y.length,bj))(B N:Nat)(ci:B≤L)(Z bb:Addr)
  (bB:Jaz W ba eo y) (bU:Jga cols.length y) (bL:1≤y.length) (bM:y.length≤1000) (cb:1≤z) (cx:z≤1000) (bX:1≤cols.length) (bY:cols.length≤1000) (bJ:∀ j,j<cols.length→(cols.getD j []).length=N) (bD:N≤100000) (bO:∀ i,i<N→∀ v∈Ji cols i,Jg v.n) (bC:Jdo W Z bb) (cu:10<B∧11<B) :
  Calls prog 72 #[.pointer (some ⟨M,0,none⟩),nd.val] W (Khw L M z R O bf bh U bc X K l Z bb y cols N W):=by
 obtain⟨bi,bx,bl,bP,cj,cl,bI,hf,E,bT⟩:=h.take hi
 have bu:=h.run
 rw[bl]at bu
 have A:X.ownBlock=some bi:=by rw[bl];rfl
 have cv:=h.low
 have:=Jp8 M bi K.length bx l z (.int .i64 R) (.int .i64 O) bf bh U bc nd.op nd.r nd.tn (.slice nd.ky.1 nd.ky.2.1 nd.ky.2.2) nd.kk ba eo bj y g cols.length hs cols N W Z bb bu bP bI hf (by omega) bB bU bL bM cb (by omega) E.1 bX bY bJ bD bO ⟨fun e=>E.2.1.2.1 (A.trans (congrArg some e.symm)),fun j H b o D bz=>(E.2.2 j H b o D).2.1 (A.trans (congrArg some bz.symm))⟩ ⟨E.2.1.2.2,fun j H b o D=>(E.2.2 j H b o D).2.2⟩ bC ⟨by omega,by omega⟩
 rw[Nd.val,bQ,ca]
 refine this.mono fun ch W' bV=>?_
 obtain⟨br,⟨cc,cf,rfl,cr,bE,bG,bK⟩|⟨bA,kk,r,rfl,bW,cn,bS,bZ,bN⟩⟩:=bV
 ·have bn:=Jgr br
  obtain⟨bk,bR⟩:=Jo6 bE
  refine⟨by rw[A];exact bn,.inl ⟨cc,cf.map slH,?_,bT W' bn bK,⟨bk,⟨?_,?_⟩⟩,bG⟩⟩
  ·simp only[dnV,Oa6]
  ·exact⟨by have:=Jd h.run;omega,by rw[A];intro e;cases e;omega,bk.row.lt⟩
  intro j H b o D
  have bH:=bR j H b o D
  exact⟨by have:=Jd h.run;omega,by rw[A];intro e;cases e;omega,bH.2⟩
 exact⟨by rw[A];exact Jgr br,.inr ⟨bA,kk,r,rfl,bW,bS,bZ,bN⟩⟩
theorem Kdz {L E s:Nat}{z K H:Int}{X M U D:Value}{Z:List Dn}{W:World}(h:Jd6 L E z K H X (.pointer (some ⟨s,0,none⟩)) M U D Z W)(nd:Nd)(cols:List (List V))
  (bk:∀ y,Below W.heap.size W y→Calls prog 37 #[.pointer (some ⟨s,0,none⟩),.string nd.tn] y fun e w'=>Below y.heap.size y w'∧∃ g A,e=.returned (.tuple #[.slice (some ⟨g,0,none⟩) cols.length cols.length,.nilIface])∧Jar w' y.heap.size g A cols) :
  Calls prog 70 #[.pointer (some ⟨E,0,none⟩),nd.val] W fun ba W'=>Below W.heap.size W W'∧∃ (g:Nat) (hs:List (Option Addr×Nat)),ba=.returned (.tuple #[dnV (some (g,hs,cols)),.nilIface])∧Jd6 L E z K H X (.pointer (some ⟨s,0,none⟩)) M U D Z W'∧Jfk E D (g,hs,cols) W':=by
 have:=Jos E s z (.int .i64 K) (.int .i64 H) X M U D nd.op nd.l nd.r nd.tn (.slice nd.xs.1 nd.xs.2.1 nd.xs.2.2) (.slice nd.ky.1 nd.ky.2.1 nd.ky.2.2) nd.kk W (fun y a b w'=>∃ g A,a=.slice (some ⟨g,0,none⟩) cols.length cols.length∧b=.nilIface∧Jar w' y.heap.size g A cols) h.run (fun y O=>(bk y O).mono fun e w' R=>by
  obtain⟨h1,g,A,rfl,h2⟩:=R
  exact⟨h1,_,_,rfl,g,A,rfl,rfl,h2⟩)
 refine this.mono fun ba W' R=>?_
 obtain⟨bf,y,O,a,b,rfl,g,A,rfl,rfl,bc⟩:=R
 obtain⟨bb,bj⟩:=Jo6 bc
 have br:=O.size
 have bl:=bc.low
 have bn:=Jd h.run
 have bh:∀ k,D.ownBlock=some k→k<W.heap.size:=fun k e=>(Je h.own e).2
 refine⟨bf,g,A.map slH,rfl,h.below bf,bb,⟨by omega,fun e=>by have:=bh _ e;omega,bb.row.lt⟩,fun j bi b o e=>?_⟩
 have:=bj j bi b o e
 exact⟨by omega,fun e=>by have:=bh _ e;omega,this.2⟩
end Go.Proofs.YtdlgbphkaicfaaaGreatDoor
