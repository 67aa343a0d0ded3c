/- Plain facts on a disk: what is laid is read; what is let go is as before. -/
import Derived.Test.YtcaocabmioafcaaGreatDoorTe
import Derived.Test.YtcaocabmioafcaaGreatDoorTi
import Derived.Test.YtcaocabmioafcaaGreatDoorKk
set_option maxHeartbeats 1000000
set_option maxRecDepth 100000
namespace Go.Proofs.YtcaocabmioafcaaGreatDoor
section
open Go.RowKit
def pg (D:DS)(i:Nat):Option (List UInt8):=D.pages.getD i none
theorem Jly (l:List (Option (List UInt8)))(i j:Nat)(x:Option (List UInt8))(hi:i<l.length):(l.set i x).getD j none=if j=i then x else l.getD j none:=by
 rw[Oa0,Oa0]
 by_cases h:j=i
 ·subst h;simp[hi]
 rw[if_neg h,Od1 (Oc5 h)]
theorem Kfe {D:DS}{i:Nat}(h:¬ Jai D.pages (i:Int)=true):pg D i=none:=Je0 (by simpa using h)
theorem Kcf (D:DS)(i j:Nat):pg (Jae D i) j=if j=i then none else pg D j:=by
 unfold Jae
 by_cases h:Jai D.pages (i:Int)=true
 ·rw[if_pos h]
  obtain⟨p,H⟩:=Jf3 h
  have hi:i<D.pages.length:=by
   rcases Oc1 i D.pages.length with A|A
   ·exact A
   rw[Ob4 A]at H;simp at H
  exact Jly _ _ _ _ hi
 rw[if_neg h]
 by_cases e:j=i
 ·subst e;rw[if_pos rfl];exact Kfe h
 rw[if_neg e]
theorem Jx3 (l:List Nat):∀ (D:DS) (j:Nat),pg (Jf4 D l) j=if j∈l then none else pg D j:=by
 induction l with
 |nil=>intro D j;simp[Jf4]
 |cons i l I=>
  intro D j
  show pg (Jf4 (Jae D i) l) j=_
  rw[I,Kcf]
  by_cases A:j∈l
  ·simp[A]
  by_cases H:j=i
  ·simp[H]
  simp[A,H]
theorem Jtm {D:DS}{i:Nat}{p:List UInt8}(h:pg D i=some p):Jai D.pages (i:Int)=true:=by
 cases hu:Jai D.pages (i:Int)with
 |true=>rfl
 |false=>rw[show pg D i=none from Je0 hu]at h;simp at h
theorem Kdp {D:DS}{i:Nat}{p:List UInt8}(h:pg D i=some p):Js (Jae D i).pages+1=Js D.pages:=by
 unfold Jae
 rw[if_pos (Jtm h)]
 obtain⟨q,A⟩:=Jf3 (Jtm h)
 exact Jii _ _ q A
theorem Joz (l:List Nat):∀ (D:DS),l.Nodup→(∀ i∈l,∃ p,pg D i=some p)→Js (Jf4 D l).pages+l.length=Js D.pages:=by
 induction l with
 |nil=>intro D _ _;simp[Jf4]
 |cons i l L=>
  intro D H I
  obtain⟨p,J⟩:=I i (by simp)
  have M:=Kdp J
  have N:=L (Jae D i) (Og0.1 H).2 (fun j A=>by
   obtain⟨q,K⟩:=I j (by simp[A])
   refine⟨q,?_⟩
   rw[Kcf,if_neg (fun e:j=i=>(Og0.1 H).1 (by rw[←e];exact A))]
   exact K)
  show Js (Jf4 (Jae D i) l).pages+(l.length+1)=_
  omega
theorem Jvm (D:DS)(i:Nat):(Jae D i).quota=D.quota∧(Jae D i).fail=D.fail∧(Jae D i).writes=D.writes:=by unfold Jae;split<;>simp
theorem Jin (l:List Nat):∀ D:DS,(Jf4 D l).quota=D.quota∧(Jf4 D l).fail=D.fail∧(Jf4 D l).writes=D.writes:=by
 induction l with
 |nil=>intro D;exact⟨rfl,rfl,rfl⟩
 |cons i l I=>
  intro D
  have A:=I (Jae D i)
  have H:=Jvm D i
  exact⟨A.1.trans H.1,A.2.1.trans H.2.1,A.2.2.trans H.2.2⟩
theorem Kfi (D:DS):pg D (Kb D.pages)=none:=Je0 (Jsj _)
theorem Jij (D:DS)(p:List UInt8)(j:Nat):pg (Zn D p) j=if j=Kb D.pages then some (Jdm p)else pg D j:=by
 unfold pg Zn
 simp only
 have I:=Jeu D.pages
 by_cases h:Kb D.pages<D.pages.length
 ·rw[if_pos h];exact Jly _ _ _ _ h
 rw[if_neg h,Jly _ _ _ _ (by simp;omega)]
 by_cases e:j=Kb D.pages
 ·rw[if_pos e,if_pos e]
 rw[if_neg e,if_neg e,Oa0,Oa0]
 rcases Oc1 j D.pages.length with A|A
 ·rw[Ob0 A]
 rw[Ob4 (l:=D.pages) A,Ob6 A]
 have:j-D.pages.length=0∨1≤j-D.pages.length:=by omega
 rcases this with H|H
 ·rw[H];rfl
 rw[Ob4 (by simpa using H)]
theorem Jm8 (D:DS)(p:List UInt8):Js (Zn D p).pages=Js D.pages+1:=by
 unfold Zn
 simp only
 rw[Jl5 _ _ _ (Jsk D.pages)]
 split
 ·rfl
 simp[Js]
structure Jjo (D E:DS) (ps:List (List UInt8)) (l:List Nat):Prop where
 len:l.length=ps.length
 nodup:l.Nodup
 free:∀ i∈l,pg D i=none
 other:∀ j,j∉l→pg E j=pg D j
 held:∀ (i:Nat) (hi:i<l.length),pg E l[i]=some (Jdm (ps[i]'(by rw[←len];exact hi)))
 used:Js E.pages=Js D.pages+ps.length
 quota:E.quota=D.quota
 fail:E.fail=D.fail
theorem Jjo.nil (D:DS):Jjo D D [] []:=⟨rfl,List.nodup_nil,by simp,fun _ _=>rfl,by simp,rfl,rfl,rfl⟩
theorem Jjo.cons {D E:DS}{p:List UInt8}{J:List (List UInt8)}{l:List Nat}(h:Jjo (Zn D p) E J l):Jjo D E (p::J) (Kb D.pages::l):=by
 have I:Kb D.pages∉l:=fun A=>by
  have:=h.free _ A
  rw[Jij,if_pos rfl]at this
  simp at this
 refine⟨by simp[h.len],Og0.2 ⟨I,h.nodup⟩,fun i hi=>?_,fun j H=>?_,fun i hi=>?_,?_,h.quota,h.fail⟩
 ·rcases Of1.1 hi with rfl|A
  ·exact Kfi D
  have:=h.free i A
  rw[Jij]at this
  split at this
  ·simp at this
  exact this
 ·rw[h.other j (fun A=>H (Og1 _ A)),Jij,if_neg (fun e=>H (by simp[e]))]
 ·cases i with
  |zero=>
   simp only[List.getElem_cons_zero]
   rw[h.other _ I,Jij,if_pos rfl]
  |succ i=>simpa using h.held i (by simpa using hi)
 rw[h.used,Jm8]
 simp
 omega
theorem Jc1:∀ (A:List (List UInt8))(D:DS),((Uy D A).2.2=none→Jjo D (Uy D A).1 A (Uy D A).2.1) ∧
  (∀ x,(Uy D A).2.2=some x→∃ I rest,A=I++rest∧rest≠[]∧∃ E,Jjo D E I (Uy D A).2.1∧pg (Uy D A).1=pg E∧Js (Uy D A).1.pages=Js E.pages∧(Uy D A).1.quota=E.quota∧(Uy D A).1.fail=E.fail ∧
   (x=true→E.quota≤((Js E.pages:Nat):Int))∧(x=false→(Uy D A).1.writes=(Uy D A).1.fail))
 |[],D=>⟨fun _=>Jjo.nil D,fun x h=>by simp[Uy]at h⟩
 |p::A,D=>by
  have L:=Jc1 A (Zn D p)
  unfold Uy
  by_cases J:D.quota≤((Js D.pages:Nat):Int)
  ·rw[if_pos J]
   refine⟨fun h=>by simp at h,fun x H=>⟨[],p::A,rfl,by simp,D,Jjo.nil D,rfl,rfl,rfl,rfl,fun _=>J,fun N=>?_⟩⟩
   simp at H
   subst H
   simp at N
  rw[if_neg J]
  by_cases K:wrap64 (D.writes+1)=D.fail
  ·rw[if_pos K]
   refine⟨fun h=>by simp at h,fun x H=>⟨[],p::A,rfl,by simp,D,Jjo.nil D,rfl,rfl,rfl,rfl,fun U=>?_,fun _=>K⟩⟩
   simp at H
   subst H
   simp at U
  rw[if_neg K]
  refine⟨fun h=>(L.1 h).cons,fun x H=>?_⟩
  obtain⟨I,rest,O,R,E,M,X,Y,Z,ba,bb,bc⟩:=L.2 x H
  exact⟨p::I,rest,by rw[O];rfl,R,E,M.cons,X,Y,Z,ba,bb,bc⟩
theorem Jni (D:DS):∀ (l:List Nat) (H:List (List UInt8)) (A:l.length=H.length),(∀ p∈H,p.length≤56)→(∀ (i:Nat) (hi:i<l.length),pg D l[i]=some (Jdm (H[i]'(by rw[←A];exact hi))))→Uf D l=.inl H.flatten
 |[],[],_,_,_=>rfl
 |[],_::_,A,_,_=>by simp at A
 |_::_,[],A,_,_=>by simp at A
 |i::l,p::H,A,I,J=>by
  have h0:=J 0 (by simp)
  simp at h0
  have M:=Jni D l H (by simpa using A) (fun q L=>I q (by simp[L])) (fun j K=>J (j+1) (by simpa using K))
  simp only[Uf]
  rw[show D.pages.getD i none=some (Jdm p) from h0]
  simp only[Option.bind_some,Jxe (I p (by simp)),M,List.flatten_cons]
theorem Jlo:∀ (n:Nat)(t:List UInt8),t.length≤n→(Jb5 n t).flatten=t
 |0,[],_=>rfl
 |0,_::_,h=>by simp at h
 |_+1,[],_=>rfl
 |n+1,b::t,h=>by
  simp only[Jb5,List.flatten_cons]
  rw[Jlo n _ (by simp at h ⊢;omega),Ok3]
theorem Js2 (t:List UInt8):(Qu t).flatten=t:=Jlo _ _ (Oa2 _)
theorem Jq0:∀ (n:Nat)(t:List UInt8),∀ p∈Jb5 n t,p.length≤56
 |0,_,p,h=>by simp[Jb5]at h
 |_+1,[],p,h=>by simp[Jb5]at h
 |n+1,b::t,p,h=>by
  simp only[Jb5]at h
  rcases Of1.1 h with rfl|A
  ·rw[Oc7];omega
  exact Jq0 n _ p A
theorem Jzu (t:List UInt8):∀ p∈Qu t,p.length≤56:=Jq0 _ _
theorem Jy1 {t:List UInt8}(h:t≠[]):Qu t≠[]:=by rw[Jr2 t h];simp
theorem Jkd:∀ (n:Nat)(t:List UInt8),56*(Jb5 n t).length≤t.length+55
 |0,t=>by simp[Jb5]
 |_+1,[]=>by simp[Jb5]
 |n+1,b::t=>by
  simp only[Jb5,List.length_cons]
  have:=Jkd n ((b::t).drop 56)
  rw[Of7]at this
  have h0:(b::t).length=t.length+1:=rfl
  rw[h0]at this
  rcases Oc1 (t.length+1) 56 with A|A
  ·have J:t.length+1-56=0:=by omega
   have I:(b::t).drop 56=[]:=Ol8 (by rw[h0];omega)
   rw[I]
   have H:(Jb5 n ([]:List UInt8)).length=0:=by cases n<;>rfl
   rw[H]
   omega
  omega
theorem Jio (t:List UInt8):56*(Qu t).length≤t.length+55:=Jkd _ _
def Jan (D:DS)(l:List Nat)(t:List UInt8):Prop:=l.length=(Qu t).length∧∀ (i:Nat) (hi:i<l.length) (A:i<(Qu t).length),pg D l[i]=some (Jdm (Qu t)[i])
theorem Jan.read {D:DS}{l:List Nat}{t:List UInt8}(h:Jan D l t):Uf D l=.inl t:=by
 rw[Jni D l (Qu t) h.1 (Jzu t) (fun i hi=>h.2 i hi _),Js2]
theorem Jan.keep {D E:DS}{l:List Nat}{t:List UInt8}(h:Jan D l t)(hk:∀ i∈l,pg E i=pg D i):Jan E l t:=
 ⟨h.1,fun i hi A=>(hk _ (Ob3 hi)).trans (h.2 i hi A)⟩
theorem Jjo.seg {D E:DS}{t:List UInt8}{l:List Nat}(h:Jjo D E (Qu t) l):Jan E l t:=⟨h.len,fun i hi _=>h.held i hi⟩
structure Jke (D E:DS) (ts:List (List UInt8)) (ls:List (List Nat)):Prop where
 len:ls.length=ts.length
 nodup:ls.flatten.Nodup
 free:∀ i∈ls.flatten,pg D i=none
 other:∀ j,j∉ls.flatten→pg E j=pg D j
 segs:∀ (i:Nat) (hi:i<ls.length),Jan E ls[i] (ts[i]'(by rw[←len];exact hi))
 used:Js E.pages=Js D.pages+ls.flatten.length
 quota:E.quota=D.quota
 fail:E.fail=D.fail
theorem Jke.nil (D:DS):Jke D D [] []:=⟨rfl,List.nodup_nil,by simp,fun _ _=>rfl,by simp,rfl,rfl,rfl⟩
theorem Jke.cons {D E F:DS}{t:List UInt8}{ts:List (List UInt8)}{l:List Nat}{J:List (List Nat)}(h:Jjo D E (Qu t) l)(k:Jke E F ts J):Jke D F (t::ts) (l::J):=by
 have R:∀ i∈l,∃ p,pg E i=some p:=fun i hi=>by
  obtain⟨j,H,rfl⟩:=Od5 hi
  exact⟨_,h.held j H⟩
 have I:∀ i∈l,i∉J.flatten:=fun i hi A=>by
  obtain⟨p,M⟩:=R i hi
  rw[k.free i A]at M
  simp at M
 refine⟨by simp[k.len],?_,fun i hi=>?_,fun j H=>?_,fun i hi=>?_,?_,k.quota.trans h.quota,k.fail.trans h.fail⟩
 ·rw[List.flatten_cons,Op3]
  exact⟨h.nodup,k.nodup,fun a N b O e=>I a N (e▸O)⟩
 ·rw[List.flatten_cons]at hi
  rcases Od2.1 hi with A|A
  ·exact h.free i A
  have K:=k.free i A
  by_cases L:i∈l
  ·exact absurd A (I i L)
  rw[h.other i L]at K;exact K
 ·rw[List.flatten_cons,Od2]at H
  rw[k.other j (fun A=>H (.inr A)),h.other j (fun A=>H (.inl A))]
 ·cases i with
  |zero=>exact h.seg.keep fun i hi=>k.other i (I i hi)
  |succ i=>simpa using k.segs i (by simpa using hi)
 rw[k.used,h.used,List.flatten_cons,Oa8,h.len]
 omega
theorem Jpc (A:List (List Nat)):∀ (D:DS) (j:Nat),pg (Jcg D A) j=if j∈A.flatten then none else pg D j:=by
 induction A with
 |nil=>intro D j;simp[Jcg]
 |cons l A J=>
  intro D j
  show pg (Jcg (Jf4 D l) A) j=_
  rw[J,Jx3,List.flatten_cons]
  by_cases H:j∈A.flatten
  ·simp[H]
  by_cases I:j∈l
  ·simp[I]
  simp[H,I]
theorem Kw1 (A:List (List Nat)):∀ (D:DS),A.flatten.Nodup→(∀ i∈A.flatten,∃ p,pg D i=some p)→Js (Jcg D A).pages+A.flatten.length=Js D.pages:=by
 induction A with
 |nil=>intro D _ _;simp[Jcg]
 |cons l A M=>
  intro D H I
  rw[List.flatten_cons]at H I
  rw[Op3]at H
  have N:=Joz l D H.1 (fun i hi=>I i (by simp[hi]))
  have O:=M (Jf4 D l) H.2.1 (fun j J=>by
   obtain⟨q,L⟩:=I j (Od2.2 (.inr J))
   refine⟨q,?_⟩
   rw[Jx3,if_neg (fun K=>H.2.2 j K j J rfl)]
   exact L)
  show Js (Jcg (Jf4 D l) A).pages+(l::A).flatten.length=_
  rw[List.flatten_cons,Oa8]
  omega
theorem Jdn (A:List (List Nat)):∀ D:DS,(Jcg D A).quota=D.quota∧(Jcg D A).fail=D.fail∧(Jcg D A).writes=D.writes:=by
 induction A with
 |nil=>intro D;exact⟨rfl,rfl,rfl⟩
 |cons l A J=>
  intro D
  have H:=J (Jf4 D l)
  have I:=Jin l D
  exact⟨H.1.trans I.1,H.2.1.trans I.2.1,H.2.2.trans I.2.2⟩
theorem Jhs:∀ (l:List (Option (List UInt8)))(n:Nat),l.length≤n→Js l=(List.range n).countP fun i=>(l.getD i none).isSome
 |[],n,_=>by simp[Js]
 |x::l,0,h=>by simp at h
 |x::l,n+1,h=>by
  have A:=Jhs l n (by simpa using h)
  rw[List.range_succ_eq_map,On3,List.countP_map]
  have e:((fun i=>((x::l).getD i none).isSome) ∘ Nat.succ)=fun i=>(l.getD i none).isSome:=by funext i;simp
  rw[e,←A]
  simp[Js,List.countP_cons]
theorem Jz2 {D E:DS}(h:∀ j,pg E j=pg D j):Js E.pages=Js D.pages:=by
 rw[Jhs E.pages (E.pages.length+D.pages.length) (by omega),Jhs D.pages (E.pages.length+D.pages.length) (by omega)]
 congr 1
 funext i
 rw[show E.pages.getD i none=D.pages.getD i none from h i]
structure Kft (D E:DS):Prop where
 pages:∀ j,pg E j=pg D j
 used:Js E.pages=Js D.pages
 quota:E.quota=D.quota
 fail:E.fail=D.fail
theorem Jso {D:DS}{A:List (List UInt8)}{x:Bool}(h:(Uy D A).2.2=some x):Kft D (Jf4 (Uy D A).1 (Uy D A).2.1)∧A≠[]∧(x=true→D.quota≤((Js D.pages+A.length:Nat):Int)):=by
 obtain⟨Z,rest,L,X,E,H,J,ba,M,N,O,_⟩:=(Jc1 A D).2 x h
 have K:=Jin (Uy D A).2.1 (Uy D A).1
 have U:∀ i∈(Uy D A).2.1,∃ p,pg (Uy D A).1 i=some p:=fun i hi=>by
  obtain⟨j,R,e⟩:=Od5 hi
  have:=H.held j R
  rw[e]at this
  rw[J]
  exact⟨_,this⟩
 have bc:=Joz _ _ H.nodup U
 refine⟨⟨fun j=>?_,?_,K.1.trans (M.trans H.quota),K.2.1.trans (N.trans H.fail)⟩,?_,fun Y=>?_⟩
 ·rw[Jx3,J]
  by_cases I:j∈(Uy D A).2.1
  ·rw[if_pos I,H.free j I]
  rw[if_neg I,H.other j I]
 ·have:=H.used
  have:=H.len
  omega
 ·rw[L];intro e;exact X (List.append_eq_nil_iff.1 e).2
 have:=O Y
 rw[H.quota,H.used]at this
 have bb:Z.length≤A.length:=by rw[L];simp
 omega
theorem Jjv:∀ (ts:List (List UInt8))(D:DS),(Jq D ts).2.2=none→Jke D (Jq D ts).1 ts (Jq D ts).2.1
 |[],D,_=>Jke.nil D
 |t::ts,D,h=>by
  have A:=(Jc1 (Qu t) D).1
  rcases hr:Uy D (Qu t)with⟨E,l,r⟩
  rw[hr]at A
  unfold Jq at h ⊢
  rw[hr]at h ⊢
  cases r with
  |none=>exact Jke.cons (A rfl) (Jjv ts E h)
  |some x=>simp at h
theorem Jj4:∀ (ts:List (List UInt8))(D:DS)(x:Bool),(Jq D ts).2.2=some x→Kft D (Jcg (Jq D ts).1 (Jq D ts).2.1)∧ts≠[]∧(x=true→D.quota≤((Js D.pages+Jch ts:Nat):Int))
 |[],D,x,h=>by simp[Jq]at h
 |t::ts,D,x,h=>by
  have h0:=fun y=>@Jso D (Qu t) y
  have M:=(Jc1 (Qu t) D).1
  rcases hr:Uy D (Qu t)with⟨E,l,r⟩
  rw[hr]at h0 M
  unfold Jq at h ⊢
  rw[hr]at h ⊢
  cases r with
  |some y=>
   simp at h
   subst h
   have N:=h0 y rfl
   refine⟨N.1,by simp,fun L=>?_⟩
   have:=N.2.2 L
   rw[Ja1]
   omega
  |none=>
   simp only at h ⊢
   have A:=M rfl
   have R:=Jj4 ts E x h
   have K:=R.1
   simp only at A
   have Y:∀ i∈l,∃ p,pg E i=some p:=fun i hi=>by
    obtain⟨j,H,rfl⟩:=Od5 hi
    exact⟨_,A.held j H⟩
   have bc:=Joz l E A.nodup Y
   have bb:=Jin l E
   -- let Z in any order
   have O:∀ j,pg (Jcg (Jq E ts).1 (l::(Jq E ts).2.1)) j=pg D j:=fun j=>by
    rw[Jpc,List.flatten_cons]
    have H:=K.pages j
    rw[Jpc]at H
    by_cases I:j∈l
    ·rw[if_pos (by simp[I]),A.free j I]
    by_cases J:j∈(Jq E ts).2.1.flatten
    ·rw[if_pos (by simp[J])]
     rw[if_pos J,A.other j I]at H
     exact H
    rw[if_neg (by simp[I];simpa using J)]
    rw[if_neg J,A.other j I]at H
    exact H
   refine⟨⟨O,?_,?_,?_⟩,by simp,fun L=>?_⟩
   ·exact Jz2 O
   ·exact(Jdn _ _).1.trans ((Jdn _ _).1.symm.trans (K.quota.trans A.quota))
   ·exact(Jdn _ _).2.1.trans ((Jdn _ _).2.1.symm.trans (K.fail.trans A.fail))
   have U:=R.2.2 L
   have ba:=A.used
   have X:=A.quota
   rw[Ja1]
   rw[X]at U
   omega
theorem Jkf:∀ (A:List (List UInt8))(D:DS),0≤D.writes→D.writes+A.length≤4000000000000000000→(D.writes≤(Uy D A).1.writes∧(Uy D A).1.writes≤D.writes+A.length)∧((Uy D A).2.2=some false→(Uy D A).1.writes=D.fail∧D.writes<(Uy D A).1.writes)∧((Uy D A).2.2≠some false→¬ (D.writes<D.fail∧D.fail≤(Uy D A).1.writes))
 |[],D,_,_=>by simp[Uy]
 |p::A,D,h0,K=>by
  have hw:wrap64 (D.writes+1)=D.writes+1:=by unfold wrap64;simp at K;omega
  have I:=Jkf A (Zn D p) (by simp only[Zn,hw];omega) (by simp only[Zn,hw];simp at K;omega)
  simp only[Zn,hw]at I
  unfold Uy
  by_cases J:D.quota≤((Js D.pages:Nat):Int)
  ·rw[if_pos J]
   simp
   omega
  rw[if_neg J]
  by_cases H:wrap64 (D.writes+1)=D.fail
  ·rw[if_pos H]
   rw[hw]at H
   simp[Jvn,hw]
   omega
  rw[if_neg H]
  rw[hw]at H
  simp only[Zn,hw,List.length_cons]at I ⊢
  refine⟨by omega,fun h=>?_,fun h=>?_⟩
  ·have:=I.2.1 h;omega
  have:=I.2.2 h;omega
theorem Jd9:∀ (ts:List (List UInt8))(D:DS),0≤D.writes→D.writes+Jch ts≤4000000000000000000→(D.writes≤(Jq D ts).1.writes∧(Jq D ts).1.writes≤D.writes+Jch ts)∧((Jq D ts).2.2=some false→(Jq D ts).1.writes=D.fail∧D.writes<(Jq D ts).1.writes)∧((Jq D ts).2.2≠some false→¬ (D.writes<D.fail∧D.fail≤(Jq D ts).1.writes))
 |[],D,_,_=>by simp[Jq,Jch]
 |t::ts,D,h0,L=>by
  rw[Ja1]at L
  have A:=Jkf (Qu t) D h0 (by omega)
  have J:=(Jc1 (Qu t) D).1
  rcases hr:Uy D (Qu t)with⟨E,l,r⟩
  rw[hr]at A J
  unfold Jq
  rw[hr,Ja1]
  cases r with
  |some y=>
   have M:=(Jin l E).2.2
   simp only at A ⊢
   rw[M]
   refine⟨by omega,fun h=>A.2.1 h,fun h=>A.2.2 h⟩
  |none=>
   have K:=J rfl
   have I:=K.fail
   simp only at A I ⊢
   have H:=Jd9 ts E (by omega) (by omega)
   rw[I]at H
   have N:=A.2.2 (by simp)
   refine⟨by omega,fun h=>?_,fun h=>?_⟩
   ·have:=H.2.1 h;omega
   have:=H.2.2 h;omega
end
section
open Go.RowKit Tryz
theorem Kgo (xs:List V)(K:xs.length≤64)(H:∀ v∈xs,Ksq v.k v.s):(Jds xs).length≤6000:=by
 have A:=Jk0 xs []
 have J:=Jgg (Ym [] xs) fun v I=>by
  rcases Jlj xs [] v I with h|h
  ·simp at h
  exact H v h
 unfold Jds
 rw[Oa8,List.length_cons,Qb,Jal,Oa6]
 simp at A
 omega
theorem Kan (t:Int)(xs:List V)(H:xs.length≤64):(Zz t xs).length≤6000:=by
 unfold Zz
 split
 ·rw[Qb,Jal];simp[Uv];omega
 cases xs with
 |nil=>simp[Jei]
 |cons v l=>
  unfold Jei
  have A:=Jkx (v::l) (Jn v.n (v::l))
  have K:Uv (v::l) (Jn v.n (v::l))=dif v.n (Jn v.n (v::l))::Uv l (Jn v.n (v::l)):=rfl
  rw[K]at A
  have L:=Jk2 18446744073709551616 (Uv l (Jn v.n (v::l))) (dif v.n (Jn v.n (v::l))) (A _ Of4) fun n H=>A n (Og1 _ H)
  have I:=Jf7 _ L
  rw[Oa8,Oa8,Jc4,Qb,Jal]
  have J:(Uv (v::l) (Jn v.n (v::l))).length=(v::l).length:=by simp[Uv]
  rw[J]
  have:bitLen (Yz (dif v.n (Jn v.n (v::l))) (Uv l (Jn v.n (v::l))))*(v::l).length≤64*64:=Ol5 I H
  simp only[List.length_cons,List.length_nil]at *
  omega
theorem Kfy (t I:Int)(xs:List V)(H:xs.length≤64)(A:∀ v∈xs,Ksq v.k v.s):(Jdt t I xs).length≤6000:=by
 unfold Jdt
 split
 ·have:=Jgg xs A;omega
 split
 ·exact Kgo xs H A
 split
 ·have:=Jng _ xs (Oa2 _) A;omega
 exact Kan t xs H
theorem Khf (t A:Int)(xs:List V)(h:Jdq t xs):(Jav t A xs).length≤6100∧Jav t A xs≠[]:=by
 have H:=Kfy t A (Jz xs) (Ob2 (Zy xs) h.1) (Jgz t xs h)
 have I:=h.1
 refine⟨?_,by simp[Jav,Kz]⟩
 unfold Jav Kz
 rw[Oa8,Oa8,Qb,Oa6]
 simp only[List.length_cons,List.length_nil]
 omega
theorem Jt7 {rows:List (List V)}{ts hs:List Int}{c:Nat}(h:(Uo rows ts hs c).2=0):(Uo rows ts hs c).1.length≤6100∧(Uo rows ts hs c).1≠[]:=by
 unfold Uo Jev at h ⊢
 split at h
 ·rename_i hw
  rw[if_pos hw]
  split at h
  ·simp at h
  rename_i H
  rw[if_neg H]
  simp only[Og5]at hw
  refine Khf _ _ _ ?_
  have A:=hw.2
  unfold Jfr at A
  simp only[Og5,decide_eq_true_iff,List.all_eq_true]at A
  exact⟨A.1,fun j I=>A.2 _ (Ob3 I)⟩
 simp at h
theorem Jrd (rows:List (List V))(ts hs:List Int):∀ (k:Nat) (l:List (List UInt8)),Jeo rows ts hs k=.inl l→∀ t∈l,t.length≤6100∧t≠[]
 |0,l,h=>by simp[Jeo]at h;subst h;simp
 |k+1,l,h=>by
  simp only[Jeo]at h
  split at h
  ·simp at h
  rename_i J I
  split at h
  ·rename_i H
   simp at h
   subst h
   intro t A
   rcases Od2.1 A with A|A
   ·exact Jrd rows ts hs k J I t A
   simp at A
   subst A
   exact Jt7 H
  simp at h
theorem Jte (rs:List (List V))(ts hs:List Int)(xs:List (Nat×Nat))(T:List (List UInt8))(h:Jfg rs ts hs xs=.inl T):T.length=xs.length*ts.length∧∀ t∈T,t.length≤6100∧t≠[]:=by
 have M:∀ (xs:List (Nat×Nat)) (A T:List (List UInt8)),xs.foldl (Jiu rs ts hs) (.inl A)=.inl T→(∀ t∈A,t.length≤6100∧t≠[])→T.length=A.length+xs.length*ts.length∧∀ t∈T,t.length≤6100∧t≠[]:=by
  intro xs
  induction xs with
  |nil=>intro A T h h0;simp at h;subst h;exact⟨by simp,h0⟩
  |cons x xs J=>
   intro A T h h0
   rw[List.foldl_cons]at h
   simp only[Jiu]at h
   split at h
   ·rename_i l K
    have:=J (A++l) T h (fun t H=>by
     rcases Od2.1 H with H|H
     ·exact h0 t H
     exact Jrd _ ts hs _ l K t H)
    refine⟨?_,this.2⟩
    rw[this.1,Oa8,Jjc _ ts hs _ l K,List.length_cons,Of5]
    omega
   rename_i c N
   have L:∀ I:List (Nat×Nat),I.foldl (Jiu rs ts hs) (.inr c)=.inr c:=by
    intro I
    induction I with
    |nil=>rfl
    |cons y I J=>exact J
   rw[L]at h
   simp at h
 have:=M xs [] T h (by simp)
 simpa using this
theorem Joc:∀ (ts:List (List UInt8)),(∀ t∈ts,t.length≤6100)→Jch ts≤110*ts.length
 |[],_=>by simp[Jch]
 |t::ts,h=>by
  have H:=Jio t
  have I:=h t (by simp)
  have J:=Joc ts fun t A=>h t (by simp[A])
  rw[Ja1,List.length_cons]
  omega
end
section
open Go.RowKit Tryz
theorem Jrj {w:World}{B:Nat}{sv:Value}{A:List Int}(h:Jo w B 3 sv (A.map iv))(M:A≠[]):∃ g c,sv=.slice (some ⟨g,0,none⟩) A.length c∧B≤g∧g<w.heap.size∧Kc w (some ⟨g,0,none⟩) A:=by
 obtain⟨a,c,I,K⟩:=h.cells
 rw[Oa6]at I
 subst I
 rcases h.2 with⟨H,h0⟩|⟨g,cap,N,H,J,L,_⟩
 ·simp at h0
  exact absurd h0 M
 simp at H
 obtain⟨rfl,rfl⟩:=H
 exact⟨g,c,rfl,J,Jd L,K⟩
theorem Jhe (b o cap:Nat)(A:List Int)(w:World)(H:A≠[])(bh:A.length≤1000)(h:Kc w (some ⟨b,o,none⟩) A) :
  Calls prog 93 #[.slice (some ⟨b,o,none⟩) A.length cap] w fun e w'=>Below w.heap.size w w'∧∃ g c,e=.returned (.slice (some ⟨g,0,none⟩) A.length c)∧w.heap.size≤g∧g<w'.heap.size∧Kc w' (some ⟨g,0,none⟩) A:=by
 have K:Below w.heap.size w (w.alloc (.cells #[] 3)):=(Oa5 _ w).alloc (Oa2 _) _
 have M:Hid (∀ (j:Nat) (u:Value),(A.map iv)[j]?=some u→(w.alloc (.cells #[] 3)).cell? ((⟨b,o,none⟩:Addr).add j)=some u):=fun j u I=>by
  rcases h.below K with h0|⟨bc,bj,L,_,X⟩
  ·simp at h0;exact absurd h0 H
  simp at L
  obtain⟨rfl,rfl⟩:=L
  rw[Addr.add_lit]
  exact X j u I
 have O:Hid (Jo (w.alloc (.cells #[] 3)) w.heap.size 3 (.slice (some ⟨w.heap.size,0,none⟩) 0 0) []):=
  ⟨rfl,.inr ⟨w.heap.size,0,#[],rfl,Oa2 _,heap_alloc_new _ _,Oa2 _,Ob7 _,rfl,rfl⟩⟩
 have N:Hid (A≠[]):=H
 have bi:∀ W:World,(binOp .eql 27 (.slice (some ⟨b,o,none⟩) A.length cap) (.slice none 0 0)).run prog W=.ok (.bool false) W:=fun W=>Lib.run_eql_slice_some_nil W _ _ _ underlying27
 clear H h
 go_enter func93,ntmps93
 go_wp2_with (at_builtin;go_must (refine Ul (by rfl) _ _ 27 3 _ 8 Zw (by rfl) (by decide) (by kernel_rfl) (by rfl) w.heap.size _ [] (by rfl) (by exact O.out) ⟨b,o,none⟩ cap (A.map iv) (by simp[Act.eval]) (by exact M.out) (by intro u I;obtain⟨x,_,rfl⟩:=Of0.1 I;rfl) (by simp;omega) (by simp) ?_);intro sv' bb J R bf)
 have U:Below w.heap.size w bb:=Jy (sv:=.slice (some ⟨w.heap.size,0,none⟩) 0 0) K R (fun g Y=>by simp[Value.ownBlock]at Y;omega)
 rw[List.nil_append]at J
 obtain⟨g,c,rfl,Z,ba,hI⟩:=Jrj J N.out
 go_ret
 exact⟨U,g,c,rfl,Z,ba,hI⟩
def Jad (b:Nat)(r:List V):Value:=.slice (some ⟨b,0,none⟩) r.length r.length
structure Jcu (w:World) (B g:Nat) (bs:List Nat) (rs:List (List V)):Prop where
 len:bs.length=rs.length
 outer:w.rowIs g 57 rs.length (fun j=>Jad (bs.getD j 0) (rs.getD j []))
 rows:∀ (i:Nat) b r,bs[i]?=some b→rs[i]?=some r→Kv w b r []
 from_:B≤g∧∀ b∈bs,B≤b∧b≠g
 nodup:bs.Nodup
theorem Jcu.below {w w':World}{B g:Nat}{bs:List Nat}{rs:List (List V)}(h:Jcu w B g bs rs)(A:Below w.heap.size w w'):Jcu w' B g bs rs:=
 ⟨h.len,h.outer.of_block (A.block g h.outer.lt),fun i b r hi H=>(h.rows i b r hi H).of_block (A.block b (h.rows i b r hi H).lt),h.from_,h.nodup⟩
theorem Jcu.rowsAt {w:World}{B g:Nat}{bs:List Nat}{rs:List (List V)}(h:Jcu w B g bs rs):Zd w (some ⟨g,0,none⟩) (List.zipWith (fun b (r:List V)=>((some ⟨b,0,none⟩:Option Addr),r.length)) bs rs) rs:=by
 refine⟨by simp[h.len],.inr ⟨g,0,rfl,h.outer.lt,fun i v I=>?_⟩,fun i x r K J=>?_⟩
 ·have hi:i<rs.length:=by
   rcases Oc1 i rs.length with A|A
   ·exact A
   ·rw[Ob4 (by simp;omega)]at I;simp at I
  have H:i<bs.length:=by rw[h.len];exact hi
  rw[Od0,h.outer.cell hi]
  rw[Ok5,Ok5,Oa3 hi,Oa3 H]at I
  simp[Je1]at I
  simp[Jad,hi,H,←I]
 have hi:i<rs.length:=by
  rcases Oc1 i rs.length with A|A
  ·exact A
  ·rw[Ob4 A]at J;simp at J
 have H:i<bs.length:=by rw[h.len];exact hi
 rw[Ok5]at K
 simp[hi,H]at K J
 subst K J
 exact(h.rows i bs[i] rs[i] (by simp[H]) (by simp[hi])).vals
theorem Jip:(prog.info? 57).map (fun i=>(i.zero,i.size,i.bytes))=some (some (.slice none 0 0),1,24):=by kernel_rfl
theorem Jtn (n:Nat)(K:n≤1000)(W:World):∃ C,(Instr.makeSlice 57 (.int .i64 (n:Int)) (.int .i64 (n:Int))).run prog W=.ok (.slice (some ⟨W.heap.size,0,none⟩) n n) (W.alloc (.cells C 55))∧Kv (W.alloc (.cells C 55)) W.heap.size (List.replicate n Jf) []:=by
 obtain⟨i,hi,J,I,H⟩:=info_parts Jow
 have A:=run_make (P:=prog) W 57 55 i _ (by kernel_rfl) hi J .i64 .i64 (n:Int) (n:Int) (by omega) (Int.le_refl _) (by rw[H];omega) (by omega)
 rw[Int.toNat_natCast,I]at A
 exact⟨_,A,_,(Oh1 W _).1,by rw[Od7];exact Jt9 n⟩
end
end Go.Proofs.YtcaocabmioafcaaGreatDoor
