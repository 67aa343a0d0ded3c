/- Plain facts on a disk: what is laid is read; what is let go is as before. -/
import Derived.Test.YtjjdldddcegjiaaGreatDoorKq
import Derived.Test.YtjjdldddcegjiaaGreatDoorTf
namespace Go.Proofs.YtjjdldddcegjiaaGreatDoor
open Go.RowKit
def pg (y:DS)(i:Nat):Option (List UInt8):=y.pages.getD i none
theorem Jly (l:List (Option (List UInt8)))(i j:Nat)(x:Option (List UInt8))(hi:i<l.length):(l.set i x).getD j none=if j=i then x else l.getD j none:=by
 rw[Oa0,Oa0]
 by_cases h:j=i
 ·subst h;simp[hi]
 rw[if_neg h,Od1 (Oc5 h)]
theorem Kfe {y:DS}{i:Nat}(h:¬ Jai y.pages (i:Int)=true):pg y i=none:=Je0 (by simpa using h)
theorem Kcf (y:DS)(i j:Nat):pg (Jae y i) j=if j=i then none else pg y j:=by
 unfold Jae
 by_cases h:Jai y.pages (i:Int)=true
 ·rw[if_pos h]
  obtain⟨p,A⟩:=Jf3 h
  have hi:i<y.pages.length:=by
   rcases Oc1 i y.pages.length with z|z
   ·exact z
   rw[Ob4 z]at A;simp at A
  exact Jly _ _ _ _ hi
 rw[if_neg h]
 by_cases e:j=i
 ·subst e;rw[if_pos rfl];exact Kfe h
 rw[if_neg e]
theorem Jx3 (l:List Nat):∀ (y:DS) (j:Nat),pg (Jf4 y l) j=if j∈l then none else pg y j:=by
 induction l with
 |nil=>intro y j;simp[Jf4]
 |cons i l C=>
  intro y j
  show pg (Jf4 (Jae y i) l) j=_
  rw[C,Kcf]
  by_cases z:j∈l
  ·simp[z]
  by_cases A:j=i
  ·simp[A]
  simp[z,A]
theorem Jtm {y:DS}{i:Nat}{p:List UInt8}(h:pg y i=some p):Jai y.pages (i:Int)=true:=by
 cases hu:Jai y.pages (i:Int)with
 |true=>rfl
 |false=>rw[show pg y i=none from Je0 hu]at h;simp at h
theorem Kdp {y:DS}{i:Nat}{p:List UInt8}(h:pg y i=some p):Js (Jae y i).pages+1=Js y.pages:=by
 unfold Jae
 rw[if_pos (Jtm h)]
 obtain⟨q,z⟩:=Jf3 (Jtm h)
 exact Jii _ _ q z
theorem Joz (l:List Nat):∀ (y:DS),l.Nodup→(∀ i∈l,∃ p,pg y i=some p)→Js (Jf4 y l).pages+l.length=Js y.pages:=by
 induction l with
 |nil=>intro y _ _;simp[Jf4]
 |cons i l E=>
  intro y hn A
  obtain⟨p,C⟩:=A i (by simp)
  have H:=Kdp C
  have K:=E (Jae y i) (Og0.1 hn).2 (fun j z=>by
   obtain⟨q,D⟩:=A j (by simp[z])
   refine⟨q,?_⟩
   rw[Kcf,if_neg (fun e:j=i=>(Og0.1 hn).1 (by rw[←e];exact z))]
   exact D)
  show Js (Jf4 (Jae y i) l).pages+(l.length+1)=_
  omega
theorem Jvm (y:DS)(i:Nat):(Jae y i).quota=y.quota∧(Jae y i).fail=y.fail∧(Jae y i).writes=y.writes:=by unfold Jae;split<;>simp
theorem Jin (l:List Nat):∀ y:DS,(Jf4 y l).quota=y.quota∧(Jf4 y l).fail=y.fail∧(Jf4 y l).writes=y.writes:=by
 induction l with
 |nil=>intro y;exact⟨rfl,rfl,rfl⟩
 |cons i l C=>
  intro y
  have z:=C (Jae y i)
  have A:=Jvm y i
  exact⟨z.1.trans A.1,z.2.1.trans A.2.1,z.2.2.trans A.2.2⟩
theorem Kfi (y:DS):pg y (Kb y.pages)=none:=Je0 (Jsj _)
theorem Jij (y:DS)(p:List UInt8)(j:Nat):pg (Zn y p) j=if j=Kb y.pages then some (Jdm p)else pg y j:=by
 unfold pg Zn
 simp only
 have C:=Jeu y.pages
 by_cases h:Kb y.pages<y.pages.length
 ·rw[if_pos h];exact Jly _ _ _ _ h
 rw[if_neg h,Jly _ _ _ _ (by simp;omega)]
 by_cases e:j=Kb y.pages
 ·rw[if_pos e,if_pos e]
 rw[if_neg e,if_neg e,Oa0,Oa0]
 rcases Oc1 j y.pages.length with z|z
 ·rw[Ob0 z]
 rw[Ob4 (l:=y.pages) z,Ob6 z]
 have:j-y.pages.length=0∨1≤j-y.pages.length:=by omega
 rcases this with A|A
 ·rw[A];rfl
 rw[Ob4 (by simpa using A)]
theorem Jm8 (y:DS)(p:List UInt8):Js (Zn y p).pages=Js y.pages+1:=by
 unfold Zn
 simp only
 rw[Jl5 _ _ _ (Jsk y.pages)]
 split
 ·rfl
 simp[Js]
structure Jjo (D E:DS) (ps:List (List UInt8)) (l:List Nat):Prop where
 len:l.length=ps.length
 nodup:l.Nodup
 free:∀ i∈l,pg D i=none
 other:∀ j,j∉l→pg E j=pg D j
 held:∀ (i:Nat) (hi:i<l.length),pg E l[i]=some (Jdm (ps[i]'(by rw[←len];exact hi)))
 used:Js E.pages=Js D.pages+ps.length
 quota:E.quota=D.quota
 fail:E.fail=D.fail
theorem Jjo.nil (y:DS):Jjo y y [] []:=⟨rfl,List.nodup_nil,by simp,fun _ _=>rfl,by simp,rfl,rfl,rfl⟩
theorem Jjo.cons {y A:DS}{p:List UInt8}{ps:List (List UInt8)}{l:List Nat}(h:Jjo (Zn y p) A ps l):Jjo y A (p::ps) (Kb y.pages::l):=by
 have hn:Kb y.pages∉l:=fun z=>by
  have:=h.free _ z
  rw[Jij,if_pos rfl]at this
  simp at this
 refine⟨by simp[h.len],Og0.2 ⟨hn,h.nodup⟩,fun i hi=>?_,fun j C=>?_,fun i hi=>?_,?_,h.quota,h.fail⟩
 ·rcases Of1.1 hi with rfl|z
  ·exact Kfi y
  have:=h.free i z
  rw[Jij]at this
  split at this
  ·simp at this
  exact this
 ·rw[h.other j (fun z=>C (Og1 _ z)),Jij,if_neg (fun e=>C (by simp[e]))]
 ·cases i with
  |zero=>
   simp only[List.getElem_cons_zero]
   rw[h.other _ hn,Jij,if_pos rfl]
  |succ i=>simpa using h.held i (by simpa using hi)
 rw[h.used,Jm8]
 simp
 omega
theorem Jc1:∀ (ps:List (List UInt8))(y:DS),((Uy y ps).2.2=none→Jjo y (Uy y ps).1 ps (Uy y ps).2.1) ∧
  (∀ x,(Uy y ps).2.2=some x→∃ C rest,ps=C++rest∧rest≠[]∧∃ z,Jjo y z C (Uy y ps).2.1∧pg (Uy y ps).1=pg z∧Js (Uy y ps).1.pages=Js z.pages∧(Uy y ps).1.quota=z.quota∧(Uy y ps).1.fail=z.fail ∧
   (x=true→z.quota≤((Js z.pages:Nat):Int))∧(x=false→(Uy y ps).1.writes=(Uy y ps).1.fail))
 |[],y=>⟨fun _=>Jjo.nil y,fun x h=>by simp[Uy]at h⟩
 |p::ps,y=>by
  have H:=Jc1 ps (Zn y p)
  unfold Uy
  by_cases D:y.quota≤((Js y.pages:Nat):Int)
  ·rw[if_pos D]
   refine⟨fun h=>by simp at h,fun x A=>⟨[],p::ps,rfl,by simp,y,Jjo.nil y,rfl,rfl,rfl,rfl,fun _=>D,fun hf=>?_⟩⟩
   simp at A
   subst A
   simp at hf
  rw[if_neg D]
  by_cases E:wrap64 (y.writes+1)=y.fail
  ·rw[if_pos E]
   refine⟨fun h=>by simp at h,fun x A=>⟨[],p::ps,rfl,by simp,y,Jjo.nil y,rfl,rfl,rfl,rfl,fun O=>?_,fun _=>E⟩⟩
   simp at A
   subst A
   simp at O
  rw[if_neg E]
  refine⟨fun h=>(H.1 h).cons,fun x A=>?_⟩
  obtain⟨C,rest,K,M,z,hL,R,U,X,Z,bc,bf⟩:=H.2 x A
  exact⟨p::C,rest,by rw[K];rfl,M,z,hL.cons,R,U,X,Z,bc,bf⟩
theorem Jni (z:DS):∀ (l:List Nat) (ps:List (List UInt8)) (y:l.length=ps.length),(∀ p∈ps,p.length≤56)→(∀ (i:Nat) (hi:i<l.length),pg z l[i]=some (Jdm (ps[i]'(by rw[←y];exact hi))))→Uf z l=.inl ps.flatten
 |[],[],_,_,_=>rfl
 |[],_::_,y,_,_=>by simp at y
 |_::_,[],y,_,_=>by simp at y
 |i::l,p::ps,y,A,C=>by
  have h0:=C 0 (by simp)
  simp at h0
  have H:=Jni z l ps (by simpa using y) (fun q E=>A q (by simp[E])) (fun j D=>C (j+1) (by simpa using D))
  simp only[Uf]
  rw[show z.pages.getD i none=some (Jdm p) from h0]
  simp only[Option.bind_some,Jxe (A p (by simp)),H,List.flatten_cons]
theorem Jlo:∀ (n:Nat)(t:List UInt8),t.length≤n→(Jb5 n t).flatten=t
 |0,[],_=>rfl
 |0,_::_,h=>by simp at h
 |_+1,[],_=>rfl
 |n+1,b::t,h=>by
  simp only[Jb5,List.flatten_cons]
  rw[Jlo n _ (by simp at h ⊢;omega),Ok3]
theorem Js2 (t:List UInt8):(Qu t).flatten=t:=Jlo _ _ (Oa2 _)
theorem Jq0:∀ (n:Nat)(t:List UInt8),∀ p∈Jb5 n t,p.length≤56
 |0,_,p,h=>by simp[Jb5]at h
 |_+1,[],p,h=>by simp[Jb5]at h
 |n+1,b::t,p,h=>by
  simp only[Jb5]at h
  rcases Of1.1 h with rfl|y
  ·rw[Oc7];omega
  exact Jq0 n _ p y
theorem Jzu (t:List UInt8):∀ p∈Qu t,p.length≤56:=Jq0 _ _
theorem Jy1 {t:List UInt8}(h:t≠[]):Qu t≠[]:=by rw[Jr2 t h];simp
theorem Jkd:∀ (n:Nat)(t:List UInt8),56*(Jb5 n t).length≤t.length+55
 |0,t=>by simp[Jb5]
 |_+1,[]=>by simp[Jb5]
 |n+1,b::t=>by
  simp only[Jb5,List.length_cons]
  have:=Jkd n ((b::t).drop 56)
  rw[Of7]at this
  have h0:(b::t).length=t.length+1:=rfl
  rw[h0]at this
  rcases Oc1 (t.length+1) 56 with y|y
  ·have C:t.length+1-56=0:=by omega
   have A:(b::t).drop 56=[]:=Ol8 (by rw[h0];omega)
   rw[A]
   have z:(Jb5 n ([]:List UInt8)).length=0:=by cases n<;>rfl
   rw[z]
   omega
  omega
theorem Jio (t:List UInt8):56*(Qu t).length≤t.length+55:=Jkd _ _
def Jan (y:DS)(l:List Nat)(t:List UInt8):Prop:=l.length=(Qu t).length∧∀ (i:Nat) (hi:i<l.length) (z:i<(Qu t).length),pg y l[i]=some (Jdm (Qu t)[i])
theorem Jan.read {y:DS}{l:List Nat}{t:List UInt8}(h:Jan y l t):Uf y l=.inl t:=by
 rw[Jni y l (Qu t) h.1 (Jzu t) (fun i hi=>h.2 i hi _),Js2]
theorem Jan.keep {y z:DS}{l:List Nat}{t:List UInt8}(h:Jan y l t)(C:∀ i∈l,pg z i=pg y i):Jan z l t:=
 ⟨h.1,fun i hi A=>(C _ (Ob3 hi)).trans (h.2 i hi A)⟩
theorem Jjo.seg {z y:DS}{t:List UInt8}{l:List Nat}(h:Jjo z y (Qu t) l):Jan y l t:=⟨h.len,fun i hi _=>h.held i hi⟩
structure Jke (D E:DS) (ts:List (List UInt8)) (ls:List (List Nat)):Prop where
 len:ls.length=ts.length
 nodup:ls.flatten.Nodup
 free:∀ i∈ls.flatten,pg D i=none
 other:∀ j,j∉ls.flatten→pg E j=pg D j
 segs:∀ (i:Nat) (hi:i<ls.length),Jan E ls[i] (ts[i]'(by rw[←len];exact hi))
 used:Js E.pages=Js D.pages+ls.flatten.length
 quota:E.quota=D.quota
 fail:E.fail=D.fail
theorem Jke.nil (y:DS):Jke y y [] []:=⟨rfl,List.nodup_nil,by simp,fun _ _=>rfl,by simp,rfl,rfl,rfl⟩
theorem Jke.cons {E A F:DS}{t:List UInt8}{O:List (List UInt8)}{l:List Nat}{D:List (List Nat)}(h:Jjo E A (Qu t) l)(k:Jke A F O D):Jke E F (t::O) (l::D):=by
 have X:∀ i∈l,∃ p,pg A i=some p:=fun i hi=>by
  obtain⟨j,z,rfl⟩:=Od5 hi
  exact⟨_,h.held j z⟩
 have C:∀ i∈l,i∉D.flatten:=fun i hi y=>by
  obtain⟨p,M⟩:=X i hi
  rw[k.free i y]at M
  simp at M
 refine⟨by simp[k.len],?_,fun i hi=>?_,fun j z=>?_,fun i hi=>?_,?_,k.quota.trans h.quota,k.fail.trans h.fail⟩
 ·rw[List.flatten_cons,Op3]
  exact⟨h.nodup,k.nodup,fun a R b U e=>C a R (e▸U)⟩
 ·rw[List.flatten_cons]at hi
  rcases Od2.1 hi with y|y
  ·exact h.free i y
  have H:=k.free i y
  by_cases K:i∈l
  ·exact absurd y (C i K)
  rw[h.other i K]at H;exact H
 ·rw[List.flatten_cons,Od2]at z
  rw[k.other j (fun y=>z (.inr y)),h.other j (fun y=>z (.inl y))]
 ·cases i with
  |zero=>exact h.seg.keep fun i hi=>k.other i (C i hi)
  |succ i=>simpa using k.segs i (by simpa using hi)
 rw[k.used,h.used,List.flatten_cons,Oa8,h.len]
 omega
theorem Jpc (y:List (List Nat)):∀ (z:DS) (j:Nat),pg (Jcg z y) j=if j∈y.flatten then none else pg z j:=by
 induction y with
 |nil=>intro z j;simp[Jcg]
 |cons l y D=>
  intro z j
  show pg (Jcg (Jf4 z l) y) j=_
  rw[D,Jx3,List.flatten_cons]
  by_cases A:j∈y.flatten
  ·simp[A]
  by_cases C:j∈l
  ·simp[C]
  simp[A,C]
theorem Jdn (z:List (List Nat)):∀ y:DS,(Jcg y z).quota=y.quota∧(Jcg y z).fail=y.fail∧(Jcg y z).writes=y.writes:=by
 induction z with
 |nil=>intro y;exact⟨rfl,rfl,rfl⟩
 |cons l z D=>
  intro y
  have A:=D (Jf4 y l)
  have C:=Jin l y
  exact⟨A.1.trans C.1,A.2.1.trans C.2.1,A.2.2.trans C.2.2⟩
theorem Jhs:∀ (l:List (Option (List UInt8)))(n:Nat),l.length≤n→Js l=(List.range n).countP fun i=>(l.getD i none).isSome
 |[],n,_=>by simp[Js]
 |x::l,0,h=>by simp at h
 |x::l,n+1,h=>by
  have y:=Jhs l n (by simpa using h)
  rw[List.range_succ_eq_map,On3,List.countP_map]
  have e:((fun i=>((x::l).getD i none).isSome) ∘ Nat.succ)=fun i=>(l.getD i none).isSome:=by funext i;simp
  rw[e,←y]
  simp[Js,On3]
theorem Jz2 {y z:DS}(h:∀ j,pg z j=pg y j):Js z.pages=Js y.pages:=by
 rw[Jhs z.pages (z.pages.length+y.pages.length) (by omega),Jhs y.pages (z.pages.length+y.pages.length) (by omega)]
 congr 1
 funext i
 rw[show z.pages.getD i none=y.pages.getD i none from h i]
structure Kft (D E:DS):Prop where
 pages:∀ j,pg E j=pg D j
 used:Js E.pages=Js D.pages
 quota:E.quota=D.quota
 fail:E.fail=D.fail
theorem Kft.trans {y z F:DS}(h:Kft y z)(k:Kft z F):Kft y F:=⟨fun j=>(k.pages j).trans (h.pages j),k.used.trans h.used,k.quota.trans h.quota,k.fail.trans h.fail⟩
theorem Jso {y:DS}{ps:List (List UInt8)}{x:Bool}(h:(Uy y ps).2.2=some x):Kft y (Jf4 (Uy y ps).1 (Uy y ps).2.1)∧ps≠[]∧(x=true→y.quota≤((Js y.pages+ps.length:Nat):Int)):=by
 obtain⟨U,rest,C,O,X,hL,A,Z,D,E,H,_⟩:=(Jc1 ps y).2 x h
 have hn:=Jin (Uy y ps).2.1 (Uy y ps).1
 have M:∀ i∈(Uy y ps).2.1,∃ p,pg (Uy y ps).1 i=some p:=fun i hi=>by
  obtain⟨j,K,e⟩:=Od5 hi
  have:=hL.held j K
  rw[e]at this
  rw[A]
  exact⟨_,this⟩
 have bf:=Joz _ _ hL.nodup M
 refine⟨⟨fun j=>?_,?_,hn.1.trans (D.trans hL.quota),hn.2.1.trans (E.trans hL.fail)⟩,?_,fun R=>?_⟩
 ·rw[Jx3,A]
  by_cases z:j∈(Uy y ps).2.1
  ·rw[if_pos z,hL.free j z]
  rw[if_neg z,hL.other j z]
 ·have:=hL.used
  have:=hL.len
  omega
 ·rw[C];intro e;exact O (List.append_eq_nil_iff.1 e).2
 have:=H R
 rw[hL.quota,hL.used]at this
 have bc:U.length≤ps.length:=by rw[C];simp
 omega
theorem Jjv:∀ (z:List (List UInt8))(y:DS),(Jq y z).2.2=none→Jke y (Jq y z).1 z (Jq y z).2.1
 |[],y,_=>Jke.nil y
 |t::z,y,h=>by
  have A:=(Jc1 (Qu t) y).1
  rcases hr:Uy y (Qu t)with⟨E,l,r⟩
  rw[hr]at A
  unfold Jq at h ⊢
  rw[hr]at h ⊢
  cases r with
  |none=>exact Jke.cons (A rfl) (Jjv z E h)
  |some x=>simp at h
theorem Jj4:∀ (z:List (List UInt8))(y:DS)(x:Bool),(Jq y z).2.2=some x→Kft y (Jcg (Jq y z).1 (Jq y z).2.1)∧z≠[]∧(x=true→y.quota≤((Js y.pages+Jch z:Nat):Int))
 |[],y,x,h=>by simp[Jq]at h
 |t::z,y,x,h=>by
  have h0:=fun M=>@Jso y (Qu t) M
  have O:=(Jc1 (Qu t) y).1
  rcases hr:Uy y (Qu t)with⟨E,l,r⟩
  rw[hr]at h0 O
  unfold Jq at h ⊢
  rw[hr]at h ⊢
  cases r with
  |some M=>
   simp at h
   subst h
   have R:=h0 M rfl
   refine⟨R.1,by simp,fun K=>?_⟩
   have:=R.2.2 K
   rw[Ja1]
   omega
  |none=>
   simp only at h ⊢
   have hL:=O rfl
   have X:=Jj4 z E x h
   have H:=X.1
   simp only at hL
   have bf:∀ i∈l,∃ p,pg E i=some p:=fun i hi=>by
    obtain⟨j,A,rfl⟩:=Od5 hi
    exact⟨_,hL.held j A⟩
   have bj:=Joz l E hL.nodup bf
   have hn:=Jin l E
   -- let bh in any order
   have U:∀ j,pg (Jcg (Jq E z).1 (l::(Jq E z).2.1)) j=pg y j:=fun j=>by
    rw[Jpc,List.flatten_cons]
    have A:=H.pages j
    rw[Jpc]at A
    by_cases C:j∈l
    ·rw[if_pos (by simp[C]),hL.free j C]
    by_cases D:j∈(Jq E z).2.1.flatten
    ·rw[if_pos (by simp[D])]
     rw[if_pos D,hL.other j C]at A
     exact A
    rw[if_neg (by simp[C];simpa using D)]
    rw[if_neg D,hL.other j C]at A
    exact A
   refine⟨⟨U,?_,?_,?_⟩,by simp,fun K=>?_⟩
   ·exact Jz2 U
   ·exact(Jdn _ _).1.trans ((Jdn _ _).1.symm.trans (H.quota.trans hL.quota))
   ·exact(Jdn _ _).2.1.trans ((Jdn _ _).2.1.symm.trans (H.fail.trans hL.fail))
   have Z:=X.2.2 K
   have bi:=hL.used
   have bc:=hL.quota
   rw[Ja1]
   rw[bc]at Z
   omega
theorem Jkf:∀ (ps:List (List UInt8))(y:DS),0≤y.writes→y.writes+ps.length≤4000000000000000000→(y.writes≤(Uy y ps).1.writes∧(Uy y ps).1.writes≤y.writes+ps.length)∧((Uy y ps).2.2=some false→(Uy y ps).1.writes=y.fail∧y.writes<(Uy y ps).1.writes)∧((Uy y ps).2.2≠some false→¬ (y.writes<y.fail∧y.fail≤(Uy y ps).1.writes))
 |[],y,_,_=>by simp[Uy]
 |p::ps,y,h0,E=>by
  have z:wrap64 (y.writes+1)=y.writes+1:=by unfold wrap64;simp at E;omega
  have C:=Jkf ps (Zn y p) (by simp only[Zn,z];omega) (by simp only[Zn,z];simp at E;omega)
  simp only[Zn,z]at C
  unfold Uy
  by_cases D:y.quota≤((Js y.pages:Nat):Int)
  ·rw[if_pos D]
   simp
   omega
  rw[if_neg D]
  by_cases A:wrap64 (y.writes+1)=y.fail
  ·rw[if_pos A]
   rw[z]at A
   simp[Jvn,z]
   omega
  rw[if_neg A]
  rw[z]at A
  simp only[Zn,z,List.length_cons]at C ⊢
  refine⟨by omega,fun h=>?_,fun h=>?_⟩
  ·have:=C.2.1 h;omega
  have:=C.2.2 h;omega
theorem Jd9:∀ (z:List (List UInt8))(y:DS),0≤y.writes→y.writes+Jch z≤4000000000000000000→(y.writes≤(Jq y z).1.writes∧(Jq y z).1.writes≤y.writes+Jch z)∧((Jq y z).2.2=some false→(Jq y z).1.writes=y.fail∧y.writes<(Jq y z).1.writes)∧((Jq y z).2.2≠some false→¬ (y.writes<y.fail∧y.fail≤(Jq y z).1.writes))
 |[],y,_,_=>by simp[Jq,Jch]
 |t::z,y,h0,H=>by
  rw[Ja1]at H
  have A:=Jkf (Qu t) y h0 (by omega)
  have D:=(Jc1 (Qu t) y).1
  rcases hr:Uy y (Qu t)with⟨E,l,r⟩
  rw[hr]at A D
  unfold Jq
  rw[hr,Ja1]
  cases r with
  |some M=>
   have hn:=(Jin l E).2.2
   simp only at A ⊢
   rw[hn]
   refine⟨by omega,fun h=>A.2.1 h,fun h=>A.2.2 h⟩
  |none=>
   have hL:=D rfl
   have hf:=hL.fail
   simp only at A hf ⊢
   have C:=Jd9 z E (by omega) (by omega)
   rw[hf]at C
   have K:=A.2.2 (by simp)
   refine⟨by omega,fun h=>?_,fun h=>?_⟩
   ·have:=C.2.1 h;omega
   have:=C.2.2 h;omega
end Go.Proofs.YtjjdldddcegjiaaGreatDoor
