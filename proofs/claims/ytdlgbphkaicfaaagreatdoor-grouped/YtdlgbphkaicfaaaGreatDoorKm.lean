/- Rows in new memory: a list of rows, each in a block of its own. -/
import Derived.Test.YtdlgbphkaicfaaaGreatDoorTi
import Derived.Test.YtdlgbphkaicfaaaGreatDoorKq
import Derived.Test.YtdlgbphkaicfaaaGreatDoorKk
import Derived.Deep.RegionHeld3
set_option maxHeartbeats 1000000
set_option maxRecDepth 100000
namespace Go.Proofs.YtdlgbphkaicfaaaGreatDoor
open Go.RowKit Tryz
def Jad (b:Nat)(r:List V):Value:=.slice (some ⟨b,0,none⟩) r.length r.length
structure Jcu (w:World) (B g:Nat) (bs:List Nat) (rs:List (List V)):Prop where
 len:bs.length=rs.length
 outer:w.rowIs g 55 rs.length (fun j=>Jad (bs.getD j 0) (rs.getD j []))
 rows:∀ (i:Nat) b r,bs[i]?=some b→rs[i]?=some r→Kv w b r []
 from_:B≤g∧∀ b∈bs,B≤b∧b≠g
 nodup:bs.Nodup
theorem Jcu.below {w w':World}{B g:Nat}{bs:List Nat}{rs:List (List V)}(h:Jcu w B g bs rs)(y:Below w.heap.size w w'):Jcu w' B g bs rs:=
 ⟨h.len,h.outer.of_block (y.block g h.outer.lt),fun i b r hi A=>(h.rows i b r hi A).of_block (y.block b (h.rows i b r hi A).lt),h.from_,h.nodup⟩
theorem Jcu.rowsAt {w:World}{B g:Nat}{bs:List Nat}{rs:List (List V)}(h:Jcu w B g bs rs):Zd w (some ⟨g,0,none⟩) (List.zipWith (fun b (r:List V)=>((some ⟨b,0,none⟩:Option Addr),r.length)) bs rs) rs:=by
 refine⟨by simp[h.len],.inr ⟨g,0,rfl,h.outer.lt,fun i v D=>?_⟩,fun i x r H E=>?_⟩
 ·have hi:i<rs.length:=by
   rcases Oc1 i rs.length with y|y
   ·exact y
   ·rw[Ob4 (by simp;omega)]at D;simp at D
  have A:i<bs.length:=by rw[h.len];exact hi
  rw[Od0,h.outer.cell hi]
  rw[Ok5,Ok5,Oa3 hi,Oa3 A]at D
  simp[Je1]at D
  simp[Jad,hi,A,←D]
 have hi:i<rs.length:=by
  rcases Oc1 i rs.length with y|y
  ·exact y
  ·rw[Ob4 y]at E;simp at E
 have A:i<bs.length:=by rw[h.len];exact hi
 rw[Ok5]at H
 simp[hi,A]at H E
 subst H E
 exact(h.rows i bs[i] rs[i] (by simp[A]) (by simp[hi])).vals
theorem Jip:(prog.info? 55).map (fun i=>(i.zero,i.size,i.bytes))=some (some (.slice none 0 0),1,24):=by kernel_rfl
theorem Jtn (n:Nat)(hn:n≤1000)(W:World):∃ C,(Instr.makeSlice 55 (.int .i64 (n:Int)) (.int .i64 (n:Int))).run prog W=.ok (.slice (some ⟨W.heap.size,0,none⟩) n n) (W.alloc (.cells C 63))∧Kv (W.alloc (.cells C 63)) W.heap.size (List.replicate n Jf) []:=by
 obtain⟨i,hi,E,D,A⟩:=info_parts Jow
 have y:=run_make (P:=prog) W 55 63 i _ (by kernel_rfl) hi E .i64 .i64 (n:Int) (n:Int) (by omega) (Int.le_refl _) (by rw[A];omega) (by omega)
 rw[Int.toNat_natCast,D]at y
 exact⟨_,y,_,(Oh1 W _).1,by rw[Od7];exact Jt9 n⟩
end Go.Proofs.YtdlgbphkaicfaaaGreatDoor
namespace Go.Proofs.YtdlgbphkaicfaaaGreatDoor
open Go.RowKit
def pg (y:DS)(i:Nat):Option (List UInt8):=y.pages.getD i none
theorem Jly (l:List (Option (List UInt8)))(i j:Nat)(x:Option (List UInt8))(hi:i<l.length):(l.set i x).getD j none=if j=i then x else l.getD j none:=by
 rw[Oa0,Oa0]
 by_cases h:j=i
 ·subst h;simp[hi]
 rw[if_neg h,Od1 (Oc5 h)]
theorem Kfe {y:DS}{i:Nat}(h:¬ Jai y.pages (i:Int)=true):pg y i=none:=Je0 (by simpa using h)
theorem Kcf (y:DS)(i j:Nat):pg (Jae y i) j=if j=i then none else pg y j:=by
 unfold Jae
 by_cases h:Jai y.pages (i:Int)=true
 ·rw[if_pos h]
  obtain⟨p,D⟩:=Jf3 h
  have hi:i<y.pages.length:=by
   rcases Oc1 i y.pages.length with A|A
   ·exact A
   rw[Ob4 A]at D;simp at D
  exact Jly _ _ _ _ hi
 rw[if_neg h]
 by_cases e:j=i
 ·subst e;rw[if_pos rfl];exact Kfe h
 rw[if_neg e]
theorem Jx3 (l:List Nat):∀ (y:DS) (j:Nat),pg (Jf4 y l) j=if j∈l then none else pg y j:=by
 induction l with
 |nil=>intro y j;simp[Jf4]
 |cons i l A=>
  intro y j
  show pg (Jf4 (Jae y i) l) j=_
  rw[A,Kcf]
  by_cases h1:j∈l
  ·simp[h1]
  by_cases h2:j=i
  ·simp[h2]
  simp[h1,h2]
theorem Jtm {y:DS}{i:Nat}{p:List UInt8}(h:pg y i=some p):Jai y.pages (i:Int)=true:=by
 cases hu:Jai y.pages (i:Int)with
 |true=>rfl
 |false=>rw[show pg y i=none from Je0 hu]at h;simp at h
theorem Kdp {y:DS}{i:Nat}{p:List UInt8}(h:pg y i=some p):Js (Jae y i).pages+1=Js y.pages:=by
 unfold Jae
 rw[if_pos (Jtm h)]
 obtain⟨q,A⟩:=Jf3 (Jtm h)
 exact Jii _ _ q A
theorem Joz (l:List Nat):∀ (y:DS),l.Nodup→(∀ i∈l,∃ p,pg y i=some p)→Js (Jf4 y l).pages+l.length=Js y.pages:=by
 induction l with
 |nil=>intro y _ _;simp[Jf4]
 |cons i l K=>
  intro y hn D
  obtain⟨p,E⟩:=D i (by simp)
  have h1:=Kdp E
  have h2:=K (Jae y i) (Og0.1 hn).2 (fun j A=>by
   obtain⟨q,H⟩:=D j (by simp[A])
   refine⟨q,?_⟩
   rw[Kcf,if_neg (fun e:j=i=>(Og0.1 hn).1 (by rw[←e];exact A))]
   exact H)
  show Js (Jf4 (Jae y i) l).pages+(l.length+1)=_
  omega
theorem Jvm (y:DS)(i:Nat):(Jae y i).quota=y.quota∧(Jae y i).fail=y.fail∧(Jae y i).writes=y.writes:=by unfold Jae;split<;>simp
theorem Jin (l:List Nat):∀ y:DS,(Jf4 y l).quota=y.quota∧(Jf4 y l).fail=y.fail∧(Jf4 y l).writes=y.writes:=by
 induction l with
 |nil=>intro y;exact⟨rfl,rfl,rfl⟩
 |cons i l A=>
  intro y
  have h1:=A (Jae y i)
  have h2:=Jvm y i
  exact⟨h1.1.trans h2.1,h1.2.1.trans h2.2.1,h1.2.2.trans h2.2.2⟩
theorem Kfi (y:DS):pg y (Kb y.pages)=none:=Je0 (Jsj _)
theorem Jij (y:DS)(p:List UInt8)(j:Nat):pg (Zn y p) j=if j=Kb y.pages then some (Jdm p)else pg y j:=by
 unfold pg Zn
 simp only
 have E:=Jeu y.pages
 by_cases h:Kb y.pages<y.pages.length
 ·rw[if_pos h];exact Jly _ _ _ _ h
 rw[if_neg h,Jly _ _ _ _ (by simp;omega)]
 by_cases e:j=Kb y.pages
 ·rw[if_pos e,if_pos e]
 rw[if_neg e,if_neg e,Oa0,Oa0]
 rcases Oc1 j y.pages.length with A|A
 ·rw[Ob0 A]
 rw[Ob4 (l:=y.pages) A,Ob6 A]
 have:j-y.pages.length=0∨1≤j-y.pages.length:=by omega
 rcases this with D|D
 ·rw[D];rfl
 rw[Ob4 (by simpa using D)]
theorem Jm8 (y:DS)(p:List UInt8):Js (Zn y p).pages=Js y.pages+1:=by
 unfold Zn
 simp only
 rw[Jl5 _ _ _ (Jsk y.pages)]
 split
 ·rfl
 simp[Js]
structure Jjo (D E:DS) (ps:List (List UInt8)) (l:List Nat):Prop where
 len:l.length=ps.length
 nodup:l.Nodup
 free:∀ i∈l,pg D i=none
 other:∀ j,j∉l→pg E j=pg D j
 held:∀ (i:Nat) (hi:i<l.length),pg E l[i]=some (Jdm (ps[i]'(by rw[←len];exact hi)))
 used:Js E.pages=Js D.pages+ps.length
 quota:E.quota=D.quota
 fail:E.fail=D.fail
theorem Jjo.nil (y:DS):Jjo y y [] []:=⟨rfl,List.nodup_nil,by simp,fun _ _=>rfl,by simp,rfl,rfl,rfl⟩
theorem Jjo.cons {y D:DS}{p:List UInt8}{ps:List (List UInt8)}{l:List Nat}(h:Jjo (Zn y p) D ps l):Jjo y D (p::ps) (Kb y.pages::l):=by
 have hn:Kb y.pages∉l:=fun A=>by
  have:=h.free _ A
  rw[Jij,if_pos rfl]at this
  simp at this
 refine⟨by simp[h.len],Og0.2 ⟨hn,h.nodup⟩,fun i hi=>?_,fun j E=>?_,fun i hi=>?_,?_,h.quota,h.fail⟩
 ·rcases Of1.1 hi with rfl|A
  ·exact Kfi y
  have:=h.free i A
  rw[Jij]at this
  split at this
  ·simp at this
  exact this
 ·rw[h.other j (fun A=>E (Og1 _ A)),Jij,if_neg (fun e=>E (by simp[e]))]
 ·cases i with
  |zero=>
   simp only[List.getElem_cons_zero]
   rw[h.other _ hn,Jij,if_pos rfl]
  |succ i=>simpa using h.held i (by simpa using hi)
 rw[h.used,Jm8]
 simp
 omega
theorem Jc1:∀ (ps:List (List UInt8))(y:DS),((Uy y ps).2.2=none→Jjo y (Uy y ps).1 ps (Uy y ps).2.1) ∧
  (∀ x,(Uy y ps).2.2=some x→∃ E rest,ps=E++rest∧rest≠[]∧∃ A,Jjo y A E (Uy y ps).2.1∧pg (Uy y ps).1=pg A∧Js (Uy y ps).1.pages=Js A.pages∧(Uy y ps).1.quota=A.quota∧(Uy y ps).1.fail=A.fail ∧
   (x=true→A.quota≤((Js A.pages:Nat):Int))∧(x=false→(Uy y ps).1.writes=(Uy y ps).1.fail))
 |[],y=>⟨fun _=>Jjo.nil y,fun x h=>by simp[Uy]at h⟩
 |p::ps,y=>by
  have H:=Jc1 ps (Zn y p)
  unfold Uy
  by_cases h1:y.quota≤((Js y.pages:Nat):Int)
  ·rw[if_pos h1]
   refine⟨fun h=>by simp at h,fun x D=>⟨[],p::ps,rfl,by simp,y,Jjo.nil y,rfl,rfl,rfl,rfl,fun _=>h1,fun hf=>?_⟩⟩
   simp at D
   subst D
   simp at hf
  rw[if_neg h1]
  by_cases h2:wrap64 (y.writes+1)=y.fail
  ·rw[if_pos h2]
   refine⟨fun h=>by simp at h,fun x D=>⟨[],p::ps,rfl,by simp,y,Jjo.nil y,rfl,rfl,rfl,rfl,fun O=>?_,fun _=>h2⟩⟩
   simp at D
   subst D
   simp at O
  rw[if_neg h2]
  refine⟨fun h=>(H.1 h).cons,fun x D=>?_⟩
  obtain⟨E,rest,K,M,A,hL,R,U,X,Z,ba,bb⟩:=H.2 x D
  exact⟨p::E,rest,by rw[K];rfl,M,A,hL.cons,R,U,X,Z,ba,bb⟩
theorem Jni (A:DS):∀ (l:List Nat) (ps:List (List UInt8)) (y:l.length=ps.length),(∀ p∈ps,p.length≤56)→(∀ (i:Nat) (hi:i<l.length),pg A l[i]=some (Jdm (ps[i]'(by rw[←y];exact hi))))→Uf A l=.inl ps.flatten
 |[],[],_,_,_=>rfl
 |[],_::_,y,_,_=>by simp at y
 |_::_,[],y,_,_=>by simp at y
 |i::l,p::ps,y,D,E=>by
  have h0:=E 0 (by simp)
  simp at h0
  have M:=Jni A l ps (by simpa using y) (fun q K=>D q (by simp[K])) (fun j H=>E (j+1) (by simpa using H))
  simp only[Uf]
  rw[show A.pages.getD i none=some (Jdm p) from h0]
  simp only[Option.bind_some,Jxe (D p (by simp)),M,List.flatten_cons]
theorem Jlo:∀ (n:Nat)(t:List UInt8),t.length≤n→(Jb5 n t).flatten=t
 |0,[],_=>rfl
 |0,_::_,h=>by simp at h
 |_+1,[],_=>rfl
 |n+1,b::t,h=>by
  simp only[Jb5,List.flatten_cons]
  rw[Jlo n _ (by simp at h ⊢;omega),Ok3]
theorem Js2 (t:List UInt8):(Qu t).flatten=t:=Jlo _ _ (Oa2 _)
theorem Jq0:∀ (n:Nat)(t:List UInt8),∀ p∈Jb5 n t,p.length≤56
 |0,_,p,h=>by simp[Jb5]at h
 |_+1,[],p,h=>by simp[Jb5]at h
 |n+1,b::t,p,h=>by
  simp only[Jb5]at h
  rcases Of1.1 h with rfl|y
  ·rw[Oc7];omega
  exact Jq0 n _ p y
theorem Jzu (t:List UInt8):∀ p∈Qu t,p.length≤56:=Jq0 _ _
theorem Jy1 {t:List UInt8}(h:t≠[]):Qu t≠[]:=by rw[Jr2 t h];simp
theorem Jkd:∀ (n:Nat)(t:List UInt8),56*(Jb5 n t).length≤t.length+55
 |0,t=>by simp[Jb5]
 |_+1,[]=>by simp[Jb5]
 |n+1,b::t=>by
  simp only[Jb5,List.length_cons]
  have:=Jkd n ((b::t).drop 56)
  rw[Of7]at this
  have h0:(b::t).length=t.length+1:=rfl
  rw[h0]at this
  rcases Oc1 (t.length+1) 56 with y|y
  ·have E:t.length+1-56=0:=by omega
   have D:(b::t).drop 56=[]:=Ol8 (by rw[h0];omega)
   rw[D]
   have A:(Jb5 n ([]:List UInt8)).length=0:=by cases n<;>rfl
   rw[A]
   omega
  omega
theorem Jio (t:List UInt8):56*(Qu t).length≤t.length+55:=Jkd _ _
def Jan (y:DS)(l:List Nat)(t:List UInt8):Prop:=l.length=(Qu t).length∧∀ (i:Nat) (hi:i<l.length) (A:i<(Qu t).length),pg y l[i]=some (Jdm (Qu t)[i])
theorem Jan.read {y:DS}{l:List Nat}{t:List UInt8}(h:Jan y l t):Uf y l=.inl t:=by
 rw[Jni y l (Qu t) h.1 (Jzu t) (fun i hi=>h.2 i hi _),Js2]
theorem Jan.keep {y A:DS}{l:List Nat}{t:List UInt8}(h:Jan y l t)(E:∀ i∈l,pg A i=pg y i):Jan A l t:=
 ⟨h.1,fun i hi D=>(E _ (Ob3 hi)).trans (h.2 i hi D)⟩
theorem Jjo.seg {A y:DS}{t:List UInt8}{l:List Nat}(h:Jjo A y (Qu t) l):Jan y l t:=⟨h.len,fun i hi _=>h.held i hi⟩
structure Jke (D E:DS) (ts:List (List UInt8)) (ls:List (List Nat)):Prop where
 len:ls.length=ts.length
 nodup:ls.flatten.Nodup
 free:∀ i∈ls.flatten,pg D i=none
 other:∀ j,j∉ls.flatten→pg E j=pg D j
 segs:∀ (i:Nat) (hi:i<ls.length),Jan E ls[i] (ts[i]'(by rw[←len];exact hi))
 used:Js E.pages=Js D.pages+ls.flatten.length
 quota:E.quota=D.quota
 fail:E.fail=D.fail
theorem Jke.nil (y:DS):Jke y y [] []:=⟨rfl,List.nodup_nil,by simp,fun _ _=>rfl,by simp,rfl,rfl,rfl⟩
theorem Jke.cons {K D F:DS}{t:List UInt8}{R:List (List UInt8)}{l:List Nat}{H:List (List Nat)}(h:Jjo K D (Qu t) l)(k:Jke D F R H):Jke K F (t::R) (l::H):=by
 have Z:∀ i∈l,∃ p,pg D i=some p:=fun i hi=>by
  obtain⟨j,A,rfl⟩:=Od5 hi
  exact⟨_,h.held j A⟩
 have E:∀ i∈l,i∉H.flatten:=fun i hi y=>by
  obtain⟨p,O⟩:=Z i hi
  rw[k.free i y]at O
  simp at O
 refine⟨by simp[k.len],?_,fun i hi=>?_,fun j A=>?_,fun i hi=>?_,?_,k.quota.trans h.quota,k.fail.trans h.fail⟩
 ·rw[List.flatten_cons,Op3]
  exact⟨h.nodup,k.nodup,fun a U b X e=>E a U (e▸X)⟩
 ·rw[List.flatten_cons]at hi
  rcases Od2.1 hi with y|y
  ·exact h.free i y
  have h1:=k.free i y
  by_cases M:i∈l
  ·exact absurd y (E i M)
  rw[h.other i M]at h1;exact h1
 ·rw[List.flatten_cons,Od2]at A
  rw[k.other j (fun y=>A (.inr y)),h.other j (fun y=>A (.inl y))]
 ·cases i with
  |zero=>exact h.seg.keep fun i hi=>k.other i (E i hi)
  |succ i=>simpa using k.segs i (by simpa using hi)
 rw[k.used,h.used,List.flatten_cons,Oa8,h.len]
 omega
theorem Jpc (y:List (List Nat)):∀ (A:DS) (j:Nat),pg (Jcg A y) j=if j∈y.flatten then none else pg A j:=by
 induction y with
 |nil=>intro A j;simp[Jcg]
 |cons l y D=>
  intro A j
  show pg (Jcg (Jf4 A l) y) j=_
  rw[D,Jx3,List.flatten_cons]
  by_cases h1:j∈y.flatten
  ·simp[h1]
  by_cases h2:j∈l
  ·simp[h2]
  simp[h1,h2]
theorem Jdn (A:List (List Nat)):∀ y:DS,(Jcg y A).quota=y.quota∧(Jcg y A).fail=y.fail∧(Jcg y A).writes=y.writes:=by
 induction A with
 |nil=>intro y;exact⟨rfl,rfl,rfl⟩
 |cons l A D=>
  intro y
  have h1:=D (Jf4 y l)
  have h2:=Jin l y
  exact⟨h1.1.trans h2.1,h1.2.1.trans h2.2.1,h1.2.2.trans h2.2.2⟩
theorem Jhs:∀ (l:List (Option (List UInt8)))(n:Nat),l.length≤n→Js l=(List.range n).countP fun i=>(l.getD i none).isSome
 |[],n,_=>by simp[Js]
 |x::l,0,h=>by simp at h
 |x::l,n+1,h=>by
  have y:=Jhs l n (by simpa using h)
  rw[List.range_succ_eq_map,On3,List.countP_map]
  have e:((fun i=>((x::l).getD i none).isSome) ∘ Nat.succ)=fun i=>(l.getD i none).isSome:=by funext i;simp
  rw[e,←y]
  simp[Js,List.countP_cons]
theorem Jz2 {y A:DS}(h:∀ j,pg A j=pg y j):Js A.pages=Js y.pages:=by
 rw[Jhs A.pages (A.pages.length+y.pages.length) (by omega),Jhs y.pages (A.pages.length+y.pages.length) (by omega)]
 congr 1
 funext i
 rw[show A.pages.getD i none=y.pages.getD i none from h i]
structure Kft (D E:DS):Prop where
 pages:∀ j,pg E j=pg D j
 used:Js E.pages=Js D.pages
 quota:E.quota=D.quota
 fail:E.fail=D.fail
theorem Jso {y:DS}{ps:List (List UInt8)}{x:Bool}(h:(Uy y ps).2.2=some x):Kft y (Jf4 (Uy y ps).1 (Uy y ps).2.1)∧ps≠[]∧(x=true→y.quota≤((Js y.pages+ps.length:Nat):Int)):=by
 obtain⟨X,rest,D,R,Z,hL,h1,h2,E,H,K,_⟩:=(Jc1 ps y).2 x h
 have hn:=Jin (Uy y ps).2.1 (Uy y ps).1
 have O:∀ i∈(Uy y ps).2.1,∃ p,pg (Uy y ps).1 i=some p:=fun i hi=>by
  obtain⟨j,M,e⟩:=Od5 hi
  have:=hL.held j M
  rw[e]at this
  rw[h1]
  exact⟨_,this⟩
 have bb:=Joz _ _ hL.nodup O
 refine⟨⟨fun j=>?_,?_,hn.1.trans (E.trans hL.quota),hn.2.1.trans (H.trans hL.fail)⟩,?_,fun U=>?_⟩
 ·rw[Jx3,h1]
  by_cases A:j∈(Uy y ps).2.1
  ·rw[if_pos A,hL.free j A]
  rw[if_neg A,hL.other j A]
 ·have:=hL.used
  have:=hL.len
  omega
 ·rw[D];intro e;exact R (List.append_eq_nil_iff.1 e).2
 have:=K U
 rw[hL.quota,hL.used]at this
 have ba:X.length≤ps.length:=by rw[D];simp
 omega
theorem Jjv:∀ (A:List (List UInt8))(y:DS),(Jq y A).2.2=none→Jke y (Jq y A).1 A (Jq y A).2.1
 |[],y,_=>Jke.nil y
 |t::A,y,h=>by
  have h1:=(Jc1 (Qu t) y).1
  rcases hr:Uy y (Qu t)with⟨E,l,r⟩
  rw[hr]at h1
  unfold Jq at h ⊢
  rw[hr]at h ⊢
  cases r with
  |none=>exact Jke.cons (h1 rfl) (Jjv A E h)
  |some x=>simp at h
theorem Jj4:∀ (A:List (List UInt8))(y:DS)(x:Bool),(Jq y A).2.2=some x→Kft y (Jcg (Jq y A).1 (Jq y A).2.1)∧A≠[]∧(x=true→y.quota≤((Js y.pages+Jch A:Nat):Int))
 |[],y,x,h=>by simp[Jq]at h
 |t::A,y,x,h=>by
  have h0:=fun R=>@Jso y (Qu t) R
  have h1:=(Jc1 (Qu t) y).1
  rcases hr:Uy y (Qu t)with⟨E,l,r⟩
  rw[hr]at h0 h1
  unfold Jq at h ⊢
  rw[hr]at h ⊢
  cases r with
  |some R=>
   simp at h
   subst h
   have h2:=h0 R rfl
   refine⟨h2.1,by simp,fun O=>?_⟩
   have:=h2.2.2 O
   rw[Ja1]
   omega
  |none=>
   simp only at h ⊢
   have hL:=h1 rfl
   have X:=Jj4 A E x h
   have M:=X.1
   simp only at hL
   have bb:∀ i∈l,∃ p,pg E i=some p:=fun i hi=>by
    obtain⟨j,D,rfl⟩:=Od5 hi
    exact⟨_,hL.held j D⟩
   have bh:=Joz l E hL.nodup bb
   have hn:=Jin l E
   -- let bc in any order
   have U:∀ j,pg (Jcg (Jq E A).1 (l::(Jq E A).2.1)) j=pg y j:=fun j=>by
    rw[Jpc,List.flatten_cons]
    have D:=M.pages j
    rw[Jpc]at D
    by_cases H:j∈l
    ·rw[if_pos (by simp[H]),hL.free j H]
    by_cases K:j∈(Jq E A).2.1.flatten
    ·rw[if_pos (by simp[K])]
     rw[if_pos K,hL.other j H]at D
     exact D
    rw[if_neg (by simp[H];simpa using K)]
    rw[if_neg K,hL.other j H]at D
    exact D
   refine⟨⟨U,?_,?_,?_⟩,by simp,fun O=>?_⟩
   ·exact Jz2 U
   ·exact(Jdn _ _).1.trans ((Jdn _ _).1.symm.trans (M.quota.trans hL.quota))
   ·exact(Jdn _ _).2.1.trans ((Jdn _ _).2.1.symm.trans (M.fail.trans hL.fail))
   have Z:=X.2.2 O
   have bf:=hL.used
   have ba:=hL.quota
   rw[Ja1]
   rw[ba]at Z
   omega
theorem Jkf:∀ (ps:List (List UInt8))(y:DS),0≤y.writes→y.writes+ps.length≤4000000000000000000→(y.writes≤(Uy y ps).1.writes∧(Uy y ps).1.writes≤y.writes+ps.length)∧((Uy y ps).2.2=some false→(Uy y ps).1.writes=y.fail∧y.writes<(Uy y ps).1.writes)∧((Uy y ps).2.2≠some false→¬ (y.writes<y.fail∧y.fail≤(Uy y ps).1.writes))
 |[],y,_,_=>by simp[Uy]
 |p::ps,y,h0,E=>by
  have A:wrap64 (y.writes+1)=y.writes+1:=by unfold wrap64;simp at E;omega
  have D:=Jkf ps (Zn y p) (by simp only[Zn,A];omega) (by simp only[Zn,A];simp at E;omega)
  simp only[Zn,A]at D
  unfold Uy
  by_cases h1:y.quota≤((Js y.pages:Nat):Int)
  ·rw[if_pos h1]
   simp
   omega
  rw[if_neg h1]
  by_cases h2:wrap64 (y.writes+1)=y.fail
  ·rw[if_pos h2]
   rw[A]at h2
   simp[Jvn,A]
   omega
  rw[if_neg h2]
  rw[A]at h2
  simp only[Zn,A,List.length_cons]at D ⊢
  refine⟨by omega,fun h=>?_,fun h=>?_⟩
  ·have:=D.2.1 h;omega
  have:=D.2.2 h;omega
theorem Jd9:∀ (A:List (List UInt8))(y:DS),0≤y.writes→y.writes+Jch A≤4000000000000000000→(y.writes≤(Jq y A).1.writes∧(Jq y A).1.writes≤y.writes+Jch A)∧((Jq y A).2.2=some false→(Jq y A).1.writes=y.fail∧y.writes<(Jq y A).1.writes)∧((Jq y A).2.2≠some false→¬ (y.writes<y.fail∧y.fail≤(Jq y A).1.writes))
 |[],y,_,_=>by simp[Jq,Jch]
 |t::A,y,h0,K=>by
  rw[Ja1]at K
  have h1:=Jkf (Qu t) y h0 (by omega)
  have H:=(Jc1 (Qu t) y).1
  rcases hr:Uy y (Qu t)with⟨E,l,r⟩
  rw[hr]at h1 H
  unfold Jq
  rw[hr,Ja1]
  cases r with
  |some O=>
   have hn:=(Jin l E).2.2
   simp only at h1 ⊢
   rw[hn]
   refine⟨by omega,fun h=>h1.2.1 h,fun h=>h1.2.2 h⟩
  |none=>
   have hL:=H rfl
   have hf:=hL.fail
   simp only at h1 hf ⊢
   have D:=Jd9 A E (by omega) (by omega)
   rw[hf]at D
   have M:=h1.2.2 (by simp)
   refine⟨by omega,fun h=>?_,fun h=>?_⟩
   ·have:=D.2.1 h;omega
   have:=D.2.2 h;omega
theorem Jhi (x rest:List UInt8):Jat x.length (x++rest)=some (x,rest):=by
 unfold Jat
 rw[if_pos (by simp)]
 simp
def Jg (n:Int):Prop:=-9223372036854775808≤n∧n≤9223372036854775807
theorem Ka1 (u:Nat):∀ k,Jeh ((List.range k).map fun i=>UInt8.ofNat (u / 256 ^ i % 256))=u % 256 ^ k:=by
 intro k
 induction k with
 |zero=>simp[Jeh,Nat.mod_one]
 |succ k y=>
  rw[Oj7,Ob8,Oe4,Oi4,Jlf,y]
  have A:u / 256 ^ k % 256<256:=Ol0 _ (by decide)
  have e:(UInt8.ofNat (u / 256 ^ k % 256)).toNat=u / 256 ^ k % 256:=by
   simp
  rw[e,Oa6,Op1,Nat.mod_pow_succ,Nat.mul_comm]
theorem Jza (u:Nat)(h:u<18446744073709551616):Jeh (le8 u)=u:=by
 unfold le8
 rw[Ka1]
 have y:256 ^ 8=18446744073709551616:=by decide
 exact Nat.mod_eq_of_lt (by omega)
theorem Jsf (n:Int)(h:Jg n):wrap64 ((u64 n:Nat):Int)=n:=by
 unfold Jg at h
 unfold wrap64 u64
 omega
theorem Jh5 (n:Int)(rest:List UInt8)(h:Jg n):Jc7 (le8 (u64 n)++rest)=some (n,rest):=by
 have e:=Jhi (le8 (u64 n)) rest
 rw[Jc4]at e
 unfold Jc7
 rw[e]
 simp only
 rw[Jza _ (Jp3 n),Jsf n h]
theorem Jgf (n:Nat)(h:n<256):(low (n:Int)).toNat=n:=by
 unfold low
 have e:((n:Int) % 256).toNat=n:=by omega
 rw[e]
 simp
 omega
theorem Je8 (n:Nat)(rest:List UInt8)(h:n<256):Ur (low (n:Int)::rest)=some (n,rest):=by
 simp[Ur,Jgf n h]
def okT (t:Int)(v:V):Prop:=v.k=t∧okK v.k v.n v.s=true∧Jg v.n
theorem Jit (s:ByteArray)(h:s.toList.isEmpty=true):s=Qw []:=by
 rw[List.isEmpty_iff]at h
 rw[←Zf s,h]
theorem Jj3 (t:Int)(v:V)(rest:List UInt8)(h:okT t v):Qz t (enc v.k v.n v.s++rest)=some (v,rest):=by
 obtain⟨D,y,E⟩:=h
 obtain⟨k,n,s⟩:=v
 simp only at D y E
 subst D
 unfold okK at y
 simp only[decide_eq_true_eq]at y
 rcases y with⟨rfl,hs⟩|⟨rfl,hn,hs⟩|⟨rfl,rfl,hs⟩
 ·have:=Jit s hs
  subst this
  have e:enc 1 n (Qw [])=le8 (u64 n):=rfl
  unfold Qz
  rw[if_pos rfl]
  simp only[e,Jh5 n rest E]
  rfl
 ·have:=Jit s hs
  subst this
  have e:enc 2 n (Qw [])=[low n]:=rfl
  unfold Qz
  rw[if_neg (by decide),if_pos rfl]
  simp only[e]
  rcases hn with rfl|rfl
  ·rfl
  rfl
 have e:enc 3 0 s=low (s.size:Nat)::s.toList:=rfl
 have H:s.toList.length=s.size:=by rw[Og4,Array.length_toList];rfl
 unfold Qz
 rw[if_neg (by decide),if_neg (by decide)]
 simp only[e]
 have A:=Jhi s.toList rest
 rw[H]at A
 unfold Jne
 rw[List.cons_append,Je8 _ _ (by omega)]
 simp only[A,Option.map_some,Zf]
theorem Jmy (t:Int):∀ (vs:List V) (rest:List UInt8),(∀ v∈vs,okT t v)→Yl t vs.length (Yv vs++rest)=some (vs,rest):=by
 intro vs
 have K:∀ (n:Nat) (vs:List V) (rest:List UInt8),vs.length=n→(∀ v∈vs,okT t v)→Yl t n (Yv vs++rest)=some (vs,rest):=by
  intro n
  induction n with
  |zero=>intro vs rest hn _;rw[Od3]at hn;subst hn;rfl
  |succ n H=>
   intro vs rest hn A
   obtain⟨y,v,rfl⟩:∃ y v,vs=y++[v]:=⟨vs.dropLast,vs.getLast (by intro e;simp[e]at hn),(List.dropLast_concat_getLast _).symm⟩
   have E:y.length=n:=by simpa using hn
   have h1:=H y (enc v.k v.n v.s++rest) E fun u D=>A u (by simp[D])
   have e:Yv (y++[v])++rest=Yv y++(enc v.k v.n v.s++rest):=by rw[Jjz,Od8]
   rw[e,Yl,h1]
   simp only
   rw[Jj3 t v rest (A v (by simp))]
   rfl
 intro rest A
 exact K vs.length vs rest rfl A
theorem Jwf (L:List Bool)(j:Nat)(E:j<L.length):Jn6 (Kk L) j=L.getD j false:=by
 have A:j / 8<(L.length+7) / 8:=by omega
 have e:((Kk L).getD (j / 8) 0).toNat=Jag L (j / 8):=by
  have D:=Ji4 L (j / 8)
  simp[Kk,A]
  omega
 unfold Jn6
 rw[e,Yx]
 have y:8*(j / 8)+j % 8=j:=by omega
 rw[y]
 have:j % 8<8:=Ol0 _ (by decide)
 simp[this]
theorem Kbi (x:List UInt8)(i n:Nat):∀ b,(∀ k,k<b→Jn6 x (i+k)=n.testBit k)→Zc x i b=n % 2 ^ b:=by
 intro b
 induction b with
 |zero=>intro _;simp[Zc,Nat.mod_one]
 |succ b y=>
  intro h
  rw[Zc,y fun k A=>h k (by omega),h b (by omega),Nat.mod_pow_succ,On1]
  have D:n / 2 ^ b % 2<2:=Ol0 _ (by decide)
  generalize n / 2 ^ b % 2=m at *
  have:m=0∨m=1:=by omega
  rcases this with rfl|rfl<;>simp
theorem Jct (y:Nat)(ns:List Nat)(rest:List UInt8)(h:∀ n∈ns,n<2 ^ y):Yj y ns.length (Kk (Ue y ns)++rest)=some (ns,rest):=by
 have e:=Jhi (Kk (Ue y ns)) rest
 rw[Qb,Jal]at e
 unfold Yj
 rw[e]
 simp only[Oc9,Oj3,and_true]
 apply Oh4
 ·simp
 intro i h1 h2
 have hi:i<ns.length:=h2
 rw[Od9,Oo7]
 have E:Zc (Kk (Ue y ns)) (y*i) y=ns[i] % 2 ^ y:=by
  apply Kbi
  intro k H
  have D:=Jms y ns i k hi H
  have K:y*i+k<(Ue y ns).length:=by
   rcases Oc1 (y*i+k) (Ue y ns).length with A|A
   ·exact A
   rw[Ob4 A]at D;simp at D
  rw[Jwf _ _ K,Oa0,D]
  rfl
 rw[E,Nat.mod_eq_of_lt (h _ (Ob3 hi))]
theorem Jwd (xs:List V)(h:∀ v∈xs,v.k=0→v=Jf):Ys (xs.map Qt) (Jz xs)=xs:=by
 induction xs with
 |nil=>rfl
 |cons v xs K=>
  have E:=K fun u H=>h u (Og1 _ H)
  by_cases y:v.k=0
  ·have A:Qt v=0:=by simp[Qt,y]
   have D:Jz (v::xs)=Jz xs:=by simp[Jz,y]
   rw[Oe4,A,D,Ys,if_neg (by decide),E,h v (by simp) y]
  have A:Qt v=1:=by simp[Qt,y]
  have D:Jz (v::xs)=v::Jz xs:=by simp[Jz,y]
  rw[Oe4,A,D,Ys,if_pos rfl]
  simp only[List.headD_cons,List.tail_cons,E]
theorem Jyx (xs:List V):Qs (xs.map Qt)=(Jz xs).length:=by
 induction xs with
 |nil=>rfl
 |cons v xs E=>
  by_cases y:v.k=0
  ·have A:Qt v=0:=by simp[Qt,y]
   have D:Jz (v::xs)=Jz xs:=by simp[Jz,y]
   rw[Oe4,A,D,Qs,if_neg (by decide),E]
   omega
  have A:Qt v=1:=by simp[Qt,y]
  have D:Jz (v::xs)=v::Jz xs:=by simp[Jz,y]
  rw[Oe4,A,D,Qs,if_pos rfl,E,List.length_cons]
  omega
theorem Jut {t:Int}{xs:List V}(h:Jdq t xs)(E:1≤t):∀ v∈xs,v.k=0→v=Jf:=by
 intro v D A
 obtain⟨j,y,rfl⟩:=Od5 D
 have:=h.2 j y
 unfold okB at this
 simp only[decide_eq_true_eq]at this
 generalize xs[j]=v at *
 rcases this with⟨_,hn,hs⟩|⟨e,_⟩
 ·exact V.ext' A hn (Jit _ hs)
 omega
theorem Jvg {t:Int}{xs:List V}(h:Jdq t xs)(H:∀ v∈xs,Jg v.n):∀ v∈Jz xs,okT t v:=by
 intro v y
 unfold Jz at y
 rw[Om0]at y
 obtain⟨y,A⟩:=y
 have K:=H v y
 obtain⟨j,D,rfl⟩:=Od5 y
 have:=h.2 j D
 unfold okB at this
 simp only[decide_eq_true_eq]at this
 rcases this with⟨e,_,_⟩|⟨e,E⟩
 ·rw[e]at A;simp at A
 exact⟨e,E,K⟩
def Kkn (y:Int):Prop:=∀ (t:Int) (vs:List V),way t y=true→vs.length≤64→¬ (y=1∧16<(Ym [] vs).length)→(∀ v∈vs,okT t v)→Jce t y vs.length (Jdt t y vs++[])=some (vs,[])
theorem Kj4:Kkn 0:=fun t vs _ _ _ h=>Jmy t vs [] h
theorem Kja {t y:Int}{xs:List V}{bs:List UInt8}(h:Jev t y xs=(bs,0)):way t y=true∧Jdq t xs∧¬ (y=1∧16<(Ym [] (Jz xs)).length)∧((t.toNat:Nat):Int)=t∧((y.toNat:Nat):Int)=y∧Jf2 bs=some ((t.toNat,y.toNat,xs.length),Kk (xs.map fun v=>v.k != 0)++Jdt t y (Jz xs)):=by
 unfold Jev at h
 by_cases A:(way t y&&Jfr t xs)=true
 ·rw[if_pos A]at h
  by_cases H:y=1∧16<(Ym [] (Jz xs)).length
  ·rw[if_pos H]at h;simp at h
  rw[if_neg H]at h
  simp only[Oj3,and_true]at h
  rw[Og5]at A
  obtain⟨O,K⟩:=A
  rw[Jfd]at K
  have M:=O
  unfold way at M
  simp only[decide_eq_true_eq]at M
  obtain⟨bb,bc,X,Z,ba⟩:=M
  have R:=K.1
  have E:((t.toNat:Nat):Int)=t:=by omega
  have D:((y.toNat:Nat):Int)=y:=by omega
  refine⟨O,K,H,E,D,?_⟩
  rw[←h]
  have e:Jav t y xs=low t::low y::low (xs.length:Nat)::(Kk (xs.map fun v=>v.k != 0)++Jdt t y (Jz xs)):=rfl
  rw[e]
  have l1:(low t).toNat=t.toNat:=by rw[←E,Jgf _ (by omega)];omega
  have l2:(low y).toNat=y.toNat:=by rw[←D,Jgf _ (by omega)];omega
  have U:(low (xs.length:Nat)).toNat=xs.length:=Jgf _ (by omega)
  simp only[Jf2]
  rw[l1,l2,U,E,D,if_pos ⟨O,R⟩]
 rw[if_neg A]at h;simp at h
theorem Ki9 (t y:Int)(K:Kkn y)(xs:List V)(bs:List UInt8)(h:Jev t y xs=(bs,0))(ba:∀ v∈xs,Jg v.n):Jbf bs=some (t.toNat,y.toNat,xs):=by
 obtain⟨H,A,R,O,M,U⟩:=Kja h
 have E:=H
 unfold way at E
 simp only[decide_eq_true_eq]at E
 have bc:=A.1
 have X:=Jvg A ba
 have Z:=Jut A (by omega)
 have bf:=Zy xs
 have D:=K t (Jz xs) H (by omega) R X
 rw[Od7]at D
 have hf:=Jct 1 (xs.map Qt) (Jdt t y (Jz xs)) (by
  intro n hn
  obtain⟨v,_,rfl⟩:=Of0.1 hn
  unfold Qt
  split<;>decide)
 rw[Jrg,Oa6]at hf
 have bb:Ug t y xs.length (Kk (xs.map fun v=>v.k != 0)++Jdt t y (Jz xs))=some (xs,[]):=by
  unfold Ug
  rw[hf]
  simp only
  rw[Jyx,D,Option.map_some,Jwd xs Z]
 unfold Jbf
 rw[U]
 simp only
 rw[O,M,bb]
 simp only
 rw[if_pos h]
end Go.Proofs.YtdlgbphkaicfaaaGreatDoor
namespace Go.Proofs.YtdlgbphkaicfaaaGreatDoor
open Go.RowKit Tryz
theorem Jfw (c:Int)(n:Nat)(w:World)(A:Jg c)(hn:0<n)(H:n≤4611686018427387904) :
  Calls prog 8 #[.int .i64 c,.int .i64 n] w fun e w'=>(∃ r:Nat,e=.returned (.int .i64 r)∧r<n)∧w'=w:=by
 unfold Jg at A
 have y:¬ ((n:Int)=0):=by omega
 by_cases h0:c<0
 ·go_enter func8,ntmps8
  go_wp2
  go_ret
  have E:=Int.emod_nonneg (-(c+1)) y
  have D:=Int.emod_lt_of_pos (-(c+1)) (show (0:Int)<n by omega)
  have e:-((c+1).tmod n)=(((-(c+1)) % (n:Int)).toNat:Int):=by
   rw[←Int.neg_tmod,Int.tmod_eq_emod_of_nonneg (by omega)]
   omega
  refine⟨⟨((-(c+1)) % (n:Int)).toNat,?_,by omega⟩,rfl⟩
  rw[←e]
  rfl
 go_enter func8,ntmps8
 go_wp2
 go_ret
 have E:=Int.emod_nonneg c y
 have D:=Int.emod_lt_of_pos c (show (0:Int)<n by omega)
 have e:c % (n:Int)=((c % (n:Int)).toNat:Int):=by omega
 refine⟨⟨(c % (n:Int)).toNat,?_,by omega⟩,rfl⟩
 rw[←e]
 rfl
theorem Jfu (w:World):Calls prog 14 #[] w fun e w'=>e=.returned (Jb6 0)∧Below w.heap.size w w':=by
 go_enter func14,ntmps14
 go_wp2
 exact bodyPost_ret (v:=Jb6 0) (by simp[results,results14,go_sem]) rfl ⟨rfl,(Oa5 _ _).alloc (Oa2 _) _⟩
theorem Kb1 (n:Int):bits .and .i64 n 1=n % 2:=by
 have h1:(BitVec.ofInt 64 1).toNat=2 ^ 1-1:=by decide
 have y:(BitVec.ofInt 64 n &&& BitVec.ofInt 64 1).toNat=(n % ((2 ^ 64:Nat):Int)).toNat % 2 ^ 1:=by
  rw[BitVec.toNat_and,Ok6,h1,Nat.and_two_pow_sub_one_eq_mod]
 show IntKind.i64.wrap ((BitVec.ofInt 64 n &&& BitVec.ofInt 64 1).toNat:Nat)=n % 2
 rw[y,Od4]
 omega
theorem Jx5 (n:Int):okB 2 2 (n % 2) ⟨#[]⟩=true:=by
 have:n % 2=0∨n % 2=1:=by omega
 rcases this with e|e<;>simp[okB,okK,e]
theorem Jyh (n:Int):Jg (n % 2):=by unfold Jg;omega
theorem Jk8 (v:V)(t:Int)(w:World)(D:t=1∨t=2∨t=3)(A:Jg v.k)(hn:Jg v.n) :
  Calls prog 19 #[v.val,.int .i64 t] w fun e w'=>(∃ u:V,e=.returned u.val∧okB t u.k u.n u.s=true∧Jg u.n)∧Below w.heap.size w w':=by
 have E:okB t 0 0 (Qw [])=true:=by simp[okB,Qw]
 have y:Jg 0:=by unfold Jg;omega
 have O:Below w.heap.size w ((w.alloc (.cells #[.int .i64 v.k,.int .i64 v.n,.string v.s] 63)).alloc (.cells #[.int .i64 0,.int .i64 0,.string ⟨#[]⟩] 63)):=((Oa5 _ _).alloc (Oa2 _) _).alloc (by simp) _
 obtain⟨k,n,s⟩:=v
 simp only at A hn O
 by_cases h0:k=0
 ·subst h0
  go_enter func19,ntmps19
  go_wp2_with fail
  refine bodyPost_ret (v:=.agg #[.int .i64 0,.int .i64 0,.string ⟨#[]⟩]) (by simp[results,results19,go_sem]) rfl ⟨⟨⟨0,0,⟨#[]⟩⟩,rfl,E,y⟩,((Oa5 _ _).alloc (Oa2 _) _).alloc (by simp) _⟩
 have R:(k==0)=false:=by simpa using h0
 have X:=Kb1 n
 go_enter func19,ntmps19
 go_wp2_with fail
 refine(Jfw k 7 _ A (by decide) (by decide)).mono ?_
 rintro e w1 ⟨⟨r,rfl,Z⟩,rfl⟩
 by_cases M:r=6
 ·subst M
  go_wp2_with fail
  refine bodyPost_ret (v:=.agg #[.int .i64 0,.int .i64 0,.string ⟨#[]⟩]) (by simp[results,results19,go_sem]) rfl ⟨⟨⟨0,0,⟨#[]⟩⟩,rfl,E,y⟩,((Oa5 _ _).alloc (Oa2 _) _).alloc (by simp) _⟩
 have U:((r:Int)==6)=false:=by rw[beq_eq_false_iff_ne];omega
 by_cases H:s.size≤40
 ·have K:¬ ((40:Int)<(s.size:Int)):=by omega
  rcases D with rfl|rfl|rfl
  ·go_wp2_with fail
   refine bodyPost_ret (v:=.agg #[.int .i64 1,.int .i64 n,.string ⟨#[]⟩]) (by simp[results,results19,go_sem]) rfl ⟨⟨⟨1,n,⟨#[]⟩⟩,rfl,by simp[okB,okK],hn⟩,((Oa5 _ _).alloc (Oa2 _) _).alloc (by simp) _⟩
  ·go_wp2_with fail
   refine bodyPost_ret (v:=.agg #[.int .i64 2,.int .i64 (n % 2),.string ⟨#[]⟩]) (by simp[results,results19,go_sem]) rfl ⟨⟨⟨2,n % 2,⟨#[]⟩⟩,rfl,Jx5 n,Jyh n⟩,((Oa5 _ _).alloc (Oa2 _) _).alloc (by simp) _⟩
  go_wp2_with fail
  refine bodyPost_ret (v:=.agg #[.int .i64 3,.int .i64 0,.string s]) (by simp[results,results19,go_sem]) rfl ⟨⟨⟨3,0,s⟩,rfl,by simp[okB,okK,H],y⟩,((Oa5 _ _).alloc (Oa2 _) _).alloc (by simp) _⟩
 have K:((40:Int)<(s.size:Int)):=by omega
 have ba:¬ ((s.size:Int)<40):=by omega
 rcases D with rfl|rfl|rfl
 ·go_wp2_with fail
  refine bodyPost_ret (v:=.agg #[.int .i64 1,.int .i64 n,.string ⟨#[]⟩]) (by simp[results,results19,go_sem]) rfl ⟨⟨⟨1,n,⟨#[]⟩⟩,rfl,by simp[okB,okK],hn⟩,((Oa5 _ _).alloc (Oa2 _) _).alloc (by simp) _⟩
 ·go_wp2_with fail
  refine bodyPost_ret (v:=.agg #[.int .i64 2,.int .i64 (n % 2),.string ⟨#[]⟩]) (by simp[results,results19,go_sem]) rfl ⟨⟨⟨2,n % 2,⟨#[]⟩⟩,rfl,Jx5 n,Jyh n⟩,((Oa5 _ _).alloc (Oa2 _) _).alloc (by simp) _⟩
 go_wp2_with fail
 refine bodyPost_ret (v:=.agg #[.int .i64 3,.int .i64 0,.string (s.extract 0 40)]) (by simp[results,results19,go_sem]) rfl ⟨⟨⟨3,0,s.extract 0 40⟩,rfl,by simp[okB,okK];omega,y⟩,((Oa5 _ _).alloc (Oa2 _) _).alloc (by simp) _⟩
end Go.Proofs.YtdlgbphkaicfaaaGreatDoor
