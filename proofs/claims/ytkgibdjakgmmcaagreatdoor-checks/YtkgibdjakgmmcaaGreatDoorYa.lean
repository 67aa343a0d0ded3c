/- Rows in new memory: a list of rows, each in a block of its own. -/
import Derived.Test.YtkgibdjakgmmcaaGreatDoorTi
import Derived.Test.YtkgibdjakgmmcaaGreatDoorTe
import Derived.Test.YtkgibdjakgmmcaaGreatDoorKk
import Derived.Test.YtkgibdjakgmmcaaGreatDoorEw
import Derived.Deep.RegionHeld3
namespace Go.Proofs.YtkgibdjakgmmcaaGreatDoor
open Go.RowKit
theorem info_Row:(Tryz.prog.info? 73).map (fun i=>(i.zero,i.size,i.bytes))=some (some (.slice none 0 0),1,24):=by kernel_rfl
def pg (D:DS)(i:Nat):Option (List UInt8):=D.pages.getD i none
theorem getD_set (l:List (Option (List UInt8)))(i j:Nat)(x:Option (List UInt8))(hi:i<l.length):(l.set i x).getD j none=if j=i then x else l.getD j none:=by
 rw[List.getD_eq_getElem?_getD,List.getD_eq_getElem?_getD]
 by_cases h:j=i
 ·subst h;simp[hi]
 rw[if_neg h,List.getElem?_set_ne (Ne.symm h)]
theorem pg_none {D:DS}{i:Nat}(h:¬ inUseB D.pages (i:Int)=true):pg D i=none:=getD_inUse (by simpa using h)
theorem pg_rel (D:DS)(i j:Nat):pg (relOne D i) j=if j=i then none else pg D j:=by
 unfold relOne
 by_cases h:inUseB D.pages (i:Int)=true
 ·rw[if_pos h]
  obtain⟨p,hp⟩:=inUseB_true h
  have hi:i<D.pages.length:=by
   rcases Nat.lt_or_ge i D.pages.length with h'|h'
   ·exact h'
   rw[List.getElem?_eq_none h']at hp;simp at hp
  exact getD_set _ _ _ _ hi
 rw[if_neg h]
 by_cases e:j=i
 ·subst e;rw[if_pos rfl];exact pg_none h
 rw[if_neg e]
theorem pg_relD (l:List Nat):∀ (D:DS) (j:Nat),pg (relD D l) j=if j∈l then none else pg D j:=by
 induction l with
 |nil=>intro D j;simp[relD]
 |cons i l ih=>
  intro D j
  show pg (relD (relOne D i) l) j=_
  rw[ih,pg_rel]
  by_cases h1:j∈l
  ·simp[h1]
  by_cases h2:j=i
  ·simp[h2]
  simp[h1,h2]
theorem inUse_pg {D:DS}{i:Nat}{p:List UInt8}(h:pg D i=some p):inUseB D.pages (i:Int)=true:=by
 cases hu:inUseB D.pages (i:Int)with
 |true=>rfl
 |false=>rw[show pg D i=none from getD_inUse hu]at h;simp at h
theorem used_rel {D:DS}{i:Nat}{p:List UInt8}(h:pg D i=some p):usedOf (relOne D i).pages+1=usedOf D.pages:=by
 unfold relOne
 rw[if_pos (inUse_pg h)]
 obtain⟨q,hq⟩:=inUseB_true (inUse_pg h)
 exact usedOf_unset _ _ q hq
theorem used_relD (l:List Nat):∀ (D:DS),l.Nodup→(∀ i∈l,∃ p,pg D i=some p)→usedOf (relD D l).pages+l.length=usedOf D.pages:=by
 induction l with
 |nil=>intro D _ _;simp[relD]
 |cons i l ih=>
  intro D hn hu
  obtain⟨p,hp⟩:=hu i (by simp)
  have h1:=used_rel hp
  have h2:=ih (relOne D i) (List.nodup_cons.1 hn).2 (fun j hj=>by
   obtain⟨q,hq⟩:=hu j (by simp[hj])
   refine⟨q,?_⟩
   rw[pg_rel,if_neg (fun e:j=i=>(List.nodup_cons.1 hn).1 (by rw[←e];exact hj))]
   exact hq)
  show usedOf (relD (relOne D i) l).pages+(l.length+1)=_
  omega
theorem relOne_num (D:DS)(i:Nat):(relOne D i).quota=D.quota∧(relOne D i).fail=D.fail∧(relOne D i).writes=D.writes:=by unfold relOne;split<;>simp
theorem relD_num (l:List Nat):∀ D:DS,(relD D l).quota=D.quota∧(relD D l).fail=D.fail∧(relD D l).writes=D.writes:=by
 induction l with
 |nil=>intro D;exact⟨rfl,rfl,rfl⟩
 |cons i l ih=>
  intro D
  have h1:=ih (relOne D i)
  have h2:=relOne_num D i
  exact⟨h1.1.trans h2.1,h1.2.1.trans h2.2.1,h1.2.2.trans h2.2.2⟩
theorem pg_free (D:DS):pg D (firstFree D.pages)=none:=getD_inUse (inUseB_free _)
theorem pg_wrote (D:DS)(p:List UInt8)(j:Nat):pg (wroteD D p) j=if j=firstFree D.pages then some (sealP p)else pg D j:=by
 unfold pg wroteD
 simp only
 have hle:=firstFree_le D.pages
 by_cases h:firstFree D.pages<D.pages.length
 ·rw[if_pos h];exact getD_set _ _ _ _ h
 rw[if_neg h,getD_set _ _ _ _ (by simp;omega)]
 by_cases e:j=firstFree D.pages
 ·rw[if_pos e,if_pos e]
 rw[if_neg e,if_neg e,List.getD_eq_getElem?_getD,List.getD_eq_getElem?_getD]
 rcases Nat.lt_or_ge j D.pages.length with h'|h'
 ·rw[List.getElem?_append_left h']
 rw[List.getElem?_eq_none (l:=D.pages) h',List.getElem?_append_right h']
 have:j-D.pages.length=0∨1≤j-D.pages.length:=by omega
 rcases this with e0|e0
 ·rw[e0];rfl
 rw[List.getElem?_eq_none (by simpa using e0)]
theorem used_wrote (D:DS)(p:List UInt8):usedOf (wroteD D p).pages=usedOf D.pages+1:=by
 unfold wroteD
 simp only
 rw[usedOf_set _ _ _ (free_vacant D.pages)]
 split
 ·rfl
 simp[usedOf]
structure Laid (D E:DS) (ps:List (List UInt8)) (l:List Nat):Prop where
 len:l.length=ps.length
 nodup:l.Nodup
 free:∀ i∈l,pg D i=none
 other:∀ j,j∉l→pg E j=pg D j
 held:∀ (i:Nat) (hi:i<l.length),pg E l[i]=some (sealP (ps[i]'(by rw[←len];exact hi)))
 used:usedOf E.pages=usedOf D.pages+ps.length
 quota:E.quota=D.quota
 fail:E.fail=D.fail
theorem Laid.nil (D:DS):Laid D D [] []:=⟨rfl,List.nodup_nil,by simp,fun _ _=>rfl,by simp,rfl,rfl,rfl⟩
theorem Laid.cons {D E:DS}{p:List UInt8}{ps:List (List UInt8)}{l:List Nat}(h:Laid (wroteD D p) E ps l):Laid D E (p::ps) (firstFree D.pages::l):=by
 have hn:firstFree D.pages∉l:=fun hm=>by
  have:=h.free _ hm
  rw[pg_wrote,if_pos rfl]at this
  simp at this
 refine⟨by simp[h.len],List.nodup_cons.2 ⟨hn,h.nodup⟩,fun i hi=>?_,fun j hj=>?_,fun i hi=>?_,?_,h.quota,h.fail⟩
 ·rcases List.mem_cons.1 hi with rfl|hm
  ·exact pg_free D
  have:=h.free i hm
  rw[pg_wrote]at this
  split at this
  ·simp at this
  exact this
 ·rw[h.other j (fun hm=>hj (List.mem_cons_of_mem _ hm)),pg_wrote,if_neg (fun e=>hj (by simp[e]))]
 ·cases i with
  |zero=>
   simp only[List.getElem_cons_zero]
   rw[h.other _ hn,pg_wrote,if_pos rfl]
  |succ i=>simpa using h.held i (by simpa using hi)
 rw[h.used,used_wrote]
 simp
 omega
theorem layL_laid:∀ (ps:List (List UInt8))(D:DS),((layL D ps).2.2=none→Laid D (layL D ps).1 ps (layL D ps).2.1) ∧
  (∀ x,(layL D ps).2.2=some x→∃ qs rest,ps=qs++rest∧rest≠[]∧∃ E,Laid D E qs (layL D ps).2.1∧pg (layL D ps).1=pg E∧usedOf (layL D ps).1.pages=usedOf E.pages∧(layL D ps).1.quota=E.quota∧(layL D ps).1.fail=E.fail ∧
   (x=true→E.quota≤((usedOf E.pages:Nat):Int))∧(x=false→(layL D ps).1.writes=(layL D ps).1.fail))
 |[],D=>⟨fun _=>Laid.nil D,fun x h=>by simp[layL]at h⟩
 |p::ps,D=>by
  have ih:=layL_laid ps (wroteD D p)
  unfold layL
  by_cases h1:D.quota≤((usedOf D.pages:Nat):Int)
  ·rw[if_pos h1]
   refine⟨fun h=>by simp at h,fun x hx=>⟨[],p::ps,rfl,by simp,D,Laid.nil D,rfl,rfl,rfl,rfl,fun _=>h1,fun hf=>?_⟩⟩
   simp at hx
   subst hx
   simp at hf
  rw[if_neg h1]
  by_cases h2:wrap64 (D.writes+1)=D.fail
  ·rw[if_pos h2]
   refine⟨fun h=>by simp at h,fun x hx=>⟨[],p::ps,rfl,by simp,D,Laid.nil D,rfl,rfl,rfl,rfl,fun ht=>?_,fun _=>h2⟩⟩
   simp at hx
   subst hx
   simp at ht
  rw[if_neg h2]
  refine⟨fun h=>(ih.1 h).cons,fun x hx=>?_⟩
  obtain⟨qs,rest,hps,hr,E,hL,r1,r2,r3,r4,r5,r6⟩:=ih.2 x hx
  exact⟨p::qs,rest,by rw[hps];rfl,hr,E,hL.cons,r1,r2,r3,r4,r5,r6⟩
theorem cutUp_count:∀ (n:Nat)(t:List UInt8),56*(cutUp n t).length≤t.length+55
 |0,t=>by simp[cutUp]
 |_+1,[]=>by simp[cutUp]
 |n+1,b::t=>by
  simp only[cutUp,List.length_cons]
  have:=cutUp_count n ((b::t).drop 56)
  rw[List.length_drop]at this
  have h0:(b::t).length=t.length+1:=rfl
  rw[h0]at this
  rcases Nat.lt_or_ge (t.length+1) 56 with h'|h'
  ·have hz:t.length+1-56=0:=by omega
   have hd:(b::t).drop 56=[]:=List.drop_of_length_le (by rw[h0];omega)
   rw[hd]
   have hc:(cutUp n ([]:List UInt8)).length=0:=by cases n<;>rfl
   rw[hc]
   omega
  omega
theorem pieces_count (t:List UInt8):56*(pieces t).length≤t.length+55:=cutUp_count _ _
def segHeld (D:DS)(l:List Nat)(t:List UInt8):Prop:=l.length=(pieces t).length∧∀ (i:Nat) (hi:i<l.length) (hj:i<(pieces t).length),pg D l[i]=some (sealP (pieces t)[i])
theorem segHeld.keep {D E:DS}{l:List Nat}{t:List UInt8}(h:segHeld D l t)(hk:∀ i∈l,pg E i=pg D i):segHeld E l t:=
 ⟨h.1,fun i hi hj=>(hk _ (List.getElem_mem hi)).trans (h.2 i hi hj)⟩
theorem Laid.seg {D E:DS}{t:List UInt8}{l:List Nat}(h:Laid D E (pieces t) l):segHeld E l t:=⟨h.len,fun i hi _=>h.held i hi⟩
structure LaidS (D E:DS) (ts:List (List UInt8)) (ls:List (List Nat)):Prop where
 len:ls.length=ts.length
 nodup:ls.flatten.Nodup
 free:∀ i∈ls.flatten,pg D i=none
 other:∀ j,j∉ls.flatten→pg E j=pg D j
 segs:∀ (i:Nat) (hi:i<ls.length),segHeld E ls[i] (ts[i]'(by rw[←len];exact hi))
 used:usedOf E.pages=usedOf D.pages+ls.flatten.length
 quota:E.quota=D.quota
 fail:E.fail=D.fail
theorem LaidS.nil (D:DS):LaidS D D [] []:=⟨rfl,List.nodup_nil,by simp,fun _ _=>rfl,by simp,rfl,rfl,rfl⟩
theorem LaidS.cons {D E F:DS}{t:List UInt8}{ts:List (List UInt8)}{l:List Nat}{ls:List (List Nat)}(h:Laid D E (pieces t) l)(k:LaidS E F ts ls):LaidS D F (t::ts) (l::ls):=by
 have hin:∀ i∈l,∃ p,pg E i=some p:=fun i hi=>by
  obtain⟨j,hj,rfl⟩:=List.getElem_of_mem hi
  exact⟨_,h.held j hj⟩
 have hdis:∀ i∈l,i∉ls.flatten:=fun i hi hm=>by
  obtain⟨p,hp⟩:=hin i hi
  rw[k.free i hm]at hp
  simp at hp
 refine⟨by simp[k.len],?_,fun i hi=>?_,fun j hj=>?_,fun i hi=>?_,?_,k.quota.trans h.quota,k.fail.trans h.fail⟩
 ·rw[List.flatten_cons,List.nodup_append]
  exact⟨h.nodup,k.nodup,fun a ha b hb e=>hdis a ha (e▸hb)⟩
 ·rw[List.flatten_cons]at hi
  rcases List.mem_append.1 hi with hm|hm
  ·exact h.free i hm
  have h1:=k.free i hm
  by_cases hl:i∈l
  ·exact absurd hm (hdis i hl)
  rw[h.other i hl]at h1;exact h1
 ·rw[List.flatten_cons,List.mem_append]at hj
  rw[k.other j (fun hm=>hj (.inr hm)),h.other j (fun hm=>hj (.inl hm))]
 ·cases i with
  |zero=>exact h.seg.keep fun i hi=>k.other i (hdis i hi)
  |succ i=>simpa using k.segs i (by simpa using hi)
 rw[k.used,h.used,List.flatten_cons,List.length_append,h.len]
 omega
theorem pg_relAll (ls:List (List Nat)):∀ (D:DS) (j:Nat),pg (relAll D ls) j=if j∈ls.flatten then none else pg D j:=by
 induction ls with
 |nil=>intro D j;simp[relAll]
 |cons l ls ih=>
  intro D j
  show pg (relAll (relD D l) ls) j=_
  rw[ih,pg_relD,List.flatten_cons]
  by_cases h1:j∈ls.flatten
  ·simp[h1]
  by_cases h2:j∈l
  ·simp[h2]
  simp[h1,h2]
theorem relAll_num (ls:List (List Nat)):∀ D:DS,(relAll D ls).quota=D.quota∧(relAll D ls).fail=D.fail∧(relAll D ls).writes=D.writes:=by
 induction ls with
 |nil=>intro D;exact⟨rfl,rfl,rfl⟩
 |cons l ls ih=>
  intro D
  have h1:=ih (relD D l)
  have h2:=relD_num l D
  exact⟨h1.1.trans h2.1,h1.2.1.trans h2.2.1,h1.2.2.trans h2.2.2⟩
theorem used_range:∀ (l:List (Option (List UInt8)))(n:Nat),l.length≤n→usedOf l=(List.range n).countP fun i=>(l.getD i none).isSome
 |[],n,_=>by simp[usedOf]
 |x::l,0,h=>by simp at h
 |x::l,n+1,h=>by
  have ih:=used_range l n (by simpa using h)
  rw[List.range_succ_eq_map,List.countP_cons,List.countP_map]
  have e:((fun i=>((x::l).getD i none).isSome) ∘ Nat.succ)=fun i=>(l.getD i none).isSome:=by funext i;simp
  rw[e,←ih]
  simp[usedOf,List.countP_cons]
theorem used_same {D E:DS}(h:∀ j,pg E j=pg D j):usedOf E.pages=usedOf D.pages:=by
 rw[used_range E.pages (E.pages.length+D.pages.length) (by omega),used_range D.pages (E.pages.length+D.pages.length) (by omega)]
 congr 1
 funext i
 rw[show E.pages.getD i none=D.pages.getD i none from h i]
structure Same (D E:DS):Prop where
 pages:∀ j,pg E j=pg D j
 used:usedOf E.pages=usedOf D.pages
 quota:E.quota=D.quota
 fail:E.fail=D.fail
theorem layL_undone {D:DS}{ps:List (List UInt8)}{x:Bool}(h:(layL D ps).2.2=some x):Same D (relD (layL D ps).1 (layL D ps).2.1)∧ps≠[]∧(x=true→D.quota≤((usedOf D.pages+ps.length:Nat):Int)):=by
 obtain⟨qs,rest,hps,hr,E,hL,h1,h2,h3,h4,h5,_⟩:=(layL_laid ps D).2 x h
 have hn:=relD_num (layL D ps).2.1 (layL D ps).1
 have hp:∀ i∈(layL D ps).2.1,∃ p,pg (layL D ps).1 i=some p:=fun i hi=>by
  obtain⟨j,hj,e⟩:=List.getElem_of_mem hi
  have:=hL.held j hj
  rw[e]at this
  rw[h1]
  exact⟨_,this⟩
 have hu:=used_relD _ _ hL.nodup hp
 refine⟨⟨fun j=>?_,?_,hn.1.trans (h3.trans hL.quota),hn.2.1.trans (h4.trans hL.fail)⟩,?_,fun hx=>?_⟩
 ·rw[pg_relD,h1]
  by_cases hm:j∈(layL D ps).2.1
  ·rw[if_pos hm,hL.free j hm]
  rw[if_neg hm,hL.other j hm]
 ·have:=hL.used
  have:=hL.len
  omega
 ·rw[hps];intro e;exact hr (List.append_eq_nil_iff.1 e).2
 have:=h5 hx
 rw[hL.quota,hL.used]at this
 have hl:qs.length≤ps.length:=by rw[hps];simp
 omega
theorem layAll_none:∀ (ts:List (List UInt8))(D:DS),(layAll D ts).2.2=none→LaidS D (layAll D ts).1 ts (layAll D ts).2.1
 |[],D,_=>LaidS.nil D
 |t::ts,D,h=>by
  have h1:=(layL_laid (pieces t) D).1
  rcases hr:layL D (pieces t)with⟨E,l,r⟩
  rw[hr]at h1
  unfold layAll at h ⊢
  rw[hr]at h ⊢
  cases r with
  |none=>exact LaidS.cons (h1 rfl) (layAll_none ts E h)
  |some x=>simp at h
theorem layAll_some:∀ (ts:List (List UInt8))(D:DS)(x:Bool),(layAll D ts).2.2=some x→Same D (relAll (layAll D ts).1 (layAll D ts).2.1)∧ts≠[]∧(x=true→D.quota≤((usedOf D.pages+totalP ts:Nat):Int))
 |[],D,x,h=>by simp[layAll]at h
 |t::ts,D,x,h=>by
  have h0:=fun y=>@layL_undone D (pieces t) y
  have h1:=(layL_laid (pieces t) D).1
  rcases hr:layL D (pieces t)with⟨E,l,r⟩
  rw[hr]at h0 h1
  unfold layAll at h ⊢
  rw[hr]at h ⊢
  cases r with
  |some y=>
   simp at h
   subst h
   have h2:=h0 y rfl
   refine⟨h2.1,by simp,fun hx=>?_⟩
   have:=h2.2.2 hx
   rw[totalP_cons]
   omega
  |none=>
   simp only at h ⊢
   have hL:=h1 rfl
   have ih:=layAll_some ts E x h
   have hS:=ih.1
   simp only at hL
   have hin:∀ i∈l,∃ p,pg E i=some p:=fun i hi=>by
    obtain⟨j,hj,rfl⟩:=List.getElem_of_mem hi
    exact⟨_,hL.held j hj⟩
   have hu:=used_relD l E hL.nodup hin
   have hn:=relD_num l E
   -- let go in any order
   have hcomm:∀ j,pg (relAll (layAll E ts).1 (l::(layAll E ts).2.1)) j=pg D j:=fun j=>by
    rw[pg_relAll,List.flatten_cons]
    have hj:=hS.pages j
    rw[pg_relAll]at hj
    by_cases hm:j∈l
    ·rw[if_pos (by simp[hm]),hL.free j hm]
    by_cases hm2:j∈(layAll E ts).2.1.flatten
    ·rw[if_pos (by simp[hm2])]
     rw[if_pos hm2,hL.other j hm]at hj
     exact hj
    rw[if_neg (by simp[hm];simpa using hm2)]
    rw[if_neg hm2,hL.other j hm]at hj
    exact hj
   refine⟨⟨hcomm,?_,?_,?_⟩,by simp,fun hx=>?_⟩
   ·exact used_same hcomm
   ·exact(relAll_num _ _).1.trans ((relAll_num _ _).1.symm.trans (hS.quota.trans hL.quota))
   ·exact(relAll_num _ _).2.1.trans ((relAll_num _ _).2.1.symm.trans (hS.fail.trans hL.fail))
   have h3:=ih.2.2 hx
   have h4:=hL.used
   have h5:=hL.quota
   rw[totalP_cons]
   rw[h5]at h3
   omega
theorem layL_writes:∀ (ps:List (List UInt8))(D:DS),0≤D.writes→D.writes+ps.length≤4000000000000000000→(D.writes≤(layL D ps).1.writes∧(layL D ps).1.writes≤D.writes+ps.length)∧((layL D ps).2.2=some false→(layL D ps).1.writes=D.fail∧D.writes<(layL D ps).1.writes)∧((layL D ps).2.2≠some false→¬ (D.writes<D.fail∧D.fail≤(layL D ps).1.writes))
 |[],D,_,_=>by simp[layL]
 |p::ps,D,h0,hb=>by
  have hw:wrap64 (D.writes+1)=D.writes+1:=by unfold wrap64;simp at hb;omega
  have ih:=layL_writes ps (wroteD D p) (by simp only[wroteD,hw];omega) (by simp only[wroteD,hw];simp at hb;omega)
  simp only[wroteD,hw]at ih
  unfold layL
  by_cases h1:D.quota≤((usedOf D.pages:Nat):Int)
  ·rw[if_pos h1]
   simp
   omega
  rw[if_neg h1]
  by_cases h2:wrap64 (D.writes+1)=D.fail
  ·rw[if_pos h2]
   rw[hw]at h2
   simp[countD,hw]
   omega
  rw[if_neg h2]
  rw[hw]at h2
  simp only[wroteD,hw,List.length_cons]at ih ⊢
  refine⟨by omega,fun h=>?_,fun h=>?_⟩
  ·have:=ih.2.1 h;omega
  have:=ih.2.2 h;omega
theorem layAll_writes:∀ (ts:List (List UInt8))(D:DS),0≤D.writes→D.writes+totalP ts≤4000000000000000000→(D.writes≤(layAll D ts).1.writes∧(layAll D ts).1.writes≤D.writes+totalP ts)∧((layAll D ts).2.2=some false→(layAll D ts).1.writes=D.fail∧D.writes<(layAll D ts).1.writes)∧((layAll D ts).2.2≠some false→¬ (D.writes<D.fail∧D.fail≤(layAll D ts).1.writes))
 |[],D,_,_=>by simp[layAll,totalP]
 |t::ts,D,h0,hb=>by
  rw[totalP_cons]at hb
  have h1:=layL_writes (pieces t) D h0 (by omega)
  have hq:=(layL_laid (pieces t) D).1
  rcases hr:layL D (pieces t)with⟨E,l,r⟩
  rw[hr]at h1 hq
  unfold layAll
  rw[hr,totalP_cons]
  cases r with
  |some y=>
   have hn:=(relD_num l E).2.2
   simp only at h1 ⊢
   rw[hn]
   refine⟨by omega,fun h=>h1.2.1 h,fun h=>h1.2.2 h⟩
  |none=>
   have hL:=hq rfl
   have hf:=hL.fail
   simp only at h1 hf ⊢
   have ih:=layAll_writes ts E (by omega) (by omega)
   rw[hf]at ih
   have h12:=h1.2.2 (by simp)
   refine⟨by omega,fun h=>?_,fun h=>?_⟩
   ·have:=ih.2.1 h;omega
   have:=ih.2.2 h;omega
def inI64 (n:Int):Prop:=-9223372036854775808≤n∧n≤9223372036854775807
theorem fieldsF : (Tryz.prog.fieldsOf 52).toList.map (fun f => (f.name, f.type, f.offset)) = [("Code", 50, 0), ("Node", 3, 1), ("Row", 3, 2), ("Column", 3, 3), ("Page", 3, 4)] := by kernel_rfl
theorem underF:Tryz.prog.underlying 52=some (.struct (Tryz.prog.fieldsOf 52)):=by kernel_rfl
theorem sihF:Tryz.prog.stoodInHeld 52=false:=by kernel_rfl
attribute [local go_sem] Oper.semAt_some
end Go.Proofs.YtkgibdjakgmmcaaGreatDoor
