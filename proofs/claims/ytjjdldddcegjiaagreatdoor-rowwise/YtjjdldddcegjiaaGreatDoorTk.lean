/- A table read from the disk. -/
import Derived.Test.YtjjdldddcegjiaaGreatDoorTj
import Derived.Test.YtjjdldddcegjiaaGreatDoorTg
import Derived.Test.YtjjdldddcegjiaaGreatDoorMa
namespace Go.Proofs.YtjjdldddcegjiaaGreatDoor
open Go.RowKit Go.Shelf Tryz
attribute [local go_sem] Oc0
def Ji6 (y:List (List V))(o c:Nat)(vs:List V):List (List V):=y.mapIdx fun i r=>if o≤i∧i<o+vs.length then r.set c (vs.getD (i-o) Jf)else r
def Jil (y:DS)(A:List (List Nat))(C:List Int)(x:Nat×Nat)(z:List (List V)):Nat→List (List V)⊕Nat
 |0=>.inl z
 |k+1=>match Jil y A C x z k with
  |.inr j=>.inr j
  |.inl R'=>match Us y (A.getD k []) (C.getD k 0) x.2 with
   |.inr j=>.inr j
   |.inl vs=>.inl (Ji6 R' x.1 k vs)
theorem Kho (y:DS)(A:List (List Nat))(C:List Int)(x:Nat×Nat)(z:List (List V))(j:Nat):∀ (k m:Nat),Jil y A C x z k=.inr j→k≤m→Jil y A C x z m=.inr j:=by
 intro k m h E
 induction m with
 |zero=>
      have:k=0:=by omega
      subst this;exact h
 |succ m D=>
  by_cases e:k=m+1
  ·subst e;exact h
  simp only[Jil,D (by omega)]
def Jox (A:DS)(z:List Int)(y:(List (List V)⊕Nat)×List (List Nat))(x:Nat×Nat):(List (List V)⊕Nat)×List (List Nat):=
 (match y.1 with
  |.inr j=>.inr j
  |.inl C=>Jil A y.2 z x C z.length,y.2.drop z.length)
def Jkh (y:DS)(C:List Int)(A:List (List Nat))(z:List (List V))(xs:List (Nat×Nat)):(List (List V)⊕Nat)×List (List Nat):=xs.foldl (Jox y C) (.inl z,A)
theorem Jm6 (y:DS)(z:List Int)(C:List (List Nat))(A:List (List V))(xs:List (Nat×Nat))(x:Nat×Nat):Jkh y z C A (xs++[x])=Jox y z (Jkh y z C A xs) x:=by simp[Jkh]
theorem Jme (A:DS)(z:List Int)(C:List (List Nat))(D:List (List V)):∀ xs:List (Nat×Nat),(Jkh A z C D xs).2=C.drop (xs.length*z.length):=by
 intro xs
 have H:∀ (xs:List (Nat×Nat)) (y:(List (List V)⊕Nat)×List (List Nat)),(xs.foldl (Jox A z) y).2=y.2.drop (xs.length*z.length):=by
  intro xs
  induction xs with
  |nil=>intro y;simp
  |cons x xs E=>
   intro y
   rw[List.foldl_cons,E]
   simp only[Jox,List.drop_drop,List.length_cons]
   congr 1
   rw[Of5]
   omega
 exact H xs _
def Jh3 (y:DS)(z:List (List Nat))(A:List Int)(m:Nat)(cols:List (List V)):Nat→List (List V)⊕Nat
 |0=>.inl cols
 |k+1=>match Jh3 y z A m cols k with
  |.inr j=>.inr j
  |.inl cs=>match Us y (z.getD k []) (A.getD k 0) m with
   |.inr j=>.inr j
   |.inl vs=>.inl (cs.set k (cs.getD k []++vs))
theorem Kd4 (y:DS)(z:List (List Nat))(A:List Int)(m:Nat)(cols:List (List V))(j:Nat):∀ (k n:Nat),Jh3 y z A m cols k=.inr j→k≤n→Jh3 y z A m cols n=.inr j:=by
 intro k n h hn
 induction n with
 |zero=>
      have:k=0:=by omega
      subst this;exact h
 |succ n C=>
  by_cases e:k=n+1
  ·subst e;exact h
  simp only[Jh3,C (by omega)]
def Jpn (A:DS)(z:List Int)(y:(List (List V)⊕Nat)×List (List Nat))(x:Nat×Nat):(List (List V)⊕Nat)×List (List Nat):=
 (match y.1 with
  |.inr j=>.inr j
  |.inl cs=>Jh3 A y.2 z x.2 cs z.length,y.2.drop z.length)
def Jfx (y:DS)(A:List Int)(z:List (List Nat))(cols:List (List V))(xs:List (Nat×Nat)):(List (List V)⊕Nat)×List (List Nat):=xs.foldl (Jpn y A) (.inl cols,z)
theorem Ji5 (y:DS)(z:List Int)(A:List (List Nat))(cols:List (List V))(xs:List (Nat×Nat))(x:Nat×Nat):Jfx y z A cols (xs++[x])=Jpn y z (Jfx y z A cols xs) x:=by simp[Jfx]
theorem Ji2 (A:DS)(z:List Int)(C:List (List Nat))(cols:List (List V)):∀ xs:List (Nat×Nat),(Jfx A z C cols xs).2=C.drop (xs.length*z.length):=by
 intro xs
 have E:∀ (xs:List (Nat×Nat)) (y:(List (List V)⊕Nat)×List (List Nat)),(xs.foldl (Jpn A z) y).2=y.2.drop (xs.length*z.length):=by
  intro xs
  induction xs with
  |nil=>intro y;simp
  |cons x xs D=>
   intro y
   rw[List.foldl_cons,D]
   simp only[Jpn,List.drop_drop,List.length_cons]
   congr 1
   rw[Of5]
   omega
 exact E xs _
theorem Kel (A:DS)(C:List Int)(D:List (List Nat))(cols:List (List V))(xs y:List (Nat×Nat))(j:Nat)(h:(Jfx A C D cols xs).1=.inr j):(Jfx A C D cols (xs++y)).1=.inr j:=by
 have H:∀ (y:List (Nat×Nat)) (z:(List (List V)⊕Nat)×List (List Nat)),z.1=.inr j→(y.foldl (Jpn A C) z).1=.inr j:=by
  intro y
  induction y with
  |nil=>intro z h;exact h
  |cons K y E=>intro z h;exact E _ (by simp[Jpn,h])
 unfold Jfx at h ⊢
 rw[Ol1]
 exact H y _ h
def Qf (n:Nat)(cols:List (List V)):List (List V):=(List.range n).map fun i=>cols.map fun c=>c.getD i Jf
theorem Uu (n:Nat)(cols:List (List V)):(Qf n cols).length=n:=by simp[Qf]
theorem Jqd (n k:Nat):Qf n (List.replicate k [])=List.replicate n (List.replicate k Jf):=by
 apply Oh4
 ·simp[Qf]
 intro i y z
 simp[Qf]
theorem Jsz (n o k:Nat)(cols:List (List V))(vs:List V)(E:k<cols.length)(z:(cols.getD k []).length=o):Ji6 (Qf n cols) o k vs=Qf n (cols.set k (cols.getD k []++vs)):=by
 apply Oh4
 ·simp[Ji6,Qf]
 intro i H K
 simp only[Ji6,Qf,List.getElem_mapIdx,Od9,Oo7,Op0]
 have D:cols.getD k []=cols[k]:=by simp[E]
 rw[D]at z ⊢
 by_cases hi:o≤i
 ·by_cases y:i<o+vs.length
  ·rw[if_pos ⟨hi,y⟩]
   congr 1
   rw[Oa0,Oa0,Ob6 (by omega),z]
  rw[if_neg (fun h=>y h.2)]
  apply Oh4
  ·simp
  intro c A C
  rw[List.getElem_set]
  split
  ·rename_i e;subst e
   rw[Od9,Oa0,Oa0,Ob6 (by omega),Ob4 (by omega),Ob4 (by omega)]
  rfl
 rw[if_neg (fun h=>hi h.1)]
 apply Oh4
 ·simp
 intro c A C
 rw[List.getElem_set]
 split
 ·rename_i e;subst e
  rw[Od9,Oa0,Oa0,Ob0 (by omega)]
 rfl
theorem Ju3 (y:DS)(z:List (List Nat))(A:List Int)(n o m:Nat)(cols:List (List V))(R:∀ l t vs,Us y l t m=.inl vs→vs.length=m)(O:∀ c,c<cols.length→(cols.getD c []).length=o):∀ k,k≤cols.length →
  Jil y z A (o,m) (Qf n cols) k=Sum.map (Qf n) id (Jh3 y z A m cols k)∧∀ cs,Jh3 y z A m cols k=.inl cs→cs.length=cols.length∧(∀ c,c<k→(cs.getD c []).length=o+m)∧∀ c,k≤c→cs.getD c []=cols.getD c []:=by
 intro k
 induction k with
 |zero=>intro _;exact⟨rfl,fun cs h=>by simp[Jh3]at h;subst h;exact⟨rfl,fun c h=>by omega,fun c _=>rfl⟩⟩
 |succ k U=>
  intro bf
  obtain⟨H,K⟩:=U (by omega)
  simp only[Jil,Jh3,H]
  cases C:Jh3 y z A m cols k with
  |inr j=>exact⟨rfl,fun cs h=>by simp at h⟩
  |inl cs=>
   obtain⟨X,Z,E⟩:=K cs C
   simp only[Sum.map_inl]
   cases hw:Us y (z.getD k []) (A.getD k 0) m with
   |inr j=>exact⟨rfl,fun cs h=>by simp at h⟩
   |inl vs=>
    have M:=R _ _ _ hw
    have D:(cs.getD k []).length=o:=by rw[E k (Oa2 _)];exact O k (by omega)
    refine⟨?_,?_⟩
    ·simp only[Sum.map_inl]
     rw[Jsz n o k cs vs (by omega) D]
    intro bc h
    simp at h
    subst h
    refine⟨by simpa using X,fun c C=>?_,fun c C=>?_⟩
    ·by_cases e:c=k
     ·subst e
      rw[Oa0,Oh0 (by omega)]
      simp only[Option.getD_some,Oa8]
      rw[M]
      have:=D
      simp only[Oa0]at this
      omega
     have:=Z c (by omega)
     rw[Oa0,Od1 (by omega)]
     simpa using this
    have:=E c (by omega)
    rw[Oa0,Od1 (by omega)]
    simpa using this
theorem Jcy {len g:Nat}(z:1≤g):len≤ckN len g*g:=by
 unfold ckN
 have y:=Nat.div_add_mod (len+g-1) g
 have A:=Ol0 (len+g-1) z
 rw[Nat.mul_comm]at y
 omega
theorem Jwa (A:DS)(y:List Int)(C:List (List Nat))(len g:Nat)(M:1≤g)(O:∀ l t m vs,Us A l t m=.inl vs→vs.length=m):∀ k,k≤ckN len g →
  (Jkh A y C (List.replicate len (List.replicate y.length Jf)) (cks len g k)).1=Sum.map (Qf len) id (Jfx A y C (List.replicate y.length []) (cks len g k)).1 ∧
   ∀ cs,(Jfx A y C (List.replicate y.length []) (cks len g k)).1=.inl cs→cs.length=y.length∧∀ c,c<cs.length→(cs.getD c []).length=min (k*g) len:=by
 intro k
 induction k with
 |zero=>
  intro _
  refine⟨?_,?_⟩
  ·simp[cks,Jkh,Jfx,Jqd]
  intro cs h
  simp[cks,Jfx]at h
  subst h
  refine⟨by simp,fun c z=>?_⟩
  simp at z
  simp[z]
 |succ k R=>
  intro bf
  obtain⟨E,H⟩:=R (by omega)
  have bh:=Jqs M (show k<ckN len g by omega)
  rw[Jbj,Jm6,Ji5]
  simp only[Jox,Jpn,Jme,Ji2,E]
  cases z:(Jfx A y C (List.replicate y.length []) (cks len g k)).1 with
  |inr j=>exact⟨rfl,fun cs h=>by simp at h⟩
  |inl cs=>
   obtain⟨bi,U⟩:=H cs z
   simp only[Sum.map_inl]
   have K:Jaa len g k=(k*g,min g (len-k*g)):=rfl
   rw[K]
   obtain⟨X,Z⟩:=Ju3 A (C.drop ((cks len g k).length*y.length)) y len (k*g) (min g (len-k*g)) cs (fun l t vs h=>O l t _ vs h) (fun c z=>by rw[U c z];omega) y.length (by omega)
   refine⟨X,fun D h=>?_⟩
   obtain⟨bj,bc,_⟩:=Z D h
   refine⟨by omega,fun c z=>?_⟩
   rw[bc c (by omega),Of5]
   omega
theorem Jnk {y:DS}{l:List Nat}{t:Int}{m:Nat}{vs:List V}(h:Us y l t m=.inl vs):vs.length=m:=by
 unfold Us at h
 split at h
 ·simp at h
 split at h
 ·split at h
  ·rename_i z;simp at h;subst h;exact z.2
  simp at h
 simp at h
theorem Jaf.tail {w:World}{F:Nat→Prop}{b o:Nat}{hs:List (Option Addr×Nat)}{A:List (List Nat)}(h:Jaf w F (some ⟨b,o,none⟩) hs A)(H:Nat)(C:H=o+1∨A.length≤1):Jaf w F (some ⟨b,H,none⟩) (hs.drop 1) (A.drop 1):=by
 refine⟨by simp[h.len],?_,fun i x l z D=>?_,fun b2 O y=>?_,fun i x z b o y=>?_⟩
 ·rcases C with rfl|C
  ·rcases h.cells with h0|⟨b2,O,M,y,K⟩
   ·left
    rw[←List.drop_zipWith,h0]
    rfl
   cases M
   right
   refine⟨b,o+1,rfl,y,fun i v E=>?_⟩
   rw[←List.drop_zipWith,Oh9]at E
   have:=K _ v E
   rw[On5]
   exact this
  left
  have:A.drop 1=[]:=List.drop_eq_nil_of_le C
  rw[this]
  simp
 ·rw[Oh9]at z D
  exact h.segs _ x l z D
 ·cases y
  exact h.aF b o rfl
 rw[Oh9]at z
 exact h.hF _ x z b o y
theorem Jcu.of_blocks {w w':World}{B g:Nat}{bs:List Nat}{rs:List (List V)}(h:Jcu w B g bs rs)(z:w'.heap[g]?=w.heap[g]?)(y:∀ b∈bs,w'.heap[b]?=w.heap[b]?):Jcu w' B g bs rs:=
 ⟨h.len,h.outer.of_block z,fun i b r hi A=>(h.rows i b r hi A).of_block (y b (Of6 hi)),h.from_,h.nodup⟩
theorem Kil (w:World)(a b c:Value)(t:TypeId):(w.alloc (.cells #[a,b,c] t)).cell? ⟨w.heap.size,0,none⟩=some a∧(w.alloc (.cells #[a,b,c] t)).cell? ⟨w.heap.size,1,none⟩=some b∧(w.alloc (.cells #[a,b,c] t)).cell? ⟨w.heap.size,2,none⟩=some c:=by
 have h:=heap_alloc_new w (.cells #[a,b,c] t)
 generalize w.alloc (.cells #[a,b,c] t)=y at *
 simp[World.cell?,h]
abbrev Uq (y:List Value)(i:Nat):Value:=y.getD i (.slice none 0 0)
structure Jar (w:World) (B g:Nat) (svs:List Value) (cs:List (List V)):Prop where
 row:w.rowIs g 58 svs.length (Uq svs)
 low:B≤g
 len:svs.length=cs.length
 own:∀ i,i<cs.length→Yt w B (Uq svs i) (cs.getD i [])
 ne:∀ i,i<cs.length→(Uq svs i).ownBlock≠some g
 apart:∀ i j b,i<cs.length→j<cs.length→i≠j→(Uq svs i).ownBlock=some b→(Uq svs j).ownBlock≠some b
theorem Jar.below {w w':World}{B g:Nat}{z:List Value}{cs:List (List V)}(h:Jar w B g z cs)(y:Below w.heap.size w w'):Jar w' B g z cs:=
 ⟨h.row.of_block (y.block _ h.row.lt),h.low,h.len,fun i hi=>(h.own i hi).below y,h.ne,h.apart⟩
theorem Jem {y:List Value}{c i:Nat}{v:Value}(z:c<y.length):Uq (y.set c v) i=if i=c then v else Uq y i:=by
 unfold Uq
 rw[Oa0,Oa0]
 by_cases e:i=c
 ·subst e;rw[Oh0 z,if_pos rfl];rfl
 rw[Od1 (fun h=>e h.symm),if_neg e]
theorem Jyj {cs:List (List V)}{c i:Nat}{v:List V}(y:c<cs.length):(cs.set c v).getD i []=if i=c then v else cs.getD i []:=by
 rw[Oa0,Oa0]
 by_cases e:i=c
 ·subst e;rw[Oh0 y,if_pos rfl];rfl
 rw[Od1 (fun h=>e h.symm),if_neg e]
theorem Jar.put {w w':World}{B g c:Nat}{A:List Value}{cs:List (List V)}{vs:List V}{sv':Value}(h:Jar w B g A cs)(C:c<cs.length)(bf:Yt w' B sv' (cs.getD c []++vs))(K:w.grownBy w' (Uq A c).ownBlock)(hs:sv'.ownBlock=(Uq A c).ownBlock∨sv'.ownBlock=some w.heap.size) :
  Jar (w'.setCell ⟨g,c,none⟩ sv') B g (A.set c sv') (cs.set c (cs.getD c []++vs)):=by
 have D:c<A.length:=by rw[h.len];exact C
 have Z:=h.row.lt
 have X:w'.heap[g]?=w.heap[g]?:=K.block g Z (fun e=>h.ne c C e.symm)
 have U:sv'.ownBlock≠some g:=by
  rcases hs with e|e
  ·rw[e];exact h.ne c C
  rw[e];intro E;simp at E;omega
 have O:∀ i b,i<cs.length→(Uq A i).ownBlock=some b→b<w.heap.size:=fun i b hi y=>(Je (h.own i hi) y).2
 have R:∀ i b,i<cs.length→i≠c→(Uq A i).ownBlock=some b→sv'.ownBlock≠some b:=by
  intro i b hi z y
  rcases hs with e|e
  ·rw[e];exact h.apart i c b hi C z y
  rw[e];intro E;simp at E;have:=O i b hi y;omega
 refine⟨?_,h.low,by simp[h.len],fun i hi=>?_,fun i hi=>?_,fun i j b hi H bc y=>?_⟩
 ·rw[Of8]
  exact((h.row.of_block X).set c sv').congr fun j _=>by rw[Jem D]
 ·rw[Of8]at hi
  rw[Jem D,Jyj C]
  split
  ·exact Jl bf fun b y=>Oa4 _ _ _ _ (by rintro rfl;exact U y)
  rename_i z
  refine Jl (h.own i hi) fun b y=>?_
  rw[Oa4 _ _ _ _ (by rintro rfl;exact h.ne i hi y)]
  exact K.block b (O i b hi y) (fun e=>h.apart i c b hi C z y e.symm)
 ·rw[Of8]at hi
  rw[Jem D]
  split
  ·exact U
  exact h.ne i hi
 rw[Of8]at hi H
 rw[Jem D]at y ⊢
 by_cases z:i=c
 ·rw[if_pos z]at y
  rw[if_neg (by omega)]
  intro e
  exact R j b H (by omega) e y
 rw[if_neg z]at y
 by_cases M:j=c
 ·rw[if_pos M];exact R i b hi z y
 rw[if_neg M];exact h.apart i j b hi H bc y
theorem Jjs {w:World}{D:Array Oper}{rest:List Oper}{o:Oper}{a:Act}{Q:Exit→Act→World→Prop}(X:o.guard=none)(s x:Operand)
  (Z:o.op=.call {callee:=.builtin .append,args:=#[s,x],argTypes:=#[58,58]})
  (B:Nat) (sv:Value) (y:List V) (hs:a.eval s=sv) (bc:Yt w B sv y)
  (g c:Nat) (vs:List V) (bi:a.eval x=.slice (some ⟨g,0,none⟩) vs.length c) (bh:Kv w g vs []) (br:y.length+vs.length≤1000000) (R:B≤w.heap.size)
  (h:∀ sv' w',Yt w' B sv' (y++vs)→w.grownBy w' sv.ownBlock→(sv'.ownBlock=sv.ownBlock∨sv'.ownBlock=some w.heap.size)→wpList prog D Q rest (a.put o.dst sv') w') :
  wpList prog D Q (o::rest) a w:=by
 obtain⟨i,hi,bj,bf,U⟩:=info_parts Jow
 obtain⟨bn,M,A⟩:=bh
 rw[Od7]at A
 refine wpList_append_own_at w X s x 58 Z B 49 i _ 3 32 (by kernel_rfl) hi bj bf U rfl (by decide) sv y.length (y.flatMap V.cells) hs bc ⟨g,0,none⟩ vs.length c (vs.flatMap V.cells) bi ?_ ?_ ?_ ?_ ?_ R ?_
 ·exact Ja5 vs
 ·intro j u C
  rw[←A]at C
  have O:(⟨g,0,none⟩:Addr).add j=⟨g,j,none⟩:=by
   rcases j with _|j
   ·rfl
   simp[Addr.add]
  rw[O]
  simpa [World.cell?,M] using C
 ·intro u z
  obtain⟨v,_,z⟩:=Op5.1 z
  simp[V.cells]at z
  rcases z with rfl|rfl|rfl<;>rfl
 ·unfold maxLen;omega
 ·omega
 intro bl w' E H _ K
 refine h bl w' ?_ H K
 unfold Yt
 simpa using E
end Go.Proofs.YtjjdldddcegjiaaGreatDoor
