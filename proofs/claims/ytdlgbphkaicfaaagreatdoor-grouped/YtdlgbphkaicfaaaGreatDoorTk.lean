/- A table read from the disk. -/
import Derived.Test.YtdlgbphkaicfaaaGreatDoorTj
import Derived.Test.YtdlgbphkaicfaaaGreatDoorKm
namespace Go.Proofs.YtdlgbphkaicfaaaGreatDoor
open Go.RowKit Go.Shelf Tryz
attribute [local go_sem] Oc0
def Ji6 (y:List (List V))(o c:Nat)(vs:List V):List (List V):=y.mapIdx fun i r=>if o≤i∧i<o+vs.length then r.set c (vs.getD (i-o) Jf)else r
def Jil (y:DS)(D:List (List Nat))(E:List Int)(x:Nat×Nat)(A:List (List V)):Nat→List (List V)⊕Nat
 |0=>.inl A
 |k+1=>match Jil y D E x A k with
  |.inr j=>.inr j
  |.inl R'=>match Us y (D.getD k []) (E.getD k 0) x.2 with
   |.inr j=>.inr j
   |.inl vs=>.inl (Ji6 R' x.1 k vs)
theorem Kho (y:DS)(D:List (List Nat))(E:List Int)(x:Nat×Nat)(A:List (List V))(j:Nat):∀ (k m:Nat),Jil y D E x A k=.inr j→k≤m→Jil y D E x A m=.inr j:=by
 intro k m h K
 induction m with
 |zero=>
      have:k=0:=by omega
      subst this;exact h
 |succ m H=>
  by_cases e:k=m+1
  ·subst e;exact h
  simp only[Jil,H (by omega)]
def Jox (D:DS)(A:List Int)(y:(List (List V)⊕Nat)×List (List Nat))(x:Nat×Nat):(List (List V)⊕Nat)×List (List Nat):=
 (match y.1 with
  |.inr j=>.inr j
  |.inl E=>Jil D y.2 A x E A.length,y.2.drop A.length)
def Jkh (y:DS)(E:List Int)(D:List (List Nat))(A:List (List V))(xs:List (Nat×Nat)):(List (List V)⊕Nat)×List (List Nat):=xs.foldl (Jox y E) (.inl A,D)
theorem Jm6 (y:DS)(A:List Int)(E:List (List Nat))(D:List (List V))(xs:List (Nat×Nat))(x:Nat×Nat):Jkh y A E D (xs++[x])=Jox y A (Jkh y A E D xs) x:=by simp[Jkh]
theorem Jme (D:DS)(A:List Int)(E:List (List Nat))(H:List (List V)):∀ xs:List (Nat×Nat),(Jkh D A E H xs).2=E.drop (xs.length*A.length):=by
 intro xs
 have M:∀ (xs:List (Nat×Nat)) (y:(List (List V)⊕Nat)×List (List Nat)),(xs.foldl (Jox D A) y).2=y.2.drop (xs.length*A.length):=by
  intro xs
  induction xs with
  |nil=>intro y;simp
  |cons x xs K=>
   intro y
   rw[List.foldl_cons,K]
   simp only[Jox,List.drop_drop,List.length_cons]
   congr 1
   rw[Of5]
   omega
 exact M xs _
def Jh3 (y:DS)(A:List (List Nat))(D:List Int)(m:Nat)(cols:List (List V)):Nat→List (List V)⊕Nat
 |0=>.inl cols
 |k+1=>match Jh3 y A D m cols k with
  |.inr j=>.inr j
  |.inl cs=>match Us y (A.getD k []) (D.getD k 0) m with
   |.inr j=>.inr j
   |.inl vs=>.inl (cs.set k (cs.getD k []++vs))
theorem Kd4 (y:DS)(A:List (List Nat))(D:List Int)(m:Nat)(cols:List (List V))(j:Nat):∀ (k n:Nat),Jh3 y A D m cols k=.inr j→k≤n→Jh3 y A D m cols n=.inr j:=by
 intro k n h hn
 induction n with
 |zero=>
      have:k=0:=by omega
      subst this;exact h
 |succ n E=>
  by_cases e:k=n+1
  ·subst e;exact h
  simp only[Jh3,E (by omega)]
def Jpn (D:DS)(A:List Int)(y:(List (List V)⊕Nat)×List (List Nat))(x:Nat×Nat):(List (List V)⊕Nat)×List (List Nat):=
 (match y.1 with
  |.inr j=>.inr j
  |.inl cs=>Jh3 D y.2 A x.2 cs A.length,y.2.drop A.length)
def Jfx (y:DS)(D:List Int)(A:List (List Nat))(cols:List (List V))(xs:List (Nat×Nat)):(List (List V)⊕Nat)×List (List Nat):=xs.foldl (Jpn y D) (.inl cols,A)
theorem Ji5 (y:DS)(A:List Int)(D:List (List Nat))(cols:List (List V))(xs:List (Nat×Nat))(x:Nat×Nat):Jfx y A D cols (xs++[x])=Jpn y A (Jfx y A D cols xs) x:=by simp[Jfx]
theorem Ji2 (D:DS)(A:List Int)(E:List (List Nat))(cols:List (List V)):∀ xs:List (Nat×Nat),(Jfx D A E cols xs).2=E.drop (xs.length*A.length):=by
 intro xs
 have K:∀ (xs:List (Nat×Nat)) (y:(List (List V)⊕Nat)×List (List Nat)),(xs.foldl (Jpn D A) y).2=y.2.drop (xs.length*A.length):=by
  intro xs
  induction xs with
  |nil=>intro y;simp
  |cons x xs H=>
   intro y
   rw[List.foldl_cons,H]
   simp only[Jpn,List.drop_drop,List.length_cons]
   congr 1
   rw[Of5]
   omega
 exact K xs _
theorem Kel (D:DS)(E:List Int)(H:List (List Nat))(cols:List (List V))(xs y:List (Nat×Nat))(j:Nat)(h:(Jfx D E H cols xs).1=.inr j):(Jfx D E H cols (xs++y)).1=.inr j:=by
 have M:∀ (y:List (Nat×Nat)) (A:(List (List V)⊕Nat)×List (List Nat)),A.1=.inr j→(y.foldl (Jpn D E) A).1=.inr j:=by
  intro y
  induction y with
  |nil=>intro A h;exact h
  |cons O y K=>intro A h;exact K _ (by simp[Jpn,h])
 unfold Jfx at h ⊢
 rw[Ol1]
 exact M y _ h
def Qf (n:Nat)(cols:List (List V)):List (List V):=(List.range n).map fun i=>cols.map fun c=>c.getD i Jf
theorem Uu (n:Nat)(cols:List (List V)):(Qf n cols).length=n:=by simp[Qf]
theorem Jqd (n k:Nat):Qf n (List.replicate k [])=List.replicate n (List.replicate k Jf):=by
 apply Oh4
 ·simp[Qf]
 intro i h1 h2
 simp[Qf]
theorem Jsz (n o k:Nat)(cols:List (List V))(vs:List V)(K:k<cols.length)(A:(cols.getD k []).length=o):Ji6 (Qf n cols) o k vs=Qf n (cols.set k (cols.getD k []++vs)):=by
 apply Oh4
 ·simp[Ji6,Qf]
 intro i h1 h2
 simp only[Ji6,Qf,List.getElem_mapIdx,Od9,Oo7,Op0]
 have H:cols.getD k []=cols[k]:=by simp[K]
 rw[H]at A ⊢
 by_cases hi:o≤i
 ·by_cases y:i<o+vs.length
  ·rw[if_pos ⟨hi,y⟩]
   congr 1
   rw[Oa0,Oa0,Ob6 (by omega),A]
  rw[if_neg (fun h=>y h.2)]
  apply Oh4
  ·simp
  intro c D E
  rw[List.getElem_set]
  split
  ·rename_i e;subst e
   rw[Od9,Oa0,Oa0,Ob6 (by omega),Ob4 (by omega),Ob4 (by omega)]
  rfl
 rw[if_neg (fun h=>hi h.1)]
 apply Oh4
 ·simp
 intro c D E
 rw[List.getElem_set]
 split
 ·rename_i e;subst e
  rw[Od9,Oa0,Oa0,Ob0 (by omega)]
 rfl
theorem Ju3 (y:DS)(A:List (List Nat))(D:List Int)(n o m:Nat)(cols:List (List V))(R:∀ l t vs,Us y l t m=.inl vs→vs.length=m)(O:∀ c,c<cols.length→(cols.getD c []).length=o):∀ k,k≤cols.length →
  Jil y A D (o,m) (Qf n cols) k=Sum.map (Qf n) id (Jh3 y A D m cols k)∧∀ cs,Jh3 y A D m cols k=.inl cs→cs.length=cols.length∧(∀ c,c<k→(cs.getD c []).length=o+m)∧∀ c,k≤c→cs.getD c []=cols.getD c []:=by
 intro k
 induction k with
 |zero=>intro _;exact⟨rfl,fun cs h=>by simp[Jh3]at h;subst h;exact⟨rfl,fun c h=>by omega,fun c _=>rfl⟩⟩
 |succ k U=>
  intro bb
  obtain⟨h1,h2⟩:=U (by omega)
  simp only[Jil,Jh3,h1]
  cases E:Jh3 y A D m cols k with
  |inr j=>exact⟨rfl,fun cs h=>by simp at h⟩
  |inl cs=>
   obtain⟨X,Z,K⟩:=h2 cs E
   simp only[Sum.map_inl]
   cases hw:Us y (A.getD k []) (D.getD k 0) m with
   |inr j=>exact⟨rfl,fun cs h=>by simp at h⟩
   |inl vs=>
    have M:=R _ _ _ hw
    have H:(cs.getD k []).length=o:=by rw[K k (Oa2 _)];exact O k (by omega)
    refine⟨?_,?_⟩
    ·simp only[Sum.map_inl]
     rw[Jsz n o k cs vs (by omega) H]
    intro ba h
    simp at h
    subst h
    refine⟨by simpa using X,fun c E=>?_,fun c E=>?_⟩
    ·by_cases e:c=k
     ·subst e
      rw[Oa0,Oh0 (by omega)]
      simp only[Option.getD_some,Oa8]
      rw[M]
      have:=H
      simp only[Oa0]at this
      omega
     have:=Z c (by omega)
     rw[Oa0,Od1 (by omega)]
     simpa using this
    have:=K c (by omega)
    rw[Oa0,Od1 (by omega)]
    simpa using this
theorem Jcy {len g:Nat}(y:1≤g):len≤ckN len g*g:=by
 unfold ckN
 have h1:=Nat.div_add_mod (len+g-1) g
 have h2:=Ol0 (len+g-1) y
 rw[Nat.mul_comm]at h1
 omega
theorem Jwa (D:DS)(y:List Int)(E:List (List Nat))(len g:Nat)(M:1≤g)(O:∀ l t m vs,Us D l t m=.inl vs→vs.length=m):∀ k,k≤ckN len g →
  (Jkh D y E (List.replicate len (List.replicate y.length Jf)) (cks len g k)).1=Sum.map (Qf len) id (Jfx D y E (List.replicate y.length []) (cks len g k)).1 ∧
   ∀ cs,(Jfx D y E (List.replicate y.length []) (cks len g k)).1=.inl cs→cs.length=y.length∧∀ c,c<cs.length→(cs.getD c []).length=min (k*g) len:=by
 intro k
 induction k with
 |zero=>
  intro _
  refine⟨?_,?_⟩
  ·simp[cks,Jkh,Jfx,Jqd]
  intro cs h
  simp[cks,Jfx]at h
  subst h
  refine⟨by simp,fun c A=>?_⟩
  simp at A
  simp[A]
 |succ k R=>
  intro bb
  obtain⟨h1,h2⟩:=R (by omega)
  have bc:=Jqs M (show k<ckN len g by omega)
  rw[Jbj,Jm6,Ji5]
  simp only[Jox,Jpn,Jme,Ji2,h1]
  cases A:(Jfx D y E (List.replicate y.length []) (cks len g k)).1 with
  |inr j=>exact⟨rfl,fun cs h=>by simp at h⟩
  |inl cs=>
   obtain⟨bf,U⟩:=h2 cs A
   simp only[Sum.map_inl]
   have K:Jaa len g k=(k*g,min g (len-k*g)):=rfl
   rw[K]
   obtain⟨X,Z⟩:=Ju3 D (E.drop ((cks len g k).length*y.length)) y len (k*g) (min g (len-k*g)) cs (fun l t vs h=>O l t _ vs h) (fun c A=>by rw[U c A];omega) y.length (by omega)
   refine⟨X,fun H h=>?_⟩
   obtain⟨bh,ba,_⟩:=Z H h
   refine⟨by omega,fun c A=>?_⟩
   rw[ba c (by omega),Of5]
   omega
theorem Jnk {y:DS}{l:List Nat}{t:Int}{m:Nat}{vs:List V}(h:Us y l t m=.inl vs):vs.length=m:=by
 unfold Us at h
 split at h
 ·simp at h
 split at h
 ·split at h
  ·rename_i A;simp at h;subst h;exact A.2
  simp at h
 simp at h
theorem Jaf.tail {w:World}{F:Nat→Prop}{b o:Nat}{hs:List (Option Addr×Nat)}{D:List (List Nat)}(h:Jaf w F (some ⟨b,o,none⟩) hs D)(M:Nat)(E:M=o+1∨D.length≤1):Jaf w F (some ⟨b,M,none⟩) (hs.drop 1) (D.drop 1):=by
 refine⟨by simp[h.len],?_,fun i x l A H=>?_,fun b2 U y=>?_,fun i x A b o y=>?_⟩
 ·rcases E with rfl|E
  ·rcases h.cells with h0|⟨b2,U,R,y,O⟩
   ·left
    rw[←List.drop_zipWith,h0]
    rfl
   cases R
   right
   refine⟨b,o+1,rfl,y,fun i v K=>?_⟩
   rw[←List.drop_zipWith,Oh9]at K
   have:=O _ v K
   rw[On5]
   exact this
  left
  have:D.drop 1=[]:=List.drop_eq_nil_of_le E
  rw[this]
  simp
 ·rw[Oh9]at A H
  exact h.segs _ x l A H
 ·cases y
  exact h.aF b o rfl
 rw[Oh9]at A
 exact h.hF _ x A b o y
theorem Jcu.of_blocks {w w':World}{B g:Nat}{bs:List Nat}{rs:List (List V)}(h:Jcu w B g bs rs)(A:w'.heap[g]?=w.heap[g]?)(y:∀ b∈bs,w'.heap[b]?=w.heap[b]?):Jcu w' B g bs rs:=
 ⟨h.len,h.outer.of_block A,fun i b r hi D=>(h.rows i b r hi D).of_block (y b (Of6 hi)),h.from_,h.nodup⟩
theorem Kil (w:World)(a b c:Value)(t:TypeId):(w.alloc (.cells #[a,b,c] t)).cell? ⟨w.heap.size,0,none⟩=some a∧(w.alloc (.cells #[a,b,c] t)).cell? ⟨w.heap.size,1,none⟩=some b∧(w.alloc (.cells #[a,b,c] t)).cell? ⟨w.heap.size,2,none⟩=some c:=by
 have h:=heap_alloc_new w (.cells #[a,b,c] t)
 generalize w.alloc (.cells #[a,b,c] t)=y at *
 simp[World.cell?,h]
abbrev Uq (y:List Value)(i:Nat):Value:=y.getD i (.slice none 0 0)
structure Jar (w:World) (B g:Nat) (svs:List Value) (cs:List (List V)):Prop where
 row:w.rowIs g 54 svs.length (Uq svs)
 low:B≤g
 len:svs.length=cs.length
 own:∀ i,i<cs.length→Yt w B (Uq svs i) (cs.getD i [])
 ne:∀ i,i<cs.length→(Uq svs i).ownBlock≠some g
 apart:∀ i j b,i<cs.length→j<cs.length→i≠j→(Uq svs i).ownBlock=some b→(Uq svs j).ownBlock≠some b
theorem Jar.below {w w':World}{B g:Nat}{A:List Value}{cs:List (List V)}(h:Jar w B g A cs)(y:Below w.heap.size w w'):Jar w' B g A cs:=
 ⟨h.row.of_block (y.block _ h.row.lt),h.low,h.len,fun i hi=>(h.own i hi).below y,h.ne,h.apart⟩
theorem Jem {y:List Value}{c i:Nat}{v:Value}(A:c<y.length):Uq (y.set c v) i=if i=c then v else Uq y i:=by
 unfold Uq
 rw[Oa0,Oa0]
 by_cases e:i=c
 ·subst e;rw[Oh0 A,if_pos rfl];rfl
 rw[Od1 (fun h=>e h.symm),if_neg e]
theorem Jyj {cs:List (List V)}{c i:Nat}{v:List V}(y:c<cs.length):(cs.set c v).getD i []=if i=c then v else cs.getD i []:=by
 rw[Oa0,Oa0]
 by_cases e:i=c
 ·subst e;rw[Oh0 y,if_pos rfl];rfl
 rw[Od1 (fun h=>e h.symm),if_neg e]
theorem Jar.put {w w':World}{B g c:Nat}{D:List Value}{cs:List (List V)}{vs:List V}{sv':Value}(h:Jar w B g D cs)(E:c<cs.length)(bf:Yt w' B sv' (cs.getD c []++vs))(O:w.grownBy w' (Uq D c).ownBlock)(hs:sv'.ownBlock=(Uq D c).ownBlock∨sv'.ownBlock=some w.heap.size) :
  Jar (w'.setCell ⟨g,c,none⟩ sv') B g (D.set c sv') (cs.set c (cs.getD c []++vs)):=by
 have H:c<D.length:=by rw[h.len];exact E
 have bb:=h.row.lt
 have ba:w'.heap[g]?=w.heap[g]?:=O.block g bb (fun e=>h.ne c E e.symm)
 have Z:sv'.ownBlock≠some g:=by
  rcases hs with e|e
  ·rw[e];exact h.ne c E
  rw[e];intro K;simp at K;omega
 have U:∀ i b,i<cs.length→(Uq D i).ownBlock=some b→b<w.heap.size:=fun i b hi y=>(Je (h.own i hi) y).2
 have X:∀ i b,i<cs.length→i≠c→(Uq D i).ownBlock=some b→sv'.ownBlock≠some b:=by
  intro i b hi A y
  rcases hs with e|e
  ·rw[e];exact h.apart i c b hi E A y
  rw[e];intro K;simp at K;have:=U i b hi y;omega
 refine⟨?_,h.low,by simp[h.len],fun i hi=>?_,fun i hi=>?_,fun i j b hi M bc y=>?_⟩
 ·rw[Of8]
  exact((h.row.of_block ba).set c sv').congr fun j _=>by rw[Jem H]
 ·rw[Of8]at hi
  rw[Jem H,Jyj E]
  split
  ·exact Jl bf fun b y=>Oa4 _ _ _ _ (by rintro rfl;exact Z y)
  rename_i A
  refine Jl (h.own i hi) fun b y=>?_
  rw[Oa4 _ _ _ _ (by rintro rfl;exact h.ne i hi y)]
  exact O.block b (U i b hi y) (fun e=>h.apart i c b hi E A y e.symm)
 ·rw[Of8]at hi
  rw[Jem H]
  split
  ·exact Z
  exact h.ne i hi
 rw[Of8]at hi M
 rw[Jem H]at y ⊢
 by_cases A:i=c
 ·rw[if_pos A]at y
  rw[if_neg (by omega)]
  intro e
  exact X j b M (by omega) e y
 rw[if_neg A]at y
 by_cases R:j=c
 ·rw[if_pos R];exact X i b hi A y
 rw[if_neg R];exact h.apart i j b hi M bc y
theorem Jjs {w:World}{H:Array Oper}{rest:List Oper}{o:Oper}{a:Act}{Q:Exit→Act→World→Prop}(X:o.guard=none)(s x:Operand)
  (Z:o.op=.call {callee:=.builtin .append,args:=#[s,x],argTypes:=#[54,54]})
  (B:Nat) (sv:Value) (y:List V) (hs:a.eval s=sv) (ba:Yt w B sv y)
  (g c:Nat) (vs:List V) (bf:a.eval x=.slice (some ⟨g,0,none⟩) vs.length c) (bc:Kv w g vs []) (bj:y.length+vs.length≤1000000) (R:B≤w.heap.size)
  (h:∀ sv' w',Yt w' B sv' (y++vs)→w.grownBy w' sv.ownBlock→(sv'.ownBlock=sv.ownBlock∨sv'.ownBlock=some w.heap.size)→wpList prog H Q rest (a.put o.dst sv') w') :
  wpList prog H Q (o::rest) a w:=by
 obtain⟨i,hi,bh,bb,U⟩:=info_parts Jow
 obtain⟨C,M,D⟩:=bc
 rw[Od7]at D
 refine wpList_append_own_at w X s x 54 Z B 63 i _ 3 32 (by kernel_rfl) hi bh bb U rfl (by decide) sv y.length (y.flatMap V.cells) hs ba ⟨g,0,none⟩ vs.length c (vs.flatMap V.cells) bf ?_ ?_ ?_ ?_ ?_ R ?_
 ·exact Ja5 vs
 ·intro j u E
  rw[←D]at E
  have O:(⟨g,0,none⟩:Addr).add j=⟨g,j,none⟩:=by
   rcases j with _|j
   ·rfl
   simp[Addr.add]
  rw[O]
  simpa [World.cell?,M] using E
 ·intro u A
  obtain⟨v,_,A⟩:=Op5.1 A
  simp[V.cells]at A
  rcases A with rfl|rfl|rfl<;>rfl
 ·unfold maxLen;omega
 ·omega
 intro bi w' h1 h2 _ K
 refine h bi w' ?_ h2 K
 unfold Yt
 simpa using h1
end Go.Proofs.YtdlgbphkaicfaaaGreatDoor
