/- A table read from the disk. -/
import Derived.Test.YtcaocabmioafcaaGreatDoorTj
import Derived.Test.YtcaocabmioafcaaGreatDoorTg
namespace Go.Proofs.YtcaocabmioafcaaGreatDoor
open Go.RowKit Go.Shelf Tryz
attribute [local go_sem] Oc0
def Ji6 (A:List (List V))(o c:Nat)(vs:List V):List (List V):=A.mapIdx fun i r=>if o≤i∧i<o+vs.length then r.set c (vs.getD (i-o) Jf)else r
def Jil (D:DS)(H:List (List Nat))(ts:List Int)(x:Nat×Nat)(A:List (List V)):Nat→List (List V)⊕Nat
 |0=>.inl A
 |k+1=>match Jil D H ts x A k with
  |.inr j=>.inr j
  |.inl I=>match Us D (H.getD k []) (ts.getD k 0) x.2 with
   |.inr j=>.inr j
   |.inl vs=>.inl (Ji6 I x.1 k vs)
theorem Kho (D:DS)(H:List (List Nat))(ts:List Int)(x:Nat×Nat)(A:List (List V))(j:Nat):∀ (k m:Nat),Jil D H ts x A k=.inr j→k≤m→Jil D H ts x A m=.inr j:=by
 intro k m h J
 induction m with
 |zero=>
      have:k=0:=by omega
      subst this;exact h
 |succ m I=>
  by_cases e:k=m+1
  ·subst e;exact h
  simp only[Jil,I (by omega)]
def Jox (D:DS)(ts:List Int)(A:(List (List V)⊕Nat)×List (List Nat))(x:Nat×Nat):(List (List V)⊕Nat)×List (List Nat):=
 (match A.1 with
  |.inr j=>.inr j
  |.inl H=>Jil D A.2 ts x H ts.length,A.2.drop ts.length)
def Jkh (D:DS)(ts:List Int)(H:List (List Nat))(A:List (List V))(xs:List (Nat×Nat)):(List (List V)⊕Nat)×List (List Nat):=xs.foldl (Jox D ts) (.inl A,H)
theorem Jm6 (D:DS)(ts:List Int)(H:List (List Nat))(A:List (List V))(xs:List (Nat×Nat))(x:Nat×Nat):Jkh D ts H A (xs++[x])=Jox D ts (Jkh D ts H A xs) x:=by simp[Jkh]
theorem Jme (D:DS)(ts:List Int)(H:List (List Nat))(I:List (List V)):∀ xs:List (Nat×Nat),(Jkh D ts H I xs).2=H.drop (xs.length*ts.length):=by
 intro xs
 have K:∀ (xs:List (Nat×Nat)) (A:(List (List V)⊕Nat)×List (List Nat)),(xs.foldl (Jox D ts) A).2=A.2.drop (xs.length*ts.length):=by
  intro xs
  induction xs with
  |nil=>intro A;simp
  |cons x xs J=>
   intro A
   rw[List.foldl_cons,J]
   simp only[Jox,List.drop_drop,List.length_cons]
   congr 1
   rw[Of5]
   omega
 exact K xs _
def Jh3 (D:DS)(A:List (List Nat))(ts:List Int)(m:Nat)(cols:List (List V)):Nat→List (List V)⊕Nat
 |0=>.inl cols
 |k+1=>match Jh3 D A ts m cols k with
  |.inr j=>.inr j
  |.inl cs=>match Us D (A.getD k []) (ts.getD k 0) m with
   |.inr j=>.inr j
   |.inl vs=>.inl (cs.set k (cs.getD k []++vs))
theorem Kd4 (D:DS)(A:List (List Nat))(ts:List Int)(m:Nat)(cols:List (List V))(j:Nat):∀ (k n:Nat),Jh3 D A ts m cols k=.inr j→k≤n→Jh3 D A ts m cols n=.inr j:=by
 intro k n h I
 induction n with
 |zero=>
      have:k=0:=by omega
      subst this;exact h
 |succ n H=>
  by_cases e:k=n+1
  ·subst e;exact h
  simp only[Jh3,H (by omega)]
def Jpn (D:DS)(ts:List Int)(A:(List (List V)⊕Nat)×List (List Nat))(x:Nat×Nat):(List (List V)⊕Nat)×List (List Nat):=
 (match A.1 with
  |.inr j=>.inr j
  |.inl cs=>Jh3 D A.2 ts x.2 cs ts.length,A.2.drop ts.length)
def Jfx (D:DS)(ts:List Int)(A:List (List Nat))(cols:List (List V))(xs:List (Nat×Nat)):(List (List V)⊕Nat)×List (List Nat):=xs.foldl (Jpn D ts) (.inl cols,A)
theorem Ji5 (D:DS)(ts:List Int)(A:List (List Nat))(cols:List (List V))(xs:List (Nat×Nat))(x:Nat×Nat):Jfx D ts A cols (xs++[x])=Jpn D ts (Jfx D ts A cols xs) x:=by simp[Jfx]
theorem Ji2 (D:DS)(ts:List Int)(H:List (List Nat))(cols:List (List V)):∀ xs:List (Nat×Nat),(Jfx D ts H cols xs).2=H.drop (xs.length*ts.length):=by
 intro xs
 have J:∀ (xs:List (Nat×Nat)) (A:(List (List V)⊕Nat)×List (List Nat)),(xs.foldl (Jpn D ts) A).2=A.2.drop (xs.length*ts.length):=by
  intro xs
  induction xs with
  |nil=>intro A;simp
  |cons x xs I=>
   intro A
   rw[List.foldl_cons,I]
   simp only[Jpn,List.drop_drop,List.length_cons]
   congr 1
   rw[Of5]
   omega
 exact J xs _
theorem Kel (D:DS)(ts:List Int)(I:List (List Nat))(cols:List (List V))(xs A:List (Nat×Nat))(j:Nat)(h:(Jfx D ts I cols xs).1=.inr j):(Jfx D ts I cols (xs++A)).1=.inr j:=by
 have K:∀ (A:List (Nat×Nat)) (H:(List (List V)⊕Nat)×List (List Nat)),H.1=.inr j→(A.foldl (Jpn D ts) H).1=.inr j:=by
  intro A
  induction A with
  |nil=>intro H h;exact h
  |cons y A J=>intro H h;exact J _ (by simp[Jpn,h])
 unfold Jfx at h ⊢
 rw[Ol1]
 exact K A _ h
def Qf (n:Nat)(cols:List (List V)):List (List V):=(List.range n).map fun i=>cols.map fun c=>c.getD i Jf
theorem Uu (n:Nat)(cols:List (List V)):(Qf n cols).length=n:=by simp[Qf]
theorem Jqd (n k:Nat):Qf n (List.replicate k [])=List.replicate n (List.replicate k Jf):=by
 apply Oh4
 ·simp[Qf]
 intro i A H
 simp[Qf]
theorem Jsz (n o k:Nat)(cols:List (List V))(vs:List V)(hk:k<cols.length)(H:(cols.getD k []).length=o):Ji6 (Qf n cols) o k vs=Qf n (cols.set k (cols.getD k []++vs)):=by
 apply Oh4
 ·simp[Ji6,Qf]
 intro i L M
 simp only[Ji6,Qf,List.getElem_mapIdx,Od9,List.getElem_range,Op0]
 have K:cols.getD k []=cols[k]:=by simp[hk]
 rw[K]at H ⊢
 by_cases hi:o≤i
 ·by_cases A:i<o+vs.length
  ·rw[if_pos ⟨hi,A⟩]
   congr 1
   rw[Oa0,Oa0,Ob6 (by omega),H]
  rw[if_neg (fun h=>A h.2)]
  apply Oh4
  ·simp
  intro c I J
  rw[List.getElem_set]
  split
  ·rename_i e;subst e
   rw[Od9,Oa0,Oa0,Ob6 (by omega),Ob4 (by omega),Ob4 (by omega)]
  rfl
 rw[if_neg (fun h=>hi h.1)]
 apply Oh4
 ·simp
 intro c I J
 rw[List.getElem_set]
 split
 ·rename_i e;subst e
  rw[Od9,Oa0,Oa0,Ob0 (by omega)]
 rfl
theorem Ju3 (D:DS)(A:List (List Nat))(ts:List Int)(n o m:Nat)(cols:List (List V))(O:∀ l t vs,Us D l t m=.inl vs→vs.length=m)(N:∀ c,c<cols.length→(cols.getD c []).length=o):∀ k,k≤cols.length →
  Jil D A ts (o,m) (Qf n cols) k=Sum.map (Qf n) id (Jh3 D A ts m cols k)∧∀ cs,Jh3 D A ts m cols k=.inl cs→cs.length=cols.length∧(∀ c,c<k→(cs.getD c []).length=o+m)∧∀ c,k≤c→cs.getD c []=cols.getD c []:=by
 intro k
 induction k with
 |zero=>intro _;exact⟨rfl,fun cs h=>by simp[Jh3]at h;subst h;exact⟨rfl,fun c h=>by omega,fun c _=>rfl⟩⟩
 |succ k R=>
  intro hk
  obtain⟨K,L⟩:=R (by omega)
  simp only[Jil,Jh3,K]
  cases H:Jh3 D A ts m cols k with
  |inr j=>exact⟨rfl,fun cs h=>by simp at h⟩
  |inl cs=>
   obtain⟨U,X,J⟩:=L cs H
   simp only[Sum.map_inl]
   cases hw:Us D (A.getD k []) (ts.getD k 0) m with
   |inr j=>exact⟨rfl,fun cs h=>by simp at h⟩
   |inl vs=>
    have M:=O _ _ _ hw
    have I:(cs.getD k []).length=o:=by rw[J k (Oa2 _)];exact N k (by omega)
    refine⟨?_,?_⟩
    ·simp only[Sum.map_inl]
     rw[Jsz n o k cs vs (by omega) I]
    intro Y h
    simp at h
    subst h
    refine⟨by simpa using U,fun c H=>?_,fun c H=>?_⟩
    ·by_cases e:c=k
     ·subst e
      rw[Oa0,Oh0 (by omega)]
      simp only[Option.getD_some,Oa8]
      rw[M]
      have:=I
      simp only[Oa0]at this
      omega
     have:=X c (by omega)
     rw[Oa0,Od1 (by omega)]
     simpa using this
    have:=J c (by omega)
    rw[Oa0,Od1 (by omega)]
    simpa using this
theorem Jcy {len g:Nat}(H:1≤g):len≤ckN len g*g:=by
 unfold ckN
 have A:=Nat.div_add_mod (len+g-1) g
 have I:=Ol0 (len+g-1) H
 rw[Nat.mul_comm]at A
 omega
theorem Jwa (D:DS)(ts:List Int)(H:List (List Nat))(len g:Nat)(M:1≤g)(N:∀ l t m vs,Us D l t m=.inl vs→vs.length=m):∀ k,k≤ckN len g →
  (Jkh D ts H (List.replicate len (List.replicate ts.length Jf)) (cks len g k)).1=Sum.map (Qf len) id (Jfx D ts H (List.replicate ts.length []) (cks len g k)).1 ∧
   ∀ cs,(Jfx D ts H (List.replicate ts.length []) (cks len g k)).1=.inl cs→cs.length=ts.length∧∀ c,c<cs.length→(cs.getD c []).length=min (k*g) len:=by
 intro k
 induction k with
 |zero=>
  intro _
  refine⟨?_,?_⟩
  ·simp[cks,Jkh,Jfx,Jqd]
  intro cs h
  simp[cks,Jfx]at h
  subst h
  refine⟨by simp,fun c A=>?_⟩
  simp at A
  simp[A]
 |succ k O=>
  intro hk
  obtain⟨J,K⟩:=O (by omega)
  have Z:=Jqs M (show k<ckN len g by omega)
  rw[Jbj,Jm6,Ji5]
  simp only[Jox,Jpn,Jme,Ji2,J]
  cases A:(Jfx D ts H (List.replicate ts.length []) (cks len g k)).1 with
  |inr j=>exact⟨rfl,fun cs h=>by simp at h⟩
  |inl cs=>
   obtain⟨ba,R⟩:=K cs A
   simp only[Sum.map_inl]
   have L:Jaa len g k=(k*g,min g (len-k*g)):=rfl
   rw[L]
   obtain⟨U,X⟩:=Ju3 D (H.drop ((cks len g k).length*ts.length)) ts len (k*g) (min g (len-k*g)) cs (fun l t vs h=>N l t _ vs h) (fun c A=>by rw[R c A];omega) ts.length (by omega)
   refine⟨U,fun I h=>?_⟩
   obtain⟨bb,Y,_⟩:=X I h
   refine⟨by omega,fun c A=>?_⟩
   rw[Y c (by omega),Of5]
   omega
theorem Jnk {D:DS}{l:List Nat}{t:Int}{m:Nat}{vs:List V}(h:Us D l t m=.inl vs):vs.length=m:=by
 unfold Us at h
 split at h
 ·simp at h
 split at h
 ·split at h
  ·rename_i A;simp at h;subst h;exact A.2
  simp at h
 simp at h
theorem Jaf.tail {w:World}{F:Nat→Prop}{b o:Nat}{hs:List (Option Addr×Nat)}{I:List (List Nat)}(h:Jaf w F (some ⟨b,o,none⟩) hs I)(M:Nat)(J:M=o+1∨I.length≤1):Jaf w F (some ⟨b,M,none⟩) (hs.drop 1) (I.drop 1):=by
 refine⟨by simp[h.len],?_,fun i x l H K=>?_,fun b2 o2 A=>?_,fun i x H b o A=>?_⟩
 ·rcases J with rfl|J
  ·rcases h.cells with h0|⟨b2,o2,O,A,N⟩
   ·left
    rw[←List.drop_zipWith,h0]
    rfl
   cases O
   right
   refine⟨b,o+1,rfl,A,fun i v L=>?_⟩
   rw[←List.drop_zipWith,Oh9]at L
   have:=N _ v L
   rw[On5]
   exact this
  left
  have:I.drop 1=[]:=List.drop_eq_nil_of_le J
  rw[this]
  simp
 ·rw[Oh9]at H K
  exact h.segs _ x l H K
 ·cases A
  exact h.aF b o rfl
 rw[Oh9]at H
 exact h.hF _ x H b o A
theorem Jcu.of_blocks {w w':World}{B g:Nat}{bs:List Nat}{rs:List (List V)}(h:Jcu w B g bs rs)(H:w'.heap[g]?=w.heap[g]?)(A:∀ b∈bs,w'.heap[b]?=w.heap[b]?):Jcu w' B g bs rs:=
 ⟨h.len,h.outer.of_block H,fun i b r hi I=>(h.rows i b r hi I).of_block (A b (Of6 hi)),h.from_,h.nodup⟩
theorem Kil (w:World)(a b c:Value)(t:TypeId):(w.alloc (.cells #[a,b,c] t)).cell? ⟨w.heap.size,0,none⟩=some a∧(w.alloc (.cells #[a,b,c] t)).cell? ⟨w.heap.size,1,none⟩=some b∧(w.alloc (.cells #[a,b,c] t)).cell? ⟨w.heap.size,2,none⟩=some c:=by
 have h:=heap_alloc_new w (.cells #[a,b,c] t)
 generalize w.alloc (.cells #[a,b,c] t)=A at *
 simp[World.cell?,h]
abbrev Uq (A:List Value)(i:Nat):Value:=A.getD i (.slice none 0 0)
structure Jar (w:World) (B g:Nat) (svs:List Value) (cs:List (List V)):Prop where
 row:w.rowIs g 56 svs.length (Uq svs)
 low:B≤g
 len:svs.length=cs.length
 own:∀ i,i<cs.length→Yt w B (Uq svs i) (cs.getD i [])
 ne:∀ i,i<cs.length→(Uq svs i).ownBlock≠some g
 apart:∀ i j b,i<cs.length→j<cs.length→i≠j→(Uq svs i).ownBlock=some b→(Uq svs j).ownBlock≠some b
theorem Jar.below {w w':World}{B g:Nat}{H:List Value}{cs:List (List V)}(h:Jar w B g H cs)(A:Below w.heap.size w w'):Jar w' B g H cs:=
 ⟨h.row.of_block (A.block _ h.row.lt),h.low,h.len,fun i hi=>(h.own i hi).below A,h.ne,h.apart⟩
theorem Jem {A:List Value}{c i:Nat}{v:Value}(H:c<A.length):Uq (A.set c v) i=if i=c then v else Uq A i:=by
 unfold Uq
 rw[Oa0,Oa0]
 by_cases e:i=c
 ·subst e;rw[Oh0 H,if_pos rfl];rfl
 rw[Od1 (fun h=>e h.symm),if_neg e]
theorem Jyj {cs:List (List V)}{c i:Nat}{v:List V}(A:c<cs.length):(cs.set c v).getD i []=if i=c then v else cs.getD i []:=by
 rw[Oa0,Oa0]
 by_cases e:i=c
 ·subst e;rw[Oh0 A,if_pos rfl];rfl
 rw[Od1 (fun h=>e h.symm),if_neg e]
theorem Jar.put {w w':World}{B g c:Nat}{I:List Value}{cs:List (List V)}{vs:List V}{sv':Value}(h:Jar w B g I cs)(J:c<cs.length)(bb:Yt w' B sv' (cs.getD c []++vs))(N:w.grownBy w' (Uq I c).ownBlock)(hs:sv'.ownBlock=(Uq I c).ownBlock∨sv'.ownBlock=some w.heap.size) :
  Jar (w'.setCell ⟨g,c,none⟩ sv') B g (I.set c sv') (cs.set c (cs.getD c []++vs)):=by
 have K:c<I.length:=by rw[h.len];exact J
 have Z:=h.row.lt
 have Y:w'.heap[g]?=w.heap[g]?:=N.block g Z (fun e=>h.ne c J e.symm)
 have X:sv'.ownBlock≠some g:=by
  rcases hs with e|e
  ·rw[e];exact h.ne c J
  rw[e];intro L;simp at L;omega
 have R:∀ i b,i<cs.length→(Uq I i).ownBlock=some b→b<w.heap.size:=fun i b hi A=>(Je (h.own i hi) A).2
 have U:∀ i b,i<cs.length→i≠c→(Uq I i).ownBlock=some b→sv'.ownBlock≠some b:=by
  intro i b hi H A
  rcases hs with e|e
  ·rw[e];exact h.apart i c b hi J H A
  rw[e];intro L;simp at L;have:=R i b hi A;omega
 refine⟨?_,h.low,by simp[h.len],fun i hi=>?_,fun i hi=>?_,fun i j b hi M ba A=>?_⟩
 ·rw[Of8]
  exact((h.row.of_block Y).set c sv').congr fun j _=>by rw[Jem K]
 ·rw[Of8]at hi
  rw[Jem K,Jyj J]
  split
  ·exact Jl bb fun b A=>Oa4 _ _ _ _ (by rintro rfl;exact X A)
  rename_i H
  refine Jl (h.own i hi) fun b A=>?_
  rw[Oa4 _ _ _ _ (by rintro rfl;exact h.ne i hi A)]
  exact N.block b (R i b hi A) (fun e=>h.apart i c b hi J H A e.symm)
 ·rw[Of8]at hi
  rw[Jem K]
  split
  ·exact X
  exact h.ne i hi
 rw[Of8]at hi M
 rw[Jem K]at A ⊢
 by_cases H:i=c
 ·rw[if_pos H]at A
  rw[if_neg (by omega)]
  intro e
  exact U j b M (by omega) e A
 rw[if_neg H]at A
 by_cases O:j=c
 ·rw[if_pos O];exact U i b hi H A
 rw[if_neg O];exact h.apart i j b hi M ba A
theorem Jjs {w:World}{K:Array Oper}{rest:List Oper}{o:Oper}{a:Act}{Q:Exit→Act→World→Prop}(Y:o.guard=none)(s x:Operand)
  (Z:o.op=.call {callee:=.builtin .append,args:=#[s,x],argTypes:=#[56,56]})
  (B:Nat) (sv:Value) (A:List V) (hs:a.eval s=sv) (ba:Yt w B sv A)
  (g c:Nat) (vs:List V) (bf:a.eval x=.slice (some ⟨g,0,none⟩) vs.length c) (bc:Kv w g vs []) (bj:A.length+vs.length≤1000000) (U:B≤w.heap.size)
  (h:∀ sv' w',Yt w' B sv' (A++vs)→w.grownBy w' sv.ownBlock→(sv'.ownBlock=sv.ownBlock∨sv'.ownBlock=some w.heap.size)→wpList prog K Q rest (a.put o.dst sv') w') :
  wpList prog K Q (o::rest) a w:=by
 obtain⟨i,hi,bh,bb,X⟩:=info_parts Jow
 obtain⟨C,O,I⟩:=bc
 rw[Od7]at I
 refine wpList_append_own_at w Y s x 56 Z B 55 i _ 3 32 (by kernel_rfl) hi bh bb X rfl (by decide) sv A.length (A.flatMap V.cells) hs ba ⟨g,0,none⟩ vs.length c (vs.flatMap V.cells) bf ?_ ?_ ?_ ?_ ?_ U ?_
 ·exact Ja5 vs
 ·intro j u J
  rw[←I]at J
  have R:(⟨g,0,none⟩:Addr).add j=⟨g,j,none⟩:=by
   rcases j with _|j
   ·rfl
   simp[Addr.add]
  rw[R]
  simpa [World.cell?,O] using J
 ·intro u H
  obtain⟨v,_,H⟩:=Op5.1 H
  simp[V.cells]at H
  rcases H with rfl|rfl|rfl<;>rfl
 ·unfold maxLen;omega
 ·omega
 intro bi w' L M _ N
 refine h bi w' ?_ M N
 unfold Yt
 simpa using L
end Go.Proofs.YtcaocabmioafcaaGreatDoor
