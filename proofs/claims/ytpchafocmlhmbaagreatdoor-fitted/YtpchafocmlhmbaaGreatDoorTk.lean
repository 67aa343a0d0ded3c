/- A table read from the disk. -/
import Derived.Test.YtpchafocmlhmbaaGreatDoorTj
import Derived.Test.YtpchafocmlhmbaaGreatDoorKm
namespace Go.Proofs.YtpchafocmlhmbaaGreatDoor
open Go.RowKit Go.Shelf Tryz
attribute [local go_sem] Oc0
def Ji6 (y:List (List V))(o c:Nat)(vs:List V):List (List V):=y.mapIdx fun i r=>if o≤i∧i<o+vs.length then r.set c (vs.getD (i-o) Jf)else r
def Jil (y:DS)(E:List (List Nat))(ts:List Int)(x:Nat×Nat)(D:List (List V)):Nat→List (List V)⊕Nat
 |0=>.inl D
 |k+1=>match Jil y E ts x D k with
  |.inr j=>.inr j
  |.inl R'=>match Us y (E.getD k []) (ts.getD k 0) x.2 with
   |.inr j=>.inr j
   |.inl vs=>.inl (Ji6 R' x.1 k vs)
theorem Kho (y:DS)(E:List (List Nat))(ts:List Int)(x:Nat×Nat)(D:List (List V))(j:Nat):∀ (k m:Nat),Jil y E ts x D k=.inr j→k≤m→Jil y E ts x D m=.inr j:=by
 intro k m h K;induction m with
 |zero=>
      have:k=0:=(by omega);subst this;exact h
 |succ m H=>
  by_cases e:k=m+1
  ·subst e;exact h
  simp only[Jil,H (by omega)]
def Jox (D:DS)(ts:List Int)(y:(List (List V)⊕Nat)×List (List Nat))(x:Nat×Nat):(List (List V)⊕Nat)×List (List Nat):=
 (match y.1 with
  |.inr j=>.inr j
  |.inl E=>Jil D y.2 ts x E ts.length,y.2.drop ts.length)
def Jkh (y:DS)(ts:List Int)(E:List (List Nat))(D:List (List V))(xs:List (Nat×Nat)):(List (List V)⊕Nat)×List (List Nat):=xs.foldl (Jox y ts) (.inl D,E)
theorem Jm6 (y:DS)(ts:List Int)(E:List (List Nat))(D:List (List V))(xs:List (Nat×Nat))(x:Nat×Nat):Jkh y ts E D (xs++[x])=Jox y ts (Jkh y ts E D xs) x:=by simp[Jkh]
theorem Jme (D:DS)(ts:List Int)(E:List (List Nat))(H:List (List V)):∀ xs:List (Nat×Nat),(Jkh D ts E H xs).2=E.drop (xs.length*ts.length):=by
 intro xs;have O:∀ (xs:List (Nat×Nat)) (y:(List (List V)⊕Nat)×List (List Nat)),(xs.foldl (Jox D ts) y).2=y.2.drop (xs.length*ts.length):=by
  intro xs;induction xs with
  |nil=>intro y;simp
  |cons x xs K=>
   intro y;rw[List.foldl_cons,K];simp only[Jox,List.drop_drop,List.length_cons];congr 1
   rw[Of5];omega
 exact O xs _
def Jh3 (y:DS)(D:List (List Nat))(ts:List Int)(m:Nat)(cols:List (List V)):Nat→List (List V)⊕Nat
 |0=>.inl cols
 |k+1=>match Jh3 y D ts m cols k with
  |.inr j=>.inr j
  |.inl cs=>match Us y (D.getD k []) (ts.getD k 0) m with
   |.inr j=>.inr j
   |.inl vs=>.inl (cs.set k (cs.getD k []++vs))
theorem Kd4 (y:DS)(D:List (List Nat))(ts:List Int)(m:Nat)(cols:List (List V))(j:Nat):∀ (k n:Nat),Jh3 y D ts m cols k=.inr j→k≤n→Jh3 y D ts m cols n=.inr j:=by
 intro k n h hn;induction n with
 |zero=>
      have:k=0:=(by omega);subst this;exact h
 |succ n E=>
  by_cases e:k=n+1
  ·subst e;exact h
  simp only[Jh3,E (by omega)]
def Jpn (D:DS)(ts:List Int)(y:(List (List V)⊕Nat)×List (List Nat))(x:Nat×Nat):(List (List V)⊕Nat)×List (List Nat):=
 (match y.1 with
  |.inr j=>.inr j
  |.inl cs=>Jh3 D y.2 ts x.2 cs ts.length,y.2.drop ts.length)
def Jfx (y:DS)(ts:List Int)(D:List (List Nat))(cols:List (List V))(xs:List (Nat×Nat)):(List (List V)⊕Nat)×List (List Nat):=xs.foldl (Jpn y ts) (.inl cols,D)
theorem Ji5 (y:DS)(ts:List Int)(D:List (List Nat))(cols:List (List V))(xs:List (Nat×Nat))(x:Nat×Nat):Jfx y ts D cols (xs++[x])=Jpn y ts (Jfx y ts D cols xs) x:=by simp[Jfx]
theorem Ji2 (D:DS)(ts:List Int)(E:List (List Nat))(cols:List (List V)):∀ xs:List (Nat×Nat),(Jfx D ts E cols xs).2=E.drop (xs.length*ts.length):=by
 intro xs;have K:∀ (xs:List (Nat×Nat)) (y:(List (List V)⊕Nat)×List (List Nat)),(xs.foldl (Jpn D ts) y).2=y.2.drop (xs.length*ts.length):=by
  intro xs;induction xs with
  |nil=>intro y;simp
  |cons x xs H=>
   intro y;rw[List.foldl_cons,H];simp only[Jpn,List.drop_drop,List.length_cons];congr 1
   rw[Of5];omega
 exact K xs _
theorem Kel (E:DS)(ts:List Int)(H:List (List Nat))(cols:List (List V))(xs y:List (Nat×Nat))(j:Nat)(h:(Jfx E ts H cols xs).1=.inr j):(Jfx E ts H cols (xs++y)).1=.inr j:=by
 have O:∀ (y:List (Nat×Nat)) (D:(List (List V)⊕Nat)×List (List Nat)),D.1=.inr j→(y.foldl (Jpn E ts) D).1=.inr j:=by
  intro y;induction y with
  |nil=>intro D h;exact h
  |cons R y K=>intro D h;exact K _ (by simp[Jpn,h])
 unfold Jfx at h ⊢;rw[Ol1];exact O y _ h
def Qf (n:Nat)(cols:List (List V)):List (List V):=(List.range n).map fun i=>cols.map fun c=>c.getD i Jf
theorem Uu (n:Nat)(cols:List (List V)):(Qf n cols).length=n:=by simp[Qf]
theorem Jqd (n k:Nat):Qf n (List.replicate k [])=List.replicate n (List.replicate k Jf):=by
 apply Oh4
 ·simp[Qf]
 intro i y D;simp[Qf]
theorem Jsz (n o k:Nat)(cols:List (List V))(vs:List V)(O:k<cols.length)(D:(cols.getD k []).length=o):Ji6 (Qf n cols) o k vs=Qf n (cols.set k (cols.getD k []++vs)):=by
 apply Oh4
 ·simp[Ji6,Qf]
 intro i R U;simp only[Ji6,Qf,List.getElem_mapIdx,Od9,Oo7,Op0];have K:cols.getD k []=cols[k]:=by simp[O]
 rw[K]at D ⊢;by_cases hi:o≤i
 ·by_cases y:i<o+vs.length
  ·rw[if_pos ⟨hi,y⟩];congr 1
   rw[Oa0,Oa0,Ob6 (by omega),D]
  rw[if_neg (fun h=>y h.2)];apply Oh4
  ·simp
  intro c E H;rw[List.getElem_set];split
  ·rename_i e;subst e
   rw[Od9,Oa0,Oa0,Ob6 (by omega),Ob4 (by omega),Ob4 (by omega)]
  rfl
 rw[if_neg (fun h=>hi h.1)];apply Oh4
 ·simp
 intro c E H;rw[List.getElem_set];split
 ·rename_i e;subst e
  rw[Od9,Oa0,Oa0,Ob0 (by omega)]
 rfl
theorem Ju3 (y:DS)(D:List (List Nat))(ts:List Int)(n o m:Nat)(cols:List (List V))(X:∀ l t vs,Us y l t m=.inl vs→vs.length=m)(U:∀ c,c<cols.length→(cols.getD c []).length=o):∀ k,k≤cols.length →
  Jil y D ts (o,m) (Qf n cols) k=Sum.map (Qf n) id (Jh3 y D ts m cols k)∧∀ cs,Jh3 y D ts m cols k=.inl cs→cs.length=cols.length∧(∀ c,c<k→(cs.getD c []).length=o+m)∧∀ c,k≤c→cs.getD c []=cols.getD c []:=by
 intro k;induction k with
 |zero=>intro _;exact⟨rfl,fun cs h=>by simp[Jh3]at h;subst h;exact⟨rfl,fun c h=>by omega,fun c _=>rfl⟩⟩
 |succ k Y=>
  intro bf;obtain⟨O,R⟩:=Y (by omega);simp only[Jil,Jh3,O];cases E:Jh3 y D ts m cols k with
  |inr j=>exact⟨rfl,fun cs h=>by simp at h⟩
  |inl cs=>
   obtain⟨Z,ba,K⟩:=R cs E;simp only[Sum.map_inl];cases hw:Us y (D.getD k []) (ts.getD k 0) m with
   |inr j=>exact⟨rfl,fun cs h=>by simp at h⟩
   |inl vs=>
    have hl:=X _ _ _ hw;have H:(cs.getD k []).length=o:=by rw[K k (Oa2 _)];exact U k (by omega)
    refine⟨?_,?_⟩
    ·simp only[Sum.map_inl];rw[Jsz n o k cs vs (by omega) H]
    intro bc h;simp at h;subst h;refine⟨by simpa using Z,fun c E=>?_,fun c E=>?_⟩
    ·by_cases e:c=k
     ·subst e;rw[Oa0,Oh0 (by omega)];simp only[Option.getD_some,Oa8];rw[hl];have:=H;simp only[Oa0]at this;omega
     have:=ba c (by omega);rw[Oa0,Od1 (by omega)];simpa using this
    have:=K c (by omega);rw[Oa0,Od1 (by omega)];simpa using this
theorem Jcy {len g:Nat}(D:1≤g):len≤ckN len g*g:=by
 unfold ckN;have y:=Nat.div_add_mod (len+g-1) g;have E:=Ol0 (len+g-1) D;rw[Nat.mul_comm]at y;omega
theorem Jwa (D:DS)(ts:List Int)(E:List (List Nat))(len g:Nat)(U:1≤g)(X:∀ l t m vs,Us D l t m=.inl vs→vs.length=m):∀ k,k≤ckN len g →
  (Jkh D ts E (List.replicate len (List.replicate ts.length Jf)) (cks len g k)).1=Sum.map (Qf len) id (Jfx D ts E (List.replicate ts.length []) (cks len g k)).1 ∧
   ∀ cs,(Jfx D ts E (List.replicate ts.length []) (cks len g k)).1=.inl cs→cs.length=ts.length∧∀ c,c<cs.length→(cs.getD c []).length=min (k*g) len:=by
 intro k;induction k with
 |zero=>
  intro _;refine⟨?_,?_⟩
  ·simp[cks,Jkh,Jfx,Jqd]
  intro cs h;simp[cks,Jfx]at h;subst h;refine⟨by simp,fun c y=>?_⟩;simp at y;simp[y]
 |succ k Y=>
  intro bh;obtain⟨K,O⟩:=Y (by omega);have bi:=Jqs U (show k<ckN len g by omega);rw[Jbj,Jm6,Ji5];simp only[Jox,Jpn,Jme,Ji2,K];cases y:(Jfx D ts E (List.replicate ts.length []) (cks len g k)).1 with
  |inr j=>exact⟨rfl,fun cs h=>by simp at h⟩
  |inl cs=>
   obtain⟨bj,Z⟩:=O cs y;simp only[Sum.map_inl];have R:Jaa len g k=(k*g,min g (len-k*g)):=rfl;rw[R];obtain⟨ba,bc⟩:=Ju3 D (E.drop ((cks len g k).length*ts.length)) ts len (k*g) (min g (len-k*g)) cs (fun l t vs h=>X l t _ vs h) (fun c y=>by rw[Z c y];omega) ts.length (by omega);refine⟨ba,fun H h=>?_⟩;obtain⟨bn,bf,_⟩:=bc H h;refine⟨by omega,fun c y=>?_⟩;rw[bf c (by omega),Of5];omega
theorem Jnk {y:DS}{l:List Nat}{t:Int}{m:Nat}{vs:List V}(h:Us y l t m=.inl vs):vs.length=m:=by
 unfold Us at h;split at h
 ·simp at h
 split at h
 ·split at h
  ·rename_i D;simp at h;subst h;exact D.2
  simp at h
 simp at h
theorem Jaf.tail {w:World}{F:Nat→Prop}{b o:Nat}{hs:List (Option Addr×Nat)}{E:List (List Nat)}(h:Jaf w F (some ⟨b,o,none⟩) hs E)(O:Nat)(H:O=o+1∨E.length≤1):Jaf w F (some ⟨b,O,none⟩) (hs.drop 1) (E.drop 1):=by
 refine⟨by simp[h.len],?_,fun i x l D hl=>?_,fun b2 X y=>?_,fun i x D b o y=>?_⟩
 ·rcases H with rfl|H
  ·rcases h.cells with h0|⟨b2,X,U,y,R⟩
   ·left;rw[←List.drop_zipWith,h0];rfl
   cases U
   right;refine⟨b,o+1,rfl,y,fun i v K=>?_⟩;rw[←List.drop_zipWith,Oh9]at K;have:=R _ v K;rw[On5];exact this
  left;have:E.drop 1=[]:=List.drop_eq_nil_of_le H;rw[this];simp
 ·rw[Oh9]at D hl;exact h.segs _ x l D hl
 ·cases y
  exact h.aF b o rfl
 rw[Oh9]at D;exact h.hF _ x D b o y
theorem Jcu.of_blocks {w w':World}{B g:Nat}{bs:List Nat}{rs:List (List V)}(h:Jcu w B g bs rs)(D:w'.heap[g]?=w.heap[g]?)(y:∀ b∈bs,w'.heap[b]?=w.heap[b]?):Jcu w' B g bs rs:=
 ⟨h.len,h.outer.of_block D,fun i b r hi hr=>(h.rows i b r hi hr).of_block (y b (Of6 hi)),h.from_,h.nodup⟩
theorem Kil (w:World)(a b c:Value)(t:TypeId):(w.alloc (.cells #[a,b,c] t)).cell? ⟨w.heap.size,0,none⟩=some a∧(w.alloc (.cells #[a,b,c] t)).cell? ⟨w.heap.size,1,none⟩=some b∧(w.alloc (.cells #[a,b,c] t)).cell? ⟨w.heap.size,2,none⟩=some c:=by
 have h:=heap_alloc_new w (.cells #[a,b,c] t);generalize w.alloc (.cells #[a,b,c] t)=y at *;simp[World.cell?,h]
abbrev Uq (y:List Value)(i:Nat):Value:=y.getD i (.slice none 0 0)
structure Jar (w:World) (B g:Nat) (svs:List Value) (cs:List (List V)):Prop where
 row:w.rowIs g 40 svs.length (Uq svs)
 low:B≤g
 len:svs.length=cs.length
 own:∀ i,i<cs.length→Yt w B (Uq svs i) (cs.getD i [])
 ne:∀ i,i<cs.length→(Uq svs i).ownBlock≠some g
 apart:∀ i j b,i<cs.length→j<cs.length→i≠j→(Uq svs i).ownBlock=some b→(Uq svs j).ownBlock≠some b
theorem Jar.below {w w':World}{B g:Nat}{D:List Value}{cs:List (List V)}(h:Jar w B g D cs)(y:Below w.heap.size w w'):Jar w' B g D cs:=
 ⟨h.row.of_block (y.block _ h.row.lt),h.low,h.len,fun i hi=>(h.own i hi).below y,h.ne,h.apart⟩
theorem Jem {y:List Value}{c i:Nat}{v:Value}(D:c<y.length):Uq (y.set c v) i=if i=c then v else Uq y i:=by
 unfold Uq;rw[Oa0,Oa0];by_cases e:i=c
 ·subst e;rw[Oh0 D,if_pos rfl];rfl
 rw[Od1 (fun h=>e h.symm),if_neg e]
theorem Jyj {cs:List (List V)}{c i:Nat}{v:List V}(y:c<cs.length):(cs.set c v).getD i []=if i=c then v else cs.getD i []:=by
 rw[Oa0,Oa0];by_cases e:i=c
 ·subst e;rw[Oh0 y,if_pos rfl];rfl
 rw[Od1 (fun h=>e h.symm),if_neg e]
theorem Jar.put {w w':World}{B g c:Nat}{E:List Value}{cs:List (List V)}{vs:List V}{sv':Value}(h:Jar w B g E cs)(H:c<cs.length)(bi:Yt w' B sv' (cs.getD c []++vs))(U:w.grownBy w' (Uq E c).ownBlock)(hs:sv'.ownBlock=(Uq E c).ownBlock∨sv'.ownBlock=some w.heap.size) :
  Jar (w'.setCell ⟨g,c,none⟩ sv') B g (E.set c sv') (cs.set c (cs.getD c []++vs)):=by
 have K:c<E.length:=by rw[h.len];exact H
 have bf:=h.row.lt;have bc:w'.heap[g]?=w.heap[g]?:=U.block g bf (fun e=>h.ne c H e.symm);have ba:sv'.ownBlock≠some g:=by
  rcases hs with e|e
  ·rw[e];exact h.ne c H
  rw[e];intro O;simp at O;omega
 have Y:∀ i b,i<cs.length→(Uq E i).ownBlock=some b→b<w.heap.size:=fun i b hi y=>(Je (h.own i hi) y).2;have Z:∀ i b,i<cs.length→i≠c→(Uq E i).ownBlock=some b→sv'.ownBlock≠some b:=by
  intro i b hi D y;rcases hs with e|e
  ·rw[e];exact h.apart i c b hi H D y
  rw[e];intro O;simp at O;have:=Y i b hi y;omega
 refine⟨?_,h.low,by simp[h.len],fun i hi=>?_,fun i hi=>?_,fun i j b hi R bh y=>?_⟩
 ·rw[Of8];exact((h.row.of_block bc).set c sv').congr fun j _=>by rw[Jem K]
 ·rw[Of8]at hi;rw[Jem K,Jyj H];split
  ·exact Jl bi fun b y=>Oa4 _ _ _ _ (by rintro rfl;exact ba y)
  rename_i D
  refine Jl (h.own i hi) fun b y=>?_;rw[Oa4 _ _ _ _ (by rintro rfl;exact h.ne i hi y)];exact U.block b (Y i b hi y) (fun e=>h.apart i c b hi H D y e.symm)
 ·rw[Of8]at hi;rw[Jem K];split
  ·exact ba
  exact h.ne i hi
 rw[Of8]at hi R;rw[Jem K]at y ⊢;by_cases D:i=c
 ·rw[if_pos D]at y;rw[if_neg (by omega)];intro e;exact Z j b R (by omega) e y
 rw[if_neg D]at y;by_cases X:j=c
 ·rw[if_pos X];exact Z i b hi D y
 rw[if_neg X];exact h.apart i j b hi R bh y
theorem Jjs {w:World}{K:Array Oper}{rest:List Oper}{o:Oper}{a:Act}{Q:Exit→Act→World→Prop}(ba:o.guard=none)(s x:Operand)
  (bc:o.op=.call {callee:=.builtin .append,args:=#[s,x],argTypes:=#[40,40]})
  (B:Nat) (sv:Value) (y:List V) (hs:a.eval s=sv) (bf:Yt w B sv y)
  (g c:Nat) (vs:List V) (bj:a.eval x=.slice (some ⟨g,0,none⟩) vs.length c) (bi:Kv w g vs []) (br:y.length+vs.length≤1000000) (Y:B≤w.heap.size)
  (h:∀ sv' w',Yt w' B sv' (y++vs)→w.grownBy w' sv.ownBlock→(sv'.ownBlock=sv.ownBlock∨sv'.ownBlock=some w.heap.size)→wpList prog K Q rest (a.put o.dst sv') w') :
  wpList prog K Q (o::rest) a w:=by
 obtain⟨i,hi,bn,bh,Z⟩:=info_parts Jow;obtain⟨C,hC,E⟩:=bi;rw[Od7]at E;refine wpList_append_own_at w ba s x 40 bc B 39 i _ 3 32 (by kernel_rfl) hi bn bh Z rfl (by decide) sv y.length (y.flatMap V.cells) hs bf ⟨g,0,none⟩ vs.length c (vs.flatMap V.cells) bj ?_ ?_ ?_ ?_ ?_ Y ?_
 ·exact Ja5 vs
 ·intro j u H;rw[←E]at H;have X:(⟨g,0,none⟩:Addr).add j=⟨g,j,none⟩:=by
   rcases j with _|j
   ·rfl
   simp[Addr.add]
  rw[X];simpa [World.cell?,hC] using H
 ·intro u D;obtain⟨v,_,D⟩:=Op5.1 D;simp[V.cells]at D;rcases D with rfl|rfl|rfl<;>rfl
 ·unfold maxLen;omega
 ·omega
 intro v' w' O R _ U;refine h v' w' ?_ R U;unfold Yt;simpa using O
end Go.Proofs.YtpchafocmlhmbaaGreatDoor
