/- A table read from the disk. -/
import Derived.Test.YtnlnlamdilifcaaGreatDoorTj
import Derived.Test.YtnlnlamdilifcaaGreatDoorTp
import Derived.Lib.SlicesDelete
set_option maxHeartbeats 4000000
set_option maxRecDepth 100000
namespace Go.Proofs.YtnlnlamdilifcaaGreatDoor
open Go.RowKit Go.Shelf Tryz
section
attribute [local go_sem] Oc0
def Ji6 (R:List (List V))(o c:Nat)(vs:List V):List (List V):=R.mapIdx fun i r=>if o<=i/\i<o+vs.length then r.set c (vs.getD (i-o) Jf)else r
def Jil (D:DS)(y:List (List Nat))(ts:List Int)(x:Nat×Nat)(R:List (List V)):Nat->List (List V)⊕Nat
 |0=>.inl R
 |k+1=>match Jil D y ts x R k with
  |.inr j=>.inr j
  |.inl R'=>match Us D (y.getD k []) (ts.getD k 0) x.2 with
   |.inr j=>.inr j
   |.inl vs=>.inl (Ji6 R' x.1 k vs)
def Jox (D:DS)(ts:List Int)(y:(List (List V)⊕Nat)×List (List Nat))(x:Nat×Nat):(List (List V)⊕Nat)×List (List Nat):=
 (match y.1 with
  |.inr j=>.inr j
  |.inl R=>Jil D y.2 ts x R ts.length,y.2.drop ts.length)
def Jkh (D:DS)(ts:List Int)(y:List (List Nat))(R:List (List V))(xs:List (Nat×Nat)):(List (List V)⊕Nat)×List (List Nat):=xs.foldl (Jox D ts) (.inl R,y)
theorem Jm6 D ts y R xs x:Jkh D ts y R (xs++[x])=Jox D ts (Jkh D ts y R xs) x:=by simp[Jkh]
theorem Jme D ts H R:∀ xs:List (Nat×Nat),(Jkh D ts H R xs).2=H.drop (xs.length*ts.length):=by
 intro xs;have key:∀ (xs:List (Nat×Nat)) (y:(List (List V)⊕Nat)×List (List Nat)),(xs.foldl (Jox D ts) y).2=y.2.drop (xs.length*ts.length):=by
  intro xs;induction xs with
  |nil=>intro y;simp
  |cons x xs I=>
   intro y;rw[List.foldl_cons,I];simp only[Jox,List.drop_drop,List.length_cons];congr 1
   rw[Of5];omega
 exact key xs _
def Jh3 (D:DS)(y:List (List Nat))(ts:List Int)(m:Nat)(cols:List (List V)):Nat->List (List V)⊕Nat
 |0=>.inl cols
 |k+1=>match Jh3 D y ts m cols k with
  |.inr j=>.inr j
  |.inl cs=>match Us D (y.getD k []) (ts.getD k 0) m with
   |.inr j=>.inr j
   |.inl vs=>.inl (cs.set k (cs.getD k []++vs))
theorem Kd4 D y ts m cols j:∀ (k n:Nat),Jh3 D y ts m cols k=.inr j->k<=n->Jh3 D y ts m cols n=.inr j:=by
 intro k n h I;induction n with
 |zero=>
      have:k=0:=zo;subst this;exact h
 |succ n H=>
  by_cases e:k=n+1
  ·subst e;exact h
  simp only[Jh3,H zo]
def Jpn (D:DS)(ts:List Int)(y:(List (List V)⊕Nat)×List (List Nat))(x:Nat×Nat):(List (List V)⊕Nat)×List (List Nat):=
 (match y.1 with
  |.inr j=>.inr j
  |.inl cs=>Jh3 D y.2 ts x.2 cs ts.length,y.2.drop ts.length)
def Jfx (D:DS)(ts:List Int)(y:List (List Nat))(cols:List (List V))(xs:List (Nat×Nat)):(List (List V)⊕Nat)×List (List Nat):=xs.foldl (Jpn D ts) (.inl cols,y)
theorem Ji5 D ts y cols xs x:Jfx D ts y cols (xs++[x])=Jpn D ts (Jfx D ts y cols xs) x:=by simp[Jfx]
theorem Ji2 D ts H cols:∀ xs:List (Nat×Nat),(Jfx D ts H cols xs).2=H.drop (xs.length*ts.length):=by
 intro xs;have key:∀ (xs:List (Nat×Nat)) (y:(List (List V)⊕Nat)×List (List Nat)),(xs.foldl (Jpn D ts) y).2=y.2.drop (xs.length*ts.length):=by
  intro xs;induction xs with
  |nil=>intro y;simp
  |cons x xs I=>
   intro y;rw[List.foldl_cons,I];simp only[Jpn,List.drop_drop,List.length_cons];congr 1
   rw[Of5];omega
 exact key xs _
theorem Kel D ts I cols xs y j(h:(Jfx D ts I cols xs).1=.inr j):(Jfx D ts I cols (xs++y)).1=.inr j:=by
 have key:∀ (y:List (Nat×Nat)) (H:(List (List V)⊕Nat)×List (List Nat)),H.1=.inr j->(y.foldl (Jpn D ts) H).1=.inr j:=by
  intro y;induction y with
  |nil=>intro H h;exact h
  |cons M y K=>intro H h;exact K _ (by simp[Jpn,h])
 unfold Jfx at h |-;rw[Ol1];exact key y _ h
def Qf (n:Nat)(cols:List (List V)):List (List V):=(List.range n).map fun i=>cols.map fun c=>c.getD i Jf
theorem Uu n cols:(Qf n cols).length=n:=by simp[Qf]
theorem Jqd n k:Qf n (List.replicate k [])=List.replicate n (List.replicate k Jf):=by
 apply Oh4
 ·simp[Qf]
 intro i y H;simp[Qf]
theorem Jsz n o k cols vs(M:k<cols.length)(ho:(cols.getD k []).length=o):Ji6 (Qf n cols) o k vs=Qf n (cols.set k (cols.getD k []++vs)):=by
 apply Oh4
 ·simp[Ji6,Qf]
 intro i O U;simp only[Ji6,Qf,List.getElem_mapIdx,Od9,Oo7,Op0];have K:cols.getD k []=cols[k]:=by simp[M]
 rw[K]at ho |-;by_cases hi:o<=i
 ·by_cases y:i<o+vs.length
  ·rw[if_pos ⟨hi,y⟩];congr 1
   rw[Oa0,Oa0,Ob6 zo,ho]
  rw[if_neg (fun h=>y h.2)];apply Oh4
  ·simp
  intro c H I;rw[List.getElem_set];split
  ·rename_i e;subst e
   rw[Od9,Oa0,Oa0,Ob6 zo,Ob4 zo,Ob4 zo]
  rfl
 rw[if_neg (fun h=>hi h.1)];apply Oh4
 ·simp
 intro c H I;rw[List.getElem_set];split
 ·rename_i e;subst e
  rw[Od9,Oa0,Oa0,Ob0 zo]
 rfl
theorem Ju3 D y ts n o m cols(hv:∀ l t vs,Us D l t m=.inl vs->vs.length=m)(ho:∀ c,c<cols.length->(cols.getD c []).length=o):∀ k,k<=cols.length ->
  Jil D y ts (o,m) (Qf n cols) k=Sum.map (Qf n) id (Jh3 D y ts m cols k)/\∀ cs,Jh3 D y ts m cols k=.inl cs->cs.length=cols.length/\(∀ c,c<k->(cs.getD c []).length=o+m)/\∀ c,k<=c->cs.getD c []=cols.getD c []:=by
 intro k;induction k with
 |zero=>intro _;exact⟨rfl,fun cs h=>by simp[Jh3]at h;subst h;exact⟨rfl,fun c h=>zo,fun c _=>rfl⟩⟩
 |succ k U=>
  intro bh;obtain⟨M,O⟩:=U zo;simp only[Jil,Jh3,M];cases H:Jh3 D y ts m cols k with
  |inr j=>exact⟨rfl,fun cs h=>by simp at h⟩
  |inl cs=>
   obtain⟨Y,Z,K⟩:=O cs H;simp only[Sum.map_inl];cases hw:Us D (y.getD k []) (ts.getD k 0) m with
   |inr j=>exact⟨rfl,fun cs h=>by simp at h⟩
   |inl vs=>
    have hl:=hv _ _ _ hw;have I:(cs.getD k []).length=o:=by rw[K k (Oa2 _)];exact ho k zo
    refine⟨?_,?_⟩
    ·simp only[Sum.map_inl];rw[Jsz n o k cs vs zo I]
    intro bf h;simp at h;subst h;refine⟨by simpa using Y,fun c H=>?_,fun c H=>?_⟩
    ·by_cases e:c=k
     ·subst e;rw[Oa0,Oh0 zo];simp only[Option.getD_some,Oa8];rw[hl];have:=I;simp only[Oa0]at this;omega
     have:=Z c zo;rw[Oa0,Od1 zo];simpa using this
    have:=K c zo;rw[Oa0,Od1 zo];simpa using this
theorem Jcy {len g}(H:1<=g):len<=ckN len g*g:=by
 unfold ckN;have y:=Nat.div_add_mod (len+g-1) g;have I:=Ol0 (len+g-1) H;rw[Nat.mul_comm]at y;omega
theorem Jwa D ts H len g(U:1<=g)(hv:∀ l t m vs,Us D l t m=.inl vs->vs.length=m):∀ k,k<=ckN len g ->
  (Jkh D ts H (List.replicate len (List.replicate ts.length Jf)) (cks len g k)).1=Sum.map (Qf len) id (Jfx D ts H (List.replicate ts.length []) (cks len g k)).1 /\
   ∀ cs,(Jfx D ts H (List.replicate ts.length []) (cks len g k)).1=.inl cs->cs.length=ts.length/\∀ c,c<cs.length->(cs.getD c []).length=min (k*g) len:=by
 intro k;induction k with
 |zero=>
  intro _;refine⟨?_,?_⟩
  ·simp[cks,Jkh,Jfx,Jqd]
  intro cs h;simp[cks,Jfx]at h;subst h;refine⟨zS,fun c y=>?_⟩;simp at y;simp[y]
 |succ k Y=>
  intro bi;obtain⟨K,M⟩:=Y zo;have bj:=Jqs U (show k<ckN len g by omega);rw[Jbj,Jm6,Ji5];simp only[Jox,Jpn,Jme,Ji2,K];cases y:(Jfx D ts H (List.replicate ts.length []) (cks len g k)).1 with
  |inr j=>exact⟨rfl,fun cs h=>by simp at h⟩
  |inl cs=>
   obtain⟨bk,Z⟩:=M cs y;simp only[Sum.map_inl];have O:Jaa len g k=(k*g,min g (len-k*g)):=rfl;rw[O];obtain⟨bf,bh⟩:=Ju3 D (H.drop ((cks len g k).length*ts.length)) ts len (k*g) (min g (len-k*g)) cs (fun l t vs h=>hv l t _ vs h) (fun c y=>by rw[Z c y];omega) ts.length zo;refine⟨bf,fun I h=>?_⟩;obtain⟨s1,s2,_⟩:=bh I h;refine⟨zo,fun c y=>?_⟩;rw[s2 c zo,Of5];omega
theorem Jnk {D l t m vs}(h:Us D l t m=.inl vs):vs.length=m:=by
 unfold Us at h;split at h
 ·simp at h
 split at h
 ·split at h
  ·rename_i y;simp at h;subst h;exact y.2
  simp at h
 simp at h
theorem Jaf.tail {w F b o hs H}(h:Jaf w F (some (Ar b o)) hs H)I(ho:I=o+1\/H.length<=1):Jaf w F (some (Ar b I)) (hs.drop 1) (H.drop 1):=by
 refine⟨by simp[h.len],?_,fun i x l y hl=>?_,fun b2 O hb=>?_,fun i x y b o hb=>?_⟩
 ·rcases ho with rfl|ho
  ·rcases h.cells with h0|⟨b2,O,M,hb,K⟩
   ·left;rw[<-List.drop_zipWith,h0];rfl
   cases M
   right;refine⟨b,o+1,rfl,hb,fun i v hv=>?_⟩;rw[<-List.drop_zipWith,Oh9]at hv;have:=K _ v hv;rw[On5];exact this
  left;have:H.drop 1=[]:=List.drop_eq_nil_of_le ho;rw[this];simp
 ·rw[Oh9]at y hl;exact h.segs _ x l y hl
 ·cases hb
  exact h.aF b o rfl
 rw[Oh9]at y;exact h.hF _ x y b o hb
theorem Jcu.of_blocks {w w' B g bs rs}(h:Jcu w B g bs rs)(y:w'.heap[g]?=w.heap[g]?)(hb:∀ b∈bs,w'.heap[b]?=w.heap[b]?):Jcu w' B g bs rs:=
 ⟨h.len,h.outer.of_block y,fun i b r hi hr=>(h.rows i b r hi hr).of_block (hb b (Of6 hi)),h.from_,h.nodup⟩
theorem Kil (w:World)(a b c:Value)(t:TypeId):(w.alloc (.cells #[a,b,c] t)).cell? (Aq w.heap.size)=some a/\(w.alloc (.cells #[a,b,c] t)).cell? (Ar w.heap.size 1)=some b/\(w.alloc (.cells #[a,b,c] t)).cell? (Ar w.heap.size 2)=some c:=by
 have h:=heap_alloc_new w (.cells #[a,b,c] t);generalize w.alloc (.cells #[a,b,c] t)=X at *;simp[World.cell?,h]
abbrev Uq (y:List Value)(i:Nat):Value:=y.getD i Sz
structure Jar (w:World) (B g:Nat) (svs:List Value) (cs:List (List V)):Prop where
 row:w.rowIs g 62 svs.length (Uq svs)
 low:B<=g
 len:svs.length=cs.length
 own:∀ i,i<cs.length->Yt w B (Uq svs i) (cs.getD i [])
 ne:∀ i,i<cs.length->(Uq svs i).ownBlock≠some g
 apart:∀ i j b,i<cs.length->j<cs.length->i≠j->(Uq svs i).ownBlock=some b->(Uq svs j).ownBlock≠some b
theorem Jar.below {w w' B g y cs}(h:Jar w B g y cs)(hb:Bq w w'):Jar w' B g y cs:=
 ⟨h.row.of_block (hb.block _ h.row.lt),h.low,h.len,fun i hi=>(h.own i hi).below hb,h.ne,h.apart⟩
theorem Jem {y c i v}(H:c<y.length):Uq (y.set c v) i=if i=c then v else Uq y i:=by
 unfold Uq;rw[Oa0,Oa0];by_cases e:i=c
 ·subst e;rw[Oh0 H,if_pos rfl];rfl
 rw[Od1 (fun h=>e h.symm),if_neg e]
theorem Jyj {cs:List (List V)}{c i:Nat}{v:List V}(y:c<cs.length):(cs.set c v).getD i []=if i=c then v else cs.getD i []:=by
 rw[Oa0,Oa0];by_cases e:i=c
 ·subst e;rw[Oh0 y,if_pos rfl];rfl
 rw[Od1 (fun h=>e h.symm),if_neg e]
theorem Jar.put {w w' B g c H cs vs sv'}(h:Jar w B g H cs)(I:c<cs.length)(ho:Yt w' B sv' (cs.getD c []++vs))(U:w.grownBy w' (Uq H c).ownBlock)(hs:sv'.ownBlock=(Uq H c).ownBlock\/sv'.ownBlock=some w.heap.size):
  Jar (w'.setCell (Ar g c) sv') B g (H.set c sv') (cs.set c (cs.getD c []++vs)):=by
 have K:c<H.length:=by rw[h.len];exact I
 have bj:=h.row.lt;have bi:w'.heap[g]?=w.heap[g]?:=U.block g bj (fun e=>h.ne c I e.symm);have bh:sv'.ownBlock≠some g:=by
  rcases hs with e|e
  ·rw[e];exact h.ne c I
  rw[e];intro M;simp at M;omega
 have Z:∀ i b,i<cs.length->(Uq H i).ownBlock=some b->b<w.heap.size:=fun i b hi hb=>(Je (h.own i hi) hb).2;have bf:∀ i b,i<cs.length->i≠c->(Uq H i).ownBlock=some b->sv'.ownBlock≠some b:=by
  intro i b hi y hb;rcases hs with e|e
  ·rw[e];exact h.apart i c b hi I y hb
  rw[e];intro M;simp at M;have:=Z i b hi hb;omega
 refine⟨?_,h.low,by simp[h.len],fun i hi=>?_,fun i hi=>?_,fun i j b hi O bk hb=>?_⟩
 ·rw[Of8];exact((h.row.of_block bi).set c sv').congr fun j _=>by rw[Jem K]
 ·rw[Of8]at hi;rw[Jem K,Jyj I];split
  ·exact Jl ho fun b hb=>Oa4 _ _ _ _ (by rintro rfl;exact bh hb)
  rename_i y
  refine Jl (h.own i hi) fun b hb=>?_;rw[Oa4 _ _ _ _ (by rintro rfl;exact h.ne i hi hb)];exact U.block b (Z i b hi hb) (fun e=>h.apart i c b hi I y hb e.symm)
 ·rw[Of8]at hi;rw[Jem K];split
  ·exact bh
  exact h.ne i hi
 rw[Of8]at hi O;rw[Jem K]at hb |-;by_cases y:i=c
 ·rw[if_pos y]at hb;rw[if_neg zo];intro e;exact bf j b O zo e hb
 rw[if_neg y]at hb;by_cases Y:j=c
 ·rw[if_pos Y];exact bf i b hi y hb
 rw[if_neg Y];exact h.apart i j b hi O bk hb
theorem Jjs {w M rest o a Q}(bi:o.guard=none)s x(ho:o.op=.call {callee:=.builtin .append,args:=#[s,x],argTypes:=#[62,62]})B sv y(hs:a.eval s=sv)(bj:Yt w B sv y)g c vs(br:a.eval x=Sq g vs.length c)(hv:Kv w g vs [])(hlen:y.length+vs.length<=1000000)(bf:B<=w.heap.size)(h:∀ sv' w',Yt w' B sv' (y++vs)->w.grownBy w' sv.ownBlock->(sv'.ownBlock=sv.ownBlock\/sv'.ownBlock=some w.heap.size)->wpList prog M Q rest (a.put o.dst sv') w'):
  wpList prog M Q (o::rest) a w:=by
 obtain⟨i,hi,bx,bk,bh⟩:=info_parts Jow;obtain⟨C,hC,I⟩:=hv;rw[Od7]at I;refine wpList_append_own_at w bi s x 62 ho B 65 i _ 3 32 zK hi bx bk bh rfl zd sv y.length (y.flatMap V.cells) hs bj ⟨g,0,none⟩ vs.length c (vs.flatMap V.cells) br ?_ ?_ ?_ ?_ ?_ bf ?_
 ·exact Ja5 vs
 ·intro j u K;rw[<-I]at K;have Z:(⟨g,0,none⟩:Addr).add j=⟨g,j,none⟩:=by
   rcases j with _|j
   ·rfl
   simp[Addr.add]
  rw[Z];simpa [World.cell?,hC] using K
 ·intro u H;obtain⟨v,_,H⟩:=Op5.1 H;simp[V.cells]at H;rcases H with rfl|rfl|rfl<;>rfl
 ·unfold maxLen;omega
 ·omega
 intro bz w' O U _ Y;refine h bz w' ?_ U Y;unfold Yt;simpa using O
attribute [local go_sem] Oc0
theorem Jps:(prog.info? 62).map (fun i=>(i.zero,i.size,i.bytes))=some (some Sz,1,24):=zK
theorem Jiz (n:Nat)w(M:n<=1000):
  Cq 72 #[Iq (n:Int)] w fun e w'=>e=.returned (Sq w.heap.size n n)/\Jar w' w.heap.size w.heap.size (List.replicate n Sz) (List.replicate n [])/\Bq w w':=by
 have K:∀ W,(Instr.makeSlice 84 (Iq (n:Int)) (Iq (n:Int))).run prog W=.ok (Sq W.heap.size n n) (W.alloc (.cells (madeCells #[Sz] n) 62)):=
  fun W=>run_make_row' 84 62 Sz 24 zK Jps rfl .i64 .i64 n zo zo W
 go_enter func72,ntmps72
 go_wp2;go_ret
 have y:∀ i,Uq (List.replicate n Sz) i=Sz:=fun i=>by
  unfold Uq;rw[Oa0,Of3];split<;>rfl
 refine⟨rfl,⟨?_,Oa2 _,zS,fun i hi=>?_,fun i hi=>?_,fun i j b hi I H hb=>?_⟩,(Oa5 _ _).alloc (Oa2 _) _⟩
 ·rw[Od6];exact(Ol3 _ _ _ _).congr fun j _=>(y j).symm
 ·rw[y,Oa0,Of3];split<;>exact Yt.nil _ _
 ·rw[y];simp[Value.ownBlock]
 rw[y]at hb;simp[Value.ownBlock]at hb
def Ji1 (w:World)(pg:Addr)(r:List (List V)⊕Nat)(e:Ending)(w':World):Prop:=
 Bq w w'/\match r with
  |.inl cs=>∃ g y,e=.returned (.tuple #[Sq g cs.length cs.length,.nilIface])/\Jar w' w.heap.size g y cs
  |.inr j=>∃ b,e=.returned (.tuple #[Sz,Ip 149 b])/\w.heap.size<=b/\Yu w' (Ip 149 b) pg none (some (j:Int))
theorem Kas s d tb T w F G D(h:Zb w F d D)(cX:w.cell? (Aq s)=some (Pq d))(dA:Jmg w G tb T)(dJ:1<=T.types.length/\T.types.length<=6)(hr:T.rows<=200)(bj:1<=T.group)(fd:T.group<=64)(cY:T.segs.length=ckN T.rows T.group*T.types.length)(bR:∀ l∈T.segs,l≠[]/\l.length<=1000)(cD:∀ l∈T.segs,∀ t,Uf D l=.inl t->Kje t)a0 a1 a2(cP:Jf0 w a0 a1 a2)pg(cV:w.cell? (Aq 7)=some (Ie 435 pg)):
  Cq 53 #[Pq s,Pq tb] w fun e w'=>Ji1 w pg (Jfx D T.types T.segs (List.replicate T.types.length []) (cks T.rows T.group (ckN T.rows T.group))).1 e w':=by
 obtain⟨ta,tc,dd,sc,hs,bD⟩:=dA;obtain⟨fl,de,dN,df,dQ⟩:=bD.field;have dr:=zh cY;have dH:=Ol5 (Oa2 (ckN T.rows T.group)) dJ.2;have dU:=zh bR;have dV:=zh cD;have dw:Hid (∀ (X:World) (Z:Option Addr) (rc:Nat) (l:List Nat) (typ:Int) (n:Nat),Bq w X->l∈T.segs->Uh X Z (l.map nv)->Cq 73 #[Pq s,.slice Z l.length rc,Iq typ,Iq (n:Int)] X fun e w'=>Jl8 X pg (Us D l typ n) e w'):=
  fun X Z rc l typ n hb hl cN=>Jto s d Z rc l typ n X F D (h.below hb) (Ja hb cX) cN (bR l hl).1 (by have:=(bR l hl).2;omega) (cD l hl) a0 a1 a2 (cP.below hb) pg (Ja hb cV)
 have cT:=Jiz T.types.length w zo;have fi:=run_neq_nil_nil (P:=prog);have dt:Hid (Kc w ta T.types):=bD.types;have dq:Hid (Jaf w G dd hs T.segs/\T.segs.length<=sc):=⟨bD.segs,bD.cap⟩;clear cY bR cD h cX cP cV bD dH;go_enter func53,ntmps53
 go_wp2_with (first|(go_at_call 72;refine cT.mono ?_;rintro e dW ⟨rfl,bQ,bO⟩;have dM:=Ja bO de;have dR:=Ja bO dQ))
 clear cT dM dR;go_loopw [7,8] (fun cF cy wr=>∃ (k f:Nat) (cs:List (List V)) (bY:List Value) (bV:Option Addr) (bX:Nat) (cE:List (Option Addr×Nat)) (y:List (List Nat)),k<=ckN T.rows T.group/\Hid (f=k*T.group)/\f<=300/\cy=Iq (f:Int)/\Hid ((Jfx D T.types T.segs (List.replicate T.types.length []) (cks T.rows T.group k)).1=.inl cs)/\Hid (cs.length=T.types.length)/\Hid (∀ j,(cs.getD j []).length<=f)/\Hid (T.segs.drop (k*T.types.length)=y)/\cF=.slice bV y.length bX/\Hid (Jaf w G bV cE y/\y.length<=bX)/\Jar wr w.heap.size w.heap.size bY cs/\Bq w wr) (fun _ cy _=>T.rows-(intOf cy).toNat)
 case atStart=>
  refine⟨0,0,_,_,dd,sc,hs,T.segs,Ob7 _,by show 0=_;simp,zo,rfl,by show _=_;simp[cks,Jfx],by show _=_;simp,?_,by show _=_;simp,rfl,dq.out,bQ,bO⟩;intro j;rw[Oa0,Of3];split<;>simp
 case round=>
  obtain⟨k,f,cs,bY,bV,bX,cE,y,ff,bz,fc,rfl,cb,cH,dh,bB,rfl,ds,bQ,bE⟩:=hrel;have fm:=Ja bE de;have dO:=Ja bE dN;have dP:=Ja bE df;by_cases fg:f<T.rows
  ·have cc:Hid (k<ckN T.rows T.group):=by
    show _<_;rcases Oc1 k (ckN T.rows T.group)with h|h
    ·exact h
    ·have bC:=Jcy (len:=T.rows) bj;have bi:k=ckN T.rows T.group:=zo;rw[<-bi,<-bz.out]at bC;omega
   obtain⟨m,bk⟩:∃ m,m=min T.group (T.rows-f):=⟨_,rfl⟩;have cR:min (T.group:Int) ((T.rows:Int)-(f:Int))=(m:Int):=zo;have fh:m<=64:=zo;have cj:=zh bk;clear bk;go_wp2;refine wp_region_held_drew (S:=fun X=>X.cell? (Ar tb 3)=some (Iq (T.group:Int))/\X.cell? (Ar tb 2)=some (Iq (T.rows:Int))) zK ⟨dP,dO⟩ (fun I=>?_);refine tkj 0 rfl I ?_;refine tkj 1 rfl I ?_;refine tkj 2 rfl I ?_;refine tkj 3 rfl I ?_;refine tkj 4 rfl I ?_;refine tkj 5 rfl I ?_;refine tkj 6 rfl I ?_;refine tkj 7 rfl I ?_;refine tkj 8 rfl I ?_;refine tkj 9 rfl I ?_;refine tkj 10 rfl I ?_;refine tkj 11 rfl I ?_;refine tkn ?_;refine wpAnyH_done zK ?_ _;have db:IntKind.i64.wrap ((T.rows:Int)-(f:Int))=(T.rows:Int)-(f:Int):=by rw[Od4];omega
   rw[db,cR];clear db cR;have cI:Hid (T.types.length<=y.length):=by
    show _<=_;rw[<-bB.out,Of7,dr.out];have bC:(k+1)*T.types.length<=ckN T.rows T.group*T.types.length:=Om8 _ cc.out;rw[Of5]at bC;omega
   have dm:Hid (∀ dg∈y,dg∈T.segs):=fun dg hy=>by rw[<-bB.out]at hy;exact Oh7 hy
   clear I;go_wp2;go_loopw [7,52] (fun cF i wr=>∃ (c:Nat) (H:List (List V)) (bh:List Value) (bW:Option Addr) (bf:Nat) (bT:List (Option Addr×Nat)) (M:List (List Nat)),c<=T.types.length/\i=Iq (c:Int)/\Hid (Jh3 D y T.types m cs c=.inl H)/\Hid (H.length=T.types.length)/\Hid (∀ j,(H.getD j []).length<=if j<c then f+m else f)/\Hid (y.drop c=M)/\cF=.slice bW M.length bf/\Hid (Jaf w G bW bT M/\M.length<=bf)/\Jar wr w.heap.size w.heap.size bh H/\Bq w wr) (fun _ i _=>T.types.length-(intOf i).toNat)
   case atStart=>exact⟨0,cs,bY,bV,bX,cE,y,Ob7 _,rfl,rfl,cH,fun j=>by rw[if_neg (Oe0 _)];exact dh.out j,rfl,rfl,ds,bQ.below (Oa5 _ _).drew,bE.drew⟩
   case round=>
    obtain⟨c,H,bh,bW,bf,bT,M,cN,rfl,bJ,cf,ca,bA,rfl,bL,cO,O⟩:=hrel;have fo:=Ja O df;by_cases bS:c<T.types.length
    ·obtain⟨b1,fk,rfl,bO,fs⟩:=Kc.at (dt.out.below O) bS;have cW:0<M.length:=by
      rw[<-bA.out,Of7];have:=cI.out;omega
     have dZ:=bL.out.2;obtain⟨b3,br,Z,rc,rfl,dX,dY,bZ,cC,dD⟩:=bL.out.1.at cW;obtain⟨K,cQ⟩:∃ K,M[0]=K:=⟨_,rfl⟩;have ci:=zh cQ;clear cQ;rw[ci.out]at bZ cC;rw[Nat.add_zero]at bZ;have dj:Hid (y.getD c []=K):=by
      show _=_;rw[<-ci.out];have cA:c<y.length:=by have:=cI.out;omega
      simp only[<-bA.out,List.getElem_drop,Nat.add_zero,Oa0,Oa3 cA,Option.getD_some]
     have dp:Hid (K∈T.segs):=by
      apply dm.out;have bk:=Ob3 cW;rw[ci.out]at bk;have dG:K∈y.drop c:=by rw[bA.out];exact bk
      exact Oh7 dG
     have bM:Hid (∀ X,Bq w X->Cq 73 #[Pq s,.slice Z K.length rc,Iq T.types[c],Iq (m:Int)] X fun e w'=>Jl8 X pg (Us D K T.types[c] m) e w'):=fun X hb=>dw.out X Z rc K _ m hb dp.out (cC.below hb);have bK:Hid (Jh3 D y T.types m cs (c+1)=match Us D K T.types[c] m with|.inr j=>.inr j|.inl vs=>.inl (H.set c (H.getD c []++vs))):=by
      show _=_;simp only[Jh3,bJ.out,dj.out];rw[show T.types.getD c 0=T.types[c] by simp[bS]];all_goals cases Us D K T.types[c] m<;>rfl
     have cv:Hid (∀ vs,Us D K T.types[c] m=.inl vs->vs.length=m):=fun vs hv=>Jnk hv;have ft:=Ja O bZ;clear bZ cC dD;generalize Us D K T.types[c] m=dS at *;rcases dS with vs|j
     ·have cu:=zh bM.out;have cK:Hid (vs.length=m):=cv.out vs rfl;have dl:=zh bK.out;have bG:c<H.length:=by rw[cf.out];exact bS
      obtain⟨sv,bH⟩:∃ sv,Uq bh c=sv:=⟨_,rfl⟩;have cJ:=zh bH;obtain⟨bI,bU⟩:∃ bI,H.getD c []=bI:=⟨_,rfl⟩;have dv:=zh bU;have da:bI.length+vs.length<=1000000:=by rw[<-bU,cK.out];have:=ca.out c;rw[if_neg (Oe3 _)]at this;omega
      have du:=zh da;have cL:Hid (∀ X,Jar X w.heap.size w.heap.size bh H->X.cell? (Ar w.heap.size c)=some sv/\X.frozen? ⟨w.heap.size,c,none⟩=false/\Yt X w.heap.size sv bI):=fun X U=>by
       have:=U.row.cell (i:=c) (by rw[U.len];exact bG);rw[bH]at this;have bi:=U.own c bG;rw[bH,bU]at bi;exact⟨this,U.row.frozen c,bi⟩
      have dx:Hid (∀ X bN,Jar X w.heap.size w.heap.size bh H->X.grownBy bN sv.ownBlock->bN.cell? (Ar w.heap.size c)=some sv/\bN.frozen? ⟨w.heap.size,c,none⟩=false):=fun X bN U bj=>by
       have cS:=U.ne c bG;rw[bH]at cS;have hb:=bj.block w.heap.size U.row.lt (fun e=>cS e.symm);obtain⟨bC,bi,_⟩:=cL.out X U;exact⟨by rw[Oc3 hb];exact bC,by rw[Ol7 hb];exact bi⟩
      have dE:∃ bx,(bx=br+1\/M.length<=1)/\(if bf=1 then (some (Ar b3 br):Option Addr)else some (Ar b3 (br+1)))=some (Ar b3 bx):=by
       by_cases e:bf=1
       ·exact⟨br,.inr zo,by rw[if_pos e]⟩
       exact⟨br+1,.inl rfl,by rw[if_neg e]⟩
      obtain⟨bx,cn,fe⟩:=dE;replace cn:Hid (bx=br+1\/M.length<=1):=cn;clear bM bK bJ cv bH bU da;go_wp2_with (first|(go_at_call 73;refine(cu.out _ O).mono ?_;rintro e cx ⟨bP,fp,rfl,fj,dI⟩;have cB:=cO.below bP;obtain⟨x1,x2,cU⟩:=cL.out cx cB;have cz:=Jb O bP)|(at_builtin;refine Jjs zR _ _ zR w.heap.size _ _ zR cU _ _ vs zR dI du.out cz.size ?_;intro sv' dT dc cG dL;obtain⟨fq,fr⟩:=dx.out cx dT cB cG;obtain⟨dy,c5,cZ,_⟩:=dc.vals;rw[Oa8]at cZ;subst cZ))
      go_roundw
      case rel=>
       refine⟨c+1,H.set c (H.getD c []++vs),bh.set c (.slice dy (bI.length+vs.length) c5),some (Ar b3 bx),bf-1,bT.drop 1,M.drop 1,zo,zn,dl,by show _=_;rw[Of8];exact cf.out,fun j=>?_,by show _=_;rw[<-bA.out,List.drop_drop],zS,⟨bL.out.1.tail bx cn.out,by rw[Of7];omega⟩,cB.put bG (by rw[dv.out];exact dc) (by rw[cJ.out];exact cG) (by rw[cJ.out];exact dL),(cz.grown cG cz.size (fun g bj=>(Je cU bj).1)).setCell (p:=Ar w.heap.size c) (Oa2 _) _⟩;rw[Jyj bG];have Y:=ca.out j;have hv:=cK.out;by_cases e:j=c
       ·subst e;rw[if_neg (Oe3 _)]at Y;rw[if_pos rfl,if_pos zo,Oa8];omega
       rw[if_neg e];by_cases cM:j<c
       ·rw[if_pos cM]at Y;rw[if_pos zo];exact Y
       rw[if_neg cM]at Y;rw[if_neg zo];exact Y
      case measure=>simp[intOf];omega
     have cu:=zh bM.out;have di:Hid ((Jfx D T.types T.segs (List.replicate T.types.length []) (cks T.rows T.group (ckN T.rows T.group))).1=.inr j):=by
      show _=_;obtain⟨fu,dK⟩:=Jvd T.rows T.group (k+1) _ cc.out;rw[dK];refine Kel D T.types T.segs _ _ _ _ ?_;rw[Jbj,Ji5];simp only[Jpn,cb.out,Ji2,Jbp,bB.out];refine Kd4 D y T.types _ cs j (c+1) _ ?_ bS;have:=bK.out;rw[cj.out,bz.out]at this;exact this
     clear bM bK bJ cv;go_wp2_with (first|(go_at_call 73;refine(cu.out _ O).mono ?_;rintro e cx ⟨bP,be,rfl,dB,dC⟩))
     go_ret2
     rw[di.out];exact⟨Jb O bP,be,rfl,Ob2 O.size dB,dC⟩
    obtain rfl:c=T.types.length:=zo;go_wp2;go_roundw
    case rel=>
     refine⟨k+1,f+T.group,H,bh,bW,bf,bT,M,cc.out,by show _=_;rw[Of5,bz.out],zo,zn,?_,cf,fun j=>?_,?_,rfl,bL,cO,O⟩
     ·show _=_;rw[Jbj,Ji5];simp only[Jpn,cb.out,Ji2,Jbp,bB.out];have:=bJ.out;rw[cj.out,bz.out]at this;exact this
     ·have Y:=ca.out j;have bk:=cj.out;split at Y<;>omega
     show _=_;rw[<-bA.out,<-bB.out,List.drop_drop,Of5]
    case measure=>simp[intOf];omega
  obtain⟨_,rfl⟩:True/\k=ckN T.rows T.group:=by
   refine⟨trivial,?_⟩;rcases Oc1 k (ckN T.rows T.group)with h|h
   ·have:=Jqs bj h;rw[<-bz.out]at this;omega
   ·omega
  have cA:=cH.out;go_wp2;go_ret2
  rw[cb.out];rw[<-cA];exact⟨bE,_,bY,rfl,bQ⟩
theorem Jlg (g n cap:Nat)a(l c:Nat)w(y:1<=n)(h0:w.cell? (Aq g)=some (.slice a l c)):
  Cq 71 #[Sq g n cap] w fun e w'=>e=.returned (Iq (l:Int))/\w'=w:=by
 have q:((n:Int)==0)=false:=by rw[beq_eq_false_iff_ne];omega
 go_enter func71,ntmps71
 go_wp2;go_ret
 exact⟨rfl,rfl⟩
def Ji (cs:List (List V))(j:Nat):List V:=cs.map fun c=>c.getD j Jf
theorem Yk cs j:(Ji cs j).length=cs.length:=by simp[Ji]
theorem Jge n cs j(y:j<n):(Qf n cs)[j]?=some (Ji cs j):=by simp[Qf,Ji,y]
theorem Jk1 (L:List V)(c n:Nat)(hl:L.length=n)(I:c<n):(L.take c++List.replicate (n-c) Jf).set c L[c]=L.take (c+1)++List.replicate (n-(c+1)) Jf:=by
 obtain⟨d,y⟩:∃ d,n-c=d+1:=⟨n-c-1,zo⟩;have H:n-(c+1)=d:=zo;rw[y,H,List.replicate_succ,Ok4 _ _ (by rw[Oc7];omega)];rw[Oc7,Oj1 zo,Oe1,List.set_cons_zero,Jec L c zo,Od8];rfl
def Kt9 (w:World)(b:Nat)(t:TypeId)(n:Nat)(f:Nat->Value):Prop:=∃ c:Array Value,w.heap[b]?=some (.cells c t (0,0))/\n<=c.size/\∀ i,i<n->c[i]?=some (f i)
section
variable {w w':World} {b:Nat} {t:TypeId} {n:Nat} {f g:Nat->Value}
theorem Kud (h:w.rowIs b t n f):Kt9 w b t n f:=by
 obtain⟨c,y,I,H⟩:=h;exact⟨c,y,zo,H⟩
theorem Kt9.cell (h:Kt9 w b t n f){i}(hi:i<n):w.cell? (Ar b i)=some (f i):=by
 obtain⟨c,hb,_,y⟩:=h;simp[World.cell?,hb,y i hi]
theorem Kt9.lt (h:Kt9 w b t n f):b<w.heap.size:=by
 obtain⟨c,hb,_,_⟩:=h;exact(Oe2.1 hb).1
theorem Kt9.congr (h:Kt9 w b t n f)(e:∀ i,i<n->f i=g i):Kt9 w b t n g:=by
 obtain⟨c,hb,H,y⟩:=h;exact⟨c,hb,H,fun i hi=>by rw[y i hi,e i hi]⟩
theorem Kt9.of_block (h:Kt9 w b t n f)(e:w'.heap[b]?=w.heap[b]?):Kt9 w' b t n f:=by
 obtain⟨c,hb,H,y⟩:=h;exact⟨c,e.trans hb,H,y⟩
end
theorem zah {p:Prop}(h:p:=by rw[Ob5 _ _ _ _ (by first|(simp;done)|(simp;omega)),Ob5 _ _ _ _ (by first|(simp;done)|(simp;omega)),Ob5 _ _ _ _ (by first|(simp;done)|(simp;omega))];exact hv):p:=h
theorem Jo4 g cap bD cs n w(bB:Kt9 w g 62 bD.length (Uq bD))(hl:bD.length=cs.length)(hv:∀ i,i<cs.length->∃ a c,Uq bD i=.slice a (cs.getD i []).length c/\Jv w a (cs.getD i []))(Z:∀ i,i<cs.length->(cs.getD i []).length=n)(bk:1<=cs.length)(Y:cs.length<=1000)(cP:n<=10000):
  Cq 52 #[Sq g cs.length cap] w fun e w'=>e=.returned (Sq w.heap.size n n)/\(∃ bs,Jcu w' w.heap.size w.heap.size bs (Qf n cs))/\Bq w w':=by
 have cC:∀ W,(Instr.makeSlice 23 (Iq (n:Int)) (Iq (n:Int))).run prog W=.ok (Sq W.heap.size n n) (W.alloc (.cells (madeCells #[Sz] n) 63)):=
  fun W=>run_make_row' 23 63 Sz 24 zK Jip rfl .i64 .i64 n zo zo W
 have bH:=bB.cell (i:=0) zo;obtain⟨cf,ci,bU,_⟩:=hv 0 zo;rw[bU,Z 0 zo]at bH;have hlen:=Jlg g cs.length cap cf n ci w bk bH;have cy:=bB.lt;have bX:Hid (∀ (W:World) (i k:Nat) (hi:i<cs.length) (bI:k<n),Bq w W->∃ b o rc,W.cell? (Ar g i)=some (Sr b o n rc)/\b<w.heap.size/\VAt W b (o+k*3) ((Ji cs k)[i]'(by rw[Yk];exact hi))):=fun W i k hi bI hb=>by
  obtain⟨a,rc,M,K⟩:=hv i hi;have bJ:k<(cs.getD i []).length:=by rw[Z i hi];exact bI
  obtain⟨b,o,rfl,cN,cH⟩:=(K.below hb).at bJ;obtain⟨cK,cQ,bV,cx,_⟩:=K.at bJ;simp at bV;obtain⟨rfl,rfl⟩:=bV;refine⟨b,o,rc,?_,cx,?_⟩
  ·rw[hb.cell (p:=Ar g i) cy,bB.cell zo,M,Z i hi]
  have e:cs.getD i []=cs[i]:=by rw[Oa0,Oa3 hi];rfl
  have cA:k<cs[i].length:=by rw[<-e];exact bJ
  have K:(cs.getD i [])[k]=cs[i][k]:=by simp only[e]
  have:(Ji cs k)[i]'(by rw[Yk];exact hi)=(cs.getD i [])[k]:=by
   rw[K];simp only[Ji,Od9];rw[Oa0,Oa3 cA];rfl
  rw[this];exact cH
 clear hv Z bH bU bB hl;go_enter func52,ntmps52
 go_wp2_with (first|(go_at_call 71;refine hlen.mono ?_;rintro e cc ⟨rfl,cL⟩;subst cc))
 clear cC hlen;go_loopw [12] (fun i wr=>∃ (k:Nat) (bs:List Nat),k<=n/\i=Iq k/\Hid (bs.length=k)/\wr.rowIs w.heap.size 63 n (fun j=>if j<k then Sq (bs.getD j 0) cs.length cs.length else Sz)/\Hid (∀ j b,bs[j]?=some b->Kv wr b (Ji cs j) []/\w.heap.size<b)/\Hid bs.Nodup/\Bq w wr) (fun i _=>n-(intOf i).toNat)
 case atStart=>exact⟨0,[],zo,rfl,rfl,(Ol3 _ _ _ _).congr (fun j _=>zS),fun j b h=>by simp at h,List.nodup_nil,(Oa5 _ _).alloc (Oa2 _) _⟩
 case round=>
  obtain⟨k,bs,bI,rfl,bi,O,bj,bS,br⟩:=hrel;obtain⟨y,U⟩:∃ y,y=wr:=⟨_,rfl⟩;subst U;have cO:=O.lt;by_cases bL:k<n
  ·obtain⟨C,cB,bM⟩:=Jtn cs.length Y y;have c1:=O.cell bL;have c2:=O.frozen k;simp only[Oe3,if_false]at c1;go_wp2;clear cB c1 c2;have bG:=br.setCell (p:=Ar w.heap.size k) (Oa2 _) (Sq y.heap.size cs.length cs.length);have bh:(y.setCell (Ar w.heap.size k) (Sq y.heap.size cs.length cs.length)).heap.size=y.heap.size:=by simp[World.setCell]
   go_loopw [23] (fun i wr=>∃ c:Nat,c<=cs.length/\i=Iq c/\Kv wr y.heap.size ((Ji cs k).take c++List.replicate (cs.length-c) Jf) []/\wr.rowIs w.heap.size 63 n (fun j=>if j=k then Sq y.heap.size cs.length cs.length else if j<k then Sq (bs.getD j 0) cs.length cs.length else Sz)/\Hid (∀ x,x<y.heap.size->x≠w.heap.size->wr.heap[x]?=y.heap[x]?)/\y.heap.size<wr.heap.size/\Bq w wr) (fun i _=>cs.length-(intOf i).toNat)
   case atStart=>
    obtain⟨cJ,M,K⟩:=bM;rw[heap_alloc_new]at M;simp at M;subst M;refine⟨0,Ob7 _,rfl,⟨C,?_,by simpa using K⟩,(O.set k _).alloc _,fun x bN bO=>?_,by rw[Oa7,bh];omega,Jc bG _⟩
    ·have:=heap_alloc_new (y.setCell (Ar w.heap.size k) (Sq y.heap.size cs.length cs.length)) (.cells C 65);rw[bh]at this;exact this
    rw[Oa9 _ _ x (by rw[bh];exact bN),Oa4 _ _ _ _ bO]
   case round=>
    obtain⟨c,Z,rfl,bA,bz,bT,cG,bE⟩:=hrel;have bR:=zh bz;by_cases bx:c<cs.length
    ·obtain⟨b2,bP,rc,x1,cM,z1,z2,bQ⟩:=bX.out wr c k bx bL bE;have bK:=bz.cell bL;simp only[if_true]at bK;have cD:c<(Ji cs k).length:=by rw[Yk];exact bx
     have hlen:((Ji cs k).take c++List.replicate (cs.length-c) Jf).length=cs.length:=by
      rw[Oa8,Oc7,Yk,Od6];omega
     obtain⟨old,⟨c0,cj⟩,⟨c1,M⟩,⟨c2,K⟩,bC⟩:=bA.put (Ji cs k)[c] c (by rw[hlen];exact bx);rw[Jk1 (Ji cs k) c cs.length (Yk _ _) bx]at bC;generalize (Ji cs k)[c]=v at z1 z2 bQ bC;have ca:=zh bC;have U:=br.size;clear bC hlen cD bz O bM bG bh;go_wp2;refine wp_region_held_drew (S:=fun X=>X.cell? (Ar w.heap.size k)=some (Sq y.heap.size cs.length cs.length)/\X.cell? (Ar b2 (bP+k*3))=some (Iq v.k)/\X.cell? (Ar b2 (bP+k*3+1))=some (Iq v.n)/\X.cell? (Ar b2 (bP+k*3+2))=some (.string v.s)) zK ⟨bK,z1,z2,bQ⟩ (fun H=>?_);refine tkj 0 rfl H ?_;refine tkj 1 rfl H ?_;refine tkj 2 rfl H ?_;refine tkj 3 rfl H ?_;refine tkj 4 rfl H ?_;refine tkj 5 rfl H ?_;refine tkj 6 rfl H ?_;refine tkj 7 rfl H ?_;refine tkj 8 rfl H ?_;refine tkj 9 rfl H ?_;refine tkn ?_;refine tkr 10 rfl fun cb hK=>?_;go_simp;have bf:∀ (b o:Nat) (u:Value),b≠y.heap.size->wr.cell? (Ar b o)=some u->(((wr.setCell (Ar y.heap.size (c*3)) (Iq v.k)).setCell (Ar y.heap.size (c*3+1)) (Iq v.n)).setCell (Ar y.heap.size (c*3+2)) (.string v.s)).cell? (Ar b o)=some u:=fun b o u hb hv=>by
      exact zah
     refine hK.out _ _ ⟨bf _ _ _ zo bK,bf _ _ _ zo z1,bf _ _ _ zo z2,bf _ _ _ zo bQ⟩ (fun cn=>?_);clear hK cb bf H cn c0 cj c1 M c2 K;refine wpAnyH_done zK ?_ _;have cE:Hid ((((wr.setCell (Ar y.heap.size (c*3)) (Iq v.k)).setCell (Ar y.heap.size (c*3+1)) (Iq v.n)).setCell (Ar y.heap.size (c*3+2)) (.string v.s)).rowIs w.heap.size 63 n (fun j=>if j=k then Sq y.heap.size cs.length cs.length else if j<k then Sq (bs.getD j 0) cs.length cs.length else Sz)):=
      ((bR.out.setOther (a:=Ar y.heap.size (c*3)) (by show w.heap.size≠y.heap.size;omega) _).setOther (a:=Ar y.heap.size (c*3+1)) (by show w.heap.size≠y.heap.size;omega) _).setOther (a:=Ar y.heap.size (c*3+2)) (by show w.heap.size≠y.heap.size;omega) _
     have cv:Bq w (((wr.setCell (Ar y.heap.size (c*3)) (Iq v.k)).setCell (Ar y.heap.size (c*3+1)) (Iq v.n)).setCell (Ar y.heap.size (c*3+2)) (.string v.s)):=
      ((bE.setCell (p:=Ar y.heap.size (c*3)) U _).setCell (p:=Ar y.heap.size (c*3+1)) U _).setCell (p:=Ar y.heap.size (c*3+2)) U _
     have bY:Hid (∀ x,x<y.heap.size->x≠w.heap.size->(((wr.setCell (Ar y.heap.size (c*3)) (Iq v.k)).setCell (Ar y.heap.size (c*3+1)) (Iq v.n)).setCell (Ar y.heap.size (c*3+2)) (.string v.s)).heap[x]?=y.heap[x]?):=fun x bN bO=>by
      rw[Oa4 _ _ _ _ (by show x≠y.heap.size;omega),Oa4 _ _ _ _ (by show x≠y.heap.size;omega),Oa4 _ _ _ _ (by show x≠y.heap.size;omega)];exact bT.out x bN bO
     have cF:y.heap.size<(((wr.setCell (Ar y.heap.size (c*3)) (Iq v.k)).setCell (Ar y.heap.size (c*3+1)) (Iq v.n)).setCell (Ar y.heap.size (c*3+2)) (.string v.s)).heap.size:=by simp[World.setCell];exact cG
     generalize ((wr.setCell (Ar y.heap.size (c*3)) (Iq v.k)).setCell (Ar y.heap.size (c*3+1)) (Iq v.n)).setCell (Ar y.heap.size (c*3+2)) (.string v.s)=cR at *;go_wp2;go_roundw
     case rel=>exact⟨c+1,zo,zn,ca.out,cE.out,bY.out,cF,cv.drew⟩
     case measure=>simp[intOf];omega
    obtain rfl:c=cs.length:=zo;rw[Oe1,List.replicate_zero,Od7,Oc8 (by rw[Yk];exact Oa2 _)]at bA;have bZ:=zh bA;have U:=br.size;clear bA bz O bM bG bh;go_wp2;go_roundw
    case rel=>
     refine⟨k+1,bs++[y.heap.size],zo,zn,by show _=_;rw[Oa8,bi.out];rfl,bR.out.congr fun j I=>?_,fun j b hb=>?_,?_,bE⟩
     ·have hl:=bi.out;by_cases e:j=k
      ·subst e;simp[hl]
      by_cases bk:j<k
      ·have Y:j<k+1:=zo;simp[e,bk,Y,List.getElem?_append_left (show j<bs.length by omega)]
      have Y:¬ j<k+1:=zo;simp[e,bk,Y]
     ·by_cases e:j<bs.length
      ·rw[Ob0 e]at hb;obtain⟨bW,cI⟩:=bj.out j b hb;exact⟨bW.of_block (bT.out b bW.lt zo),cI⟩
      have hl:=bi.out;have I:j=k:=by
       have:=(Ob9.1 hb).1;simp at this;omega
      subst I;rw[<-hl,Ob6 (Oa2 _),Oe1]at hb;simp at hb;subst hb;exact⟨bZ.out,zo⟩
     show (bs++[y.heap.size]).Nodup;rw[Op3];refine⟨bS.out,zS,fun a cu b hb=>?_⟩;simp at hb;subst hb;obtain⟨j,I,rfl⟩:=Od5 cu;have:=(bj.out j _ (Oa3 I)).1.lt;omega
    case measure=>simp[intOf];omega
  obtain rfl:k=n:=zo;go_wp2;go_ret
  refine⟨rfl,⟨bs,by rw[Uu];exact bi.out,?_,?_,⟨Oa2 _,fun b hb=>?_⟩,bS.out⟩,br⟩
  ·rw[Uu];refine O.congr fun j I=>?_;rw[if_pos I];unfold Jad;rw[Oa0 (l:=Qf k cs),Jge k cs j I];simp only[Option.getD_some,Yk]
  ·intro i b r hi hr;have cz:i<k:=by
    have:=(Ob9.1 hr).1;rw[Uu]at this;exact this
   rw[Jge k cs i cz]at hr;simp at hr;subst hr;exact(bj.out i b hi).1
  obtain⟨j,I,rfl⟩:=Od5 hb;have:=(bj.out j _ (Oa3 I)).2;omega
structure Jid (D:DS) (T:TS):Prop where
 cols:1<=T.types.length/\T.types.length<=6
 rows:T.rows<=200
 group:1<=T.group/\T.group<=64
 count:T.segs.length=ckN T.rows T.group*T.types.length
 segs:∀ l∈T.segs,l≠[]/\l.length<=1000
 full:∀ l∈T.segs,∀ t,Uf D l=.inl t->Kje t
def Jgp (D:DS)(T:TS):List (List V)⊕Nat:=(Jkh D T.types T.segs (List.replicate T.rows (List.replicate T.types.length Jf)) (cks T.rows T.group (ckN T.rows T.group))).1
def Zo (D:DS)(T:TS):List (List V)⊕Nat:=(Jfx D T.types T.segs (List.replicate T.types.length []) (cks T.rows T.group (ckN T.rows T.group))).1
theorem Jmq D T(y:1<=T.group):Jgp D T=Sum.map (Qf T.rows) id (Zo D T)/\∀ cs,Zo D T=.inl cs->cs.length=T.types.length/\∀ c,c<cs.length->(cs.getD c []).length=T.rows:=by
 obtain⟨H,I⟩:=Jwa D T.types T.segs T.rows T.group y (fun l t m vs h=>Jnk h) (ckN T.rows T.group) (Oa2 _);refine⟨H,fun cs h=>?_⟩;obtain⟨M,O⟩:=I cs h;refine⟨M,fun c K=>?_⟩;rw[O c K];exact Ol4 (Jcy y)
def Jrr (w:World)(et pg:Addr)(r:Option (List (List V)⊕Nat))(e:Ending)(w':World):Prop:=
 Bq w w'/\match r with
  |none=>e=.returned (.tuple #[Sz,Ie 435 et])
  |some (.inl cs)=>∃ g y,e=.returned (.tuple #[Sq g cs.length cs.length,.nilIface])/\Jar w' w.heap.size g y cs
  |some (.inr j)=>∃ b,e=.returned (.tuple #[Sz,Ip 106 b])/\w.heap.size<=b/\Yu w' (Ip 106 b) pg (some (-1)) (some (j:Int))
def Jf8 (D:DS)(Ts:List TS)(n:ByteArray):Option (List (List V)⊕Nat):=(Ts[Ub Ts n]?).map (Jgp D)
def Jcm (D:DS)(Ts:List TS)(n:ByteArray):Option (List (List V)⊕Nat):=(Ts[Ub Ts n]?).map (Zo D)
theorem Keq D Ts n(M:∀ T∈Ts,Jid D T):(Jcm D Ts n=none/\Jf8 D Ts n=none)\/(∃ j,Jcm D Ts n=some (.inr j)/\Jf8 D Ts n=some (.inr j))\/∃ cs m,Jcm D Ts n=some (.inl cs)/\Jf8 D Ts n=some (.inl (Qf m cs))/\m<=200/\1<=cs.length/\cs.length<=6/\∀ c,c<cs.length->(cs.getD c []).length=m:=by
 unfold Jcm Jf8;cases h:Ts[Ub Ts n]? with
 |none=>exact .inl ⟨rfl,rfl⟩
 |some T=>
  have y:=M T (Of6 h);obtain⟨I,K⟩:=Jmq D T y.group.1;simp only[Option.map_some];rw[I];cases hc:Zo D T with
  |inr j=>exact .inr (.inl ⟨j,rfl,rfl⟩)
  |inl cs=>
   obtain⟨H,O⟩:=K cs hc;exact .inr (.inr ⟨cs,T.rows,rfl,rfl,y.rows,by rw[H];exact y.cols.1,by rw[H];exact y.cols.2,O⟩)
theorem Jou n w F G s d D Ts sv bs(h:Jfl w G s d Ts sv bs)(bL:Zb w F d D)(bi:∀ T∈Ts,Jid D T)a0 a1 a2(bM:Jf0 w a0 a1 a2)et pg(bP:w.cell? (Aq 7)=some (Ie 435 pg))(bN:w.cell? (Aq 1)=some (Ie 435 et)):
  Cq 30 #[Pq s,.string n] w fun e w'=>Jrr w et pg (Jcm D Ts n) e w':=by
 have O:=Jo8 n w G s d Ts sv bs h;have bU:=run_neq_nil_nil (P:=prog);by_cases M:Ub Ts n<Ts.length
 ·have U:Jhc Ts n=(Ub Ts n:Int):=by unfold Jhc;rw[if_pos M]
  have br:Jcm D Ts n=some (Zo D Ts[Ub Ts n]):=by simp[Jcm,M]
  rw[U]at O;generalize bO:Ub Ts n=k at *;have H:=bi _ (Ob3 M);have bk:Hid (∀ W b,Bq w W->Jmg W G b Ts[k]->Cq 53 #[Pq s,Pq b] W fun e w'=>Ji1 W pg (Zo D Ts[k]) e w'):=fun W b hb bJ=>
   Kas s d b Ts[k] W F G D (bL.below hb) (Ja hb h.field.1) bJ H.cols H.rows H.group.1 H.group.2 H.count H.segs H.full a0 a1 a2 (bM.below hb) pg (Ja hb bP)
  have Y:=zh br;obtain⟨b,o,bB,c2,ht⟩:=h.at M;obtain⟨_,c1⟩:=h.field;obtain⟨a,cap,bC,_⟩:=h.own.cells;rw[Oa6,h.len]at bC;subst bC;simp at bB;subst bB;have bT:=h.few;generalize bs[k]'_=tk at c2 ht;have bA:=fun W hb=>bk.out W tk hb (ht.stands hb.size fun x _ bQ=>hb.block x bQ);have Z:=zh bA;clear br U bi H bO h bA bk ht;generalize hr:Zo D Ts[k]=r at *;rcases r with rs|j
  ·have bj:=zh Z.out;clear Z;go_enter func30,ntmps30
   go_wp2_with (first|(go_at_call 41;refine O.mono ?_;rintro e bf ⟨rfl,y⟩;have bD:=Ja y c1;have bE:=Ja y c2)|(go_at_call 53;refine(bj.out bf y).mono ?_;rintro e I ⟨bh,g,bG,rfl,K⟩))
   go_ret2
   rw[Y.out];exact⟨Jb y bh,g,bG,rfl,⟨K.row,Ob2 y.size K.low,K.len,fun i hi=>(K.own i hi).mono y.size,K.ne,K.apart⟩⟩
  have bj:=zh Z.out;clear Z;go_enter func30,ntmps30
  go_wp2_with (first|(go_at_call 41;refine O.mono ?_;rintro e bf ⟨rfl,y⟩;have bD:=Ja y c1;have bE:=Ja y c2)|(go_at_call 53;refine(bj.out bf y).mono ?_;rintro e I ⟨bh,be,rfl,bR,bK⟩))
  go_ret2
  rw[Y.out];have bx:=Jb y bh;have bz:Bq I (I.alloc (.cells #[.string n,iM,Ip 149 be] 108)):=(Oa5 _ _).alloc (Oa2 _) _;obtain⟨_,z1,z2⟩:=Kil I (.string n) iM (Ip 149 be) 108;obtain⟨bH,bI⟩:=bK.disk_at;exact⟨Jc bx _,I.heap.size,rfl,bx.size,.both I.heap.size be pg (-1) j z1 z2 (Ja bz bH) (Ja bz bI)⟩
 have U:Jhc Ts n=-1:=by unfold Jhc;rw[if_neg M]
 have Y:Hid (Jcm D Ts n=none):=by show _=_;simp[Jcm];omega
 rw[U]at O;clear U M bi h;go_enter func30,ntmps30
 go_wp2_with (first|(go_at_call 41;refine O.mono ?_;rintro e bf ⟨rfl,y⟩;have bS:=Ja y bN))
 go_quiet (fail)
 go_wp2;go_ret2
 rw[Y.out];exact⟨Jp y _,rfl⟩
theorem Jru:(prog.info? 109).map (fun i=>(i.zero,i.size,i.bytes))=some (some (.pointer none),1,8):=zK
end
