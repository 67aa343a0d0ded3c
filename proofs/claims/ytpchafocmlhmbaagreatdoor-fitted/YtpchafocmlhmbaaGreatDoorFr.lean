/- The plan of the law Rowwise: what it means, row by row. -/
import Derived.Test.YtpchafocmlhmbaaGreatDoorZh
set_option maxHeartbeats 1000000
set_option maxRecDepth 100000
namespace Go.Proofs.YtpchafocmlhmbaaGreatDoor
section
open Go.RowKit Go.Shelf
section
variable {tab:ByteArray→Cs⊕Nat} {p e:List Pt} {cs:Cs} {rs:List (List V)}
end
theorem Kb7 (y:List (Option Addr×Nat))(rows:List (List V))(x:Option Addr×Nat)(r:List V)(h:y.length=rows.length):List.zipWith Je1 (y++[x]) (rows++[r])=List.zipWith Je1 y rows++[Je1 x r]:=by
 rw[Oo5 h];rfl
theorem Jhl (y:List (Option Addr×Nat))(rows:List (List V))(h:y.length=rows.length):(List.zipWith Je1 y rows).length=rows.length:=by rw[Oj8,h,Nat.min_self]
abbrev Kr5:ByteArray:=⟨#[97]⟩
abbrev Kr6:ByteArray:=⟨#[98]⟩
def Ksi (c:Nat):List Krv:=[⟨c,(c:Nat),false,0⟩]
def Ksf (c k:Nat):List PN:=[⟨0,0,Kr5,[],[],0,0⟩,⟨0,0,Kr6,[],[],0,0⟩,⟨3,0,⟨#[]⟩,[],Ksi c,1,(k:Nat)⟩]
theorem Kvu {tys:ByteArray→List Int}{ts:List Int}{c k:Nat}(H:tys Kr5=ts)(K:tys Kr6=ts)(D:c<ts.length)(O:k<4)(R:ts.length≤6):Jdk tys [ts,ts,if k<2 then ts++ts else ts] (Ksf c k) where
 len:=rfl
 ok:=fun j n y=>by
  match j,y with
  |0,y=>cases y;exact⟨ts,rfl,by show 0≤4;omega,fun _=>H.symm,fun h=>absurd h (by show ¬ 0=1;omega),fun h=>absurd h (by show ¬ 0=2;omega),fun h=>absurd h (by show ¬ 0=4;omega),fun h=>absurd h (by show ¬ 0=3;omega)⟩
  |1,y=>cases y;exact⟨ts,rfl,by show 0≤4;omega,fun _=>K.symm,fun h=>absurd h (by show ¬ 0=1;omega),fun h=>absurd h (by show ¬ 0=2;omega),fun h=>absurd h (by show ¬ 0=4;omega),fun h=>absurd h (by show ¬ 0=3;omega)⟩
  |2,y=>
   cases y
   refine⟨_,rfl,by show 3≤4;omega,fun h=>absurd h (by show ¬ 3=0;omega),fun h=>absurd h (by show ¬ 3=1;omega),fun h=>absurd h (by show ¬ 3=2;omega),fun h=>absurd h (by show ¬ 3=4;omega),fun _=>⟨ts,ts,k,rfl,rfl,by show ¬ 0=1;omega,rfl,rfl,O,by show 1≤1;omega,by show 1≤4;omega,fun U E=>?_,fun _=>by omega,rfl⟩⟩;simp only[Ksi,Oc6]at E;subst E;exact⟨D,⟨by show (0:Int)≤(c:Int);omega,by show (c:Int).toNat<_;simpa using D⟩,by show _=ts.getD (c:Int).toNat 0;simp⟩
 ahead:=fun j n y i hi=>by
  match j,y with
  |0,y=>cases y;simp[Jg7]at hi
  |1,y=>cases y;simp[Jg7]at hi
  |2,y=>cases y;simp[Jg7]at hi;rcases hi with rfl|rfl<;>exact⟨by omega,rfl⟩
 all:=fun i hi=>by
  have:i=0∨i=1:=by simp[Ksf]at hi;omega
  rcases this with rfl|rfl<;>rfl
 one:=by simp[Ksf]
 few:=by simp[Ksf]
section
variable {tab:ByteArray→Cs⊕Nat} {ca cb:Cs} {c k:Nat}
theorem Kvm (y:tab Kr5=.inl ca)(D:tab Kr6=.inl cb):Jbs ⟨3,0,⟨#[]⟩,[],Ksi c,1,(k:Nat)⟩ (stN tab (Ksf c k) 2)=ca∧csR ⟨3,0,⟨#[]⟩,[],Ksi c,1,(k:Nat)⟩ (stN tab (Ksf c k) 2)=cb∧Jac tab (Ksf c k)=Kr4 k (Ksi c) ca cb (nR ca) (nR cb):=by
 refine⟨?_,?_,?_⟩
 ·simp[stN,Ksf,Jb3,Jkq,Jbs,y,D]
 ·simp[stN,Ksf,Jb3,Jkq,csR,y,D]
 simp[Jac,stN,Ksf,Jb3,Jkq,Jbs,csR,y,D]
end
def Kr1 (c:Nat)(a b:List V):Bool:=!decide ((a.getD c Jf).k=0)&&(a.getD c Jf).beq (b.getD c Jf)
def Ks3 (k m:Nat)(a:List V)(y:List (List V)):List (List V):=match k with
 |0=>y.map fun b=>a++b
 |1=>if y=[]then [a++List.replicate m Jf]else y.map fun b=>a++b
 |2=>if y=[]then []else [a]
 |_=>if y=[]then [a]else []
def Kry (k c m:Nat)(A B:List (List V)):List (List V):=A.flatMap fun a=>Ks3 k m a (B.filter (Kr1 c a))
theorem Kwj {k c m:Nat}{A B:List (List V)}{i:Nat}(hi:i<A.length):Kry k c m (A.take (i+1)) B=Kry k c m (A.take i) B++Ks3 k m A[i] (B.filter (Kr1 c A[i])):=by
 unfold Kry;rw[Oc4 hi,Oe8];simp
def Ks1 (cs:Cs)(m:Int):List V:=if m=-1 then List.replicate cs.length Jf else Ji cs m.toNat
theorem Kww (L:List Int)(cs:Cs):Qf L.length (cs.map (Yq L))=L.map (Ks1 cs):=by
 apply Oi8;intro i;by_cases hi:i<L.length
 ·rw[Jge _ _ _ hi,Kte L cs i hi,Ob1,Oa3 hi];rfl
 rw[Ob4 (by rw[Uu];omega),Ob4 (by rw[Oa6];omega)]
theorem Kxr (L y:List Int)(h:L.length=y.length)(cs D:Cs):Qf L.length (cs.map (Yq L)++D.map (Yq y))=List.zipWith (fun l r=>Ks1 cs l++Ks1 D r) L y:=by
 apply Oi8;intro i;by_cases hi:i<L.length
 ·have hr:i<y.length:=by omega
  rw[Jge _ _ _ hi,Ok5,Oa3 hi,Oa3 hr];have e:Ji (cs.map (Yq L)++D.map (Yq y)) i=Ji (cs.map (Yq L)) i++Ji (D.map (Yq y)) i:=Ob8;rw[e,Kte L cs i hi,Kte y D i hr];rfl
 rw[Ob4 (by rw[Uu];omega),Ob4 (by rw[Oj8];omega)]
theorem Kva {α β γ δ:Type}(f:α→List β)(g:α→List γ)(z:β→γ→δ):∀ (l:List α),(∀ x∈l,(f x).length=(g x).length)→List.zipWith z (l.flatMap f) (l.flatMap g)=l.flatMap fun x=>List.zipWith z (f x) (g x)
 |[],_=>rfl
 |x::l,h=>by
  rw[Og7,Og7,Og7,Oo5 (h x (by simp)),Kva f g z l fun D y=>h D (by simp[y])]
theorem Kur {α:Type}(d:α)(p:α→Bool):∀ (B:List α),((List.range B.length).filter fun j=>p (B.getD j d)).map (fun j=>B.getD j d)=B.filter p:=fun B=>by
 have h:∀ (l:List Nat),(l.filter fun j=>p (B.getD j d)).map (fun j=>B.getD j d)=(l.map fun j=>B.getD j d).filter p:=fun l=>by
  induction l with
  |nil=>rfl
  |cons x l y=>
   rw[Oe4,List.filter_cons,List.filter_cons];split
   ·rw[Oe4,y]
   exact y
 rw[h];congr 1
 apply Oh4
 ·simp
 intro i E D;simp[D]
structure Kth (cs:Cs) (rs:List (List V)) (n:Nat):Prop where
 len:nR cs=rs.length
 row:∀ i,i<rs.length→Ji cs i=rs.getD i []
 wide:cs.length=n
section
variable {ca cb:Cs} {A B:List (List V)} {c m:Nat}
theorem Kth.at {cs:Cs}{rs:List (List V)}{n:Nat}(h:Kth cs rs n){i:Nat}(hi:i<rs.length)(D:c<n):(cs.getD c []).getD i Jf=(rs.getD i []).getD c Jf:=by
 rw[←h.row i hi];unfold Ji;have y:c<cs.length:=by rw[h.wide];exact D
 rw[Oa0 (l:=cs.map _),Ob1,Oa3 y,Oa0 (l:=cs),Oa3 y];rfl
theorem Kxc (E:Kth ca A m)(H:Kth cb B m)(y:c<m){r:Nat}(hr:r<A.length):jnF (Ksi c) ca cb (nR cb) r=(List.range B.length).filter fun j=>Kr1 c (A.getD r []) (B.getD j []):=by
 obtain⟨u,D⟩:∃ u,u=(A.getD r []).getD c Jf:=⟨_,rfl⟩;have e:∀ j,Kr1 c (A.getD r []) (B.getD j [])=(!decide (u.k=0)&&u.beq ((B.getD j []).getD c Jf)):=fun j=>by rw[D];rfl
 simp only[e];unfold jnF Kv5 Ksi;simp only[Oe4,Oi4,List.any_cons,List.any_nil,Bool.or_false];rw[E.at hr y,H.len,←D];by_cases h0:u.k=0
 ·rw[if_pos (decide_eq_true h0)];symm
  rw[List.filter_eq_nil_iff];intro j _;rw[decide_eq_true h0];simp
 rw[if_neg (by rw[decide_eq_false h0];simp)];refine List.filter_congr fun j K=>?_;have O:j<B.length:=Oj4.1 K;unfold Kss Kv0;simp only[List.all_cons,List.all_nil,Bool.and_true];rw[E.at hr y,←D,show ((c:Int)).toNat=c from rfl,H.at O y,decide_eq_false h0];rfl
theorem Kx9 (O:Kth ca A m)(D:Kth cb B m){k r:Nat}(R:k<2)(hr:r<A.length)(f:List Nat)(hf:∀ j∈f,j<B.length):List.zipWith (fun l r=>Ks1 ca l++Ks1 cb r) (tkL k r f) (tkR k f)=Ks3 k m (A.getD r []) (f.map fun j=>B.getD j []):=by
 have E:Ks1 ca (r:Int)=A.getD r []:=by
  unfold Ks1;rw[if_neg (by omega)];exact O.row r hr
 have H:∀ j∈f,Ks1 cb (j:Int)=B.getD j []:=fun j y=>by
  unfold Ks1;rw[if_neg (by omega)];exact D.row j (hf j y)
 have K:List.zipWith (fun l r=>Ks1 ca l++Ks1 cb r) (f.map fun _=>(r:Int)) (f.map fun (x:Nat)=>(x:Int))=(f.map fun j=>B.getD j []).map fun b=>A.getD r []++b:=by
  rw[List.zipWith_map_left,List.zipWith_map_right,Oi6];clear hf;induction f with
  |nil=>rfl
  |cons x f U=>
   rw[List.zipWith_cons_cons,Oe4,U fun j y=>H j (by simp[y])];rw[E,H x (by simp)];rfl
 match k,R with
 |0,_=>exact K
 |1,_=>
  show List.zipWith _ (if f=[]then [(r:Int)]else f.map fun _=>(r:Int)) (if f=[]then [-1]else f.map fun (x:Nat)=>(x:Int))=if (f.map fun j=>B.getD j [])=[]then [A.getD r []++List.replicate m Jf]else (f.map fun j=>B.getD j []).map fun b=>A.getD r []++b
  by_cases h:f=[]
  ·subst h;rw[if_pos rfl,if_pos rfl,Oi4,if_pos rfl];show [Ks1 ca (r:Int)++Ks1 cb (-1)]=_;rw[E];unfold Ks1;rw[if_pos rfl,D.wide]
  rw[if_neg h,if_neg h,if_neg (by rw[List.map_eq_nil_iff];exact h)];exact K
theorem Kw4 (D:Kth ca A m){k r:Nat}(E:¬ k<2)(hr:r<A.length)(f:List Nat):(tkL k r f).map (Ks1 ca)=Ks3 k m (A.getD r []) (f.map fun j=>B.getD j []):=by
 have y:Ks1 ca (r:Int)=A.getD r []:=by
  unfold Ks1;rw[if_neg (by omega)];exact D.row r hr
 match k,E with
 |2,_=>
  show (if f=[]then []else [(r:Int)]).map (Ks1 ca)=if (f.map fun j=>B.getD j [])=[]then []else [A.getD r []]
  by_cases h:f=[]
  ·subst h;rfl
  rw[if_neg h,if_neg (by rw[List.map_eq_nil_iff];exact h),←y];rfl
 |k+3,_=>
  show (if f=[]then [(r:Int)]else []).map (Ks1 ca)=if (f.map fun j=>B.getD j [])=[]then [A.getD r []]else []
  by_cases h:f=[]
  ·subst h;rw[if_pos rfl,Oi4,if_pos rfl,←y];rfl
  rw[if_neg h,if_neg (by rw[List.map_eq_nil_iff];exact h)];rfl
theorem Kus (g:List V→List (List V)):∀ (A:List (List V)),(List.range A.length).flatMap (fun r=>g (A.getD r []))=A.flatMap g:=fun A=>by
 have:A.flatMap g=((List.range A.length).map fun r=>A.getD r []).flatMap g:=by
  congr 1
  apply Oh4
  ·simp
  intro i y D;simp[y]
 rw[this,List.flatMap_map]
theorem Kst {α β:Type}{f g:α→List β}:∀ {l:List α},(∀ x∈l,f x=g x)→l.flatMap f=l.flatMap g
 |[],_=>rfl
 |x::l,h=>by rw[Og7,Og7,h x (by simp),Kst fun D y=>h D (by simp[y])]
theorem Kxf (y:Kth ca A m)(E:Kth cb B m)(K:c<m)(X:1≤m){k:Nat}:nR (Kr4 k (Ksi c) ca cb (nR ca) (nR cb))=(Kry k c m A B).length∧Qf (nR (Kr4 k (Ksi c) ca cb (nR ca) (nR cb))) (Kr4 k (Ksi c) ca cb (nR ca) (nR cb))=Kry k c m A B∧(jnL k (Ksi c) ca cb (nR ca) (nR cb)).length=(Kry k c m A B).length:=by
 have R:1≤(Kr4 k (Ksi c) ca cb (nR ca) (nR cb)).length:=by rw[Kuk,y.wide];split<;>omega
 have hn:nR (Kr4 k (Ksi c) ca cb (nR ca) (nR cb))=(jnL k (Ksi c) ca cb (nR ca) (nR cb)).length:=Kua R;have U:Kry k c m A B=(List.range A.length).flatMap fun r=>Ks3 k m (A.getD r []) ((jnF (Ksi c) ca cb (nR cb) r).map fun j=>B.getD j []):=by
  unfold Kry;rw[←Kus (fun a=>Ks3 k m a (B.filter (Kr1 c a)))];refine Kst fun r hr=>?_;rw[Kxc y E K (Oj4.1 hr),Kur]
 have H:Qf (nR (Kr4 k (Ksi c) ca cb (nR ca) (nR cb))) (Kr4 k (Ksi c) ca cb (nR ca) (nR cb))=Kry k c m A B:=by
  rw[hn,U];unfold Kr4;by_cases D:k<2
  ·rw[if_pos D,Kxr _ _ (Kvn D)];unfold jnL jnR;rw[Kva _ _ _ _ (fun x _=>Kv3 _ _ D _),y.len];refine Kst fun r hr=>?_;exact Kx9 y E D (Oj4.1 hr) _ fun j O=>by rw[←E.len];exact Kxj O
  rw[if_neg D,Kww];unfold jnL;rw[List.map_flatMap,y.len];refine Kst fun r hr=>?_;exact Kw4 y D (Oj4.1 hr) _
 exact⟨by rw[←H,Uu],H,by rw[←H,Uu,hn]⟩
theorem Kxh {k:Nat}(E:∀ a∈A,a.length=m)(H:∀ b∈B,b.length=m):∀ r∈Kry k c m A B,r.length≤m+m:=fun r hr=>by
 unfold Kry at hr;obtain⟨a,K,hr⟩:=Op5.1 hr;have y:=E a K;have D:∀ x∈(B.filter (Kr1 c a)).map (fun b=>a++b),x.length≤m+m:=fun x R=>by
  obtain⟨b,O,rfl⟩:=Of0.1 R;rw[Oa8,y,H b (Om0.1 O).1];exact Oa2 _
 unfold Ks3 at hr;split at hr
 ·exact D r hr
 ·split at hr
  ·rw[Oc6]at hr;rw[hr,Oa8,Od6,y];exact Oa2 _
  exact D r hr
 ·split at hr
  ·cases hr
  rw[Oc6]at hr;rw[hr];omega
 split at hr
 ·rw[Oc6]at hr;rw[hr];omega
 cases hr
theorem Kta {k:Nat}(E:A.length≤30)(H:B.length≤30):(Kry k c m A B).length≤900:=by
 have y:∀ a:List V,(Ks3 k m a (B.filter (Kr1 c a))).length≤30:=fun a=>by
  have hf:=Ok1 (Kr1 c a) B;unfold Ks3;split
  ·rw[Oa6];omega
  ·split
   ·simp
   rw[Oa6];omega
  ·split<;>simp
  split<;>simp
 have D:∀ l:List (List V),(l.flatMap fun a=>Ks3 k m a (B.filter (Kr1 c a))).length≤30*l.length:=fun l=>by
  induction l with
  |nil=>simp
  |cons a l K=>
   rw[Og7,Oa8,List.length_cons];have:=y a;omega
 have:=D A;unfold Kry;omega
end
end
section
open Go.RowKit Go.Shelf Tryz
theorem Ks7 {w:World}{E:Array Oper}{rest:List Oper}{o:Oper}{a:Act}{Q:Exit→Act→World→Prop}(X:o.guard=none)(s x:Operand)
  (Y:o.op=.call {callee:=.builtin .append,args:=#[s,x],argTypes:=#[41,41]})
  (B:Nat) (sv:Value) (y:List V) (hs:a.eval s=sv) (Z:Yt w B sv y)
  (g p c:Nat) (vs:List V) (bf:a.eval x=.slice (some ⟨g,p,none⟩) vs.length c) (bc:∀ i v,vs[i]?=some v→VAt w g (p+i*3) v) (bi:y.length+vs.length≤1000000) (R:B≤w.heap.size)
  (h:∀ sv' w',Yt w' B sv' (y++vs)→w.grownBy w' sv.ownBlock→(sv'.ownBlock=sv.ownBlock∨sv'.ownBlock=some w.heap.size)→wpList prog E Q rest (a.put o.dst sv') w') :
  wpList prog E Q (o::rest) a w:=by
 obtain⟨i,hi,bh,ba,U⟩:=info_parts Jow;refine wpList_append_own_at w X s x 41 Y B 39 i _ 3 32 (by kernel_rfl) hi bh ba U rfl (by decide) sv y.length (y.flatMap V.cells) hs Z ⟨g,p,none⟩ vs.length c (vs.flatMap V.cells) bf (Ja5 vs) (Kem bc) ?_ (by unfold maxLen;omega) (by omega) R ?_
 ·intro u D;obtain⟨v,_,D⟩:=Op5.1 D;simp[V.cells]at D;rcases D with rfl|rfl|rfl<;>rfl
 intro v' w' H K _ O;refine h v' w' ?_ K O;unfold Yt;simpa using H
theorem Ktw (a b:Option Addr)(Z ba:Nat)(xs y:List V)(w:World)(U:Jv w a xs)(X:Jv w b y)(bc:1≤xs.length)(bf:1≤y.length)(hl:xs.length+y.length≤1000) :
  Calls prog 9 #[.slice a xs.length Z,.slice b y.length ba] w fun e w'=>Below w.heap.size w w'∧∃ g o c,e=.returned (.slice (some ⟨g,o,none⟩) (xs++y).length c)∧w.heap.size≤g∧g<w'.heap.size∧Jv w' (some ⟨g,o,none⟩) (xs++y):=by
 rcases U with U|⟨g1,bx,rfl,bi,bn⟩
 ·rw[U]at bc;simp at bc
 rcases X with X|⟨g2,Y,rfl,bj,br⟩
 ·rw[X]at bf;simp at bf
 have K:Hid ((∀ i v,xs[i]?=some v→VAt w g1 (bx+i*3) v)∧(∀ i v,y[i]?=some v→VAt w g2 (Y+i*3) v)∧g1<w.heap.size∧g2<w.heap.size):=⟨bn,br,bi,bj⟩;clear bn br bi bj;go_enter func9,ntmps9
 go_upto_region 3 with(at_builtin;go_must (refine Ks7 (by rfl) _ _ (by rfl) w.heap.size _ [] (by rfl) (Yt.nil _ _) g1 bx Z xs (by rfl) K.out.1 (by simp;omega) (Oa2 _) ?_);intro sv w1 D H bz)
 have O:Below w.heap.size w w1:=Jy (Oa5 _ _) H fun k R=>by simp[Value.ownBlock]at R
 rw[List.nil_append]at D;have E:Hid (Yt w1 w.heap.size sv xs∧Below w.heap.size w w1∧∀ i v,y[i]?=some v→VAt w1 g2 (Y+i*3) v):=⟨D,O,fun i v hi=>(K.out.2.1 i v hi).of_block (O.block g2 K.out.2.2.2)⟩;clear D H bz O;go_wp2_with (at_builtin;go_must (refine Ks7 (by rfl) _ _ (by rfl) w.heap.size _ xs (by rfl) E.out.1 g2 Y ba y (by rfl) E.out.2.2 (by omega) E.out.2.1.size ?_);intro bG bH D H bz)
 go_ret
 have bA:=Jy E.out.2.1 H fun k R=>(Je E.out.1 R).1;obtain⟨bE,c3,rfl,bD⟩:=D.vals;rcases bD with h0|⟨g,o,rfl,bh,bC⟩
 ·have bB:=congrArg List.length h0;rw[Oa8,List.length_nil]at bB;omega
 exact⟨bA,g,o,c3,rfl,(Je D rfl).1,bh,.inr ⟨g,o,rfl,bh,bC⟩⟩
def upd {α:Type}(f:Nat→α)(k:Nat)(v:α)(j:Nat):α:=if j=k then v else f j
theorem Ksa {α:Type}(f:Nat→α)(k:Nat)(v:α):upd f k v k=v:=if_pos rfl
theorem Ksn {α:Type}(f:Nat→α){k j:Nat}(v:α)(h:j≠k):upd f k v j=f j:=if_neg h
structure Wt (wk:World) (wb:Nat) (vs:Nat→Value) (xs:Nat→List (Option Addr×Nat)) (rows:Nat→List (List V)) (W:World):Prop where
 cells:W.heap[wb]?=some (.cells #[vs 0,vs 1,vs 2,vs 3] 37 (0,0))
 own:∀ k,k<4→Jo W (wb+1) 41 (vs k) (List.zipWith Je1 (xs k) (rows k))
 len:∀ k,k<4→(xs k).length=(rows k).length
 vals:∀ k,k<4→∀ (i:Nat) x r,(xs k)[i]?=some x→(rows k)[i]?=some r→Jv W x.1 r∧∀ b o,x.1=some ⟨b,o,none⟩→b<W.heap.size∧b≠wb∧∀ k',k'<4→(vs k').ownBlock≠some b
 apart:∀ k k',k<4→k'<4→k≠k'→∀ g,(vs k).ownBlock=some g→(vs k').ownBlock≠some g
 low:Below wk.heap.size wk W
 at_:wk.heap.size≤wb
section
variable {wk:World} {wb:Nat} {vs:Nat→Value} {xs:Nat→List (Option Addr×Nat)} {rows:Nat→List (List V)} {W Y:World}
theorem Wt.below (h:Wt wk wb vs xs rows W)(y:Below W.heap.size W Y):Wt wk wb vs xs rows Y:=
 ⟨(y.block wb (Jd h.cells)).trans h.cells,fun k D=>Jaw (h.own k D) y,h.len,fun k D i x r E hr=>⟨(h.vals k D i x r E hr).1.below y,fun b o e=>⟨Oc2 ((h.vals k D i x r E hr).2 b o e).1 y.size,((h.vals k D i x r E hr).2 b o e).2⟩⟩,h.apart,Jb h.low y,h.at_⟩
theorem Wt.eq {D:Nat→List (List V)}(h:Wt wk wb vs xs rows W)(e:∀ k,k<4→rows k=D k):Wt wk wb vs xs D W:=
 ⟨h.cells,fun k y=>by rw[←e k y];exact h.own k y,fun k y=>by rw[←e k y];exact h.len k y,fun k y=>by rw[←e k y];exact h.vals k y,h.apart,h.low,h.at_⟩
theorem Wt.cell (h:Wt wk wb vs xs rows W){k:Nat}(y:k<4):W.cell? ⟨wb,k,none⟩=some (vs k)∧W.frozen? ⟨wb,k,none⟩=false:=by
 refine⟨?_,Lib.frozen_of_heap h.cells k⟩;rcases(show k=0∨k=1∨k=2∨k=3 by omega)with rfl|rfl|rfl|rfl<;>simp[World.cell?,h.cells]
theorem Wt.push (h:Wt wk wb vs xs rows Y){k:Nat}(bj:k<4)(x:Option Addr×Nat)(r:List V)(bO:Jv Y x.1 r)(bR:∀ b o,x.1=some ⟨b,o,none⟩→b<Y.heap.size∧b≠wb∧∀ D,D<4→(vs D).ownBlock≠some b)(o:Obj){sv:Value}{w4:World}
  (bI:Jo w4 (wb+1) 41 sv (List.zipWith Je1 (xs k) (rows k)++[Je1 x r])) (bB:(Y.alloc o).grownBy w4 (vs k).ownBlock) (bS:sv.ownBlock=(vs k).ownBlock∨sv.ownBlock=some (Y.alloc o).heap.size) :
  Wt wk wb (upd vs k sv) (upd xs k (xs k++[x])) (upd rows k (rows k++[r])) (w4.setCell ⟨wb,k,none⟩ sv):=by
 have bn:=Jc (Oa5 _ Y) o;have bH:Y.heap.size≤w4.heap.size:=Ob2 bn.size bB.size;have bP:wb<Y.heap.size:=Jd h.cells;have bc:∀ j,j<4→∀ g,(vs j).ownBlock=some g→wb+1≤g∧g<Y.heap.size:=fun j y g e=>Je (h.own j y) e;have br:∀ g,sv.ownBlock=some g→g=(Y.alloc o).heap.size∨(vs k).ownBlock=some g:=fun g e=>by
  rcases bS with q|q
  ·exact .inr (q▸e)
  rw[q]at e;cases e;exact .inl rfl
 have bT:(Y.alloc o).heap.size=Y.heap.size+1:=Oa7 Y o;have bz:∀ b,b<Y.heap.size→(vs k).ownBlock≠some b→w4.heap[b]?=Y.heap[b]?:=fun b bh Z=>(bB.block b (by omega) (Oc5 Z)).trans (bn.block b bh);have bA:∀ b,b≠wb→(w4.setCell ⟨wb,k,none⟩ sv).heap[b]?=w4.heap[b]?:=fun b bh=>Oa4 _ _ _ _ bh;have bQ:(vs k).ownBlock≠some wb:=fun e=>by have:=bc k bj wb e;omega
 have bK:w4.heap[wb]?=some (.cells #[vs 0,vs 1,vs 2,vs 3] 37 (0,0)):=(bz wb bP bQ).trans h.cells;have bG:(w4.setCell ⟨wb,k,none⟩ sv).heap.size=w4.heap.size:=by simp[World.setCell]
 have bN:∀ b,b<Y.heap.size→(∀ D,D<4→(vs D).ownBlock≠some b)→∀ D,D<4→(upd vs k sv D).ownBlock≠some b:=fun b bh hn D bE e=>by
  by_cases bD:D=k
  ·subst bD;rw[Ksa]at e;rcases br b e with H|H
   ·omega
   exact hn D bE H
  rw[Ksn _ _ bD]at e;exact hn D bE e
 refine⟨?_,fun j y=>?_,fun j y=>?_,fun j y i O U K R=>?_,fun j bf y bi Z g e=>?_,?_,h.at_⟩
 ·have:=Jk bK k sv;rw[this];rcases(show k=0∨k=1∨k=2∨k=3 by omega)with rfl|rfl|rfl|rfl<;>simp[upd]
 ·by_cases E:j=k
  ·subst E;rw[Ksa,Ksa,Ksa,Kb7 _ _ _ _ (h.len j y)];exact Jl bI fun g e=>bA g (fun H=>by subst H;have:=(Je bI e).1;omega)
  rw[Ksn _ _ E,Ksn _ _ E,Ksn _ _ E];refine Jl (h.own j y) fun g e=>?_;obtain⟨g1,g2⟩:=bc j y g e;exact(bA g (by omega)).trans (bz g g2 fun H=>h.apart j k y bj E g e H)
 ·by_cases E:j=k
  ·subst E;rw[Ksa,Ksa,Oa8,Oa8,h.len j y];rfl
  rw[Ksn _ _ E,Ksn _ _ E];exact h.len j y
 ·have bx:∀ {O:Option Addr×Nat} {U:List V},Jv Y O.1 U→(∀ b o,O.1=some ⟨b,o,none⟩→b<Y.heap.size∧b≠wb∧∀ D,D<4→(vs D).ownBlock≠some b)→Jv (w4.setCell ⟨wb,k,none⟩ sv) O.1 U∧∀ b o,O.1=some ⟨b,o,none⟩→b<(w4.setCell ⟨wb,k,none⟩ sv).heap.size∧b≠wb∧∀ D,D<4→(upd vs k sv D).ownBlock≠some b:=fun {O U} bJ X=>
   ⟨bJ.of_block (by rw[bG];exact bH) fun b o e bM=>(bA b (X b o e).2.1).trans (bz b bM ((X b o e).2.2 k bj)),fun b o e=>⟨by rw[bG];exact Oc2 (X b o e).1 bH,(X b o e).2.1,bN b (X b o e).1 (X b o e).2.2⟩⟩
  by_cases E:j=k
  ·subst E;rw[Ksa]at K R;by_cases hi:i<(xs j).length
   ·rw[Ob0 hi]at K;rw[Ob0 (by rw[←h.len j y];exact hi)]at R;exact bx (h.vals j y i O U K R).1 (h.vals j y i O U K R).2
   have bL:i=(xs j).length:=by
    have:=(Ob9.1 K).1;rw[Oa8]at this;have:i<(xs j).length+1:=this;omega
   subst bL;rw[Ob6 (Oa2 _),Oe1]at K;rw[h.len j y,Ob6 (Oa2 _),Oe1]at R;cases K
   cases R
   exact bx bO bR
  rw[Ksn _ _ E]at K R;exact bx (h.vals j y i O U K R).1 (h.vals j y i O U K R).2
 ·intro H;by_cases E:j=k
  ·subst E;rw[Ksa]at e;rw[Ksn _ _ (Oc5 Z)]at H;rcases br g e with ba|ba
   ·have:=bc bf bi g H;omega
   exact h.apart j bf y bi Z g ba H
  rw[Ksn _ _ E]at e;by_cases bC:bf=k
  ·subst bC;rw[Ksa]at H;rcases br g H with ba|ba
   ·have:=bc j y g e;omega
   exact h.apart j bf y bi Z g e ba
  rw[Ksn _ _ bC]at H;exact h.apart j bf y bi Z g e H
 exact(Jy (Jb h.low bn) bB fun g e=>by have:=(bc k bj g e).1;have:=h.at_;omega).setCell (p:=⟨wb,k,none⟩) h.at_ _
def Kwf (l:List (List V)):Bool:=!l.isEmpty
def Far (vs:Nat→Value)(b:Nat):Prop:=∀ k,k<4→(vs k).ownBlock≠some b
theorem Wt.start {wk W:World}{y:Nat}(E:W.heap[y]?=some (.cells #[.slice none 0 0,.slice none 0 0,.slice none 0 0,.slice none 0 0] 37 (0,0)))(hl:Below wk.heap.size wk W)(D:wk.heap.size≤y):Wt wk y (fun _=>.slice none 0 0) (fun _=>[]) (fun _=>[]) W:=
 ⟨E,fun _ _=>Jo.nil _ _ _,fun _ _=>rfl,fun _ _ i x r H=>by simp at H,fun _ _ _ _ _ g e=>by simp[Value.ownBlock]at e,hl,D⟩
theorem Wt.far (h:Wt wk wb vs xs rows W){b:Nat}(H:b<wk.heap.size∨W.heap.size≤b):b≠wb∧Far vs b:=by
 have D:=h.at_;have E:=Jd h.cells;exact⟨by omega,fun k y e=>by have:=Je (h.own k y) e;omega⟩
theorem Wt.append {bJ:Array Oper}{op:Oper}{a:Act}{O:Act→World→Prop}{Q:Exit→Act→World→Prop}{ba:Prop}(bi:op.guard=none)(s x:Operand)(bx:op.op=.call {callee:=.builtin .append,args:=#[s,x],argTypes:=#[23,23]})(h:Wt wk wb vs xs rows Y){k:Nat}(K:k<4)(bL:(rows k).length≤10000)(y:Option Addr×Nat)(r:List V)(bB:Jv Y y.1 r)(bC:∀ b o,y.1=some ⟨b,o,none⟩→b<Y.heap.size∧b≠wb∧∀ D,D<4→(vs D).ownBlock≠some b)
  (hs:a.eval s=vs k) (bD:a.eval x=.slice (some ⟨Y.heap.size,0,none⟩) 1 1)
  (bf:∀ sv w4,(∃ a n c,sv=.slice a n c)→Wt wk wb (upd vs k sv) (upd xs k (xs k++[y])) (upd rows k (rows k++[r])) (w4.setCell ⟨wb,k,none⟩ sv)→(∀ b,b<Y.heap.size→(vs k).ownBlock≠some b→w4.heap[b]?=Y.heap[b]?)→(∀ b,b<Y.heap.size→Far vs b→Far (upd vs k sv) b)→O (a.put op.dst sv) w4) :
  if Region.wanted op (yielded bJ a.tmps)=true then Oper.wp prog op a (Y.alloc (.cells #[Je1 y r] 41)) O Q else ba:=by
 obtain⟨bI,bj,bE,bG,bH⟩:=info_parts Jip;have hl:(List.zipWith Je1 (xs k) (rows k)).length=(rows k).length:=Jhl _ _ (h.len k K);have bA:(Y.alloc (.cells #[Je1 y r] 41)).ownsRow (wb+1) 41 1 (vs k) (List.zipWith Je1 (xs k) (rows k)).length (List.zipWith Je1 (xs k) (rows k)):=Jbm (h.own k K) _;have bn:=heap_alloc_new Y (.cells #[Je1 y r] 41);have bh:=Jc (Oa5 _ Y) (.cells #[Je1 y r] 41);refine step_append_lies (Y.alloc (.cells #[Je1 y r] 41)) bi s x 23 bx (wb+1) 41 bI (.slice none 0 0) 1 24 (by kernel_rfl) bj bE bG bH rfl (by decide) (vs k) _ _ hs bA ⟨Y.heap.size,0,none⟩ 1 1 [Je1 y r] bD rfl (fun j u H=>World.news_of_block (w:=Y.alloc (.cells #[Je1 y r] 41)) bn j u (by simpa using H)) (fun u H=>by rw[Oc6]at H;subst H;rfl) (by decide) (by unfold maxLen;omega) (by omega) (by rw[Oa7];have:=Jd h.cells;omega) (Y.heap.size+1) (Oa7 _ _) (fun g cap w' bc U E bK=>?_);have bz:Jo w' (wb+1) 41 (.slice (some ⟨g,0,none⟩) ((List.zipWith Je1 (xs k) (rows k)).length+1) cap) (List.zipWith Je1 (xs k) (rows k)++[Je1 y r]):=by
  show World.ownsRow _ _ _ _ _ _ _;rw[Oa8];exact bc
 exact bf _ w' ⟨_,_,_,rfl⟩ (h.push K y r bB bC _ bz U (E.imp (fun e=>e.symm) fun e=>by rw[Oa7,e];rfl)) (fun b X br=>(U.block b (by rw[Oa7];omega) (Oc5 br)).trans (bh.block b X)) fun b X hn D Z e=>by
  by_cases R:D=k
  ·subst R;rw[Ksa]at e;rcases E with E|E
   ·exact hn D Z (E.trans e)
   have e:some g=some b:=e;cases e
   omega
  rw[Ksn _ _ R]at e;exact hn D Z e
theorem Wt.rowsAt (h:Wt wk wb vs xs rows W){k:Nat}(y:k<4):∃ a cap,vs k=.slice a (rows k).length cap∧Zd W a (xs k) (rows k):=by
 obtain⟨a,c,e,D⟩:=(h.own k y).cells;rw[Oj8,h.len k y,Nat.min_self]at e;exact⟨a,c,e,h.len k y,D,fun i x r E hr=>(h.vals k y i x r E hr).1⟩
end
end
section
open Go.RowKit Go.Shelf
end
section
open Go.RowKit Go.Shelf Tryz
abbrev Ku5 (kb k:Nat):Nd:=⟨3,0,1,⟨#[]⟩,(none,0,0),(some ⟨kb,0,none⟩,1,1),(k:Nat)⟩
abbrev Kvt (kb k:Nat):List Nd:=[⟨0,0,0,Kr5,(none,0,0),(none,0,0),0⟩,⟨0,0,0,Kr6,(none,0,0),(none,0,0),0⟩,Ku5 kb k]
theorem InT.rowsC {y:DS}{Ts:List TS}{name:ByteArray}{ts:List Int}{rs:List (List V)}{cs:Cs}(h:InT y Ts name ts rs cs):Kth cs rs ts.length:=⟨h.len,h.row,h.good.len⟩
theorem Kyc (M:Nat→Prop)(st:Nat)(E:DS)(Ts:List TS)(R U:Cs)(ts:List Int)(A B:List (List V))(w:World)(hs:Sto M w st E Ts)(bP:∀ T∈Ts,Jid E T)(bD:∀ T∈Ts,∀ cs,Zo E T=.inl cs→Zt T.types cs)(K:InT E Ts Kr5 ts A R)(O:InT E Ts Kr6 ts B U)(bM:A.length≤30)(bN:B.length≤30)(bc bf bh bz q wr pg br ex bx:Addr)(bC:Jax w bc bf bh bz q wr pg br ex bx)(c k:Nat)(bj:c<ts.length)(bI:k<4)(bB:ts.length≤6)
  (Z kb:Nat) (bO:w.heap[Z]?=some (.cells ((Kvt kb k).flatMap ndC).toArray 51 (0,0))) (bJ:w.heap[kb]?=some (.cells ((Ksi c).flatMap kyC).toArray 54 (0,0)))
  (z:Nat) (bu bl sd:Int) (bR:1≤z) (bS:z≤1000) (bG:2≤bu) (bH:bu≤1000) (bK:0≤bl) (bL:bl≤4096) (bQ:Jg sd) :
  Calls prog 10 #[.pointer (some ⟨st,0,none⟩),.agg #[.slice (some ⟨Z,0,none⟩) 3 3],.agg #[.int .i64 z,.int .i64 bu,.int .i64 bl,.int .i64 sd]] w fun e w'=>Below w.heap.size w w'∧∃ g bs,e=.returned (.tuple #[.slice (some ⟨g,0,none⟩) (Kry k c ts.length A B).length (Kry k c ts.length A B).length,Ko 0 (-1) (-1) (-1) (-1)])∧Jcu w' w.heap.size g bs (Kry k c ts.length A B):=by
 obtain⟨bT,bU,ba⟩:=Kvm (tab:=Ye E Ts) (c:=c) (k:=k) K.tab O.tab;obtain⟨g1,g2,bA⟩:=Kxf (k:=k) K.rowsC O.rowsC bj (by omega);have bY:=Kta (k:=k) (c:=c) (m:=ts.length) bM bN;refine(Kvh M st E Ts w hs bP bD bc bf bh bz q wr pg br ex bx bC (Ksf c k) _ (Kvu K.tys O.tys bj bI bB) (fun n hn h0=>?_) (fun _=>by rw[ba,g1];omega) (fun n hn h0=>?_) (fun j n y D=>?_) (fun j n y bi _=>?_) Z 0 3 (Kvt kb k) rfl (Jfm bO) (fun j n nd y H=>?_) z bu bl sd bR bS bG bH bK bL bQ (fun bV bZ bX j v W X=>?_)).mono fun e w' hp=>?_
 ·simp only[Ksf,Of1,Oi0,or_false]at hn;rcases hn with rfl|rfl|rfl
  ·exact K.find
  ·exact O.find
  cases h0
 ·simp only[Ksf,Of1,Oi0,or_false]at hn;rcases hn with rfl|rfl|rfl
  ·exact absurd rfl h0
  ·exact absurd rfl h0
  exact Kwr
 ·match j,y with
  |0,y=>cases y;cases D
  |1,y=>cases y;cases D
  |2,y=>cases y;cases D
 ·match j,y with
  |0,y=>cases y;cases bi
  |1,y=>cases y;cases bi
  |2,y=>
   cases y
   unfold jnN;rw[bT,bU];show (jnL (k:Int).toNat (Ksi c) R U (nR R) (nR U)).length≤2000;rw[show (k:Int).toNat=k from rfl,bA];omega
 ·match j,y,H with
  |0,y,H=>cases y;cases H;exact⟨rfl,rfl,rfl,fun h=>absurd h (by decide),fun h=>absurd h (by decide),rfl,rfl⟩
  |1,y,H=>cases y;cases H;exact⟨rfl,rfl,rfl,fun h=>absurd h (by decide),fun h=>absurd h (by decide),rfl,rfl⟩
  |2,y,H=>cases y;cases H;exact⟨rfl,rfl,rfl,fun h=>absurd h (by show ¬ (3=1∨3=2);omega),fun _=>⟨kb,0,1,rfl,fun j ca y=>by
    match j,y with
    |0,y=>cases y;refine⟨?_,?_,?_,?_⟩<;>simp[World.cell?,bJ,Ksi,kyC]⟩,rfl,rfl⟩
 ·obtain⟨_,n,hn,Y⟩:=X;match j,hn with
  |0,hn=>
   cases hn
   rcases Y with⟨_,p,b,hp,_⟩|⟨h0,_⟩|⟨D,_⟩
   ·rw[K.tab]at hp;cases hp
   ·exact h0 rfl
   cases D
  |1,hn=>
   cases hn
   rcases Y with⟨_,p,b,hp,_⟩|⟨h0,_⟩|⟨D,_⟩
   ·rw[O.tab]at hp;cases hp
   ·exact h0 rfl
   cases D
  |2,hn=>
   cases hn
   rcases Y with⟨h0,_⟩|⟨_,bW,kk,r,_,_,X,_⟩|⟨D,_⟩
   ·cases h0
   ·exact X rfl
   cases D
 obtain⟨bE,_,g,bs,rfl,bn⟩:=hp;rw[ba,g2]at bn;rw[ba,g1];exact⟨bE,g,bs,rfl,bn⟩
structure FqX where
 x156:Value
 x157:Value
 x158:Value
 x159:Value
 x160:Value
 x161:Value
 x162:Value
 x163:Value
 x164:Value
 x165:Value
 x166:Value
 x167:Value
 x168:Value
 x169:Value
 x170:Value
 x171:Value
 x172:Value
 x20:Value
 x21:Value
 g:Nat
 bs:List Nat
 fa:Nat
def Ksg (a:Act)(r:FqX):Act:=((((((((((((((((((a.put (some 156) r.x156).put (some 157) r.x157).put (some 158) r.x158).put (some 159) r.x159).put (some 160) r.x160).put (some 161) r.x161).put (some 162) r.x162).put (some 163) r.x163).put (some 164) r.x164).put (some 165) r.x165).put (some 166) r.x166).put (some 167) r.x167).put (some 168) r.x168).put (some 169) r.x169).put (some 170) r.x170).put (some 171) r.x171).put (some 172) r.x172).put (some 20) r.x20).put (some 21) r.x21
structure FqE where
 st:Nat
 k:Nat
 c:Nat
 oz:Int
 ob:Int
 ol:Int
 os:Int
 rows:List (List V)
def FBK (v:FqE)(w:World)(g:Nat):Prop:=w.heap[g]?=some (.cells ((Ksi v.c).flatMap kyC).toArray 54 (0,0))
def FBN (v:FqE)(w:World)(g:Nat):Prop:=∃ kb,w.heap[g]?=some (.cells ((Kvt kb v.k).flatMap ndC).toArray 51 (0,0))∧FBK v w kb
theorem FBK.grow {v:FqE}{w w':World}{g:Nat}(h:FBK v w g)(y:Below w.heap.size w w'):FBK v w' g:=Jcv h y
theorem FBN.grow {v:FqE}{w w':World}{g:Nat}(h:FBN v w g)(y:Below w.heap.size w w'):FBN v w' g:=by
 obtain⟨kb,D,E⟩:=h;exact⟨kb,Jcv D y,E.grow y⟩
theorem Jcu.keepB {W y:World}{B g:Nat}{bs:List Nat}{rs:List (List V)}(h:Jcu W B g bs rs)(E:y.heap[g]?=W.heap[g]?)(D:∀ b∈bs,y.heap[b]?=W.heap[b]?):Jcu y B g bs rs:=h.of_blocks E D
theorem Jcu.ltB {W:World}{B g:Nat}{bs:List Nat}{rs:List (List V)}(h:Jcu W B g bs rs):g<W.heap.size∧∀ b∈bs,b<W.heap.size:=by
 refine⟨h.outer.lt,fun b y=>?_⟩;obtain⟨i,hi,rfl⟩:=Od5 y;have D:i<rs.length:=by rw[←h.len];exact hi
 exact(h.rows i _ _ (Oa3 hi) (Oa3 D)).lt
def FqF (v:FqE)(y:World)(l:Array Bool)(r:FqX)(w:World):Nat→Prop
 |0=>r.x157=.pointer (some ⟨v.st,0,none⟩)
 |1=>r.x158=Nd.val ⟨0,0,0,Kr5,(none,0,0),(none,0,0),0⟩
 |2=>r.x159=Nd.val ⟨0,0,0,Kr6,(none,0,0),(none,0,0),0⟩
 |3=>r.x160=.int .i64 (v.k:Nat)
 |4=>r.x161=.int .i64 (v.c:Nat)
 |5=>r.x162=.int .i64 (v.c:Nat)
 |6=>r.x163=.agg #[.int .i64 (v.c:Nat),.int .i64 (v.c:Nat),.bool false,.int .i64 0]
 |7=>∃ g,r.x164=.slice (some ⟨g,0,none⟩) 1 1∧(¬ dn l 13→FBK v w g)
 |8=>∃ g,r.x165=Nd.val (Ku5 g v.k)∧(¬ dn l 13→FBK v w g)
 |9=>∃ g,r.x166=.slice (some ⟨g,0,none⟩) 3 3∧(¬ dn l 13→FBN v w g)
 |10=>∃ g,r.x167=.agg #[.slice (some ⟨g,0,none⟩) 3 3]∧(¬ dn l 13→FBN v w g)
 |11=>r.x168=.agg #[.int .i64 v.oz,.int .i64 v.ob,.int .i64 v.ol,.int .i64 v.os]
 |12=>∃ (z:Nat) (bu bl:Int),r.x169=.agg #[.int .i64 z,.int .i64 bu,.int .i64 bl,.int .i64 v.os]∧1≤z∧z≤1000∧2≤bu∧bu≤1000∧0≤bl∧bl≤4096
 |13=>r.x170=.tuple #[.slice (some ⟨r.g,0,none⟩) v.rows.length v.rows.length,Ko 0 (-1) (-1) (-1) (-1)]∧Jcu w y.heap.size r.g r.bs v.rows
 |14=>dn l 13∧r.x156=.tuple #[.slice (some ⟨r.g,0,none⟩) v.rows.length v.rows.length,Ko 0 (-1) (-1) (-1) (-1)]
 |15=>dn l 13∧r.x171=.slice (some ⟨r.g,0,none⟩) v.rows.length v.rows.length
 |16=>dn l 13∧r.x172=Ko 0 (-1) (-1) (-1) (-1)
 |17=>r.x21=.pointer (some ⟨r.fa,0,none⟩)∧y.heap.size≤r.fa∧r.fa<w.heap.size∧(¬ dn l 19→w.heap[r.fa]?=some (.cells #[.int .i64 0,.int .i64 0,.int .i64 0,.int .i64 0,.int .i64 0] 45 (0,0)))∧(dn l 13→r.fa≠r.g∧r.fa∉r.bs)
 |18=>dn l 13∧r.x20=.slice (some ⟨r.g,0,none⟩) v.rows.length v.rows.length
 |19=>dn l 13∧dn l 17∧w.heap[r.fa]?=some (.cells #[.int .i64 0,.int .i64 (-1),.int .i64 (-1),.int .i64 (-1),.int .i64 (-1)] 45 (0,0))
 |_=>True
structure FqI (v:FqE) (w0:World) (l:Array Bool) (r:FqX) (w:World):Prop where
 low:Below w0.heap.size w0 w
 facts:∀ k,dn l k→FqF v w0 l r w k
theorem FqF.grow {v:FqE}{K:World}{l:Array Bool}{r:FqX}{w:World}{w':World}(E:Below w.heap.size w w'):∀ k,FqF v K l r w k→FqF v K l r w' k
 |0,h=>h
 |1,h=>h
 |2,h=>h
 |3,h=>h
 |4,h=>h
 |5,h=>h
 |6,h=>h
 |7,⟨g,D,y⟩=>⟨g,D,fun hn=>(y hn).grow E⟩
 |8,⟨g,D,y⟩=>⟨g,D,fun hn=>(y hn).grow E⟩
 |9,⟨g,D,y⟩=>⟨g,D,fun hn=>(y hn).grow E⟩
 |10,⟨g,D,y⟩=>⟨g,D,fun hn=>(y hn).grow E⟩
 |11,h=>h
 |12,h=>h
 |13,⟨D,y⟩=>⟨D,y.keepB (E.block _ y.ltB.1) fun b U=>E.block b (y.ltB.2 b U)⟩
 |14,h=>h
 |15,h=>h
 |16,h=>h
 |17,⟨D,y,H,O,R⟩=>⟨D,y,Oc2 H E.size,fun hn=>Jcv (O hn) E,R⟩
 |18,h=>h
 |19,⟨D,y,H⟩=>⟨D,y,Jcv H E⟩
 |_+20,h=>h
theorem FqI.grow {v:FqE}{D:World}{l:Array Bool}{r:FqX}{w:World}{w':World}(h:FqI v D l r w)(y:Below w.heap.size w w'):FqI v D l r w':=
 ⟨Jb h.low y,fun k E=>FqF.grow y k (h.facts k E)⟩
theorem FqF.mark {v:FqE}{O:World}{l H:Array Bool}{r:FqX}{w:World}(hR:dn H 13↔dn l 13)(hF:dn H 17↔dn l 17)(X:dn H 19↔dn l 19):∀ k,FqF v O l r w k→FqF v O H r w k
 |0,h=>h
 |1,h=>h
 |2,h=>h
 |3,h=>h
 |4,h=>h
 |5,h=>h
 |6,h=>h
 |7,⟨g,y,D⟩=>⟨g,y,fun hn=>D fun E=>hn (hR.2 E)⟩
 |8,⟨g,y,D⟩=>⟨g,y,fun hn=>D fun E=>hn (hR.2 E)⟩
 |9,⟨g,y,D⟩=>⟨g,y,fun hn=>D fun E=>hn (hR.2 E)⟩
 |10,⟨g,y,D⟩=>⟨g,y,fun hn=>D fun E=>hn (hR.2 E)⟩
 |11,h=>h
 |12,h=>h
 |13,h=>h
 |14,⟨y,D⟩=>⟨hR.2 y,D⟩
 |15,⟨y,D⟩=>⟨hR.2 y,D⟩
 |16,⟨y,D⟩=>⟨hR.2 y,D⟩
 |17,⟨y,D,K,R,U⟩=>⟨y,D,K,fun hn=>R fun E=>hn (X.2 E),fun E=>U (hR.1 E)⟩
 |18,⟨y,D⟩=>⟨hR.2 y,D⟩
 |19,⟨y,D,K⟩=>⟨hR.2 y,hF.2 D,K⟩
 |_+20,h=>h
theorem Kw8 {l:Array Bool}{i j:Nat}(h:j≠i):dn (l.setIfInBounds i true) j↔dn l j:=⟨fun y=>Ki y h,fun y=>Kq y⟩
theorem FqI.op {v:FqE}{y:World}{l:Array Bool}{r:FqX}{w:World}(h:FqI v y l r w)(i:Nat)(D:FqX)(hi:13≠i∧17≠i∧19≠i)(hs:∀ k,k≠i→FqF v y l r w k→FqF v y l D w k)(hf:FqF v y (l.setIfInBounds i true) D w i):FqI v y (l.setIfInBounds i true) D w:=by
 refine⟨h.low,fun k E=>?_⟩;by_cases e:k=i
 ·subst e;exact hf
 exact FqF.mark (Kw8 hi.1) (Kw8 hi.2.1) (Kw8 hi.2.2) k (hs k e (h.facts k (Ki E e)))
theorem FqI.opF {v:FqE}{K:World}{l:Array Bool}{r:FqX}{w:World}(h:FqI v K l r w)(hn:l.getD 17 true=false)(u:Value)(fa:Nat)(hf:FqF v K (l.setIfInBounds 17 true) {r with x21:=u,fa:=fa} w 17):FqI v K (l.setIfInBounds 17 true) {r with x21:=u,fa:=fa} w:=by
 refine⟨h.low,fun k U=>?_⟩;by_cases e:k=17
 ·subst e;exact hf
 have O:=Ki U e;have y:=h.facts k O;have X:¬ dn l 17:=Yb hn;have keep:∀ {j},dn l j→dn (l.setIfInBounds 17 true) j:=fun R=>Kq R;match k,e,O,y with
 |0,_,_,y=>exact y
 |1,_,_,y=>exact y
 |2,_,_,y=>exact y
 |3,_,_,y=>exact y
 |4,_,_,y=>exact y
 |5,_,_,y=>exact y
 |6,_,_,y=>exact y
 |7,_,_,⟨g,D,E⟩=>exact⟨g,D,fun hn=>E fun H=>hn (keep H)⟩
 |8,_,_,⟨g,D,E⟩=>exact⟨g,D,fun hn=>E fun H=>hn (keep H)⟩
 |9,_,_,⟨g,D,E⟩=>exact⟨g,D,fun hn=>E fun H=>hn (keep H)⟩
 |10,_,_,⟨g,D,E⟩=>exact⟨g,D,fun hn=>E fun H=>hn (keep H)⟩
 |11,_,_,y=>exact y
 |12,_,_,y=>exact y
 |13,_,_,y=>exact y
 |14,_,_,⟨D,E⟩=>exact⟨keep D,E⟩
 |15,_,_,⟨D,E⟩=>exact⟨keep D,E⟩
 |16,_,_,⟨D,E⟩=>exact⟨keep D,E⟩
 |17,e,_,_=>exact absurd rfl e
 |18,_,_,⟨D,E⟩=>exact⟨keep D,E⟩
 |19,_,_,y=>exact absurd y.2.1 X
 |k+20,_,_,_=>exact trivial
theorem FqI.opR {v:FqE}{R:World}{l:Array Bool}{r:FqX}{w:World}(h:FqI v R l r w)(hn:l.getD 13 true=false)(u:Value)(g:Nat)(bs:List Nat)(U:dn l 17→r.fa≠g∧r.fa∉bs)(hf:FqF v R (l.setIfInBounds 13 true) {r with x170:=u,g:=g,bs:=bs} w 13):FqI v R (l.setIfInBounds 13 true) {r with x170:=u,g:=g,bs:=bs} w:=by
 refine⟨h.low,fun k Y=>?_⟩;by_cases e:k=13
 ·subst e;exact hf
 have O:=Ki Y e;have y:=h.facts k O;have K:¬ dn l 13:=Yb hn;have keep:∀ {j},dn l j→dn (l.setIfInBounds 13 true) j:=fun X=>Kq X;match k,e,O,y with
 |0,_,_,y=>exact y
 |1,_,_,y=>exact y
 |2,_,_,y=>exact y
 |3,_,_,y=>exact y
 |4,_,_,y=>exact y
 |5,_,_,y=>exact y
 |6,_,_,y=>exact y
 |7,_,_,⟨g,E,H⟩=>exact⟨g,E,fun hn=>H fun D=>hn (keep D)⟩
 |8,_,_,⟨g,E,H⟩=>exact⟨g,E,fun hn=>H fun D=>hn (keep D)⟩
 |9,_,_,⟨g,E,H⟩=>exact⟨g,E,fun hn=>H fun D=>hn (keep D)⟩
 |10,_,_,⟨g,E,H⟩=>exact⟨g,E,fun hn=>H fun D=>hn (keep D)⟩
 |11,_,_,y=>exact y
 |12,_,_,y=>exact y
 |13,e,_,_=>exact absurd rfl e
 |14,_,_,y=>exact absurd y.1 K
 |15,_,_,y=>exact absurd y.1 K
 |16,_,_,y=>exact absurd y.1 K
 |17,_,O,y=>exact⟨y.1,y.2.1,y.2.2.1,fun hn=>y.2.2.2.1 fun D=>hn (keep D),fun _=>U O⟩
 |18,_,_,y=>exact absurd y.1 K
 |19,_,_,y=>exact absurd y.1 K
 |k+20,_,_,_=>exact trivial
theorem FqI.opS {v:FqE}{K:World}{l:Array Bool}{r:FqX}{w:World}{w':World}(h:FqI v K l r w)(hn:l.getD 19 true=false)(O:dn l 13)(X:dn l 17)(bi:Below K.heap.size K w')(bz:w'.heap.size=w.heap.size)(bn:w'.heap[r.fa]?=some (.cells #[.int .i64 0,.int .i64 (-1),.int .i64 (-1),.int .i64 (-1),.int .i64 (-1)] 45 (0,0)))(Y:∀ k,k≠r.fa→w'.heap[k]?=w.heap[k]?):FqI v K (l.setIfInBounds 19 true) r w':=by
 have keep:∀ {j},dn l j→dn (l.setIfInBounds 19 true) j:=fun br=>Kq br;have H:∀ {q:Prop},¬ dn (l.setIfInBounds 19 true) 13→q:=fun R=>absurd (keep O) R;obtain⟨_,bA,bB,_,Z⟩:=h.facts 17 X;obtain⟨ba,bc⟩:=Z O;refine⟨bi,fun k bx=>?_⟩;by_cases e:k=19
 ·subst e;exact⟨keep O,keep X,bn⟩
 have R:=Ki bx e;have D:=h.facts k R;match k,e,D with
 |0,_,D=>exact D
 |1,_,D=>exact D
 |2,_,D=>exact D
 |3,_,D=>exact D
 |4,_,D=>exact D
 |5,_,D=>exact D
 |6,_,D=>exact D
 |7,_,⟨g,y,_⟩=>exact⟨g,y,H⟩
 |8,_,⟨g,y,_⟩=>exact⟨g,y,H⟩
 |9,_,⟨g,y,_⟩=>exact⟨g,y,H⟩
 |10,_,⟨g,y,_⟩=>exact⟨g,y,H⟩
 |11,_,D=>exact D
 |12,_,D=>exact D
 |13,_,⟨y,E⟩=>exact⟨y,E.keepB (Y _ (Oc5 ba)) fun b bj=>Y b fun e=>bc (e▸bj)⟩
 |14,_,⟨y,E⟩=>exact⟨keep y,E⟩
 |15,_,⟨y,E⟩=>exact⟨keep y,E⟩
 |16,_,⟨y,E⟩=>exact⟨keep y,E⟩
 |17,_,⟨y,E,bf,_,bh⟩=>exact⟨y,E,by rw[bz];exact bf,fun U=>absurd (Kf5 hn) U,fun U=>bh (Ki U (by omega))⟩
 |18,_,⟨y,E⟩=>exact⟨keep y,E⟩
 |19,e,_=>exact absurd rfl e
 |k+20,_,_=>exact trivial
theorem FqI.f13 {v:FqE}{y:World}{l:Array Bool}{r:FqX}{w:World}(h:FqI v y l r w)(D:dn l 13):r.x170=.tuple #[.slice (some ⟨r.g,0,none⟩) v.rows.length v.rows.length,Ko 0 (-1) (-1) (-1) (-1)]∧Jcu w y.heap.size r.g r.bs v.rows:=h.facts 13 D
theorem FqI.f14 {v:FqE}{D:World}{l:Array Bool}{r:FqX}{w:World}(h:FqI v D l r w)(y:dn l 14):dn l 13∧r.x156=.tuple #[.slice (some ⟨r.g,0,none⟩) v.rows.length v.rows.length,Ko 0 (-1) (-1) (-1) (-1)]:=h.facts 14 y
theorem FqI.f15 {v:FqE}{D:World}{l:Array Bool}{r:FqX}{w:World}(h:FqI v D l r w)(y:dn l 15):dn l 13∧r.x171=.slice (some ⟨r.g,0,none⟩) v.rows.length v.rows.length:=h.facts 15 y
theorem FqI.f16 {v:FqE}{D:World}{l:Array Bool}{r:FqX}{w:World}(h:FqI v D l r w)(y:dn l 16):dn l 13∧r.x172=Ko 0 (-1) (-1) (-1) (-1):=h.facts 16 y
theorem FqI.f17 {v:FqE}{y:World}{l:Array Bool}{r:FqX}{w:World}(h:FqI v y l r w)(D:dn l 17):r.x21=.pointer (some ⟨r.fa,0,none⟩)∧y.heap.size≤r.fa∧r.fa<w.heap.size∧(¬ dn l 19→w.heap[r.fa]?=some (.cells #[.int .i64 0,.int .i64 0,.int .i64 0,.int .i64 0,.int .i64 0] 45 (0,0)))∧(dn l 13→r.fa≠r.g∧r.fa∉r.bs):=h.facts 17 D
theorem FqI.f18 {v:FqE}{D:World}{l:Array Bool}{r:FqX}{w:World}(h:FqI v D l r w)(y:dn l 18):dn l 13∧r.x20=.slice (some ⟨r.g,0,none⟩) v.rows.length v.rows.length:=h.facts 18 y
theorem FqI.f19 {v:FqE}{D:World}{l:Array Bool}{r:FqX}{w:World}(h:FqI v D l r w)(y:dn l 19):dn l 13∧dn l 17∧w.heap[r.fa]?=some (.cells #[.int .i64 0,.int .i64 (-1),.int .i64 (-1),.int .i64 (-1),.int .i64 (-1)] 45 (0,0)):=h.facts 19 y
end
end Go.Proofs.YtpchafocmlhmbaaGreatDoor
