/- The plan of the law Rowwise: what it means, row by row. -/
import Derived.Test.YtjjdldddcegjiaaGreatDoorZh
import Derived.Test.YtjjdldddcegjiaaGreatDoorIv
import Derived.Test.YtjjdldddcegjiaaGreatDoorKq
namespace Go.Proofs.YtjjdldddcegjiaaGreatDoor
open Go.RowKit Go.Shelf
abbrev Zu:ByteArray:=⟨#[116]⟩
abbrev Jf6:List Pt:=[⟨0,0,0,0,Jf⟩]
def Ql (p e:List Pt):List PN:=[⟨0,0,Zu,[]⟩,⟨1,0,⟨#[]⟩,[p]⟩,⟨2,1,⟨#[]⟩,[e,Jf6]⟩]
theorem Jui {tys:ByteArray→List Int}{z:List Int}{p e:List Pt}(h:tys Zu=z)(C:1≤z.length)(K:Uj z p)(M:1≤p.length)(O:p.length≤12)(R:Jbk z p=2)(D:Uj z e)(E:1≤e.length)(H:e.length≤12):Jdk tys [z,z,[e,Jf6].map (Jbk z)] (Ql p e) where
 len:=rfl
 ok:=fun j n y=>by
  match j,y with
  |0,y=>cases y;exact⟨z,rfl,by show 0≤2;omega,fun _=>h.symm,fun h=>absurd h (by show ¬ 0=1;omega),fun h=>absurd h (by show ¬ 0=2;omega)⟩
  |1,y=>cases y;exact⟨z,rfl,by show 1≤2;omega,fun h=>absurd h (by show ¬ 1=0;omega),fun _=>⟨rfl,p,rfl,K,M,O,R⟩,fun h=>absurd h (by show ¬ 1=2;omega)⟩
  |2,y=>
   cases y
   refine⟨_,rfl,by show 2≤2;omega,fun h=>absurd h (by show ¬ 2=0;omega),fun h=>absurd h (by show ¬ 2=1;omega),fun _=>⟨z,rfl,rfl,by simp,by simp,fun x A=>?_⟩⟩
   simp only[Of1,Oi0,or_false]at A
   rcases A with rfl|rfl
   ·exact⟨D,E,H⟩
   exact⟨Kgn z C,by simp,by simp⟩
 ahead:=fun j n y i hi=>by
  match j,y with
  |0,y=>cases y;simp[Jg7]at hi
  |1,y=>cases y;simp[Jg7]at hi;subst hi;exact⟨by omega,rfl⟩
  |2,y=>cases y;simp[Jg7]at hi;subst hi;exact⟨by omega,rfl⟩
 all:=fun i hi=>by
  have:i=0∨i=1:=by simp[Ql]at hi;omega
  rcases this with rfl|rfl
  ·rfl
  rfl
 one:=by simp[Ql]
 few:=by simp[Ql]
def Qy (p:List Pt)(rs:List (List V)):List (List V):=rs.filter fun x=>decide ((pv1 p x).n=1)
def Jcl (e:List Pt)(x:List V):List V:=[pv1 e x,x.getD 0 Jf]
theorem Jtb (x:List V):Kl Jf6 x=.inl (x.getD 0 Jf):=by rfl
theorem Jpl {p:List Pt}{x:List V}{v:V}(h:Kl p x=.inl v):Kr [p] x=0:=by simp only[Kr,h]
theorem Kdg {p:List Pt}{x:List V}{c:Nat}(h:Kl p x=.inr c):Kr [p] x=c:=by simp only[Kr,h]
theorem Jxw {p:List Pt}{x:List V}{v:V}(h:Kl p x=.inl v):Kr [p,Jf6] x=0:=by simp only[Kr,h,Jtb]
theorem Kdr {p:List Pt}{x:List V}{c:Nat}(h:Kl p x=.inr c):Kr [p,Jf6] x=c:=by simp only[Kr,h]
section
variable {tab:ByteArray→Cs⊕Nat} {p e:List Pt} {cs:Cs} {rs:List (List V)}
theorem Jey (h:tab Zu=.inl cs):Jbs ⟨1,0,⟨#[]⟩,[p]⟩ (stN tab (Ql p e) 1)=cs∧Jbs ⟨2,1,⟨#[]⟩,[e,Jf6]⟩ (stN tab (Ql p e) 2)=Jba (Yf p cs (nR cs)) cs∧Jac tab (Ql p e)=Jcb [e,Jf6] (Jba (Yf p cs (nR cs)) cs):=by
 refine⟨?_,?_,?_⟩
 ·simp[stN,Ql,Jb3,Jkq,Jbs,h]
 ·simp[stN,Ql,Jb3,Jkq,Jbs,h]
 simp[Jac,stN,Ql,Jb3,Jkq,Jbs,h]
theorem Jqu (z:nR cs=rs.length)(A:∀ i,i<rs.length→Ji cs i=rs.getD i []):(Yf p cs (nR cs)).map (Ji cs)=Qy p rs:=by
 have C:rs=(List.range (nR cs)).map (Ji cs):=by
  apply Oh4
  ·simp[z]
  intro i y D
  rw[Od9,Oo7,A i y,Oa0,Oa3 y]
  rfl
 unfold Qy Yf
 conv=>rhs;rw[C]
 rw[List.filter_map]
 rfl
theorem Jl7 (y:1≤cs.length)(z:nR cs=rs.length)(A:∀ i,i<rs.length→Ji cs i=rs.getD i []):nR (Jba (Yf p cs (nR cs)) cs)=(Qy p rs).length:=by
 rw[Jr8 _ _ y,←Jqu z A,Oa6]
theorem Jlk (y:nR cs=rs.length)(z:∀ i,i<rs.length→Ji cs i=rs.getD i [])(i:Nat)(hi:i<(Qy p rs).length):Ji (Jba (Yf p cs (nR cs)) cs) i=(Qy p rs)[i]:=by
 have A:i<(Yf p cs (nR cs)).length:=by rw[←Jqu y z,Oa6]at hi;exact hi
 rw[Jot _ _ i A]
 have:=Jqu (p:=p) y z
 simp only[←this,Od9]
theorem Jyk (D:1≤cs.length)(A:nR cs=rs.length)(C:∀ i,i<rs.length→Ji cs i=rs.getD i []):nR (Jcb [e,Jf6] (Jba (Yf p cs (nR cs)) cs))=(Qy p rs).length∧Qf (Qy p rs).length (Jcb [e,Jf6] (Jba (Yf p cs (nR cs)) cs))=(Qy p rs).map (Jcl e):=by
 have hn:=Jl7 (p:=p) D A C
 refine⟨by rw[Jm1 _ _ (by simp),hn],?_⟩
 apply Oh4
 ·rw[Uu,Oa6]
 intro i y E
 rw[Uu]at y
 have z:=Jge (Qy p rs).length (Jcb [e,Jf6] (Jba (Yf p cs (nR cs)) cs)) i y
 rw[Oa3 (by rw[Uu];exact y)]at z
 injection z with z
 rw[z,Jjj _ _ _ (by omega),Jlk A C i y,Od9]
 simp only[Oe4,Oi4,Jcl]
 rw[Jgd (Jtb _)]
theorem Jzi {ns:List PN}(bc:ns=Ql p e)(h:tab Zu=.inl cs)(R:nR cs=rs.length)(A:∀ i,i<rs.length→Ji cs i=rs.getD i []){Y W:World}{l:Value}{c nd row col pg:Int}(hR:Jnv tab ns Y l c nd row col pg W){i:Nat}(hi:i<rs.length){x:Nat}(E:Kl p (rs.getD i [])=.inr x)(hf:∀ k,k<i→∃ v,Kl p (rs.getD k [])=.inl v):l=.slice none 0 0∧c=(x:Int)∧nd=1∧row=(i:Int)∧col=-1∧pg=-1:=by
 subst bc
 obtain⟨H,bh,bi⟩:=Jey (p:=p) (e:=e) h
 have K:¬ Jlw tab ⟨1,0,⟨#[]⟩,[p]⟩ (stN tab (Ql p e) 1):=fun Z=>by
  obtain⟨v,y⟩:=Z.2 (by show ¬ 1=0;omega) i (by rw[H,R];exact hi) p (by simp)
  rw[H,A i hi,E]at y
  cases y
 rcases hR with⟨_,_,_,_,_,D,_⟩|⟨rfl,j,n,rfl,rfl,D,hn,M⟩
 ·exact absurd (D 1 _ (by simp[Ql]) rfl) K
 match j,hn with
 |0,hn=>
  cases hn
  rcases M with⟨_,q,X,_⟩|⟨h0,_⟩
  ·rw[h]at X;cases X
  exact absurd rfl h0
 |1,hn=>
  cases hn
  rcases M with⟨h0,_⟩|⟨_,rfl,r,rfl,C,U,rfl,O⟩
  ·cases h0
  rw[H]at C U O ⊢
  rw[R]at C
  have bf:r=i:=by
   rcases Nat.lt_trichotomy r i with z|z|z
   ·exfalso
    obtain⟨v,y⟩:=hf r z
    apply U
    show Kr [p] _=0
    rw[A r C]
    exact Jpl y
   ·exact z
   exfalso
   obtain⟨v,y⟩:=O i z p (by simp)
   rw[A i hi,E]at y
   cases y
  subst bf
  refine⟨rfl,?_,rfl,rfl,rfl,rfl⟩
  show ((Kr [p] (Ji cs r):Nat):Int)=_
  rw[A r C,Kdg E]
 |2,hn=>exact absurd (D 1 _ (by omega) rfl) K
theorem Kbk {ns:List PN}(bl:ns=Ql p e)(h:tab Zu=.inl cs)(bh:1≤cs.length)(M:nR cs=rs.length)(O:∀ i,i<rs.length→Ji cs i=rs.getD i []){Y W:World}{l:Value}{c nd row col pg:Int}(hR:Jnv tab ns Y l c nd row col pg W)(bi:∀ k,k<rs.length→∃ v,Kl p (rs.getD k [])=.inl v){i:Nat}(hi:i<(Qy p rs).length){x:Nat}(R:Kl e ((Qy p rs).getD i [])=.inr x)(hf:∀ k,k<i→∃ v,Kl e ((Qy p rs).getD k [])=.inl v):l=.slice none 0 0∧c=(x:Int)∧nd=2∧row=(i:Int)∧col=-1∧pg=-1:=by
 subst bl
 obtain⟨br,U,bu⟩:=Jey (p:=p) (e:=e) h
 have hn:=Jl7 (p:=p) bh M O
 have E:∀ k,k<(Qy p rs).length→Ji (Jba (Yf p cs (nR cs)) cs) k=(Qy p rs).getD k []:=fun k Z=>by
  rw[Jlk M O k Z,Oa0,Oa3 Z]
  rfl
 have bf:¬ Jlw tab ⟨2,1,⟨#[]⟩,[e,Jf6]⟩ (stN tab (Ql p e) 2):=fun bj=>by
  obtain⟨v,z⟩:=bj.2 (by show ¬ 2=0;omega) i (by rw[U,hn];exact hi) e (by simp)
  rw[U,E i hi,R]at z
  cases z
 rcases hR with⟨_,_,_,_,_,X,_⟩|⟨rfl,j,n,rfl,rfl,X,A,H⟩
 ·exact absurd (X 2 _ (by simp[Ql]) rfl) bf
 match j,A with
 |0,A=>
  cases A
  rcases H with⟨_,q,bc,_⟩|⟨h0,_⟩
  ·rw[h]at bc;cases bc
  exact absurd rfl h0
 |1,A=>
  cases A
  rcases H with⟨h0,_⟩|⟨_,rfl,r,rfl,y,D,rfl,K⟩
  ·cases h0
  exfalso
  rw[br]at y D
  rw[M]at y
  obtain⟨v,z⟩:=bi r y
  apply D
  show Kr [p] _=0
  rw[O r y]
  exact Jpl z
 |2,A=>
  cases A
  rcases H with⟨h0,_⟩|⟨_,rfl,r,rfl,y,D,rfl,K⟩
  ·cases h0
  rw[U]at y D K ⊢
  rw[hn]at y
  have bn:r=i:=by
   rcases Nat.lt_trichotomy r i with C|C|C
   ·exfalso
    obtain⟨v,z⟩:=hf r C
    apply D
    show Kr [e,Jf6] _=0
    rw[E r y]
    exact Jxw z
   ·exact C
   exfalso
   obtain⟨v,z⟩:=K i C e (by simp)
   rw[E i hi,R]at z
   cases z
  subst bn
  refine⟨rfl,?_,rfl,rfl,rfl,rfl⟩
  show ((Kr [e,Jf6] (Ji _ r):Nat):Int)=_
  rw[E r y,Kdr R]
theorem Kb2 {ns:List PN}(bh:ns=Ql p e)(h:tab Zu=.inl cs)(M:1≤cs.length)(C:nR cs=rs.length)(D:∀ i,i<rs.length→Ji cs i=rs.getD i []){Y W:World}{l:Value}{c nd row col pg:Int}(hR:Jnv tab ns Y l c nd row col pg W)(Z:∀ k,k<rs.length→∃ v,Kl p (rs.getD k [])=.inl v)(hf:∀ k,k<(Qy p rs).length→∃ v,Kl e ((Qy p rs).getD k [])=.inl v):c=0∧nd=-1∧row=-1∧col=-1∧pg=-1∧∃ g bs,l=.slice (some ⟨g,0,none⟩) (Qy p rs).length (Qy p rs).length∧Jcu W Y.heap.size g bs ((Qy p rs).map (Jcl e)):=by
 subst bh
 obtain⟨bu,bx,bz⟩:=Jey (p:=p) (e:=e) h
 have hn:=Jl7 (p:=p) M C D
 have bf:∀ k,k<(Qy p rs).length→Ji (Jba (Yf p cs (nR cs)) cs) k=(Qy p rs).getD k []:=fun k O=>by
  rw[Jlk C D k O,Oa0,Oa3 O]
  rfl
 obtain⟨bA,bB⟩:=Jyk (p:=p) (e:=e) M C D
 rcases hR with⟨bi,bj,bl,bn,br,bc,g,bs,U,K⟩|⟨rfl,j,n,rfl,rfl,bc,z,E⟩
 ·rw[bz,bA]at U K
  rw[bB]at K
  exact⟨bi,bj,bl,bn,br,g,bs,U,K⟩
 exfalso
 match j,z with
 |0,z=>
  cases z
  rcases E with⟨_,q,R,_⟩|⟨h0,_⟩
  ·rw[h]at R;cases R
  exact h0 rfl
 |1,z=>
  cases z
  rcases E with⟨h0,_⟩|⟨_,rfl,r,rfl,y,A,rfl,X⟩
  ·cases h0
  rw[bu]at y A
  rw[C]at y
  obtain⟨v,H⟩:=Z r y
  apply A
  show Kr [p] _=0
  rw[D r y]
  exact Jpl H
 |2,z=>
  cases z
  rcases E with⟨h0,_⟩|⟨_,rfl,r,rfl,y,A,rfl,X⟩
  ·cases h0
  rw[bx]at y A
  rw[hn]at y
  obtain⟨v,H⟩:=hf r y
  apply A
  show Kr [e,Jf6] _=0
  rw[bf r y]
  exact Jxw H
end
end Go.Proofs.YtjjdldddcegjiaaGreatDoor
namespace Go.Proofs.YtjjdldddcegjiaaGreatDoor
open Go.RowKit Go.Shelf Tryz
abbrev Jww (y z:Nat):List Nd:=[⟨0,0,0,Zu,(none,0,0),(none,0,0),0⟩,⟨1,0,0,⟨#[]⟩,(some ⟨y,0,none⟩,1,1),(none,0,0),0⟩,⟨2,1,0,⟨#[]⟩,(some ⟨z,0,none⟩,2,2),(none,0,0),0⟩]
theorem Kfs (X:Nat→Prop)(st:Nat)(C:DS)(T:TS)(cs:Cs)(H:List Int)(rs:List (List V))(w:World)(h:Sto X w st C [T])(y:Kd3 C T Zu H rs cs)(bY:rs.length≤200)(Z bc bf bu q wr pg bl ex br:Addr)(bD:Jax w Z bc bf bu q wr pg bl ex br)(p e:List Pt)(bO:Uj H p)(bP:1≤p.length)(bQ:p.length≤12)(bR:Jbk H p=2)(bH:Uj H e)(bI:1≤e.length)(bJ:e.length≤12)
  (U E D R gp gc ge gd:Nat) (bM:w.heap[U]?=some (.cells ((Jww E D).flatMap ndC).toArray 46 (0,0))) (bB:w.heap[E]?=some (.cells #[.slice (some ⟨gp,0,none⟩) p.length gc] 26 (0,0))) (bT:∀ (k:Nat) (x:Pt),p[k]?=some x→Qi w gp (0+k*7) x) (bh:w.heap[D]?=some (.cells #[.slice (some ⟨ge,0,none⟩) e.length gd,.slice (some ⟨R,0,none⟩) 1 1] 26 (0,0))) (bS:∀ (k:Nat) (x:Pt),e[k]?=some x→Qi w ge (0+k*7) x) (bC:w.heap[R]?=some (.cells (Jf6.flatMap ptC).toArray 51 (0,0)))
  (O:Nat) (M K bn:Int) (bV:1≤O) (bW:O≤1000) (bE:2≤M) (bG:M≤1000) (bK:0≤K) (bL:K≤4096) :
  Calls prog 10 #[.pointer (some ⟨st,0,none⟩),.agg #[.slice (some ⟨U,0,none⟩) 3 3],.agg #[.int .i64 O,.int .i64 M,.int .i64 K,.int .i64 bn]] w fun bA w'=>Below w.heap.size w w'∧∃ Y l c nd row col bj,Below w.heap.size w Y∧bA=.returned (.tuple #[l,Ko c nd row col bj])∧Jnv (Ye C [T]) (Ql p e) Y l c nd row col bj w':=by
 obtain⟨bZ,ca,bX⟩:=Jey (tab:=Ye C [T]) (p:=p) (e:=e) y.tab
 have bi:1≤cs.length:=y.good.one
 have bN:nR (Jac (Ye C [T]) (Ql p e))≤10000:=by
  rw[bX,(Jyk bi y.len y.row).1]
  unfold Qy
  have:=Ok1 (fun x=>decide ((pv1 p x).n=1)) rs
  omega
 have c3:w.cell? ⟨E,0,none⟩=some (.slice (some ⟨gp,0,none⟩) p.length gc):=by simp[World.cell?,bB]
 have bx:w.cell? ⟨D,0,none⟩=some (.slice (some ⟨ge,0,none⟩) e.length gd):=by simp[World.cell?,bh]
 have bz:w.cell? ⟨D,1,none⟩=some (.slice (some ⟨R,0,none⟩) 1 1):=by simp[World.cell?,bh]
 have bU:1≤H.length:=by rw[←y.good.len];exact bi
 refine Jr5 X st C [T] w h y.ok y.all Z bc bf bu q wr pg bl ex br bD (Ql p e) _ (Jui y.tys bU bO bP bQ bR bH bI bJ) (fun n hn h0=>?_) (fun _=>bN) U 0 3 (Jww E D) rfl (Jfm bM) (fun j n nd z A=>?_) O M K bn bV bW bE bG bK bL
 ·simp only[Ql,Of1,Oi0,or_false]at hn
  rcases hn with rfl|rfl|rfl
  ·exact y.find
  ·cases h0
  cases h0
 match j,z,A with
 |0,z,A=>cases z;cases A;exact⟨rfl,rfl,rfl,fun h=>absurd rfl h⟩
 |1,z,A=>cases z;cases A;exact⟨rfl,rfl,rfl,fun _=>⟨E,0,1,rfl,by simp,Jyd (e:=p) c3 bT⟩⟩
 |2,z,A=>cases z;cases A;exact⟨rfl,rfl,rfl,fun _=>⟨D,0,2,rfl,by simp,Kfd (e:=e) (f:=Jf6) bx bS bz (Jfp bC)⟩⟩
def Jjg (tab:ByteArray→Cs⊕Nat)(ns:List PN)(Y:World)(l:Value)(c nd row col pg:Int)(g:Nat)(bs:List Nat)(W:World):Prop:=
 (c=0∧nd=-1∧row=-1∧col=-1∧pg=-1∧Jd7 tab ns ns.length∧l=.slice (some ⟨g,0,none⟩) (nR (Jac tab ns)) (nR (Jac tab ns))∧Jcu W Y.heap.size g bs (Qf (nR (Jac tab ns)) (Jac tab ns))) ∨
 (l=.slice none 0 0∧Jv3 tab ns c nd row col pg∧g=0∧bs=[])
theorem Jjg.run {tab:ByteArray→Cs⊕Nat}{ns:List PN}{Y:World}{l:Value}{c nd row col pg:Int}{g:Nat}{bs:List Nat}{W:World}(h:Jjg tab ns Y l c nd row col pg g bs W):Jnv tab ns Y l c nd row col pg W:=by
 rcases h with⟨y,z,A,C,D,E,H,K⟩|⟨y,z,_⟩
 ·exact .inl ⟨y,z,A,C,D,E,g,bs,H,K⟩
 exact .inr ⟨y,z⟩
theorem Jnv.g {tab:ByteArray→Cs⊕Nat}{ns:List PN}{Y:World}{l:Value}{c nd row col pg:Int}{W:World}(h:Jnv tab ns Y l c nd row col pg W):∃ g bs,Jjg tab ns Y l c nd row col pg g bs W:=by
 rcases h with⟨y,z,A,C,D,E,g,bs,H,K⟩|⟨y,z⟩
 ·exact⟨g,bs,.inl ⟨y,z,A,C,D,E,H,K⟩⟩
 exact⟨0,[],.inr ⟨y,z,rfl,rfl⟩⟩
theorem Jjg.keep {tab:ByteArray→Cs⊕Nat}{ns:List PN}{Y:World}{l:Value}{c nd row col pg:Int}{g:Nat}{bs:List Nat}{W y:World}(h:Jjg tab ns Y l c nd row col pg g bs W)(R:y.heap[g]?=W.heap[g]?)(O:∀ b∈bs,y.heap[b]?=W.heap[b]?):Jjg tab ns Y l c nd row col pg g bs y:=by
 rcases h with⟨z,A,C,D,E,H,K,M⟩|h
 ·exact .inl ⟨z,A,C,D,E,H,K,M.of_blocks R O⟩
 exact .inr h
theorem Jjg.lt {tab:ByteArray→Cs⊕Nat}{ns:List PN}{Y:World}{l:Value}{c nd row col pg:Int}{g:Nat}{bs:List Nat}{W:World}(h:Jjg tab ns Y l c nd row col pg g bs W)(h0:0<W.heap.size):g<W.heap.size∧∀ b∈bs,b<W.heap.size:=by
 rcases h with⟨_,_,_,_,_,_,_,y⟩|⟨_,_,rfl,rfl⟩
 ·refine⟨y.outer.lt,fun b z=>?_⟩
  obtain⟨i,hi,rfl⟩:=Od5 z
  have A:i<(Qf (nR (Jac tab ns)) (Jac tab ns)).length:=by rw[←y.len];exact hi
  exact(y.rows i _ _ (Oa3 hi) (Oa3 A)).lt
 exact⟨h0,fun b z=>by cases z⟩
theorem Jjg.from {tab:ByteArray→Cs⊕Nat}{ns:List PN}{Y:World}{l:Value}{c nd row col pg:Int}{g:Nat}{bs:List Nat}{W:World}(h:Jjg tab ns Y l c nd row col pg g bs W){fa:Nat}(h0:0<fa)(A:fa<Y.heap.size):fa≠g∧fa∉bs:=by
 rcases h with⟨_,_,_,_,_,_,_,z⟩|⟨_,_,rfl,rfl⟩
 ·exact⟨by have:=z.from_.1;omega,fun y=>by have:=(z.from_.2 fa y).1;omega⟩
 exact⟨by omega,fun y=>by cases y⟩
structure RX where
 x47:Value
 x48:Value
 x49:Value
 x50:Value
 x51:Value
 x52:Value
 x53:Value
 x54:Value
 x55:Value
 x56:Value
 x57:Value
 x58:Value
 x59:Value
 x60:Value
 x61:Value
 x62:Value
 x63:Value
 x64:Value
 x14:Value
 x15:Value
 g:Nat
 bs:List Nat
 fa:Nat
 Y:World
 ll:Value
 c:Int
 nd:Int
 row:Int
 col:Int
 pg:Int
def Jc5 (a:Act)(r:RX):Act:=(((((((((((((((((((a.put (some 47) r.x47).put (some 48) r.x48).put (some 49) r.x49).put (some 50) r.x50).put (some 51) r.x51).put (some 52) r.x52).put (some 53) r.x53).put (some 54) r.x54).put (some 55) r.x55).put (some 56) r.x56).put (some 57) r.x57).put (some 58) r.x58).put (some 59) r.x59).put (some 60) r.x60).put (some 61) r.x61).put (some 62) r.x62).put (some 63) r.x63).put (some 64) r.x64).put (some 14) r.x14).put (some 15) r.x15
structure RE where
 st:Nat
 p:List Pt
 e:List Pt
 gp:Nat
 gc:Nat
 ge:Nat
 gd:Nat
 oz:Int
 ob:Int
 ol:Int
 os:Int
 tab:ByteArray→Cs⊕Nat
abbrev RE.vp (v:RE):Value:=.slice (some ⟨v.gp,0,none⟩) v.p.length v.gc
abbrev RE.ve (v:RE):Value:=.slice (some ⟨v.ge,0,none⟩) v.e.length v.gd
abbrev Jsa:Value:=Pt.val ⟨0,0,0,0,Jf⟩
def B3 (v:RE)(w:World)(g:Nat):Prop:=w.heap[g]?=some (.cells #[v.vp] 26 (0,0))
def B7 (w:World)(g:Nat):Prop:=w.heap[g]?=some (.cells (Jf6.flatMap ptC).toArray 51 (0,0))
def B8 (v:RE)(w:World)(g y:Nat):Prop:=w.heap[g]?=some (.cells #[v.ve,.slice (some ⟨y,0,none⟩) 1 1] 26 (0,0))∧B7 w y
def B10 (v:RE)(w:World)(g y z A:Nat):Prop:=w.heap[g]?=some (.cells ((Jww y z).flatMap ndC).toArray 46 (0,0))∧B3 v w y∧B8 v w z A
def RF (v:RE)(H:World)(l:Array Bool)(r:RX)(w:World):Nat→Prop
 |0=>r.x48=.pointer (some ⟨v.st,0,none⟩)
 |1=>r.x49=Nd.val ⟨0,0,0,Zu,(none,0,0),(none,0,0),0⟩
 |2=>r.x50=v.vp
 |3=>∃ g,r.x51=.slice (some ⟨g,0,none⟩) 1 1∧(¬ dn l 14→B3 v w g)
 |4=>∃ g,r.x52=Nd.val ⟨1,0,0,⟨#[]⟩,(some ⟨g,0,none⟩,1,1),(none,0,0),0⟩∧(¬ dn l 14→B3 v w g)
 |5=>r.x53=v.ve
 |6=>r.x54=Jsa
 |7=>∃ g,r.x55=.slice (some ⟨g,0,none⟩) 1 1∧(¬ dn l 14→B7 w g)
 |8=>∃ g y,r.x56=.slice (some ⟨g,0,none⟩) 2 2∧(¬ dn l 14→B8 v w g y)
 |9=>∃ g y,r.x57=Nd.val ⟨2,1,0,⟨#[]⟩,(some ⟨g,0,none⟩,2,2),(none,0,0),0⟩∧(¬ dn l 14→B8 v w g y)
 |10=>∃ g C D y,r.x58=.slice (some ⟨g,0,none⟩) 3 3∧(¬ dn l 14→B10 v w g C D y)
 |11=>∃ g C D y,r.x59=.agg #[.slice (some ⟨g,0,none⟩) 3 3]∧(¬ dn l 14→B10 v w g C D y)
 |12=>r.x60=.agg #[.int .i64 v.oz,.int .i64 v.ob,.int .i64 v.ol,.int .i64 v.os]
 |13=>∃ (E:Nat) (A z:Int),r.x61=.agg #[.int .i64 E,.int .i64 A,.int .i64 z,.int .i64 v.os]∧1≤E∧E≤1000∧2≤A∧A≤1000∧0≤z∧z≤4096
 |14=>r.x62=.tuple #[r.ll,Ko r.c r.nd r.row r.col r.pg]∧Jjg v.tab (Ql v.p v.e) r.Y r.ll r.c r.nd r.row r.col r.pg r.g r.bs w
 |15=>dn l 14∧r.x47=.tuple #[r.ll,Ko r.c r.nd r.row r.col r.pg]
 |16=>dn l 14∧r.x63=r.ll
 |17=>dn l 14∧r.x64=Ko r.c r.nd r.row r.col r.pg
 |18=>r.x15=.pointer (some ⟨r.fa,0,none⟩)∧H.heap.size≤r.fa∧r.fa<w.heap.size∧(¬ dn l 20→w.heap[r.fa]?=some (.cells #[.int .i64 0,.int .i64 0,.int .i64 0,.int .i64 0,.int .i64 0] 40 (0,0)))∧(dn l 14→r.fa≠r.g∧r.fa∉r.bs)
 |19=>dn l 14∧r.x14=r.ll
 |20=>dn l 14∧dn l 18∧w.heap[r.fa]?=some (.cells #[.int .i64 r.c,.int .i64 r.nd,.int .i64 r.row,.int .i64 r.col,.int .i64 r.pg] 40 (0,0))
 |_=>True
structure RI (v:RE) (w0:World) (l:Array Bool) (r:RX) (w:World):Prop where
 low:Below w0.heap.size w0 w
 pos:0<w0.heap.size
 facts:∀ k,dn l k→RF v w0 l r w k
theorem Jcv {w w':World}{g:Nat}{o:Obj}(h:w.heap[g]?=some o)(y:Below w.heap.size w w'):w'.heap[g]?=some o:=(y.block g (Jd h)).trans h
theorem B3.grow {v:RE}{w w':World}{g:Nat}(h:B3 v w g)(y:Below w.heap.size w w'):B3 v w' g:=Jcv h y
theorem B7.grow {w w':World}{g:Nat}(h:B7 w g)(y:Below w.heap.size w w'):B7 w' g:=Jcv h y
theorem B8.grow {v:RE}{w w':World}{g y:Nat}(h:B8 v w g y)(z:Below w.heap.size w w'):B8 v w' g y:=⟨Jcv h.1 z,h.2.grow z⟩
theorem B10.grow {v:RE}{w w':World}{g z C A:Nat}(h:B10 v w g z C A)(y:Below w.heap.size w w'):B10 v w' g z C A:=⟨Jcv h.1 y,h.2.1.grow y,h.2.2.grow y⟩
theorem RF.grow {v:RE}{K:World}{l:Array Bool}{r:RX}{w w':World}(h0:0<w.heap.size)(A:Below w.heap.size w w'):∀ k,RF v K l r w k→RF v K l r w' k
 |0,h=>h
 |1,h=>h
 |2,h=>h
 |3,⟨g,y,z⟩=>⟨g,y,fun hn=>(z hn).grow A⟩
 |4,⟨g,y,z⟩=>⟨g,y,fun hn=>(z hn).grow A⟩
 |5,h=>h
 |6,h=>h
 |7,⟨g,y,z⟩=>⟨g,y,fun hn=>(z hn).grow A⟩
 |8,⟨g,C,y,z⟩=>⟨g,C,y,fun hn=>(z hn).grow A⟩
 |9,⟨g,C,y,z⟩=>⟨g,C,y,fun hn=>(z hn).grow A⟩
 |10,⟨g,D,E,C,y,z⟩=>⟨g,D,E,C,y,fun hn=>(z hn).grow A⟩
 |11,⟨g,D,E,C,y,z⟩=>⟨g,D,E,C,y,fun hn=>(z hn).grow A⟩
 |12,h=>h
 |13,h=>h
 |14,⟨y,z⟩=>⟨y,z.keep (A.block _ (z.lt h0).1) fun b U=>A.block b ((z.lt h0).2 b U)⟩
 |15,h=>h
 |16,h=>h
 |17,h=>h
 |18,⟨y,z,H,O,R⟩=>⟨y,z,Oc2 H A.size,fun hn=>Jcv (O hn) A,R⟩
 |19,h=>h
 |20,⟨y,M,H⟩=>⟨y,M,Jcv H A⟩
 |_+21,h=>h
theorem RI.grow {v:RE}{z:World}{l:Array Bool}{r:RX}{w w':World}(h:RI v z l r w)(y:Below w.heap.size w w'):RI v z l r w':=
 ⟨Jb h.low y,h.pos,fun k A=>RF.grow (by have:=h.low.size;have:=h.pos;omega) y k (h.facts k A)⟩
theorem RI.op0 {v:RE}{M:World}{l:Array Bool}{r:RX}{w:World}(h:RI v M l r w)(hn:l.getD 0 true=false)(u:Value)(hf:RF v M (l.setIfInBounds 0 true) {r with x48:=u} w 0):RI v M (l.setIfInBounds 0 true) {r with x48:=u} w:=by
 refine⟨h.low,h.pos,fun k Z=>?_⟩
 by_cases e:k=0
 ·subst e
  exact hf
 have O:=Ki Z e
 have C:=h.facts k O
 have bc:¬ dn l 0:=Yb hn
 have keep:∀ {j},dn l j→dn (l.setIfInBounds 0 true) j:=fun X=>Kq X
 match k,e,O,C with
 |0,e,_,_=>exact absurd rfl e
 |1,_,_,C=>exact C
 |2,_,_,C=>exact C
 |3,_,_,⟨g,y,z⟩=>exact⟨g,y,fun hn=>z fun A=>hn (keep A)⟩
 |4,_,_,⟨g,y,z⟩=>exact⟨g,y,fun hn=>z fun A=>hn (keep A)⟩
 |5,_,_,C=>exact C
 |6,_,_,C=>exact C
 |7,_,_,⟨g,y,z⟩=>exact⟨g,y,fun hn=>z fun A=>hn (keep A)⟩
 |8,_,_,⟨g,D,y,z⟩=>exact⟨g,D,y,fun hn=>z fun A=>hn (keep A)⟩
 |9,_,_,⟨g,D,y,z⟩=>exact⟨g,D,y,fun hn=>z fun A=>hn (keep A)⟩
 |10,_,_,⟨g,E,H,D,y,z⟩=>exact⟨g,E,H,D,y,fun hn=>z fun A=>hn (keep A)⟩
 |11,_,_,⟨g,E,H,D,y,z⟩=>exact⟨g,E,H,D,y,fun hn=>z fun A=>hn (keep A)⟩
 |12,_,_,C=>exact C
 |13,_,_,C=>exact C
 |14,_,_,C=>exact C
 |15,_,_,⟨y,z⟩=>exact⟨keep y,z⟩
 |16,_,_,⟨y,z⟩=>exact⟨keep y,z⟩
 |17,_,_,⟨y,z⟩=>exact⟨keep y,z⟩
 |18,_,_,⟨y,z,K,R,U⟩=>exact⟨y,z,K,fun hn=>R fun A=>hn (keep A),fun A=>U (Ki A (by omega))⟩
 |19,_,_,⟨y,z⟩=>exact⟨keep y,z⟩
 |20,_,_,⟨y,z,K⟩=>exact⟨keep y,keep z,K⟩
 |k+21,_,_,_=>exact trivial
theorem RI.op1 {v:RE}{M:World}{l:Array Bool}{r:RX}{w:World}(h:RI v M l r w)(hn:l.getD 1 true=false)(u:Value)(hf:RF v M (l.setIfInBounds 1 true) {r with x49:=u} w 1):RI v M (l.setIfInBounds 1 true) {r with x49:=u} w:=by
 refine⟨h.low,h.pos,fun k Z=>?_⟩
 by_cases e:k=1
 ·subst e
  exact hf
 have O:=Ki Z e
 have C:=h.facts k O
 have bc:¬ dn l 1:=Yb hn
 have keep:∀ {j},dn l j→dn (l.setIfInBounds 1 true) j:=fun X=>Kq X
 match k,e,O,C with
 |0,_,_,C=>exact C
 |1,e,_,_=>exact absurd rfl e
 |2,_,_,C=>exact C
 |3,_,_,⟨g,y,z⟩=>exact⟨g,y,fun hn=>z fun A=>hn (keep A)⟩
 |4,_,_,⟨g,y,z⟩=>exact⟨g,y,fun hn=>z fun A=>hn (keep A)⟩
 |5,_,_,C=>exact C
 |6,_,_,C=>exact C
 |7,_,_,⟨g,y,z⟩=>exact⟨g,y,fun hn=>z fun A=>hn (keep A)⟩
 |8,_,_,⟨g,D,y,z⟩=>exact⟨g,D,y,fun hn=>z fun A=>hn (keep A)⟩
 |9,_,_,⟨g,D,y,z⟩=>exact⟨g,D,y,fun hn=>z fun A=>hn (keep A)⟩
 |10,_,_,⟨g,E,H,D,y,z⟩=>exact⟨g,E,H,D,y,fun hn=>z fun A=>hn (keep A)⟩
 |11,_,_,⟨g,E,H,D,y,z⟩=>exact⟨g,E,H,D,y,fun hn=>z fun A=>hn (keep A)⟩
 |12,_,_,C=>exact C
 |13,_,_,C=>exact C
 |14,_,_,C=>exact C
 |15,_,_,⟨y,z⟩=>exact⟨keep y,z⟩
 |16,_,_,⟨y,z⟩=>exact⟨keep y,z⟩
 |17,_,_,⟨y,z⟩=>exact⟨keep y,z⟩
 |18,_,_,⟨y,z,K,R,U⟩=>exact⟨y,z,K,fun hn=>R fun A=>hn (keep A),fun A=>U (Ki A (by omega))⟩
 |19,_,_,⟨y,z⟩=>exact⟨keep y,z⟩
 |20,_,_,⟨y,z,K⟩=>exact⟨keep y,keep z,K⟩
 |k+21,_,_,_=>exact trivial
theorem RI.op2 {v:RE}{M:World}{l:Array Bool}{r:RX}{w:World}(h:RI v M l r w)(hn:l.getD 2 true=false)(u:Value)(hf:RF v M (l.setIfInBounds 2 true) {r with x50:=u} w 2):RI v M (l.setIfInBounds 2 true) {r with x50:=u} w:=by
 refine⟨h.low,h.pos,fun k Z=>?_⟩
 by_cases e:k=2
 ·subst e
  exact hf
 have O:=Ki Z e
 have C:=h.facts k O
 have bc:¬ dn l 2:=Yb hn
 have keep:∀ {j},dn l j→dn (l.setIfInBounds 2 true) j:=fun X=>Kq X
 match k,e,O,C with
 |0,_,_,C=>exact C
 |1,_,_,C=>exact C
 |2,e,_,_=>exact absurd rfl e
 |3,_,_,⟨g,y,z⟩=>exact⟨g,y,fun hn=>z fun A=>hn (keep A)⟩
 |4,_,_,⟨g,y,z⟩=>exact⟨g,y,fun hn=>z fun A=>hn (keep A)⟩
 |5,_,_,C=>exact C
 |6,_,_,C=>exact C
 |7,_,_,⟨g,y,z⟩=>exact⟨g,y,fun hn=>z fun A=>hn (keep A)⟩
 |8,_,_,⟨g,D,y,z⟩=>exact⟨g,D,y,fun hn=>z fun A=>hn (keep A)⟩
 |9,_,_,⟨g,D,y,z⟩=>exact⟨g,D,y,fun hn=>z fun A=>hn (keep A)⟩
 |10,_,_,⟨g,E,H,D,y,z⟩=>exact⟨g,E,H,D,y,fun hn=>z fun A=>hn (keep A)⟩
 |11,_,_,⟨g,E,H,D,y,z⟩=>exact⟨g,E,H,D,y,fun hn=>z fun A=>hn (keep A)⟩
 |12,_,_,C=>exact C
 |13,_,_,C=>exact C
 |14,_,_,C=>exact C
 |15,_,_,⟨y,z⟩=>exact⟨keep y,z⟩
 |16,_,_,⟨y,z⟩=>exact⟨keep y,z⟩
 |17,_,_,⟨y,z⟩=>exact⟨keep y,z⟩
 |18,_,_,⟨y,z,K,R,U⟩=>exact⟨y,z,K,fun hn=>R fun A=>hn (keep A),fun A=>U (Ki A (by omega))⟩
 |19,_,_,⟨y,z⟩=>exact⟨keep y,z⟩
 |20,_,_,⟨y,z,K⟩=>exact⟨keep y,keep z,K⟩
 |k+21,_,_,_=>exact trivial
theorem RI.op3 {v:RE}{M:World}{l:Array Bool}{r:RX}{w:World}(h:RI v M l r w)(hn:l.getD 3 true=false)(u:Value)(hf:RF v M (l.setIfInBounds 3 true) {r with x51:=u} w 3):RI v M (l.setIfInBounds 3 true) {r with x51:=u} w:=by
 refine⟨h.low,h.pos,fun k Z=>?_⟩
 by_cases e:k=3
 ·subst e
  exact hf
 have O:=Ki Z e
 have A:=h.facts k O
 have bc:¬ dn l 3:=Yb hn
 have keep:∀ {j},dn l j→dn (l.setIfInBounds 3 true) j:=fun X=>Kq X
 match k,e,O,A with
 |0,_,_,A=>exact A
 |1,_,_,A=>exact A
 |2,_,_,A=>exact A
 |3,e,_,_=>exact absurd rfl e
 |4,_,_,⟨g,y,z⟩=>exact⟨g,y,fun hn=>z fun C=>hn (keep C)⟩
 |5,_,_,A=>exact A
 |6,_,_,A=>exact A
 |7,_,_,⟨g,y,z⟩=>exact⟨g,y,fun hn=>z fun C=>hn (keep C)⟩
 |8,_,_,⟨g,D,y,z⟩=>exact⟨g,D,y,fun hn=>z fun C=>hn (keep C)⟩
 |9,_,_,⟨g,D,y,z⟩=>exact⟨g,D,y,fun hn=>z fun C=>hn (keep C)⟩
 |10,_,_,⟨g,E,H,D,y,z⟩=>exact⟨g,E,H,D,y,fun hn=>z fun C=>hn (keep C)⟩
 |11,_,_,⟨g,E,H,D,y,z⟩=>exact⟨g,E,H,D,y,fun hn=>z fun C=>hn (keep C)⟩
 |12,_,_,A=>exact A
 |13,_,_,A=>exact A
 |14,_,_,A=>exact A
 |15,_,_,⟨y,z⟩=>exact⟨keep y,z⟩
 |16,_,_,⟨y,z⟩=>exact⟨keep y,z⟩
 |17,_,_,⟨y,z⟩=>exact⟨keep y,z⟩
 |18,_,_,⟨y,z,K,R,U⟩=>exact⟨y,z,K,fun hn=>R fun C=>hn (keep C),fun C=>U (Ki C (by omega))⟩
 |19,_,_,⟨y,z⟩=>exact⟨keep y,z⟩
 |20,_,_,⟨y,z,K⟩=>exact⟨keep y,keep z,K⟩
 |k+21,_,_,_=>exact trivial
theorem RI.op4 {v:RE}{M:World}{l:Array Bool}{r:RX}{w:World}(h:RI v M l r w)(hn:l.getD 4 true=false)(u:Value)(hf:RF v M (l.setIfInBounds 4 true) {r with x52:=u} w 4):RI v M (l.setIfInBounds 4 true) {r with x52:=u} w:=by
 refine⟨h.low,h.pos,fun k Z=>?_⟩
 by_cases e:k=4
 ·subst e
  exact hf
 have O:=Ki Z e
 have A:=h.facts k O
 have bc:¬ dn l 4:=Yb hn
 have keep:∀ {j},dn l j→dn (l.setIfInBounds 4 true) j:=fun X=>Kq X
 match k,e,O,A with
 |0,_,_,A=>exact A
 |1,_,_,A=>exact A
 |2,_,_,A=>exact A
 |3,_,_,⟨g,y,z⟩=>exact⟨g,y,fun hn=>z fun C=>hn (keep C)⟩
 |4,e,_,_=>exact absurd rfl e
 |5,_,_,A=>exact A
 |6,_,_,A=>exact A
 |7,_,_,⟨g,y,z⟩=>exact⟨g,y,fun hn=>z fun C=>hn (keep C)⟩
 |8,_,_,⟨g,D,y,z⟩=>exact⟨g,D,y,fun hn=>z fun C=>hn (keep C)⟩
 |9,_,_,⟨g,D,y,z⟩=>exact⟨g,D,y,fun hn=>z fun C=>hn (keep C)⟩
 |10,_,_,⟨g,E,H,D,y,z⟩=>exact⟨g,E,H,D,y,fun hn=>z fun C=>hn (keep C)⟩
 |11,_,_,⟨g,E,H,D,y,z⟩=>exact⟨g,E,H,D,y,fun hn=>z fun C=>hn (keep C)⟩
 |12,_,_,A=>exact A
 |13,_,_,A=>exact A
 |14,_,_,A=>exact A
 |15,_,_,⟨y,z⟩=>exact⟨keep y,z⟩
 |16,_,_,⟨y,z⟩=>exact⟨keep y,z⟩
 |17,_,_,⟨y,z⟩=>exact⟨keep y,z⟩
 |18,_,_,⟨y,z,K,R,U⟩=>exact⟨y,z,K,fun hn=>R fun C=>hn (keep C),fun C=>U (Ki C (by omega))⟩
 |19,_,_,⟨y,z⟩=>exact⟨keep y,z⟩
 |20,_,_,⟨y,z,K⟩=>exact⟨keep y,keep z,K⟩
 |k+21,_,_,_=>exact trivial
theorem RI.op5 {v:RE}{M:World}{l:Array Bool}{r:RX}{w:World}(h:RI v M l r w)(hn:l.getD 5 true=false)(u:Value)(hf:RF v M (l.setIfInBounds 5 true) {r with x53:=u} w 5):RI v M (l.setIfInBounds 5 true) {r with x53:=u} w:=by
 refine⟨h.low,h.pos,fun k Z=>?_⟩
 by_cases e:k=5
 ·subst e
  exact hf
 have O:=Ki Z e
 have C:=h.facts k O
 have bc:¬ dn l 5:=Yb hn
 have keep:∀ {j},dn l j→dn (l.setIfInBounds 5 true) j:=fun X=>Kq X
 match k,e,O,C with
 |0,_,_,C=>exact C
 |1,_,_,C=>exact C
 |2,_,_,C=>exact C
 |3,_,_,⟨g,y,z⟩=>exact⟨g,y,fun hn=>z fun A=>hn (keep A)⟩
 |4,_,_,⟨g,y,z⟩=>exact⟨g,y,fun hn=>z fun A=>hn (keep A)⟩
 |5,e,_,_=>exact absurd rfl e
 |6,_,_,C=>exact C
 |7,_,_,⟨g,y,z⟩=>exact⟨g,y,fun hn=>z fun A=>hn (keep A)⟩
 |8,_,_,⟨g,D,y,z⟩=>exact⟨g,D,y,fun hn=>z fun A=>hn (keep A)⟩
 |9,_,_,⟨g,D,y,z⟩=>exact⟨g,D,y,fun hn=>z fun A=>hn (keep A)⟩
 |10,_,_,⟨g,E,H,D,y,z⟩=>exact⟨g,E,H,D,y,fun hn=>z fun A=>hn (keep A)⟩
 |11,_,_,⟨g,E,H,D,y,z⟩=>exact⟨g,E,H,D,y,fun hn=>z fun A=>hn (keep A)⟩
 |12,_,_,C=>exact C
 |13,_,_,C=>exact C
 |14,_,_,C=>exact C
 |15,_,_,⟨y,z⟩=>exact⟨keep y,z⟩
 |16,_,_,⟨y,z⟩=>exact⟨keep y,z⟩
 |17,_,_,⟨y,z⟩=>exact⟨keep y,z⟩
 |18,_,_,⟨y,z,K,R,U⟩=>exact⟨y,z,K,fun hn=>R fun A=>hn (keep A),fun A=>U (Ki A (by omega))⟩
 |19,_,_,⟨y,z⟩=>exact⟨keep y,z⟩
 |20,_,_,⟨y,z,K⟩=>exact⟨keep y,keep z,K⟩
 |k+21,_,_,_=>exact trivial
theorem RI.op6 {v:RE}{M:World}{l:Array Bool}{r:RX}{w:World}(h:RI v M l r w)(hn:l.getD 6 true=false)(u:Value)(hf:RF v M (l.setIfInBounds 6 true) {r with x54:=u} w 6):RI v M (l.setIfInBounds 6 true) {r with x54:=u} w:=by
 refine⟨h.low,h.pos,fun k Z=>?_⟩
 by_cases e:k=6
 ·subst e
  exact hf
 have O:=Ki Z e
 have C:=h.facts k O
 have bc:¬ dn l 6:=Yb hn
 have keep:∀ {j},dn l j→dn (l.setIfInBounds 6 true) j:=fun X=>Kq X
 match k,e,O,C with
 |0,_,_,C=>exact C
 |1,_,_,C=>exact C
 |2,_,_,C=>exact C
 |3,_,_,⟨g,y,z⟩=>exact⟨g,y,fun hn=>z fun A=>hn (keep A)⟩
 |4,_,_,⟨g,y,z⟩=>exact⟨g,y,fun hn=>z fun A=>hn (keep A)⟩
 |5,_,_,C=>exact C
 |6,e,_,_=>exact absurd rfl e
 |7,_,_,⟨g,y,z⟩=>exact⟨g,y,fun hn=>z fun A=>hn (keep A)⟩
 |8,_,_,⟨g,D,y,z⟩=>exact⟨g,D,y,fun hn=>z fun A=>hn (keep A)⟩
 |9,_,_,⟨g,D,y,z⟩=>exact⟨g,D,y,fun hn=>z fun A=>hn (keep A)⟩
 |10,_,_,⟨g,E,H,D,y,z⟩=>exact⟨g,E,H,D,y,fun hn=>z fun A=>hn (keep A)⟩
 |11,_,_,⟨g,E,H,D,y,z⟩=>exact⟨g,E,H,D,y,fun hn=>z fun A=>hn (keep A)⟩
 |12,_,_,C=>exact C
 |13,_,_,C=>exact C
 |14,_,_,C=>exact C
 |15,_,_,⟨y,z⟩=>exact⟨keep y,z⟩
 |16,_,_,⟨y,z⟩=>exact⟨keep y,z⟩
 |17,_,_,⟨y,z⟩=>exact⟨keep y,z⟩
 |18,_,_,⟨y,z,K,R,U⟩=>exact⟨y,z,K,fun hn=>R fun A=>hn (keep A),fun A=>U (Ki A (by omega))⟩
 |19,_,_,⟨y,z⟩=>exact⟨keep y,z⟩
 |20,_,_,⟨y,z,K⟩=>exact⟨keep y,keep z,K⟩
 |k+21,_,_,_=>exact trivial
theorem RI.op7 {v:RE}{M:World}{l:Array Bool}{r:RX}{w:World}(h:RI v M l r w)(hn:l.getD 7 true=false)(u:Value)(hf:RF v M (l.setIfInBounds 7 true) {r with x55:=u} w 7):RI v M (l.setIfInBounds 7 true) {r with x55:=u} w:=by
 refine⟨h.low,h.pos,fun k Z=>?_⟩
 by_cases e:k=7
 ·subst e
  exact hf
 have O:=Ki Z e
 have A:=h.facts k O
 have bc:¬ dn l 7:=Yb hn
 have keep:∀ {j},dn l j→dn (l.setIfInBounds 7 true) j:=fun X=>Kq X
 match k,e,O,A with
 |0,_,_,A=>exact A
 |1,_,_,A=>exact A
 |2,_,_,A=>exact A
 |3,_,_,⟨g,y,z⟩=>exact⟨g,y,fun hn=>z fun C=>hn (keep C)⟩
 |4,_,_,⟨g,y,z⟩=>exact⟨g,y,fun hn=>z fun C=>hn (keep C)⟩
 |5,_,_,A=>exact A
 |6,_,_,A=>exact A
 |7,e,_,_=>exact absurd rfl e
 |8,_,_,⟨g,D,y,z⟩=>exact⟨g,D,y,fun hn=>z fun C=>hn (keep C)⟩
 |9,_,_,⟨g,D,y,z⟩=>exact⟨g,D,y,fun hn=>z fun C=>hn (keep C)⟩
 |10,_,_,⟨g,E,H,D,y,z⟩=>exact⟨g,E,H,D,y,fun hn=>z fun C=>hn (keep C)⟩
 |11,_,_,⟨g,E,H,D,y,z⟩=>exact⟨g,E,H,D,y,fun hn=>z fun C=>hn (keep C)⟩
 |12,_,_,A=>exact A
 |13,_,_,A=>exact A
 |14,_,_,A=>exact A
 |15,_,_,⟨y,z⟩=>exact⟨keep y,z⟩
 |16,_,_,⟨y,z⟩=>exact⟨keep y,z⟩
 |17,_,_,⟨y,z⟩=>exact⟨keep y,z⟩
 |18,_,_,⟨y,z,K,R,U⟩=>exact⟨y,z,K,fun hn=>R fun C=>hn (keep C),fun C=>U (Ki C (by omega))⟩
 |19,_,_,⟨y,z⟩=>exact⟨keep y,z⟩
 |20,_,_,⟨y,z,K⟩=>exact⟨keep y,keep z,K⟩
 |k+21,_,_,_=>exact trivial
theorem RI.op8 {v:RE}{M:World}{l:Array Bool}{r:RX}{w:World}(h:RI v M l r w)(hn:l.getD 8 true=false)(u:Value)(hf:RF v M (l.setIfInBounds 8 true) {r with x56:=u} w 8):RI v M (l.setIfInBounds 8 true) {r with x56:=u} w:=by
 refine⟨h.low,h.pos,fun k Z=>?_⟩
 by_cases e:k=8
 ·subst e
  exact hf
 have O:=Ki Z e
 have A:=h.facts k O
 have bc:¬ dn l 8:=Yb hn
 have keep:∀ {j},dn l j→dn (l.setIfInBounds 8 true) j:=fun X=>Kq X
 match k,e,O,A with
 |0,_,_,A=>exact A
 |1,_,_,A=>exact A
 |2,_,_,A=>exact A
 |3,_,_,⟨g,y,z⟩=>exact⟨g,y,fun hn=>z fun C=>hn (keep C)⟩
 |4,_,_,⟨g,y,z⟩=>exact⟨g,y,fun hn=>z fun C=>hn (keep C)⟩
 |5,_,_,A=>exact A
 |6,_,_,A=>exact A
 |7,_,_,⟨g,y,z⟩=>exact⟨g,y,fun hn=>z fun C=>hn (keep C)⟩
 |8,e,_,_=>exact absurd rfl e
 |9,_,_,⟨g,D,y,z⟩=>exact⟨g,D,y,fun hn=>z fun C=>hn (keep C)⟩
 |10,_,_,⟨g,E,H,D,y,z⟩=>exact⟨g,E,H,D,y,fun hn=>z fun C=>hn (keep C)⟩
 |11,_,_,⟨g,E,H,D,y,z⟩=>exact⟨g,E,H,D,y,fun hn=>z fun C=>hn (keep C)⟩
 |12,_,_,A=>exact A
 |13,_,_,A=>exact A
 |14,_,_,A=>exact A
 |15,_,_,⟨y,z⟩=>exact⟨keep y,z⟩
 |16,_,_,⟨y,z⟩=>exact⟨keep y,z⟩
 |17,_,_,⟨y,z⟩=>exact⟨keep y,z⟩
 |18,_,_,⟨y,z,K,R,U⟩=>exact⟨y,z,K,fun hn=>R fun C=>hn (keep C),fun C=>U (Ki C (by omega))⟩
 |19,_,_,⟨y,z⟩=>exact⟨keep y,z⟩
 |20,_,_,⟨y,z,K⟩=>exact⟨keep y,keep z,K⟩
 |k+21,_,_,_=>exact trivial
theorem RI.op9 {v:RE}{M:World}{l:Array Bool}{r:RX}{w:World}(h:RI v M l r w)(hn:l.getD 9 true=false)(u:Value)(hf:RF v M (l.setIfInBounds 9 true) {r with x57:=u} w 9):RI v M (l.setIfInBounds 9 true) {r with x57:=u} w:=by
 refine⟨h.low,h.pos,fun k Z=>?_⟩
 by_cases e:k=9
 ·subst e
  exact hf
 have O:=Ki Z e
 have A:=h.facts k O
 have bc:¬ dn l 9:=Yb hn
 have keep:∀ {j},dn l j→dn (l.setIfInBounds 9 true) j:=fun X=>Kq X
 match k,e,O,A with
 |0,_,_,A=>exact A
 |1,_,_,A=>exact A
 |2,_,_,A=>exact A
 |3,_,_,⟨g,y,z⟩=>exact⟨g,y,fun hn=>z fun C=>hn (keep C)⟩
 |4,_,_,⟨g,y,z⟩=>exact⟨g,y,fun hn=>z fun C=>hn (keep C)⟩
 |5,_,_,A=>exact A
 |6,_,_,A=>exact A
 |7,_,_,⟨g,y,z⟩=>exact⟨g,y,fun hn=>z fun C=>hn (keep C)⟩
 |8,_,_,⟨g,D,y,z⟩=>exact⟨g,D,y,fun hn=>z fun C=>hn (keep C)⟩
 |9,e,_,_=>exact absurd rfl e
 |10,_,_,⟨g,E,H,D,y,z⟩=>exact⟨g,E,H,D,y,fun hn=>z fun C=>hn (keep C)⟩
 |11,_,_,⟨g,E,H,D,y,z⟩=>exact⟨g,E,H,D,y,fun hn=>z fun C=>hn (keep C)⟩
 |12,_,_,A=>exact A
 |13,_,_,A=>exact A
 |14,_,_,A=>exact A
 |15,_,_,⟨y,z⟩=>exact⟨keep y,z⟩
 |16,_,_,⟨y,z⟩=>exact⟨keep y,z⟩
 |17,_,_,⟨y,z⟩=>exact⟨keep y,z⟩
 |18,_,_,⟨y,z,K,R,U⟩=>exact⟨y,z,K,fun hn=>R fun C=>hn (keep C),fun C=>U (Ki C (by omega))⟩
 |19,_,_,⟨y,z⟩=>exact⟨keep y,z⟩
 |20,_,_,⟨y,z,K⟩=>exact⟨keep y,keep z,K⟩
 |k+21,_,_,_=>exact trivial
theorem RI.op10 {v:RE}{H:World}{l:Array Bool}{r:RX}{w:World}(h:RI v H l r w)(hn:l.getD 10 true=false)(u:Value)(hf:RF v H (l.setIfInBounds 10 true) {r with x58:=u} w 10):RI v H (l.setIfInBounds 10 true) {r with x58:=u} w:=by
 refine⟨h.low,h.pos,fun k Z=>?_⟩
 by_cases e:k=10
 ·subst e
  exact hf
 have K:=Ki Z e
 have A:=h.facts k K
 have bc:¬ dn l 10:=Yb hn
 have keep:∀ {j},dn l j→dn (l.setIfInBounds 10 true) j:=fun X=>Kq X
 match k,e,K,A with
 |0,_,_,A=>exact A
 |1,_,_,A=>exact A
 |2,_,_,A=>exact A
 |3,_,_,⟨g,y,z⟩=>exact⟨g,y,fun hn=>z fun C=>hn (keep C)⟩
 |4,_,_,⟨g,y,z⟩=>exact⟨g,y,fun hn=>z fun C=>hn (keep C)⟩
 |5,_,_,A=>exact A
 |6,_,_,A=>exact A
 |7,_,_,⟨g,y,z⟩=>exact⟨g,y,fun hn=>z fun C=>hn (keep C)⟩
 |8,_,_,⟨g,D,y,z⟩=>exact⟨g,D,y,fun hn=>z fun C=>hn (keep C)⟩
 |9,_,_,⟨g,D,y,z⟩=>exact⟨g,D,y,fun hn=>z fun C=>hn (keep C)⟩
 |10,e,_,_=>exact absurd rfl e
 |11,_,_,⟨g,M,O,D,y,z⟩=>exact⟨g,M,O,D,y,fun hn=>z fun C=>hn (keep C)⟩
 |12,_,_,A=>exact A
 |13,_,_,A=>exact A
 |14,_,_,A=>exact A
 |15,_,_,⟨y,z⟩=>exact⟨keep y,z⟩
 |16,_,_,⟨y,z⟩=>exact⟨keep y,z⟩
 |17,_,_,⟨y,z⟩=>exact⟨keep y,z⟩
 |18,_,_,⟨y,z,E,R,U⟩=>exact⟨y,z,E,fun hn=>R fun C=>hn (keep C),fun C=>U (Ki C (by omega))⟩
 |19,_,_,⟨y,z⟩=>exact⟨keep y,z⟩
 |20,_,_,⟨y,z,E⟩=>exact⟨keep y,keep z,E⟩
 |k+21,_,_,_=>exact trivial
theorem RI.op11 {v:RE}{H:World}{l:Array Bool}{r:RX}{w:World}(h:RI v H l r w)(hn:l.getD 11 true=false)(u:Value)(hf:RF v H (l.setIfInBounds 11 true) {r with x59:=u} w 11):RI v H (l.setIfInBounds 11 true) {r with x59:=u} w:=by
 refine⟨h.low,h.pos,fun k Z=>?_⟩
 by_cases e:k=11
 ·subst e
  exact hf
 have K:=Ki Z e
 have A:=h.facts k K
 have bc:¬ dn l 11:=Yb hn
 have keep:∀ {j},dn l j→dn (l.setIfInBounds 11 true) j:=fun X=>Kq X
 match k,e,K,A with
 |0,_,_,A=>exact A
 |1,_,_,A=>exact A
 |2,_,_,A=>exact A
 |3,_,_,⟨g,y,z⟩=>exact⟨g,y,fun hn=>z fun C=>hn (keep C)⟩
 |4,_,_,⟨g,y,z⟩=>exact⟨g,y,fun hn=>z fun C=>hn (keep C)⟩
 |5,_,_,A=>exact A
 |6,_,_,A=>exact A
 |7,_,_,⟨g,y,z⟩=>exact⟨g,y,fun hn=>z fun C=>hn (keep C)⟩
 |8,_,_,⟨g,D,y,z⟩=>exact⟨g,D,y,fun hn=>z fun C=>hn (keep C)⟩
 |9,_,_,⟨g,D,y,z⟩=>exact⟨g,D,y,fun hn=>z fun C=>hn (keep C)⟩
 |10,_,_,⟨g,M,O,D,y,z⟩=>exact⟨g,M,O,D,y,fun hn=>z fun C=>hn (keep C)⟩
 |11,e,_,_=>exact absurd rfl e
 |12,_,_,A=>exact A
 |13,_,_,A=>exact A
 |14,_,_,A=>exact A
 |15,_,_,⟨y,z⟩=>exact⟨keep y,z⟩
 |16,_,_,⟨y,z⟩=>exact⟨keep y,z⟩
 |17,_,_,⟨y,z⟩=>exact⟨keep y,z⟩
 |18,_,_,⟨y,z,E,R,U⟩=>exact⟨y,z,E,fun hn=>R fun C=>hn (keep C),fun C=>U (Ki C (by omega))⟩
 |19,_,_,⟨y,z⟩=>exact⟨keep y,z⟩
 |20,_,_,⟨y,z,E⟩=>exact⟨keep y,keep z,E⟩
 |k+21,_,_,_=>exact trivial
theorem RI.op12 {v:RE}{M:World}{l:Array Bool}{r:RX}{w:World}(h:RI v M l r w)(hn:l.getD 12 true=false)(u:Value)(hf:RF v M (l.setIfInBounds 12 true) {r with x60:=u} w 12):RI v M (l.setIfInBounds 12 true) {r with x60:=u} w:=by
 refine⟨h.low,h.pos,fun k Z=>?_⟩
 by_cases e:k=12
 ·subst e
  exact hf
 have O:=Ki Z e
 have C:=h.facts k O
 have bc:¬ dn l 12:=Yb hn
 have keep:∀ {j},dn l j→dn (l.setIfInBounds 12 true) j:=fun X=>Kq X
 match k,e,O,C with
 |0,_,_,C=>exact C
 |1,_,_,C=>exact C
 |2,_,_,C=>exact C
 |3,_,_,⟨g,y,z⟩=>exact⟨g,y,fun hn=>z fun A=>hn (keep A)⟩
 |4,_,_,⟨g,y,z⟩=>exact⟨g,y,fun hn=>z fun A=>hn (keep A)⟩
 |5,_,_,C=>exact C
 |6,_,_,C=>exact C
 |7,_,_,⟨g,y,z⟩=>exact⟨g,y,fun hn=>z fun A=>hn (keep A)⟩
 |8,_,_,⟨g,D,y,z⟩=>exact⟨g,D,y,fun hn=>z fun A=>hn (keep A)⟩
 |9,_,_,⟨g,D,y,z⟩=>exact⟨g,D,y,fun hn=>z fun A=>hn (keep A)⟩
 |10,_,_,⟨g,E,H,D,y,z⟩=>exact⟨g,E,H,D,y,fun hn=>z fun A=>hn (keep A)⟩
 |11,_,_,⟨g,E,H,D,y,z⟩=>exact⟨g,E,H,D,y,fun hn=>z fun A=>hn (keep A)⟩
 |12,e,_,_=>exact absurd rfl e
 |13,_,_,C=>exact C
 |14,_,_,C=>exact C
 |15,_,_,⟨y,z⟩=>exact⟨keep y,z⟩
 |16,_,_,⟨y,z⟩=>exact⟨keep y,z⟩
 |17,_,_,⟨y,z⟩=>exact⟨keep y,z⟩
 |18,_,_,⟨y,z,K,R,U⟩=>exact⟨y,z,K,fun hn=>R fun A=>hn (keep A),fun A=>U (Ki A (by omega))⟩
 |19,_,_,⟨y,z⟩=>exact⟨keep y,z⟩
 |20,_,_,⟨y,z,K⟩=>exact⟨keep y,keep z,K⟩
 |k+21,_,_,_=>exact trivial
theorem RI.op13 {v:RE}{M:World}{l:Array Bool}{r:RX}{w:World}(h:RI v M l r w)(hn:l.getD 13 true=false)(u:Value)(hf:RF v M (l.setIfInBounds 13 true) {r with x61:=u} w 13):RI v M (l.setIfInBounds 13 true) {r with x61:=u} w:=by
 refine⟨h.low,h.pos,fun k Z=>?_⟩
 by_cases e:k=13
 ·subst e
  exact hf
 have O:=Ki Z e
 have C:=h.facts k O
 have bc:¬ dn l 13:=Yb hn
 have keep:∀ {j},dn l j→dn (l.setIfInBounds 13 true) j:=fun X=>Kq X
 match k,e,O,C with
 |0,_,_,C=>exact C
 |1,_,_,C=>exact C
 |2,_,_,C=>exact C
 |3,_,_,⟨g,y,z⟩=>exact⟨g,y,fun hn=>z fun A=>hn (keep A)⟩
 |4,_,_,⟨g,y,z⟩=>exact⟨g,y,fun hn=>z fun A=>hn (keep A)⟩
 |5,_,_,C=>exact C
 |6,_,_,C=>exact C
 |7,_,_,⟨g,y,z⟩=>exact⟨g,y,fun hn=>z fun A=>hn (keep A)⟩
 |8,_,_,⟨g,D,y,z⟩=>exact⟨g,D,y,fun hn=>z fun A=>hn (keep A)⟩
 |9,_,_,⟨g,D,y,z⟩=>exact⟨g,D,y,fun hn=>z fun A=>hn (keep A)⟩
 |10,_,_,⟨g,E,H,D,y,z⟩=>exact⟨g,E,H,D,y,fun hn=>z fun A=>hn (keep A)⟩
 |11,_,_,⟨g,E,H,D,y,z⟩=>exact⟨g,E,H,D,y,fun hn=>z fun A=>hn (keep A)⟩
 |12,_,_,C=>exact C
 |13,e,_,_=>exact absurd rfl e
 |14,_,_,C=>exact C
 |15,_,_,⟨y,z⟩=>exact⟨keep y,z⟩
 |16,_,_,⟨y,z⟩=>exact⟨keep y,z⟩
 |17,_,_,⟨y,z⟩=>exact⟨keep y,z⟩
 |18,_,_,⟨y,z,K,R,U⟩=>exact⟨y,z,K,fun hn=>R fun A=>hn (keep A),fun A=>U (Ki A (by omega))⟩
 |19,_,_,⟨y,z⟩=>exact⟨keep y,z⟩
 |20,_,_,⟨y,z,K⟩=>exact⟨keep y,keep z,K⟩
 |k+21,_,_,_=>exact trivial
theorem RI.op15 {v:RE}{M:World}{l:Array Bool}{r:RX}{w:World}(h:RI v M l r w)(hn:l.getD 15 true=false)(u:Value)(hf:RF v M (l.setIfInBounds 15 true) {r with x47:=u} w 15):RI v M (l.setIfInBounds 15 true) {r with x47:=u} w:=by
 refine⟨h.low,h.pos,fun k Z=>?_⟩
 by_cases e:k=15
 ·subst e
  exact hf
 have O:=Ki Z e
 have C:=h.facts k O
 have bc:¬ dn l 15:=Yb hn
 have keep:∀ {j},dn l j→dn (l.setIfInBounds 15 true) j:=fun X=>Kq X
 match k,e,O,C with
 |0,_,_,C=>exact C
 |1,_,_,C=>exact C
 |2,_,_,C=>exact C
 |3,_,_,⟨g,y,z⟩=>exact⟨g,y,fun hn=>z fun A=>hn (keep A)⟩
 |4,_,_,⟨g,y,z⟩=>exact⟨g,y,fun hn=>z fun A=>hn (keep A)⟩
 |5,_,_,C=>exact C
 |6,_,_,C=>exact C
 |7,_,_,⟨g,y,z⟩=>exact⟨g,y,fun hn=>z fun A=>hn (keep A)⟩
 |8,_,_,⟨g,D,y,z⟩=>exact⟨g,D,y,fun hn=>z fun A=>hn (keep A)⟩
 |9,_,_,⟨g,D,y,z⟩=>exact⟨g,D,y,fun hn=>z fun A=>hn (keep A)⟩
 |10,_,_,⟨g,E,H,D,y,z⟩=>exact⟨g,E,H,D,y,fun hn=>z fun A=>hn (keep A)⟩
 |11,_,_,⟨g,E,H,D,y,z⟩=>exact⟨g,E,H,D,y,fun hn=>z fun A=>hn (keep A)⟩
 |12,_,_,C=>exact C
 |13,_,_,C=>exact C
 |14,_,_,C=>exact C
 |15,e,_,_=>exact absurd rfl e
 |16,_,_,⟨y,z⟩=>exact⟨keep y,z⟩
 |17,_,_,⟨y,z⟩=>exact⟨keep y,z⟩
 |18,_,_,⟨y,z,K,R,U⟩=>exact⟨y,z,K,fun hn=>R fun A=>hn (keep A),fun A=>U (Ki A (by omega))⟩
 |19,_,_,⟨y,z⟩=>exact⟨keep y,z⟩
 |20,_,_,⟨y,z,K⟩=>exact⟨keep y,keep z,K⟩
 |k+21,_,_,_=>exact trivial
theorem RI.op16 {v:RE}{M:World}{l:Array Bool}{r:RX}{w:World}(h:RI v M l r w)(hn:l.getD 16 true=false)(u:Value)(hf:RF v M (l.setIfInBounds 16 true) {r with x63:=u} w 16):RI v M (l.setIfInBounds 16 true) {r with x63:=u} w:=by
 refine⟨h.low,h.pos,fun k Z=>?_⟩
 by_cases e:k=16
 ·subst e
  exact hf
 have O:=Ki Z e
 have C:=h.facts k O
 have bc:¬ dn l 16:=Yb hn
 have keep:∀ {j},dn l j→dn (l.setIfInBounds 16 true) j:=fun X=>Kq X
 match k,e,O,C with
 |0,_,_,C=>exact C
 |1,_,_,C=>exact C
 |2,_,_,C=>exact C
 |3,_,_,⟨g,y,z⟩=>exact⟨g,y,fun hn=>z fun A=>hn (keep A)⟩
 |4,_,_,⟨g,y,z⟩=>exact⟨g,y,fun hn=>z fun A=>hn (keep A)⟩
 |5,_,_,C=>exact C
 |6,_,_,C=>exact C
 |7,_,_,⟨g,y,z⟩=>exact⟨g,y,fun hn=>z fun A=>hn (keep A)⟩
 |8,_,_,⟨g,D,y,z⟩=>exact⟨g,D,y,fun hn=>z fun A=>hn (keep A)⟩
 |9,_,_,⟨g,D,y,z⟩=>exact⟨g,D,y,fun hn=>z fun A=>hn (keep A)⟩
 |10,_,_,⟨g,E,H,D,y,z⟩=>exact⟨g,E,H,D,y,fun hn=>z fun A=>hn (keep A)⟩
 |11,_,_,⟨g,E,H,D,y,z⟩=>exact⟨g,E,H,D,y,fun hn=>z fun A=>hn (keep A)⟩
 |12,_,_,C=>exact C
 |13,_,_,C=>exact C
 |14,_,_,C=>exact C
 |15,_,_,⟨y,z⟩=>exact⟨keep y,z⟩
 |16,e,_,_=>exact absurd rfl e
 |17,_,_,⟨y,z⟩=>exact⟨keep y,z⟩
 |18,_,_,⟨y,z,K,R,U⟩=>exact⟨y,z,K,fun hn=>R fun A=>hn (keep A),fun A=>U (Ki A (by omega))⟩
 |19,_,_,⟨y,z⟩=>exact⟨keep y,z⟩
 |20,_,_,⟨y,z,K⟩=>exact⟨keep y,keep z,K⟩
 |k+21,_,_,_=>exact trivial
theorem RI.op17 {v:RE}{M:World}{l:Array Bool}{r:RX}{w:World}(h:RI v M l r w)(hn:l.getD 17 true=false)(u:Value)(hf:RF v M (l.setIfInBounds 17 true) {r with x64:=u} w 17):RI v M (l.setIfInBounds 17 true) {r with x64:=u} w:=by
 refine⟨h.low,h.pos,fun k Z=>?_⟩
 by_cases e:k=17
 ·subst e
  exact hf
 have O:=Ki Z e
 have C:=h.facts k O
 have bc:¬ dn l 17:=Yb hn
 have keep:∀ {j},dn l j→dn (l.setIfInBounds 17 true) j:=fun X=>Kq X
 match k,e,O,C with
 |0,_,_,C=>exact C
 |1,_,_,C=>exact C
 |2,_,_,C=>exact C
 |3,_,_,⟨g,y,z⟩=>exact⟨g,y,fun hn=>z fun A=>hn (keep A)⟩
 |4,_,_,⟨g,y,z⟩=>exact⟨g,y,fun hn=>z fun A=>hn (keep A)⟩
 |5,_,_,C=>exact C
 |6,_,_,C=>exact C
 |7,_,_,⟨g,y,z⟩=>exact⟨g,y,fun hn=>z fun A=>hn (keep A)⟩
 |8,_,_,⟨g,D,y,z⟩=>exact⟨g,D,y,fun hn=>z fun A=>hn (keep A)⟩
 |9,_,_,⟨g,D,y,z⟩=>exact⟨g,D,y,fun hn=>z fun A=>hn (keep A)⟩
 |10,_,_,⟨g,E,H,D,y,z⟩=>exact⟨g,E,H,D,y,fun hn=>z fun A=>hn (keep A)⟩
 |11,_,_,⟨g,E,H,D,y,z⟩=>exact⟨g,E,H,D,y,fun hn=>z fun A=>hn (keep A)⟩
 |12,_,_,C=>exact C
 |13,_,_,C=>exact C
 |14,_,_,C=>exact C
 |15,_,_,⟨y,z⟩=>exact⟨keep y,z⟩
 |16,_,_,⟨y,z⟩=>exact⟨keep y,z⟩
 |17,e,_,_=>exact absurd rfl e
 |18,_,_,⟨y,z,K,R,U⟩=>exact⟨y,z,K,fun hn=>R fun A=>hn (keep A),fun A=>U (Ki A (by omega))⟩
 |19,_,_,⟨y,z⟩=>exact⟨keep y,z⟩
 |20,_,_,⟨y,z,K⟩=>exact⟨keep y,keep z,K⟩
 |k+21,_,_,_=>exact trivial
theorem RI.op19 {v:RE}{M:World}{l:Array Bool}{r:RX}{w:World}(h:RI v M l r w)(hn:l.getD 19 true=false)(u:Value)(hf:RF v M (l.setIfInBounds 19 true) {r with x14:=u} w 19):RI v M (l.setIfInBounds 19 true) {r with x14:=u} w:=by
 refine⟨h.low,h.pos,fun k Z=>?_⟩
 by_cases e:k=19
 ·subst e
  exact hf
 have O:=Ki Z e
 have C:=h.facts k O
 have bc:¬ dn l 19:=Yb hn
 have keep:∀ {j},dn l j→dn (l.setIfInBounds 19 true) j:=fun X=>Kq X
 match k,e,O,C with
 |0,_,_,C=>exact C
 |1,_,_,C=>exact C
 |2,_,_,C=>exact C
 |3,_,_,⟨g,y,z⟩=>exact⟨g,y,fun hn=>z fun A=>hn (keep A)⟩
 |4,_,_,⟨g,y,z⟩=>exact⟨g,y,fun hn=>z fun A=>hn (keep A)⟩
 |5,_,_,C=>exact C
 |6,_,_,C=>exact C
 |7,_,_,⟨g,y,z⟩=>exact⟨g,y,fun hn=>z fun A=>hn (keep A)⟩
 |8,_,_,⟨g,D,y,z⟩=>exact⟨g,D,y,fun hn=>z fun A=>hn (keep A)⟩
 |9,_,_,⟨g,D,y,z⟩=>exact⟨g,D,y,fun hn=>z fun A=>hn (keep A)⟩
 |10,_,_,⟨g,E,H,D,y,z⟩=>exact⟨g,E,H,D,y,fun hn=>z fun A=>hn (keep A)⟩
 |11,_,_,⟨g,E,H,D,y,z⟩=>exact⟨g,E,H,D,y,fun hn=>z fun A=>hn (keep A)⟩
 |12,_,_,C=>exact C
 |13,_,_,C=>exact C
 |14,_,_,C=>exact C
 |15,_,_,⟨y,z⟩=>exact⟨keep y,z⟩
 |16,_,_,⟨y,z⟩=>exact⟨keep y,z⟩
 |17,_,_,⟨y,z⟩=>exact⟨keep y,z⟩
 |18,_,_,⟨y,z,K,R,U⟩=>exact⟨y,z,K,fun hn=>R fun A=>hn (keep A),fun A=>U (Ki A (by omega))⟩
 |19,e,_,_=>exact absurd rfl e
 |20,_,_,⟨y,z,K⟩=>exact⟨keep y,keep z,K⟩
 |k+21,_,_,_=>exact trivial
theorem RI.op18 {v:RE}{M:World}{l:Array Bool}{r:RX}{w:World}(h:RI v M l r w)(hn:l.getD 18 true=false)(u:Value)(fa:Nat)(hf:RF v M (l.setIfInBounds 18 true) {r with x15:=u,fa:=fa} w 18):RI v M (l.setIfInBounds 18 true) {r with x15:=u,fa:=fa} w:=by
 refine⟨h.low,h.pos,fun k R=>?_⟩
 by_cases e:k=18
 ·subst e
  exact hf
 have K:=Ki R e
 have A:=h.facts k K
 have U:¬ dn l 18:=Yb hn
 have keep:∀ {j},dn l j→dn (l.setIfInBounds 18 true) j:=fun O=>Kq O
 match k,e,K,A with
 |0,_,_,A=>exact A
 |1,_,_,A=>exact A
 |2,_,_,A=>exact A
 |3,_,_,⟨g,y,z⟩=>exact⟨g,y,fun hn=>z fun C=>hn (keep C)⟩
 |4,_,_,⟨g,y,z⟩=>exact⟨g,y,fun hn=>z fun C=>hn (keep C)⟩
 |5,_,_,A=>exact A
 |6,_,_,A=>exact A
 |7,_,_,⟨g,y,z⟩=>exact⟨g,y,fun hn=>z fun C=>hn (keep C)⟩
 |8,_,_,⟨g,D,y,z⟩=>exact⟨g,D,y,fun hn=>z fun C=>hn (keep C)⟩
 |9,_,_,⟨g,D,y,z⟩=>exact⟨g,D,y,fun hn=>z fun C=>hn (keep C)⟩
 |10,_,_,⟨g,E,H,D,y,z⟩=>exact⟨g,E,H,D,y,fun hn=>z fun C=>hn (keep C)⟩
 |11,_,_,⟨g,E,H,D,y,z⟩=>exact⟨g,E,H,D,y,fun hn=>z fun C=>hn (keep C)⟩
 |12,_,_,A=>exact A
 |13,_,_,A=>exact A
 |14,_,_,A=>exact A
 |15,_,_,⟨y,z⟩=>exact⟨keep y,z⟩
 |16,_,_,⟨y,z⟩=>exact⟨keep y,z⟩
 |17,_,_,⟨y,z⟩=>exact⟨keep y,z⟩
 |18,e,_,_=>exact absurd rfl e
 |19,_,_,⟨y,z⟩=>exact⟨keep y,z⟩
 |20,e,K,A=>exact absurd A.2.1 U
 |k+21,_,_,_=>exact trivial
theorem RI.op14 {v:RE}{O:World}{l:Array Bool}{r:RX}{w:World}(h:RI v O l r w)(hn:l.getD 14 true=false)(u:Value)(Y:World)(g:Nat)(bs:List Nat)(ll:Value)(c nd row col pg:Int)(R:dn l 18→r.fa≠g∧r.fa∉bs)(hf:RF v O (l.setIfInBounds 14 true) {r with x62:=u,Y:=Y,g:=g,bs:=bs,ll:=ll,c:=c,nd:=nd,row:=row,col:=col,pg:=pg} w 14):RI v O (l.setIfInBounds 14 true) {r with x62:=u,Y:=Y,g:=g,bs:=bs,ll:=ll,c:=c,nd:=nd,row:=row,col:=col,pg:=pg} w:=by
 refine⟨h.low,h.pos,fun k X=>?_⟩
 by_cases e:k=14
 ·subst e
  exact hf
 have D:=Ki X e
 have y:=h.facts k D
 have H:¬ dn l 14:=Yb hn
 have keep:∀ {j},dn l j→dn (l.setIfInBounds 14 true) j:=fun U=>Kq U
 match k,e,D,y with
 |0,_,_,y=>exact y
 |1,_,_,y=>exact y
 |2,_,_,y=>exact y
 |3,_,_,⟨g,A,C⟩=>exact⟨g,A,fun hn=>C fun z=>hn (keep z)⟩
 |4,_,_,⟨g,A,C⟩=>exact⟨g,A,fun hn=>C fun z=>hn (keep z)⟩
 |5,_,_,y=>exact y
 |6,_,_,y=>exact y
 |7,_,_,⟨g,A,C⟩=>exact⟨g,A,fun hn=>C fun z=>hn (keep z)⟩
 |8,_,_,⟨g,E,A,C⟩=>exact⟨g,E,A,fun hn=>C fun z=>hn (keep z)⟩
 |9,_,_,⟨g,E,A,C⟩=>exact⟨g,E,A,fun hn=>C fun z=>hn (keep z)⟩
 |10,_,_,⟨g,K,M,E,A,C⟩=>exact⟨g,K,M,E,A,fun hn=>C fun z=>hn (keep z)⟩
 |11,_,_,⟨g,K,M,E,A,C⟩=>exact⟨g,K,M,E,A,fun hn=>C fun z=>hn (keep z)⟩
 |12,_,_,y=>exact y
 |13,_,_,y=>exact y
 |14,e,_,_=>exact absurd rfl e
 |15,e,D,y=>exact absurd y.1 H
 |16,e,D,y=>exact absurd y.1 H
 |17,e,D,y=>exact absurd y.1 H
 |18,e,D,y=>exact⟨y.1,y.2.1,y.2.2.1,fun hn=>y.2.2.2.1 fun z=>hn (keep z),fun _=>R D⟩
 |19,e,D,y=>exact absurd y.1 H
 |20,e,D,y=>exact absurd y.1 H
 |k+21,_,_,_=>exact trivial
theorem Kf5 {l:Array Bool}{i:Nat}(h:l.getD i true=false):dn (l.setIfInBounds i true) i:=by
 unfold dn
 rw[Oj5]at *
 by_cases y:i<l.size
 ·rw[Oo4 y];rfl
 rw[Og9 (by omega)]at h;cases h
theorem RI.op20 {v:RE}{E:World}{l:Array Bool}{r:RX}{w w':World}(h:RI v E l r w)(hn:l.getD 20 true=false)(H:dn l 14)(U:dn l 18)(bj:Below E.heap.size E w')(bx:w'.heap.size=w.heap.size)(bn:w'.heap[r.fa]?=some (.cells #[.int .i64 r.c,.int .i64 r.nd,.int .i64 r.row,.int .i64 r.col,.int .i64 r.pg] 40 (0,0)))(X:∀ k,k≠r.fa→w'.heap[k]?=w.heap[k]?):RI v E (l.setIfInBounds 20 true) r w':=by
 have keep:∀ {j},dn l j→dn (l.setIfInBounds 20 true) j:=fun br=>Kq br
 have D:∀ {q:Prop},¬ dn (l.setIfInBounds 20 true) 14→q:=fun O=>absurd (keep H) O
 obtain⟨_,bz,bA,_,Z⟩:=h.facts 18 U
 obtain⟨bc,bf⟩:=Z H
 refine⟨bj,h.pos,fun k bu=>?_⟩
 by_cases e:k=20
 ·subst e
  exact⟨keep H,keep U,bn⟩
 have O:=Ki bu e
 have z:=h.facts k O
 match k,e,z with
 |0,_,z=>exact z
 |1,_,z=>exact z
 |2,_,z=>exact z
 |3,_,⟨g,y,_⟩=>exact⟨g,y,D⟩
 |4,_,⟨g,y,_⟩=>exact⟨g,y,D⟩
 |5,_,z=>exact z
 |6,_,z=>exact z
 |7,_,⟨g,y,_⟩=>exact⟨g,y,D⟩
 |8,_,⟨g,C,y,_⟩=>exact⟨g,C,y,D⟩
 |9,_,⟨g,C,y,_⟩=>exact⟨g,C,y,D⟩
 |10,_,⟨g,K,M,C,y,_⟩=>exact⟨g,K,M,C,y,D⟩
 |11,_,⟨g,K,M,C,y,_⟩=>exact⟨g,K,M,C,y,D⟩
 |12,_,z=>exact z
 |13,_,z=>exact z
 |14,_,⟨y,A⟩=>exact⟨y,A.keep (X _ (Oc5 bc)) fun b bl=>X b fun e=>bf (e▸bl)⟩
 |15,_,⟨y,A⟩=>exact⟨keep y,A⟩
 |16,_,⟨y,A⟩=>exact⟨keep y,A⟩
 |17,_,⟨y,A⟩=>exact⟨keep y,A⟩
 |18,_,⟨y,A,bh,_,bi⟩=>exact⟨y,A,by rw[bx];exact bh,fun R=>absurd (Kf5 hn) R,fun R=>bi (Ki R (by omega))⟩
 |19,_,⟨y,A⟩=>exact⟨keep y,A⟩
 |20,e,_=>exact absurd rfl e
 |k+21,_,_=>exact trivial
theorem RI.f0 {v:RE}{z:World}{l:Array Bool}{r:RX}{w:World}(h:RI v z l r w)(y:dn l 0):r.x48=.pointer (some ⟨v.st,0,none⟩):=h.facts 0 y
theorem RI.f1 {v:RE}{z:World}{l:Array Bool}{r:RX}{w:World}(h:RI v z l r w)(y:dn l 1):r.x49=Nd.val ⟨0,0,0,Zu,(none,0,0),(none,0,0),0⟩:=h.facts 1 y
theorem RI.f2 {v:RE}{z:World}{l:Array Bool}{r:RX}{w:World}(h:RI v z l r w)(y:dn l 2):r.x50=v.vp:=h.facts 2 y
theorem RI.f3 {v:RE}{z:World}{l:Array Bool}{r:RX}{w:World}(h:RI v z l r w)(y:dn l 3):∃ g,r.x51=.slice (some ⟨g,0,none⟩) 1 1∧(¬ dn l 14→B3 v w g):=h.facts 3 y
theorem RI.f4 {v:RE}{z:World}{l:Array Bool}{r:RX}{w:World}(h:RI v z l r w)(y:dn l 4):∃ g,r.x52=Nd.val ⟨1,0,0,⟨#[]⟩,(some ⟨g,0,none⟩,1,1),(none,0,0),0⟩∧(¬ dn l 14→B3 v w g):=h.facts 4 y
theorem RI.f5 {v:RE}{z:World}{l:Array Bool}{r:RX}{w:World}(h:RI v z l r w)(y:dn l 5):r.x53=v.ve:=h.facts 5 y
theorem RI.f6 {v:RE}{z:World}{l:Array Bool}{r:RX}{w:World}(h:RI v z l r w)(y:dn l 6):r.x54=Jsa:=h.facts 6 y
theorem RI.f7 {v:RE}{z:World}{l:Array Bool}{r:RX}{w:World}(h:RI v z l r w)(y:dn l 7):∃ g,r.x55=.slice (some ⟨g,0,none⟩) 1 1∧(¬ dn l 14→B7 w g):=h.facts 7 y
theorem RI.f8 {v:RE}{A:World}{l:Array Bool}{r:RX}{w:World}(h:RI v A l r w)(z:dn l 8):∃ g y,r.x56=.slice (some ⟨g,0,none⟩) 2 2∧(¬ dn l 14→B8 v w g y):=h.facts 8 z
theorem RI.f9 {v:RE}{A:World}{l:Array Bool}{r:RX}{w:World}(h:RI v A l r w)(z:dn l 9):∃ g y,r.x57=Nd.val ⟨2,1,0,⟨#[]⟩,(some ⟨g,0,none⟩,2,2),(none,0,0),0⟩∧(¬ dn l 14→B8 v w g y):=h.facts 9 z
theorem RI.f10 {v:RE}{D:World}{l:Array Bool}{r:RX}{w:World}(h:RI v D l r w)(C:dn l 10):∃ g y A z,r.x58=.slice (some ⟨g,0,none⟩) 3 3∧(¬ dn l 14→B10 v w g y A z):=h.facts 10 C
theorem RI.f11 {v:RE}{D:World}{l:Array Bool}{r:RX}{w:World}(h:RI v D l r w)(C:dn l 11):∃ g y A z,r.x59=.agg #[.slice (some ⟨g,0,none⟩) 3 3]∧(¬ dn l 14→B10 v w g y A z):=h.facts 11 C
theorem RI.f12 {v:RE}{z:World}{l:Array Bool}{r:RX}{w:World}(h:RI v z l r w)(y:dn l 12):r.x60=.agg #[.int .i64 v.oz,.int .i64 v.ob,.int .i64 v.ol,.int .i64 v.os]:=h.facts 12 y
theorem RI.f13 {v:RE}{D:World}{l:Array Bool}{r:RX}{w:World}(h:RI v D l r w)(C:dn l 13):∃ (A:Nat) (z y:Int),r.x61=.agg #[.int .i64 A,.int .i64 z,.int .i64 y,.int .i64 v.os]∧1≤A∧A≤1000∧2≤z∧z≤1000∧0≤y∧y≤4096:=h.facts 13 C
theorem RI.f14 {v:RE}{z:World}{l:Array Bool}{r:RX}{w:World}(h:RI v z l r w)(y:dn l 14):r.x62=.tuple #[r.ll,Ko r.c r.nd r.row r.col r.pg]∧Jjg v.tab (Ql v.p v.e) r.Y r.ll r.c r.nd r.row r.col r.pg r.g r.bs w:=h.facts 14 y
theorem RI.f15 {v:RE}{z:World}{l:Array Bool}{r:RX}{w:World}(h:RI v z l r w)(y:dn l 15):dn l 14∧r.x47=.tuple #[r.ll,Ko r.c r.nd r.row r.col r.pg]:=h.facts 15 y
theorem RI.f16 {v:RE}{z:World}{l:Array Bool}{r:RX}{w:World}(h:RI v z l r w)(y:dn l 16):dn l 14∧r.x63=r.ll:=h.facts 16 y
theorem RI.f17 {v:RE}{z:World}{l:Array Bool}{r:RX}{w:World}(h:RI v z l r w)(y:dn l 17):dn l 14∧r.x64=Ko r.c r.nd r.row r.col r.pg:=h.facts 17 y
theorem RI.f18 {v:RE}{y:World}{l:Array Bool}{r:RX}{w:World}(h:RI v y l r w)(z:dn l 18):r.x15=.pointer (some ⟨r.fa,0,none⟩)∧y.heap.size≤r.fa∧r.fa<w.heap.size∧(¬ dn l 20→w.heap[r.fa]?=some (.cells #[.int .i64 0,.int .i64 0,.int .i64 0,.int .i64 0,.int .i64 0] 40 (0,0)))∧(dn l 14→r.fa≠r.g∧r.fa∉r.bs):=h.facts 18 z
theorem RI.f19 {v:RE}{z:World}{l:Array Bool}{r:RX}{w:World}(h:RI v z l r w)(y:dn l 19):dn l 14∧r.x14=r.ll:=h.facts 19 y
theorem RI.f20 {v:RE}{z:World}{l:Array Bool}{r:RX}{w:World}(h:RI v z l r w)(y:dn l 20):dn l 14∧dn l 18∧w.heap[r.fa]?=some (.cells #[.int .i64 r.c,.int .i64 r.nd,.int .i64 r.row,.int .i64 r.col,.int .i64 r.pg] 40 (0,0)):=h.facts 20 y
structure Jfi (wc:World) (kv:Value) (kx:List (Option Addr×Nat)) (rows:List (List V)) (wr:World):Prop where
 own:Jo wr wc.heap.size 59 kv (List.zipWith Je1 kx rows)
 len:kx.length=rows.length
 vals:∀ (i:Nat) x r,kx[i]?=some x→rows[i]?=some r→Jv wc x.1 r
 low:Below wc.heap.size wc wr
theorem Jfi.nil (wc:World):Jfi wc (.slice none 0 0) [] [] wc:=⟨Jo.nil _ _ _,rfl,fun i x r h=>by simp at h,Oa5 _ _⟩
theorem Jfi.below {wc:World}{z:Value}{A:List (Option Addr×Nat)}{rows:List (List V)}{wr W:World}(h:Jfi wc z A rows wr)(y:Below wr.heap.size wr W):Jfi wc z A rows W:=
 ⟨Jl h.own fun g e=>y.block g (Je h.own e).2,h.len,h.vals,Jb h.low y⟩
theorem Kb7 (y:List (Option Addr×Nat))(rows:List (List V))(x:Option Addr×Nat)(r:List V)(h:y.length=rows.length):List.zipWith Je1 (y++[x]) (rows++[r])=List.zipWith Je1 y rows++[Je1 x r]:=by
 rw[Oo5 h]
 rfl
theorem Jfi.more {wc:World}{D kv':Value}{A:List (Option Addr×Nat)}{rows:List (List V)}{wr w4:World}(h:Jfi wc D A rows wr)(x:Option Addr×Nat)(r:List V)(K:Jv wc x.1 r)(o:Obj)(M:Jo w4 wc.heap.size 59 kv' (List.zipWith Je1 A rows++[Je1 x r]))(O:(wr.alloc o).grownBy w4 D.ownBlock):Jfi wc kv' (A++[x]) (rows++[r]) w4:=by
 have C:=h.below (Jc (Oa5 _ _) o)
 refine⟨by rw[Kb7 A rows x r h.len];exact M,by simp[h.len],fun i U R z y=>?_,Jy C.low O fun k H=>(Je C.own H).1⟩
 rw[Om7]at z y
 split at z
 ·rename_i hi
  rw[if_pos (by rw[←h.len];exact hi)]at y
  exact h.vals i U R z y
 rename_i hi
 rw[if_neg (by rw[←h.len];exact hi)]at y
 have E:i-A.length=0:=by
  have:=(Ob9.1 z).1
  simp at this
  omega
 rw[←h.len]at y
 rw[E]at z y
 cases z
 cases y
 exact K
theorem Jxh {p:List Pt}{rs:List (List V)}{k:Nat}(y:k<rs.length):Qy p (rs.take (k+1))=Qy p (rs.take k)++(if (pv1 p rs[k]).n=1 then [rs[k]]else []):=by
 unfold Qy
 rw[Oi7,Oa3 y,Option.toList_some,List.filter_append]
 congr 1
 by_cases h:(pv1 p rs[k]).n=1
 ·simp[h]
 simp[h]
theorem Khv {v:V}(h:okV 2 v):isT v=decide (v.n=1):=by
 rcases Jgb h with rfl|rfl|rfl<;>rfl
theorem Jqh (w:World)(a b c d e:Int):(Op.equal 40 (Ko a b c d e) (Ko a b c d e)).run prog w=.ok true w:=by
 rw[Op.equal,Op.maxDepth,run_equalIn_struct w 9999 40 _ _ Kef Kh3]
 have h:=Jyf
 generalize (prog.fieldsOf 40).toList=y at h
 rcases y with _|⟨bh,_|⟨bi,_|⟨bj,_|⟨bl,_|⟨bn,_|⟨br,y⟩⟩⟩⟩⟩⟩
 ·simp at h
 ·simp at h
 ·simp at h
 ·simp at h
 ·simp at h
 ·simp at h
  obtain⟨⟨z,A,C⟩,⟨D,E,H⟩,⟨K,M,O⟩,⟨R,U,X⟩,Z,bc,bf⟩:=h
  simp[Op.eqFields,z,A,C,D,E,H,K,M,O,R,U,X,Z,bc,bf,part,sizeOf,go_sem]
 simp at h
theorem Jmf (a b c d e:Int)(w:World):(binOp .eql 40 (Ko a b c d e) (Ko a b c d e)).run prog w=.ok (.bool true) w:=by
 simp[binOp,Jqh]
theorem Jj5 {es:List Pt}{x:List V}{w:World}{e:Ending}{w':World}(h:Joj es x w e w'):Below w.heap.size w w'∧∃ (v:V) (c:Nat),e=.returned (.tuple #[v.val,.int .i64 (c:Int)])∧((c=0∧Kl es x=.inl v)∨(c≠0∧Kl es x=.inr c)):=by
 obtain⟨A,⟨v,y,z⟩|⟨c,u,y,z,C⟩⟩:=h
 ·exact⟨A,v,0,z,.inl ⟨rfl,y⟩⟩
 exact⟨A,u,c,C,.inr ⟨z,y⟩⟩
structure Jda (wk:World) (wv:Value) (bs:List Nat) (rows:List (List V)) (wr:World):Prop where
 own:Jo wr wk.heap.size 59 wv (List.zipWith Jad bs rows)
 len:bs.length=rows.length
 rows:∀ (i:Nat) b r,bs[i]?=some b→rows[i]?=some r→Kv wr b r []∧wk.heap.size≤b∧wv.ownBlock≠some b
 low:Below wk.heap.size wk wr
theorem Jda.nil (wk:World):Jda wk (.slice none 0 0) [] [] wk:=⟨Jo.nil _ _ _,rfl,fun i b r h=>by simp at h,Oa5 _ _⟩
theorem Jda.below {wk:World}{C:Value}{bs:List Nat}{rows:List (List V)}{wr W:World}(h:Jda wk C bs rows wr)(A:Below wr.heap.size wr W):Jda wk C bs rows W:=
 ⟨Jl h.own fun g e=>A.block g (Je h.own e).2,h.len,fun i b r y z=>⟨(h.rows i b r y z).1.of_block (A.block b (h.rows i b r y z).1.lt),(h.rows i b r y z).2⟩,Jb h.low A⟩
theorem Jda.more {wk:World}{D E:Value}{bs:List Nat}{rows:List (List V)}{wr w4:World}(h:Jda wk D bs rows wr)(b:Nat)(r:List V)(bl:Kv wr b r [])(bf:wk.heap.size≤b)(bj:D.ownBlock≠some b)(o:Obj)(bn:Jo w4 wk.heap.size 59 E (List.zipWith Jad bs rows++[Jad b r]))(U:(wr.alloc o).grownBy w4 D.ownBlock)(br:E.ownBlock=D.ownBlock∨E.ownBlock=some (wr.alloc o).heap.size):Jda wk E (bs++[b]) (rows++[r]) w4:=by
 have M:=Jc (Oa5 _ wr) o
 have H:=h.below M
 have R:∀ y C,Kv wr y C []→D.ownBlock≠some y→Kv w4 y C []∧E.ownBlock≠some y:=fun y C K hn=>by
  have O:=K.lt
  refine⟨(K.of_block (M.block y O)).of_block (U.block y (by rw[Oa7];omega) (fun e=>hn e.symm)),fun e=>?_⟩
  rcases br with q|q
  ·exact hn (q.symm.trans e)
  rw[q]at e
  cases e
  rw[Oa7]at O
  omega
 refine⟨by rw[Oo5 h.len];exact bn,by simp[h.len],fun i y C A z=>?_,Jy H.low U fun k bi=>(Je H.own bi).1⟩
 rw[Om7]at A z
 split at A
 ·rename_i hi
  rw[if_pos (by rw[←h.len];exact hi)]at z
  obtain⟨X,Z,bc⟩:=h.rows i y C A z
  obtain⟨c1,c2⟩:=R y C X bc
  exact⟨c1,Z,c2⟩
 rename_i hi
 rw[if_neg (by rw[←h.len];exact hi)]at z
 have bh:i-bs.length=0:=by
  have:=(Ob9.1 A).1
  simp at this
  omega
 rw[←h.len]at z
 rw[bh]at A z
 cases A
 cases z
 obtain⟨c1,c2⟩:=R b r bl bj
 exact⟨c1,bf,c2⟩
theorem Jda.rowsAt {wk:World}{a:Option Addr}{n c:Nat}{bs:List Nat}{rows:List (List V)}{wr:World}(h:Jda wk (.slice a n c) bs rows wr):n=rows.length∧Zd wr a (List.zipWith (fun b (r:List V)=>((some ⟨b,0,none⟩:Option Addr),r.length)) bs rows) rows:=by
 obtain⟨H,K,e,z⟩:=h.own.cells
 cases e
 have A:(List.zipWith Jad bs rows).length=rows.length:=by rw[Oj8,h.len,Nat.min_self]
 refine⟨A,by rw[Oj8,h.len,Nat.min_self],by rw[Jya];exact z,fun i x r D C=>?_⟩
 obtain⟨b,y,E⟩:=Jyi bs rows h.len D
 rw[E]
 exact(h.rows i b r y C).1.vals
theorem Jhl (y:List (Option Addr×Nat))(rows:List (List V))(h:y.length=rows.length):(List.zipWith Je1 y rows).length=rows.length:=by rw[Oj8,h,Nat.min_self]
end Go.Proofs.YtjjdldddcegjiaaGreatDoor
