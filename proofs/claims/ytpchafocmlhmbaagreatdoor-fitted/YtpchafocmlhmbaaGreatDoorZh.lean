/- A store with one table: what its columns are; nodes and parts in memory. -/
import Derived.Test.YtpchafocmlhmbaaGreatDoorZe
namespace Go.Proofs.YtpchafocmlhmbaaGreatDoor
section
open Go.RowKit Go.Shelf
theorem Kv9 {y:DS}{T:TS}{rs:List (List V)}(U:Jer y T rs)(bi:Jel T.name T.types rs)(bh:∀ r∈rs,∀ v∈r,Jg v.n) :
  ∃ cs,Zo y T=.inl cs∧Zt T.types cs∧nR cs=rs.length∧∀ i,i<rs.length→Ji cs i=rs.getD i []:=by
 have H:Jid y T:=U.ok;obtain⟨Z,ba⟩:=Jmq y T H.group.1;have hr:=U.read;rw[Z]at hr;cases hc:Zo y T with
 |inr j=>rw[hc]at hr;cases hr
 |inl cs=>
  rw[hc]at hr;obtain⟨X,Y⟩:=ba cs hc;have K:Qf T.rows cs=rs:=by simpa using hr
  have O:T.rows=rs.length:=by rw[←K,Uu]
  have br:=H.cols;have E:nR cs=rs.length:=by
   unfold nR;rw[Y 0 (by rw[X];omega),O]
  have R:∀ i,i<rs.length→Ji cs i=rs.getD i []:=fun i hi=>by
   have:=Jge T.rows cs i (by omega);rw[K]at this;rw[Oa0,this];rfl
  refine⟨cs,rfl,⟨X,by omega,by omega,fun j D=>by rw[E,Y j D,O],by have:=H.rows;omega,fun i hi=>?_⟩,E,R⟩;rw[E]at hi;rw[R i hi];have bc:rs.getD i []=rs[i]:=by rw[Oa0,Oa3 hi];rfl
  rw[bc];obtain⟨bj,bn⟩:=bi.2.2.2 i hi;refine⟨bj,fun j D=>?_,bh _ (Ob3 hi)⟩;have:=bn j D;have bf:rs[i].getD j Jf=rs[i][j]:=by rw[Oa0,Oa3 D];rfl
  rw[bf];exact this
theorem Kff {y:DS}{T:TS}{rs:List (List V)}(h:Jbc y [(T,rs)])(K:Jel T.name T.types rs)(H:∀ r∈rs,∀ v∈r,Jg v.n) :
  ∃ cs,Ye y [T] T.name=.inl cs∧Zt T.types cs∧nR cs=rs.length∧∀ i,i<rs.length→Ji cs i=rs.getD i []:=by
 obtain⟨cs,D,E⟩:=Kv9 (h.tab (T,rs) (by simp)) K H;exact⟨cs,by unfold Ye Jcm;simp[Ub,D],E⟩
structure InT (E:DS) (Ts:List TS) (name:ByteArray) (ts:List Int) (rs:List (List V)) (cs:Cs):Prop where
 tab:Ye E Ts name=.inl cs
 good:Zt ts cs
 len:nR cs=rs.length
 row:∀ i,i<rs.length→Ji cs i=rs.getD i []
 tys:Jhd Ts name=ts
 find:Ub Ts name<Ts.length
structure Ktl (M:Nat→Prop) (wx:World) (st:Nat) (E:DS) (Ts:List TS) (L:List TbX):Prop where
 sto:Sto M wx st E Ts
 ok:∀ T∈Ts,Jid E T
 all:∀ T∈Ts,∀ cs,Zo E T=.inl cs→Zt T.types cs
 tabs:∀ (j:Nat) (t:TbX),L[j]?=some t→∃ cs,InT E Ts t.name t.ts t.rs cs
theorem Ktl.below {M:Nat→Prop}{y E:World}{st:Nat}{D:DS}{Ts:List TS}{L:List TbX}(h:Ktl M y st D Ts L)(H:Below y.heap.size y E):Ktl M E st D Ts L:=⟨h.sto.below H,h.ok,h.all,h.tabs⟩
theorem Ksm.tabs {w bz:World}{st:Nat}{L:List TbX}(h:Ksm w st L L.length bz)(hR:∀ t∈L,Jel t.name t.ts t.rs∧∀ r∈t.rs,∀ v∈r,Jg v.n)(bG:(L.map TbX.name).Nodup):∃ M E Ts,Ktl M bz st E Ts L:=by
 obtain⟨M,E,S,bA,bB,bC,X,_⟩:=h;have bD:∀ (j:Nat) (y:j<S.length),∃ t,L[j]?=some t∧S[j].1.name=t.name∧S[j].1.types=t.ts∧S[j].2=t.rs:=fun j y=>by
  have bi:j<L.length:=by omega
  exact⟨L[j],Oa3 bi,X j _ _ (Oa3 bi) (Oa3 y)⟩
 have Z:∀ (j:Nat) (y:j<S.length),Jid E S[j].1∧∃ cs,Zo E S[j].1=.inl cs∧Zt S[j].1.types cs∧nR cs=S[j].2.length∧∀ i,i<S[j].2.length→Ji cs i=S[j].2.getD i []:=fun j y=>by
  obtain⟨t,D,U,H,K⟩:=bD j y;obtain⟨bI,bJ⟩:=hR t (Of6 D);have bn:=bB.tab S[j] (Ob3 y);exact⟨bn.ok,Kv9 bn (by rw[U,H,K];exact bI) (by rw[K];exact bJ)⟩
 refine⟨M,E,S.map Prod.fst,bA,fun T Y=>?_,fun T Y cs ba=>?_,fun j t D=>?_⟩
 ·obtain⟨j,y,rfl⟩:=Od5 Y;rw[Oa6]at y;rw[Od9];exact(Z j y).1
 ·obtain⟨j,y,rfl⟩:=Od5 Y;rw[Oa6]at y;rw[Od9]at ba ⊢;obtain⟨_,bK,O,R,_⟩:=Z j y;rw[ba]at O;cases O
  exact R
 have y:j<S.length:=by rw[bC];exact(Ob9.1 D).1
 obtain⟨U,H,K⟩:=X j t _ D (Oa3 y);obtain⟨_,cs,O,R,br,bx⟩:=Z j y;have bj:j<(S.map Prod.fst).length:=by rw[Oa6];exact y
 have hf:Ub (S.map Prod.fst) t.name=j:=by
  refine Kc4 _ _ j bj (fun i hi e=>?_) (by rw[Od9];exact U);have bE:i<S.length:=by omega
  rw[Od9]at e;have bf:i<L.length:=by omega
  obtain⟨u1,_⟩:=X i _ _ (Oa3 bf) (Oa3 bE);have bh:j<L.length:=by omega
  have bH:L[j]=t:=by rw[Oa3 bh]at D;exact Oj6 D
  exact(List.pairwise_iff_getElem.1 bG) i j (by rw[Oa6];exact bf) (by rw[Oa6];exact bh) hi (by rw[Od9,Od9,bH,←u1,e])
 have bc:(S.map Prod.fst)[j]?=some S[j].1:=by rw[Ob1,Oa3 y];rfl
 rw[H]at R;rw[K]at br bx;refine⟨cs,by unfold Ye Jcm;rw[hf,bc];exact O,R,br,bx,by unfold Jhd;rw[hf,bc];exact H,by rw[hf];exact bj⟩
def ndC (p:Nd):List Value:=[.int .i64 p.op,.int .i64 p.l,.int .i64 p.r,.string p.tn,.slice p.xs.1 p.xs.2.1 p.xs.2.2,.slice p.ky.1 p.ky.2.1 p.ky.2.2,.int .i64 p.kk]
theorem Jnj {w:World}{g:Nat}{xs:List Value}{t:TypeId}(h:w.heap[g]?=some (.cells xs.toArray t (0,0)))(i:Nat):w.cell? ⟨g,i,none⟩=xs[i]?:=by
 simp[World.cell?,h]
theorem Jfm {w:World}{D:Nat}{E:List Nd}{t:TypeId}(h:w.heap[D]?=some (.cells (E.flatMap ndC).toArray t (0,0))):∀ (j:Nat) (nd:Nd),E[j]?=some nd→Zm w D (0+j*7) nd:=fun j nd H=>by
 have y:∀ i,i<7→w.cell? ⟨D,j*7+i,none⟩=(ndC nd)[i]?:=fun i hi=>by
  rw[Jnj h];exact Jek ndC 7 (fun _=>rfl) E j i nd H hi
 rw[Od0];exact⟨y 0 (by omega),y 1 (by omega),y 2 (by omega),y 3 (by omega),y 4 (by omega),y 5 (by omega),y 6 (by omega)⟩
theorem Jfp {w:World}{g:Nat}{es:List Pt}{t:TypeId}(h:w.heap[g]?=some (.cells (es.flatMap ptC).toArray t (0,0))):∀ (k:Nat) (p:Pt),es[k]?=some p→Qi w g (0+k*7) p:=fun k p D=>by
 have y:∀ i,i<7→w.cell? ⟨g,k*7+i,none⟩=(ptC p)[i]?:=fun i hi=>by
  rw[Jnj h];exact Jek ptC 7 (fun _=>rfl) es k i p D hi
 rw[Od0];exact⟨y 0 (by omega),y 1 (by omega),y 2 (by omega),y 3 (by omega),y 4 (by omega),y 5 (by omega),y 6 (by omega)⟩
theorem Jyd {w:World}{H pb D E:Nat}{e:List Pt}(h:w.cell? ⟨H,0,none⟩=some (.slice (some ⟨pb,D,none⟩) e.length E))(hp:∀ (k:Nat) (p:Pt),e[k]?=some p→Qi w pb (D+k*7) p):Jaz w H 0 [e]:=fun j es y=>by
 match j,y with
 |0,y=>cases y;exact⟨pb,D,E,h,hp⟩
def Jkp:List Pt:=[⟨0,0,0,0,Jf⟩,⟨1,0,0,1,⟨1,1,⟨#[]⟩⟩⟩,⟨2,0,1,0,Jf⟩]
theorem Kcr (sch:List Int):Uj sch []:=fun j p y=>by simp at y
theorem Kf8:Uj [1] Jkp:=by
 have y:Uj [1] ([]++[⟨0,0,0,0,Jf⟩]):=(Kcr [1]).snoc (Jh7 (c:=0) (by decide));have D:Uj [1] (([]++[⟨0,0,0,0,Jf⟩])++[⟨1,0,0,1,⟨1,1,⟨#[]⟩⟩⟩]):=y.snoc (Jtf (by unfold okV;simp[okB,okK]) (by simp[Jg]) ⟨by omega,by omega⟩);exact D.snoc (Zs Kxp (o:=2) (l:=0) (r:=1) (by omega) (by omega) (by decide) (by decide) (by decide) (by decide))
def Jcq:List PN:=[⟨0,0,Yh,[],[],0,0⟩,⟨2,0,⟨#[]⟩,[Jkp],[],0,0⟩]
theorem Jw6 {tys:ByteArray→List Int}(h:tys Yh=[1]):Jdk tys [[1],[1]] Jcq where
 len:=rfl
 ok:=fun j n y=>by
  match j,y with
  |0,y=>cases y;exact⟨[1],rfl,by decide,fun _=>h.symm,fun h=>absurd h (by decide),fun h=>absurd h (by decide),fun h=>absurd h (by decide),fun h=>absurd h (by decide)⟩
  |1,y=>
   cases y
   refine⟨[1],rfl,by decide,fun h=>absurd h (by decide),fun h=>absurd h (by decide),fun _=>⟨[1],rfl,rfl,by decide,by decide,fun e D=>?_⟩,fun h=>absurd h (by decide),fun h=>absurd h (by decide)⟩;rw[Oc6]at D;subst D;exact⟨Kf8,by decide,by decide⟩
 ahead:=fun j n y i hi=>by
  match j,y with
  |0,y=>cases y;simp[Jg7]at hi
  |1,y=>cases y;simp[Jg7]at hi;subst hi;exact⟨by omega,rfl⟩
 all:=fun i hi=>by
  have:i=0:=by simp[Jcq]at hi;omega
  subst this;rfl
 one:=by decide
 few:=by decide
theorem Khj:Kl Jkp [Za]=.inl ⟨1,42,⟨#[]⟩⟩:=by rfl
end
section
open Go.RowKit Go.Shelf Tryz
structure Kd3 (E:DS) (T:TS) (name:ByteArray) (ts:List Int) (rs:List (List V)) (cs:Cs):Prop where
 tab:Ye E [T] name=.inl cs
 good:Zt ts cs
 len:nR cs=rs.length
 row:∀ i,i<rs.length→Ji cs i=rs.getD i []
 tys:Jhd [T] name=ts
 find:Ub [T] name<[T].length
 ok:∀ T'∈[T],Jid E T'
 all:∀ T'∈[T],∀ cs',Zo E T'=.inl cs'→Zt T'.types cs'
theorem Jx2 {y:DS}{T:TS}{name:ByteArray}{ts:List Int}{rs:List (List V)}(h:Jbc y [(T,rs)])(hn:T.name=name)(X:T.types=ts)(Y:Jel name ts rs)(U:∀ r∈rs,∀ v∈r,Jg v.n):∃ cs,Kd3 y T name ts rs cs:=by
 subst hn X;obtain⟨cs,D,E,K,O⟩:=Kff h Y U;have hf:Ub [T] T.name=0:=by simp[Ub]
 have Z:Ye y [T] T.name=Zo y T:=by unfold Ye Jcm;rw[hf];rfl
 refine⟨cs,D,E,K,O,?_,by rw[hf];simp,(Jrp h rfl).2,fun ba H bc R=>?_⟩
 ·unfold Jhd;rw[hf];rfl
 rw[Oc6]at H;subst H;rw[Z,R]at D;cases D
 exact E
theorem Kc3 {tab:ByteArray→Cs⊕Nat}{cs:Cs}(h:tab Yh=.inl cs):Jac tab Jcq=Jcb [Jkp] cs∧Jbs ⟨2,0,⟨#[]⟩,[Jkp],[],0,0⟩ (stN tab Jcq 1)=cs:=by
 constructor
 ·simp[Jac,stN,Jcq,Jb3,Jkq,Jbs,h]
 simp[stN,Jcq,Jb3,Jkq,Jbs,h]
abbrev Jvf (y:Nat):List Nd:=[⟨0,0,0,Yh,(none,0,0),(none,0,0),0⟩,⟨2,0,0,⟨#[]⟩,(some ⟨y,0,none⟩,1,1),(none,0,0),0⟩]
theorem Ke9 (M:Nat→Prop)(st:Nat)(H:DS)(T:TS)(cs:Cs)(w:World)(h:Sto M w st H [T])(D:Kd3 H T Yh [1] [[Za]] cs)(Y Z ba bx q wr pg bn ex br:Addr)(bz:Jax w Y Z ba bx q wr pg bn ex br)(X U pb:Nat)(bE:w.heap[X]?=some (.cells ((Jvf U).flatMap ndC).toArray 51 (0,0)))(bH:w.cell? ⟨U,0,none⟩=some (.slice (some ⟨pb,0,none⟩) 3 3))(bG:w.heap[pb]?=some (.cells (Jkp.flatMap ptC).toArray 63 (0,0))) :
  Calls prog 10 #[.pointer (some ⟨st,0,none⟩),.agg #[.slice (some ⟨X,0,none⟩) 2 2],.agg #[.int .i64 1000,.int .i64 1000,.int .i64 0,.int .i64 0]] w fun e w'=>Below w.heap.size w w'∧∃ g bs,e=.returned (.tuple #[.slice (some ⟨g,0,none⟩) 1 1,Ko 0 (-1) (-1) (-1) (-1)])∧Jcu w' w.heap.size g bs [[⟨1,42,⟨#[]⟩⟩]]:=by
 obtain⟨bf,bC⟩:=Kc3 (tab:=Ye H [T]) D.tab;have bD:nR cs=1:=D.len;have bi:Ji cs 0=[Za]:=D.row 0 (by simp);have bh:nR (Jac (Ye H [T]) Jcq)=1:=by rw[bf,Jm1 _ _ (by simp),bD]
 refine(Kvh M st H [T] w h D.ok D.all Y Z ba bx q wr pg bn ex br bz Jcq [[1],[1]] (Jw6 D.tys) (fun n hn h0=>?_) (fun _=>by rw[bh];omega) (fun n hn h0=>?_) (fun j n y E=>?_) (fun j n y bc=>?_) X 0 2 (Jvf U) rfl (Jfm bE) (fun j n nd y O=>?_) 1000 1000 0 0 (by omega) (by omega) (by omega) (by omega) (by omega) (by omega) ⟨by decide,by decide⟩ (fun bI bL bK j v W K=>?_)).mono fun e w' hp=>?_
 ·simp only[Jcq,Of1,Oi0,or_false]at hn;rcases hn with rfl|rfl
  ·exact D.find
  cases h0
 ·simp only[Jcq,Of1,Oi0,or_false]at hn;rcases hn with rfl|rfl
  ·exact absurd rfl h0
  exact Knz
 ·match j,y with
  |0,y=>cases y;cases E
  |1,y=>cases y;cases E
 ·match j,y with
  |0,y=>cases y;cases bc
  |1,y=>cases y;cases bc
 ·match j,y,O with
  |0,y,O=>cases y;cases O;exact⟨rfl,rfl,rfl,fun h=>absurd h (by decide),fun h=>absurd h (by decide),rfl,rfl⟩
  |1,y,O=>cases y;cases O;exact⟨rfl,rfl,rfl,fun _=>⟨U,0,1,rfl,by simp,Jyd (e:=Jkp) bH (Jfp bG)⟩,fun h=>absurd h (by decide),rfl,rfl⟩
 ·obtain⟨_,n,hn,bj⟩:=K;match j,hn with
  |0,hn=>
   cases hn
   rcases bj with⟨_,p,b,hp,_⟩|⟨h0,_⟩|⟨E,_⟩
   ·rw[D.tab]at hp;cases hp
   ·exact h0 rfl
   cases E
  |1,hn=>
   cases hn
   rcases bj with⟨h0,_⟩|⟨_,bJ,kk,r,_,hr,K,_⟩|⟨E,_⟩
   ·cases h0
   ·rw[bC]at hr K;have:r=0:=(by omega);subst this;rw[bi]at K;exact K rfl
   cases E
 obtain⟨bA,_,g,bs,rfl,R⟩:=hp;refine⟨bA,?_⟩;rw[bh]at R ⊢;rw[bf]at R;have bB:Qf 1 (Jcb [Jkp] cs)=[[⟨1,42,⟨#[]⟩⟩]]:=by
  have:(Qf 1 (Jcb [Jkp] cs))=[Ji (Jcb [Jkp] cs) 0]:=rfl;rw[this,Jjj _ _ _ (by omega),bi];simp only[Oe4,Oi4];rw[Jgd Khj]
 rw[bB]at R;exact⟨g,bs,rfl,R⟩
end
end Go.Proofs.YtpchafocmlhmbaaGreatDoor
