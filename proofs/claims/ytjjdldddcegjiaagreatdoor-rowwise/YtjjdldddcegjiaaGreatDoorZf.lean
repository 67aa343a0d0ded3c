/- A store with one table: what its columns are; nodes and parts in memory. -/
import Derived.Test.YtjjdldddcegjiaaGreatDoorYf
import Derived.Test.YtjjdldddcegjiaaGreatDoorYi
namespace Go.Proofs.YtjjdldddcegjiaaGreatDoor
open Go.RowKit Go.Shelf
theorem Kff {y:DS}{T:TS}{rs:List (List V)}(h:Jbc y [(T,rs)])(bh:Jel T.name T.types rs)(bf:∀ r∈rs,∀ v∈r,Jg v.n) :
  ∃ cs,Ye y [T] T.name=.inl cs∧Zt T.types cs∧nR cs=rs.length∧∀ i,i<rs.length→Ji cs i=rs.getD i []:=by
 have M:Jer y T rs:=h.tab (T,rs) (by simp)
 have D:Jid y T:=M.ok
 obtain⟨U,X⟩:=Jmq y T D.group.1
 have z:=M.read
 rw[U]at z
 cases hc:Zo y T with
 |inr j=>rw[hc]at z;cases z
 |inl cs=>
  rw[hc]at z
  obtain⟨O,R⟩:=X cs hc
  have E:Qf T.rows cs=rs:=by simpa using z
  have H:T.rows=rs.length:=by rw[←E,Uu]
  have bl:=D.cols
  have C:nR cs=rs.length:=by
   unfold nR
   rw[R 0 (by rw[O];omega),H]
  have K:∀ i,i<rs.length→Ji cs i=rs.getD i []:=fun i hi=>by
   have:=Jge T.rows cs i (by omega)
   rw[E]at this
   rw[Oa0,this]
   rfl
  refine⟨cs,by unfold Ye Jcm;simp[Ub,hc],⟨O,by omega,by omega,fun j A=>by rw[C,R j A,H],by have:=D.rows;omega,fun i hi=>?_⟩,C,K⟩
  rw[C]at hi
  rw[K i hi]
  have Z:rs.getD i []=rs[i]:=by rw[Oa0,Oa3 hi];rfl
  rw[Z]
  obtain⟨bi,bj⟩:=bh.2.2.2 i hi
  refine⟨bi,fun j A=>?_,bf _ (Ob3 hi)⟩
  have:=bj j A
  have bc:rs[i].getD j Jf=rs[i][j]:=by rw[Oa0,Oa3 A];rfl
  rw[bc]
  exact this
def ndC (p:Nd):List Value:=[.int .i64 p.op,.int .i64 p.l,.int .i64 p.r,.string p.tn,.slice p.xs.1 p.xs.2.1 p.xs.2.2,.slice p.ky.1 p.ky.2.1 p.ky.2.2,.int .i64 p.kk]
theorem Jnj {w:World}{g:Nat}{xs:List Value}{t:TypeId}(h:w.heap[g]?=some (.cells xs.toArray t (0,0)))(i:Nat):w.cell? ⟨g,i,none⟩=xs[i]?:=by
 simp[World.cell?,h]
theorem Jfm {w:World}{z:Nat}{A:List Nd}{t:TypeId}(h:w.heap[z]?=some (.cells (A.flatMap ndC).toArray t (0,0))):∀ (j:Nat) (nd:Nd),A[j]?=some nd→Zm w z (0+j*7) nd:=fun j nd C=>by
 have y:∀ i,i<7→w.cell? ⟨z,j*7+i,none⟩=(ndC nd)[i]?:=fun i hi=>by
  rw[Jnj h]
  exact Jek ndC 7 (fun _=>rfl) A j i nd C hi
 rw[Od0]
 exact⟨y 0 (by omega),y 1 (by omega),y 2 (by omega),y 3 (by omega),y 4 (by omega),y 5 (by omega),y 6 (by omega)⟩
theorem Jfp {w:World}{g:Nat}{es:List Pt}{t:TypeId}(h:w.heap[g]?=some (.cells (es.flatMap ptC).toArray t (0,0))):∀ (k:Nat) (p:Pt),es[k]?=some p→Qi w g (0+k*7) p:=fun k p z=>by
 have y:∀ i,i<7→w.cell? ⟨g,k*7+i,none⟩=(ptC p)[i]?:=fun i hi=>by
  rw[Jnj h]
  exact Jek ptC 7 (fun _=>rfl) es k i p z hi
 rw[Od0]
 exact⟨y 0 (by omega),y 1 (by omega),y 2 (by omega),y 3 (by omega),y 4 (by omega),y 5 (by omega),y 6 (by omega)⟩
theorem Jyd {w:World}{D z A C:Nat}{e:List Pt}(h:w.cell? ⟨D,0,none⟩=some (.slice (some ⟨z,A,none⟩) e.length C))(E:∀ (k:Nat) (p:Pt),e[k]?=some p→Qi w z (A+k*7) p):Jaz w D 0 [e]:=fun j es y=>by
 match j,y with
 |0,y=>cases y;exact⟨z,A,C,h,E⟩
theorem Kfd {w:World}{E z A H C D K:Nat}{e f:List Pt}(h:w.cell? ⟨E,0,none⟩=some (.slice (some ⟨z,A,none⟩) e.length H))(O:∀ (k:Nat) (p:Pt),e[k]?=some p→Qi w z (A+k*7) p)(M:w.cell? ⟨E,1,none⟩=some (.slice (some ⟨C,D,none⟩) f.length K))(R:∀ (k:Nat) (p:Pt),f[k]?=some p→Qi w C (D+k*7) p):Jaz w E 0 [e,f]:=fun j es y=>by
 match j,y with
 |0,y=>cases y;exact⟨z,A,H,h,O⟩
 |1,y=>cases y;exact⟨C,D,K,M,R⟩
def Jkp:List Pt:=[⟨0,0,0,0,Jf⟩,⟨1,0,0,1,⟨1,1,⟨#[]⟩⟩⟩,⟨2,0,1,0,Jf⟩]
theorem Kcr (sch:List Int):Uj sch []:=fun j p y=>by simp at y
theorem Kf8:Uj [1] Jkp:=by
 have y:Uj [1] ([]++[⟨0,0,0,0,Jf⟩]):=(Kcr [1]).snoc (Jh7 (c:=0) (by decide))
 have z:Uj [1] (([]++[⟨0,0,0,0,Jf⟩])++[⟨1,0,0,1,⟨1,1,⟨#[]⟩⟩⟩]):=y.snoc (Jtf (by unfold okV;simp[okB,okK]) (by simp[Jg]) ⟨by omega,by omega⟩)
 exact z.snoc (Zs (o:=2) (l:=0) (r:=1) (by omega) (by omega) (by decide) (by decide) (by decide) (by decide))
theorem Kgn (sch:List Int)(h:1≤sch.length):Uj sch [⟨0,0,0,0,Jf⟩]:=(Kcr sch).snoc (Jh7 (c:=0) (by omega))
def Jcq:List PN:=[⟨0,0,Yh,[]⟩,⟨2,0,⟨#[]⟩,[Jkp]⟩]
theorem Jw6 {tys:ByteArray→List Int}(h:tys Yh=[1]):Jdk tys [[1],[1]] Jcq where
 len:=rfl
 ok:=fun j n y=>by
  match j,y with
  |0,y=>cases y;exact⟨[1],rfl,by decide,fun _=>h.symm,fun h=>absurd h (by decide),fun h=>absurd h (by decide)⟩
  |1,y=>
   cases y
   refine⟨[1],rfl,by decide,fun h=>absurd h (by decide),fun h=>absurd h (by decide),fun _=>⟨[1],rfl,rfl,by decide,by decide,fun e z=>?_⟩⟩
   rw[Oc6]at z
   subst z
   exact⟨Kf8,by decide,by decide⟩
 ahead:=fun j n y i hi=>by
  match j,y with
  |0,y=>cases y;simp[Jg7]at hi
  |1,y=>cases y;simp[Jg7]at hi;subst hi;exact⟨by omega,rfl⟩
 all:=fun i hi=>by
  have:i=0:=by simp[Jcq]at hi;omega
  subst this
  rfl
 one:=by decide
 few:=by decide
theorem Khj:Kl Jkp [Za]=.inl ⟨1,42,⟨#[]⟩⟩:=by rfl
end Go.Proofs.YtjjdldddcegjiaaGreatDoor
