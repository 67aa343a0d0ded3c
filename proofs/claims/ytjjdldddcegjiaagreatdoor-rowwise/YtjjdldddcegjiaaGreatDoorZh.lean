/- The plan of a law's own check, run. -/
import Derived.Test.YtjjdldddcegjiaaGreatDoorZf
namespace Go.Proofs.YtjjdldddcegjiaaGreatDoor
open Go.RowKit Go.Shelf Tryz
structure Kd3 (E:DS) (T:TS) (name:ByteArray) (ts:List Int) (rs:List (List V)) (cs:Cs):Prop where
 tab:Ye E [T] name=.inl cs
 good:Zt ts cs
 len:nR cs=rs.length
 row:∀ i,i<rs.length→Ji cs i=rs.getD i []
 tys:Jhd [T] name=ts
 find:Ub [T] name<[T].length
 ok:∀ T'∈[T],Jid E T'
 all:∀ T'∈[T],∀ cs',Zo E T'=.inl cs'→Zt T'.types cs'
theorem Jx2 {y:DS}{T:TS}{name:ByteArray}{A:List Int}{rs:List (List V)}(h:Jbc y [(T,rs)])(hn:T.name=name)(O:T.types=A)(R:Jel name A rs)(M:∀ r∈rs,∀ v∈r,Jg v.n):∃ cs,Kd3 y T name A rs cs:=by
 subst hn O
 obtain⟨cs,z,C,E,H⟩:=Kff h R M
 have hf:Ub [T] T.name=0:=by simp[Ub]
 have U:Ye y [T] T.name=Zo y T:=by unfold Ye Jcm;rw[hf];rfl
 refine⟨cs,z,C,E,H,?_,by rw[hf];simp,(Jrp h rfl).2,fun X D Z K=>?_⟩
 ·unfold Jhd
  rw[hf]
  rfl
 rw[Oc6]at D
 subst D
 rw[U,K]at z
 cases z
 exact C
theorem Kc3 {tab:ByteArray→Cs⊕Nat}{cs:Cs}(h:tab Yh=.inl cs):Jac tab Jcq=Jcb [Jkp] cs∧Jbs ⟨2,0,⟨#[]⟩,[Jkp]⟩ (stN tab Jcq 1)=cs:=by
 constructor
 ·simp[Jac,stN,Jcq,Jb3,Jkq,Jbs,h]
 simp[stN,Jcq,Jb3,Jkq,Jbs,h]
abbrev Jvf (y:Nat):List Nd:=[⟨0,0,0,Yh,(none,0,0),(none,0,0),0⟩,⟨2,0,0,⟨#[]⟩,(some ⟨y,0,none⟩,1,1),(none,0,0),0⟩]
theorem Ke9 (R:Nat→Prop)(st:Nat)(A:DS)(T:TS)(cs:Cs)(w:World)(h:Sto R w st A [T])(z:Kd3 A T Yh [1] [[Za]] cs)(U X Z br q wr pg bl ex bn:Addr)(bu:Jax w U X Z br q wr pg bl ex bn)(O K bj:Nat)(bC:w.heap[O]?=some (.cells ((Jvf K).flatMap ndC).toArray 46 (0,0)))(bG:w.cell? ⟨K,0,none⟩=some (.slice (some ⟨bj,0,none⟩) 3 3))(bD:w.heap[bj]?=some (.cells (Jkp.flatMap ptC).toArray 51 (0,0))) :
  Calls prog 10 #[.pointer (some ⟨st,0,none⟩),.agg #[.slice (some ⟨O,0,none⟩) 2 2],.agg #[.int .i64 1000,.int .i64 1000,.int .i64 0,.int .i64 0]] w fun e w'=>Below w.heap.size w w'∧∃ g bs,e=.returned (.tuple #[.slice (some ⟨g,0,none⟩) 1 1,Ko 0 (-1) (-1) (-1) (-1)])∧Jcu w' w.heap.size g bs [[⟨1,42,⟨#[]⟩⟩]]:=by
 obtain⟨bc,bA⟩:=Kc3 (tab:=Ye A [T]) z.tab
 have bB:nR cs=1:=z.len
 have bh:Ji cs 0=[Za]:=z.row 0 (by simp)
 have bf:nR (Jac (Ye A [T]) Jcq)=1:=by rw[bc,Jm1 _ _ (by simp),bB]
 refine(Jr5 R st A [T] w h z.ok z.all U X Z br q wr pg bl ex bn bu Jcq [[1],[1]] (Jw6 z.tys) (fun n hn h0=>?_) (fun _=>by rw[bf];omega) O 0 2 (Jvf K) rfl (Jfm bC) (fun j n nd C D=>?_) 1000 1000 0 0 (by omega) (by omega) (by omega) (by omega) (by omega) (by omega)).mono fun e w' H=>?_
 ·simp only[Jcq,Of1,Oi0,or_false]at hn
  rcases hn with rfl|rfl
  ·exact z.find
  cases h0
 ·match j,C,D with
  |0,C,D=>cases C;cases D;exact⟨rfl,rfl,rfl,fun h=>absurd rfl h⟩
  |1,C,D=>cases C;cases D;exact⟨rfl,rfl,rfl,fun _=>⟨K,0,1,rfl,by simp,Jyd (e:=Jkp) bG (Jfp bD)⟩⟩
 obtain⟨E,Y,l,c,nd,row,col,bI,bx,rfl,hR⟩:=H
 refine⟨E,?_⟩
 rcases hR with⟨rfl,rfl,rfl,rfl,rfl,hf,g,bs,rfl,y⟩|⟨rfl,j,n,rfl,rfl,hf,hn,bi⟩
 ·rw[bf]at y ⊢
  rw[bc]at y
  have bz:Qf 1 (Jcb [Jkp] cs)=[[⟨1,42,⟨#[]⟩⟩]]:=by
   have:(Qf 1 (Jcb [Jkp] cs))=[Ji (Jcb [Jkp] cs) 0]:=rfl
   rw[this,Jjj _ _ _ (by omega),bh]
   simp only[Oe4,Oi4]
   rw[Jgd Khj]
  rw[bz]at y
  have bH:=bx.size
  exact⟨g,bs,rfl,⟨y.len,y.outer,y.rows,⟨by have:=y.from_.1;omega,fun b E=>⟨by have:=(y.from_.2 b E).1;omega,(y.from_.2 b E).2⟩⟩,y.nodup⟩⟩
 exfalso
 match j,hn with
 |0,hn=>
  cases hn
  rcases bi with⟨_,p,H,_⟩|⟨h0,_⟩
  ·rw[z.tab]at H;cases H
  exact h0 rfl
 |1,hn=>
  cases hn
  rcases bi with⟨h0,_⟩|⟨_,_,r,_,bE,M,_⟩
  ·cases h0
  rw[bA]at bE M
  have:r=0:=by omega
  subst this
  rw[bh]at M
  exact M rfl
end Go.Proofs.YtjjdldddcegjiaaGreatDoor
