/- The law's own words for an expression: what it is worth on a row. -/
import Derived.Test.YtdlgbphkaicfaaaGreatDoorXr
import Derived.Test.YtdlgbphkaicfaaaGreatDoorXl
import Derived.Test.YtdlgbphkaicfaaaGreatDoorHc
import Derived.Test.YtdlgbphkaicfaaaGreatDoorXp
set_option maxRecDepth 100000
namespace Go.Proofs.YtdlgbphkaicfaaaGreatDoor
open Go.RowKit Go.Shelf
attribute [local go_sem] Oc0
attribute [local go_sem] Jdy
theorem Jyb {sch T:List Int}{x d:List V}{p:Pt}{es:List Pt}(K:T=es.map (tyP sch))(D:es[d.length]?=some p)(E:Jeg sch T d.length p)(H:Jee sch x)(y:Jho T d)(h0:(Qp p x d).2=0):Jho T (d++[(Qp p x d).1]):=by
 have X:d.length<es.length:=(Ob9.1 D).1
 have R:T.getD d.length 0=tyP sch p:=by
  rw[K,Oa0,Ob1,D]
  rfl
 refine⟨fun k M=>?_,fun v U=>?_⟩
 ·rw[Oa8,List.length_singleton]at M
  by_cases e:k<d.length
  ·rw[show (d++[(Qp p x d).1]).getD k Jf=d.getD k Jf by rw[Oa0,Oa0,Ob0 e]]
   exact y.1 k e
  obtain rfl:k=d.length:=by omega
  rw[R,show (d++[(Qp p x d).1]).getD d.length Jf=(Qp p x d).1 by rw[Oa0,Ob6 (Oa2 _)];simp]
  exact Kfb E H y h0
 have O:Yy [p] x d=.inl (d++[(Qp p x d).1]):=by simp only[Yy];rw[if_pos h0]
 refine Jo0 (W:=sch.length) H.2.2 [p] d _ (fun j q A=>?_) y.2 O v U
 match j,A with
 |0,A=>cases A;exact E.ok
theorem Jmx {es:List Pt}{x:List V}{j:Nat}{p:Pt}{d:List V}(y:es[j]?=some p)(E:Yy (es.take j) x []=.inl d):Yy (es.take (j+1)) x []=if (Qp p x d).2=0 then .inl (d++[(Qp p x d).1])else .inr (Qp p x d).2:=by
 obtain⟨A,D⟩:=Ob9.1 y
 rw[Oc4 A,D]
 exact Jsv p E
attribute [local go_sem] Oc0
attribute [local go_sem] Oc0
def Kbt (o:Nat):Int:=if 2≤o∧o≤5 then 1 else if 8≤o∧o≤10 then 2 else 0
theorem Jtf {sch T:List Int}{j:Nat}{t:Int}{u:V}(h:okV t u)(hn:Jg u.n)(A:1≤t∧t≤3):Jeg sch T j ⟨1,0,0,t,u⟩:=by
 have hs:u.s.size≤255:=by
  rcases Jgh h with rfl|⟨_,_,⟨_,h1⟩|⟨_,_,h1⟩|⟨h1,h2⟩⟩
  ·decide
  ·rw[h1];decide
  ·rw[h1];decide
  unfold okV okB okK at h
  simp only[decide_eq_true_eq]at h
  rcases h with⟨_,_,y⟩|⟨_,⟨_,y⟩|⟨_,_,y⟩|⟨_,_,y⟩⟩
  ·rw[Ja6 y];decide
  ·rw[Ja6 y];decide
  ·rw[Ja6 y];decide
  omega
 exact⟨⟨by show (0:Int)≤1;omega,by show (1:Int)≤11;omega,fun h=>absurd h (by show ¬ (1:Int)=0;omega),fun _=>⟨hs,hn⟩,fun h=>absurd h (by show ¬ (2:Int)≤1;omega),fun h=>absurd h (by show ¬ (2:Int)≤1;omega)⟩,fun h=>absurd h (by show ¬ (2:Int)≤1;omega),fun _=>⟨A,h⟩,fun h=>absurd h (by show ¬ (2:Int)≤1;omega),fun h=>absurd h (by show ¬ (6:Int)≤1;omega),fun h=>absurd h (by show ¬ (8:Int)≤1;omega),fun h=>absurd h (by show ¬ (1:Int)=10;omega)⟩
theorem Jh7 {sch T:List Int}{j c:Nat}(h:c<sch.length):Jeg sch T j ⟨0,0,0,(c:Int),Jf⟩:=
 ⟨⟨by show (0:Int)≤0;omega,by show (0:Int)≤11;omega,fun _=>⟨by show (0:Int)≤(c:Int);omega,by show (c:Int)<_;omega⟩,fun h=>absurd h (by show ¬ (0:Int)=1;omega),fun h=>absurd h (by show ¬ (2:Int)≤0;omega),fun h=>absurd h (by show ¬ (2:Int)≤0;omega)⟩,fun h=>absurd h (by show ¬ (2:Int)≤0;omega),fun h=>absurd h (by show ¬ (0:Int)=1;omega),fun h=>absurd h (by show ¬ (2:Int)≤0;omega),fun h=>absurd h (by show ¬ (6:Int)≤0;omega),fun h=>absurd h (by show ¬ (8:Int)≤0;omega),fun h=>absurd h (by show ¬ (0:Int)=10;omega)⟩
theorem Zs {sch T:List Int}{o l r:Nat}(h2:2≤o)(E:o≤11)(H:l<T.length)(K:r<T.length)(A:Kbt o=0∨T.getD l 0=Kbt o)(hs:T.getD r 0=T.getD l 0):Jeg sch T T.length ⟨(o:Int),(l:Int),(r:Int),0,Jf⟩:=by
 have e:∀ k:Nat,((k:Int)).toNat=k:=fun k=>Int.toNat_natCast k
 unfold Kbt at A
 refine⟨⟨by show (0:Int)≤(o:Int);omega,by show (o:Int)≤11;omega,fun h=>absurd h (by show ¬ (o:Int)=0;omega),fun h=>absurd h (by show ¬ (o:Int)=1;omega),fun _=>⟨by show (0:Int)≤(l:Int);omega,by show (l:Int)<_;omega⟩,fun _ _=>⟨by show (0:Int)≤(r:Int);omega,by show (r:Int)<_;omega⟩⟩,fun _=>⟨by show (0:Int)≤(r:Int);omega,by show (r:Int)<_;omega⟩,fun h=>absurd h (by show ¬ (o:Int)=1;omega),fun _ h=>?_,fun h D=>?_,fun h D=>?_,fun h=>?_⟩
 ·have h:(o:Int)≤5:=h
  rw[if_pos ⟨h2,by omega⟩]at A
  have y:T.getD l 0=1:=by omega
  exact⟨by rw[e];exact y,by rw[e,hs];exact y⟩
 ·show T.getD ((l:Int)).toNat 0=T.getD ((r:Int)).toNat 0
  rw[e,e,hs]
 ·have h:8≤(o:Int):=h
  have D:(o:Int)≤9:=D
  rw[if_neg (by omega),if_pos (by omega)]at A
  have y:T.getD l 0=2:=by omega
  exact⟨by rw[e];exact y,by rw[e,hs];exact y⟩
 have h:(o:Int)=10:=h
 rw[if_neg (by omega),if_pos (by omega)]at A
 have y:T.getD l 0=2:=by omega
 show T.getD ((l:Int)).toNat 0=2
 rw[e];exact y
end Go.Proofs.YtdlgbphkaicfaaaGreatDoor
namespace Go.Proofs.YtdlgbphkaicfaaaGreatDoor
open Go.RowKit Go.Shelf Tryz
attribute [local go_sem] Oc0
theorem Jor (n:ByteArray)(w:World):Calls prog 10 #[.string n] w fun e w'=>e=.returned (Nd.val ⟨0,0,0,n,(none,0,0),(none,0,0),0⟩)∧Below w.heap.size w w':=by
 go_enter func10,ntmps10
 go_wp2
 exact bodyPost_ret (v:=Nd.val ⟨0,0,0,n,(none,0,0),(none,0,0),0⟩) (by simp[results,results10,go_sem]) rfl ⟨rfl,Jc (Oa5 _ _) _⟩
theorem Kbg (w:World):Calls prog 17 #[] w fun e w'=>e=.returned (.agg #[.int .i64 1000,.int .i64 1000,.int .i64 0,.int .i64 0])∧Below w.heap.size w w':=by
 go_enter func17,ntmps17
 go_wp2
 exact bodyPost_ret (v:=.agg #[.int .i64 1000,.int .i64 1000,.int .i64 0,.int .i64 0]) (by simp[results,results17,go_sem]) rfl ⟨rfl,Jc (Oa5 _ _) _⟩
theorem Jxv (c nd row:Int)(w:World):Calls prog 13 #[.int .i64 c,.int .i64 nd,.int .i64 row] w fun e w'=>e=.returned (Ko c nd row (-1) (-1))∧Below w.heap.size w w':=by
 go_enter func13,ntmps13
 go_upto_region 5 with(go_at_call 14;refine(Jfu _).mono ?_;rintro bc D ⟨rfl,E⟩)
 have K:=heap_alloc_new w (.cells #[.int .i64 0,.int .i64 0,.int .i64 0,.int .i64 0,.int .i64 0] 42)
 have M:=(E.block _ (Jd K)).trans K
 have hn:=heap_alloc_new D (.cells #[.int .i64 c,.int .i64 nd,.int .i64 row,.int .i64 (-1),.int .i64 (-1)] 42)
 have A:=(Oa9 D (.cells #[.int .i64 c,.int .i64 nd,.int .i64 row,.int .i64 (-1),.int .i64 (-1)] 42) _ (Jd M)).trans M
 have H:Below w.heap.size w (D.alloc (.cells #[.int .i64 c,.int .i64 nd,.int .i64 row,.int .i64 (-1),.int .i64 (-1)] 42)):=Jc (Jb (Jc (Oa5 _ _) _) E) _
 obtain⟨b,O⟩:∃ b,b=D.heap.size:=⟨_,rfl⟩
 rw[←O]at hn ⊢
 clear O K M E
 generalize D.alloc (.cells #[.int .i64 c,.int .i64 nd,.int .i64 row,.int .i64 (-1),.int .i64 (-1)] 42)=y at hn A H ⊢
 have bl:y.cell? ⟨b,0,none⟩=some (.int .i64 c):=by simp[World.cell?,hn]
 have bn:y.cell? ⟨b,1,none⟩=some (.int .i64 nd):=by simp[World.cell?,hn]
 have br:y.cell? ⟨b,2,none⟩=some (.int .i64 row):=by simp[World.cell?,hn]
 have bu:y.cell? ⟨b,3,none⟩=some (.int .i64 (-1)):=by simp[World.cell?,hn]
 have bx:y.cell? ⟨b,4,none⟩=some (.int .i64 (-1)):=by simp[World.cell?,hn]
 have U:y.cell? ⟨w.heap.size,0,none⟩=some (.int .i64 0):=by simp[World.cell?,A]
 have X:y.cell? ⟨w.heap.size,1,none⟩=some (.int .i64 0):=by simp[World.cell?,A]
 have Z:y.cell? ⟨w.heap.size,2,none⟩=some (.int .i64 0):=by simp[World.cell?,A]
 have ba:y.cell? ⟨w.heap.size,3,none⟩=some (.int .i64 0):=by simp[World.cell?,A]
 have bb:y.cell? ⟨w.heap.size,4,none⟩=some (.int .i64 0):=by simp[World.cell?,A]
 have bf:y.frozen? ⟨w.heap.size,0,none⟩=false:=by simp[World.frozen?,A]
 have bh:y.frozen? ⟨w.heap.size,1,none⟩=false:=by simp[World.frozen?,A]
 have bi:y.frozen? ⟨w.heap.size,2,none⟩=false:=by simp[World.frozen?,A]
 have bj:y.frozen? ⟨w.heap.size,3,none⟩=false:=by simp[World.frozen?,A]
 have bk:y.frozen? ⟨w.heap.size,4,none⟩=false:=by simp[World.frozen?,A]
 have R:Hid _:=H
 clear hn A H
 go_wp2
 exact bodyPost_ret (v:=Ko c nd row (-1) (-1)) (by simp[results,results13,go_sem,U,X,Z,ba,bb]) rfl ⟨rfl,((((R.out.setCell (p:=⟨w.heap.size,0,none⟩) (Oa2 _) _).setCell (p:=⟨w.heap.size,1,none⟩) (Oa2 _) _).setCell (p:=⟨w.heap.size,2,none⟩) (Oa2 _) _).setCell (p:=⟨w.heap.size,3,none⟩) (Oa2 _) _).setCell (p:=⟨w.heap.size,4,none⟩) (Oa2 _) _⟩
end Go.Proofs.YtdlgbphkaicfaaaGreatDoor
