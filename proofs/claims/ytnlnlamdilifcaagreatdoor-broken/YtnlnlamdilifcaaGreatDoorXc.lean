/- What the parts of an expression are worth: values compared, truth values, values that may be NULL. -/
import Derived.Test.YtnlnlamdilifcaaGreatDoorXa
import Derived.Test.YtnlnlamdilifcaaGreatDoorHc
set_option maxHeartbeats 1000000
set_option maxRecDepth 100000
namespace Go.Proofs.YtnlnlamdilifcaaGreatDoor
section
open Go.RowKit Go.Shelf Tryz
attribute [local go_sem] Oc0
theorem Kf {w:World}{a:Addr}{v:Value}{o:Obj}(h:w.cell? a=some v):(w.alloc o).cell? a=some v:=(World.cell?_alloc_some w a o (by rw[h];rfl)).trans h
def Jxt (a b:V):Int:=if a.n<b.n then -1 else if b.n<a.n then 1 else Lib.compareBytes a.s.data.toList b.s.data.toList
theorem Jqx a b w:Cq 243 #[a.val,b.val] w fun e w'=>e=.returned (Iq (Jxt a b))/\∃ x y:Int,w'=((Jak (Jak w a) b).alloc (.cells #[Iq x,Iq y] 3)).drew:=by
 obtain⟨x,K⟩:∃ x:Int,x=(if a.n<b.n then -1 else if b.n<a.n then 1 else 0):=⟨_,rfl⟩;obtain⟨y,hy⟩:∃ y:Int,y=Lib.compareBytes a.s.data.toList b.s.data.toList:=⟨_,rfl⟩;have H:∀ W,Cq 277 #[Iq a.n,Iq b.n] W fun e w'=>e=.returned (Iq x)/\w'=W:=fun W=>by rw[K];exact Jk7 _ _ W
 have I:∀ W,Cq 278 #[.string a.s,.string b.s] W fun e w'=>e=.returned (Iq y)/\w'=W:=fun W=>by rw[hy];exact Jlb _ _ W
 have hv:Jxt a b=if x=0 then y else x:=by
  unfold Jxt;rw[K,hy];by_cases H:a.n<b.n
  ·simp[H]
  by_cases I:b.n<a.n<;>simp[H,I]
 rw[hv];obtain⟨z,M⟩:∃ z:Int,(if x=0 then y else x)=z:=⟨_,rfl⟩;have U:∀ g W,W.cell? (Aq g)=some (Iq x)->W.cell? (Ar g 1)=some (Iq y)->Cq 276 #[Sq g 2 2] W fun e w'=>e=.returned (Iq z)/\w'=W:=fun g W Y Z=>by rw[<-M];exact Jzv g x y W Y Z
 rw[M];clear hv K hy M;go_enter func243,ntmps243
 go_wp2;go_region_held3 (fun X=>X.cell? (Ar w.heap.size 1)=some (Iq a.n)/\X.cell? (Ar w.heap.size 2)=some (.string a.s)/\X.cell? (Ar (w.heap.size+1) 1)=some (Iq b.n)/\X.cell? (Ar (w.heap.size+1) 2)=some (.string b.s))
  (first|go_keep|(go_split_ands;refine⟨?_,?_,?_,?_⟩<;>assumption))
  (first|(go_at_call 277;refine(H _).mono ?_;rintro e O ⟨rfl,rfl⟩)|(go_at_call 278;refine(I _).mono ?_;rintro e O ⟨rfl,rfl⟩)|(go_at_call 276;refine(U _ _ (by go_simp) (by go_simp)).mono ?_;rintro e O ⟨rfl,rfl⟩))
 go_wp2;go_ret
 exact⟨rfl,_,_,rfl⟩
def Jsg (a b:V):V×Nat:=(Yi (a.beq b),0)
def Jkc (a b:V):V×Nat:=(Yi (decide (Jxt a b<0)),0)
def Jk6 (a b d:V):V:=if a.beq d||b.beq d then d else if a.k=0 then a else b
def Jse (a b:V):V×Nat:=(Jk6 a b (Yi false),0)
def orR (a b:V):V×Nat:=(Jk6 a b (Yi true),0)
def Ju0 (a _b:V):V×Nat:=(Yi (a.n==0),0)
def Jle (a _b:V):V×Nat:=(Yi (a.k==0),0)
def Kd (R:V->V->V×Nat)(a b:V):V×Nat:=if a.k=0\/b.k=0 then (Jf,0)else R a b
end
open Go.RowKit Go.Shelf
attribute [local go_sem] Oc0
theorem Uc {w:World}{a p:Addr}{v x:Value}(y:p≠a)(h:w.cell? a=some v):(w.setCell p x).cell? a=some v:=by rw[Ob5 _ _ _ _ y];exact h
structure Pt where
 op:Int
 l:Int
 r:Int
 c:Int
 v:V
abbrev Pt.val (p:Pt):Value:=.agg #[Iq p.op,Iq p.l,Iq p.r,Iq p.c,Iq p.v.k,Iq p.v.n,.string p.v.s]
def Jkp:List Pt:=[⟨0,0,0,0,Jf⟩,⟨1,0,0,1,⟨1,1,⟨#[]⟩⟩⟩,⟨2,0,1,0,Jf⟩]
def Uz (w:World)(b:Nat)(ex ba:Value)(first n:Int)(y er:Value):Prop:=w.heap[b]?=some (.cells #[ex,ba,Iq first,Iq n,y,er] 282 (0,0))
theorem Uz.below {w w' b ex ba first n y er}(h:Uz w b ex ba first n y er)(hb:Bq w w'):Uz w' b ex ba first n y er:=(hb.block b (Jd h)).trans h
theorem Uz.cells {w b ex ba first n y er}(h:Uz w b ex ba first n y er):
  w.cell? (Aq b)=some ex/\w.cell? (Ar b 1)=some ba/\w.cell? (Ar b 2)=some (Iq first)/\w.cell? (Ar b 3)=some (Iq n)/\w.cell? (Ar b 4)=some y/\w.cell? (Ar b 5)=some er:=by
 unfold Uz at h;simp[World.cell?,h]
theorem Uz.thaw {w b ex ba first n y er}(h:Uz w b ex ba first n y er)o:w.frozen? ⟨b,o,none⟩=false:=by
 unfold Uz at h;simp[World.frozen?,h]
def Ja8 (w:World)(eb:Nat)(row y:Int)(why:Value):Prop:=w.heap[eb]?=some (.cells #[Iq row,Iq y,why] 144 (0,0))
abbrev Qv (eb:Nat):Value:=Ip 140 eb
