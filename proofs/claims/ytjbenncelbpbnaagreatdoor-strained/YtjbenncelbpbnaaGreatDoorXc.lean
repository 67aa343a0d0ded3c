/- What several texts on the document's store want. -/
import Derived.Test.YtjbenncelbpbnaaGreatDoorSe
import Derived.Shelf.Bits.Mul64
import Derived.Lib.Bytealg
import Derived.Test.YtjbenncelbpbnaaGreatDoorHc
set_option maxHeartbeats 1000000
set_option maxRecDepth 100000
namespace Go.Proofs.YtjbenncelbpbnaaGreatDoor
section
open Go.RowKit Go.Shelf
attribute [local go_sem] Oc0
theorem Jj {B a w}(h:Below B a w):Below B a w.drew:=⟨h.os,h.tape,h.output,h.size,h.block⟩
theorem Jh {w:World}{a:Addr}{v:Value}(h:w.cell? a=some v):w.drew.cell? a=some v:=h
theorem Jcz {w:World}{B:Nat}{e:TypeId}{z:Nat}{sv:Value}{n:Nat}{xs:List Value}(h:w.ownsRow B e z sv n xs):∃ a c,sv=.slice a n c:=by
 rcases h with⟨_,⟨y,H⟩|⟨g,cap,_,y,_⟩⟩
 ·exact⟨none,0,by rw[y,H]⟩
 exact⟨_,_,y⟩
theorem Ktu X fa i v:Ju (fun k=>k=fa) X (X.setCell ⟨fa,i,none⟩ v):=(Ju.refl (fun k=>k=fa) X).set (b:=fa) rfl i v
theorem Kzv X fa y H I K M:Ju (fun k=>k=fa) X (((((X.setCell ⟨fa,0,none⟩ y).setCell ⟨fa,1,none⟩ H).setCell ⟨fa,2,none⟩ I).setCell ⟨fa,3,none⟩ K).setCell ⟨fa,4,none⟩ M):=
 ((((Ktu X fa 0 y).trans (Ktu _ fa 1 H)).trans (Ktu _ fa 2 I)).trans (Ktu _ fa 3 K)).trans (Ktu _ fa 4 M)
end
section
open Go.RowKit Go.Shelf Tryz
attribute [local go_sem] Oc0
abbrev Jbg (n:Int):V:=⟨1,n,⟨#[]⟩⟩
def Kae (b:Bool):Int:=if b then 1 else 0
abbrev Yi (b:Bool):V:=⟨2,Kae b,⟨#[]⟩⟩
structure Jdo (w:World) (dv ov:Addr):Prop where
 d:w.cell? ⟨10,0,none⟩=some (.iface 432 (.pointer (some dv)))
 o:w.cell? ⟨11,0,none⟩=some (.iface 432 (.pointer (some ov)))
def Jdb (y H:Addr)(e:Nat):Value:=if e=0 then .nilIface else if e=9 then .iface 432 (.pointer (some y))else .iface 432 (.pointer (some H))
abbrev Jak (w:World)(v:V):World:=w.alloc (.cells #[.int .i64 v.k,.int .i64 v.n,.string v.s] 59)
def Jd0 (n:Int):Bool:=decide (-9223372036854775808<=n)&&decide (n<=9223372036854775807)
def Jik (a b:V):V×Nat:=if Jd0 (a.n+b.n)then (Jbg (a.n+b.n),0)else (Jf,10)
def Jiw (a b:V):V×Nat:=if Jd0 (a.n-b.n)then (Jbg (a.n-b.n),0)else (Jf,10)
def Jkj (a b:V):V×Nat:=if Jd0 (a.n*b.n)then (Jbg (a.n*b.n),0)else (Jf,10)
def Jg4 (a b:V):V×Nat:=if b.n=0 then (Jf,9)else if Jd0 (a.n.tdiv b.n)then (Jbg (a.n.tdiv b.n),0)else (Jf,10)
theorem zag {p:Prop}(h:p:=by
 go_enter func271,ntmps271
 go_wp2_with (go_at_call 288;refine(H _ _).mono ?_;rintro e I ⟨rfl,rfl⟩)
 go_ret
 exact⟨rfl,rfl⟩):p:=h
theorem Jk7 x y w:Calls prog 271 #[.int .i64 x,.int .i64 y] w fun e w'=>e=.returned (.int .i64 (if x<y then -1 else if y<x then 1 else 0))/\w'=w:=by
 have H:∀ (z:Int) (W:World),Calls prog 288 #[.int .i64 z] W fun e w'=>e=.returned (.bool false)/\w'=W:=fun z W=>by
  have Y:(z != z)=false:=zS;go_enter func288,ntmps288
  go_wp2;go_ret
  exact⟨rfl,rfl⟩
 by_cases K:x<y
 ·rw[if_pos K];exact zag
 rw[if_neg K];have O:y<=x:=zo;by_cases M:y<x
 ·rw[if_pos M];exact zag
 rw[if_neg M];have U:x<=y:=zo;exact zag
theorem Jlb a b w:Calls prog 272 #[.string a,.string b] w fun e w'=>e=.returned (.int .i64 (Lib.compareBytes a.data.toList b.data.toList))/\w'=w:=by
 have y:∀ W,Calls prog 289 #[.string a,.string b] W fun e w'=>e=.returned (.int .i64 (Lib.compareBytes a.data.toList b.data.toList))/\w'=W:=fun W=>by
  go_enter func289,ntmps289
  go_wp2;rw[run_callFunc_extern func296 zK zK zK (e:=Extern.BytealgCompare.compare) zK,Lib.run_compareString];simp only[Result.andThen];rw[Oper.upon_value];go_wp2;go_ret
  exact⟨rfl,rfl⟩
 go_enter func272,ntmps272
 go_wp2_with (go_at_call 289;refine(y _).mono ?_;rintro e H ⟨rfl,rfl⟩)
 go_ret
 exact⟨rfl,rfl⟩
theorem Jzv g x H w(h0:w.cell? ⟨g,0,none⟩=some (.int .i64 x))(O:w.cell? ⟨g,1,none⟩=some (.int .i64 H)):Calls prog 270 #[.slice (some ⟨g,0,none⟩) 2 2] w fun e w'=>e=.returned (.int .i64 (if x=0 then H else x))/\w'=w:=by
 go_enter func270,ntmps270
 go_wp2;go_loopw [8] (fun i wr=>wr=w/\(i=.int .i64 0\/(i=.int .i64 1/\x=0)\/(i=.int .i64 2/\x=0/\H=0))) (fun i _=>2-(intOf i).toNat)
 case atStart=>exact⟨rfl,.inl rfl⟩
 case round=>
  obtain⟨rfl,(rfl|⟨rfl,y⟩|⟨rfl,y,hy⟩)⟩:=hrel
  ·by_cases y:x=0
   ·have K:(x != 0)=false:=(by simp[y]);have I:=zh y;clear y;go_wp2;go_roundw
    case rel=>exact⟨by trivial,.inr (.inl ⟨rfl,I.out⟩)⟩
    case measure=>simp[intOf]
   have K:(x != 0)=true:=(by simp[y]);go_wp2;go_ret
   exact⟨by first|rfl|rw[if_neg y],rfl⟩
  ·by_cases hy:H=0
   ·have M:(H != 0)=false:=(by simp[hy]);have I:Hid (x=0/\H=0):=⟨y,hy⟩;clear y hy;go_wp2;go_roundw
    case rel=>exact⟨by trivial,.inr (.inr ⟨rfl,I.out.1,I.out.2⟩)⟩
    case measure=>simp[intOf]
   have M:(H != 0)=true:=(by simp[hy]);go_wp2;go_ret
   exact⟨by first|rfl|rw[if_pos y],rfl⟩
  go_wp2;go_ret
  exact⟨by first|rfl|rw[if_pos y,hy],rfl⟩
attribute [local go_sem] Oc0
theorem Kf {w:World}{a:Addr}{v:Value}{o:Obj}(h:w.cell? a=some v):(w.alloc o).cell? a=some v:=(World.cell?_alloc_some w a o (by rw[h];rfl)).trans h
def Jxt (a b:V):Int:=if a.n<b.n then -1 else if b.n<a.n then 1 else Lib.compareBytes a.s.data.toList b.s.data.toList
theorem Jqx a b w:Calls prog 236 #[a.val,b.val] w fun e w'=>e=.returned (.int .i64 (Jxt a b))/\∃ x y:Int,w'=((Jak (Jak w a) b).alloc (.cells #[.int .i64 x,.int .i64 y] 3)).drew:=by
 obtain⟨x,K⟩:∃ x:Int,x=(if a.n<b.n then -1 else if b.n<a.n then 1 else 0):=⟨_,rfl⟩;obtain⟨y,hy⟩:∃ y:Int,y=Lib.compareBytes a.s.data.toList b.s.data.toList:=⟨_,rfl⟩;have H:∀ W,Calls prog 271 #[.int .i64 a.n,.int .i64 b.n] W fun e w'=>e=.returned (.int .i64 x)/\w'=W:=fun W=>by rw[K];exact Jk7 _ _ W
 have I:∀ W,Calls prog 272 #[.string a.s,.string b.s] W fun e w'=>e=.returned (.int .i64 y)/\w'=W:=fun W=>by rw[hy];exact Jlb _ _ W
 have hv:Jxt a b=if x=0 then y else x:=by
  unfold Jxt;rw[K,hy];by_cases H:a.n<b.n
  ·simp[H]
  by_cases I:b.n<a.n<;>simp[H,I]
 rw[hv];obtain⟨z,M⟩:∃ z:Int,(if x=0 then y else x)=z:=⟨_,rfl⟩;have U:∀ g W,W.cell? ⟨g,0,none⟩=some (.int .i64 x)->W.cell? ⟨g,1,none⟩=some (.int .i64 y)->Calls prog 270 #[.slice (some ⟨g,0,none⟩) 2 2] W fun e w'=>e=.returned (.int .i64 z)/\w'=W:=fun g W Y Z=>by rw[<-M];exact Jzv g x y W Y Z
 rw[M];clear hv K hy M;go_enter func236,ntmps236
 go_wp2;go_region_held3 (fun X=>X.cell? ⟨w.heap.size,1,none⟩=some (.int .i64 a.n)/\X.cell? ⟨w.heap.size,2,none⟩=some (.string a.s)/\X.cell? ⟨w.heap.size+1,1,none⟩=some (.int .i64 b.n)/\X.cell? ⟨w.heap.size+1,2,none⟩=some (.string b.s))
  (first|go_keep|(go_split_ands;refine⟨?_,?_,?_,?_⟩<;>assumption))
  (first|(go_at_call 271;refine(H _).mono ?_;rintro e O ⟨rfl,rfl⟩)|(go_at_call 272;refine(I _).mono ?_;rintro e O ⟨rfl,rfl⟩)|(go_at_call 270;refine(U _ _ (by go_simp) (by go_simp)).mono ?_;rintro e O ⟨rfl,rfl⟩))
 go_wp2;go_ret
 exact⟨rfl,_,_,rfl⟩
def Jsg (a b:V):V×Nat:=(Yi (a.beq b),0)
def Jkc (a b:V):V×Nat:=(Yi (decide (Jxt a b<0)),0)
def Jk6 (a b d:V):V:=if a.beq d||b.beq d then d else if a.k=0 then a else b
def Jse (a b:V):V×Nat:=(Jk6 a b (Yi false),0)
def orR (a b:V):V×Nat:=(Jk6 a b (Yi true),0)
def Ju0 (a _b:V):V×Nat:=(Yi (a.n==0),0)
def Jle (a _b:V):V×Nat:=(Yi (a.k==0),0)
def Kd (R:V->V->V×Nat)(a b:V):V×Nat:=if a.k=0\/b.k=0 then (Jf,0)else R a b
end
open Go.RowKit Go.Shelf
attribute [local go_sem] Oc0
theorem Uc {w:World}{a p:Addr}{v x:Value}(hn:p≠a)(h:w.cell? a=some v):(w.setCell p x).cell? a=some v:=by rw[Ob5 _ _ _ _ hn];exact h
structure Pt where
 op:Int
 l:Int
 r:Int
 c:Int
 v:V
abbrev Pt.val (p:Pt):Value:=.agg #[.int .i64 p.op,.int .i64 p.l,.int .i64 p.r,.int .i64 p.c,.int .i64 p.v.k,.int .i64 p.v.n,.string p.v.s]
def Jkp:List Pt:=[⟨0,0,0,0,Jf⟩,⟨1,0,0,1,⟨1,1,⟨#[]⟩⟩⟩,⟨2,0,1,0,Jf⟩]
def Uz (w:World)(b:Nat)(ex ba:Value)(first n:Int)(y er:Value):Prop:=w.heap[b]?=some (.cells #[ex,ba,.int .i64 first,.int .i64 n,y,er] 260 (0,0))
theorem Uz.below {w w' b ex ba first n y er}(h:Uz w b ex ba first n y er)(hb:Below w.heap.size w w'):Uz w' b ex ba first n y er:=(hb.block b (Jd h)).trans h
theorem Uz.cells {w b ex ba first n y er}(h:Uz w b ex ba first n y er):
  w.cell? ⟨b,0,none⟩=some ex/\w.cell? ⟨b,1,none⟩=some ba/\w.cell? ⟨b,2,none⟩=some (.int .i64 first)/\w.cell? ⟨b,3,none⟩=some (.int .i64 n)/\w.cell? ⟨b,4,none⟩=some y/\w.cell? ⟨b,5,none⟩=some er:=by
 unfold Uz at h;simp[World.cell?,h]
theorem Uz.thaw {w b ex ba first n y er}(h:Uz w b ex ba first n y er)o:w.frozen? ⟨b,o,none⟩=false:=by
 unfold Uz at h;simp[World.frozen?,h]
def Ja8 (w:World)(eb:Nat)(row y:Int)(why:Value):Prop:=w.heap[eb]?=some (.cells #[.int .i64 row,.int .i64 y,why] 151 (0,0))
abbrev Qv (eb:Nat):Value:=.iface 147 (.pointer (some ⟨eb,0,none⟩))
