/- The law's own words for values: truth, order; typed parts. -/
import Derived.Test.YtjjdldddcegjiaaGreatDoorXj
import Derived.Test.YtjjdldddcegjiaaGreatDoorCb
set_option maxRecDepth 100000
namespace Go.Proofs.YtjjdldddcegjiaaGreatDoor
open Go.RowKit Go.Shelf Tryz
attribute [local go_sem] Oc0
abbrev okV (t:Int)(v:V):Prop:=okB t v.k v.n v.s=true
theorem Ja6 {s:ByteArray}(h:s.toList.isEmpty=true):s=⟨#[]⟩:=by
 rw[Og4]at h
 cases s with
 |mk d=>
  congr 1
  have:d.toList=[]:=by simpa using h
  exact Array.toList_eq_nil_iff.1 this
theorem Jgh {t:Int}{v:V}(h:okV t v):v=Jf∨(v.k=t∧t≠0∧((t=1∧v.s=⟨#[]⟩)∨(t=2∧(v.n=0∨v.n=1)∧v.s=⟨#[]⟩)∨(t=3∧v.n=0))):=by
 unfold okV okB okK at h
 simp only[decide_eq_true_eq]at h
 rcases h with⟨A,z,y⟩|⟨A,z⟩
 ·exact .inl (V.ext' A z (Ja6 y))
 refine .inr ⟨A,?_⟩
 rcases z with⟨z,y⟩|⟨z,C,y⟩|⟨z,y,_⟩
 ·exact⟨by omega,.inl ⟨by omega,Ja6 y⟩⟩
 ·exact⟨by omega,.inr (.inl ⟨by omega,C,Ja6 y⟩)⟩
 exact⟨by omega,.inr (.inr ⟨by omega,y⟩)⟩
theorem Jet (t:Int):okV t Jf:=by unfold okV;simp[okB,Jf]
theorem Kfp (n:Int):okV 1 (Jbg n):=by unfold okV;simp[okB,okK]
theorem Jdv (b:Bool):okV 2 (Yi b):=by unfold okV;cases b<;>simp[okB,okK,Kae]
theorem Jbw (b:Bool)(w:World):Calls prog 30 #[.bool b] w fun e w'=>e=.returned (Yi b).val∧Below w.heap.size w w':=by
 go_enter func30,ntmps30
 cases b
 ·go_wp2
  exact bodyPost_ret (v:=(Yi false).val) (by simp[results,results30,go_sem,Kae]) rfl ⟨rfl,Jc (Jc (Oa5 _ _) _) _⟩
 go_wp2
 exact bodyPost_ret (v:=(Yi true).val) (by simp[results,results30,go_sem,Kae]) rfl ⟨rfl,Jc (Jc (Oa5 _ _) _) _⟩
def isT (v:V):Bool:=v.k==2&&v.n==1
def isF (v:V):Bool:=v.k==2&&v.n==0
theorem Jj7 (v:V)(w:World):Calls prog 15 #[v.val] w fun e w'=>e=.returned (.bool (isT v))∧Below w.heap.size w w':=by
 unfold isT
 go_enter func15,ntmps15
 cases h1:(v.k==2)
 ·go_wp2
  exact bodyPost_ret (v:=.bool false) (by simp[results,results15,go_sem]) rfl ⟨rfl,Jc (Oa5 _ _) _⟩
 go_wp2
 exact bodyPost_ret (v:=.bool (v.n==1)) (by simp[results,results15,go_sem]) rfl ⟨rfl,Jc (Oa5 _ _) _⟩
theorem Jp5 (v:V)(w:World):Calls prog 31 #[v.val] w fun e w'=>e=.returned (.bool (isF v))∧Below w.heap.size w w':=by
 unfold isF
 go_enter func31,ntmps31
 cases h1:(v.k==2)
 ·go_wp2
  exact bodyPost_ret (v:=.bool false) (by simp[results,results31,go_sem]) rfl ⟨rfl,Jc (Oa5 _ _) _⟩
 go_wp2
 exact bodyPost_ret (v:=.bool (v.n==0)) (by simp[results,results31,go_sem]) rfl ⟨rfl,Jc (Oa5 _ _) _⟩
def Job (a b:V):Bool:=if a.k=3 then Op.bytesLess a.s.toList b.s.toList else decide (a.n<b.n)
theorem Jvi (a b:V)(w:World):Calls prog 32 #[a.val,b.val] w fun e w'=>e=.returned (.bool (Job a b))∧Below w.heap.size w w':=by
 unfold Job
 go_enter func32,ntmps32
 by_cases y:a.k=3
 ·rw[if_pos y]
  go_wp2
  exact bodyPost_ret (v:=.bool (Op.bytesLess a.s.toList b.s.toList)) (by simp[results,results32,go_sem]) rfl ⟨rfl,Jc (Jc (Oa5 _ _) _) _⟩
 rw[if_neg y]
 have z:(a.k==3)=false:=by simp[y]
 clear y
 go_wp2
 exact bodyPost_ret (v:=.bool (decide (a.n<b.n))) (by simp[results,results32,go_sem]) rfl ⟨rfl,Jc (Jc (Oa5 _ _) _) _⟩
theorem Jhf:∀ x y:List UInt8,Op.bytesLess x y=decide (Lib.compareBytes x y<0)
 |[],[]=>rfl
 |_::_,[]=>rfl
 |[],_::_=>rfl
 |a::x,b::y=>by
  simp only[Op.bytesLess,Lib.compareBytes]
  rw[Jhf x y]
  by_cases h:a<b
  ·simp[h]
  by_cases z:b<a
  ·have:a≠b:=fun e=>by subst e;exact UInt8.lt_irrefl _ z
   simp[h,z,this]
  have:a=b:=UInt8.le_antisymm (UInt8.not_lt.1 z) (UInt8.not_lt.1 h)
  simp[this]
theorem Kdy {t:Int}{a b:V}(H:okV t a)(K:okV t b)(M:a.k≠0)(O:b.k≠0):Jkc a b=(Yi (Job a b),0):=by
 rcases Jgh H with rfl|⟨C,_,D⟩
 ·exact absurd rfl M
 rcases Jgh K with rfl|⟨R,_,E⟩
 ·exact absurd rfl O
 unfold Jkc Job Jxt
 rw[C]
 by_cases h:t=3
 ·have z:a.n=0:=by omega
  have A:b.n=0:=by omega
  rw[if_pos h,z,A,Jhf]
  simp[ByteArray.toList_eq]
 have z:a.s=⟨#[]⟩:=by rcases D with⟨_,y⟩|⟨_,_,y⟩|⟨y,_⟩;exact y;exact y;exact absurd y h
 have A:b.s=⟨#[]⟩:=by rcases E with⟨_,y⟩|⟨_,_,y⟩|⟨y,_⟩;exact y;exact y;exact absurd y h
 rw[if_neg h,z,A]
 have:Lib.compareBytes (ByteArray.mk #[]).data.toList (ByteArray.mk #[]).data.toList=0:=rfl
 rw[this]
 congr 2
 by_cases y:a.n<b.n
 ·simp[y]
 rw[if_neg y]
 split<;>simp[y]
theorem Jgb {a:V}(h:okV 2 a):a=Jf∨a=Yi true∨a=Yi false:=by
 rcases Jgh h with h|⟨z,_,⟨y,_⟩|⟨_,y|y,A⟩|⟨y,_⟩⟩
 ·exact .inl h
 ·omega
 ·exact .inr (.inr (V.ext' z y A))
 ·exact .inr (.inl (V.ext' z y A))
 omega
theorem Jih (n:Int):(Jd0 n=true∧Zp n=n∧Yn n=0)∨(Jd0 n=false∧Zp n=0∧Yn n=10):=by
 unfold Jd0 Zp Yn
 by_cases h:-9223372036854775808≤n∧n≤9223372036854775807
 ·left;simp[h]
 right
 rw[if_neg h,if_neg h]
 refine⟨?_,rfl,rfl⟩
 simp only[Bool.and_eq_false_iff,decide_eq_false_iff_not]
 omega
def Khk (op a b:Int):Int:=if op=2 then Zp (a+b)else if op=3 then Zp (a-b)else if op=4 then Zp (a*b)else Kbr a b
def Kdw (op a b:Int):Int:=if op=2 then Yn (a+b)else if op=3 then Yn (a-b)else if op=4 then Yn (a*b)else Jq4 a b
theorem Jj1 (op a b:Int)(w:World)(A:2≤op)(C:op≤5)(y:Jg a)(z:Jg b):Calls prog 33 #[.int .i64 op,.int .i64 a,.int .i64 b] w (Jxc w (Khk op a b) (Kdw op a b)):=by
 have:op=2∨op=3∨op=4∨op=5:=by omega
 rcases this with rfl|rfl|rfl|rfl
 ·exact Yg a b w y z
 ·exact Jd1 a b w y z
 ·exact Jrk a b w y z
 exact Jrt a b w y z
theorem Jx6 {op:Int}{a b:V}(z:2≤op)(A:op≤5)(C:a.k≠0)(D:b.k≠0):(Kdw op a.n b.n=0∧opR op a b=(Jbg (Khk op a.n b.n),0))∨(Kdw op a.n b.n≠0∧∃ c:Nat,c≠0∧Kdw op a.n b.n=(c:Int)∧opR op a b=(Jf,c)):=by
 have y:¬ (a.k=0∨b.k=0):=by omega
 have:op=2∨op=3∨op=4∨op=5:=by omega
 rcases this with rfl|rfl|rfl|rfl
 ·show (Yn (a.n+b.n)=0∧Kd Jik a b=(Jbg (Zp (a.n+b.n)),0))∨(Yn (a.n+b.n)≠0∧∃ c:Nat,c≠0∧Yn (a.n+b.n)=(c:Int)∧Kd Jik a b=(Jf,c))
  unfold Kd Jik
  rw[if_neg y]
  rcases Jih (a.n+b.n)with⟨e1,e2,e3⟩|⟨e1,e2,e3⟩
  ·left;rw[e1,e2,e3];exact⟨rfl,rfl⟩
  right;rw[e1,e3];exact⟨by decide,10,by decide,rfl,rfl⟩
 ·show (Yn (a.n-b.n)=0∧Kd Jiw a b=(Jbg (Zp (a.n-b.n)),0))∨(Yn (a.n-b.n)≠0∧∃ c:Nat,c≠0∧Yn (a.n-b.n)=(c:Int)∧Kd Jiw a b=(Jf,c))
  unfold Kd Jiw
  rw[if_neg y]
  rcases Jih (a.n-b.n)with⟨e1,e2,e3⟩|⟨e1,e2,e3⟩
  ·left;rw[e1,e2,e3];exact⟨rfl,rfl⟩
  right;rw[e1,e3];exact⟨by decide,10,by decide,rfl,rfl⟩
 ·show (Yn (a.n*b.n)=0∧Kd Jkj a b=(Jbg (Zp (a.n*b.n)),0))∨(Yn (a.n*b.n)≠0∧∃ c:Nat,c≠0∧Yn (a.n*b.n)=(c:Int)∧Kd Jkj a b=(Jf,c))
  unfold Kd Jkj
  rw[if_neg y]
  rcases Jih (a.n*b.n)with⟨e1,e2,e3⟩|⟨e1,e2,e3⟩
  ·left;rw[e1,e2,e3];exact⟨rfl,rfl⟩
  right;rw[e1,e3];exact⟨by decide,10,by decide,rfl,rfl⟩
 show (Jq4 a.n b.n=0∧Kd Jg4 a b=(Jbg (Kbr a.n b.n),0))∨(Jq4 a.n b.n≠0∧∃ c:Nat,c≠0∧Jq4 a.n b.n=(c:Int)∧Kd Jg4 a b=(Jf,c))
 unfold Kd Jg4 Jq4 Kbr
 rw[if_neg y]
 by_cases h0:b.n=0
 ·right;rw[if_pos h0,if_pos h0];exact⟨by decide,9,by decide,rfl,rfl⟩
 rw[if_neg h0,if_neg h0,if_neg h0]
 rcases Jih (a.n.tdiv b.n)with⟨e1,e2,e3⟩|⟨e1,e2,e3⟩
 ·left;rw[e1,e2,e3];exact⟨rfl,rfl⟩
 right;rw[e1,e3];exact⟨by decide,10,by decide,rfl,rfl⟩
def tyP (sch:List Int)(p:Pt):Int:=if p.op=0 then sch.getD p.c.toNat 0 else if p.op=1 then p.c else if p.op≤5 then 1 else 2
structure Jeg (sch T:List Int) (j:Nat) (p:Pt):Prop where
 ok:Jr0 sch.length j p
 r:2≤p.op→0≤p.r∧p.r<j
 con:p.op=1→(1≤p.c∧p.c≤3)∧okV p.c p.v
 num:2≤p.op→p.op≤5→T.getD p.l.toNat 0=1∧T.getD p.r.toNat 0=1
 same:6≤p.op→p.op≤7→T.getD p.l.toNat 0=T.getD p.r.toNat 0
 tru:8≤p.op→p.op≤9→T.getD p.l.toNat 0=2∧T.getD p.r.toNat 0=2
 nt:p.op=10→T.getD p.l.toNat 0=2
def Uj (sch:List Int)(es:List Pt):Prop:=∀ j p,es[j]?=some p→Jeg sch (es.map (tyP sch)) j p
def Jee (sch:List Int)(x:List V):Prop:=x.length=sch.length∧(∀ i,i<x.length→okV (sch.getD i 0) (x.getD i Jf))∧∀ v∈x,Jg v.n
def Jho (T:List Int)(d:List V):Prop:=(∀ k,k<d.length→okV (T.getD k 0) (d.getD k Jf))∧∀ v∈d,Jg v.n
theorem Jpt {a b:V}(y:okV 2 a)(z:okV 2 b):Jse a b=(if isF a||isF b||(a.k != 0&&b.k != 0)then Yi (isT a&&isT b)else Jf,0):=by
 rcases Jgb y with rfl|rfl|rfl<;>rcases Jgb z with rfl|rfl|rfl<;>rfl
theorem Jvb {a b:V}(y:okV 2 a)(z:okV 2 b):orR a b=(if isT a||isT b||(a.k != 0&&b.k != 0)then Yi (isT a||isT b)else Jf,0):=by
 rcases Jgb y with rfl|rfl|rfl<;>rcases Jgb z with rfl|rfl|rfl<;>rfl
theorem Kfb {sch T:List Int}{x d:List V}{p:Pt}(y:Jeg sch T d.length p)(U:Jee sch x)(R:Jho T d)(h0:(Qp p x d).2=0):okV (tyP sch p) (Qp p x d).1:=by
 have bc:=y.ok.lo
 have Z:=y.ok.hi
 unfold Qp at h0 ⊢
 unfold tyP
 by_cases C:p.op=0
 ·rw[if_pos C,if_pos C]
  obtain⟨c1,c2⟩:=y.ok.col C
  exact U.2.1 _ (by rw[U.1];omega)
 rw[if_neg C]at h0 ⊢
 rw[if_neg C]
 by_cases D:p.op=1
 ·rw[if_pos D,if_pos D]
  exact(y.con D).2
 rw[if_neg D]at h0 ⊢
 rw[if_neg D]
 obtain⟨bf,bh⟩:=y.ok.left (by omega)
 obtain⟨bi,bj⟩:=y.r (by omega)
 have z:=R.1 p.l.toNat (by omega)
 have A:=R.1 p.r.toNat (by omega)
 generalize d.getD p.l.toNat Jf=a at *
 by_cases E:p.op≤9
 ·rw[if_pos E]at h0 ⊢
  generalize d.getD p.r.toNat Jf=b at *
  by_cases O:a.k=0∨b.k=0
  ·by_cases X:p.op≤7
   ·have:opR p.op a b=(Jf,0):=by
     have:p.op=2∨p.op=3∨p.op=4∨p.op=5∨p.op=6∨p.op=7:=by omega
     rcases this with h|h|h|h|h|h<;>rw[h]<;>exact if_pos O
    rw[this]
    exact Jet _
   obtain⟨H,K⟩:=y.tru (by omega) E
   rw[H]at z
   rw[K]at A
   rw[if_neg (by omega)]
   have:p.op=8∨p.op=9:=by omega
   rcases this with h|h
   ·rw[h,show opR 8 a b=Jse a b from rfl,Jpt z A]
    split
    ·exact Jdv _
    exact Jet _
   rw[h,show opR 9 a b=orR a b from rfl,Jvb z A]
   split
   ·exact Jdv _
   exact Jet _
  by_cases M:p.op≤5
  ·rw[if_pos M]
   rcases Jx6 (a:=a) (b:=b) (by omega:2≤p.op) M (by omega) (by omega)with⟨_,h⟩|⟨_,c,hc,_,h⟩
   ·rw[h];exact Kfp _
   rw[h]at h0;exact absurd h0 hc
  rw[if_neg M]
  have:p.op=6∨p.op=7∨p.op=8∨p.op=9:=by omega
  rcases this with h|h|h|h
  ·rw[h,show opR 6 a b=Kd Jsg a b from rfl];unfold Kd;rw[if_neg O];exact Jdv _
  ·rw[h,show opR 7 a b=Kd Jkc a b from rfl];unfold Kd;rw[if_neg O];exact Jdv _
  ·obtain⟨H,K⟩:=y.tru (by omega) E
   rw[H]at z
   rw[K]at A
   rw[h,show opR 8 a b=Jse a b from rfl,Jpt z A]
   split
   ·exact Jdv _
   exact Jet _
  obtain⟨H,K⟩:=y.tru (by omega) E
  rw[H]at z
  rw[K]at A
  rw[h,show opR 9 a b=orR a b from rfl,Jvb z A]
  split
  ·exact Jdv _
  exact Jet _
 rw[if_neg E]at h0 ⊢
 rw[if_neg (by omega)]
 have:p.op=10∨p.op=11:=by omega
 rcases this with h|h
 ·rw[h,show opR 10=Kd Ju0 from rfl]
  unfold Kd
  split
  ·exact Jet _
  exact Jdv _
 rw[h,show opR 11=Jle from rfl]
 exact Jdv _
end Go.Proofs.YtjjdldddcegjiaaGreatDoor
