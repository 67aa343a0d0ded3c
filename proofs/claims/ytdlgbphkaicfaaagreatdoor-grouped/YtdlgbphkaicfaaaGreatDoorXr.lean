/- The law's own words for values: truth, order; typed parts. -/
import Derived.Test.YtdlgbphkaicfaaaGreatDoorXj
import Derived.Test.YtdlgbphkaicfaaaGreatDoorHc
import Derived.Test.YtdlgbphkaicfaaaGreatDoorIv
set_option maxHeartbeats 1000000
set_option maxRecDepth 100000
namespace Go.Proofs.YtdlgbphkaicfaaaGreatDoor
open Go.RowKit Go.Shelf Tryz
attribute [local go_sem] Oc0
abbrev okV (t:Int)(v:V):Prop:=okB t v.k v.n v.s=true
theorem Ja6 {s:ByteArray}(h:s.toList.isEmpty=true):s=⟨#[]⟩:=by
 rw[Og4]at h
 cases s with
 |mk d=>
  congr 1
  have:d.toList=[]:=by simpa using h
  exact Array.toList_eq_nil_iff.1 this
theorem Jgh {t:Int}{v:V}(h:okV t v):v=Jf∨(v.k=t∧t≠0∧((t=1∧v.s=⟨#[]⟩)∨(t=2∧(v.n=0∨v.n=1)∧v.s=⟨#[]⟩)∨(t=3∧v.n=0))):=by
 unfold okV okB okK at h
 simp only[decide_eq_true_eq]at h
 rcases h with⟨h1,h2,y⟩|⟨h1,h2⟩
 ·exact .inl (V.ext' h1 h2 (Ja6 y))
 refine .inr ⟨h1,?_⟩
 rcases h2 with⟨h2,y⟩|⟨h2,A,y⟩|⟨h2,y,_⟩
 ·exact⟨by omega,.inl ⟨by omega,Ja6 y⟩⟩
 ·exact⟨by omega,.inr (.inl ⟨by omega,A,Ja6 y⟩)⟩
 exact⟨by omega,.inr (.inr ⟨by omega,y⟩)⟩
theorem Jet (t:Int):okV t Jf:=by unfold okV;simp[okB,Jf]
theorem Kfp (n:Int):okV 1 (Jbg n):=by unfold okV;simp[okB,okK]
theorem Jdv (b:Bool):okV 2 (Yi b):=by unfold okV;cases b<;>simp[okB,okK,Kae]
def isT (v:V):Bool:=v.k==2&&v.n==1
def isF (v:V):Bool:=v.k==2&&v.n==0
def Job (a b:V):Bool:=if a.k=3 then Op.bytesLess a.s.toList b.s.toList else decide (a.n<b.n)
theorem Jvi (a b:V)(w:World):Calls prog 25 #[a.val,b.val] w fun e w'=>e=.returned (.bool (Job a b))∧Below w.heap.size w w':=by
 unfold Job
 go_enter func25,ntmps25
 by_cases h1:a.k=3
 ·rw[if_pos h1]
  go_wp2
  exact bodyPost_ret (v:=.bool (Op.bytesLess a.s.toList b.s.toList)) (by simp[results,results25,go_sem]) rfl ⟨rfl,Jc (Jc (Oa5 _ _) _) _⟩
 rw[if_neg h1]
 have y:(a.k==3)=false:=by simp[h1]
 clear h1
 go_wp2
 exact bodyPost_ret (v:=.bool (decide (a.n<b.n))) (by simp[results,results25,go_sem]) rfl ⟨rfl,Jc (Jc (Oa5 _ _) _) _⟩
theorem Jhf:∀ x y:List UInt8,Op.bytesLess x y=decide (Lib.compareBytes x y<0)
 |[],[]=>rfl
 |_::_,[]=>rfl
 |[],_::_=>rfl
 |a::x,b::y=>by
  simp only[Op.bytesLess,Lib.compareBytes]
  rw[Jhf x y]
  by_cases h:a<b
  ·simp[h]
  by_cases h2:b<a
  ·have:a≠b:=fun e=>by subst e;exact UInt8.lt_irrefl _ h2
   simp[h,h2,this]
  have:a=b:=UInt8.le_antisymm (UInt8.not_lt.1 h2) (UInt8.not_lt.1 h)
  simp[this]
theorem Kdy {t:Int}{a b:V}(H:okV t a)(K:okV t b)(M:a.k≠0)(kb:b.k≠0):Jkc a b=(Yi (Job a b),0):=by
 rcases Jgh H with rfl|⟨h1,_,h2⟩
 ·exact absurd rfl M
 rcases Jgh K with rfl|⟨O,_,E⟩
 ·exact absurd rfl kb
 unfold Jkc Job Jxt
 rw[h1]
 by_cases h:t=3
 ·have A:a.n=0:=by omega
  have D:b.n=0:=by omega
  rw[if_pos h,A,D,Jhf]
  simp[ByteArray.toList_eq]
 have A:a.s=⟨#[]⟩:=by rcases h2 with⟨_,y⟩|⟨_,_,y⟩|⟨y,_⟩;exact y;exact y;exact absurd y h
 have D:b.s=⟨#[]⟩:=by rcases E with⟨_,y⟩|⟨_,_,y⟩|⟨y,_⟩;exact y;exact y;exact absurd y h
 rw[if_neg h,A,D]
 have:Lib.compareBytes (ByteArray.mk #[]).data.toList (ByteArray.mk #[]).data.toList=0:=rfl
 rw[this]
 congr 2
 by_cases y:a.n<b.n
 ·simp[y]
 rw[if_neg y]
 split<;>simp[y]
theorem Jgb {a:V}(h:okV 2 a):a=Jf∨a=Yi true∨a=Yi false:=by
 rcases Jgh h with h|⟨h1,_,⟨h2,_⟩|⟨_,h2|h2,y⟩|⟨h2,_⟩⟩
 ·exact .inl h
 ·omega
 ·exact .inr (.inr (V.ext' h1 h2 y))
 ·exact .inr (.inl (V.ext' h1 h2 y))
 omega
theorem Jih (n:Int):(Jd0 n=true∧Zp n=n∧Yn n=0)∨(Jd0 n=false∧Zp n=0∧Yn n=10):=by
 unfold Jd0 Zp Yn
 by_cases h:-9223372036854775808≤n∧n≤9223372036854775807
 ·left;simp[h]
 right
 rw[if_neg h,if_neg h]
 refine⟨?_,rfl,rfl⟩
 simp only[Bool.and_eq_false_iff,decide_eq_false_iff_not]
 omega
def Khk (op a b:Int):Int:=if op=2 then Zp (a+b)else if op=3 then Zp (a-b)else if op=4 then Zp (a*b)else Kbr a b
def Kdw (op a b:Int):Int:=if op=2 then Yn (a+b)else if op=3 then Yn (a-b)else if op=4 then Yn (a*b)else Jq4 a b
theorem Jx6 {op:Int}{a b:V}(h2:2≤op)(A:op≤5)(D:a.k≠0)(kb:b.k≠0):(Kdw op a.n b.n=0∧opR op a b=(Jbg (Khk op a.n b.n),0))∨(Kdw op a.n b.n≠0∧∃ c:Nat,c≠0∧Kdw op a.n b.n=(c:Int)∧opR op a b=(Jf,c)):=by
 have y:¬ (a.k=0∨b.k=0):=by omega
 have:op=2∨op=3∨op=4∨op=5:=by omega
 rcases this with rfl|rfl|rfl|rfl
 ·show (Yn (a.n+b.n)=0∧Kd Jik a b=(Jbg (Zp (a.n+b.n)),0))∨(Yn (a.n+b.n)≠0∧∃ c:Nat,c≠0∧Yn (a.n+b.n)=(c:Int)∧Kd Jik a b=(Jf,c))
  unfold Kd Jik
  rw[if_neg y]
  rcases Jih (a.n+b.n)with⟨e1,e2,e3⟩|⟨e1,e2,e3⟩
  ·left;rw[e1,e2,e3];exact⟨rfl,rfl⟩
  right;rw[e1,e3];exact⟨by decide,10,by decide,rfl,rfl⟩
 ·show (Yn (a.n-b.n)=0∧Kd Jiw a b=(Jbg (Zp (a.n-b.n)),0))∨(Yn (a.n-b.n)≠0∧∃ c:Nat,c≠0∧Yn (a.n-b.n)=(c:Int)∧Kd Jiw a b=(Jf,c))
  unfold Kd Jiw
  rw[if_neg y]
  rcases Jih (a.n-b.n)with⟨e1,e2,e3⟩|⟨e1,e2,e3⟩
  ·left;rw[e1,e2,e3];exact⟨rfl,rfl⟩
  right;rw[e1,e3];exact⟨by decide,10,by decide,rfl,rfl⟩
 ·show (Yn (a.n*b.n)=0∧Kd Jkj a b=(Jbg (Zp (a.n*b.n)),0))∨(Yn (a.n*b.n)≠0∧∃ c:Nat,c≠0∧Yn (a.n*b.n)=(c:Int)∧Kd Jkj a b=(Jf,c))
  unfold Kd Jkj
  rw[if_neg y]
  rcases Jih (a.n*b.n)with⟨e1,e2,e3⟩|⟨e1,e2,e3⟩
  ·left;rw[e1,e2,e3];exact⟨rfl,rfl⟩
  right;rw[e1,e3];exact⟨by decide,10,by decide,rfl,rfl⟩
 show (Jq4 a.n b.n=0∧Kd Jg4 a b=(Jbg (Kbr a.n b.n),0))∨(Jq4 a.n b.n≠0∧∃ c:Nat,c≠0∧Jq4 a.n b.n=(c:Int)∧Kd Jg4 a b=(Jf,c))
 unfold Kd Jg4 Jq4 Kbr
 rw[if_neg y]
 by_cases h0:b.n=0
 ·right;rw[if_pos h0,if_pos h0];exact⟨by decide,9,by decide,rfl,rfl⟩
 rw[if_neg h0,if_neg h0,if_neg h0]
 rcases Jih (a.n.tdiv b.n)with⟨e1,e2,e3⟩|⟨e1,e2,e3⟩
 ·left;rw[e1,e2,e3];exact⟨rfl,rfl⟩
 right;rw[e1,e3];exact⟨by decide,10,by decide,rfl,rfl⟩
def tyP (sch:List Int)(p:Pt):Int:=if p.op=0 then sch.getD p.c.toNat 0 else if p.op=1 then p.c else if p.op≤5 then 1 else 2
structure Jeg (sch T:List Int) (j:Nat) (p:Pt):Prop where
 ok:Jr0 sch.length j p
 r:2≤p.op→0≤p.r∧p.r<j
 con:p.op=1→(1≤p.c∧p.c≤3)∧okV p.c p.v
 num:2≤p.op→p.op≤5→T.getD p.l.toNat 0=1∧T.getD p.r.toNat 0=1
 same:6≤p.op→p.op≤7→T.getD p.l.toNat 0=T.getD p.r.toNat 0
 tru:8≤p.op→p.op≤9→T.getD p.l.toNat 0=2∧T.getD p.r.toNat 0=2
 nt:p.op=10→T.getD p.l.toNat 0=2
def Uj (sch:List Int)(es:List Pt):Prop:=∀ j p,es[j]?=some p→Jeg sch (es.map (tyP sch)) j p
def Jee (sch:List Int)(x:List V):Prop:=x.length=sch.length∧(∀ i,i<x.length→okV (sch.getD i 0) (x.getD i Jf))∧∀ v∈x,Jg v.n
def Jho (T:List Int)(d:List V):Prop:=(∀ k,k<d.length→okV (T.getD k 0) (d.getD k Jf))∧∀ v∈d,Jg v.n
theorem Jpt {a b:V}(y:okV 2 a)(A:okV 2 b):Jse a b=(if isF a||isF b||(a.k != 0&&b.k != 0)then Yi (isT a&&isT b)else Jf,0):=by
 rcases Jgb y with rfl|rfl|rfl<;>rcases Jgb A with rfl|rfl|rfl<;>rfl
theorem Jvb {a b:V}(y:okV 2 a)(A:okV 2 b):orR a b=(if isT a||isT b||(a.k != 0&&b.k != 0)then Yi (isT a||isT b)else Jf,0):=by
 rcases Jgb y with rfl|rfl|rfl<;>rcases Jgb A with rfl|rfl|rfl<;>rfl
theorem Kfb {sch T:List Int}{x d:List V}{p:Pt}(y:Jeg sch T d.length p)(Z:Jee sch x)(X:Jho T d)(h0:(Qp p x d).2=0):okV (tyP sch p) (Qp p x d).1:=by
 have bc:=y.ok.lo
 have bb:=y.ok.hi
 unfold Qp at h0 ⊢
 unfold tyP
 by_cases E:p.op=0
 ·rw[if_pos E,if_pos E]
  obtain⟨c1,c2⟩:=y.ok.col E
  exact Z.2.1 _ (by rw[Z.1];omega)
 rw[if_neg E]at h0 ⊢
 rw[if_neg E]
 by_cases H:p.op=1
 ·rw[if_pos H,if_pos H]
  exact(y.con H).2
 rw[if_neg H]at h0 ⊢
 rw[if_neg H]
 obtain⟨l1,l2⟩:=y.ok.left (by omega)
 obtain⟨bf,bh⟩:=y.r (by omega)
 have A:=X.1 p.l.toNat (by omega)
 have D:=X.1 p.r.toNat (by omega)
 generalize d.getD p.l.toNat Jf=a at *
 by_cases K:p.op≤9
 ·rw[if_pos K]at h0 ⊢
  generalize d.getD p.r.toNat Jf=b at *
  by_cases U:a.k=0∨b.k=0
  ·by_cases ba:p.op≤7
   ·have:opR p.op a b=(Jf,0):=by
     have:p.op=2∨p.op=3∨p.op=4∨p.op=5∨p.op=6∨p.op=7:=by omega
     rcases this with h|h|h|h|h|h<;>rw[h]<;>exact if_pos U
    rw[this]
    exact Jet _
   obtain⟨M,O⟩:=y.tru (by omega) K
   rw[M]at A
   rw[O]at D
   rw[if_neg (by omega)]
   have:p.op=8∨p.op=9:=by omega
   rcases this with h|h
   ·rw[h,show opR 8 a b=Jse a b from rfl,Jpt A D]
    split
    ·exact Jdv _
    exact Jet _
   rw[h,show opR 9 a b=orR a b from rfl,Jvb A D]
   split
   ·exact Jdv _
   exact Jet _
  by_cases R:p.op≤5
  ·rw[if_pos R]
   rcases Jx6 (a:=a) (b:=b) (by omega:2≤p.op) R (by omega) (by omega)with⟨_,h⟩|⟨_,c,hc,_,h⟩
   ·rw[h];exact Kfp _
   rw[h]at h0;exact absurd h0 hc
  rw[if_neg R]
  have:p.op=6∨p.op=7∨p.op=8∨p.op=9:=by omega
  rcases this with h|h|h|h
  ·rw[h,show opR 6 a b=Kd Jsg a b from rfl];unfold Kd;rw[if_neg U];exact Jdv _
  ·rw[h,show opR 7 a b=Kd Jkc a b from rfl];unfold Kd;rw[if_neg U];exact Jdv _
  ·obtain⟨M,O⟩:=y.tru (by omega) K
   rw[M]at A
   rw[O]at D
   rw[h,show opR 8 a b=Jse a b from rfl,Jpt A D]
   split
   ·exact Jdv _
   exact Jet _
  obtain⟨M,O⟩:=y.tru (by omega) K
  rw[M]at A
  rw[O]at D
  rw[h,show opR 9 a b=orR a b from rfl,Jvb A D]
  split
  ·exact Jdv _
  exact Jet _
 rw[if_neg K]at h0 ⊢
 rw[if_neg (by omega)]
 have:p.op=10∨p.op=11:=by omega
 rcases this with h|h
 ·rw[h,show opR 10=Kd Ju0 from rfl]
  unfold Kd
  split
  ·exact Jet _
  exact Jdv _
 rw[h,show opR 11=Jle from rfl]
 exact Jdv _
attribute [local go_sem] Oc0
theorem Jef (a:Option Addr)(cap:Nat)(y:List Int)(i:Nat)(w:World)(hi:i<y.length)(h:Kc w a y) :
  Calls prog 136 #[.slice a y.length cap,.int .i64 (i:Int)] w fun e w'=>e=.returned (.tuple #[.int .i64 (y.getD i 0),.bool true])∧w'=w:=by
 obtain⟨b,o,rfl,E,D⟩:=h.at hi
 have A:y.getD i 0=y[i]:=by rw[Oa0,Oa3 hi];rfl
 rw[A]
 generalize y[i]=t at D ⊢
 clear A h
 have H:(0:Int)≤(i:Int):=by omega
 have K:(i:Int)<(y.length:Int):=by omega
 go_enter func136,ntmps136
 go_wp2
 exact bodyPost_ret (v:=.tuple #[.int .i64 t,.bool true]) (by simp[results,results136,go_sem]) rfl ⟨rfl,rfl⟩
def Jg6 (w:World)(A:Nat)(y ev:Value):Prop:=w.heap[A]?=some (.cells #[y,ev] 333 (0,0))
theorem Jg6.cells {w:World}{y:Nat}{A ev:Value}(h:Jg6 w y A ev):w.cell? ⟨y,0,none⟩=some A∧w.cell? ⟨y,1,none⟩=some ev:=by
 constructor<;>simp[World.cell?,show w.heap[y]?=_ from h]
abbrev Zj (w:World)(p:Pt):World:=w.alloc (.cells #[.int .i64 p.op,.int .i64 p.l,.int .i64 p.r,.int .i64 p.c,.int .i64 p.v.k,.int .i64 p.v.n,.string p.v.s] 65)
abbrev TyP (w:World)(t:Int):Ending→World→Prop:=fun e w'=>e=.returned (.tuple #[.int .i64 t,.bool true])∧Below w.heap.size w w'
theorem Jgj (w:World)(p:Pt):(Zj w p).cell? ⟨w.heap.size,1,none⟩=some (.int .i64 p.l)∧(Zj w p).cell? ⟨w.heap.size,2,none⟩=some (.int .i64 p.r)∧(Zj w p).cell? ⟨w.heap.size,3,none⟩=some (.int .i64 p.c):=by
 have:=heap_alloc_new w (.cells #[.int .i64 p.op,.int .i64 p.l,.int .i64 p.r,.int .i64 p.c,.int .i64 p.v.k,.int .i64 p.v.n,.string p.v.s] 65)
 refine⟨?_,?_,?_⟩<;>(unfold World.cell?;rw[this];rfl)
theorem Jbr {w:World}{A:Nat}{y ev:Value}(h:Jg6 w A y ev)(o:Obj):Jg6 (w.alloc o) A y ev:=(Oa9 _ _ _ (Jd h)).trans h
theorem Kfz (K:Nat)(ba:Value)(D:Option Addr)(E:Nat)(T:List Int)(p:Pt)(L:Nat)(hL:p.l=(L:Int))(R:L<T.length)(w:World)(bb:Jg6 w K ba (.slice D T.length E))(M:Kc w D T) :
  Calls prog 259 #[.pointer (some ⟨K,0,none⟩),p.val] w (TyP w 2):=by
 obtain⟨_,c1⟩:=bb.cells
 obtain⟨b1,b2,_⟩:=Jgj w p
 have U:Below w.heap.size w (Zj w p):=Jc (Oa5 _ _) _
 have X:Hid (∀ A,Below w.heap.size w A→Calls prog 136 #[.slice D T.length E,.int .i64 (L:Int)] A fun e w'=>e=.returned (.tuple #[.int .i64 (T.getD L 0),.bool true])∧w'=A):=fun A bc=>Jef D E T L A R (M.below bc)
 rw[hL]at b1
 clear hL R M
 go_enter func259,ntmps259
 go_upto_region 1 with fail
 refine wp_region_held_drew (S:=fun A=>A.cell? ⟨K,1,none⟩=some (.slice D T.length E)∧A.cell? ⟨w.heap.size,1,none⟩=some (.int .i64 (L:Int))) (by kernel_rfl) ⟨Jh (Kf c1),Jh b1⟩ (fun y=>?_)
 refine tk 0 ?_ rfl y ?_ (tk 1 ?_ rfl y ?_ (tk 2 ?_ rfl y ?_ (tk 3 ?_ rfl y ?_ (tk 4 ?_ rfl y ?_ (tk 5 ?_ rfl y ?_ ?_)))))
 iterate 6
  rotate_left 1
  ·intro w H;(try dsimp only at H);go_simp;try rfl
 simp only[Act.put,List.getElem_toArray,List.getElem_cons_zero,List.getElem_cons_succ,Oa1,List.set_cons_zero,List.set_cons_succ]
 refine wpAnyH_ready (rs:=[6]) (by kernel_rfl) (by simp) (AllReadyH.cons rfl (fun Z O=>?_) AllReadyH.nil)
 go_simp
 refine(X.out (Zj w p).drew (Jj U)).mono ?_
 rintro e bf ⟨rfl,rfl⟩
 go_simp
 refine O.out _ _ ⟨y.1,y.2⟩ (fun y=>?_)
 clear O Z
 refine tk 7 ?_ rfl y ?_ (tk 8 ?_ rfl y ?_ (tk 9 ?_ rfl y ?_ (tk 10 ?_ rfl y ?_ (tk 11 ?_ rfl y ?_ ?_))))
 iterate 5
  rotate_left 1
  ·intro w H;(try dsimp only at H);go_simp;try rfl
 simp only[Act.put,List.getElem_toArray,List.getElem_cons_zero,List.getElem_cons_succ,Oa1,List.set_cons_zero,List.set_cons_succ]
 refine wpAnyH_done (by kernel_rfl) ?_ _
 go_wp2
 exact bodyPost_ret (v:=.tuple #[.int .i64 2,.bool true]) (by simp[results,results259,go_sem]) rfl ⟨rfl,Jj U⟩
theorem Kaj (K:Nat)(ba:Value)(D:Option Addr)(E:Nat)(T:List Int)(p:Pt)(L:Nat)(hL:p.l=(L:Int))(U:L<T.length)(h2:T.getD L 0=2)(w:World)(bb:Jg6 w K ba (.slice D T.length E))(O:Kc w D T) :
  Calls prog 258 #[.pointer (some ⟨K,0,none⟩),p.val] w (TyP w 2):=by
 obtain⟨_,c1⟩:=bb.cells
 obtain⟨b1,b2,_⟩:=Jgj w p
 have X:Below w.heap.size w (Zj w p):=Jc (Oa5 _ _) _
 have M:Hid (∀ A,Below w.heap.size w A→Calls prog 136 #[.slice D T.length E,.int .i64 (L:Int)] A fun e w'=>e=.returned (.tuple #[.int .i64 (T.getD L 0),.bool true])∧w'=A):=fun A bc=>Jef D E T L A U (O.below bc)
 rw[hL]at b1
 clear hL U O
 rw[h2]at M
 clear h2
 go_enter func258,ntmps258
 go_upto_region 1 with fail
 refine wp_region_held_drew (S:=fun A=>A.cell? ⟨K,1,none⟩=some (.slice D T.length E)∧A.cell? ⟨w.heap.size,1,none⟩=some (.int .i64 (L:Int))) (by kernel_rfl) ⟨Jh (Kf c1),Jh b1⟩ (fun y=>?_)
 refine tk 0 ?_ rfl y ?_ (tk 1 ?_ rfl y ?_ (tk 2 ?_ rfl y ?_ (tk 3 ?_ rfl y ?_ (tk 4 ?_ rfl y ?_ (tk 5 ?_ rfl y ?_ ?_)))))
 iterate 6
  rotate_left 1
  ·intro w H;(try dsimp only at H);go_simp;try rfl
 simp only[Act.put,List.getElem_toArray,List.getElem_cons_zero,List.getElem_cons_succ,Oa1,List.set_cons_zero,List.set_cons_succ]
 refine wpAnyH_ready (rs:=[6]) (by kernel_rfl) (by simp) (AllReadyH.cons rfl (fun Z R=>?_) AllReadyH.nil)
 go_simp
 refine(M.out (Zj w p).drew (Jj X)).mono ?_
 rintro e bf ⟨rfl,rfl⟩
 go_simp
 refine R.out _ _ ⟨y.1,y.2⟩ (fun y=>?_)
 clear R Z
 refine tk 7 ?_ rfl y ?_ (tk 8 ?_ rfl y ?_ (tk 9 ?_ rfl y ?_ (tk 10 ?_ rfl y ?_ (tk 11 ?_ rfl y ?_ ?_))))
 iterate 5
  rotate_left 1
  ·intro w H;(try dsimp only at H);go_simp;try rfl
 simp only[Act.put,List.getElem_toArray,List.getElem_cons_zero,List.getElem_cons_succ,Oa1,List.set_cons_zero,List.set_cons_succ]
 refine wpAnyH_done (by kernel_rfl) ?_ _
 go_wp2
 exact bodyPost_ret (v:=.tuple #[.int .i64 2,.bool true]) (by simp[results,results258,go_sem]) rfl ⟨rfl,Jj X⟩
theorem Jtu (K:Nat)(M:Value)(bc:Option Addr)(bf:Nat)(T:List Int)(p:Pt)(D:Option Addr)(E C:Nat)(sch:List Int)(bj:M=.slice D sch.length E)(O:p.c=(C:Int))(R:C<sch.length)(w:World)(bh:Jg6 w K M (.slice bc T.length bf))(X:Kc w D sch) :
  Calls prog 253 #[.pointer (some ⟨K,0,none⟩),p.val] w (TyP w (sch.getD C 0)):=by
 subst bj
 obtain⟨c0,_⟩:=bh.cells
 obtain⟨_,_,b3⟩:=Jgj w p
 have Z:Below w.heap.size w (Zj w p):=Jc (Oa5 _ _) _
 have ba:Hid (∀ A,Below w.heap.size w A→Calls prog 136 #[.slice D sch.length E,.int .i64 (C:Int)] A fun e w'=>e=.returned (.tuple #[.int .i64 (sch.getD C 0),.bool true])∧w'=A):=fun A bi=>Jef D E sch C A R (X.below bi)
 rw[O]at b3
 clear O R X
 go_enter func253,ntmps253
 go_upto_region 1 with fail
 refine wp_region_held_drew (S:=fun A=>A.cell? ⟨K,0,none⟩=some (.slice D sch.length E)∧A.cell? ⟨w.heap.size,3,none⟩=some (.int .i64 (C:Int))) (by kernel_rfl) ⟨Jh (Kf c0),Jh b3⟩ (fun y=>?_)
 refine tk 0 ?_ rfl y ?_ (tk 1 ?_ rfl y ?_ (tk 2 ?_ rfl y ?_ (tk 3 ?_ rfl y ?_ (tk 4 ?_ rfl y ?_ (tk 5 ?_ rfl y ?_ ?_)))))
 iterate 6
  rotate_left 1
  ·intro w H;(try dsimp only at H);go_simp;try rfl
 simp only[Act.put,List.getElem_toArray,List.getElem_cons_zero,List.getElem_cons_succ,Oa1,List.set_cons_zero,List.set_cons_succ]
 refine wpAnyH_ready (rs:=[6]) (by kernel_rfl) (by simp) (AllReadyH.cons rfl (fun bb U=>?_) AllReadyH.nil)
 go_simp
 refine(ba.out (Zj w p).drew (Jj Z)).mono ?_
 rintro e bk ⟨rfl,rfl⟩
 go_simp
 refine U.out _ _ ⟨y.1,y.2⟩ (fun y=>?_)
 clear U bb
 refine tk 7 ?_ rfl y ?_ (tk 8 ?_ rfl y ?_ (tk 9 ?_ rfl y ?_ (tk 10 ?_ rfl y ?_ ?_)))
 iterate 4
  rotate_left 1
  ·intro w H;(try dsimp only at H);go_simp;try rfl
 simp only[Act.put,List.getElem_toArray,List.getElem_cons_zero,List.getElem_cons_succ,Oa1,List.set_cons_zero,List.set_cons_succ]
 refine wpAnyH_done (by kernel_rfl) ?_ _
 go_wp2
 exact bodyPost_ret (v:=.tuple #[.int .i64 (sch.getD C 0),.bool true]) (by simp[results,results253,go_sem]) rfl ⟨rfl,Jj Z⟩
theorem Jhp (O:Nat)(bj:Value)(D:Option Addr)(H:Nat)(T:List Int)(p:Pt)(L:Nat)(hL:p.l=(L:Int))(bc:L<T.length)(E:Nat)(hR:p.r=(E:Int))(bf:E<T.length)(bh:T.getD L 0=T.getD E 0)(w:World)(bk:Jg6 w O bj (.slice D T.length H))(X:Kc w D T) :
  Calls prog 286 #[.pointer (some ⟨O,0,none⟩),p.val] w (TyP w (T.getD L 0)):=by
 obtain⟨_,c1⟩:=bk.cells
 obtain⟨b1,b2,_⟩:=Jgj w p
 have ba:Below w.heap.size w (Zj w p):=Jc (Oa5 _ _) _
 have bb:Hid (∀ A,Below w.heap.size w A→Calls prog 136 #[.slice D T.length H,.int .i64 (L:Int)] A fun e w'=>e=.returned (.tuple #[.int .i64 (T.getD L 0),.bool true])∧w'=A):=fun A Z=>Jef D H T L A bc (X.below Z)
 have R:Hid (∀ A,Below w.heap.size w A→Calls prog 136 #[.slice D T.length H,.int .i64 (E:Int)] A fun e w'=>e=.returned (.tuple #[.int .i64 (T.getD E 0),.bool true])∧w'=A):=fun A Z=>Jef D H T E A bf (X.below Z)
 rw[hL]at b1
 rw[hR]at b2
 rw[←bh]at R
 generalize T.getD L 0=t at bb R ⊢
 clear hL bc X hR bf bh
 go_enter func286,ntmps286
 go_upto_region 1 with fail
 refine wp_region_held_drew (S:=fun A=>A.cell? ⟨O,1,none⟩=some (.slice D T.length H)∧A.cell? ⟨w.heap.size,1,none⟩=some (.int .i64 (L:Int))) (by kernel_rfl) ⟨Jh (Kf c1),Jh b1⟩ (fun y=>?_)
 refine tk 0 ?_ rfl y ?_ (tk 1 ?_ rfl y ?_ (tk 2 ?_ rfl y ?_ (tk 3 ?_ rfl y ?_ (tk 4 ?_ rfl y ?_ (tk 5 ?_ rfl y ?_ ?_)))))
 iterate 6
  rotate_left 1
  ·intro w K;(try dsimp only at K);go_simp;try rfl
 simp only[Act.put,List.getElem_toArray,List.getElem_cons_zero,List.getElem_cons_succ,Oa1,List.set_cons_zero,List.set_cons_succ]
 refine wpAnyH_ready (rs:=[6]) (by kernel_rfl) (by simp) (AllReadyH.cons rfl (fun U M=>?_) AllReadyH.nil)
 go_simp
 refine(bb.out (Zj w p).drew (Jj ba)).mono ?_
 rintro e bi ⟨rfl,rfl⟩
 go_simp
 refine M.out _ _ ⟨y.1,y.2⟩ (fun y=>?_)
 clear M U
 refine tk 7 ?_ rfl y ?_ (tk 8 ?_ rfl y ?_ (tk 9 ?_ rfl y ?_ (tk 10 ?_ rfl y ?_ (tk 11 ?_ rfl y ?_ ?_))))
 iterate 5
  rotate_left 1
  ·intro w K;(try dsimp only at K);go_simp;try rfl
 simp only[Act.put,List.getElem_toArray,List.getElem_cons_zero,List.getElem_cons_succ,Oa1,List.set_cons_zero,List.set_cons_succ]
 refine wpAnyH_done (by kernel_rfl) ?_ _
 go_upto_region 2 with fail
 refine wp_region_held_drew (S:=fun A=>A.cell? ⟨O,1,none⟩=some (.slice D T.length H)∧A.cell? ⟨w.heap.size,2,none⟩=some (.int .i64 (E:Int))) (by kernel_rfl) ⟨Jh (Jh (Kf c1)),Jh (Jh b2)⟩ (fun y=>?_)
 refine tk 0 ?_ rfl y ?_ (tk 1 ?_ rfl y ?_ (tk 2 ?_ rfl y ?_ (tk 3 ?_ rfl y ?_ (tk 4 ?_ rfl y ?_ (tk 5 ?_ rfl y ?_ ?_)))))
 iterate 6
  rotate_left 1
  ·intro w K;(try dsimp only at K);go_simp;try rfl
 simp only[Act.put,List.getElem_toArray,List.getElem_cons_zero,List.getElem_cons_succ,Oa1,List.set_cons_zero,List.set_cons_succ]
 refine wpAnyH_ready (rs:=[6]) (by kernel_rfl) (by simp) (AllReadyH.cons rfl (fun U M=>?_) AllReadyH.nil)
 go_simp
 refine(R.out (Zj w p).drew.drew (Jj (Jj ba))).mono ?_
 rintro e bi ⟨rfl,rfl⟩
 go_simp
 refine M.out _ _ ⟨y.1,y.2⟩ (fun y=>?_)
 clear M U
 refine tk 7 ?_ rfl y ?_ (tk 8 ?_ rfl y ?_ (tk 9 ?_ rfl y ?_ (tk 10 ?_ rfl y ?_ (tk 11 ?_ rfl y ?_ ?_))))
 iterate 5
  rotate_left 1
  ·intro w K;(try dsimp only at K);go_simp;try rfl
 simp only[Act.put,List.getElem_toArray,List.getElem_cons_zero,List.getElem_cons_succ,Oa1,List.set_cons_zero,List.set_cons_succ]
 refine wpAnyH_done (by kernel_rfl) ?_ _
 go_wp2
 exact bodyPost_ret (v:=.tuple #[.int .i64 t,.bool true]) (by simp[results,results286,go_sem]) rfl ⟨rfl,Jj (Jj ba)⟩
theorem Jtk (D:Nat)(E:Value)(A:Option Addr)(H:Nat)(T:List Int)(p:Pt)(L:Nat)(hL:p.l=(L:Int))(M:L<T.length)(y:Nat)(hR:p.r=(y:Int))(O:y<T.length)(U:T.getD L 0=T.getD y 0)(h1:T.getD L 0=1)(w:World)(X:Jg6 w D E (.slice A T.length H))(K:Kc w A T) :
  Calls prog 255 #[.pointer (some ⟨D,0,none⟩),p.val] w (TyP w 1):=by
 have R:=Jhp D E A H T p L hL M y hR O U (Zj w p) (Jbr X _) (K.below (Jc (Oa5 _ _) _))
 rw[h1]at R
 clear hL M K hR O U h1
 go_enter func255,ntmps255
 go_wp2_with (go_at_call 286;refine R.mono ?_;rintro bb ba ⟨rfl,Z⟩)
 exact bodyPost_ret (v:=.tuple #[.int .i64 1,.bool true]) (by simp[results,results255,go_sem]) rfl ⟨rfl,Jb (Jc (Oa5 _ _) _) Z⟩
theorem Jsl (D:Nat)(E:Value)(A:Option Addr)(H:Nat)(T:List Int)(p:Pt)(L:Nat)(hL:p.l=(L:Int))(M:L<T.length)(y:Nat)(hR:p.r=(y:Int))(O:y<T.length)(U:T.getD L 0=T.getD y 0)(w:World)(X:Jg6 w D E (.slice A T.length H))(K:Kc w A T) :
  Calls prog 256 #[.pointer (some ⟨D,0,none⟩),p.val] w (TyP w 2):=by
 have R:=Jhp D E A H T p L hL M y hR O U (Zj w p) (Jbr X _) (K.below (Jc (Oa5 _ _) _))
 generalize T.getD L 0=t at R
 clear hL M K hR O U
 go_enter func256,ntmps256
 go_wp2_with (go_at_call 286;refine R.mono ?_;rintro bb ba ⟨rfl,Z⟩)
 exact bodyPost_ret (v:=.tuple #[.int .i64 2,.bool true]) (by simp[results,results256,go_sem]) rfl ⟨rfl,Jb (Jc (Oa5 _ _) _) Z⟩
theorem Juq (D:Nat)(E:Value)(A:Option Addr)(H:Nat)(T:List Int)(p:Pt)(L:Nat)(hL:p.l=(L:Int))(M:L<T.length)(y:Nat)(hR:p.r=(y:Int))(O:y<T.length)(U:T.getD L 0=T.getD y 0)(h1:T.getD L 0=2)(w:World)(X:Jg6 w D E (.slice A T.length H))(K:Kc w A T) :
  Calls prog 257 #[.pointer (some ⟨D,0,none⟩),p.val] w (TyP w 2):=by
 have R:=Jhp D E A H T p L hL M y hR O U (Zj w p) (Jbr X _) (K.below (Jc (Oa5 _ _) _))
 rw[h1]at R
 clear hL M K hR O U h1
 go_enter func257,ntmps257
 go_wp2_with (go_at_call 286;refine R.mono ?_;rintro bb ba ⟨rfl,Z⟩)
 exact bodyPost_ret (v:=.tuple #[.int .i64 2,.bool true]) (by simp[results,results257,go_sem]) rfl ⟨rfl,Jb (Jc (Oa5 _ _) _) Z⟩
attribute [local go_sem] Oc0
theorem Jpx (bc:Nat)(p:Pt)(w:World)(h1:1≤p.c)(h2:p.c≤3)(K:okV p.c p.v) :
  Calls prog 254 #[.pointer (some ⟨bc,0,none⟩),p.val] w (TyP w p.c):=by
 have O:∀ y,Calls prog 87 #[.agg #[.int .i64 p.v.k,.int .i64 p.v.n,.string p.v.s],.int .i64 p.c] y fun e w'=>e=.returned (.bool true)∧Below y.heap.size y w':=fun y=>by
  have:=Jmd p.v.k p.v.n p.v.s p.c y
  rwa [show okB p.c p.v.k p.v.n p.v.s=true from K]at this
 have hI:∀ y,Calls prog 86 #[.int .i64 p.c] y fun e w'=>e=.returned (.bool true)∧w'=y:=fun y=>by
  have:=Jlh p.c y
  rwa [show decide (1≤p.c∧p.c≤3)=true from decide_eq_true ⟨h1,h2⟩]at this
 clear h1 h2 K
 go_enter func254,ntmps254
 go_upto_region 1 with fail
 have D:(Zj w p).heap[w.heap.size]?=_:=heap_alloc_new w (.cells #[.int .i64 p.op,.int .i64 p.l,.int .i64 p.r,.int .i64 p.c,.int .i64 p.v.k,.int .i64 p.v.n,.string p.v.s] 65)
 have H:Below w.heap.size w (Zj w p):=Jc (Oa5 _ _) _
 show Code.wp _ _ _ _ (Zj w p)
 generalize Zj w p=A at D H ⊢
 have X:A.cell? ⟨w.heap.size,3,none⟩=some (.int .i64 p.c):=by simp[World.cell?,D]
 have Z:A.cell? ⟨w.heap.size,4,none⟩=some (.int .i64 p.v.k):=by simp[World.cell?,D]
 have ba:A.cell? ⟨w.heap.size,5,none⟩=some (.int .i64 p.v.n):=by simp[World.cell?,D]
 have bb:A.cell? ⟨w.heap.size,6,none⟩=some (.string p.v.s):=by simp[World.cell?,D]
 have U:w.heap.size<A.heap.size:=Jd D
 clear D
 go_region_held3 (fun y=>y.cell? ⟨w.heap.size,3,none⟩=some (.int .i64 p.c)∧y.cell? ⟨w.heap.size,4,none⟩=some (.int .i64 p.v.k)∧y.cell? ⟨w.heap.size,5,none⟩=some (.int .i64 p.v.n)∧y.cell? ⟨w.heap.size,6,none⟩=some (.string p.v.s))
  (first|go_keep|(go_split_ands;refine⟨?_,?_,?_,?_⟩<;>(rw[(Kx E).1 _ _ (by first|exact U|assumption)];assumption)))
  (first|(go_at_call 86;refine(hI _).mono ?_;rintro e M ⟨rfl,rfl⟩)|(go_at_call 87;refine(O _).mono ?_;rintro e M ⟨rfl,E⟩;have R:Below A.heap.size A M:=(by first|exact Jw E|exact E)))
 clear X Z ba bb
 go_wp2
 exact bodyPost_ret (v:=.tuple #[.int .i64 p.c,.bool true]) (by simp[results,results254,go_sem]) rfl ⟨rfl,Jb H R⟩
def tyF (op:Int):Nat:=if op=0 then 253 else if op=1 then 254 else if op≤5 then 255 else if op≤7 then 256 else if op≤9 then 257 else if op=10 then 258 else 259
abbrev tyC (y:Nat):Array Value:=#[.func (.func 253) #[.pointer (some ⟨y,0,none⟩)] #[],.func (.func 254) #[.pointer (some ⟨y,0,none⟩)] #[],.func (.func 255) #[.pointer (some ⟨y,0,none⟩)] #[],.func (.func 255) #[.pointer (some ⟨y,0,none⟩)] #[],.func (.func 255) #[.pointer (some ⟨y,0,none⟩)] #[],.func (.func 255) #[.pointer (some ⟨y,0,none⟩)] #[],.func (.func 256) #[.pointer (some ⟨y,0,none⟩)] #[],.func (.func 256) #[.pointer (some ⟨y,0,none⟩)] #[],.func (.func 257) #[.pointer (some ⟨y,0,none⟩)] #[],.func (.func 257) #[.pointer (some ⟨y,0,none⟩)] #[],.func (.func 258) #[.pointer (some ⟨y,0,none⟩)] #[],.func (.func 259) #[.pointer (some ⟨y,0,none⟩)] #[]]
theorem Jwc (b:Nat)(w:World):Calls prog 215 #[.pointer (some ⟨b,0,none⟩)] w fun e w'=>e=.returned (.agg (tyC b))∧Below w.heap.size w w':=by
 have y:∀ (f:Nat) (a:Addr) (W:World),(store a (.func (.func f) #[.pointer (some ⟨b,0,none⟩)] #[])).run prog W=stored prog W a (.func (.func f) #[.pointer (some ⟨b,0,none⟩)] #[]) .plain:=fun f a W=>run_store _ _ _ _ _ rfl
 go_enter func215,ntmps215
 go_wp2
 exact bodyPost_ret (v:=.agg (tyC b)) (by simp[results,results215,go_sem]) rfl ⟨rfl,(by repeat (first|exact Oa5 _ _|refine Jc ?_ _|refine Jj ?_))⟩
theorem Jy9 (op:Int)(args:Array Value)(W:World):(callFunc (tyF op) args).run prog W=.ok (.enter (tyF op) args) W:=by
 unfold tyF
 repeat' split
 all_goals kernel_rfl
theorem Jzr (D:Nat)(Z:Option Addr)(bf:Nat)(sch:List Int)(H:Option Addr)(M:Nat)(T F:List Int)(p:Pt)(w:World)(R:Jg6 w D (.slice Z sch.length bf) (.slice H T.length M))(bn:Kc w Z sch)(X:Kc w H T)(hF:∀ k,k<T.length→F.getD k 0=T.getD k 0)(y:Jeg sch F T.length p) :
  Calls prog (tyF p.op) #[.pointer (some ⟨D,0,none⟩),p.val] w (TyP w (tyP sch p)):=by
 have bx:=y.ok.lo
 have bu:=y.ok.hi
 by_cases h0:p.op=0
 ·obtain⟨A,K⟩:=y.ok.col h0
  have:=Jtu D (.slice Z sch.length bf) H M T p Z bf p.c.toNat sch rfl (by omega) (by omega) w R bn
  unfold tyF tyP
  rw[if_pos h0,if_pos h0]
  exact this
 by_cases h1:p.op=1
 ·obtain⟨⟨A,K⟩,br⟩:=y.con h1
  unfold tyF tyP
  rw[if_neg h0,if_neg h0,if_pos h1,if_pos h1]
  exact Jpx D p w A K br
 obtain⟨l1,l2⟩:=y.ok.left (by omega)
 obtain⟨bz,bA⟩:=y.r (by omega)
 obtain⟨L,hL⟩:∃ L:Nat,p.l=(L:Int):=⟨p.l.toNat,by omega⟩
 obtain⟨E,hR⟩:∃ E:Nat,p.r=(E:Int):=⟨p.r.toNat,by omega⟩
 have ba:p.l.toNat=L:=by omega
 have bh:p.r.toNat=E:=by omega
 have O:L<T.length:=by omega
 have bc:E<T.length:=by omega
 have bb:=hF L O
 have bi:=hF E bc
 unfold tyF tyP
 rw[if_neg h0,if_neg h0,if_neg h1,if_neg h1]
 by_cases U:p.op≤5
 ·rw[if_pos U,if_pos U]
  obtain⟨A,K⟩:=y.num (by omega) U
  rw[ba,bb]at A
  rw[bh,bi]at K
  exact Jtk D _ H M T p L hL O E hR bc (A.trans K.symm) A w R X
 rw[if_neg U,if_neg U]
 by_cases bk:p.op≤7
 ·rw[if_pos bk]
  have q:=y.same (by omega) bk
  rw[ba,bh,bb,bi]at q
  exact Jsl D _ H M T p L hL O E hR bc q w R X
 rw[if_neg bk]
 by_cases bl:p.op≤9
 ·rw[if_pos bl]
  obtain⟨A,K⟩:=y.tru (by omega) bl
  rw[ba,bb]at A
  rw[bh,bi]at K
  exact Juq D _ H M T p L hL O E hR bc (A.trans K.symm) A w R X
 rw[if_neg bl]
 by_cases bj:p.op=10
 ·rw[if_pos bj]
  have q:=y.nt bj
  rw[ba,bb]at q
  exact Kaj D _ H M T p L hL O q w R X
 rw[if_neg bj]
 exact Kfz D _ H M T p L hL O w R X
theorem Kg3 (y n:Nat)(h1:n<12):(tyC y)[n]?=some (.func (.func (tyF (n:Int))) #[.pointer (some ⟨y,0,none⟩)] #[]):=by
 have:n=0∨n=1∨n=2∨n=3∨n=4∨n=5∨n=6∨n=7∨n=8∨n=9∨n=10∨n=11:=by omega
 rcases this with rfl|rfl|rfl|rfl|rfl|rfl|rfl|rfl|rfl|rfl|rfl|rfl<;>rfl
theorem Ke5 (D:Nat)(ba:Option Addr)(bk:Nat)(sch:List Int)(bb:Option Addr)(bl:Nat)(T F:List Int)(p:Pt)(w:World)(bf:Jg6 w D (.slice ba sch.length bk) (.slice bb T.length bl))(bn:Kc w ba sch)(br:Kc w bb T)(hF:∀ k,k<T.length→F.getD k 0=T.getD k 0)(X:Jeg sch F T.length p) :
  Calls prog 172 #[.pointer (some ⟨D,0,none⟩),p.val] w (TyP w (tyP sch p)):=by
 have bH:=X.ok.lo
 have bG:=X.ok.hi
 have O:Hid (∀ y,Below w.heap.size w y→Calls prog (tyF p.op) #[.pointer (some ⟨D,0,none⟩),p.val] y (TyP y (tyP sch p))):=fun y bh=>Jzr D ba bk sch bb bl T F p y ((bh.block _ (Jd bf)).trans bf) (bn.below bh) (br.below bh) hF X
 clear bf bn br hF X
 generalize tyP sch p=bK at O ⊢
 obtain⟨n,hn⟩:∃ n:Nat,p.op=(n:Int):=⟨p.op.toNat,by omega⟩
 have bI:n<12:=by omega
 have bC:Hid (p.op=(n:Int)):=hn
 clear hn
 have bJ:∀ (f:Nat) (a:Addr) (y:World),(store a (.func (.func f) #[.pointer (some ⟨D,0,none⟩)] #[])).run prog y=stored prog y a (.func (.func f) #[.pointer (some ⟨D,0,none⟩)] #[]) .plain:=fun f a y=>run_store _ _ _ _ _ rfl
 have bx:Below w.heap.size w (Zj w p):=Jc (Oa5 _ _) _
 have Z:(Zj w p).heap[w.heap.size]?=_:=heap_alloc_new w (.cells #[.int .i64 p.op,.int .i64 p.l,.int .i64 p.r,.int .i64 p.c,.int .i64 p.v.k,.int .i64 p.v.n,.string p.v.s] 65)
 have bB:=Jwc D (Zj w p)
 go_enter func172,ntmps172
 go_upto_region 2 with(go_at_call 215;refine bB.mono ?_;rintro e M ⟨rfl,R⟩)
 have hn:=bC.out
 have bi:Below M.heap.size M (M.alloc (.cells (tyC D) 379)):=Jc (Oa5 _ _) _
 have U:=heap_alloc_new M (.cells (tyC D) 379)
 have H:=(bi.block _ (Oc2 (Jd Z) R.size)).trans ((R.block _ (Jd Z)).trans Z)
 have bj:Below w.heap.size w (M.alloc (.cells (tyC D) 379)):=Jb (Jb bx R) bi
 obtain⟨kb,bz⟩:∃ kb,kb=M.heap.size:=⟨_,rfl⟩
 rw[←bz]at U ⊢
 clear bz
 generalize M.alloc (.cells (tyC D) 379)=E at U H bj ⊢
 have bL:E.cell? ⟨w.heap.size,0,none⟩=some (.int .i64 (n:Int)):=by rw[←hn];simp[World.cell?,H]
 have bM:E.cell? ⟨w.heap.size,1,none⟩=some (.int .i64 p.l):=by simp[World.cell?,H]
 have bN:E.cell? ⟨w.heap.size,2,none⟩=some (.int .i64 p.r):=by simp[World.cell?,H]
 have bO:E.cell? ⟨w.heap.size,3,none⟩=some (.int .i64 p.c):=by simp[World.cell?,H]
 have bP:E.cell? ⟨w.heap.size,4,none⟩=some (.int .i64 p.v.k):=by simp[World.cell?,H]
 have bQ:E.cell? ⟨w.heap.size,5,none⟩=some (.int .i64 p.v.n):=by simp[World.cell?,H]
 have bR:E.cell? ⟨w.heap.size,6,none⟩=some (.string p.v.s):=by simp[World.cell?,H]
 have bA:E.cell? ⟨kb,n,none⟩=some (.func (.func (tyF p.op)) #[.pointer (some ⟨D,0,none⟩)] #[]):=by
  have:=Kg3 D n bI
  rw[←hn]at this
  rw[←this]
  simp only[World.cell?,U]
  rfl
 have bE:=Jy9 p.op
 obtain⟨f,hf⟩:∃ f,f=tyF p.op:=⟨_,rfl⟩
 rw[←hf]at bA bE O
 rw[Pt.val,hn]at O
 have bT:(0:Int)≤(n:Int):=by omega
 have bU:(n:Int)<12:=by omega
 clear hf hn bi R bB Z H U bx bJ M bH bG
 go_upto_region 4 with fail
 refine wp_region_held_drew (S:=fun y=>y.cell? ⟨w.heap.size,0,none⟩=some (.int .i64 (n:Int))∧y.cell? ⟨w.heap.size,1,none⟩=some (.int .i64 p.l)∧y.cell? ⟨w.heap.size,2,none⟩=some (.int .i64 p.r)∧y.cell? ⟨w.heap.size,3,none⟩=some (.int .i64 p.c)∧y.cell? ⟨w.heap.size,4,none⟩=some (.int .i64 p.v.k)∧y.cell? ⟨w.heap.size,5,none⟩=some (.int .i64 p.v.n)∧y.cell? ⟨w.heap.size,6,none⟩=some (.string p.v.s)∧y.cell? ⟨kb,n,none⟩=some (.func (.func f) #[.pointer (some ⟨D,0,none⟩)] #[])) (by kernel_rfl) ⟨Jh bL,Jh bM,Jh bN,Jh bO,Jh bP,Jh bQ,Jh bR,Jh bA⟩ (fun A=>?_)
 refine tk 0 ?_ rfl A ?_ (tk 1 ?_ rfl A ?_ (tk 2 ?_ rfl A ?_ (tk 3 ?_ rfl A ?_ (tk 4 ?_ rfl A ?_ ?_))))
 iterate 5
  rotate_left 1
  ·intro w bc;(try dsimp only at bc);go_simp;try rfl
 simp only[Act.put,List.getElem_toArray,List.getElem_cons_zero,List.getElem_cons_succ,Oa1,List.set_cons_zero,List.set_cons_succ]
 refine wpAnyH_ready (rs:=[5]) (by kernel_rfl) (by simp) (AllReadyH.cons rfl (fun bD bu=>?_) AllReadyH.nil)
 go_simp
 refine(O.out E.drew (Jj bj)).mono ?_
 rintro e bS ⟨rfl,K⟩
 go_simp
 refine bu.out _ _ ⟨Ja K A.1,Ja K A.2.1,Ja K A.2.2.1,Ja K A.2.2.2.1,Ja K A.2.2.2.2.1,Ja K A.2.2.2.2.2.1,Ja K A.2.2.2.2.2.2.1,Ja K A.2.2.2.2.2.2.2⟩ (fun A=>?_)
 clear bu bD
 refine tk 6 ?_ rfl A ?_ (tk 7 ?_ rfl A ?_ (tk 8 ?_ rfl A ?_ (tk 9 ?_ rfl A ?_ ?_)))
 iterate 4
  rotate_left 1
  ·intro w bc;(try dsimp only at bc);go_simp;try rfl
 simp only[Act.put,List.getElem_toArray,List.getElem_cons_zero,List.getElem_cons_succ,Oa1,List.set_cons_zero,List.set_cons_succ]
 refine wpAnyH_done (by kernel_rfl) ?_ _
 go_wp2
 exact bodyPost_ret (v:=.tuple #[.int .i64 bK,.bool true]) (by simp[results,results172,go_sem]) rfl ⟨rfl,Jb (Jj bj) K⟩
end Go.Proofs.YtdlgbphkaicfaaaGreatDoor
