/- The law's own words for values: truth, order; typed parts. -/
import Derived.Test.YtkdojacdolidfaaGreatDoorXj
set_option maxHeartbeats 1000000
set_option maxRecDepth 100000
namespace Go.Proofs.YtkdojacdolidfaaGreatDoor
open Go.RowKit Go.Shelf Tryz
attribute [local go_sem] Oc0
abbrev okV (t:Int)(v:V):Prop:=okB t v.k v.n v.s=true
theorem Ja6 {s:ByteArray}(h:s.toList.isEmpty=true):s=⟨#[]⟩:=by
 rw[Og4]at h;cases s with
 |mk d=>
  congr 1
  have:d.toList=[]:=by simpa using h
  exact Array.toList_eq_nil_iff.1 this
theorem Jgh {t v}(h:okV t v):v=Jf\/(v.k=t/\t≠0/\((t=1/\v.s=⟨#[]⟩)\/(t=2/\(v.n=0\/v.n=1)/\v.s=⟨#[]⟩)\/(t=3/\v.n=0))):=by
 unfold okV okB okK at h;simp only[decide_eq_true_eq]at h;rcases h with⟨I,H,y⟩|⟨I,H⟩
 ·exact .inl (V.ext' I H (Ja6 y))
 refine .inr ⟨I,?_⟩;rcases H with⟨H,y⟩|⟨H,K,y⟩|⟨H,y,_⟩
 ·exact⟨zo,.inl ⟨zo,Ja6 y⟩⟩
 ·exact⟨zo,.inr (.inl ⟨zo,K,Ja6 y⟩)⟩
 exact⟨zo,.inr (.inr ⟨zo,y⟩)⟩
theorem Jet t:okV t Jf:=by unfold okV;simp[okB,Jf]
theorem Kfp n:okV 1 (Jbg n):=by unfold okV;simp[okB,okK]
theorem Jdv b:okV 2 (Yi b):=by unfold okV;cases b<;>simp[okB,okK,Kae]
def isT (v:V):Bool:=v.k==2&&v.n==1
def isF (v:V):Bool:=v.k==2&&v.n==0
def Job (a b:V):Bool:=if a.k=3 then Op.bytesLess a.s.toList b.s.toList else decide (a.n<b.n)
theorem Jvi a b w:Calls prog 27 #[a.val,b.val] w fun e w'=>e=.returned (.bool (Job a b))/\Below w.heap.size w w':=by
 unfold Job;go_enter func27,ntmps27
 by_cases y:a.k=3
 ·rw[if_pos y];go_wp2;exact bodyPost_ret (v:=.bool (Op.bytesLess a.s.toList b.s.toList)) (by simp[results,results27,go_sem]) rfl ⟨rfl,Jc (Jc (Oa5 _ _) _) _⟩
 rw[if_neg y];have H:(a.k==3)=false:=by simp[y]
 clear y;go_wp2;exact bodyPost_ret (v:=.bool (decide (a.n<b.n))) (by simp[results,results27,go_sem]) rfl ⟨rfl,Jc (Jc (Oa5 _ _) _) _⟩
theorem Jhf:∀ x y:List UInt8,Op.bytesLess x y=decide (Lib.compareBytes x y<0)
 |[],[]=>rfl
 |_::_,[]=>rfl
 |[],_::_=>rfl
 |a::x,b::y=>by
  simp only[Op.bytesLess,Lib.compareBytes];rw[Jhf x y];by_cases h:a<b
  ·simp[h]
  by_cases H:b<a
  ·have:a≠b:=fun e=>by subst e;exact UInt8.lt_irrefl _ H
   simp[h,H,this]
  have:a=b:=UInt8.le_antisymm (UInt8.not_lt.1 H) (UInt8.not_lt.1 h);simp[this]
theorem Kdy {t a b}(U:okV t a)(hb:okV t b)(Y:a.k≠0)(kb:b.k≠0):Jkc a b=(Yi (Job a b),0):=by
 rcases Jgh U with rfl|⟨K,_,M⟩
 ·exact absurd rfl Y
 rcases Jgh hb with rfl|⟨Z,_,O⟩
 ·exact absurd rfl kb
 unfold Jkc Job Jxt;rw[K];by_cases h:t=3
 ·have H:a.n=0:=zo;have I:b.n=0:=zo;rw[if_pos h,H,I,Jhf];simp[ByteArray.toList_eq]
 have H:a.s=⟨#[]⟩:=by rcases M with⟨_,y⟩|⟨_,_,y⟩|⟨y,_⟩;exact y;exact y;exact absurd y h
 have I:b.s=⟨#[]⟩:=by rcases O with⟨_,y⟩|⟨_,_,y⟩|⟨y,_⟩;exact y;exact y;exact absurd y h
 rw[if_neg h,H,I];have:Lib.compareBytes (ByteArray.mk #[]).data.toList (ByteArray.mk #[]).data.toList=0:=rfl;rw[this];congr 2
 by_cases y:a.n<b.n
 ·simp[y]
 rw[if_neg y];split<;>simp[y]
theorem Jgb {a}(h:okV 2 a):a=Jf\/a=Yi true\/a=Yi false:=by
 rcases Jgh h with h|⟨H,_,⟨y,_⟩|⟨_,y|y,I⟩|⟨y,_⟩⟩
 ·exact .inl h
 ·omega
 ·exact .inr (.inr (V.ext' H y I))
 ·exact .inr (.inl (V.ext' H y I))
 omega
theorem Jih n:(Jd0 n=true/\Zp n=n/\Yn n=0)\/(Jd0 n=false/\Zp n=0/\Yn n=10):=by
 unfold Jd0 Zp Yn;by_cases h:-9223372036854775808<=n/\n<=9223372036854775807
 ·left;simp[h]
 right;rw[if_neg h,if_neg h];refine⟨?_,rfl,rfl⟩;simp only[Bool.and_eq_false_iff,decide_eq_false_iff_not];omega
def Khk (op a b:Int):Int:=if op=2 then Zp (a+b)else if op=3 then Zp (a-b)else if op=4 then Zp (a*b)else Kbr a b
def Kdw (op a b:Int):Int:=if op=2 then Yn (a+b)else if op=3 then Yn (a-b)else if op=4 then Yn (a*b)else Jq4 a b
theorem Jx6 {op a b}(H:2<=op)(I:op<=5)(K:a.k≠0)(kb:b.k≠0):(Kdw op a.n b.n=0/\opR op a b=(Jbg (Khk op a.n b.n),0))\/(Kdw op a.n b.n≠0/\∃ c:Nat,c≠0/\Kdw op a.n b.n=(c:Int)/\opR op a b=(Jf,c)):=by
 have y:¬ (a.k=0\/b.k=0):=zo;have:op=2\/op=3\/op=4\/op=5:=zo;rcases this with rfl|rfl|rfl|rfl
 ·show (Yn (a.n+b.n)=0/\Kd Jik a b=(Jbg (Zp (a.n+b.n)),0))\/(Yn (a.n+b.n)≠0/\∃ c:Nat,c≠0/\Yn (a.n+b.n)=(c:Int)/\Kd Jik a b=(Jf,c));unfold Kd Jik;rw[if_neg y];rcases Jih (a.n+b.n)with⟨e1,e2,e3⟩|⟨e1,e2,e3⟩
  ·left;rw[e1,e2,e3];exact⟨rfl,rfl⟩
  right;rw[e1,e3];exact⟨zd,10,zd,rfl,rfl⟩
 ·show (Yn (a.n-b.n)=0/\Kd Jiw a b=(Jbg (Zp (a.n-b.n)),0))\/(Yn (a.n-b.n)≠0/\∃ c:Nat,c≠0/\Yn (a.n-b.n)=(c:Int)/\Kd Jiw a b=(Jf,c));unfold Kd Jiw;rw[if_neg y];rcases Jih (a.n-b.n)with⟨e1,e2,e3⟩|⟨e1,e2,e3⟩
  ·left;rw[e1,e2,e3];exact⟨rfl,rfl⟩
  right;rw[e1,e3];exact⟨zd,10,zd,rfl,rfl⟩
 ·show (Yn (a.n*b.n)=0/\Kd Jkj a b=(Jbg (Zp (a.n*b.n)),0))\/(Yn (a.n*b.n)≠0/\∃ c:Nat,c≠0/\Yn (a.n*b.n)=(c:Int)/\Kd Jkj a b=(Jf,c));unfold Kd Jkj;rw[if_neg y];rcases Jih (a.n*b.n)with⟨e1,e2,e3⟩|⟨e1,e2,e3⟩
  ·left;rw[e1,e2,e3];exact⟨rfl,rfl⟩
  right;rw[e1,e3];exact⟨zd,10,zd,rfl,rfl⟩
 show (Jq4 a.n b.n=0/\Kd Jg4 a b=(Jbg (Kbr a.n b.n),0))\/(Jq4 a.n b.n≠0/\∃ c:Nat,c≠0/\Jq4 a.n b.n=(c:Int)/\Kd Jg4 a b=(Jf,c));unfold Kd Jg4 Jq4 Kbr;rw[if_neg y];by_cases h0:b.n=0
 ·right;rw[if_pos h0,if_pos h0];exact⟨zd,9,zd,rfl,rfl⟩
 rw[if_neg h0,if_neg h0,if_neg h0];rcases Jih (a.n.tdiv b.n)with⟨e1,e2,e3⟩|⟨e1,e2,e3⟩
 ·left;rw[e1,e2,e3];exact⟨rfl,rfl⟩
 right;rw[e1,e3];exact⟨zd,10,zd,rfl,rfl⟩
def tyP (sch:List Int)(p:Pt):Int:=if p.op=0 then sch.getD p.c.toNat 0 else if p.op=1 then p.c else if p.op<=5 then 1 else 2
structure Jeg (sch T:List Int) (j:Nat) (p:Pt):Prop where
 ok:Qcv sch.length j p
 r:2<=p.op->0<=p.r/\p.r<j
 con:p.op=1->(1<=p.c/\p.c<=3)/\okV p.c p.v
 num:2<=p.op->p.op<=5->T.getD p.l.toNat 0=1/\T.getD p.r.toNat 0=1
 same:6<=p.op->p.op<=7->T.getD p.l.toNat 0=T.getD p.r.toNat 0
 tru:8<=p.op->p.op<=9->T.getD p.l.toNat 0=2/\T.getD p.r.toNat 0=2
 nt:p.op=10->T.getD p.l.toNat 0=2
def Uj (sch:List Int)(es:List Pt):Prop:=∀ j p,es[j]?=some p->Jeg sch (es.map (tyP sch)) j p
def Jee (sch:List Int)(x:List V):Prop:=x.length=sch.length/\(∀ i,i<x.length->okV (sch.getD i 0) (x.getD i Jf))/\∀ v∈x,Jg v.n
def Jho (T:List Int)(d:List V):Prop:=(∀ k,k<d.length->okV (T.getD k 0) (d.getD k Jf))/\∀ v∈d,Jg v.n
theorem zbc {p:Prop}(h:p:=by rcases Jgb y with rfl|rfl|rfl<;>rcases Jgb hb with rfl|rfl|rfl<;>rfl):p:=h
theorem Jpt {a b}(y:okV 2 a)(hb:okV 2 b):Jse a b=(if isF a||isF b||(a.k != 0&&b.k != 0)then Yi (isT a&&isT b)else Jf,0):=by
 exact zbc
theorem Jvb {a b}(y:okV 2 a)(hb:okV 2 b):orR a b=(if isT a||isT b||(a.k != 0&&b.k != 0)then Yi (isT a||isT b)else Jf,0):=by
 exact zbc
theorem zaQ {p:Prop}(h:p:=by
 rw[h,show opR 8 a b=Jse a b from rfl,Jpt y tb];split
 ·exact Jdv _
 exact Jet _):p:=h
theorem zaR {p:Prop}(h:p:=by
 rw[h,show opR 9 a b=orR a b from rfl,Jvb y tb];split
 ·exact Jdv _
 exact Jet _):p:=h
theorem Kfb {sch T x d p}(hp:Jeg sch T d.length p)(Y:Jee sch x)(U:Jho T d)(h0:(Qp p x d).2=0):okV (tyP sch p) (Qp p x d).1:=by
 have bi:=hp.ok.lo;have bh:=hp.ok.hi;unfold Qp at h0 |-;unfold tyP;by_cases H:p.op=0
 ·rw[if_pos H,if_pos H];obtain⟨c1,c2⟩:=hp.ok.col H;exact Y.2.1 _ (by rw[Y.1];omega)
 rw[if_neg H]at h0 |-;rw[if_neg H];by_cases I:p.op=1
 ·rw[if_pos I,if_pos I];exact(hp.con I).2
 rw[if_neg I]at h0 |-;rw[if_neg I];obtain⟨bj,bk⟩:=hp.ok.left zo;obtain⟨br,r2⟩:=hp.r zo;have y:=U.1 p.l.toNat zo;have tb:=U.1 p.r.toNat zo;generalize d.getD p.l.toNat Jf=a at *;by_cases K:p.op<=9
 ·rw[if_pos K]at h0 |-;generalize d.getD p.r.toNat Jf=b at *;by_cases O:a.k=0\/b.k=0
  ·by_cases bf:p.op<=7
   ·have:opR p.op a b=(Jf,0):=by
     have:p.op=2\/p.op=3\/p.op=4\/p.op=5\/p.op=6\/p.op=7:=zo;rcases this with h|h|h|h|h|h<;>rw[h]<;>exact if_pos O
    rw[this];exact Jet _
   obtain⟨q1,q2⟩:=hp.tru zo K;rw[q1]at y;rw[q2]at tb;rw[if_neg zo];have:p.op=8\/p.op=9:=zo;rcases this with h|h
   ·exact zaQ
   exact zaR
  by_cases M:p.op<=5
  ·rw[if_pos M];rcases Jx6 (a:=a) (b:=b) (by omega:2<=p.op) M zo zo with⟨_,h⟩|⟨_,c,Z,_,h⟩
   ·rw[h];exact Kfp _
   rw[h]at h0;exact absurd h0 Z
  rw[if_neg M];have:p.op=6\/p.op=7\/p.op=8\/p.op=9:=zo;rcases this with h|h|h|h
  ·rw[h,show opR 6 a b=Kd Jsg a b from rfl];unfold Kd;rw[if_neg O];exact Jdv _
  ·rw[h,show opR 7 a b=Kd Jkc a b from rfl];unfold Kd;rw[if_neg O];exact Jdv _
  ·obtain⟨q1,q2⟩:=hp.tru zo K;rw[q1]at y;rw[q2]at tb;exact zaQ
  obtain⟨q1,q2⟩:=hp.tru zo K;rw[q1]at y;rw[q2]at tb;exact zaR
 rw[if_neg K]at h0 |-;rw[if_neg zo];have:p.op=10\/p.op=11:=zo;rcases this with h|h
 ·rw[h,show opR 10=Kd Ju0 from rfl];unfold Kd;split
  ·exact Jet _
  exact Jdv _
 rw[h,show opR 11=Jle from rfl];exact Jdv _
attribute [local go_sem] Oc0
theorem Jef a(cap:Nat)ts(i:Nat)w(hi:i<ts.length)(h:Kc w a ts):
  Calls prog 138 #[.slice a ts.length cap,.int .i64 (i:Int)] w fun e w'=>e=.returned (.tuple #[.int .i64 (ts.getD i 0),.bool true])/\w'=w:=by
 obtain⟨b,o,rfl,hb,y⟩:=h.at hi;have ht:ts.getD i 0=ts[i]:=by rw[Oa0,Oa3 hi];rfl
 rw[ht];generalize ts[i]=t at y |-;clear ht h;have H:(0:Int)<=(i:Int):=zo;have I:(i:Int)<(ts.length:Int):=zo;go_enter func138,ntmps138
 go_wp2;exact bodyPost_ret (v:=.tuple #[.int .i64 t,.bool true]) (by simp[results,results138,go_sem]) rfl ⟨rfl,rfl⟩
def Jg6 (w:World)(tb:Nat)(y ev:Value):Prop:=w.heap[tb]?=some (.cells #[y,ev] 331 (0,0))
theorem Jg6.cells {w tb y ev}(h:Jg6 w tb y ev):w.cell? ⟨tb,0,none⟩=some y/\w.cell? ⟨tb,1,none⟩=some ev:=by
 constructor<;>simp[World.cell?,show w.heap[tb]?=_ from h]
abbrev Zj (w:World)(p:Pt):World:=w.alloc (.cells #[.int .i64 p.op,.int .i64 p.l,.int .i64 p.r,.int .i64 p.c,.int .i64 p.v.k,.int .i64 p.v.n,.string p.v.s] 65)
abbrev TyP (w:World)(t:Int):Ending->World->Prop:=fun e w'=>e=.returned (.tuple #[.int .i64 t,.bool true])/\Below w.heap.size w w'
theorem Jgj w p:(Zj w p).cell? ⟨w.heap.size,1,none⟩=some (.int .i64 p.l)/\(Zj w p).cell? ⟨w.heap.size,2,none⟩=some (.int .i64 p.r)/\(Zj w p).cell? ⟨w.heap.size,3,none⟩=some (.int .i64 p.c):=by
 have:=heap_alloc_new w (.cells #[.int .i64 p.op,.int .i64 p.l,.int .i64 p.r,.int .i64 p.c,.int .i64 p.v.k,.int .i64 p.v.n,.string p.v.s] 65);refine⟨?_,?_,?_⟩<;>(unfold World.cell?;rw[this];rfl)
theorem Jbr {w tb y ev}(h:Jg6 w tb y ev)o:Jg6 (w.alloc o) tb y ev:=(Oa9 _ _ _ (Jd h)).trans h
theorem Jtu (tb:Nat)K bf(bh:Nat)(T:List Int)(p:Pt)H(I C:Nat)(sch:List Int)(bk:K=.slice H sch.length I)(hC:p.c=(C:Int))(M:C<sch.length)w(bi:Jg6 w tb K (.slice bf T.length bh))(O:Kc w H sch):
  Calls prog 255 #[.pointer (some ⟨tb,0,none⟩),p.val] w (TyP w (sch.getD C 0)):=by
 subst bk;obtain⟨c0,_⟩:=bi.cells;obtain⟨_,_,b3⟩:=Jgj w p;have U:Below w.heap.size w (Zj w p):=Jc (Oa5 _ _) _;have Y:Hid (∀ X,Below w.heap.size w X->Calls prog 138 #[.slice H sch.length I,.int .i64 (C:Int)] X fun e w'=>e=.returned (.tuple #[.int .i64 (sch.getD C 0),.bool true])/\w'=X):=fun X bj=>Jef H I sch C X M (O.below bj);rw[hC]at b3;clear hC M O;go_enter func255,ntmps255
 go_upto_region 1 with fail
 refine wp_region_held_drew (S:=fun X=>X.cell? ⟨tb,0,none⟩=some (.slice H sch.length I)/\X.cell? ⟨w.heap.size,3,none⟩=some (.int .i64 (C:Int))) zK ⟨Jh (Kf c0),Jh b3⟩ (fun y=>?_);refine tkj 0 rfl y ?_;refine tkj 1 rfl y ?_;refine tkj 2 rfl y ?_;refine tkj 3 rfl y ?_;refine tkj 4 rfl y ?_;refine tkj 5 rfl y ?_;refine tkn ?_;refine tkr 6 rfl fun Z hK=>?_;go_simp;refine(Y.out (Zj w p).drew (Jj U)).mono ?_;rintro e br ⟨rfl,rfl⟩;go_simp;refine hK.out _ _ ⟨y.1,y.2⟩ (fun y=>?_);clear hK Z;refine tkj 7 rfl y ?_;refine tkj 8 rfl y ?_;refine tkj 9 rfl y ?_;refine tkj 10 rfl y ?_;refine tkn ?_;refine wpAnyH_done zK ?_ _;go_wp2;exact bodyPost_ret (v:=.tuple #[.int .i64 (sch.getD C 0),.bool true]) (by simp[results,results255,go_sem]) rfl ⟨rfl,Jj U⟩
theorem Jhp (tb:Nat)br H(I:Nat)(T:List Int)(p:Pt)(L:Nat)(bf:p.l=(L:Int))(bh:L<T.length)(R:Nat)(hR:p.r=(R:Int))(bi:R<T.length)(bj:T.getD L 0=T.getD R 0)w(bx:Jg6 w tb br (.slice H T.length I))(O:Kc w H T):
  Calls prog 288 #[.pointer (some ⟨tb,0,none⟩),p.val] w (TyP w (T.getD L 0)):=by
 obtain⟨_,c1⟩:=bx.cells;obtain⟨b1,b2,_⟩:=Jgj w p;have Y:Below w.heap.size w (Zj w p):=Jc (Oa5 _ _) _;have Z:Hid (∀ X,Below w.heap.size w X->Calls prog 138 #[.slice H T.length I,.int .i64 (L:Int)] X fun e w'=>e=.returned (.tuple #[.int .i64 (T.getD L 0),.bool true])/\w'=X):=fun X U=>Jef H I T L X bh (O.below U);have K:Hid (∀ X,Below w.heap.size w X->Calls prog 138 #[.slice H T.length I,.int .i64 (R:Int)] X fun e w'=>e=.returned (.tuple #[.int .i64 (T.getD R 0),.bool true])/\w'=X):=fun X U=>Jef H I T R X bi (O.below U);rw[bf]at b1;rw[hR]at b2;rw[<-bj]at K;generalize T.getD L 0=t at Z K |-;clear bf bh O hR bi bj;go_enter func288,ntmps288
 go_upto_region 1 with fail
 refine wp_region_held_drew (S:=fun X=>X.cell? ⟨tb,1,none⟩=some (.slice H T.length I)/\X.cell? ⟨w.heap.size,1,none⟩=some (.int .i64 (L:Int))) zK ⟨Jh (Kf c1),Jh b1⟩ (fun y=>?_);refine tkj 0 rfl y ?_;refine tkj 1 rfl y ?_;refine tkj 2 rfl y ?_;refine tkj 3 rfl y ?_;refine tkj 4 rfl y ?_;refine tkj 5 rfl y ?_;refine tkn ?_;refine tkr 6 rfl fun M hK=>?_;go_simp;refine(Z.out (Zj w p).drew (Jj Y)).mono ?_;rintro e bk ⟨rfl,rfl⟩;go_simp;refine hK.out _ _ ⟨y.1,y.2⟩ (fun y=>?_);clear hK M;refine tkj 7 rfl y ?_;refine tkj 8 rfl y ?_;refine tkj 9 rfl y ?_;refine tkj 10 rfl y ?_;refine tkj 11 rfl y ?_;refine tkn ?_;refine wpAnyH_done zK ?_ _;go_upto_region 2 with fail
 refine wp_region_held_drew (S:=fun X=>X.cell? ⟨tb,1,none⟩=some (.slice H T.length I)/\X.cell? ⟨w.heap.size,2,none⟩=some (.int .i64 (R:Int))) zK ⟨Jh (Jh (Kf c1)),Jh (Jh b2)⟩ (fun y=>?_);refine tkj 0 rfl y ?_;refine tkj 1 rfl y ?_;refine tkj 2 rfl y ?_;refine tkj 3 rfl y ?_;refine tkj 4 rfl y ?_;refine tkj 5 rfl y ?_;refine tkn ?_;refine tkr 6 rfl fun M hK=>?_;go_simp;refine(K.out (Zj w p).drew.drew (Jj (Jj Y))).mono ?_;rintro e bk ⟨rfl,rfl⟩;go_simp;refine hK.out _ _ ⟨y.1,y.2⟩ (fun y=>?_);clear hK M;refine tkj 7 rfl y ?_;refine tkj 8 rfl y ?_;refine tkj 9 rfl y ?_;refine tkj 10 rfl y ?_;refine tkj 11 rfl y ?_;refine tkn ?_;refine wpAnyH_done zK ?_ _;go_wp2;exact bodyPost_ret (v:=.tuple #[.int .i64 t,.bool true]) (by simp[results,results288,go_sem]) rfl ⟨rfl,Jj (Jj Y)⟩
theorem Jtk (tb:Nat)H y(I:Nat)(T:List Int)(p:Pt)(L:Nat)(O:p.l=(L:Int))(U:L<T.length)(R:Nat)(hR:p.r=(R:Int))(Y:R<T.length)(bf:T.getD L 0=T.getD R 0)(K:T.getD L 0=1)w(bh:Jg6 w tb H (.slice y T.length I))(M:Kc w y T):
  Calls prog 257 #[.pointer (some ⟨tb,0,none⟩),p.val] w (TyP w 1):=by
 have Z:=Jhp tb H y I T p L O U R hR Y bf (Zj w p) (Jbr bh _) (M.below (Jc (Oa5 _ _) _));rw[K]at Z;clear O U M hR Y bf K;go_enter func257,ntmps257
 go_wp2_with (go_at_call 288;refine Z.mono ?_;rintro bk bj ⟨rfl,bi⟩)
 exact bodyPost_ret (v:=.tuple #[.int .i64 1,.bool true]) (by simp[results,results257,go_sem]) rfl ⟨rfl,Jb (Jc (Oa5 _ _) _) bi⟩
attribute [local go_sem] Oc0
theorem Jpx (tb:Nat)(p:Pt)w(I:1<=p.c)(K:p.c<=3)(hv:okV p.c p.v):
  Calls prog 256 #[.pointer (some ⟨tb,0,none⟩),p.val] w (TyP w p.c):=by
 have U:∀ X,Calls prog 89 #[.agg #[.int .i64 p.v.k,.int .i64 p.v.n,.string p.v.s],.int .i64 p.c] X fun e w'=>e=.returned (.bool true)/\Below X.heap.size X w':=fun X=>by
  have:=Jmd p.v.k p.v.n p.v.s p.c X;rwa [show okB p.c p.v.k p.v.n p.v.s=true from hv]at this
 have hI:∀ X,Calls prog 88 #[.int .i64 p.c] X fun e w'=>e=.returned (.bool true)/\w'=X:=fun X=>by
  have:=Jlh p.c X;rwa [show decide (1<=p.c/\p.c<=3)=true from decide_eq_true ⟨I,K⟩]at this
 clear I K hv;go_enter func256,ntmps256
 go_upto_region 1 with fail
 have hq:(Zj w p).heap[w.heap.size]?=_:=heap_alloc_new w (.cells #[.int .i64 p.op,.int .i64 p.l,.int .i64 p.r,.int .i64 p.c,.int .i64 p.v.k,.int .i64 p.v.n,.string p.v.s] 65);have M:Below w.heap.size w (Zj w p):=Jc (Oa5 _ _) _;show Code.wp _ _ _ _ (Zj w p);generalize Zj w p=y at hq M |-;have bf:=zc 3 hq;have bh:=zc 4 hq;have bi:=zc 5 hq;have bj:=zc 6 hq;have Z:w.heap.size<y.heap.size:=Jd hq;clear hq;go_region_held3 (fun X=>X.cell? ⟨w.heap.size,3,none⟩=some (.int .i64 p.c)/\X.cell? ⟨w.heap.size,4,none⟩=some (.int .i64 p.v.k)/\X.cell? ⟨w.heap.size,5,none⟩=some (.int .i64 p.v.n)/\X.cell? ⟨w.heap.size,6,none⟩=some (.string p.v.s))
  (first|go_keep|(go_split_ands;refine⟨?_,?_,?_,?_⟩<;>(rw[(Kx H).1 _ _ (by first|exact Z|assumption)];assumption)))
  (first|(go_at_call 88;refine(hI _).mono ?_;rintro e O ⟨rfl,rfl⟩)|(go_at_call 89;refine(U _).mono ?_;rintro e O ⟨rfl,H⟩;have Y:Below y.heap.size y O:=(by first|exact Jw H|exact H)))
 clear bf bh bi bj;go_wp2;exact bodyPost_ret (v:=.tuple #[.int .i64 p.c,.bool true]) (by simp[results,results256,go_sem]) rfl ⟨rfl,Jb M Y⟩
