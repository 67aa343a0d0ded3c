/- The law's own words for values: truth, order; typed parts. -/
import Derived.Test.YtpchafocmlhmbaaGreatDoorXl
set_option maxHeartbeats 4000000
set_option maxRecDepth 100000
namespace Go.Proofs.YtpchafocmlhmbaaGreatDoor
section
open Go.RowKit Go.Shelf
attribute [local go_sem] Oc0
abbrev okV (t:Int)(v:V):Prop:=okB t v.k v.n v.s=true
theorem Ja6 {s:ByteArray}(h:s.toList.isEmpty=true):s=⟨#[]⟩:=by
 rw[Og4]at h;cases s with
 |mk d=>
  congr 1
  have:d.toList=[]:=by simpa using h
  exact Array.toList_eq_nil_iff.1 this
theorem Jgh {t:Int}{v:V}(h:okV t v):v=Jf∨(v.k=t∧t≠0∧((t=1∧v.s=⟨#[]⟩)∨(t=2∧(v.n=0∨v.n=1)∧v.s=⟨#[]⟩)∨(t=3∧v.n=0))):=by
 unfold okV okB okK at h;simp only[decide_eq_true_eq]at h;rcases h with⟨E,D,y⟩|⟨E,D⟩
 ·exact .inl (V.ext' E D (Ja6 y))
 refine .inr ⟨E,?_⟩;rcases D with⟨D,y⟩|⟨D,H,y⟩|⟨D,y,_⟩
 ·exact⟨by omega,.inl ⟨by omega,Ja6 y⟩⟩
 ·exact⟨by omega,.inr (.inl ⟨by omega,H,Ja6 y⟩)⟩
 exact⟨by omega,.inr (.inr ⟨by omega,y⟩)⟩
theorem Jet (t:Int):okV t Jf:=by unfold okV;simp[okB,Jf]
theorem Kfp (n:Int):okV 1 (Jbg n):=by unfold okV;simp[okB,okK]
theorem Jdv (b:Bool):okV 2 (Yi b):=by unfold okV;cases b<;>simp[okB,okK,Kae]
def isT (v:V):Bool:=v.k==2&&v.n==1
def isF (v:V):Bool:=v.k==2&&v.n==0
theorem Jgb {a:V}(h:okV 2 a):a=Jf∨a=Yi true∨a=Yi false:=by
 rcases Jgh h with h|⟨D,_,⟨y,_⟩|⟨_,y|y,E⟩|⟨y,_⟩⟩
 ·exact .inl h
 ·omega
 ·exact .inr (.inr (V.ext' D y E))
 ·exact .inr (.inl (V.ext' D y E))
 omega
theorem Jih (n:Int):(Jd0 n=true∧Zp n=n∧Yn n=0)∨(Jd0 n=false∧Zp n=0∧Yn n=10):=by
 unfold Jd0 Zp Yn;by_cases h:-9223372036854775808≤n∧n≤9223372036854775807
 ·left;simp[h]
 right;rw[if_neg h,if_neg h];refine⟨?_,rfl,rfl⟩;simp only[Bool.and_eq_false_iff,decide_eq_false_iff_not];omega
def Khk (op a b:Int):Int:=if op=2 then Zp (a+b)else if op=3 then Zp (a-b)else if op=4 then Zp (a*b)else Kbr a b
def Kdw (op a b:Int):Int:=if op=2 then Yn (a+b)else if op=3 then Yn (a-b)else if op=4 then Yn (a*b)else Jq4 a b
theorem Jx6 {op:Int}{a b:V}(D:2≤op)(E:op≤5)(H:a.k≠0)(kb:b.k≠0):(Kdw op a.n b.n=0∧opR op a b=(Jbg (Khk op a.n b.n),0))∨(Kdw op a.n b.n≠0∧∃ c:Nat,c≠0∧Kdw op a.n b.n=(c:Int)∧opR op a b=(Jf,c)):=by
 have y:¬ (a.k=0∨b.k=0):=by omega
 have:op=2∨op=3∨op=4∨op=5:=by omega
 rcases this with rfl|rfl|rfl|rfl
 ·show (Yn (a.n+b.n)=0∧Kd Jik a b=(Jbg (Zp (a.n+b.n)),0))∨(Yn (a.n+b.n)≠0∧∃ c:Nat,c≠0∧Yn (a.n+b.n)=(c:Int)∧Kd Jik a b=(Jf,c));unfold Kd Jik;rw[if_neg y];rcases Jih (a.n+b.n)with⟨e1,e2,e3⟩|⟨e1,e2,e3⟩
  ·left;rw[e1,e2,e3];exact⟨rfl,rfl⟩
  right;rw[e1,e3];exact⟨by decide,10,by decide,rfl,rfl⟩
 ·show (Yn (a.n-b.n)=0∧Kd Jiw a b=(Jbg (Zp (a.n-b.n)),0))∨(Yn (a.n-b.n)≠0∧∃ c:Nat,c≠0∧Yn (a.n-b.n)=(c:Int)∧Kd Jiw a b=(Jf,c));unfold Kd Jiw;rw[if_neg y];rcases Jih (a.n-b.n)with⟨e1,e2,e3⟩|⟨e1,e2,e3⟩
  ·left;rw[e1,e2,e3];exact⟨rfl,rfl⟩
  right;rw[e1,e3];exact⟨by decide,10,by decide,rfl,rfl⟩
 ·show (Yn (a.n*b.n)=0∧Kd Jkj a b=(Jbg (Zp (a.n*b.n)),0))∨(Yn (a.n*b.n)≠0∧∃ c:Nat,c≠0∧Yn (a.n*b.n)=(c:Int)∧Kd Jkj a b=(Jf,c));unfold Kd Jkj;rw[if_neg y];rcases Jih (a.n*b.n)with⟨e1,e2,e3⟩|⟨e1,e2,e3⟩
  ·left;rw[e1,e2,e3];exact⟨rfl,rfl⟩
  right;rw[e1,e3];exact⟨by decide,10,by decide,rfl,rfl⟩
 show (Jq4 a.n b.n=0∧Kd Jg4 a b=(Jbg (Kbr a.n b.n),0))∨(Jq4 a.n b.n≠0∧∃ c:Nat,c≠0∧Jq4 a.n b.n=(c:Int)∧Kd Jg4 a b=(Jf,c));unfold Kd Jg4 Jq4 Kbr;rw[if_neg y];by_cases h0:b.n=0
 ·right;rw[if_pos h0,if_pos h0];exact⟨by decide,9,by decide,rfl,rfl⟩
 rw[if_neg h0,if_neg h0,if_neg h0];rcases Jih (a.n.tdiv b.n)with⟨e1,e2,e3⟩|⟨e1,e2,e3⟩
 ·left;rw[e1,e2,e3];exact⟨rfl,rfl⟩
 right;rw[e1,e3];exact⟨by decide,10,by decide,rfl,rfl⟩
def tyP (sch:List Int)(p:Pt):Int:=if p.op=0 then sch.getD p.c.toNat 0 else if p.op=1 then p.c else if p.op≤5 then 1 else 2
structure Jeg (sch T:List Int) (j:Nat) (p:Pt):Prop where
 ok:Jr0 sch.length j p
 r:2≤p.op→0≤p.r∧p.r<j
 con:p.op=1→(1≤p.c∧p.c≤3)∧okV p.c p.v
 num:2≤p.op→p.op≤5→T.getD p.l.toNat 0=1∧T.getD p.r.toNat 0=1
 same:6≤p.op→p.op≤7→T.getD p.l.toNat 0=T.getD p.r.toNat 0
 tru:8≤p.op→p.op≤9→T.getD p.l.toNat 0=2∧T.getD p.r.toNat 0=2
 nt:p.op=10→T.getD p.l.toNat 0=2
def Uj (sch:List Int)(es:List Pt):Prop:=∀ j p,es[j]?=some p→Jeg sch (es.map (tyP sch)) j p
def Jee (sch:List Int)(x:List V):Prop:=x.length=sch.length∧(∀ i,i<x.length→okV (sch.getD i 0) (x.getD i Jf))∧∀ v∈x,Jg v.n
def Jho (T:List Int)(d:List V):Prop:=(∀ k,k<d.length→okV (T.getD k 0) (d.getD k Jf))∧∀ v∈d,Jg v.n
theorem Jpt {a b:V}(y:okV 2 a)(D:okV 2 b):Jse a b=(if isF a||isF b||(a.k != 0&&b.k != 0)then Yi (isT a&&isT b)else Jf,0):=by
 rcases Jgb y with rfl|rfl|rfl<;>rcases Jgb D with rfl|rfl|rfl<;>rfl
theorem Jvb {a b:V}(y:okV 2 a)(D:okV 2 b):orR a b=(if isT a||isT b||(a.k != 0&&b.k != 0)then Yi (isT a||isT b)else Jf,0):=by
 rcases Jgb y with rfl|rfl|rfl<;>rcases Jgb D with rfl|rfl|rfl<;>rfl
theorem Kfb {sch T:List Int}{x d:List V}{p:Pt}(hp:Jeg sch T d.length p)(Z:Jee sch x)(Y:Jho T d)(h0:(Qp p x d).2=0):okV (tyP sch p) (Qp p x d).1:=by
 have bf:=hp.ok.pt.lo;have bc:=hp.ok.pt.hi;unfold Qp at h0 ⊢;unfold tyP;by_cases E:p.op=0
 ·rw[if_pos E,if_pos E];obtain⟨c1,c2⟩:=hp.ok.pt.col E;exact Z.2.1 _ (by rw[Z.1];omega)
 rw[if_neg E]at h0 ⊢;rw[if_neg E];by_cases H:p.op=1
 ·rw[if_pos H,if_pos H];exact(hp.con H).2
 rw[if_neg H]at h0 ⊢;rw[if_neg H];obtain⟨bh,bi⟩:=hp.ok.pt.left (by omega);obtain⟨bj,bn⟩:=hp.r (by omega);have y:=Y.1 p.l.toNat (by omega);have D:=Y.1 p.r.toNat (by omega);generalize d.getD p.l.toNat Jf=a at *;by_cases K:p.op≤9
 ·rw[if_pos K]at h0 ⊢;generalize d.getD p.r.toNat Jf=b at *;by_cases X:a.k=0∨b.k=0
  ·by_cases ba:p.op≤7
   ·have:opR p.op a b=(Jf,0):=by
     have:p.op=2∨p.op=3∨p.op=4∨p.op=5∨p.op=6∨p.op=7:=(by omega);rcases this with h|h|h|h|h|h<;>rw[h]<;>exact if_pos X
    rw[this];exact Jet _
   obtain⟨O,R⟩:=hp.tru (by omega) K;rw[O]at y;rw[R]at D;rw[if_neg (by omega)];have:p.op=8∨p.op=9:=(by omega);rcases this with h|h
   ·rw[h,show opR 8 a b=Jse a b from rfl,Jpt y D];split
    ·exact Jdv _
    exact Jet _
   rw[h,show opR 9 a b=orR a b from rfl,Jvb y D];split
   ·exact Jdv _
   exact Jet _
  by_cases U:p.op≤5
  ·rw[if_pos U];rcases Jx6 (a:=a) (b:=b) (by omega:2≤p.op) U (by omega) (by omega)with⟨_,h⟩|⟨_,c,hc,_,h⟩
   ·rw[h];exact Kfp _
   rw[h]at h0;exact absurd h0 hc
  rw[if_neg U];have:p.op=6∨p.op=7∨p.op=8∨p.op=9:=by omega
  rcases this with h|h|h|h
  ·rw[h,show opR 6 a b=Kd Jsg a b from rfl];unfold Kd;rw[if_neg X];exact Jdv _
  ·rw[h,show opR 7 a b=Kd Jkc a b from rfl];unfold Kd;rw[if_neg X];exact Jdv _
  ·obtain⟨O,R⟩:=hp.tru (by omega) K;rw[O]at y;rw[R]at D;rw[h,show opR 8 a b=Jse a b from rfl,Jpt y D];split
   ·exact Jdv _
   exact Jet _
  obtain⟨O,R⟩:=hp.tru (by omega) K;rw[O]at y;rw[R]at D;rw[h,show opR 9 a b=orR a b from rfl,Jvb y D];split
  ·exact Jdv _
  exact Jet _
 rw[if_neg K]at h0 ⊢;rw[if_neg (by omega)];have:p.op=10∨p.op=11:=by omega
 rcases this with h|h
 ·rw[h,show opR 10=Kd Ju0 from rfl];unfold Kd;split
  ·exact Jet _
  exact Jdv _
 rw[h,show opR 11=Jle from rfl];exact Jdv _
end
section
open Go.RowKit Go.Shelf Tryz
attribute [local go_sem] Oc0
theorem Jef (a:Option Addr)(cap:Nat)(ts:List Int)(i:Nat)(w:World)(hi:i<ts.length)(h:Kc w a ts) :
  Calls prog 135 #[.slice a ts.length cap,.int .i64 (i:Int)] w fun e w'=>e=.returned (.tuple #[.int .i64 (ts.getD i 0),.bool true])∧w'=w:=by
 obtain⟨b,o,rfl,E,D⟩:=h.at hi;have y:ts.getD i 0=ts[i]:=by rw[Oa0,Oa3 hi];rfl
 rw[y];generalize ts[i]=t at D ⊢;clear y h;have H:(0:Int)≤(i:Int):=by omega
 have K:(i:Int)<(ts.length:Int):=by omega
 go_enter func135,ntmps135
 go_wp2;exact bodyPost_ret (v:=.tuple #[.int .i64 t,.bool true]) (by simp[results,results135,go_sem]) rfl ⟨rfl,rfl⟩
def Jg6 (w:World)(D:Nat)(y ev:Value):Prop:=w.heap[D]?=some (.cells #[y,ev] 330 (0,0))
theorem Jg6.cells {w:World}{y:Nat}{D ev:Value}(h:Jg6 w y D ev):w.cell? ⟨y,0,none⟩=some D∧w.cell? ⟨y,1,none⟩=some ev:=by
 constructor<;>simp[World.cell?,show w.heap[y]?=_ from h]
abbrev Zj (w:World)(p:Pt):World:=w.alloc (.cells #[.int .i64 p.op,.int .i64 p.l,.int .i64 p.r,.int .i64 p.c,.int .i64 p.v.k,.int .i64 p.v.n,.string p.v.s] 63)
abbrev TyP (w:World)(t:Int):Ending→World→Prop:=fun e w'=>e=.returned (.tuple #[.int .i64 t,.bool true])∧Below w.heap.size w w'
theorem Jgj (w:World)(p:Pt):(Zj w p).cell? ⟨w.heap.size,1,none⟩=some (.int .i64 p.l)∧(Zj w p).cell? ⟨w.heap.size,2,none⟩=some (.int .i64 p.r)∧(Zj w p).cell? ⟨w.heap.size,3,none⟩=some (.int .i64 p.c):=by
 have:=heap_alloc_new w (.cells #[.int .i64 p.op,.int .i64 p.l,.int .i64 p.r,.int .i64 p.c,.int .i64 p.v.k,.int .i64 p.v.n,.string p.v.s] 63);refine⟨?_,?_,?_⟩<;>(unfold World.cell?;rw[this];rfl)
theorem Jbr {w:World}{D:Nat}{y ev:Value}(h:Jg6 w D y ev)(o:Obj):Jg6 (w.alloc o) D y ev:=(Oa9 _ _ _ (Jd h)).trans h
theorem Kfz (K:Nat)(ba:Value)(E:Option Addr)(H:Nat)(T:List Int)(p:Pt)(L:Nat)(hL:p.l=(L:Int))(U:L<T.length)(w:World)(bc:Jg6 w K ba (.slice E T.length H))(O:Kc w E T) :
  Calls prog 258 #[.pointer (some ⟨K,0,none⟩),p.val] w (TyP w 2):=by
 obtain⟨_,c1⟩:=bc.cells;obtain⟨b1,b2,_⟩:=Jgj w p;have X:Below w.heap.size w (Zj w p):=Jc (Oa5 _ _) _;have Y:Hid (∀ D,Below w.heap.size w D→Calls prog 135 #[.slice E T.length H,.int .i64 (L:Int)] D fun e w'=>e=.returned (.tuple #[.int .i64 (T.getD L 0),.bool true])∧w'=D):=fun D bf=>Jef E H T L D U (O.below bf);rw[hL]at b1;clear hL U O;go_enter func258,ntmps258
 go_upto_region 1 with fail
 refine wp_region_held_drew (S:=fun D=>D.cell? ⟨K,1,none⟩=some (.slice E T.length H)∧D.cell? ⟨w.heap.size,1,none⟩=some (.int .i64 (L:Int))) (by kernel_rfl) ⟨Jh (Kf c1),Jh b1⟩ (fun y=>?_);refine tkj 0 rfl y ?_;refine tkj 1 rfl y ?_;refine tkj 2 rfl y ?_;refine tkj 3 rfl y ?_;refine tkj 4 rfl y ?_;refine tkj 5 rfl y ?_;refine tkn ?_;refine tkr 6 rfl fun Z R=>?_;go_simp;refine(Y.out (Zj w p).drew (Jj X)).mono ?_;rintro e bh ⟨rfl,rfl⟩;go_simp;refine R.out _ _ ⟨y.1,y.2⟩ (fun y=>?_);clear R Z;refine tkj 7 rfl y ?_;refine tkj 8 rfl y ?_;refine tkj 9 rfl y ?_;refine tkj 10 rfl y ?_;refine tkj 11 rfl y ?_;refine tkn ?_;refine wpAnyH_done (by kernel_rfl) ?_ _;go_wp2;exact bodyPost_ret (v:=.tuple #[.int .i64 2,.bool true]) (by simp[results,results258,go_sem]) rfl ⟨rfl,Jj X⟩
theorem Kaj (K:Nat)(bc:Value)(E:Option Addr)(H:Nat)(T:List Int)(p:Pt)(L:Nat)(hL:p.l=(L:Int))(Y:L<T.length)(R:T.getD L 0=2)(w:World)(bf:Jg6 w K bc (.slice E T.length H))(U:Kc w E T) :
  Calls prog 257 #[.pointer (some ⟨K,0,none⟩),p.val] w (TyP w 2):=by
 obtain⟨_,c1⟩:=bf.cells;obtain⟨b1,b2,_⟩:=Jgj w p;have Z:Below w.heap.size w (Zj w p):=Jc (Oa5 _ _) _;have O:Hid (∀ D,Below w.heap.size w D→Calls prog 135 #[.slice E T.length H,.int .i64 (L:Int)] D fun e w'=>e=.returned (.tuple #[.int .i64 (T.getD L 0),.bool true])∧w'=D):=fun D bh=>Jef E H T L D Y (U.below bh);rw[hL]at b1;clear hL Y U;rw[R]at O;clear R;go_enter func257,ntmps257
 go_upto_region 1 with fail
 refine wp_region_held_drew (S:=fun D=>D.cell? ⟨K,1,none⟩=some (.slice E T.length H)∧D.cell? ⟨w.heap.size,1,none⟩=some (.int .i64 (L:Int))) (by kernel_rfl) ⟨Jh (Kf c1),Jh b1⟩ (fun y=>?_);refine tkj 0 rfl y ?_;refine tkj 1 rfl y ?_;refine tkj 2 rfl y ?_;refine tkj 3 rfl y ?_;refine tkj 4 rfl y ?_;refine tkj 5 rfl y ?_;refine tkn ?_;refine tkr 6 rfl fun ba X=>?_;go_simp;refine(O.out (Zj w p).drew (Jj Z)).mono ?_;rintro e bi ⟨rfl,rfl⟩;go_simp;refine X.out _ _ ⟨y.1,y.2⟩ (fun y=>?_);clear X ba;refine tkj 7 rfl y ?_;refine tkj 8 rfl y ?_;refine tkj 9 rfl y ?_;refine tkj 10 rfl y ?_;refine tkj 11 rfl y ?_;refine tkn ?_;refine wpAnyH_done (by kernel_rfl) ?_ _;go_wp2;exact bodyPost_ret (v:=.tuple #[.int .i64 2,.bool true]) (by simp[results,results257,go_sem]) rfl ⟨rfl,Jj Z⟩
theorem Jtu (K:Nat)(O:Value)(bc:Option Addr)(bf:Nat)(T:List Int)(p:Pt)(E:Option Addr)(H C:Nat)(sch:List Int)(bj:O=.slice E sch.length H)(hC:p.c=(C:Int))(R:C<sch.length)(w:World)(bh:Jg6 w K O (.slice bc T.length bf))(X:Kc w E sch) :
  Calls prog 252 #[.pointer (some ⟨K,0,none⟩),p.val] w (TyP w (sch.getD C 0)):=by
 subst bj;obtain⟨c0,_⟩:=bh.cells;obtain⟨_,_,b3⟩:=Jgj w p;have Y:Below w.heap.size w (Zj w p):=Jc (Oa5 _ _) _;have Z:Hid (∀ D,Below w.heap.size w D→Calls prog 135 #[.slice E sch.length H,.int .i64 (C:Int)] D fun e w'=>e=.returned (.tuple #[.int .i64 (sch.getD C 0),.bool true])∧w'=D):=fun D bi=>Jef E H sch C D R (X.below bi);rw[hC]at b3;clear hC R X;go_enter func252,ntmps252
 go_upto_region 1 with fail
 refine wp_region_held_drew (S:=fun D=>D.cell? ⟨K,0,none⟩=some (.slice E sch.length H)∧D.cell? ⟨w.heap.size,3,none⟩=some (.int .i64 (C:Int))) (by kernel_rfl) ⟨Jh (Kf c0),Jh b3⟩ (fun y=>?_);refine tkj 0 rfl y ?_;refine tkj 1 rfl y ?_;refine tkj 2 rfl y ?_;refine tkj 3 rfl y ?_;refine tkj 4 rfl y ?_;refine tkj 5 rfl y ?_;refine tkn ?_;refine tkr 6 rfl fun ba U=>?_;go_simp;refine(Z.out (Zj w p).drew (Jj Y)).mono ?_;rintro e bn ⟨rfl,rfl⟩;go_simp;refine U.out _ _ ⟨y.1,y.2⟩ (fun y=>?_);clear U ba;refine tkj 7 rfl y ?_;refine tkj 8 rfl y ?_;refine tkj 9 rfl y ?_;refine tkj 10 rfl y ?_;refine tkn ?_;refine wpAnyH_done (by kernel_rfl) ?_ _;go_wp2;exact bodyPost_ret (v:=.tuple #[.int .i64 (sch.getD C 0),.bool true]) (by simp[results,results252,go_sem]) rfl ⟨rfl,Jj Y⟩
theorem Jhp (R:Nat)(bn:Value)(E:Option Addr)(K:Nat)(T:List Int)(p:Pt)(L:Nat)(hL:p.l=(L:Int))(bf:L<T.length)(H:Nat)(hR:p.r=(H:Int))(bh:H<T.length)(bi:T.getD L 0=T.getD H 0)(w:World)(br:Jg6 w R bn (.slice E T.length K))(Y:Kc w E T) :
  Calls prog 285 #[.pointer (some ⟨R,0,none⟩),p.val] w (TyP w (T.getD L 0)):=by
 obtain⟨_,c1⟩:=br.cells;obtain⟨b1,b2,_⟩:=Jgj w p;have ba:Below w.heap.size w (Zj w p):=Jc (Oa5 _ _) _;have bc:Hid (∀ D,Below w.heap.size w D→Calls prog 135 #[.slice E T.length K,.int .i64 (L:Int)] D fun e w'=>e=.returned (.tuple #[.int .i64 (T.getD L 0),.bool true])∧w'=D):=fun D Z=>Jef E K T L D bf (Y.below Z);have U:Hid (∀ D,Below w.heap.size w D→Calls prog 135 #[.slice E T.length K,.int .i64 (H:Int)] D fun e w'=>e=.returned (.tuple #[.int .i64 (T.getD H 0),.bool true])∧w'=D):=fun D Z=>Jef E K T H D bh (Y.below Z);rw[hL]at b1;rw[hR]at b2;rw[←bi]at U;generalize T.getD L 0=t at bc U ⊢;clear hL bf Y hR bh bi;go_enter func285,ntmps285
 go_upto_region 1 with fail
 refine wp_region_held_drew (S:=fun D=>D.cell? ⟨R,1,none⟩=some (.slice E T.length K)∧D.cell? ⟨w.heap.size,1,none⟩=some (.int .i64 (L:Int))) (by kernel_rfl) ⟨Jh (Kf c1),Jh b1⟩ (fun y=>?_);refine tkj 0 rfl y ?_;refine tkj 1 rfl y ?_;refine tkj 2 rfl y ?_;refine tkj 3 rfl y ?_;refine tkj 4 rfl y ?_;refine tkj 5 rfl y ?_;refine tkn ?_;refine tkr 6 rfl fun X O=>?_;go_simp;refine(bc.out (Zj w p).drew (Jj ba)).mono ?_;rintro e bj ⟨rfl,rfl⟩;go_simp;refine O.out _ _ ⟨y.1,y.2⟩ (fun y=>?_);clear O X;refine tkj 7 rfl y ?_;refine tkj 8 rfl y ?_;refine tkj 9 rfl y ?_;refine tkj 10 rfl y ?_;refine tkj 11 rfl y ?_;refine tkn ?_;refine wpAnyH_done (by kernel_rfl) ?_ _;go_upto_region 2 with fail
 refine wp_region_held_drew (S:=fun D=>D.cell? ⟨R,1,none⟩=some (.slice E T.length K)∧D.cell? ⟨w.heap.size,2,none⟩=some (.int .i64 (H:Int))) (by kernel_rfl) ⟨Jh (Jh (Kf c1)),Jh (Jh b2)⟩ (fun y=>?_);refine tkj 0 rfl y ?_;refine tkj 1 rfl y ?_;refine tkj 2 rfl y ?_;refine tkj 3 rfl y ?_;refine tkj 4 rfl y ?_;refine tkj 5 rfl y ?_;refine tkn ?_;refine tkr 6 rfl fun X O=>?_;go_simp;refine(U.out (Zj w p).drew.drew (Jj (Jj ba))).mono ?_;rintro e bj ⟨rfl,rfl⟩;go_simp;refine O.out _ _ ⟨y.1,y.2⟩ (fun y=>?_);clear O X;refine tkj 7 rfl y ?_;refine tkj 8 rfl y ?_;refine tkj 9 rfl y ?_;refine tkj 10 rfl y ?_;refine tkj 11 rfl y ?_;refine tkn ?_;refine wpAnyH_done (by kernel_rfl) ?_ _;go_wp2;exact bodyPost_ret (v:=.tuple #[.int .i64 t,.bool true]) (by simp[results,results285,go_sem]) rfl ⟨rfl,Jj (Jj ba)⟩
theorem Jtk (E:Nat)(H:Value)(D:Option Addr)(K:Nat)(T:List Int)(p:Pt)(L:Nat)(hL:p.l=(L:Int))(U:L<T.length)(y:Nat)(hR:p.r=(y:Int))(X:y<T.length)(Z:T.getD L 0=T.getD y 0)(O:T.getD L 0=1)(w:World)(ba:Jg6 w E H (.slice D T.length K))(R:Kc w D T) :
  Calls prog 254 #[.pointer (some ⟨E,0,none⟩),p.val] w (TyP w 1):=by
 have Y:=Jhp E H D K T p L hL U y hR X Z (Zj w p) (Jbr ba _) (R.below (Jc (Oa5 _ _) _));rw[O]at Y;clear hL U R hR X Z O;go_enter func254,ntmps254
 go_wp2_with (go_at_call 285;refine Y.mono ?_;rintro bh bf ⟨rfl,bc⟩)
 exact bodyPost_ret (v:=.tuple #[.int .i64 1,.bool true]) (by simp[results,results254,go_sem]) rfl ⟨rfl,Jb (Jc (Oa5 _ _) _) bc⟩
theorem Jsl (E:Nat)(H:Value)(D:Option Addr)(K:Nat)(T:List Int)(p:Pt)(L:Nat)(hL:p.l=(L:Int))(R:L<T.length)(y:Nat)(hR:p.r=(y:Int))(U:y<T.length)(Y:T.getD L 0=T.getD y 0)(w:World)(Z:Jg6 w E H (.slice D T.length K))(O:Kc w D T) :
  Calls prog 255 #[.pointer (some ⟨E,0,none⟩),p.val] w (TyP w 2):=by
 have X:=Jhp E H D K T p L hL R y hR U Y (Zj w p) (Jbr Z _) (O.below (Jc (Oa5 _ _) _));generalize T.getD L 0=t at X;clear hL R O hR U Y;go_enter func255,ntmps255
 go_wp2_with (go_at_call 285;refine X.mono ?_;rintro bf bc ⟨rfl,ba⟩)
 exact bodyPost_ret (v:=.tuple #[.int .i64 2,.bool true]) (by simp[results,results255,go_sem]) rfl ⟨rfl,Jb (Jc (Oa5 _ _) _) ba⟩
theorem Juq (E:Nat)(H:Value)(D:Option Addr)(K:Nat)(T:List Int)(p:Pt)(L:Nat)(hL:p.l=(L:Int))(U:L<T.length)(y:Nat)(hR:p.r=(y:Int))(X:y<T.length)(Z:T.getD L 0=T.getD y 0)(O:T.getD L 0=2)(w:World)(ba:Jg6 w E H (.slice D T.length K))(R:Kc w D T) :
  Calls prog 256 #[.pointer (some ⟨E,0,none⟩),p.val] w (TyP w 2):=by
 have Y:=Jhp E H D K T p L hL U y hR X Z (Zj w p) (Jbr ba _) (R.below (Jc (Oa5 _ _) _));rw[O]at Y;clear hL U R hR X Z O;go_enter func256,ntmps256
 go_wp2_with (go_at_call 285;refine Y.mono ?_;rintro bh bf ⟨rfl,bc⟩)
 exact bodyPost_ret (v:=.tuple #[.int .i64 2,.bool true]) (by simp[results,results256,go_sem]) rfl ⟨rfl,Jb (Jc (Oa5 _ _) _) bc⟩
attribute [local go_sem] Oc0
theorem Jpx (bj:Nat)(p:Pt)(w:World)(K:1≤p.c)(O:p.c≤3)(U:okV p.c p.v) :
  Calls prog 253 #[.pointer (some ⟨bj,0,none⟩),p.val] w (TyP w p.c):=by
 have Y:∀ y,Calls prog 86 #[.agg #[.int .i64 p.v.k,.int .i64 p.v.n,.string p.v.s],.int .i64 p.c] y fun e w'=>e=.returned (.bool true)∧Below y.heap.size y w':=fun y=>by
  have:=Jmd p.v.k p.v.n p.v.s p.c y;rwa [show okB p.c p.v.k p.v.n p.v.s=true from U]at this
 have hI:∀ y,Calls prog 85 #[.int .i64 p.c] y fun e w'=>e=.returned (.bool true)∧w'=y:=fun y=>by
  have:=Jlh p.c y;rwa [show decide (1≤p.c∧p.c≤3)=true from decide_eq_true ⟨K,O⟩]at this
 clear K O U;go_enter func253,ntmps253
 go_upto_region 1 with fail
 have E:(Zj w p).heap[w.heap.size]?=_:=heap_alloc_new w (.cells #[.int .i64 p.op,.int .i64 p.l,.int .i64 p.r,.int .i64 p.c,.int .i64 p.v.k,.int .i64 p.v.n,.string p.v.s] 63);have R:Below w.heap.size w (Zj w p):=Jc (Oa5 _ _) _;show Code.wp _ _ _ _ (Zj w p);generalize Zj w p=D at E R ⊢;have bc:D.cell? ⟨w.heap.size,3,none⟩=some (.int .i64 p.c):=by simp[World.cell?,E]
 have bf:D.cell? ⟨w.heap.size,4,none⟩=some (.int .i64 p.v.k):=by simp[World.cell?,E]
 have bh:D.cell? ⟨w.heap.size,5,none⟩=some (.int .i64 p.v.n):=by simp[World.cell?,E]
 have bi:D.cell? ⟨w.heap.size,6,none⟩=some (.string p.v.s):=by simp[World.cell?,E]
 have ba:w.heap.size<D.heap.size:=Jd E;clear E;go_region_held3 (fun y=>y.cell? ⟨w.heap.size,3,none⟩=some (.int .i64 p.c)∧y.cell? ⟨w.heap.size,4,none⟩=some (.int .i64 p.v.k)∧y.cell? ⟨w.heap.size,5,none⟩=some (.int .i64 p.v.n)∧y.cell? ⟨w.heap.size,6,none⟩=some (.string p.v.s))
  (first|go_keep|(go_split_ands;refine⟨?_,?_,?_,?_⟩<;>(rw[(Kx H).1 _ _ (by first|exact ba|assumption)];assumption)))
  (first|(go_at_call 85;refine(hI _).mono ?_;rintro e X ⟨rfl,rfl⟩)|(go_at_call 86;refine(Y _).mono ?_;rintro e X ⟨rfl,H⟩;have Z:Below D.heap.size D X:=(by first|exact Jw H|exact H)))
 clear bc bf bh bi;go_wp2;exact bodyPost_ret (v:=.tuple #[.int .i64 p.c,.bool true]) (by simp[results,results253,go_sem]) rfl ⟨rfl,Jb R Z⟩
def tyF (op:Int):Nat:=if op=0 then 252 else if op=1 then 253 else if op≤5 then 254 else if op≤7 then 255 else if op≤9 then 256 else if op=10 then 257 else 258
abbrev tyC (y:Nat):Array Value:=#[.func (.func 252) #[.pointer (some ⟨y,0,none⟩)] #[],.func (.func 253) #[.pointer (some ⟨y,0,none⟩)] #[],.func (.func 254) #[.pointer (some ⟨y,0,none⟩)] #[],.func (.func 254) #[.pointer (some ⟨y,0,none⟩)] #[],.func (.func 254) #[.pointer (some ⟨y,0,none⟩)] #[],.func (.func 254) #[.pointer (some ⟨y,0,none⟩)] #[],.func (.func 255) #[.pointer (some ⟨y,0,none⟩)] #[],.func (.func 255) #[.pointer (some ⟨y,0,none⟩)] #[],.func (.func 256) #[.pointer (some ⟨y,0,none⟩)] #[],.func (.func 256) #[.pointer (some ⟨y,0,none⟩)] #[],.func (.func 257) #[.pointer (some ⟨y,0,none⟩)] #[],.func (.func 258) #[.pointer (some ⟨y,0,none⟩)] #[]]
theorem Jwc (b:Nat)(w:World):Calls prog 214 #[.pointer (some ⟨b,0,none⟩)] w fun e w'=>e=.returned (.agg (tyC b))∧Below w.heap.size w w':=by
 have y:∀ (f:Nat) (a:Addr) (W:World),(store a (.func (.func f) #[.pointer (some ⟨b,0,none⟩)] #[])).run prog W=stored prog W a (.func (.func f) #[.pointer (some ⟨b,0,none⟩)] #[]) .plain:=fun f a W=>run_store _ _ _ _ _ rfl;go_enter func214,ntmps214
 go_wp2;exact bodyPost_ret (v:=.agg (tyC b)) (by simp[results,results214,go_sem]) rfl ⟨rfl,(by repeat (first|exact Oa5 _ _|refine Jc ?_ _|refine Jj ?_))⟩
theorem Jy9 (op:Int)(args:Array Value)(W:World):(callFunc (tyF op) args).run prog W=.ok (.enter (tyF op) args) W:=by
 unfold tyF;repeat' split
 all_goals kernel_rfl
theorem Jzr (D:Nat)(ba:Option Addr)(bi:Nat)(sch:List Int)(H:Option Addr)(O:Nat)(T F:List Int)(p:Pt)(w:World)(U:Jg6 w D (.slice ba sch.length bi) (.slice H T.length O))(hC:Kc w ba sch)(Z:Kc w H T)(hF:∀ k,k<T.length→F.getD k 0=T.getD k 0)(hp:Jeg sch F T.length p) :
  Calls prog (tyF p.op) #[.pointer (some ⟨D,0,none⟩),p.val] w (TyP w (tyP sch p)):=by
 have bC:=hp.ok.pt.lo;have bB:=hp.ok.pt.hi;by_cases h0:p.op=0
 ·obtain⟨y,K⟩:=hp.ok.pt.col h0;have:=Jtu D (.slice ba sch.length bi) H O T p ba bi p.c.toNat sch rfl (by omega) (by omega) w U hC;unfold tyF tyP;rw[if_pos h0,if_pos h0];exact this
 by_cases X:p.op=1
 ·obtain⟨⟨y,K⟩,bA⟩:=hp.con X;unfold tyF tyP;rw[if_neg h0,if_neg h0,if_pos X,if_pos X];exact Jpx D p w y K bA
 obtain⟨bD,bE⟩:=hp.ok.pt.left (by omega);obtain⟨bG,bH⟩:=hp.r (by omega);obtain⟨L,hL⟩:∃ L:Nat,p.l=(L:Int):=⟨p.l.toNat,by omega⟩;obtain⟨E,hR⟩:∃ E:Nat,p.r=(E:Int):=⟨p.r.toNat,by omega⟩;have bc:p.l.toNat=L:=by omega
 have bj:p.r.toNat=E:=by omega
 have R:L<T.length:=by omega
 have bh:E<T.length:=by omega
 have bf:=hF L R;have bn:=hF E bh;unfold tyF tyP;rw[if_neg h0,if_neg h0,if_neg X,if_neg X];by_cases Y:p.op≤5
 ·rw[if_pos Y,if_pos Y];obtain⟨y,K⟩:=hp.num (by omega) Y;rw[bc,bf]at y;rw[bj,bn]at K;exact Jtk D _ H O T p L hL R E hR bh (y.trans K.symm) y w U Z
 rw[if_neg Y,if_neg Y];by_cases bx:p.op≤7
 ·rw[if_pos bx];have q:=hp.same (by omega) bx;rw[bc,bj,bf,bn]at q;exact Jsl D _ H O T p L hL R E hR bh q w U Z
 rw[if_neg bx];by_cases bz:p.op≤9
 ·rw[if_pos bz];obtain⟨y,K⟩:=hp.tru (by omega) bz;rw[bc,bf]at y;rw[bj,bn]at K;exact Juq D _ H O T p L hL R E hR bh (y.trans K.symm) y w U Z
 rw[if_neg bz];by_cases br:p.op=10
 ·rw[if_pos br];have q:=hp.nt br;rw[bc,bf]at q;exact Kaj D _ H O T p L hL R q w U Z
 rw[if_neg br];exact Kfz D _ H O T p L hL R w U Z
theorem Kg3 (y n:Nat)(D:n<12):(tyC y)[n]?=some (.func (.func (tyF (n:Int))) #[.pointer (some ⟨y,0,none⟩)] #[]):=by
 have:n=0∨n=1∨n=2∨n=3∨n=4∨n=5∨n=6∨n=7∨n=8∨n=9∨n=10∨n=11:=by omega
 rcases this with rfl|rfl|rfl|rfl|rfl|rfl|rfl|rfl|rfl|rfl|rfl|rfl<;>rfl
theorem Ke5 (E:Nat)(ba:Option Addr)(bn:Nat)(sch:List Int)(bc:Option Addr)(br:Nat)(T F:List Int)(p:Pt)(w:World)(bf:Jg6 w E (.slice ba sch.length bn) (.slice bc T.length br))(hC:Kc w ba sch)(bx:Kc w bc T)(hF:∀ k,k<T.length→F.getD k 0=T.getD k 0)(hp:Jeg sch F T.length p) :
  Calls prog 171 #[.pointer (some ⟨E,0,none⟩),p.val] w (TyP w (tyP sch p)):=by
 have bJ:=hp.ok.pt.lo;have bI:=hp.ok.pt.hi;have U:Hid (∀ y,Below w.heap.size w y→Calls prog (tyF p.op) #[.pointer (some ⟨E,0,none⟩),p.val] y (TyP y (tyP sch p))):=fun y bh=>Jzr E ba bn sch bc br T F p y ((bh.block _ (Jd bf)).trans bf) (hC.below bh) (bx.below bh) hF hp;clear bf hC bx hF hp;generalize tyP sch p=bM at U ⊢;obtain⟨n,hn⟩:∃ n:Nat,p.op=(n:Int):=⟨p.op.toNat,by omega⟩;have bK:n<12:=by omega
 have bE:Hid (p.op=(n:Int)):=hn;clear hn;have bL:∀ (f:Nat) (a:Addr) (y:World),(store a (.func (.func f) #[.pointer (some ⟨E,0,none⟩)] #[])).run prog y=stored prog y a (.func (.func f) #[.pointer (some ⟨E,0,none⟩)] #[]) .plain:=fun f a y=>run_store _ _ _ _ _ rfl;have bA:Below w.heap.size w (Zj w p):=Jc (Oa5 _ _) _;have Z:(Zj w p).heap[w.heap.size]?=_:=heap_alloc_new w (.cells #[.int .i64 p.op,.int .i64 p.l,.int .i64 p.r,.int .i64 p.c,.int .i64 p.v.k,.int .i64 p.v.n,.string p.v.s] 63);have bD:=Jwc E (Zj w p);go_enter func171,ntmps171
 go_upto_region 2 with(go_at_call 214;refine bD.mono ?_;rintro e R ⟨rfl,X⟩)
 have hn:=bE.out;have bi:Below R.heap.size R (R.alloc (.cells (tyC E) 377)):=Jc (Oa5 _ _) _;have Y:=heap_alloc_new R (.cells (tyC E) 377);have K:=(bi.block _ (Oc2 (Jd Z) X.size)).trans ((X.block _ (Jd Z)).trans Z);have bj:Below w.heap.size w (R.alloc (.cells (tyC E) 377)):=Jb (Jb bA X) bi;obtain⟨kb,bB⟩:∃ kb,kb=R.heap.size:=⟨_,rfl⟩;rw[←bB]at Y ⊢;clear bB;generalize R.alloc (.cells (tyC E) 377)=H at Y K bj ⊢;have bN:H.cell? ⟨w.heap.size,0,none⟩=some (.int .i64 (n:Int)):=by rw[←hn];simp[World.cell?,K]
 have z1:H.cell? ⟨w.heap.size,1,none⟩=some (.int .i64 p.l):=by simp[World.cell?,K]
 have z2:H.cell? ⟨w.heap.size,2,none⟩=some (.int .i64 p.r):=by simp[World.cell?,K]
 have bO:H.cell? ⟨w.heap.size,3,none⟩=some (.int .i64 p.c):=by simp[World.cell?,K]
 have bP:H.cell? ⟨w.heap.size,4,none⟩=some (.int .i64 p.v.k):=by simp[World.cell?,K]
 have bQ:H.cell? ⟨w.heap.size,5,none⟩=some (.int .i64 p.v.n):=by simp[World.cell?,K]
 have bR:H.cell? ⟨w.heap.size,6,none⟩=some (.string p.v.s):=by simp[World.cell?,K]
 have bC:H.cell? ⟨kb,n,none⟩=some (.func (.func (tyF p.op)) #[.pointer (some ⟨E,0,none⟩)] #[]):=by
  have:=Kg3 E n bK;rw[←hn]at this;rw[←this];simp only[World.cell?,Y];rfl
 have bH:=Jy9 p.op;obtain⟨f,hf⟩:∃ f,f=tyF p.op:=⟨_,rfl⟩;rw[←hf]at bC bH U;rw[Pt.val,hn]at U;have bT:(0:Int)≤(n:Int):=by omega
 have bU:(n:Int)<12:=by omega
 clear hf hn bi X bD Z K Y bA bL R bJ bI;go_upto_region 4 with fail
 refine wp_region_held_drew (S:=fun y=>y.cell? ⟨w.heap.size,0,none⟩=some (.int .i64 (n:Int))∧y.cell? ⟨w.heap.size,1,none⟩=some (.int .i64 p.l)∧y.cell? ⟨w.heap.size,2,none⟩=some (.int .i64 p.r)∧y.cell? ⟨w.heap.size,3,none⟩=some (.int .i64 p.c)∧y.cell? ⟨w.heap.size,4,none⟩=some (.int .i64 p.v.k)∧y.cell? ⟨w.heap.size,5,none⟩=some (.int .i64 p.v.n)∧y.cell? ⟨w.heap.size,6,none⟩=some (.string p.v.s)∧y.cell? ⟨kb,n,none⟩=some (.func (.func f) #[.pointer (some ⟨E,0,none⟩)] #[])) (by kernel_rfl) ⟨Jh bN,Jh z1,Jh z2,Jh bO,Jh bP,Jh bQ,Jh bR,Jh bC⟩ (fun D=>?_);refine tkj 0 rfl D ?_;refine tkj 1 rfl D ?_;refine tkj 2 rfl D ?_;refine tkj 3 rfl D ?_;refine tkj 4 rfl D ?_;refine tkn ?_;refine tkr 5 rfl fun bG bz=>?_;go_simp;refine(U.out H.drew (Jj bj)).mono ?_;rintro e bS ⟨rfl,O⟩;go_simp;refine bz.out _ _ ⟨Ja O D.1,Ja O D.2.1,Ja O D.2.2.1,Ja O D.2.2.2.1,Ja O D.2.2.2.2.1,Ja O D.2.2.2.2.2.1,Ja O D.2.2.2.2.2.2.1,Ja O D.2.2.2.2.2.2.2⟩ (fun D=>?_);clear bz bG;refine tkj 6 rfl D ?_;refine tkj 7 rfl D ?_;refine tkj 8 rfl D ?_;refine tkj 9 rfl D ?_;refine tkn ?_;refine wpAnyH_done (by kernel_rfl) ?_ _;go_wp2;exact bodyPost_ret (v:=.tuple #[.int .i64 bM,.bool true]) (by simp[results,results171,go_sem]) rfl ⟨rfl,Jb (Jj bj) O⟩
attribute [local go_sem] Oc0
theorem Jk5 (y bu bl:Int)(U:Value)(w:World)(D:1≤y)(E:y≤1000)(H:2≤bu)(K:bu≤1000)(O:0≤bl)(R:bl≤4096):Calls prog 32 #[.agg #[.int .i64 y,.int .i64 bu,.int .i64 bl,U]] w fun e w'=>e=.returned (.bool true)∧Below w.heap.size w w':=by
 have X:decide (1≤y)=true:=by simp[D]
 have Y:decide (y≤1000)=true:=by simp[E]
 have Z:decide (2≤bu)=true:=by simp[H]
 have ba:decide (bu≤1000)=true:=by simp[K]
 have bc:decide (0≤bl)=true:=by simp[O]
 have bf:decide (bl≤4096)=true:=by simp[R]
 go_enter func32,ntmps32
 go_wp2;go_ret
 exact⟨rfl,Jc (Oa5 _ _) _⟩
abbrev Jd5 (b:Nat):Array Value:=#[.func (.func 69) #[.pointer (some ⟨b,0,none⟩)] #[],.func (.func 70) #[.pointer (some ⟨b,0,none⟩)] #[],.func (.func 71) #[.pointer (some ⟨b,0,none⟩)] #[],.func (.func 72) #[.pointer (some ⟨b,0,none⟩)] #[],.func (.func 73) #[.pointer (some ⟨b,0,none⟩)] #[],.func (.func 74) #[.pointer (some ⟨b,0,none⟩)] #[],.func (.func 75) #[.pointer (some ⟨b,0,none⟩)] #[],.func (.func 76) #[.pointer (some ⟨b,0,none⟩)] #[]]
theorem Juh (b:Nat)(w:World):Calls prog 52 #[.pointer (some ⟨b,0,none⟩)] w fun e w'=>e=.returned (.agg (Jd5 b))∧Below w.heap.size w w':=by
 have y:∀ (f:Nat) (a:Addr) (W:World),(store a (.func (.func f) #[.pointer (some ⟨b,0,none⟩)] #[])).run prog W=stored prog W a (.func (.func f) #[.pointer (some ⟨b,0,none⟩)] #[]) .plain:=fun f a W=>run_store _ _ _ _ _ rfl;go_enter func52,ntmps52
 go_wp2;exact bodyPost_ret (v:=.agg (Jd5 b)) (by simp[results,results52,go_sem]) rfl ⟨rfl,(by repeat (first|exact Oa5 _ _|refine Jc ?_ _|refine Jj ?_))⟩
theorem Jos (rb s:Nat)(z:Int)(bu bl bi ba bh dn:Value)(op l r:Int)(tn:ByteArray)(xs ky:Value)(kk:Int)(w:World)(P:World→Value→Value→World→Prop)(hr:Jck w rb z bu bl bi (.pointer (some ⟨s,0,none⟩)) ba bh dn)
  (U:∀ D,Below w.heap.size w D→Calls prog 36 #[.pointer (some ⟨s,0,none⟩),.string tn] D fun e w'=>Below D.heap.size D w'∧∃ a b,e=.returned (.tuple #[a,b])∧P D a b w') :
  Calls prog 69 #[.pointer (some ⟨rb,0,none⟩),.agg #[.int .i64 op,.int .i64 l,.int .i64 r,.string tn,xs,ky,.int .i64 kk]] w fun e w'=>Below w.heap.size w w'∧∃ D,Below w.heap.size w D∧∃ a b,e=.returned (.tuple #[a,b])∧P D a b w':=by
 obtain⟨_,c4,_,_,_⟩:=hr.cells;have E:Below w.heap.size w (w.alloc (.cells #[.int .i64 op,.int .i64 l,.int .i64 r,.string tn,xs,ky,.int .i64 kk] 51)).drew:=Jj (Jc (Oa5 _ _) _);have bc:=U _ E;have K:Hid (Below w.heap.size w (w.alloc (.cells #[.int .i64 op,.int .i64 l,.int .i64 r,.string tn,xs,ky,.int .i64 kk] 51)).drew):=E;have hn:=heap_alloc_new w (.cells #[.int .i64 op,.int .i64 l,.int .i64 r,.string tn,xs,ky,.int .i64 kk] 51);have bf:(w.alloc (.cells #[.int .i64 op,.int .i64 l,.int .i64 r,.string tn,xs,ky,.int .i64 kk] 51)).drew.cell? ⟨w.heap.size,3,none⟩=some (.string tn):=by unfold World.cell?;rw[heap_drew,hn];rfl
 clear hr U E hn;go_enter func69,ntmps69
 go_upto_region 1 with fail
 refine wp_region_held_drew (S:=fun D=>D.cell? ⟨rb,4,none⟩=some (.pointer (some ⟨s,0,none⟩))∧D.cell? ⟨w.heap.size,3,none⟩=some (.string tn)) (by kernel_rfl) ⟨Jh (Kf c4),bf⟩ (fun y=>?_);refine tkj 0 rfl y ?_;refine tkj 1 rfl y ?_;refine tkj 2 rfl y ?_;refine tkj 3 rfl y ?_;refine tkj 4 rfl y ?_;refine tkj 5 rfl y ?_;refine tkn ?_;refine tkr 6 rfl fun Y O=>?_;go_simp;refine bc.mono ?_;rintro e Z ⟨H,a,b,rfl,R⟩;have X:Hid (P (w.alloc (.cells #[.int .i64 op,.int .i64 l,.int .i64 r,.string tn,xs,ky,.int .i64 kk] 51)).drew a b Z):=R;clear R;go_simp;refine O.out _ _ ⟨Ja H y.1,Ja H y.2⟩ (fun y=>?_);clear O Y;refine tkj 7 rfl y ?_;refine tkj 8 rfl y ?_;refine tkj 9 rfl y ?_;refine tkj 10 rfl y ?_;refine tkn ?_;refine wpAnyH_done (by kernel_rfl) ?_ _;go_wp2_with fail
 exact bodyPost_ret (v:=.tuple #[a,b]) (by simp[results,results69,go_sem]) rfl ⟨Jb K.out H,_,K.out,a,b,rfl,X.out⟩
attribute [local go_sem] Oc0
structure Nd where
 op:Int
 l:Int
 r:Int
 tn:ByteArray
 xs:Option Addr×Nat×Nat
 ky:Option Addr×Nat×Nat
 kk:Int
abbrev Nd.val (p:Nd):Value:=.agg #[.int .i64 p.op,.int .i64 p.l,.int .i64 p.r,.string p.tn,.slice p.xs.1 p.xs.2.1 p.xs.2.2,.slice p.ky.1 p.ky.2.1 p.ky.2.2,.int .i64 p.kk]
def Zm (w:World)(g o:Nat)(p:Nd):Prop:=
 w.cell? ⟨g,o,none⟩=some (.int .i64 p.op)∧w.cell? ⟨g,o+1,none⟩=some (.int .i64 p.l)∧w.cell? ⟨g,o+2,none⟩=some (.int .i64 p.r)∧w.cell? ⟨g,o+3,none⟩=some (.string p.tn)∧w.cell? ⟨g,o+4,none⟩=some (.slice p.xs.1 p.xs.2.1 p.xs.2.2)∧w.cell? ⟨g,o+5,none⟩=some (.slice p.ky.1 p.ky.2.1 p.ky.2.2)∧w.cell? ⟨g,o+6,none⟩=some (.int .i64 p.kk)
theorem Zm.below {w w':World}{g o:Nat}{p:Nd}(h:Zm w g o p)(y:Below w.heap.size w w'):Zm w' g o p:=
 ⟨Ja y h.1,Ja y h.2.1,Ja y h.2.2.1,Ja y h.2.2.2.1,Ja y h.2.2.2.2.1,Ja y h.2.2.2.2.2.1,Ja y h.2.2.2.2.2.2⟩
def Jej (op:Int):Nat:=if op=0 then 69 else if op=1 then 70 else if op=2 then 71 else if op=3 then 72 else if op=4 then 73 else if op=5 then 74 else if op=6 then 75 else 76
theorem Js3 (op:Int)(args:Array Value)(W:World):(callFunc (Jej op) args).run prog W=.ok (.enter (Jej op) args) W:=by
 unfold Jej;repeat (split;(first|kernel_rfl|skip))
 kernel_rfl
theorem Jy7 (b:Nat)(k:Nat)(y:k<8):(Jd5 b)[k]?=some (.func (.func (Jej (k:Int))) #[.pointer (some ⟨b,0,none⟩)] #[]):=by
 match k,y with
 |0,_=>rfl
 |1,_=>rfl
 |2,_=>rfl
 |3,_=>rfl
 |4,_=>rfl
 |5,_=>rfl
 |6,_=>rfl
 |7,_=>rfl
 |k+8,h=>omega
def Jbu (b:Nat)(p:Nd):List Value:=[.int .i64 p.op,.int .i64 p.l,.int .i64 p.r,.string p.tn,.slice p.xs.1 p.xs.2.1 p.xs.2.2,.slice p.ky.1 p.ky.2.1 p.ky.2.2,.int .i64 p.kk,.func (.func (Jej p.op)) #[.pointer (some ⟨b,0,none⟩)] #[]]
theorem Jvj:(prog.info? 101).map (fun i=>(i.zero,i.size,i.bytes))=some (some (.agg #[.int .i64 0,.int .i64 0,.int .i64 0,.string ⟨#[]⟩,.slice none 0 0,.slice none 0 0,.int .i64 0,.nilFunc]),8,104):=by kernel_rfl
theorem Jxb (rb R no Z:Nat)(E:List Nd)(w:World)(bC:∀ j p,E[j]?=some p→Zm w R (no+j*7) p)(bN:∀ p∈E,0≤p.op∧p.op≤7)(hl:E.length≤1000) :
  Calls prog 33 #[.pointer (some ⟨rb,0,none⟩),.agg #[.slice (some ⟨R,no,none⟩) E.length Z]] w fun e w'=>Below w.heap.size w w'∧∃ sv,e=.returned sv∧w'.ownsRow w.heap.size 101 8 sv E.length (E.flatMap (Jbu rb)):=by
 have bB:Hid ((∀ j p,E[j]?=some p→Zm w R (no+j*7) p)∧∀ p∈E,0≤p.op∧p.op≤7):=⟨bC,bN⟩;clear bC bN;have cG:∀ (f:Nat) (a:Addr) (H:World),(store a (.func (.func f) #[.pointer (some ⟨rb,0,none⟩)] #[])).run prog H=stored prog H a (.func (.func f) #[.pointer (some ⟨rb,0,none⟩)] #[]) .plain:=fun f a H=>run_store _ _ _ _ _ rfl;have bK:=Juh rb (w.alloc (.cells #[.slice (some ⟨R,no,none⟩) E.length Z] 57));have bP:=heap_alloc_new w (.cells #[.slice (some ⟨R,no,none⟩) E.length Z] 57);have bD:Below w.heap.size w (w.alloc (.cells #[.slice (some ⟨R,no,none⟩) E.length Z] 57)):=Jc (Oa5 _ _) _;have bi:Hid (Below w.heap.size w (w.alloc (.cells #[.slice (some ⟨R,no,none⟩) E.length Z] 57))∧(w.alloc (.cells #[.slice (some ⟨R,no,none⟩) E.length Z] 57)).heap[w.heap.size]?=some (.cells #[.slice (some ⟨R,no,none⟩) E.length Z] 57 (0,0))):=⟨bD,bP⟩;clear bP bD;go_enter func33,ntmps33
 go_upto_region 2 with(go_at_call 52;refine bK.mono ?_;rintro e O ⟨rfl,bA⟩)
 have K:Below O.heap.size O (O.alloc (.cells (Jd5 rb) 141)):=Jc (Oa5 _ _) _;have bh:=heap_alloc_new O (.cells (Jd5 rb) 141);have bH:=Jb bi.out.1 (Jb bA K);have bQ:=(Jb bA K).block _ (Jd bi.out.2) |>.trans bi.out.2
 have X:Hid ((O.alloc (.cells (Jd5 rb) 141)).heap[O.heap.size]?=some (.cells (Jd5 rb) 141 (0,0))∧Below w.heap.size w (O.alloc (.cells (Jd5 rb) 141))):=⟨bh,bH⟩;have bR:(O.alloc (.cells (Jd5 rb) 141)).cell? ⟨w.heap.size,0,none⟩=some (.slice (some ⟨R,no,none⟩) E.length Z):=by simp only[World.cell?,bQ];rfl
 clear bK bA K bh bH bQ bi;obtain⟨kb,bh⟩:∃ kb,kb=O.heap.size:=⟨_,rfl⟩;rw[←bh]at X ⊢;clear bh;generalize O.alloc (.cells (Jd5 rb) 141)=U at X bR ⊢;go_wp2;go_loopw [6,14] (fun s i wr=>∃ k:Nat,k≤E.length∧i=.int .i64 (k:Int)∧Hid (wr.ownsRow U.heap.size 101 8 s k ((E.take k).flatMap (Jbu rb)))∧Below U.heap.size U wr) (fun _ i _=>E.length-(intOf i).toNat)
 case atStart=>exact⟨0,Ob7 _,rfl,⟨rfl,.inl ⟨rfl,rfl⟩⟩,Oa5 _ _⟩
 case round=>
  obtain⟨k,cE,rfl,ba,bf⟩:=hrel;have cH:=bf.size;clear bR;by_cases ch:k<E.length
  ·obtain⟨p,hp⟩:∃ p,E[k]?=some p:=⟨_,Oa3 ch⟩;obtain⟨bS,cy,cz,cA,cB,cC,cD⟩:=(bB.out.1 k p hp).below (Jb X.out.2 bf);have cj:=bB.out.2 p (Of6 hp);obtain⟨y,br⟩:∃ y:Nat,p.op=(y:Int):=⟨p.op.toNat,by omega⟩;have ci:y<8:=(by omega);have bJ:wr.cell? ⟨kb,y,none⟩=some (.func (.func (Jej p.op)) #[.pointer (some ⟨rb,0,none⟩)] #[]):=by
    have cb:=(bf.block _ (Jd X.out.1)).trans X.out.1;have:=Jy7 rb y ci;rw[←br]at this;rw[←this];simp only[World.cell?,cb];rfl
   obtain⟨f,hf⟩:∃ f,f=Jej p.op:=⟨_,rfl⟩;have bV:Hid (Jbu rb p=[.int .i64 (y:Int),.int .i64 p.l,.int .i64 p.r,.string p.tn,.slice p.xs.1 p.xs.2.1 p.xs.2.2,.slice p.ky.1 p.ky.2.1 p.ky.2.2,.int .i64 p.kk,.func (.func f) #[.pointer (some ⟨rb,0,none⟩)] #[]]):=by
    show _=_;unfold Jbu;rw[hf,br]
   rw[←hf]at bJ;rw[br]at bS;have bU:Hid (E[k]?=some p):=hp;have cI:(0:Int)≤(k:Int):=(by omega);have cJ:(k:Int)<(E.length:Int):=(by omega);have cK:(0:Int)≤(y:Int):=(by omega);have cM:(y:Int)<8:=(by omega);clear hf br hp cj;go_upto_region 6 with fail
   have bL:=heap_alloc_new wr (.cells #[.int .i64 (y:Int),.int .i64 p.l,.int .i64 p.r,.string p.tn,.slice p.xs.1 p.xs.2.1 p.xs.2.2,.slice p.ky.1 p.ky.2.1 p.ky.2.2,.int .i64 p.kk] 51);have cc:(wr.alloc (.cells #[.int .i64 (y:Int),.int .i64 p.l,.int .i64 p.r,.string p.tn,.slice p.xs.1 p.xs.2.1 p.xs.2.2,.slice p.ky.1 p.ky.2.1 p.ky.2.2,.int .i64 p.kk] 51)).drew.cell? ⟨kb,y,none⟩=some (.func (.func f) #[.pointer (some ⟨rb,0,none⟩)] #[]):=Jh (Kf bJ);obtain⟨cx,ca,cn,cu,cv⟩:=info_parts Jvj;refine wp_region_held_drew (S:=fun H=>H.cell? ⟨wr.heap.size,0,none⟩=some (.int .i64 (y:Int))∧H.cell? ⟨wr.heap.size,1,none⟩=some (.int .i64 p.l)∧H.cell? ⟨wr.heap.size,2,none⟩=some (.int .i64 p.r)∧H.cell? ⟨wr.heap.size,3,none⟩=some (.string p.tn)∧H.cell? ⟨wr.heap.size,4,none⟩=some (.slice p.xs.1 p.xs.2.1 p.xs.2.2)∧H.cell? ⟨wr.heap.size,5,none⟩=some (.slice p.ky.1 p.ky.2.1 p.ky.2.2)∧H.cell? ⟨wr.heap.size,6,none⟩=some (.int .i64 p.kk)∧H.cell? ⟨kb,y,none⟩=some (.func (.func f) #[.pointer (some ⟨rb,0,none⟩)] #[])) (by kernel_rfl) (by refine⟨?_,?_,?_,?_,?_,?_,?_,cc⟩<;>(unfold World.cell?;rw[heap_drew,bL];rfl)) (fun D=>?_);refine tkj 0 rfl D ?_;refine tkj 1 rfl D ?_;refine tkj 2 rfl D ?_;refine tkj 3 rfl D ?_;refine tkj 4 rfl D ?_;refine tkj 5 rfl D ?_;refine tkj 6 rfl D ?_;refine tkn ?_;clear bL bS cy cz cA cB cC cD;refine tkr 7 rfl fun bz bc=>?_;go_simp;have K:Below (wr.alloc (.cells #[.int .i64 (y:Int),.int .i64 p.l,.int .i64 p.r,.string p.tn,.slice p.xs.1 p.xs.2.1 p.xs.2.2,.slice p.ky.1 p.ky.2.1 p.ky.2.2,.int .i64 p.kk] 51)).drew.heap.size (wr.alloc (.cells #[.int .i64 (y:Int),.int .i64 p.l,.int .i64 p.r,.string p.tn,.slice p.xs.1 p.xs.2.1 p.xs.2.2,.slice p.ky.1 p.ky.2.1 p.ky.2.2,.int .i64 p.kk] 51)).drew (((wr.alloc (.cells #[.int .i64 (y:Int),.int .i64 p.l,.int .i64 p.r,.string p.tn,.slice p.xs.1 p.xs.2.1 p.xs.2.2,.slice p.ky.1 p.ky.2.1 p.ky.2.2,.int .i64 p.kk] 51)).alloc (.cells #[.int .i64 (y:Int),.int .i64 p.l,.int .i64 p.r,.string p.tn,.slice p.xs.1 p.xs.2.1 p.xs.2.2,.slice p.ky.1 p.ky.2.1 p.ky.2.2,.int .i64 p.kk,.func (.func f) #[.pointer (some ⟨rb,0,none⟩)] #[]] 101)).drew):=by
    have:=Jc (Oa5 _ (wr.alloc (.cells #[.int .i64 (y:Int),.int .i64 p.l,.int .i64 p.r,.string p.tn,.slice p.xs.1 p.xs.2.1 p.xs.2.2,.slice p.ky.1 p.ky.2.1 p.ky.2.2,.int .i64 p.kk] 51))) (.cells #[.int .i64 (y:Int),.int .i64 p.l,.int .i64 p.r,.string p.tn,.slice p.xs.1 p.xs.2.1 p.xs.2.2,.slice p.ky.1 p.ky.2.1 p.ky.2.2,.int .i64 p.kk,.func (.func f) #[.pointer (some ⟨rb,0,none⟩)] #[]] 101);exact⟨this.os,this.tape,this.output,this.size,this.block⟩
   refine bc.out _ _ ⟨Ja K D.1,Ja K D.2.1,Ja K D.2.2.1,Ja K D.2.2.2.1,Ja K D.2.2.2.2.1,Ja K D.2.2.2.2.2.1,Ja K D.2.2.2.2.2.2.1,Ja K D.2.2.2.2.2.2.2⟩ (fun D=>?_);clear bc bz;refine tkr 8 rfl fun bz bc=>?_;have bG:Below wr.heap.size wr (((wr.alloc (.cells #[.int .i64 (y:Int),.int .i64 p.l,.int .i64 p.r,.string p.tn,.slice p.xs.1 p.xs.2.1 p.xs.2.2,.slice p.ky.1 p.ky.2.1 p.ky.2.2,.int .i64 p.kk] 51)).alloc (.cells #[.int .i64 (y:Int),.int .i64 p.l,.int .i64 p.r,.string p.tn,.slice p.xs.1 p.xs.2.1 p.xs.2.2,.slice p.ky.1 p.ky.2.1 p.ky.2.2,.int .i64 p.kk,.func (.func f) #[.pointer (some ⟨rb,0,none⟩)] #[]] 101)).drew):=Jj (Jc (Jc (Oa5 _ _) _) _);have bO:(((wr.alloc (.cells #[.int .i64 (y:Int),.int .i64 p.l,.int .i64 p.r,.string p.tn,.slice p.xs.1 p.xs.2.1 p.xs.2.2,.slice p.ky.1 p.ky.2.1 p.ky.2.2,.int .i64 p.kk] 51)).alloc (.cells #[.int .i64 (y:Int),.int .i64 p.l,.int .i64 p.r,.string p.tn,.slice p.xs.1 p.xs.2.1 p.xs.2.2,.slice p.ky.1 p.ky.2.1 p.ky.2.2,.int .i64 p.kk,.func (.func f) #[.pointer (some ⟨rb,0,none⟩)] #[]] 101)).drew).ownsRow U.heap.size 101 8 u6 k ((E.take k).flatMap (Jbu rb)):=Jaw ba.out bG;have bE:(((wr.alloc (.cells #[.int .i64 (y:Int),.int .i64 p.l,.int .i64 p.r,.string p.tn,.slice p.xs.1 p.xs.2.1 p.xs.2.2,.slice p.ky.1 p.ky.2.1 p.ky.2.2,.int .i64 p.kk] 51)).alloc (.cells #[.int .i64 (y:Int),.int .i64 p.l,.int .i64 p.r,.string p.tn,.slice p.xs.1 p.xs.2.1 p.xs.2.2,.slice p.ky.1 p.ky.2.1 p.ky.2.2,.int .i64 p.kk,.func (.func f) #[.pointer (some ⟨rb,0,none⟩)] #[]] 101)).drew).heap[wr.heap.size+1]?=some (.cells #[.int .i64 (y:Int),.int .i64 p.l,.int .i64 p.r,.string p.tn,.slice p.xs.1 p.xs.2.1 p.xs.2.2,.slice p.ky.1 p.ky.2.1 p.ky.2.2,.int .i64 p.kk,.func (.func f) #[.pointer (some ⟨rb,0,none⟩)] #[]] 101 (0,0)):=by
    have:=heap_alloc_new (wr.alloc (.cells #[.int .i64 (y:Int),.int .i64 p.l,.int .i64 p.r,.string p.tn,.slice p.xs.1 p.xs.2.1 p.xs.2.2,.slice p.ky.1 p.ky.2.1 p.ky.2.2,.int .i64 p.kk] 51)) (.cells #[.int .i64 (y:Int),.int .i64 p.l,.int .i64 p.r,.string p.tn,.slice p.xs.1 p.xs.2.1 p.xs.2.2,.slice p.ky.1 p.ky.2.1 p.ky.2.2,.int .i64 p.kk,.func (.func f) #[.pointer (some ⟨rb,0,none⟩)] #[]] 101);rw[Oa7]at this;exact this
   refine step_append_lies (((wr.alloc (.cells #[.int .i64 (y:Int),.int .i64 p.l,.int .i64 p.r,.string p.tn,.slice p.xs.1 p.xs.2.1 p.xs.2.2,.slice p.ky.1 p.ky.2.1 p.ky.2.2,.int .i64 p.kk] 51)).alloc (.cells #[.int .i64 (y:Int),.int .i64 p.l,.int .i64 p.r,.string p.tn,.slice p.xs.1 p.xs.2.1 p.xs.2.2,.slice p.ky.1 p.ky.2.1 p.ky.2.2,.int .i64 p.kk,.func (.func f) #[.pointer (some ⟨rb,0,none⟩)] #[]] 101)).drew) rfl (.tmp 18) (.tmp 25) 97 rfl U.heap.size 101 cx (.agg #[.int .i64 0,.int .i64 0,.int .i64 0,.string ⟨#[]⟩,.slice none 0 0,.slice none 0 0,.int .i64 0,.nilFunc]) 8 104 underlying97 ca cn cu cv rfl (by decide) u6 k ((E.take k).flatMap (Jbu rb)) rfl bO ⟨wr.heap.size+1,0,none⟩ 1 1 [.int .i64 (y:Int),.int .i64 p.l,.int .i64 p.r,.string p.tn,.slice p.xs.1 p.xs.2.1 p.xs.2.2,.slice p.ky.1 p.ky.2.1 p.ky.2.2,.int .i64 p.kk,.func (.func f) #[.pointer (some ⟨rb,0,none⟩)] #[]] rfl rfl (fun j u bx=>World.news_of_block bE j u (by simpa using bx)) (fun u bx=>by simp at bx;rcases bx with rfl|rfl|rfl|rfl|rfl|rfl|rfl|rfl<;>rfl) (by decide) (by unfold maxLen;omega) (by omega) (by rw[heap_drew,Oa7,Oa7];omega) (wr.heap.size+2) (by rw[heap_drew,Oa7,Oa7]) (fun bX bW bj bM bn bY cf=>?_);have cN:=bn.size;have cF:kb<U.heap.size:=Jd X.out.1;have Y:∀ o:Nat,bj.cell? ⟨wr.heap.size,o,none⟩=(((wr.alloc (.cells #[.int .i64 (y:Int),.int .i64 p.l,.int .i64 p.r,.string p.tn,.slice p.xs.1 p.xs.2.1 p.xs.2.2,.slice p.ky.1 p.ky.2.1 p.ky.2.2,.int .i64 p.kk] 51)).alloc (.cells #[.int .i64 (y:Int),.int .i64 p.l,.int .i64 p.r,.string p.tn,.slice p.xs.1 p.xs.2.1 p.xs.2.2,.slice p.ky.1 p.ky.2.1 p.ky.2.2,.int .i64 p.kk,.func (.func f) #[.pointer (some ⟨rb,0,none⟩)] #[]] 101)).drew).cell? ⟨wr.heap.size,o,none⟩:=fun o=>by simp only[World.cell?,bn.block wr.heap.size (Jm D.1) (fun e=>by have:=Je ba.out e.symm;omega)]
   have bI:bj.cell? ⟨kb,y,none⟩=(((wr.alloc (.cells #[.int .i64 (y:Int),.int .i64 p.l,.int .i64 p.r,.string p.tn,.slice p.xs.1 p.xs.2.1 p.xs.2.2,.slice p.ky.1 p.ky.2.1 p.ky.2.2,.int .i64 p.kk] 51)).alloc (.cells #[.int .i64 (y:Int),.int .i64 p.l,.int .i64 p.r,.string p.tn,.slice p.xs.1 p.xs.2.1 p.xs.2.2,.slice p.ky.1 p.ky.2.1 p.ky.2.2,.int .i64 p.kk,.func (.func f) #[.pointer (some ⟨rb,0,none⟩)] #[]] 101)).drew).cell? ⟨kb,y,none⟩:=by simp only[World.cell?,bn.block kb (by rw[heap_drew,Oa7,Oa7];omega) (fun e=>by have:=Je ba.out e.symm;omega)]
   refine bc.out _ _ ⟨(Y 0).trans D.1,(Y 1).trans D.2.1,(Y 2).trans D.2.2.1,(Y 3).trans D.2.2.2.1,(Y 4).trans D.2.2.2.2.1,(Y 5).trans D.2.2.2.2.2.1,(Y 6).trans D.2.2.2.2.2.2.1,bI.trans D.2.2.2.2.2.2.2⟩ (fun D=>?_);clear bc bz Y bI;simp only[Act.put,List.getElem_toArray,List.getElem_cons_zero,List.getElem_cons_succ,Oa1,List.set_cons_zero,List.set_cons_succ];refine tkj 9 rfl D ?_;refine tkn ?_;refine wpAnyH_done (by kernel_rfl) ?_ _;have bT:Hid (bj.ownsRow U.heap.size 101 8 (.slice (some ⟨bX,0,none⟩) (k+1) bW) (k+1) ((E.take (k+1)).flatMap (Jbu rb))):=by
    show World.ownsRow _ _ _ _ _ _ _;rw[Oi7,bU.out,Oe8];show World.ownsRow _ _ _ _ _ _ ((E.take k).flatMap (Jbu rb)++(Jbu rb p++[]));rw[Od7,bV.out];exact bM
   have bZ:Below U.heap.size U bj:=Jy (Jb bf bG) bn fun g e=>(Je ba.out e).1;clear D bM bY cf bO bE;go_wp2;go_roundw
   case rel=>exact⟨k+1,by omega,by go_num,bT,bZ⟩
   case measure=>simp[intOf];omega
  obtain rfl:k=E.length:=by omega
  go_wp2;go_ret
  have:=ba.out;rw[Oc8 (Oa2 _)]at this;exact⟨Jb X.out.2 bf,_,rfl,Jgl this X.out.2.size⟩
end
section
open Go.RowKit Go.Shelf
attribute [local go_sem] Oc0
def Yf (e:List Pt)(cols:List (List V))(N:Nat):List Nat:=(List.range N).filter fun i=>decide ((pv1 e (Ji cols i)).n=1)
attribute [local go_sem] Oc0
end
section
open Go.RowKit Go.Shelf Tryz
attribute [local go_sem] Oc0
def Jbk (sch:List Int)(es:List Pt):Int:=(es.map (tyP sch)).getD (es.length-1) 0
theorem Kc6 (sch:List Int)(es:List Pt)(j k:Nat)(y:k<j):(es.map (tyP sch)).getD k 0=((es.take j).map (tyP sch)).getD k 0:=by
 rw[Oa0,Oa0,Ob1,Ob1,Oe7,if_pos y]
structure TyS (w:World) (cv ev:Value) (sch:List Int) (es:List Pt) (j:Nat) (wr:World):Prop where
 ty:Jg6 wr w.heap.size cv ev
 own:Jo wr (w.heap.size+1) 3 ev (((es.take j).map (tyP sch)).map iv)
 low:Below w.heap.size w wr
theorem TyS.below {w:World}{D ev:Value}{sch:List Int}{es:List Pt}{j:Nat}{wr W:World}(h:TyS w D ev sch es j wr)(y:Below wr.heap.size wr W):TyS w D ev sch es j W:=
 ⟨(y.block _ (Jd h.ty)).trans h.ty,Jl h.own fun g e=>y.block g (Je h.own e).2,Jb h.low y⟩
theorem TyS.more {w:World}{y ev ev':Value}{sch:List Int}{es:List Pt}{j:Nat}{wr w4:World}(h:TyS w y ev sch es j wr){p:Pt}(hp:es[j]?=some p)(H:Jo w4 (w.heap.size+1) 3 ev' (((es.take j).map (tyP sch)).map iv++[iv (tyP sch p)]))(E:wr.grownBy w4 ev.ownBlock) :
  TyS w y ev' sch es (j+1) (w4.setCell ⟨w.heap.size,1,none⟩ ev')∧Jg6 w4 w.heap.size y ev:=by
 have U:ev.ownBlock≠some w.heap.size:=fun e=>by have:=(Je h.own e).1;omega
 have D:Jg6 w4 w.heap.size y ev:=(E.block _ (Jd h.ty) (Oc5 U)).trans h.ty;obtain⟨O,X⟩:=Ob9.1 hp;have hs:=Jk D 1 ev';simp only[Oa1,List.set_cons_zero,List.set_cons_succ]at hs;refine⟨⟨hs,?_,?_⟩,D⟩
 ·rw[Oc4 O,X,Ob8,Ob8];exact Jl H fun g K=>Oa4 _ _ _ _ (by have:=(Je H K).1;simp;omega)
 exact(Jy h.low E fun k R=>by have:=(Je h.own R).1;omega).setCell (p:=⟨w.heap.size,1,none⟩) (by simp) _
theorem Jts (pb br cb:Nat)(es:List Pt)(E:Option Addr)(O:Nat)(sch:List Int)(w:World)
  (bD:∀ k p,es[k]?=some p→Qi w pb (br+k*7) p) (hC:Kc w E sch) (bO:Uj sch es) (cu:1≤es.length) (cv:es.length≤12) :
  Calls prog 129 #[.slice (some ⟨pb,br,none⟩) es.length cb,.slice E sch.length O] w fun e w'=>e=.returned (.tuple #[.int .i64 (Jbk sch es),.nilIface])∧Below w.heap.size w w':=by
 have ba:Hid ((∀ k p,es[k]?=some p→Qi w pb (br+k*7) p)∧Kc w E sch∧Uj sch es):=⟨bD,hC,bO⟩;clear bD hC bO;go_enter func129,ntmps129
 go_upto_region 4 with fail
 have bf:TyS w (.slice E sch.length O) (.slice none 0 0) sch es 0 (w.alloc (.cells #[.slice E sch.length O,.slice none 0 0] 330)):=⟨heap_alloc_new w _,Jo.nil _ _ _,Jc (Oa5 _ _) _⟩;generalize w.alloc (.cells #[.slice E sch.length O,.slice none 0 0] 330)=cf at bf ⊢;have bU:Hid _:=bf;clear bf;go_wp2;go_loopw [28] (fun i wr=>∃ (j:Nat) (ev:Value),j≤es.length∧i=.int .i64 (j:Int)∧TyS w (.slice E sch.length O) ev sch es j wr) (fun i _=>es.length-(intOf i).toNat)
 case atStart=>exact⟨0,_,Ob7 _,rfl,bU.out⟩
 case round=>
  obtain⟨j,ev,bi,rfl,H⟩:=hrel;have bx:Hid _:=H;obtain⟨bV,bC,bI,R⟩:=H.own.cells;rw[Oa6,Oa6,Oc7,Oj1 bi]at bI;subst bI;by_cases bj:j<es.length
  ·obtain⟨p,hp⟩:∃ p,es[j]?=some p:=⟨_,Oa3 bj⟩;obtain⟨cC,cD,cE,cF,cG,cH,cI⟩:=(ba.out.1 j p hp).below H.low;have bL:=ba.out.2.2 j p hp;have Y:((es.take j).map (tyP sch)).length=j:=by rw[Oa6,Oc7,Oj1 bi]
   have Z:Below wr.heap.size wr (Zj wr p):=Jc (Oa5 _ _) _;have bh:=H.below Z;have bG:=Ke5 w.heap.size E O sch bV bC ((es.take j).map (tyP sch)) (es.map (tyP sch)) p (Zj wr p) (by rw[Y];exact bh.ty) (ba.out.2.1.below bh.low) (Uh.below R Z) (fun k bJ=>Kc6 sch es j k (by rw[Y]at bJ;exact bJ)) (by rw[Y];exact bL);have U:Hid (es[j]?=some p∧j<es.length):=⟨hp,bj⟩;have bS:Hid (Below wr.heap.size wr (Zj wr p)):=Z;obtain⟨D,K⟩:∃ D,D=tyP sch p:=⟨_,rfl⟩;rw[←K]at bG;have bc:Hid (D=tyP sch p):=K;clear H bh Z R Y bL hp K;go_wp2_with (first|(go_at_call 171;refine bG.mono ?_;rintro cj bz ⟨rfl,bX⟩;have X:Hid _:=bx.out.below (Jb bS.out bX);obtain⟨_,c1⟩:=X.out.ty.cells)|(at_builtin;go_must (refine Ks (by rfl) _ _ 22 3 _ 8 Zw (by rfl) (by decide) (by kernel_rfl) (by rfl) (w.heap.size+1) _ _ (by rfl) (Jo.alloc X.out.own _) ⟨bz.heap.size,0,none⟩ 1 [iv D] (by rfl) (by exact Ua bz _ _) (by intro u bP;simp at bP;subst bP;rfl) (by simp only[List.length_cons,List.length_nil,Oa6,Oc7];omega) (by simp;have:=Jd X.out.ty;omega) ?_);intro sv' w4 bR cc cB;go_must (obtain⟨bW,bE⟩:=(X.out.below (Jc (Oa5 _ _) _)).more (ev':=sv') (w4:=w4) U.out.1 (by rw[←bc.out];exact bR) cc);obtain⟨ch,c5,bM,_⟩:=bR.cells;obtain⟨bQ,bK⟩:∃ bQ,bQ=(((es.take j).map (tyP sch)).map iv++[iv D]).length:=⟨_,rfl⟩;rw[←bK]at bM;clear bK;subst bM;obtain⟨_,ci⟩:=bE.cells;have cn:w4.frozen? ⟨w.heap.size,1,none⟩=false:=(by simp[World.frozen?,show w4.heap[w.heap.size]?=_ from bE])))
   go_roundw
   case rel=>exact⟨j+1,_,U.out.2,by have:=U.out.2;go_num,bW⟩
   case measure=>have:=U.out.2;simp[intOf];omega
  obtain rfl:j=es.length:=by omega
  rw[Of2]at R;obtain⟨m,bZ⟩:∃ m,es.length=m+1:=⟨es.length-1,by omega⟩;have bn:m<(es.map (tyP sch)).length:=by rw[Oa6];omega
  obtain⟨bB,eo,rfl,bY,bH⟩:=Kc.at R bn;obtain⟨D,K⟩:∃ D,D=Jbk sch es:=⟨_,rfl⟩;have bN:(es.map (tyP sch))[m]=D:=by
   rw[K];unfold Jbk;rw[show es.length-1=m by omega,Oa0,Oa3 bn];rfl
  rw[bN]at bH;have bc:Hid (Jbk sch es=D):=K.symm;obtain⟨_,c1⟩:=H.ty.cells;have ca:IntKind.i64.wrap ((es.length:Int)-1)=(m:Int):=by rw[Od4];omega
  obtain⟨n,hn⟩:∃ n,n=es.length:=⟨_,rfl⟩;rw[←hn]at c1 ca ⊢;have cz:(0:Int)≤(m:Int):=by omega
  have cA:(m:Int)<(n:Int):=by omega
  have cx:m≤11:=by omega
  have cy:n≤12:=by omega
  have bT:Hid (Below w.heap.size w wr):=H.low;clear bN K bn bZ R H bx bj bi bY hn;go_upto_region 12 with fail
  refine wp_region_held_drew (S:=fun bA=>bA.cell? ⟨w.heap.size,1,none⟩=some (.slice (some ⟨bB,eo,none⟩) n bC)∧bA.cell? ⟨bB,eo+m,none⟩=some (.int .i64 D)) (by kernel_rfl) ⟨Jh c1,Jh bH⟩ (fun y=>?_);refine tkj 0 rfl y ?_;refine tkj 1 rfl y ?_;refine tkj 2 rfl y ?_;refine tkj 3 rfl y ?_;refine tkj 4 rfl y ?_;refine tkj 5 rfl y ?_;refine tkj 6 rfl y ?_;refine tkj 7 rfl y ?_;refine tkj 8 rfl y ?_;refine tkj 9 rfl y ?_;refine tkj 10 rfl y ?_;refine tkj 11 rfl y ?_;refine tkj 12 rfl y ?_;refine tkj 13 rfl y ?_;refine tkn ?_;refine wpAnyH_done (by kernel_rfl) ?_ _;go_wp2;exact bodyPost_ret (v:=.tuple #[.int .i64 D,.nilIface]) (by simp[results,results129,go_sem]) rfl ⟨by rw[bc.out],Jj bT.out⟩
attribute [local go_sem] Oc0
theorem Kbe (n:ByteArray)(w:World)(G:Nat→Prop)(s d:Nat)(Ts:List TS)(sv:Value)(bs:List Nat)(h:Jfl w G s d Ts sv bs)(k:Nat)(U:Ub Ts n=k)(X:k<Ts.length)(D:Ts[k].types≠[])(hl:Ts[k].types.length≤1000) :
  Calls prog 31 #[.pointer (some ⟨s,0,none⟩),.string n] w fun e w'=>Below w.heap.size w w'∧∃ g c,e=.returned (.tuple #[.slice (some ⟨g,0,none⟩) Ts[k].types.length c,.bool true])∧w.heap.size≤g∧g<w'.heap.size∧Kc w' (some ⟨g,0,none⟩) Ts[k].types:=by
 have hf:=Jo8 n w G s d Ts sv bs h;have R:Jhc Ts n=(k:Int):=by unfold Jhc;rw[U,if_pos X]
 rw[R]at hf;obtain⟨b,o,Y,c2,E⟩:=h.at X;obtain⟨_,c1⟩:=h.field;obtain⟨a,cap,Z,_⟩:=h.own.cells;rw[Oa6,h.len]at Z;subst Z;simp at Y;subst Y;have bG:=h.few;generalize bs[k]'_=tk at c2 E;generalize Ts[k]=T at E D hl ⊢;obtain⟨bA,ba,bJ,bK,hs,K⟩:=E;have H:=K.types;have c3:w.cell? ⟨tk,1,none⟩=some (.slice bA T.types.length ba):=by simp[World.cell?,K.cells]
 obtain⟨b2,bz,rfl,_,_⟩:=Kc.at H (i:=0) (Oi9.2 D);have O:=fun W (bi:Below w.heap.size w W)=>Jhe b2 bz ba T.types W D hl (H.below bi);have bH:(0:Int)≤(k:Int):=by omega
 have bI:(k:Int)<(Ts.length:Int):=by omega
 have bc:Hid _:=O;clear K H U R h O;go_enter func31,ntmps31
 go_wp2_with (first|(go_at_call 44;refine hf.mono ?_;rintro e bf ⟨rfl,y⟩;have bC:=Ja y c1;have bD:=Ja y c2;have bE:=Ja y c3)|(go_at_call 48;refine(bc.out bf y).mono ?_;rintro e bB ⟨bj,g,bh,rfl,bn,br,bx⟩))
 go_ret2
 exact⟨Jb y bj,g,bh,rfl,Ob2 y.size bn,br,bx⟩
abbrev Sch:=Option Addr×Nat×List Int
abbrev Jbl (s:Sch):Value:=.slice s.1 s.2.2.length s.2.1
abbrev Kn:=Sch×Bool
def knC (k:Kn):List Value:=[Jbl k.1,.bool k.2]
theorem Jx7 (k:Kn):(knC k).length=2:=rfl
structure Jed (L cb:Nat) (tf ev:Value) (ks:List Kn) (W:World):Prop where
 ck:W.heap[cb]?=some (.cells #[tf,ev] 134 (0,0))
 own:W.ownsRow L 138 2 ev ks.length (ks.flatMap knC)
 ints:∀ k∈ks,Kc W k.1.1 k.1.2.2
 off:∀ k∈ks,∀ g o,k.1.1=some ⟨g,o,none⟩→ev.ownBlock≠some g∧g≠cb∧g<W.heap.size
 low:cb<L
theorem Jed.below {L H:Nat}{K ev:Value}{ks:List Kn}{W E:World}(h:Jed L H K ev ks W)(D:Below W.heap.size W E):Jed L H K ev ks E:=
 ⟨(D.block _ (Jd h.ck)).trans h.ck,Jl h.own fun g e=>D.block g (Je h.own e).2,fun k y=>(h.ints k y).below D,fun k y g o e=>⟨(h.off k y g o e).1,(h.off k y g o e).2.1,Oc2 (h.off k y g o e).2.2 D.size⟩,h.low⟩
theorem Jed.cells {L y:Nat}{D ev:Value}{ks:List Kn}{W:World}(h:Jed L y D ev ks W):W.cell? ⟨y,0,none⟩=some D∧W.cell? ⟨y,1,none⟩=some ev:=by
 have:=h.ck;constructor<;>simp[World.cell?,this]
theorem Jed.at {L H:Nat}{bj ev:Value}{ks:List Kn}{W:World}(h:Jed L H bj ev ks W){i:Nat}(hi:i<ks.length) :
  ∃ g cap,ev=.slice (some ⟨g,0,none⟩) ks.length cap∧g≠H∧g<W.heap.size∧W.cell? ⟨g,i*2,none⟩=some (Jbl ks[i].1)∧W.cell? ⟨g,i*2+1,none⟩=some (.bool ks[i].2)∧W.frozen? ⟨g,i*2+1,none⟩=false ∧
   (∀ b,Jed L H bj ev (ks.set i (ks[i].1,b)) (W.setCell ⟨g,i*2+1,none⟩ (.bool b))):=by
 have hl:=h.low;rcases h.own with⟨h0,⟨K,Y⟩|⟨g,cap,X,K,Y,E,bz,bA,bB,Z⟩⟩
 ·omega
 have bc:∀ j,j<2→X[i*2+j]?=(knC ks[i])[j]?:=fun j bD=>by
  have:=Jek knC 2 Jx7 ks i j ks[i] (Oa3 hi) bD;rw[←Z,Oe7,if_pos (by omega),Oe6]at this;exact this
 refine⟨g,cap,K,by omega,Jd E,?_,?_,?_,fun b=>?_⟩
 ·have:=bc 0 (by omega);simp[World.cell?,E];simpa [knC] using this
 ·have:=bc 1 (by omega);simp[World.cell?,E];simpa [knC] using this
 ·simp[World.frozen?,E]
 have hs:=Jk E (i*2+1) (.bool b);have bi:∀ k,k≠g→(W.setCell ⟨g,i*2+1,none⟩ (.bool b)).heap[k]?=W.heap[k]?:=fun k y=>Oa4 _ _ _ _ y;have bf:∀ k∈ks.set i (ks[i].1,b),∃ D∈ks,k.1=D.1:=fun k y=>by
  rcases List.mem_or_eq_of_mem_set y with h|h
  ·exact⟨k,h,rfl⟩
  exact⟨ks[i],Ob3 hi,by rw[h]⟩
 have bE:ev.ownBlock=some g:=by rw[K];rfl
 have ba:(ks.set i (ks[i].1,b)).flatMap knC=(ks.flatMap knC).set (i*2+1) (.bool b):=by
  have br:ks=ks.take i++ks[i]::ks.drop (i+1):=by rw[←Oi1 hi,Ok3]
  have R:ks.set i (ks[i].1,b)=ks.take i++(ks[i].1,b)::ks.drop (i+1):=by
   rw[On0,if_pos hi]
  have bh:((ks.take i).flatMap knC).length=i*2:=by rw[Kci knC 2 Jx7,Oc7,Oj1 (by omega)]
  rw[R,Oe8,Og7];conv=>rhs;rw[br,Oe8,Og7]
  rw[Ok4 _ _ (by rw[bh];omega),bh,show i*2+1-i*2=1 by omega];rfl
 refine⟨(bi H (by omega)).trans h.ck,⟨?_,.inr ⟨g,cap,X.setIfInBounds (i*2+1) (.bool b),?_,Y,hs,?_,bA,?_,?_⟩⟩,fun k y=>?_,fun k y bx o e=>?_,hl⟩
 ·rw[ba,Of8,Of8];exact h0
 ·rw[Of8];exact K
 ·rw[Of8];exact bz
 ·simpa using bB
 ·rw[ba,←Z,Of8,Ok0,List.take_set]
 ·obtain⟨D,O,e⟩:=bf k y;rw[e];exact(h.ints D O).of_block (by simp[World.setCell]) fun U bG bn _=>bi U fun bC=>(h.off D O U bG bn).1 (by rw[bE,bC])
 obtain⟨D,O,R⟩:=bf k y;rw[R]at e;have:=h.off D O bx o e;exact⟨this.1,this.2.1,by simpa [World.setCell] using this.2.2⟩
theorem Jr1 (L y:Nat)(K ev:Value)(ks:List Kn)(i:Nat)(W:World)(h:Jed L y K ev ks W)(hi:i<ks.length)(hn:ks[i].2=false) :
  Calls prog 128 #[.pointer (some ⟨y,0,none⟩),.int .i64 (i:Int)] W fun e E=>e=.returned (.tuple #[Jbl ks[i].1,.nilIface])∧Jed L y K ev (ks.set i (ks[i].1,true)) E∧W.grownBy E ev.ownBlock∧E.heap.size=W.heap.size:=by
 obtain⟨g,cap,rfl,R,X,O,z1,z2,D⟩:=h.at hi;obtain⟨_,c1⟩:=h.cells;have D:=D true;have H:Hid _:=D;have Y:(W.setCell ⟨g,i*2+1,none⟩ (.bool true)).cell? ⟨y,1,none⟩=some (.slice (some ⟨g,0,none⟩) ks.length cap):=Uc (fun e=>R (congrArg Addr.block e)) c1;have U:(W.setCell ⟨g,i*2+1,none⟩ (.bool true)).cell? ⟨g,i*2,none⟩=some (Jbl ks[i].1):=Uc (fun e=>by have:=congrArg Addr.off e;simp at this) O;generalize ks[i].1=s at O U H ⊢;rw[hn]at z1;have Z:(0:Int)≤(i:Int):=by omega
 have ba:(i:Int)<(ks.length:Int):=by omega
 clear D hn h;go_enter func128,ntmps128
 go_wp2;exact bodyPost_ret (v:=.tuple #[Jbl s,.nilIface]) (by simp[results,results128,go_sem]) rfl ⟨rfl,H.out,Ka4 ⟨rfl,rfl,rfl,Oa2 _,fun _ _ _=>rfl⟩ _ _,by simp[World.setCell]⟩
attribute [local go_sem] Oc0
def Jq3 (L D:Nat)(H ev:Value)(E:List Kn)(sch:List Int)(W:World):Ending→World→Prop:=fun e y=>
 ∃ (a:Option Addr) (c:Nat),e=.returned (.tuple #[Jbl (a,c,sch),.nilIface])∧Jed L D H ev E y∧W.grownBy y ev.ownBlock∧Kc y a sch∧∀ g o,a=some ⟨g,o,none⟩→ev.ownBlock≠some g∧g≠D∧g<y.heap.size∧(W.heap.size≤g∨∃ k∈E,k.1.1=some ⟨g,o,none⟩)
abbrev Jam (w:World)(nd:Nd):World:=(w.alloc (.cells #[.int .i64 nd.op,.int .i64 nd.l,.int .i64 nd.r,.string nd.tn,.slice nd.xs.1 nd.xs.2.1 nd.xs.2.2,.slice nd.ky.1 nd.ky.2.1 nd.ky.2.2,.int .i64 nd.kk] 51))
theorem Jh0 (w:World)(nd:Nd):Zm (Jam w nd) w.heap.size 0 nd:=by
 have:=heap_alloc_new w (.cells #[.int .i64 nd.op,.int .i64 nd.l,.int .i64 nd.r,.string nd.tn,.slice nd.xs.1 nd.xs.2.1 nd.xs.2.2,.slice nd.ky.1 nd.ky.2.1 nd.ky.2.2,.int .i64 nd.kk] 51);refine⟨?_,?_,?_,?_,?_,?_,?_⟩<;>(unfold World.cell?;rw[this];rfl)
theorem Kc7 (L E s:Nat)(ev:Value)(ks:List Kn)(nd:Nd)(sch:List Int)(w:World)(h:Jed L E (.func (.func 31) #[.pointer (some ⟨s,0,none⟩)] #[]) ev ks w)
  (Y:∀ D,Below w.heap.size w D→Calls prog 31 #[.pointer (some ⟨s,0,none⟩),.string nd.tn] D fun e w'=>Below D.heap.size D w'∧∃ g c,e=.returned (.tuple #[.slice (some ⟨g,0,none⟩) sch.length c,.bool true])∧D.heap.size≤g∧g<w'.heap.size∧Kc w' (some ⟨g,0,none⟩) sch) :
  Calls prog 95 #[.pointer (some ⟨E,0,none⟩),nd.val] w (Jq3 L E (.func (.func 31) #[.pointer (some ⟨s,0,none⟩)] #[]) ev ks sch w):=by
 have Z:Hid _:=Y;have H:Hid _:=h;obtain⟨c0,_⟩:=h.cells;have U:Below w.heap.size w (Jam w nd):=Jc (Oa5 _ _) _;obtain⟨_,_,_,b3,_,_,_⟩:=Jh0 w nd;clear h Y;go_enter func95,ntmps95
 go_upto_region 1 with fail
 refine wp_region_held_drew (S:=fun D=>D.cell? ⟨E,0,none⟩=some (.func (.func 31) #[.pointer (some ⟨s,0,none⟩)] #[])∧D.cell? ⟨w.heap.size,3,none⟩=some (.string nd.tn)) (by kernel_rfl) ⟨Jh (Kf c0),Jh b3⟩ (fun y=>?_);refine tkj 0 rfl y ?_;refine tkj 1 rfl y ?_;refine tkj 2 rfl y ?_;refine tkj 3 rfl y ?_;refine tkj 4 rfl y ?_;refine tkj 5 rfl y ?_;refine tkn ?_;refine tkr 6 rfl fun ba R=>?_;go_simp;refine(Z.out (Jam w nd).drew (Jj U)).mono ?_;rintro e bc ⟨K,g,O,rfl,bf,bh,bi⟩;go_simp;refine R.out _ _ ⟨Ja K y.1,Ja K y.2⟩ (fun y=>?_);clear R ba;refine tkj 7 rfl y ?_;refine tkj 8 rfl y ?_;refine tkj 9 rfl y ?_;refine tkj 10 rfl y ?_;refine tkj 11 rfl y ?_;refine tkn ?_;refine wpAnyH_done (by kernel_rfl) ?_ _;have X:Below w.heap.size w bc:=Jb (Jj U) K;have bj:w.heap.size<g:=by have:(Jam w nd).drew.heap.size=w.heap.size+1:=(by simp[World.drew]);omega
 clear bf;go_wp2;refine bodyPost_ret (v:=.tuple #[Jbl (some ⟨g,0,none⟩,O,sch),.nilIface]) (by simp[results,results95,go_sem]) rfl ⟨some ⟨g,0,none⟩,O,rfl,H.out.below X,Qq X,bi,fun bn o e=>?_⟩;cases e
 exact⟨fun e=>by have:=(Je H.out.own e).2;omega,by have:=Jd H.out.ck;omega,bh,.inl (Nat.le_of_lt bj)⟩
def Jm5 (op:Int):Nat:=if op=0 then 95 else if op=1 then 96 else if op=2 then 97 else if op=3 then 98 else if op=4 then 99 else if op=5 then 100 else if op=6 then 101 else 102
abbrev Jwq (y:Nat):Array Value:=#[.func (.func 95) #[.pointer (some ⟨y,0,none⟩)] #[],.func (.func 96) #[.pointer (some ⟨y,0,none⟩)] #[],.func (.func 97) #[.pointer (some ⟨y,0,none⟩)] #[],.func (.func 98) #[.pointer (some ⟨y,0,none⟩)] #[],.func (.func 99) #[.pointer (some ⟨y,0,none⟩)] #[],.func (.func 100) #[.pointer (some ⟨y,0,none⟩)] #[],.func (.func 101) #[.pointer (some ⟨y,0,none⟩)] #[],.func (.func 102) #[.pointer (some ⟨y,0,none⟩)] #[]]
theorem Jvy (op:Int)(args:Array Value)(W:World):(callFunc (Jm5 op) args).run prog W=.ok (.enter (Jm5 op) args) W:=by
 unfold Jm5;repeat' split
 all_goals kernel_rfl
theorem Kgg (y n:Nat)(D:n<8):(Jwq y)[n]?=some (.func (.func (Jm5 (n:Int))) #[.pointer (some ⟨y,0,none⟩)] #[]):=by
 have:n=0∨n=1∨n=2∨n=3∨n=4∨n=5∨n=6∨n=7:=by omega
 rcases this with rfl|rfl|rfl|rfl|rfl|rfl|rfl|rfl<;>rfl
theorem Jxd (y:Nat)(w:World):Calls prog 68 #[.pointer (some ⟨y,0,none⟩)] w fun e w'=>e=.returned (.agg (Jwq y))∧Below w.heap.size w w':=by
 have D:∀ (f:Nat) (a:Addr) (W:World),(store a (.func (.func f) #[.pointer (some ⟨y,0,none⟩)] #[])).run prog W=stored prog W a (.func (.func f) #[.pointer (some ⟨y,0,none⟩)] #[]) .plain:=fun f a W=>run_store _ _ _ _ _ rfl;go_enter func68,ntmps68
 go_wp2;exact bodyPost_ret (v:=.agg (Jwq y)) (by simp[results,results68,go_sem]) rfl ⟨rfl,(by repeat (first|exact Oa5 _ _|refine Jc ?_ _|refine Jj ?_))⟩
theorem Kbz (E:Nat)(nd:Nd)(w:World)(Q:World→Value→World→Prop)(h0:0≤nd.op)(bM:nd.op≤7)
  (bz:∀ y,Below w.heap.size w y→Calls prog (Jm5 nd.op) #[.pointer (some ⟨E,0,none⟩),nd.val] y fun e w'=>∃ a b,e=.returned (.tuple #[a,b])∧Q y (.tuple #[a,b]) w'∧y.heap.size≤w'.heap.size∧∀ k,w.heap.size≤k→k<y.heap.size→w'.heap[k]?=y.heap[k]?) :
  Calls prog 49 #[.pointer (some ⟨E,0,none⟩),nd.val] w fun e w'=>∃ y,Below w.heap.size w y∧∃ v,e=.returned v∧Q y v w':=by
 have Y:Hid _:=bz;clear bz;obtain⟨n,hn⟩:∃ n:Nat,nd.op=(n:Int):=⟨nd.op.toNat,by omega⟩;have bQ:n<8:=by omega
 have bH:Hid (nd.op=(n:Int)):=hn;clear hn h0 bM;have bR:∀ (f:Nat) (a:Addr) (y:World),(store a (.func (.func f) #[.pointer (some ⟨E,0,none⟩)] #[])).run prog y=stored prog y a (.func (.func f) #[.pointer (some ⟨E,0,none⟩)] #[]) .plain:=fun f a y=>run_store _ _ _ _ _ rfl;have bi:Below w.heap.size w (Jam w nd):=Jc (Oa5 _ _) _;have bA:=Jh0 w nd;have bx:=Jxd E (Jam w nd);go_enter func49,ntmps49
 go_upto_region 2 with(go_at_call 68;refine bx.mono ?_;rintro e H ⟨rfl,X⟩)
 have hn:=bH.out;have Z:Below H.heap.size H (H.alloc (.cells (Jwq E) 174)):=Jc (Oa5 _ _) _;have U:=heap_alloc_new H (.cells (Jwq E) 174);have bB:=(bA.below X).below Z;have ba:Below w.heap.size w (H.alloc (.cells (Jwq E) 174)):=Jb (Jb bi X) Z;have bj:w.heap.size<H.heap.size:=Oc2 (by simp) X.size;obtain⟨kb,bn⟩:∃ kb,kb=H.heap.size:=⟨_,rfl⟩;rw[←bn]at U bj ⊢;clear bn;generalize H.alloc (.cells (Jwq E) 174)=O at U bB ba ⊢;obtain⟨bc,z1,z2,bC,bD,bE,bG⟩:=bB;simp only[Od0]at z1 z2 bC bD bE bG;rw[hn]at bc;have br:O.cell? ⟨kb,n,none⟩=some (.func (.func (Jm5 nd.op)) #[.pointer (some ⟨E,0,none⟩)] #[]):=by
  have:=Kgg E n bQ;rw[←hn]at this;rw[←this];simp only[World.cell?,U];rfl
 have bO:=Jvy nd.op;obtain⟨f,hf⟩:∃ f,f=Jm5 nd.op:=⟨_,rfl⟩;rw[←hf]at br bO Y;rw[Nd.val,hn]at Y;have bV:(0:Int)≤(n:Int):=by omega
 have bW:(n:Int)<8:=by omega
 have bP:kb<O.heap.size:=Jd U;have R:w.heap.size<O.heap.size:=by have:=Jm bc;exact this
 clear hf hn Z X bx bA U bi bR H;go_upto_region 4 with fail
 refine wp_region_held_drew (S:=fun y=>y.cell? ⟨w.heap.size,0,none⟩=some (.int .i64 (n:Int))∧y.cell? ⟨w.heap.size,1,none⟩=some (.int .i64 nd.l)∧y.cell? ⟨w.heap.size,2,none⟩=some (.int .i64 nd.r)∧y.cell? ⟨w.heap.size,3,none⟩=some (.string nd.tn)∧y.cell? ⟨w.heap.size,4,none⟩=some (.slice nd.xs.1 nd.xs.2.1 nd.xs.2.2)∧y.cell? ⟨w.heap.size,5,none⟩=some (.slice nd.ky.1 nd.ky.2.1 nd.ky.2.2)∧y.cell? ⟨w.heap.size,6,none⟩=some (.int .i64 nd.kk)∧y.cell? ⟨kb,n,none⟩=some (.func (.func f) #[.pointer (some ⟨E,0,none⟩)] #[])) (by kernel_rfl) ⟨Jh bc,Jh z1,Jh z2,Jh bC,Jh bD,Jh bE,Jh bG,Jh br⟩ (fun D=>?_);refine tkj 0 rfl D ?_;refine tkj 1 rfl D ?_;refine tkj 2 rfl D ?_;refine tkj 3 rfl D ?_;refine tkj 4 rfl D ?_;refine tkn ?_;refine tkr 5 rfl fun bI bh=>?_;go_simp;refine(Y.out O.drew (Jj ba)).mono ?_;rintro e bf ⟨bT,rb,rfl,bN,bU,bS⟩;have K:∀ (g o:Nat) (u:Value),w.heap.size≤g→g<O.heap.size→O.drew.cell? ⟨g,o,none⟩=some u→bf.cell? ⟨g,o,none⟩=some u:=fun g o u bJ bK bL=>by
  rw[←bL];unfold World.cell?;rw[show bf.heap[(⟨g,o,none⟩:Addr).block]?=O.drew.heap[(⟨g,o,none⟩:Addr).block]? from bS g bJ bK]
 go_simp;refine bh.out _ _ ⟨K _ _ _ (Oa2 _) R D.1,K _ _ _ (Oa2 _) R D.2.1,K _ _ _ (Oa2 _) R D.2.2.1,K _ _ _ (Oa2 _) R D.2.2.2.1,K _ _ _ (Oa2 _) R D.2.2.2.2.1,K _ _ _ (Oa2 _) R D.2.2.2.2.2.1,K _ _ _ (Oa2 _) R D.2.2.2.2.2.2.1,K _ _ _ (Nat.le_of_lt bj) bP D.2.2.2.2.2.2.2⟩ (fun D=>?_);clear bh bI;refine tkj 6 rfl D ?_;refine tkj 7 rfl D ?_;refine tkj 8 rfl D ?_;refine tkj 9 rfl D ?_;refine tkn ?_;refine wpAnyH_done (by kernel_rfl) ?_ _;go_wp2;exact bodyPost_ret (v:=.tuple #[bT,rb]) (by simp[results,results49,go_sem]) rfl ⟨_,Jj ba,_,rfl,bN⟩
attribute [local go_sem] Oc0
theorem Jmi {w W:World}{r:Option Nat}{g o:Nat}{nd:Nd}(h:Zm w g o nd)(E:w.grownBy W r)(hr:r≠some g):Zm W g o nd:=by
 have y:∀ o v,w.cell? ⟨g,o,none⟩=some v→W.cell? ⟨g,o,none⟩=some v:=fun o v D=>by
  rw[←D];unfold World.cell?;rw[show W.heap[(⟨g,o,none⟩:Addr).block]?=w.heap[(⟨g,o,none⟩:Addr).block]? from E.block g (by have:=Jm D;exact this) (Oc5 hr)]
 exact⟨y _ _ h.1,y _ _ h.2.1,y _ _ h.2.2.1,y _ _ h.2.2.2.1,y _ _ h.2.2.2.2.1,y _ _ h.2.2.2.2.2.1,y _ _ h.2.2.2.2.2.2⟩
theorem Jsy (L U:Nat)(br ev:Value)(ks:List Kn)(nd:Nd)(i:Nat)(y:List (List Pt))(bi eo bP:Nat)(w:World)(h:Jed L U br ev ks w)(hl:nd.l=(i:Int))(hi:i<ks.length)(hn:ks[i].2=false)(bY:nd.xs=(some ⟨bi,eo,none⟩,y.length,bP))(bT:1≤y.length)(cE:y.length≤6)
  (bQ:∀ D,w.grownBy D ev.ownBlock→Jaz D bi eo y) (bW:∀ e∈y,Uj ks[i].1.2.2 e∧1≤e.length∧e.length≤12) :
  Calls prog 97 #[.pointer (some ⟨U,0,none⟩),nd.val] w (Jq3 L U br ev (ks.set i (ks[i].1,true)) (y.map (Jbk ks[i].1.2.2)) w):=by
 have bj:Below w.heap.size w (Jam w nd):=Jc (Oa5 _ _) _;have bE:=Jh0 w nd;have bR:=h.below bj;have bH:=Jr1 L U br ev ks i (Jam w nd) bR hi hn;have bU:ev.ownBlock≠some w.heap.size:=fun e=>by have:=(Je h.own e).2;omega
 have bD:(ks[i].1,true)∈ks.set i (ks[i].1,true):=List.mem_set hi _;have bO:Hid (∀ D j (X:j<y.length),Jed L U br ev (ks.set i (ks[i].1,true)) D→(Jam w nd).grownBy D ev.ownBlock→∃ pb O K,D.cell? ⟨bi,eo+j,none⟩=some (.slice (some ⟨pb,O,none⟩) y[j].length K)∧Calls prog 129 #[.slice (some ⟨pb,O,none⟩) y[j].length K,Jbl ks[i].1] D fun cn w'=>cn=.returned (.tuple #[.int .i64 (Jbk ks[i].1.2.2 y[j]),.nilIface])∧Below D.heap.size D w'):=fun D j X cu cx=>by
  obtain⟨pb,O,K,Z,bL⟩:=bQ D (Ut (Qq bj) cx) j y[j] (Oa3 X);have bK:=bW y[j] (Ob3 X);exact⟨pb,O,K,Z,Jts pb O K y[j] ks[i].1.1 ks[i].1.2.1 ks[i].1.2.2 D bL (cu.ints (ks[i].1,true) bD) bK.1 bK.2.1 bK.2.2⟩
 have bf:Hid (Zm (Jam w nd) w.heap.size 0 nd∧ev.ownBlock≠some w.heap.size∧Below w.heap.size w (Jam w nd)):=⟨bE,bU,bj⟩;have bZ:=bE.2.1;rw[hl,Od0]at bZ;have ci:Hid (nd.xs=(some ⟨bi,eo,none⟩,y.length,bP)):=bY;have cF:=run_neq_nil_nil (P:=prog);obtain⟨s,hs⟩:∃ s,s=ks[i].1:=⟨_,rfl⟩;rw[←hs]at bH bO bD ⊢;clear hs hl bY bE bU bj bR h hn bQ bW bD;go_enter func97,ntmps97
 go_upto_region 2 with(go_at_call 128;refine bH.mono ?_;rintro cj E ⟨rfl,bS,bB,cG⟩)
 have bV:=Jmi bf.out.1 bB bf.out.2.1;have ca:=bV.2.2.2.2.1;rw[ci.out,Od0]at ca;simp only at ca;have cH:(1:Int)≤(y.length:Int):=by omega
 have cI:(y.length:Int)≤6:=by omega
 have bh:Hid _:=bS;have bN:Hid _:=bB;clear bV bS bB bH bZ;go_wp2;go_loopw [8,37] (fun sv i wr=>∃ j:Nat,j≤y.length∧i=.int .i64 (j:Int)∧Jo wr E.heap.size 3 sv (((y.take j).map (Jbk s.2.2)).map iv)∧Below E.heap.size E wr) (fun _ i _=>y.length-(intOf i).toNat)
 case atStart=>exact⟨0,Ob7 _,rfl,Jo.nil _ _ _,Oa5 _ _⟩
 case round=>
  obtain⟨j,X,rfl,bn,H⟩:=hrel;have R:Hid _:=bn;have bM:Hid _:=H;obtain⟨cM,cb,bG,Y⟩:=bn.cells;rw[Oa6,Oa6,Oc7,Oj1 X]at bG;by_cases bC:j<y.length
  ·obtain⟨pb,O,K,Z,bJ⟩:=bO.out wr j bC (bh.out.below H) (Ut bN.out (Qq H));subst bG;have bc:Hid (j<y.length∧y[j]?=some y[j]):=⟨bC,Oa3 bC⟩;obtain⟨es,bA⟩:∃ es,es=y[j]:=⟨_,rfl⟩;rw[←bA]at Z bJ;have cc:Hid (es=y[j]):=bA;obtain⟨ba,bI⟩:∃ ba,ba=Jbk s.2.2 es:=⟨_,rfl⟩;rw[←bI]at bJ;have ch:Hid (ba=Jbk s.2.2 es):=bI;clear bA bI bn H Y;go_wp2_with (first|(go_at_call 129;refine bJ.mono ?_;rintro cj bx ⟨rfl,bz⟩)|(at_builtin;go_must (refine Ks (by rfl) _ _ 22 3 _ 8 Zw (by rfl) (by decide) (by kernel_rfl) (by rfl) E.heap.size _ _ (by rfl) (Jo.alloc (Jl R.out fun g e=>bz.block g (Je R.out e).2) _) ⟨bx.heap.size,0,none⟩ 1 [iv ba] (by rfl) (by exact Ua bx _ _) (by intro u bX;simp at bX;subst bX;rfl) (by simp only[List.length_cons,List.length_nil,Oa6,Oc7];omega) (by simp;have:=bz.size;have:=bM.out.size;omega) ?_);intro sv' w4 Z bL cK))
   go_roundw
   case rel=>
    refine⟨j+1,bc.out.1,by have:=bc.out.1;go_num,?_,?_⟩
    ·rw[Oc4 bc.out.1,Ob8,Ob8,←cc.out];simp only[Oe4,Oi4];rw[←ch.out];exact Z
    have cv:Below E.heap.size E (bx.alloc (.cells #[iv ba] 3)):=Jc (Jb bM.out bz) _;exact Jy cv bL fun k cz=>(Je R.out cz).1
   case measure=>have:=bc.out.1;simp[intOf];omega
  obtain rfl:j=y.length:=by omega
  rw[Of2]at Y R;subst bG;have cB:y.map (Jbk s.2.2)≠[]:=fun e=>by rw[List.map_eq_nil_iff]at e;rw[e]at bT;simp at bT
  obtain⟨g,o,rfl,cy,_⟩:=Kc.at (ns:=y.map (Jbk s.2.2)) Y (i:=0) (Oi9.2 cB);have cD:=Je R.out (g:=g) rfl;have cf:Hid (Kc wr (some ⟨g,o,none⟩) (y.map (Jbk s.2.2))):=Y;clear Y bn;go_wp2;have cA:(y.map (Jbk s.2.2)).length=y.length:=Oa6 ..;refine bodyPost_ret (v:=.tuple #[.slice (some ⟨g,o,none⟩) y.length cb,.nilIface]) (by simp[results,results97,go_sem]) rfl ⟨some ⟨g,o,none⟩,cb,by rw[Jbl,cA],bh.out.below H,Ut (Ut (Qq bf.out.2.2) bN.out) (Qq H),cf.out,fun cC cJ e=>?_⟩;cases e
  exact⟨fun e=>by have:=(Je bh.out.own e).2;omega,by have:=Jd bh.out.ck;omega,cy,.inl (by have:=bf.out.2.2.size;omega)⟩
attribute [local go_sem] Oc0
theorem Jrx (g cap n:Nat)(w:World)(hn:n≤1000)(E:∀ i,i<n→∃ s:Sch,w.cell? ⟨g,i*2,none⟩=some (Jbl s)∧w.cell? ⟨g,i*2+1,none⟩=some (.bool true)) :
  Calls prog 50 #[.slice (some ⟨g,0,none⟩) n cap,.func (.func 51) #[] #[]] w fun e w'=>e=.returned (.int .i64 (-1))∧Below w.heap.size w w':=by
 have K:Hid _:=E;clear E;go_enter func50,ntmps50
 go_wp2;go_loopw [8] (fun i wr=>∃ k:Nat,k≤n∧i=.int .i64 k∧Below w.heap.size w wr) (fun i _=>n-(intOf i).toNat)
 case atStart=>exact⟨0,Ob7 _,rfl,Oa5 _ _⟩
 case round=>
  obtain⟨k,E,rfl,y⟩:=hrel;by_cases H:k<n
  ·obtain⟨s,c0,c1⟩:=K.out k H;have O:=Ja y c0;have R:=Ja y c1;have D:Hid (k<n):=H;go_wp2;go_roundw
   case rel=>exact⟨k+1,D.out,by have:=D.out;go_num,Jc y _⟩
   case measure=>have:=D.out;simp[intOf];omega
  go_wp2;exact bodyPost_ret (v:=.int .i64 (-1)) (by simp[results,results50,go_sem]) rfl ⟨rfl,y⟩
structure Kh1 (scs:List (List Int)) (fl:Nat→Bool) (j:Nat) (ks:List Kn):Prop where
 len:ks.length=j
 sch:∀ (i:Nat) (k:Kn),ks[i]?=some k→scs[i]?=some k.1.2.2
 flg:∀ (i:Nat) (k:Kn),ks[i]?=some k→k.2=fl i
structure Jrm (w:World) (tf nv0:Value) (scs:List (List Int)) (fl:Nat→Nat→Bool) (j:Nat) (ev sv:Value) (ks:List Kn) (W:World):Prop where
 chk:Jed (w.heap.size+2) (w.heap.size+1) tf ev ks W
 kso:Kh1 scs (fl j) j ks
 own:Jo W (w.heap.size+2) 22 sv (ks.map fun k=>Jbl k.1)
 sep:∀ g,sv.ownBlock=some g→ev.ownBlock≠some g
 off:∀ k∈ks,∀ g o,k.1.1=some ⟨g,o,none⟩→sv.ownBlock≠some g
 plan:W.heap[w.heap.size]?=some (.cells #[nv0] 57 (0,0))
 low:Below w.heap.size w W
def Jvz (w:World)(E:Value)(D:List (List Int))(fl:Nat→Nat→Bool)(nd:Nd)(j:Nat):Prop:=
 0≤nd.op∧nd.op≤7∧∃ sch,D[j]?=some sch∧∀ W ev ks,Below w.heap.size w W→(∀ g,ev.ownBlock=some g→w.heap.size≤g)→Jed (w.heap.size+2) (w.heap.size+1) E ev ks W→Kh1 D (fl j) j ks →
  Calls prog (Jm5 nd.op) #[.pointer (some ⟨w.heap.size+1,0,none⟩),nd.val] W fun e H=>∃ y,y.map (·.1)=ks.map (·.1)∧(∀ (i:Nat) (k:Kn),y[i]?=some k→k.2=fl (j+1) i)∧Jq3 (w.heap.size+2) (w.heap.size+1) E ev y sch W e H
theorem Jw8:(prog.info? 138).map (fun i=>(i.zero,i.size,i.bytes))=some (some (.agg #[.slice none 0 0,.bool false]),2,32):=by kernel_rfl
structure Jyq (w:World) (tf nv0:Value) (scs:List (List Int)) (fl:Nat→Nat→Bool) (j:Nat) (ev sv:Value) (ks:List Kn) (a:Option Addr) (c:Nat) (sch:List Int) (W:World):Prop where
 chk:Jed (w.heap.size+2) (w.heap.size+1) tf ev ks W
 len:ks.length=j
 sch1:∀ (i:Nat) (k:Kn),ks[i]?=some k→scs[i]?=some k.1.2.2
 sch2:scs[j]?=some sch
 flg:∀ (i:Nat) (k:Kn),ks[i]?=some k→k.2=fl (j+1) i
 own:Jo W (w.heap.size+2) 22 sv (ks.map fun k=>Jbl k.1)
 sep:∀ g,sv.ownBlock=some g→ev.ownBlock≠some g
 off:∀ k∈ks,∀ g o,k.1.1=some ⟨g,o,none⟩→sv.ownBlock≠some g
 ints:Kc W a sch
 aoff:∀ g o,a=some ⟨g,o,none⟩→ev.ownBlock≠some g∧g≠w.heap.size+1∧g<W.heap.size∧sv.ownBlock≠some g
 plan:W.heap[w.heap.size]?=some (.cells #[nv0] 57 (0,0))
 low:Below w.heap.size w W
theorem Jrm.node {w:World}{Z bn:Value}{Y:List (List Int)}{fl:Nat→Nat→Bool}{j:Nat}{ev sv:Value}{ks E:List Kn}{W U O:World}{sch:List Int}(h:Jrm w Z bn Y fl j ev sv ks W)(bf:Below W.heap.size W U)(R:E.map (·.1)=ks.map (·.1))(hf:∀ (i:Nat) (k:Kn),E[i]?=some k→k.2=fl (j+1) i)(hs:Y[j]?=some sch){a:Option Addr}{c:Nat}
  (bA:Jed (w.heap.size+2) (w.heap.size+1) Z ev E O) (bB:U.grownBy O ev.ownBlock) (hi:Kc O a sch) (bE:∀ g o,a=some ⟨g,o,none⟩→ev.ownBlock≠some g∧g≠w.heap.size+1∧g<O.heap.size∧(U.heap.size≤g∨∃ k∈E,k.1.1=some ⟨g,o,none⟩)):Jyq w Z bn Y fl j ev sv E a c sch O:=by
 have X:=Ut (Qq bf) bB;have bi:∀ k∈E,∃ D∈ks,k.1=D.1:=fun k y=>by
  have:k.1∈ks.map (·.1):=by rw[←R];exact List.mem_map_of_mem y
  obtain⟨D,H,K⟩:=Of0.1 this;exact⟨D,H,K.symm⟩
 have bC:E.length=ks.length:=by have:=congrArg List.length R;simpa using this
 have bD:E.map (fun k=>Jbl k.1)=ks.map fun k=>Jbl k.1:=by
  have:=congrArg (List.map Jbl) R;rw[Oi6,Oi6]at this;exact this
 have bh:∀ g,ev.ownBlock=some g→w.heap.size+2≤g:=fun g e=>(Je h.chk.own e).1;refine⟨bA,bC.trans h.kso.len,fun i k y=>?_,hs,hf,?_,h.sep,fun k y g o e=>?_,hi,fun g o e=>?_,?_,?_⟩
 ·have:(ks.map (·.1))[i]?=some k.1:=by rw[←R,Ob1,y];rfl
  rw[Ob1,Oe9]at this;obtain⟨D,H,K⟩:=this;rw[←K];exact h.kso.sch i D H
 ·unfold Jo;rw[bD];exact Jl h.own fun g e=>X.block g (Je h.own e).2 (Oc5 (h.sep g e))
 ·obtain⟨D,H,K⟩:=bi k y;rw[K]at e;exact h.off D H g o e
 ·obtain⟨H,K,br,bc⟩:=bE g o e;refine⟨H,K,br,fun ba=>?_⟩;rcases bc with bc|⟨k,y,bj⟩
  ·have:=(Je h.own ba).2;have:=bf.size;omega
  obtain⟨D,bx,bz⟩:=bi k y;rw[bz]at bj;exact h.off D bx g o bj ba
 ·rw[X.block _ (Jd h.plan) (fun e=>by have:=bh _ e.symm;omega)];exact h.plan
 exact Jy h.low X fun k y=>by have:=bh k y;omega
theorem Jyq.done {w:World}{bz bJ:Value}{bL:List (List Int)}{fl:Nat→Nat→Bool}{j:Nat}{ev ev' sv sv':Value}{ks:List Kn}{a:Option Addr}{c:Nat}{sch:List Int}{W w4 K:World}(h:Jyq w bz bJ bL fl j ev sv ks a c sch W)(bP:fl (j+1) j=false)(bj bn:Obj)
  (bK:w4.ownsRow (w.heap.size+2) 138 2 ev' (ks.length+1) (ks.flatMap knC++[Jbl (a,c,sch),.bool false])) (bx:(W.alloc bj).grownBy w4 ev.ownBlock) (U:ev'.ownBlock=ev.ownBlock∨ev'.ownBlock=some (W.alloc bj).heap.size)
  (bQ:Jo K (w.heap.size+2) 22 sv' ((ks.map fun k=>Jbl k.1)++[Jbl (a,c,sch)])) (X:((w4.setCell ⟨w.heap.size+1,1,none⟩ ev').alloc bn).grownBy K sv.ownBlock) (Y:sv'.ownBlock=sv.ownBlock∨sv'.ownBlock=some ((w4.setCell ⟨w.heap.size+1,1,none⟩ ev').alloc bn).heap.size) :
  Jrm w bz bJ bL fl (j+1) ev' sv' (ks++[((a,c,sch),false)]) K:=by
 have Z:∀ g,ev.ownBlock=some g→w.heap.size+2≤g∧g<W.heap.size:=fun g e=>Je h.chk.own e;have O:∀ g,sv.ownBlock=some g→w.heap.size+2≤g∧g<W.heap.size:=fun g e=>Je h.own e;have ba:∀ g,ev'.ownBlock=some g→w.heap.size+2≤g∧g<w4.heap.size:=fun g e=>Je bK e;have bR:=bx.size;have bM:=X.size;rw[Oa7]at bR bM U Y;have R:(w4.setCell ⟨w.heap.size+1,1,none⟩ ev').heap.size=w4.heap.size:=by simp[World.setCell]
 rw[R]at bM Y;have bA:∀ k,k<W.heap.size→ev.ownBlock≠some k→w4.heap[k]?=W.heap[k]?:=fun k D H=>(bx.block k (by rw[Oa7];omega) (Oc5 H)).trans (Oa9 _ _ _ D);have bB:∀ k,k<w4.heap.size→k≠w.heap.size+1→sv.ownBlock≠some k→K.heap[k]?=w4.heap[k]?:=fun k D H bc=>(X.block k (by rw[Oa7,R];omega) (Oc5 bc)).trans ((Oa9 _ _ _ (by rw[R];exact D)).trans (Oa4 _ _ _ _ H));have bC:∀ k,k<W.heap.size→ev.ownBlock≠some k→k≠w.heap.size+1→sv.ownBlock≠some k→K.heap[k]?=W.heap[k]?:=fun k D H bc bf=>(bB k (by omega) bc bf).trans (bA k D H);have bh:w4.heap[w.heap.size+1]?=_:=(bA _ (Jd h.chk.ck) (fun e=>by have:=Z _ e;omega)).trans h.chk.ck;have bE:=Jk bh 1 ev';simp only[Oa1,List.set_cons_zero,List.set_cons_succ]at bE;have bO:K.heap[w.heap.size+1]?=some (.cells #[bz,ev'] 134 (0,0)):=by
  rw[X.block _ (by rw[Oa7,R];have:=Jd bh;omega) (fun e=>by have:=O _ e.symm;omega),Oa9 _ _ _ (by rw[R];exact Jd bh)];exact bE
 have bH:∀ g,ev.ownBlock≠some g→g<W.heap.size→ev'.ownBlock≠some g:=fun g D H e=>by
  rcases U with q|q
  ·exact D (q.symm.trans e)
  rw[q]at e;cases e;omega
 have bI:∀ g,sv.ownBlock≠some g→g<W.heap.size→sv'.ownBlock≠some g:=fun g D H e=>by
  rcases Y with q|q
  ·exact D (q.symm.trans e)
  rw[q]at e;cases e;omega
 have bG:∀ (a:Option Addr) (s:List Int),Kc W a s→(∀ g o,a=some ⟨g,o,none⟩→ev.ownBlock≠some g∧g≠w.heap.size+1∧sv.ownBlock≠some g)→Kc K a s:=fun a s hi bi=>hi.of_block (by omega) fun b o e hl=>bC b hl (bi b o e).1 (bi b o e).2.1 (bi b o e).2.2;refine⟨⟨bO,?_,fun k y=>?_,fun k y g o e=>?_,h.chk.low⟩,⟨?_,fun i k y=>?_,fun i k y=>?_⟩,?_,fun g e E=>?_,fun k y g o e=>?_,?_,?_⟩
 ·rw[Oa8,List.length_singleton,Oe8,Ol6];refine Jl bK fun g e=>bB g (ba g e).2 (by have:=ba g e;omega) (fun E=>?_);rcases U with q|q
  ·exact h.sep g E (q.symm.trans e)
  rw[q]at e;cases e
  have:=O _ E;omega
 ·rw[Od2,Oc6]at y;rcases y with y|rfl
  ·exact bG _ _ (h.chk.ints k y) fun g o e=>⟨(h.chk.off k y g o e).1,(h.chk.off k y g o e).2.1,h.off k y g o e⟩
  exact bG _ _ h.ints fun g o e=>⟨(h.aoff g o e).1,(h.aoff g o e).2.1,(h.aoff g o e).2.2.2⟩
 ·rw[Od2,Oc6]at y;rcases y with y|rfl
  ·have:=h.chk.off k y g o e;exact⟨bH g this.1 this.2.2,this.2.1,by omega⟩
  have:=h.aoff g o e;exact⟨bH g this.1 this.2.2.1,this.2.1,by omega⟩
 ·rw[Oa8,List.length_singleton,h.len]
 ·rw[Om7]at y;split at y
  ·exact h.sch1 i k y
  rename_i bS
  have hi:i=j:=by
   have:i-ks.length<1:=(Ob9.1 y).1;have:=h.len;omega
  subst hi;rw[h.len,Oe1]at y;cases y
  exact h.sch2
 ·rw[Om7]at y;split at y
  ·exact h.flg i k y
  have hi:i=j:=by
   have:i-ks.length<1:=(Ob9.1 y).1;have:=h.len;omega
  subst hi;rw[h.len,Oe1]at y;cases y
  exact bP.symm
 ·rw[Ob8];exact bQ
 ·rcases Y with q|q
  ·have bD:=q.symm.trans e;have:=O g bD;rcases U with br|br
   ·exact h.sep g bD (br.symm.trans E)
   rw[br]at E;cases E;omega
  rw[q]at e;cases e
  have:=(ba _ E).2;omega
 ·rw[Od2,Oc6]at y;rcases y with y|rfl
  ·exact bI g (h.off k y g o e) (h.chk.off k y g o e).2.2
  exact bI g (h.aoff g o e).2.2.2 (h.aoff g o e).2.2.1
 ·rw[bC _ (Jd h.plan) (fun e=>by have:=Z _ e;omega) (by omega) (fun e=>by have:=O _ e;omega)];exact h.plan
 have hl:=h.low;have bf:Below w.heap.size w w4:=Jy (Jc hl bj) bx fun k y=>by have:=Z k y;omega
 have bN:Below w.heap.size w (w4.setCell ⟨w.heap.size+1,1,none⟩ ev'):=bf.setCell (p:=⟨w.heap.size+1,1,none⟩) (by simp) _;exact Jy (Jc bN bn) X fun k y=>by have:=O k y;omega
theorem Jcz {w:World}{B:Nat}{e:TypeId}{z:Nat}{sv:Value}{n:Nat}{xs:List Value}(h:w.ownsRow B e z sv n xs):∃ a c,sv=.slice a n c:=by
 rcases h with⟨_,⟨y,D⟩|⟨g,cap,_,y,_⟩⟩
 ·exact⟨none,0,by rw[y,D]⟩
 exact⟨_,_,y⟩
theorem Jrm.below {w:World}{K E:Value}{H:List (List Int)}{fl:Nat→Nat→Bool}{j:Nat}{ev sv:Value}{ks:List Kn}{W D:World}(h:Jrm w K E H fl j ev sv ks W)(y:Below W.heap.size W D):Jrm w K E H fl j ev sv ks D:=
 ⟨h.chk.below y,h.kso,Jl h.own fun g e=>y.block g (Je h.own e).2,h.sep,h.off,(y.block _ (Jd h.plan)).trans h.plan,Jb h.low y⟩
theorem Jyq.mid {w:World}{E R:Value}{X:List (List Int)}{fl:Nat→Nat→Bool}{j:Nat}{ev ev' sv:Value}{ks:List Kn}{a:Option Addr}{c:Nat}{sch:List Int}{W w4:World}(h:Jyq w E R X fl j ev sv ks a c sch W)(U:Obj)(D:(W.alloc U).grownBy w4 ev.ownBlock) :
  w4.heap[w.heap.size+1]?=some (.cells #[E,ev] 134 (0,0))∧Jo (w4.setCell ⟨w.heap.size+1,1,none⟩ ev') (w.heap.size+2) 22 sv (ks.map fun k=>Jbl k.1)∧w.heap.size+2≤w4.heap.size:=by
 have H:∀ g,ev.ownBlock=some g→w.heap.size+2≤g∧g<W.heap.size:=fun g e=>Je h.chk.own e;have Y:=D.size;rw[Oa7]at Y;have y:∀ k,k<W.heap.size→ev.ownBlock≠some k→w4.heap[k]?=W.heap[k]?:=fun k K O=>(D.block k (by rw[Oa7];omega) (Oc5 O)).trans (Oa9 _ _ _ K);refine⟨(y _ (Jd h.chk.ck) (fun e=>by have:=H _ e;omega)).trans h.chk.ck,Jl h.own fun g e=>?_,by have:=Jd h.chk.ck;omega⟩;have:=Je h.own e;rw[Oa4 _ _ _ _ (by simp;omega)];exact y g this.2 (h.sep g e)
theorem Kex (w:World)(u v:Value)(e:TypeId):∀ (j:Nat) (x:Value),[u,v][j]?=some x→(w.alloc (.cells #[u,v] e)).cell? ((⟨w.heap.size,0,none⟩:Addr).add j)=some x:=by
 intro j x y;have hn:=heap_alloc_new w (.cells #[u,v] e);match j,y with
 |0,y=>cases y;unfold World.cell?;rw[show ((⟨w.heap.size,0,none⟩:Addr).add 0).block=w.heap.size from rfl,hn];rfl
 |1,y=>cases y;unfold World.cell?;rw[show ((⟨w.heap.size,0,none⟩:Addr).add 1).block=w.heap.size from rfl,hn];rfl
theorem Jrc (O no ba:Nat)(y:List Nd)(E:Nat)(H:Array Value)(R:List (List Int))(fl:Nat→Nat→Bool)(w:World)
  (bT:∀ j nd,y[j]?=some nd→Zm w O (no+j*7) nd) (df:1≤y.length) (dg:y.length≤12) (ca:R.length=y.length) (ch:∀ j nd,y[j]?=some nd→Jvz w (.func (.func E) H #[]) R fl nd j) (bX:∀ j,fl (j+1) j=false) (bW:∀ i,i+1<y.length→fl y.length i=true) :
  Calls prog 30 #[.agg #[.slice (some ⟨O,no,none⟩) y.length ba],.func (.func E) H #[]] w fun e w'=>∃ (bO:List Sch) (sv:Value),e=.returned (.tuple #[sv,.nilIface])∧Below w.heap.size w w'∧Jo w' (w.heap.size+2) 22 sv (bO.map Jbl)∧bO.map (·.2.2)=R∧∀ s∈bO,Kc w' s.1 s.2.2:=by
 have bi:Hid ((∀ j nd,y[j]?=some nd→Zm w O (no+j*7) nd)∧R.length=y.length∧(∀ j nd,y[j]?=some nd→Jvz w (.func (.func E) H #[]) R fl nd j)∧(∀ j,fl (j+1) j=false)∧∀ i,i+1<y.length→fl y.length i=true):=⟨bT,ca,ch,bX,bW⟩;have dk:=run_neq_nil_nil (P:=prog);have dm:∀ (a:Addr) (X:World),(store a (.func (.func E) H #[])).run prog X=stored prog X a (.func (.func E) H #[]) .plain:=fun a X=>run_store _ _ _ _ _ rfl;clear bT ca ch bX bW;go_enter func30,ntmps30
 go_upto_region 5 with fail
 have bU:Jrm w (.func (.func E) H #[]) (.slice (some ⟨O,no,none⟩) y.length ba) R fl 0 (.slice none 0 0) (.slice none 0 0) [] ((w.alloc (.cells #[(.slice (some ⟨O,no,none⟩) y.length ba)] 57)).alloc (.cells #[(.func (.func E) H #[]),.slice none 0 0] 134)):=by
  refine⟨⟨?_,⟨rfl,.inl ⟨rfl,rfl⟩⟩,fun k K=>(by cases K),fun k K=>(by cases K),by omega⟩,⟨rfl,fun i k K=>(by simp at K),fun i k K=>(by simp at K)⟩,Jo.nil _ _ _,fun g e=>(by simp[Value.ownBlock]at e),fun k K=>(by cases K),?_,Jc (Jc (Oa5 _ _) _) _⟩
  ·have:=heap_alloc_new (w.alloc (.cells #[(.slice (some ⟨O,no,none⟩) y.length ba)] 57)) (.cells #[(.func (.func E) H #[]),.slice none 0 0] 134);rw[Oa7]at this;exact this
  exact(Oa9 _ _ _ (by simp)).trans (heap_alloc_new w _)
 have bE:Hid _:=bU;generalize (w.alloc (.cells #[(.slice (some ⟨O,no,none⟩) y.length ba)] 57)).alloc (.cells #[(.func (.func E) H #[]),.slice none 0 0] 134)=cz at bE ⊢;have ds:cz.cell? ⟨w.heap.size,0,none⟩=some (.slice (some ⟨O,no,none⟩) y.length ba):=by simp[World.cell?,bE.out.plan]
 clear bU;go_wp2;go_loopw [7,34] (fun sv i wr=>∃ (j:Nat) (ev:Value) (ks:List Kn),j≤y.length∧i=.int .i64 (j:Int)∧Jrm w (.func (.func E) H #[]) (.slice (some ⟨O,no,none⟩) y.length ba) R fl j ev sv ks wr) (fun _ i _=>y.length-(intOf i).toNat)
 case atStart=>exact⟨0,_,_,Ob7 _,rfl,bE.out⟩
 case round=>
  obtain⟨j,ev,ks,di,rfl,D⟩:=hrel;have bP:Hid _:=D;have bY:=D.kso.len;obtain⟨dc,dd,bH⟩:=Jcz D.chk.own;obtain⟨cX,cY,bB⟩:=Jcz D.own;rw[Oa6]at bB;rw[bY]at bH bB;by_cases cb:j<y.length
  ·obtain⟨nd,bL⟩:∃ nd,y[j]?=some nd:=⟨_,Oa3 cb⟩;obtain⟨cv,cx,sch,ci,bV⟩:=bi.out.2.2.1 j nd bL;obtain⟨du,dv,dw,dx,dy,dz,dA⟩:=(bi.out.1 j nd bL).below D.low;have bj:Below wr.heap.size wr (Jam wr nd):=Jc (Oa5 _ _) _;have bJ:∀ g,ev.ownBlock=some g→w.heap.size+2≤g∧g<wr.heap.size:=fun g e=>Je D.chk.own e;have cN:=Kbz (w.heap.size+1) nd (Jam wr nd) (fun X v w'=>∃ Z,Z.map (·.1)=ks.map (·.1)∧(∀ (i:Nat) (k:Kn),Z[i]?=some k→k.2=fl (j+1) i)∧Jq3 (w.heap.size+2) (w.heap.size+1) (.func (.func E) H #[]) ev Z sch X (.returned v) w') cv cx (fun X br=>by
    refine(bV X ev ks (Jb D.low (Jb bj br)) (fun g e=>by have:=bJ g e;omega) (D.chk.below (Jb bj br)) D.kso).mono ?_;rintro e cZ ⟨Z,bh,hf,a,c,rfl,bz,bf,hi,bA⟩;exact⟨_,_,rfl,⟨Z,bh,hf,a,c,rfl,bz,bf,hi,bA⟩,bf.size,fun k bN bD=>bf.block k bD (fun e=>by have:=bJ k e.symm;have:=bj.size;omega)⟩)
   have bc:Hid (R[j]?=some sch∧j<y.length∧Below wr.heap.size wr (Jam wr nd)):=⟨ci,cb,bj⟩;subst bH bB;obtain⟨cS,cK,cO,cP,cQ⟩:=info_parts Jw8;clear D bV bL cv cx ci bj bJ;go_wp2_with (first|(go_at_call 49;refine cN.mono ?_;rintro cB bG ⟨X,br,v,rfl,Z,bh,hf,a,c,bM,bz,bf,hi,bA⟩;injection bM with bM;subst bM;have U:Hid (Jyq w (.func (.func E) H #[]) (.slice (some ⟨O,no,none⟩) y.length ba) R fl j _ _ Z a c sch bG):=bP.out.node (Jb bc.out.2.2 br) bh hf bc.out.1 bz bf hi bA;obtain⟨_,c1⟩:=U.out.chk.cells;clear bz bf hi bA bh hf)|(at_builtin;refine wpList_append_own_at _ (by rfl) _ _ 132 (by rfl) (w.heap.size+2) 138 cS _ 2 32 (by kernel_rfl) cK cO cP cQ (by rfl) (by decide) _ _ _ (by rfl) (Jbm U.out.chk.own _) ⟨bG.heap.size,0,none⟩ 1 1 [Jbl (a,c,sch),.bool false] (by rfl) (by rfl) (by exact Kex bG _ _ _) (by intro u bn;simp at bn;rcases bn with rfl|rfl<;>rfl) (by have:=U.out.len;have:=bc.out;unfold maxLen;omega) (by have:=U.out.len;have:=bc.out;omega) (by simp;have:=Jd U.out.chk.ck;omega) ?_;intro ev' w4 bN bD _ cT;go_must (obtain⟨cu,m2,m3⟩:=U.out.mid (ev':=ev') _ bD);go_must (obtain⟨bS,bQ,cn⟩:=ownsRow_succ bN);obtain⟨bC,cc⟩:∃ bC,bC=Z.length+1:=⟨_,rfl⟩;rw[←cc]at cn;clear cc;subst cn;have db:w4.cell? ⟨w.heap.size+1,1,none⟩=some _:=(by simp[World.cell?,cu];rfl);have de:w4.frozen? ⟨w.heap.size+1,1,none⟩=false:=(by simp[World.frozen?,cu]);have cj:(w4.setCell ⟨w.heap.size+1,1,none⟩ (.slice (some ⟨bS,0,none⟩) bC bQ)).heap.size=w4.heap.size:=(by simp[World.setCell]);have cf:=Ua (w4.setCell ⟨w.heap.size+1,1,none⟩ (.slice (some ⟨bS,0,none⟩) bC bQ)) (Jbl (a,c,sch)) 22;rw[cj]at cf)|(at_builtin;go_must (refine Ul (by rfl) _ _ 88 22 _ 24 Jzf (by rfl) (by decide) (by kernel_rfl) (by rfl) (w.heap.size+2) _ _ (by rfl) (Jo.alloc m2 _) ⟨w4.heap.size,0,none⟩ 1 [Jbl (a,c,sch)] (by rfl) (by exact cf) (by intro u bn;simp at bn;subst bn;rfl) (by have:=U.out.len;have:=bc.out;simp only[List.length_cons,List.length_nil,Oa6];omega) (by rw[Oa7,cj];omega) ?_);intro sv' dt cU cV cW;go_must (have cE:=U.out.done (bi.out.2.2.2.1 j) _ _ bN bD cT cU cV cW)))
   go_roundw
   case rel=>exact⟨j+1,_,_,bc.out.2.1,rfl,cE⟩
   case measure=>have:=bc.out.2.1;simp[intOf];omega
  have bK:j=y.length:=by omega
  obtain⟨g,cap,Y,cI,cJ,_⟩:=D.chk.at (i:=0) (by omega);rw[bY]at Y;have bZ:∀ i,i<y.length-1→∃ s:Sch,wr.cell? ⟨g,i*2,none⟩=some (Jbl s)∧wr.cell? ⟨g,i*2+1,none⟩=some (.bool true):=fun i hi=>by
   obtain⟨cD,cA,bI,_,_,cC,bR,_⟩:=D.chk.at (i:=i) (by omega);rw[Y]at bI;simp only[On8,Oc9,Oh2,and_true]at bI;have hf:=D.kso.flg i ks[i] (Oa3 (by omega));have cH:fl j i=true:=by rw[bK];exact bi.out.2.2.2.2 i (by omega)
   rw[hf.trans cH]at bR;rw[bI.1];exact⟨_,cC,bR⟩
  obtain⟨m,bh⟩:∃ m,y.length=m+1:=⟨y.length-1,by omega⟩;have cM:=Jrx g cap m wr (by omega) (fun i hi=>bZ i (by omega));have cG:m≤cap:=by
   rcases D.chk.own with⟨_,⟨h0,_⟩|⟨cD,cA,_,h0,_,_,dh,_⟩⟩
   ·rw[h0]at Y;cases Y
   rw[h0]at Y;simp only[On8,Oc9,Oh2,and_true]at Y;omega
  obtain⟨_,c1⟩:=D.chk.cells;rw[Y]at c1;have cy:Hid (ks.map (·.1.2.2)=R):=by
   show _=_;have hl:=bi.out.2.1;refine Oi8 fun i=>?_;rw[Ob1];cases hki:ks[i]? with
   |some k=>rw[D.kso.sch i k hki];rfl
   |none=>
    have:ks.length≤i:=List.getElem?_eq_none_iff.1 hki;exact(List.getElem?_eq_none_iff.2 (by omega)).symm
  have dp:(y.length:Int)-1=(m:Int):=by omega
  have dq:(0:Int)≤(m:Int):=by omega
  have dr:(m:Int)≤(cap:Int):=by omega
  have dj:m≤11:=by omega
  subst bB;rw[bK]at c1 ⊢;clear bZ Y bH D cI cJ cG bh;go_wp2_with (go_at_call 50;refine cM.mono ?_;rintro cB da ⟨rfl,cF⟩)
  have bx:=bP.out.below cF;rw[bK]at bx;refine bodyPost_ret (v:=.tuple #[.slice cX y.length cY,.nilIface]) (by simp[results,results30,go_sem]) rfl ⟨ks.map (·.1),_,rfl,bx.low,?_,?_,fun s hs=>?_⟩
  ·rw[Oi6];exact bx.own
  ·rw[Oi6];exact cy.out
  obtain⟨k,K,rfl⟩:=Of0.1 hs;exact bx.chk.ints k K
end
end Go.Proofs.YtpchafocmlhmbaaGreatDoor
