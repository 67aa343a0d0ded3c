/- The law's own expressions: expr. -/
import Derived.Test.YtjjdldddcegjiaaGreatDoorYe
import Derived.Test.YtjjdldddcegjiaaGreatDoorXz
set_option maxHeartbeats 4000000
set_option maxRecDepth 100000
namespace Go.Proofs.YtjjdldddcegjiaaGreatDoor
open Go.RowKit Go.Shelf Tryz
attribute [local go_sem] Oc0
def ptC (p:Pt):List Value:=[.int .i64 p.op,.int .i64 p.l,.int .i64 p.r,.int .i64 p.c,.int .i64 p.v.k,.int .i64 p.v.n,.string p.v.s]
abbrev Je6 (w:World)(B:Nat)(sv:Value)(ps:List Pt):Prop:=w.ownsRow B 51 7 sv ps.length (ps.flatMap ptC)
theorem Kih:(prog.info? 51).map (fun i=>(i.zero,i.size,i.bytes))=some (some (.agg #[.int .i64 0,.int .i64 0,.int .i64 0,.int .i64 0,.int .i64 0,.int .i64 0,.string ⟨#[]⟩]),7,64):=by kernel_rfl
theorem Jcf {w:World}{E:Array Oper}{rest:List Oper}{o:Oper}{a:Act}{Q:Exit→Act→World→Prop}(U:o.guard=none)(s x:Operand)
  (X:o.op=.call {callee:=.builtin .append,args:=#[s,x],argTypes:=#[26,26]})
  (B:Nat) (sv:Value) (ps:List Pt) (hs:a.eval s=sv) (Z:Je6 w B sv ps)
  (g c:Nat) (p:Pt) (bh:a.eval x=.slice (some ⟨g,0,none⟩) 1 c) (bf:Qi w g 0 p) (bl:ps.length≤1000000) (O:B≤w.heap.size)
  (h:∀ sv' w',Je6 w' B sv' (ps++[p])→w.grownBy w' sv.ownBlock→(sv'.ownBlock=sv.ownBlock∨sv'.ownBlock=some w.heap.size)→wpList prog E Q rest (a.put o.dst sv') w') :
  wpList prog E Q (o::rest) a w:=by
 obtain⟨i,hi,bi,bc,R⟩:=info_parts Kih
 refine wpList_append_own_at w U s x 26 X B 51 i _ 7 64 (by kernel_rfl) hi bi bc R rfl (by decide) sv ps.length (ps.flatMap ptC) hs Z ⟨g,0,none⟩ 1 c (ptC p) bh rfl ?_ ?_ ?_ ?_ O ?_
 ·intro j u y
  obtain⟨h0,z,A,H,C,K,M⟩:=bf
  match j,y with
  |0,y=>simp[ptC]at y;subst y;simpa [Addr.add] using h0
  |1,y=>simp[ptC]at y;subst y;simpa [Addr.add] using z
  |2,y=>simp[ptC]at y;subst y;simpa [Addr.add] using A
  |3,y=>simp[ptC]at y;subst y;simpa [Addr.add] using H
  |4,y=>simp[ptC]at y;subst y;simpa [Addr.add] using C
  |5,y=>simp[ptC]at y;subst y;simpa [Addr.add] using K
  |6,y=>simp[ptC]at y;subst y;simpa [Addr.add] using M
  |j+7,y=>simp[ptC]at y
 ·intro u D
  simp[ptC]at D
  rcases D with rfl|rfl|rfl|rfl|rfl|rfl|rfl<;>rfl
 ·unfold maxLen;omega
 ·omega
 intro bj w' z A _ C
 refine h bj w' ?_ A C
 unfold Je6
 rw[Oa8,List.length_singleton,Oe8,Ol6]
 exact z
theorem Jeg.more {sch T y:List Int}{j:Nat}{p:Pt}(h:Jeg sch T j p)(D:∀ k,k<j→y.getD k 0=T.getD k 0):Jeg sch y j p:=by
 have z:2≤p.op→y.getD p.l.toNat 0=T.getD p.l.toNat 0:=fun A=>D _ (by have:=h.ok.left A;omega)
 have C:2≤p.op→y.getD p.r.toNat 0=T.getD p.r.toNat 0:=fun A=>D _ (by have:=h.r A;omega)
 exact⟨h.ok,h.r,h.con,fun a b=>by rw[z a,C a];exact h.num a b,fun a b=>by rw[z (by omega),C (by omega)];exact h.same a b,fun a b=>by rw[z (by omega),C (by omega)];exact h.tru a b,fun a=>by rw[z (by omega)];exact h.nt a⟩
theorem Jmm (T:List Int)(t:Int)(k:Nat)(y:k<T.length):(T++[t]).getD k 0=T.getD k 0:=by
 rw[Oa0,Oa0,Ob0 y]
theorem Uj.snoc {sch:List Int}{es:List Pt}{p:Pt}(h:Uj sch es)(E:Jeg sch (es.map (tyP sch)) es.length p):Uj sch (es++[p]):=fun j q y=>by
 rw[Ob8,List.map_singleton]
 rw[Om7]at y
 split at y
 ·rename_i z
  exact(h j q y).more fun k D=>Jmm _ _ _ (by rw[Oa6];omega)
 rename_i z
 have A:j-es.length=0:=by
  have:=(Ob9.1 y).1
  simp at this
  omega
 rw[A]at y
 cases y
 have C:j=es.length:=by omega
 subst C
 exact E.more fun k D=>Jmm _ _ _ (by rw[Oa6];omega)
def Jpr (t:Int):Prop:=1≤t∧t≤3
theorem Keg {sch T:List Int}{j:Nat}{p:Pt}(h:Jeg sch T j p)(hs:∀ i,i<sch.length→Jpr (sch.getD i 0)):Jpr (tyP sch p):=by
 unfold tyP
 split
 ·rename_i h0
  have:=h.ok.col h0
  exact hs _ (by omega)
 split
 ·rename_i y
  exact(h.con y).1
 split
 ·exact⟨by omega,by omega⟩
 exact⟨by omega,by omega⟩
structure ExW (w:World) (sch:List Int) (ev tv:Value) (es:List Pt) (W:World):Prop where
 own:Je6 W w.heap.size ev es
 tys:Jo W w.heap.size 3 tv ((es.map (tyP sch)).map iv)
 sep:∀ g,ev.ownBlock=some g→tv.ownBlock≠some g
 low:Below w.heap.size w W
 ok:Uj sch es
 nz:∀ i,i<(es.map (tyP sch)).length→(es.map (tyP sch)).getD i 0≠0
theorem ExW.below {w:World}{sch:List Int}{ev tv:Value}{es:List Pt}{W z:World}(h:ExW w sch ev tv es W)(y:Below W.heap.size W z):ExW w sch ev tv es z:=
 ⟨Jl h.own fun g e=>y.block g (Je h.own e).2,Jl h.tys fun g e=>y.block g (Je h.tys e).2,h.sep,Jb h.low y,h.ok,h.nz⟩
structure ExM (w:World) (sch:List Int) (ev tv:Value) (es:List Pt) (q:Pt) (W:World):Prop where
 own:Je6 W w.heap.size ev (es++[q])
 tys:Jo W w.heap.size 3 tv ((es.map (tyP sch)).map iv)
 sep:∀ g,ev.ownBlock=some g→tv.ownBlock≠some g
 low:Below w.heap.size w W
 ok:Uj sch es
 nz:∀ i,i<(es.map (tyP sch)).length→(es.map (tyP sch)).getD i 0≠0
theorem ExW.part {w:World}{sch:List Int}{ev tv ev':Value}{es:List Pt}{C w4:World}(h:ExW w sch ev tv es C)(q:Pt)(o:Obj)(H:Je6 w4 w.heap.size ev' (es++[q]))(D:(C.alloc o).grownBy w4 ev.ownBlock)(z:ev'.ownBlock=ev.ownBlock∨ev'.ownBlock=some (C.alloc o).heap.size):ExM w sch ev' tv es q w4:=by
 have y:=h.below (Jc (Oa5 _ _) o)
 refine⟨H,Jl y.tys fun g e=>D.block g (Je y.tys e).2 (fun A=>h.sep g A.symm e),fun g e A=>?_,Jy y.low D fun k E=>(Je y.own E).1,h.ok,h.nz⟩
 rcases z with z|z
 ·exact h.sep g (z.symm.trans e) A
 rw[z]at e
 cases e
 have:=(Je y.tys A).2
 omega
theorem ExM.type {w:World}{sch:List Int}{ev tv C:Value}{es:List Pt}{q:Pt}{z w4:World}(h:ExM w sch ev tv es q z)(E:Jeg sch (es.map (tyP sch)) (es.map (tyP sch)).length q)(O:∀ i,i<sch.length→Jpr (sch.getD i 0))(o:Obj)(R:Jo w4 w.heap.size 3 C ((es.map (tyP sch)).map iv++[iv (tyP sch q)]))(K:(z.alloc o).grownBy w4 tv.ownBlock)(A:C.ownBlock=tv.ownBlock∨C.ownBlock=some (z.alloc o).heap.size):ExW w sch ev C (es++[q]) w4:=by
 have D:=Jc (Oa5 _ z) o
 have H:Je6 (z.alloc o) w.heap.size ev (es++[q]):=Jl h.own fun g e=>D.block g (Je h.own e).2
 have U:Jo (z.alloc o) w.heap.size 3 tv ((es.map (tyP sch)).map iv):=Jl h.tys fun g e=>D.block g (Je h.tys e).2
 refine⟨Jl H fun g e=>K.block g (Je H e).2 (fun y=>h.sep g e y.symm),?_,fun g e y=>?_,Jy (Jb h.low D) K fun k M=>(Je U M).1,h.ok.snoc (by rw[Oa6]at E;exact E),fun i hi=>?_⟩
 ·rw[Ob8,Ob8]
  exact R
 ·rcases A with A|A
  ·exact h.sep g e (A.symm.trans y)
  rw[A]at y
  cases y
  have:=(Je H e).2
  omega
 rw[Ob8,List.map_singleton]at hi ⊢
 by_cases e:i<(es.map (tyP sch)).length
 ·rw[Jmm _ _ _ e]
  exact h.nz i e
 have y:i=(es.map (tyP sch)).length:=by
  rw[Oa8,List.length_singleton]at hi
  omega
 subst y
 rw[Oa0,Ob6 (Oa2 _),Oe1]
 show ¬ tyP sch q=0
 have:=Keg E O
 unfold Jpr at this
 omega
theorem Jk3 (w:World)(p:Pt):Qi (w.alloc (.cells #[.int .i64 p.op,.int .i64 p.l,.int .i64 p.r,.int .i64 p.c,.int .i64 p.v.k,.int .i64 p.v.n,.string p.v.s] 51)) w.heap.size 0 p:=by
 obtain⟨h0,y,z,A,C,D,E⟩:=Ui (heap_alloc_new w (.cells #[.int .i64 p.op,.int .i64 p.l,.int .i64 p.r,.int .i64 p.c,.int .i64 p.v.k,.int .i64 p.v.n,.string p.v.s] 51))
 exact⟨h0,y,z,A,C,D,E⟩
def Jfe (w:World)(a:Option Addr)(ps:List Pt):Prop:=∀ k p,ps[k]?=some p→∃ b o,a=some ⟨b,o,none⟩∧Qi w b (o+k*7) p
theorem Jfe.below {w w':World}{a:Option Addr}{ps:List Pt}(h:Jfe w a ps)(A:Below w.heap.size w w'):Jfe w' a ps:=fun k p C=>by
 obtain⟨b,o,y,z⟩:=h k p C
 exact⟨b,o,y,z.below A⟩
structure Jko (p:Pt):Prop where
 op:Jg p.op
 l:Jg p.l
 r:Jg p.r
 c:Jg p.c
 k:Jg p.v.k
 n:Jg p.v.n
def Kib (sch:List Int)(m:Nat)(w:World):Ending→World→Prop:=fun e w'=>∃ (ev:Value) (es:List Pt),e=.returned ev∧Je6 w' w.heap.size ev es∧Uj sch es∧1≤es.length∧es.length≤12∧(es.length≤m∨es.length=1)∧Below w.heap.size w w'
theorem Joq (A:List Pt)(bG:Option Addr)(cJ:Nat)(sch:List Int)(R:Option Addr)(bH:Nat)(w:World)(hR:Jfe w bG A)(bM:∀ p∈A,Jko p)(cu:A.length≤maxLen)(z:Kc w R sch)(cv:1≤sch.length)(cx:sch.length≤1000)(bR:∀ i,i<sch.length→Jpr (sch.getD i 0)) :
  Calls prog 9 #[.slice bG A.length cJ,.slice R sch.length bH] w (Kib sch A.length w):=by
 have U:Hid (Jfe w bG A∧(∀ p∈A,Jko p)∧Kc w R sch∧∀ i,i<sch.length→Jpr (sch.getD i 0)):=⟨hR,bM,z,bR⟩
 unfold maxLen at cu
 clear hR bM z bR
 go_enter func9,ntmps9
 go_wp2
 go_loopw [5,6,7] (fun ev tv i wr=>∃ es:List Pt,es.length≤A.length∧es.length≤12∧i=.int .i64 (es.length:Int)∧ExW w sch ev tv es wr) (fun _ _ i _=>12-(intOf i).toNat)
 case atStart=>exact⟨[],Ob7 _,Ob7 _,rfl,⟨⟨rfl,.inl ⟨rfl,rfl⟩⟩,Jo.nil _ _ _,fun g e=>by simp[Value.ownBlock]at e,Oa5 _ _,fun j p M=>by simp at M,fun i hi=>by simp at hi⟩⟩
 case round=>
  obtain⟨es,br,bz,rfl,z⟩:=hrel
  have X:Hid _:=z
  by_cases O:es.length<A.length
  ·by_cases bu:es.length<12
   ·have bc:A[es.length]?=some A[es.length]:=Oa3 O
    obtain⟨p,bP⟩:∃ p,p=A[es.length]:=⟨_,rfl⟩
    rw[←bP]at bc
    have H:=U.out.2.1 p (Of6 bc)
    obtain⟨cO,cP,cr,bX,bY,bZ,ca,cb,cc,cf⟩:=(U.out.1.below z.low) es.length p bc
    obtain⟨bV,bW,bD,bL⟩:=z.tys.cells
    have bA:=Jzh p (es.map (tyP sch)) sch bV R bW bH wr H.op H.l H.r H.c H.k H.n bL (U.out.2.2.1.below z.low) cv cx (by rw[Oa6];omega) z.nz
    rw[Oa6,Oa6]at bD
    have bB:Calls prog 26 #[p.val,.slice bV es.length bW,.slice R sch.length bH] wr (Kgr sch (es.map (tyP sch)) wr):=by rw[Oa6]at bA;exact bA
    obtain⟨m,E⟩:∃ m,m=es.length:=⟨_,rfl⟩
    have bj:Hid (m=es.length):=E
    rw[←E]at bD bB bX bY bZ ca cb cc cf O bu ⊢
    subst bD cr
    have cy:(0:Int)≤(m:Int):=by omega
    have cz:(m:Int)<(A.length:Int):=by omega
    have cN:(m:Int)<12:=by omega
    clear bA bL bc bP z br bz H E
    go_upto_region 7 with(go_at_call 26;refine bB.mono ?_;rintro cK C ⟨bJ,q,rfl,bQ⟩)
    have Z:=heap_alloc_new C (.cells #[.int .i64 q.op,.int .i64 q.l,.int .i64 q.r,.int .i64 q.c,.int .i64 q.v.k,.int .i64 q.v.n,.string q.v.s] 51)
    have bK:Below C.heap.size C (C.alloc (.cells #[.int .i64 q.op,.int .i64 q.l,.int .i64 q.r,.int .i64 q.c,.int .i64 q.v.k,.int .i64 q.v.n,.string q.v.s] 51)):=Jc (Oa5 _ _) _
    have K:Hid (ExW w sch _ _ es (C.alloc (.cells #[.int .i64 q.op,.int .i64 q.l,.int .i64 q.r,.int .i64 q.c,.int .i64 q.v.k,.int .i64 q.v.n,.string q.v.s] 51))):=X.out.below (Jb bJ bK)
    have ch:Hid (Jeg sch (es.map (tyP sch)) (es.map (tyP sch)).length q):=bQ
    obtain⟨bT,bO⟩:∃ bT,bT=C.heap.size:=⟨_,rfl⟩
    rw[←bO]at Z ⊢
    obtain⟨bi,bC⟩:∃ bi,bi=tyP sch q:=⟨_,rfl⟩
    rw[←bC]
    have ci:Hid (bi=tyP sch q):=bC
    generalize C.alloc (.cells #[.int .i64 q.op,.int .i64 q.l,.int .i64 q.r,.int .i64 q.c,.int .i64 q.v.k,.int .i64 q.v.n,.string q.v.s] 51)=bI at Z K ⊢
    obtain⟨cA,cB,cC,cD,cE,cF,cG⟩:=Ui Z
    clear bJ bK bQ bO bC Z bB X bX bY bZ ca cb cc cf O bu
    go_upto_region 8 with(at_builtin;go_must (refine Jcf (by rfl) _ _ (by rfl) w.heap.size _ es (by rfl) (Jbm K.out.own _) bI.heap.size 1 q (by rfl) (by exact Jk3 bI q) (by have:=bj.out;omega) (by have:=K.out.low.size;simp;omega) ?_);intro ev' w4 bf bh bE)
    have bl:Hid (ExM w sch ev' _ es q w4):=K.out.part q _ bf bh bE
    clear bf bh bE cA cB cC cD cE cF cG K
    go_wp2_with (at_builtin;go_must (refine Ks (by rfl) _ _ 22 3 _ 8 Zw (by rfl) (by decide) (by kernel_rfl) (by rfl) w.heap.size _ _ (by rfl) (Jo.alloc bl.out.tys _) ⟨w4.heap.size,0,none⟩ 1 [iv bi] (by rfl) (by exact Ua w4 _ _) (by intro u bS;simp at bS;subst bS;rfl) (by have:=bj.out;simp only[List.length_cons,List.length_nil,Oa6];omega) (by have:=bl.out.low.size;simp;omega) ?_);intro cQ cS bU cH cI)
    go_roundw
    case rel=>
     have cn:=bj.out
     rw[ci.out]at bU
     exact⟨es++[q],by rw[Oa8,List.length_singleton];omega,by rw[Oa8,List.length_singleton];omega,by rw[Oa8,List.length_singleton,←cn];go_num,bl.out.type ch.out U.out.2.2.2 _ bU cH cI⟩
    case measure=>simp[intOf];omega
   obtain⟨bn,c5,D⟩:=Jcz z.own
   have bx:es.length=12:=by omega
   rw[bx]at D O ⊢
   have y:Hid (Je6 wr w.heap.size (.slice bn 12 c5) es∧Uj sch es∧es.length=12∧Below w.heap.size w wr):=⟨by rw[←D];exact z.own,z.ok,bx,z.low⟩
   subst D
   clear z X bx br bz bu
   have cz:(12:Int)<(A.length:Int):=by omega
   go_wp2
   go_ret
   exact⟨_,es,rfl,y.out.1,y.out.2.1,by have:=y.out.2.2.1;omega,by have:=y.out.2.2.1;omega,.inl (by have:=y.out.2.2.1;omega),y.out.2.2.2⟩
  obtain⟨bn,c5,D⟩:=Jcz z.own
  obtain⟨m,E⟩:∃ m,m=es.length:=⟨_,rfl⟩
  have bN:m=A.length:=by omega
  rw[←E]at D ⊢
  have y:Hid (Je6 wr w.heap.size (.slice bn m c5) es∧Uj sch es∧es.length=m∧Below w.heap.size w wr∧m≤12∧m=A.length):=⟨by rw[←D];exact z.own,z.ok,E.symm,z.low,by omega,bN⟩
  subst D
  have cy:¬ ((m:Int)<(A.length:Int)):=by omega
  clear z X br bz O E bN
  by_cases h0:m=0
  ·subst h0
   go_wp2_with (at_builtin;go_must (refine Jcf (by rfl) _ _ (by rfl) w.heap.size _ es (by rfl) (Jbm y.out.1 _) wr.heap.size 1 ⟨0,0,0,0,Jf⟩ (by rfl) (by exact Jk3 wr ⟨0,0,0,0,Jf⟩) (by have:=y.out.2.2.1;omega) (by have:=y.out.2.2.2.1.size;simp;omega) ?_);intro ev' w4 bf bh bE)
   go_ret
   have cj:es=[]:=Od3.1 y.out.2.2.1
   subst cj
   refine⟨ev',[⟨0,0,0,0,Jf⟩],rfl,bf,fun j p M=>?_,by simp,by simp,.inr rfl,Jy (Jc y.out.2.2.2.1 _) bh fun k cl=>(Je y.out.1 cl).1⟩
   match j,M with
   |0,M=>
    cases M
    exact Jh7 (c:=0) (by omega)
  have cM:¬ ((m:Int)=0):=by omega
  go_wp2
  go_ret
  exact⟨_,es,rfl,y.out.1,y.out.2.1,by have:=y.out.2.2.1;omega,by have:=y.out.2.2.1;have:=y.out.2.2.2.2.1;omega,.inl (by have:=y.out.2.2.1;have:=y.out.2.2.2.2.2;omega),y.out.2.2.2.1⟩
end Go.Proofs.YtjjdldddcegjiaaGreatDoor
