/- The law's own expressions: typeOf, predicate. -/
import Derived.Test.YtjjdldddcegjiaaGreatDoorYg
set_option maxHeartbeats 2000000
set_option maxRecDepth 100000
namespace Go.Proofs.YtjjdldddcegjiaaGreatDoor
open Go.RowKit Go.Shelf Tryz
attribute [local go_sem] Oc0
theorem Je6.at {w:World}{B:Nat}{ev:Value}{es:List Pt}(h:Je6 w B ev es)(M:1≤es.length):∃ g cap,ev=.slice (some ⟨g,0,none⟩) es.length cap∧B≤g∧g<w.heap.size∧es.length≤cap∧∀ k p,es[k]?=some p→Qi w g (0+k*7) p:=by
 rcases h with⟨_,⟨_,A⟩|⟨g,cap,K,D,A,C,E,R,U,H⟩⟩
 ·omega
 refine⟨g,cap,D,A,Jd C,E,fun k p z=>?_⟩
 have O:k<es.length:=(Ob9.1 z).1
 have y:∀ i,i<7→w.cell? ⟨g,k*7+i,none⟩=(ptC p)[i]?:=fun i hi=>by
  have:=Jek ptC 7 (fun _=>rfl) es k i p z hi
  rw[←H,Oe7,if_pos (by omega),Oe6]at this
  rw[←this]
  simp[World.cell?,C]
 rw[Od0]
 exact⟨y 0 (by omega),y 1 (by omega),y 2 (by omega),y 3 (by omega),y 4 (by omega),y 5 (by omega),y 6 (by omega)⟩
theorem Jpi {sch:List Int}{es:List Pt}{m:Nat}{p:Pt}(y:es.length=m+1)(z:es[m]?=some p):Jbk sch es=tyP sch p:=by
 unfold Jbk
 rw[y,Nat.add_sub_cancel,Oa0,Ob1,z]
 rfl
theorem Jth (g cap m:Nat)(p:Pt)(sch:List Int)(U:Option Addr)(bI:Nat)(w:World)(bA:Qi w g (0+m*7) p)(bJ:m≤1000)(bc:Kc w U sch)(A:p.op=0→0≤p.c∧p.c<sch.length) :
  Calls prog 25 #[.slice (some ⟨g,0,none⟩) (m+1) cap,.slice U sch.length bI] w fun e w'=>e=.returned (.int .i64 (tyP sch p))∧Below w.heap.size w w':=by
 obtain⟨bi,bj,bl,bn,br,bu,bx⟩:=bA
 rw[Od0]at bi bj bl bn br bu bx
 have X:Hid (Kc w U sch∧(p.op=0→0≤p.c∧p.c<sch.length)):=⟨bc,A⟩
 have bD:wrap64 (((m+1:Nat):Int)-1)=(m:Int):=by unfold wrap64;omega
 have bE:(0:Int)≤(m:Int):=by omega
 have bG:(m:Int)<((m+1:Nat):Int):=by omega
 obtain⟨y,R⟩:∃ y,y=tyP sch p:=⟨_,rfl⟩
 rw[←R]
 have H:Hid (y=tyP sch p):=R
 clear bc A R
 go_enter func25,ntmps25
 go_upto_region 2 with fail
 have O:=heap_alloc_new w (.cells #[.int .i64 p.op,.int .i64 p.l,.int .i64 p.r,.int .i64 p.c,.int .i64 p.v.k,.int .i64 p.v.n,.string p.v.s] 51)
 have K:Below w.heap.size w (w.alloc (.cells #[.int .i64 p.op,.int .i64 p.l,.int .i64 p.r,.int .i64 p.c,.int .i64 p.v.k,.int .i64 p.v.n,.string p.v.s] 51)):=Jc (Oa5 _ _) _
 generalize w.alloc (.cells #[.int .i64 p.op,.int .i64 p.l,.int .i64 p.r,.int .i64 p.c,.int .i64 p.v.k,.int .i64 p.v.n,.string p.v.s] 51)=bz at O K ⊢
 obtain⟨bh,bN,bO,bH,bP,bQ,bR⟩:=Ui O
 have C:Hid (Below w.heap.size w bz):=K
 clear O K bi bj bl bn br bu bx bD bE bG
 by_cases h0:p.op=0
 ·obtain⟨c1,c2⟩:=X.out.2 h0
  obtain⟨c,A⟩:∃ c:Nat,p.c=(c:Int):=⟨p.c.toNat,by omega⟩
  have M:c<sch.length:=by omega
  obtain⟨bS,bT,bB,bK,bC⟩:=Kc.at (X.out.1.below C.out) M
  have bf:sch[c]=y:=by rw[H.out];unfold tyP;rw[if_pos h0,A,Int.toNat_natCast,Oa0,Oa3 M];rfl
  rw[bf]at bC
  rw[A]at bH
  rw[h0]at bh
  subst bB
  have bL:(0:Int)≤(c:Int):=by omega
  have bM:(c:Int)<(sch.length:Int):=by omega
  clear bf A c1 c2 h0 M
  go_wp2
  go_ret
  exact⟨rfl,C.out⟩
 by_cases E:p.op=1
 ·have z:y=p.c:=by rw[H.out];unfold tyP;rw[if_neg h0,if_pos E]
  rw[E]at bh
  have D:Hid (y=p.c):=z
  clear z h0 E
  go_wp2
  go_ret
  exact⟨by rw[D.out];rfl,C.out⟩
 by_cases Z:p.op≤5
 ·have z:y=1:=by rw[H.out];unfold tyP;rw[if_neg h0,if_neg E,if_pos Z]
  have D:Hid (y=1):=z
  clear z
  go_wp2
  go_ret
  exact⟨by rw[D.out];rfl,C.out⟩
 have z:y=2:=by rw[H.out];unfold tyP;rw[if_neg h0,if_neg E,if_neg Z]
 have D:Hid (y=2):=z
 clear z
 go_wp2
 go_ret
 exact⟨by rw[D.out];rfl,C.out⟩
theorem Ka7 {sch T:List Int}{m:Nat}:Jeg sch T (m+1) ⟨11,(m:Int),0,0,Jf⟩:=
 ⟨⟨by show (0:Int)≤11;omega,by show (11:Int)≤11;omega,fun h=>absurd h (by show ¬ (11:Int)=0;omega),fun h=>absurd h (by show ¬ (11:Int)=1;omega),fun _=>⟨by show (0:Int)≤(m:Int);omega,by show (m:Int)<((m+1:Nat):Int);omega⟩,fun _ h=>absurd h (by show ¬ (11:Int)≤9;omega)⟩,fun _=>⟨by show (0:Int)≤0;omega,by show (0:Int)<((m+1:Nat):Int);omega⟩,fun h=>absurd h (by show ¬ (11:Int)=1;omega),fun _ h=>absurd h (by show ¬ (11:Int)≤5;omega),fun _ h=>absurd h (by show ¬ (11:Int)≤7;omega),fun _ h=>absurd h (by show ¬ (11:Int)≤9;omega),fun h=>absurd h (by show ¬ (11:Int)=10;omega)⟩
def Kie (sch:List Int)(w:World):Ending→World→Prop:=fun e w'=>∃ (ev:Value) (es:List Pt),e=.returned ev∧Je6 w' w.heap.size ev es∧Uj sch es∧1≤es.length∧es.length≤12∧Jbk sch es=2∧Below w.heap.size w w'
theorem Jm3 (z:List Pt)(bc:Option Addr)(M:Nat)(sch:List Int)(O:Option Addr)(bz:Nat)(w:World)(hR:Jfe w bc z)(br:∀ p∈z,Jko p)(bW:z.length≤maxLen)(ch:z.length≤M)(bh:Kc w O sch)(bX:1≤sch.length)(bY:sch.length≤1000)(bJ:∀ i,i<sch.length→Jpr (sch.getD i 0)) :
  Calls prog 8 #[.slice bc z.length M,.slice O sch.length bz] w (Kie sch w):=by
 have bP:∃ A:List Pt,A.length≤11∧(A=z∨(12≤z.length∧A.length=11))∧Jfe w bc A∧(∀ p∈A,Jko p):=by
  by_cases h:z.length≤11
  ·exact⟨z,h,.inl rfl,hR,br⟩
  refine⟨z.take 11,by rw[Oc7];omega,.inr ⟨by omega,by rw[Oc7];omega⟩,fun k p H=>?_,fun p C=>br p (Om9 C)⟩
  rw[Oe7]at H
  split at H
  ·exact hR k p H
  cases H
 obtain⟨A,bV,bL,bC,bG⟩:=bP
 have bn:=Joq A bc M sch O bz w bC bG (by unfold maxLen;omega) bh bX bY bJ
 have bN:Hid (Kc w O sch):=bh
 clear hR br bh bJ bC bG
 unfold maxLen at bW
 obtain⟨n,hn⟩:∃ n,n=A.length:=⟨_,rfl⟩
 rw[←hn]at bn
 have bM:Hid (n≤11):=by show _≤_;omega
 have hcut:(z.length=n∧¬ 12≤z.length)∨(12≤z.length∧n=11):=by
  rcases bL with h|h
  ·left;rw[h]at hn;exact⟨hn.symm,by rw[←h];omega⟩
  right;exact⟨h.1,by omega⟩
 clear bL bV hn
 rcases hcut with⟨U,D⟩|⟨U,D⟩
 focus
  rw[U]at D ⊢
  have bO:¬ (12:Int)≤(n:Int):=by omega
  clear U D
 rotate_left 1
 focus
  subst D
  have bO:(12:Int)≤(z.length:Int):=by omega
  have cb:(11:Int)≤(M:Int):=by omega
  have cc:11≤M:=by omega
  clear U
 all_goals
  go_enter func8,ntmps8
  go_upto_region 4 with(go_at_call 9;refine bn.mono ?_;rintro bB bf ⟨ev,es,rfl,bu,bx,bE,bQ,bR,bi⟩)
  obtain⟨g,cap,bl,bS,bT,bU,bD⟩:=Je6.at bu bE
  obtain⟨m,X⟩:∃ m,es.length=m+1:=⟨es.length-1,by omega⟩
  have C:es[m]?=some es[m]:=Oa3 (by omega)
  obtain⟨p,bH⟩:∃ p,p=es[m]:=⟨_,rfl⟩
  rw[←bH]at C
  have bI:=bx m p C
  have Z:=Jth g cap m p sch O bz bf (bD m p C) (by omega) (bN.out.below bi) bI.ok.col
  rw[X]at bl
  have y:Hid (Je6 bf w.heap.size (.slice (some ⟨g,0,none⟩) (m+1) cap) es∧Uj sch es∧es.length=m+1∧m+1≤11∧Jbk sch es=tyP sch p∧Below w.heap.size w bf):=⟨by rw[←bl];exact bu,bx,X,by have:=bM.out;omega,Jpi X C,bi⟩
  subst bl
  clear bu bx bE bQ bR bi bS bT bU bD X C bH bI bn
  obtain⟨bA,bK⟩:∃ bA,bA=tyP sch p:=⟨_,rfl⟩
  rw[←bK]at Z y
  clear bK
  by_cases D:bA=2
  ·subst D
   go_wp2_with (go_at_call 25;refine Z.mono ?_;rintro bB K ⟨rfl,E⟩)
   go_ret
   exact⟨_,es,rfl,Jl y.out.1 fun k e=>E.block k (Je y.out.1 e).2,y.out.2.1,by have:=y.out.2.2.1;omega,by have:=y.out.2.2.1;have:=y.out.2.2.2.1;omega,y.out.2.2.2.2.1,Jb y.out.2.2.2.2.2 E⟩
  go_upto_region 6 with(go_at_call 25;refine Z.mono ?_;rintro bB K ⟨rfl,E⟩)
  have R:Hid (Je6 K w.heap.size (.slice (some ⟨g,0,none⟩) (m+1) cap) es∧Below w.heap.size w K):=⟨Jl y.out.1 fun k e=>E.block k (Je y.out.1 e).2,Jb y.out.2.2.2.2.2 E⟩
  have cf:m+1≤11:=y.out.2.2.2.1
  have ci:wrap64 (((m+1:Nat):Int)-1)=(m:Int):=by unfold wrap64;omega
  clear E Z
  go_wp2_with (at_builtin;go_must (refine Jcf (by rfl) _ _ (by rfl) w.heap.size _ es (by rfl) (Jbm R.out.1 _) K.heap.size 1 ⟨11,(m:Int),0,0,Jf⟩ (by rfl) (by exact Jk3 K ⟨11,(m:Int),0,0,Jf⟩) (by have:=y.out.2.2.1;omega) (by have:=R.out.2.size;simp;omega) ?_);intro ev' w4 bZ ca cj)
  go_ret
  have bj:=y.out.2.2.1
  refine⟨ev',es++[⟨11,(m:Int),0,0,Jf⟩],rfl,bZ,y.out.2.1.snoc (by rw[bj];exact Ka7),by rw[Oa8,List.length_singleton];omega,by rw[Oa8,List.length_singleton];omega,?_,Jy (Jc R.out.2 _) ca fun k H=>(Je R.out.1 H).1⟩
  rw[Jpi (m:=m+1) (p:=⟨11,(m:Int),0,0,Jf⟩) (by rw[Oa8,List.length_singleton,bj]) (by rw[Ob6 (by omega),bj,Oe1];rfl)]
  rfl
end Go.Proofs.YtjjdldddcegjiaaGreatDoor
