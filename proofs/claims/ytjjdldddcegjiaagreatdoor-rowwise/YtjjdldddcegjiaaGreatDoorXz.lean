/- The type of an expression, as the program tells it. -/
import Derived.Test.YtjjdldddcegjiaaGreatDoorXp
import Derived.Test.YtjjdldddcegjiaaGreatDoorHc
set_option maxHeartbeats 4000000
set_option maxRecDepth 100000
namespace Go.Proofs.YtjjdldddcegjiaaGreatDoor
open Go.RowKit Go.Shelf Tryz
attribute [local go_sem] Oc0
def Jbk (sch:List Int)(es:List Pt):Int:=(es.map (tyP sch)).getD (es.length-1) 0
theorem Kc6 (sch:List Int)(es:List Pt)(j k:Nat)(y:k<j):(es.map (tyP sch)).getD k 0=((es.take j).map (tyP sch)).getD k 0:=by
 rw[Oa0,Oa0,Ob1,Ob1,Oe7,if_pos y]
structure TyS (w:World) (cv ev:Value) (sch:List Int) (es:List Pt) (j:Nat) (wr:World):Prop where
 ty:Jg6 wr w.heap.size cv ev
 own:Jo wr (w.heap.size+1) 3 ev (((es.take j).map (tyP sch)).map iv)
 low:Below w.heap.size w wr
theorem TyS.below {w:World}{z ev:Value}{sch:List Int}{es:List Pt}{j:Nat}{wr W:World}(h:TyS w z ev sch es j wr)(y:Below wr.heap.size wr W):TyS w z ev sch es j W:=
 ⟨(y.block _ (Jd h.ty)).trans h.ty,Jl h.own fun g e=>y.block g (Je h.own e).2,Jb h.low y⟩
theorem TyS.more {w:World}{y ev ev':Value}{sch:List Int}{es:List Pt}{j:Nat}{wr w4:World}(h:TyS w y ev sch es j wr){p:Pt}(M:es[j]?=some p)(C:Jo w4 (w.heap.size+1) 3 ev' (((es.take j).map (tyP sch)).map iv++[iv (tyP sch p)]))(A:wr.grownBy w4 ev.ownBlock) :
  TyS w y ev' sch es (j+1) (w4.setCell ⟨w.heap.size,1,none⟩ ev')∧Jg6 w4 w.heap.size y ev:=by
 have K:ev.ownBlock≠some w.heap.size:=fun e=>by have:=(Je h.own e).1;omega
 have z:Jg6 w4 w.heap.size y ev:=(A.block _ (Jd h.ty) (Oc5 K)).trans h.ty
 obtain⟨E,O⟩:=Ob9.1 M
 have hs:=Jk z 1 ev'
 simp only[Oa1,List.set_cons_zero,List.set_cons_succ]at hs
 refine⟨⟨hs,?_,?_⟩,z⟩
 ·rw[Oc4 E,O,Ob8,Ob8]
  exact Jl C fun g D=>Oa4 _ _ _ _ (by have:=(Je C D).1;simp;omega)
 exact(Jy h.low A fun k H=>by have:=(Je h.own H).1;omega).setCell (p:=⟨w.heap.size,1,none⟩) (by simp) _
theorem Jts (bl bn cb:Nat)(es:List Pt)(A:Option Addr)(E:Nat)(sch:List Int)(w:World)
  (bC:∀ k p,es[k]?=some p→Qi w bl (bn+k*7) p) (bB:Kc w A sch) (bN:Uj sch es) (cn:1≤es.length) (cr:es.length≤12) :
  Calls prog 141 #[.slice (some ⟨bl,bn,none⟩) es.length cb,.slice A sch.length E] w fun e w'=>e=.returned (.tuple #[.int .i64 (Jbk sch es),.nilIface])∧Below w.heap.size w w':=by
 have X:Hid ((∀ k p,es[k]?=some p→Qi w bl (bn+k*7) p)∧Kc w A sch∧Uj sch es):=⟨bC,bB,bN⟩
 clear bC bB bN
 go_enter func141,ntmps141
 go_upto_region 4 with fail
 have bc:TyS w (.slice A sch.length E) (.slice none 0 0) sch es 0 (w.alloc (.cells #[.slice A sch.length E,.slice none 0 0] 341)):=⟨heap_alloc_new w _,Jo.nil _ _ _,Jc (Oa5 _ _) _⟩
 generalize w.alloc (.cells #[.slice A sch.length E,.slice none 0 0] 341)=cf at bc ⊢
 have bT:Hid _:=bc
 clear bc
 go_wp2
 go_loopw [28] (fun i wr=>∃ (j:Nat) (ev:Value),j≤es.length∧i=.int .i64 (j:Int)∧TyS w (.slice A sch.length E) ev sch es j wr) (fun i _=>es.length-(intOf i).toNat)
 case atStart=>exact⟨0,_,Ob7 _,rfl,bT.out⟩
 case round=>
  obtain⟨j,ev,bh,rfl,C⟩:=hrel
  have br:Hid _:=C
  obtain⟨bU,bA,bH,H⟩:=C.own.cells
  rw[Oa6,Oa6,Oc7,Oj1 bh]at bH
  subst bH
  by_cases bi:j<es.length
  ·obtain⟨p,U⟩:∃ p,es[j]?=some p:=⟨_,Oa3 bi⟩
   obtain⟨cA,cB,cC,cD,cE,cF,cG⟩:=(X.out.1 j p U).below C.low
   have bK:=X.out.2.2 j p U
   have O:((es.take j).map (tyP sch)).length=j:=by rw[Oa6,Oc7,Oj1 bh]
   have R:Below wr.heap.size wr (Zj wr p):=Jc (Oa5 _ _) _
   have bf:=C.below R
   have bE:=Ke5 w.heap.size A E sch bU bA ((es.take j).map (tyP sch)) (es.map (tyP sch)) p (Zj wr p) (by rw[O];exact bf.ty) (X.out.2.1.below bf.low) (Uh.below H R) (fun k bI=>Kc6 sch es j k (by rw[O]at bI;exact bI)) (by rw[O];exact bK)
   have K:Hid (es[j]?=some p∧j<es.length):=⟨U,bi⟩
   have bR:Hid (Below wr.heap.size wr (Zj wr p)):=R
   obtain⟨z,D⟩:∃ z,z=tyP sch p:=⟨_,rfl⟩
   rw[←D]at bE
   have Z:Hid (z=tyP sch p):=D
   clear C bf R H O bK U D
   go_wp2_with (first|(go_at_call 183;refine bE.mono ?_;rintro cj bu ⟨rfl,bX⟩;have M:Hid _:=br.out.below (Jb bR.out bX);obtain⟨_,c1⟩:=M.out.ty.cells)|(at_builtin;go_must (refine Ks (by rfl) _ _ 22 3 _ 8 Zw (by rfl) (by decide) (by kernel_rfl) (by rfl) (w.heap.size+1) _ _ (by rfl) (Jo.alloc M.out.own _) ⟨bu.heap.size,0,none⟩ 1 [iv z] (by rfl) (by exact Ua bu _ _) (by intro u bO;simp at bO;subst bO;rfl) (by simp only[List.length_cons,List.length_nil,Oa6,Oc7];omega) (by simp;have:=Jd M.out.ty;omega) ?_);intro sv' w4 bQ cc cz;go_must (obtain⟨bV,bD⟩:=(M.out.below (Jc (Oa5 _ _) _)).more (ev':=sv') (w4:=w4) K.out.1 (by rw[←Z.out];exact bQ) cc);obtain⟨ch,c5,bL,_⟩:=bQ.cells;obtain⟨bP,bJ⟩:∃ bP,bP=(((es.take j).map (tyP sch)).map iv++[iv z]).length:=⟨_,rfl⟩;rw[←bJ]at bL;clear bJ;subst bL;obtain⟨_,ci⟩:=bD.cells;have cl:w4.frozen? ⟨w.heap.size,1,none⟩=false:=(by simp[World.frozen?,show w4.heap[w.heap.size]?=_ from bD])))
   go_roundw
   case rel=>exact⟨j+1,_,K.out.2,by have:=K.out.2;go_num,bV⟩
   case measure=>have:=K.out.2;simp[intOf];omega
  obtain rfl:j=es.length:=by omega
  rw[Of2]at H
  obtain⟨m,bZ⟩:∃ m,es.length=m+1:=⟨es.length-1,by omega⟩
  have bj:m<(es.map (tyP sch)).length:=by rw[Oa6];omega
  obtain⟨bz,eo,rfl,bY,bG⟩:=Kc.at H bj
  obtain⟨z,D⟩:∃ z,z=Jbk sch es:=⟨_,rfl⟩
  have bM:(es.map (tyP sch))[m]=z:=by
   rw[D]
   unfold Jbk
   rw[show es.length-1=m by omega,Oa0,Oa3 bj]
   rfl
  rw[bM]at bG
  have Z:Hid (Jbk sch es=z):=D.symm
  obtain⟨_,c1⟩:=C.ty.cells
  have ca:IntKind.i64.wrap ((es.length:Int)-1)=(m:Int):=by rw[Od4];omega
  obtain⟨n,hn⟩:∃ n,n=es.length:=⟨_,rfl⟩
  rw[←hn]at c1 ca ⊢
  have cx:(0:Int)≤(m:Int):=by omega
  have cy:(m:Int)<(n:Int):=by omega
  have cu:m≤11:=by omega
  have cv:n≤12:=by omega
  have bS:Hid (Below w.heap.size w wr):=C.low
  clear bM D bj bZ H C br bi bh bY hn
  go_upto_region 12 with fail
  refine wp_region_held_drew (S:=fun bx=>bx.cell? ⟨w.heap.size,1,none⟩=some (.slice (some ⟨bz,eo,none⟩) n bA)∧bx.cell? ⟨bz,eo+m,none⟩=some (.int .i64 z)) (by kernel_rfl) ⟨Jh c1,Jh bG⟩ (fun y=>?_)
  refine tk 0 ?_ rfl y ?_ (tk 1 ?_ rfl y ?_ (tk 2 ?_ rfl y ?_ (tk 3 ?_ rfl y ?_ (tk 4 ?_ rfl y ?_ (tk 5 ?_ rfl y ?_ (tk 6 ?_ rfl y ?_ (tk 7 ?_ rfl y ?_ (tk 8 ?_ rfl y ?_ (tk 9 ?_ rfl y ?_ (tk 10 ?_ rfl y ?_ (tk 11 ?_ rfl y ?_ (tk 12 ?_ rfl y ?_ (tk 13 ?_ rfl y ?_ ?_)))))))))))))
  iterate 14
   rotate_left 1
   ·intro w bW;(try dsimp only at bW);go_simp;try rfl
  simp only[Act.put,List.getElem_toArray,List.getElem_cons_zero,List.getElem_cons_succ,Oa1,List.set_cons_zero,List.set_cons_succ]
  refine wpAnyH_done (by kernel_rfl) ?_ _
  go_wp2
  exact bodyPost_ret (v:=.tuple #[.int .i64 z,.nilIface]) (by simp[results,results141,go_sem]) rfl ⟨by rw[Z.out],Jj bS.out⟩
attribute [local go_sem] Oc0
theorem Kbe (n:ByteArray)(w:World)(G:Nat→Prop)(s d:Nat)(Ts:List TS)(sv:Value)(bs:List Nat)(h:Jfl w G s d Ts sv bs)(k:Nat)(K:Ub Ts n=k)(O:k<Ts.length)(z:Ts[k].types≠[])(M:Ts[k].types.length≤1000) :
  Calls prog 42 #[.pointer (some ⟨s,0,none⟩),.string n] w fun e w'=>Below w.heap.size w w'∧∃ g c,e=.returned (.tuple #[.slice (some ⟨g,0,none⟩) Ts[k].types.length c,.bool true])∧w.heap.size≤g∧g<w'.heap.size∧Kc w' (some ⟨g,0,none⟩) Ts[k].types:=by
 have hf:=Jo8 n w G s d Ts sv bs h
 have H:Jhc Ts n=(k:Int):=by unfold Jhc;rw[K,if_pos O]
 rw[H]at hf
 obtain⟨b,o,R,c2,A⟩:=h.at O
 obtain⟨_,c1⟩:=h.field
 obtain⟨a,cap,U,_⟩:=h.own.cells
 rw[Oa6,h.len]at U
 subst U
 simp at R
 subst R
 have bB:=h.few
 generalize bs[k]'_=tk at c2 A
 generalize Ts[k]=T at A z M ⊢
 obtain⟨br,X,bE,bG,hs,D⟩:=A
 have C:=D.types
 have c3:w.cell? ⟨tk,1,none⟩=some (.slice br T.types.length X):=by simp[World.cell?,D.cells]
 obtain⟨b2,bn,rfl,_,_⟩:=Kc.at C (i:=0) (Oi9.2 z)
 have E:=fun W (bf:Below w.heap.size w W)=>Jhe b2 bn X T.types W z M (C.below bf)
 have bC:(0:Int)≤(k:Int):=by omega
 have bD:(k:Int)<(Ts.length:Int):=by omega
 have Z:Hid _:=E
 clear D C K H h E
 go_enter func42,ntmps42
 go_wp2_with (first|(go_at_call 56;refine hf.mono ?_;rintro e bc ⟨rfl,y⟩;have bx:=Ja y c1;have bz:=Ja y c2;have bA:=Ja y c3)|(go_at_call 60;refine(Z.out bc y).mono ?_;rintro e bu ⟨bh,g,gc,rfl,bi,bj,bl⟩))
 go_ret2
 exact⟨Jb y bh,g,gc,rfl,Ob2 y.size bi,bj,bl⟩
abbrev Sch:=Option Addr×Nat×List Int
abbrev Jbl (s:Sch):Value:=.slice s.1 s.2.2.length s.2.1
abbrev Kn:=Sch×Bool
def knC (k:Kn):List Value:=[Jbl k.1,.bool k.2]
theorem Jx7 (k:Kn):(knC k).length=2:=rfl
structure Jed (L cb:Nat) (tf ev:Value) (ks:List Kn) (W:World):Prop where
 ck:W.heap[cb]?=some (.cells #[tf,ev] 144 (0,0))
 own:W.ownsRow L 148 2 ev ks.length (ks.flatMap knC)
 ints:∀ k∈ks,Kc W k.1.1 k.1.2.2
 off:∀ k∈ks,∀ g o,k.1.1=some ⟨g,o,none⟩→ev.ownBlock≠some g∧g≠cb∧g<W.heap.size
 low:cb<L
theorem Jed.below {L C:Nat}{E ev:Value}{D:List Kn}{W A:World}(h:Jed L C E ev D W)(z:Below W.heap.size W A):Jed L C E ev D A:=
 ⟨(z.block _ (Jd h.ck)).trans h.ck,Jl h.own fun g e=>z.block g (Je h.own e).2,fun k y=>(h.ints k y).below z,fun k y g o e=>⟨(h.off k y g o e).1,(h.off k y g o e).2.1,Oc2 (h.off k y g o e).2.2 z.size⟩,h.low⟩
theorem Jed.cells {L y:Nat}{z ev:Value}{A:List Kn}{W:World}(h:Jed L y z ev A W):W.cell? ⟨y,0,none⟩=some z∧W.cell? ⟨y,1,none⟩=some ev:=by
 have:=h.ck
 constructor<;>simp[World.cell?,this]
theorem Jed.at {L D:Nat}{bi ev:Value}{y:List Kn}{W:World}(h:Jed L D bi ev y W){i:Nat}(hi:i<y.length) :
  ∃ g cap,ev=.slice (some ⟨g,0,none⟩) y.length cap∧g≠D∧g<W.heap.size∧W.cell? ⟨g,i*2,none⟩=some (Jbl y[i].1)∧W.cell? ⟨g,i*2+1,none⟩=some (.bool y[i].2)∧W.frozen? ⟨g,i*2+1,none⟩=false ∧
   (∀ b,Jed L D bi ev (y.set i (y[i].1,b)) (W.setCell ⟨g,i*2+1,none⟩ (.bool b))):=by
 have bB:=h.low
 rcases h.own with⟨h0,⟨E,R⟩|⟨g,cap,O,E,R,C,br,bu,bx,U⟩⟩
 ·omega
 have Z:∀ j,j<2→O[i*2+j]?=(knC y[i])[j]?:=fun j bA=>by
  have:=Jek knC 2 Jx7 y i j y[i] (Oa3 hi) bA
  rw[←U,Oe7,if_pos (by omega),Oe6]at this
  exact this
 refine⟨g,cap,E,by omega,Jd C,?_,?_,?_,fun b=>?_⟩
 ·have:=Z 0 (by omega)
  simp[World.cell?,C]
  simpa [knC] using this
 ·have:=Z 1 (by omega)
  simp[World.cell?,C]
  simpa [knC] using this
 ·simp[World.frozen?,C]
 have hs:=Jk C (i*2+1) (.bool b)
 have bh:∀ k,k≠g→(W.setCell ⟨g,i*2+1,none⟩ (.bool b)).heap[k]?=W.heap[k]?:=fun k z=>Oa4 _ _ _ _ z
 have bc:∀ k∈y.set i (y[i].1,b),∃ A∈y,k.1=A.1:=fun k z=>by
  rcases List.mem_or_eq_of_mem_set z with h|h
  ·exact⟨k,h,rfl⟩
  exact⟨y[i],Ob3 hi,by rw[h]⟩
 have bC:ev.ownBlock=some g:=by rw[E];rfl
 have X:(y.set i (y[i].1,b)).flatMap knC=(y.flatMap knC).set (i*2+1) (.bool b):=by
  have bl:y=y.take i++y[i]::y.drop (i+1):=by rw[←Oi1 hi,Ok3]
  have K:y.set i (y[i].1,b)=y.take i++(y[i].1,b)::y.drop (i+1):=by
   rw[On0,if_pos hi]
  have bf:((y.take i).flatMap knC).length=i*2:=by rw[Kci knC 2 Jx7,Oc7,Oj1 (by omega)]
  rw[K,Oe8,Og7]
  conv=>rhs;rw[bl,Oe8,Og7]
  rw[Ok4 _ _ (by rw[bf];omega),bf,show i*2+1-i*2=1 by omega]
  rfl
 refine⟨(bh D (by omega)).trans h.ck,⟨?_,.inr ⟨g,cap,O.setIfInBounds (i*2+1) (.bool b),?_,R,hs,?_,bu,?_,?_⟩⟩,fun k z=>?_,fun k z bn o e=>?_,bB⟩
 ·rw[X,Of8,Of8];exact h0
 ·rw[Of8];exact E
 ·rw[Of8];exact br
 ·simpa using bx
 ·rw[X,←U,Of8,Ok0,List.take_set]
 ·obtain⟨A,H,e⟩:=bc k z
  rw[e]
  exact(h.ints A H).of_block (by simp[World.setCell]) fun M bD bj _=>bh M fun bz=>(h.off A H M bD bj).1 (by rw[bC,bz])
 obtain⟨A,H,K⟩:=bc k z
 rw[K]at e
 have:=h.off A H bn o e
 exact⟨this.1,this.2.1,by simpa [World.setCell] using this.2.2⟩
theorem Jr1 (L z:Nat)(E ev:Value)(y:List Kn)(i:Nat)(W:World)(h:Jed L z E ev y W)(hi:i<y.length)(hn:y[i].2=false) :
  Calls prog 140 #[.pointer (some ⟨z,0,none⟩),.int .i64 (i:Int)] W fun e C=>e=.returned (.tuple #[Jbl y[i].1,.nilIface])∧Jed L z E ev (y.set i (y[i].1,true)) C∧W.grownBy C ev.ownBlock∧C.heap.size=W.heap.size:=by
 obtain⟨g,cap,rfl,K,R,H,O,bc,A⟩:=h.at hi
 obtain⟨_,c1⟩:=h.cells
 have A:=A true
 have D:Hid _:=A
 have U:(W.setCell ⟨g,i*2+1,none⟩ (.bool true)).cell? ⟨z,1,none⟩=some (.slice (some ⟨g,0,none⟩) y.length cap):=Uc (fun e=>K (congrArg Addr.block e)) c1
 have M:(W.setCell ⟨g,i*2+1,none⟩ (.bool true)).cell? ⟨g,i*2,none⟩=some (Jbl y[i].1):=Uc (fun e=>by have:=congrArg Addr.off e;simp at this) H
 generalize y[i].1=s at H M D ⊢
 rw[hn]at O
 have X:(0:Int)≤(i:Int):=by omega
 have Z:(i:Int)<(y.length:Int):=by omega
 clear A hn h
 go_enter func140,ntmps140
 go_wp2
 exact bodyPost_ret (v:=.tuple #[Jbl s,.nilIface]) (by simp[results,results140,go_sem]) rfl ⟨rfl,D.out,Ka4 ⟨rfl,rfl,rfl,Oa2 _,fun _ _ _=>rfl⟩ _ _,by simp[World.setCell]⟩
attribute [local go_sem] Oc0
def Jq3 (L z:Nat)(C ev:Value)(A:List Kn)(sch:List Int)(W:World):Ending→World→Prop:=fun e y=>
 ∃ (a:Option Addr) (c:Nat),e=.returned (.tuple #[Jbl (a,c,sch),.nilIface])∧Jed L z C ev A y∧W.grownBy y ev.ownBlock∧Kc y a sch∧∀ g o,a=some ⟨g,o,none⟩→ev.ownBlock≠some g∧g≠z∧g<y.heap.size∧(W.heap.size≤g∨∃ k∈A,k.1.1=some ⟨g,o,none⟩)
theorem Jq3.low {L C:Nat}{H ev:Value}{E:List Kn}{sch:List Int}{W A z:World}{e:Ending}(D:Below W.heap.size W A)(h:Jq3 L C H ev E sch A e z):Jq3 L C H ev E sch W e z:=by
 obtain⟨a,c,K,M,O,R,y⟩:=h
 exact⟨a,c,K,M,Ut (Qq D) O,R,fun g o e=>⟨(y g o e).1,(y g o e).2.1,(y g o e).2.2.1,(y g o e).2.2.2.imp (fun h=>Ob2 D.size h) id⟩⟩
abbrev Jam (w:World)(nd:Nd):World:=(w.alloc (.cells #[.int .i64 nd.op,.int .i64 nd.l,.int .i64 nd.r,.string nd.tn,.slice nd.xs.1 nd.xs.2.1 nd.xs.2.2,.slice nd.ky.1 nd.ky.2.1 nd.ky.2.2,.int .i64 nd.kk] 46))
theorem Jh0 (w:World)(nd:Nd):Zm (Jam w nd) w.heap.size 0 nd:=by
 have:=heap_alloc_new w (.cells #[.int .i64 nd.op,.int .i64 nd.l,.int .i64 nd.r,.string nd.tn,.slice nd.xs.1 nd.xs.2.1 nd.xs.2.2,.slice nd.ky.1 nd.ky.2.1 nd.ky.2.2,.int .i64 nd.kk] 46)
 refine⟨?_,?_,?_,?_,?_,?_,?_⟩<;>(unfold World.cell?;rw[this];rfl)
theorem Kc7 (L A s:Nat)(ev:Value)(R:List Kn)(nd:Nd)(sch:List Int)(w:World)(h:Jed L A (.func (.func 42) #[.pointer (some ⟨s,0,none⟩)] #[]) ev R w)
  (O:∀ z,Below w.heap.size w z→Calls prog 42 #[.pointer (some ⟨s,0,none⟩),.string nd.tn] z fun e w'=>Below z.heap.size z w'∧∃ g c,e=.returned (.tuple #[.slice (some ⟨g,0,none⟩) sch.length c,.bool true])∧z.heap.size≤g∧g<w'.heap.size∧Kc w' (some ⟨g,0,none⟩) sch) :
  Calls prog 107 #[.pointer (some ⟨A,0,none⟩),nd.val] w (Jq3 L A (.func (.func 42) #[.pointer (some ⟨s,0,none⟩)] #[]) ev R sch w):=by
 have U:Hid _:=O
 have C:Hid _:=h
 obtain⟨c0,_⟩:=h.cells
 have K:Below w.heap.size w (Jam w nd):=Jc (Oa5 _ _) _
 obtain⟨_,_,_,b3,_,_,_⟩:=Jh0 w nd
 clear h O
 go_enter func107,ntmps107
 go_upto_region 1 with fail
 refine wp_region_held_drew (S:=fun z=>z.cell? ⟨A,0,none⟩=some (.func (.func 42) #[.pointer (some ⟨s,0,none⟩)] #[])∧z.cell? ⟨w.heap.size,3,none⟩=some (.string nd.tn)) (by kernel_rfl) ⟨Jh (Kf c0),Jh b3⟩ (fun y=>?_)
 refine tk 0 ?_ rfl y ?_ (tk 1 ?_ rfl y ?_ (tk 2 ?_ rfl y ?_ (tk 3 ?_ rfl y ?_ (tk 4 ?_ rfl y ?_ (tk 5 ?_ rfl y ?_ ?_)))))
 iterate 6
  rotate_left 1
  ·intro w D;(try dsimp only at D);go_simp;try rfl
 simp only[Act.put,List.getElem_toArray,List.getElem_cons_zero,List.getElem_cons_succ,Oa1,List.set_cons_zero,List.set_cons_succ]
 refine wpAnyH_ready (rs:=[6]) (by kernel_rfl) (by simp) (AllReadyH.cons rfl (fun X H=>?_) AllReadyH.nil)
 go_simp
 refine(U.out (Jam w nd).drew (Jj K)).mono ?_
 rintro e Z ⟨E,g,gc,rfl,bc,bf,bh⟩
 go_simp
 refine H.out _ _ ⟨Ja E y.1,Ja E y.2⟩ (fun y=>?_)
 clear H X
 refine tk 7 ?_ rfl y ?_ (tk 8 ?_ rfl y ?_ (tk 9 ?_ rfl y ?_ (tk 10 ?_ rfl y ?_ (tk 11 ?_ rfl y ?_ ?_))))
 iterate 5
  rotate_left 1
  ·intro w D;(try dsimp only at D);go_simp;try rfl
 simp only[Act.put,List.getElem_toArray,List.getElem_cons_zero,List.getElem_cons_succ,Oa1,List.set_cons_zero,List.set_cons_succ]
 refine wpAnyH_done (by kernel_rfl) ?_ _
 have M:Below w.heap.size w Z:=Jb (Jj K) E
 have bi:w.heap.size<g:=by have:(Jam w nd).drew.heap.size=w.heap.size+1:=(by simp[World.drew]);omega
 clear bc
 go_wp2
 refine bodyPost_ret (v:=.tuple #[Jbl (some ⟨g,0,none⟩,gc,sch),.nilIface]) (by simp[results,results107,go_sem]) rfl ⟨some ⟨g,0,none⟩,gc,rfl,C.out.below M,Qq M,bh,fun bj o e=>?_⟩
 cases e
 exact⟨fun e=>by have:=(Je C.out.own e).2;omega,by have:=Jd C.out.ck;omega,bf,.inl (Nat.le_of_lt bi)⟩
def Jm5 (op:Int):Nat:=if op=0 then 107 else if op=1 then 108 else if op=2 then 109 else if op=3 then 110 else if op=4 then 111 else if op=5 then 112 else if op=6 then 113 else 114
abbrev Jwq (y:Nat):Array Value:=#[.func (.func 107) #[.pointer (some ⟨y,0,none⟩)] #[],.func (.func 108) #[.pointer (some ⟨y,0,none⟩)] #[],.func (.func 109) #[.pointer (some ⟨y,0,none⟩)] #[],.func (.func 110) #[.pointer (some ⟨y,0,none⟩)] #[],.func (.func 111) #[.pointer (some ⟨y,0,none⟩)] #[],.func (.func 112) #[.pointer (some ⟨y,0,none⟩)] #[],.func (.func 113) #[.pointer (some ⟨y,0,none⟩)] #[],.func (.func 114) #[.pointer (some ⟨y,0,none⟩)] #[]]
theorem Jvy (op:Int)(args:Array Value)(W:World):(callFunc (Jm5 op) args).run prog W=.ok (.enter (Jm5 op) args) W:=by
 unfold Jm5
 repeat' split
 all_goals kernel_rfl
theorem Kgg (y n:Nat)(z:n<8):(Jwq y)[n]?=some (.func (.func (Jm5 (n:Int))) #[.pointer (some ⟨y,0,none⟩)] #[]):=by
 have:n=0∨n=1∨n=2∨n=3∨n=4∨n=5∨n=6∨n=7:=by omega
 rcases this with rfl|rfl|rfl|rfl|rfl|rfl|rfl|rfl<;>rfl
theorem Jxd (y:Nat)(w:World):Calls prog 80 #[.pointer (some ⟨y,0,none⟩)] w fun e w'=>e=.returned (.agg (Jwq y))∧Below w.heap.size w w':=by
 have z:∀ (f:Nat) (a:Addr) (W:World),(store a (.func (.func f) #[.pointer (some ⟨y,0,none⟩)] #[])).run prog W=stored prog W a (.func (.func f) #[.pointer (some ⟨y,0,none⟩)] #[]) .plain:=fun f a W=>run_store _ _ _ _ _ rfl
 go_enter func80,ntmps80
 go_wp2
 exact bodyPost_ret (v:=.agg (Jwq y)) (by simp[results,results80,go_sem]) rfl ⟨rfl,(by repeat (first|exact Oa5 _ _|refine Jc ?_ _|refine Jj ?_))⟩
theorem Kbz (A:Nat)(nd:Nd)(w:World)(Q:World→Value→World→Prop)(h0:0≤nd.op)(bM:nd.op≤7)
  (bu:∀ y,Below w.heap.size w y→Calls prog (Jm5 nd.op) #[.pointer (some ⟨A,0,none⟩),nd.val] y fun e w'=>∃ a b,e=.returned (.tuple #[a,b])∧Q y (.tuple #[a,b]) w'∧y.heap.size≤w'.heap.size∧∀ k,w.heap.size≤k→k<y.heap.size→w'.heap[k]?=y.heap[k]?) :
  Calls prog 61 #[.pointer (some ⟨A,0,none⟩),nd.val] w fun e w'=>∃ y,Below w.heap.size w y∧∃ v,e=.returned v∧Q y v w':=by
 have R:Hid _:=bu
 clear bu
 obtain⟨n,hn⟩:∃ n:Nat,nd.op=(n:Int):=⟨nd.op.toNat,by omega⟩
 have bQ:n<8:=by omega
 have bH:Hid (nd.op=(n:Int)):=hn
 clear hn h0 bM
 have bR:∀ (f:Nat) (a:Addr) (y:World),(store a (.func (.func f) #[.pointer (some ⟨A,0,none⟩)] #[])).run prog y=stored prog y a (.func (.func f) #[.pointer (some ⟨A,0,none⟩)] #[]) .plain:=fun f a y=>run_store _ _ _ _ _ rfl
 have bi:Below w.heap.size w (Jam w nd):=Jc (Oa5 _ _) _
 have bx:=Jh0 w nd
 have br:=Jxd A (Jam w nd)
 go_enter func61,ntmps61
 go_upto_region 2 with(go_at_call 80;refine br.mono ?_;rintro e C ⟨rfl,O⟩)
 have hn:=bH.out
 have X:Below C.heap.size C (C.alloc (.cells (Jwq A) 185)):=Jc (Oa5 _ _) _
 have K:=heap_alloc_new C (.cells (Jwq A) 185)
 have bz:=(bx.below O).below X
 have Z:Below w.heap.size w (C.alloc (.cells (Jwq A) 185)):=Jb (Jb bi O) X
 have bj:w.heap.size<C.heap.size:=Oc2 (by simp) O.size
 obtain⟨M,bl⟩:∃ M,M=C.heap.size:=⟨_,rfl⟩
 rw[←bl]at K bj ⊢
 clear bl
 generalize C.alloc (.cells (Jwq A) 185)=E at K bz Z ⊢
 obtain⟨bc,bA,bB,bC,bD,bE,bG⟩:=bz
 simp only[Od0]at bA bB bC bD bE bG
 rw[hn]at bc
 have bn:E.cell? ⟨M,n,none⟩=some (.func (.func (Jm5 nd.op)) #[.pointer (some ⟨A,0,none⟩)] #[]):=by
  have:=Kgg A n bQ
  rw[←hn]at this
  rw[←this]
  simp only[World.cell?,K]
  rfl
 have bO:=Jvy nd.op
 obtain⟨f,hf⟩:∃ f,f=Jm5 nd.op:=⟨_,rfl⟩
 rw[←hf]at bn bO R
 rw[Nd.val,hn]at R
 have bW:(0:Int)≤(n:Int):=by omega
 have bX:(n:Int)<8:=by omega
 have bP:M<E.heap.size:=Jd K
 have H:w.heap.size<E.heap.size:=by have:=Jm bc;exact this
 clear hf hn X O br bx K bi bR C
 go_upto_region 4 with fail
 refine wp_region_held_drew (S:=fun y=>y.cell? ⟨w.heap.size,0,none⟩=some (.int .i64 (n:Int))∧y.cell? ⟨w.heap.size,1,none⟩=some (.int .i64 nd.l)∧y.cell? ⟨w.heap.size,2,none⟩=some (.int .i64 nd.r)∧y.cell? ⟨w.heap.size,3,none⟩=some (.string nd.tn)∧y.cell? ⟨w.heap.size,4,none⟩=some (.slice nd.xs.1 nd.xs.2.1 nd.xs.2.2)∧y.cell? ⟨w.heap.size,5,none⟩=some (.slice nd.ky.1 nd.ky.2.1 nd.ky.2.2)∧y.cell? ⟨w.heap.size,6,none⟩=some (.int .i64 nd.kk)∧y.cell? ⟨M,n,none⟩=some (.func (.func f) #[.pointer (some ⟨A,0,none⟩)] #[])) (by kernel_rfl) ⟨Jh bc,Jh bA,Jh bB,Jh bC,Jh bD,Jh bE,Jh bG,Jh bn⟩ (fun z=>?_)
 refine tk 0 ?_ rfl z ?_ (tk 1 ?_ rfl z ?_ (tk 2 ?_ rfl z ?_ (tk 3 ?_ rfl z ?_ (tk 4 ?_ rfl z ?_ ?_))))
 iterate 5
  rotate_left 1
  ·intro w U;(try dsimp only at U);go_simp;try rfl
 simp only[Act.put,List.getElem_toArray,List.getElem_cons_zero,List.getElem_cons_succ,Oa1,List.set_cons_zero,List.set_cons_succ]
 refine wpAnyH_ready (rs:=[5]) (by kernel_rfl) (by simp) (AllReadyH.cons rfl (fun bI bh=>?_) AllReadyH.nil)
 go_simp
 refine(R.out E.drew (Jj Z)).mono ?_
 rintro e bf ⟨bT,bU,rfl,bN,bV,bS⟩
 have D:∀ (g o:Nat) (u:Value),w.heap.size≤g→g<E.heap.size→E.drew.cell? ⟨g,o,none⟩=some u→bf.cell? ⟨g,o,none⟩=some u:=fun g o u bJ bK bL=>by
  rw[←bL]
  unfold World.cell?
  rw[show bf.heap[(⟨g,o,none⟩:Addr).block]?=E.drew.heap[(⟨g,o,none⟩:Addr).block]? from bS g bJ bK]
 go_simp
 refine bh.out _ _ ⟨D _ _ _ (Oa2 _) H z.1,D _ _ _ (Oa2 _) H z.2.1,D _ _ _ (Oa2 _) H z.2.2.1,D _ _ _ (Oa2 _) H z.2.2.2.1,D _ _ _ (Oa2 _) H z.2.2.2.2.1,D _ _ _ (Oa2 _) H z.2.2.2.2.2.1,D _ _ _ (Oa2 _) H z.2.2.2.2.2.2.1,D _ _ _ (Nat.le_of_lt bj) bP z.2.2.2.2.2.2.2⟩ (fun z=>?_)
 clear bh bI
 refine tk 6 ?_ rfl z ?_ (tk 7 ?_ rfl z ?_ (tk 8 ?_ rfl z ?_ (tk 9 ?_ rfl z ?_ ?_)))
 iterate 4
  rotate_left 1
  ·intro w U;(try dsimp only at U);go_simp;try rfl
 simp only[Act.put,List.getElem_toArray,List.getElem_cons_zero,List.getElem_cons_succ,Oa1,List.set_cons_zero,List.set_cons_succ]
 refine wpAnyH_done (by kernel_rfl) ?_ _
 go_wp2
 exact bodyPost_ret (v:=.tuple #[bT,bU]) (by simp[results,results61,go_sem]) rfl ⟨_,Jj Z,_,rfl,bN⟩
attribute [local go_sem] Oc0
theorem Jmi {w W:World}{r:Option Nat}{g o:Nat}{nd:Nd}(h:Zm w g o nd)(A:w.grownBy W r)(C:r≠some g):Zm W g o nd:=by
 have y:∀ o v,w.cell? ⟨g,o,none⟩=some v→W.cell? ⟨g,o,none⟩=some v:=fun o v z=>by
  rw[←z]
  unfold World.cell?
  rw[show W.heap[(⟨g,o,none⟩:Addr).block]?=w.heap[(⟨g,o,none⟩:Addr).block]? from A.block g (by have:=Jm z;exact this) (Oc5 C)]
 exact⟨y _ _ h.1,y _ _ h.2.1,y _ _ h.2.2.1,y _ _ h.2.2.2.1,y _ _ h.2.2.2.2.1,y _ _ h.2.2.2.2.2.1,y _ _ h.2.2.2.2.2.2⟩
theorem Jua (L A:Nat)(U ev:Value)(y:List Kn)(nd:Nd)(i:Nat)(e:List Pt)(H eo ne br:Nat)(w:World)(h:Jed L A U ev y w)(bf:nd.l=(i:Int))(hi:i<y.length)(hn:y[i].2=false)(bG:nd.xs=(some ⟨H,eo,none⟩,ne,br))(bW:1≤ne)
  (bA:∀ z,w.grownBy z ev.ownBlock→Jaz z H eo [e]) (bE:Uj y[i].1.2.2 e) (bu:1≤e.length) (bx:e.length≤12) (bz:Jbk y[i].1.2.2 e=2) :
  Calls prog 108 #[.pointer (some ⟨A,0,none⟩),nd.val] w (Jq3 L A U ev (y.set i (y[i].1,true)) y[i].1.2.2 w):=by
 have M:Below w.heap.size w (Jam w nd):=Jc (Oa5 _ _) _
 have bh:=Jh0 w nd
 have Z:=h.below M
 have bi:=Jr1 L A U ev y i (Jam w nd) Z hi hn
 have bB:ev.ownBlock≠some w.heap.size:=fun e=>by have:=(Je h.own e).2;omega
 have R:(y[i].1,true)∈y.set i (y[i].1,true):=List.mem_set hi _
 have bj:Hid (∀ z,Jed L A U ev (y.set i (y[i].1,true)) z→(Jam w nd).grownBy z ev.ownBlock→∃ C E D,z.cell? ⟨H,eo,none⟩=some (.slice (some ⟨C,E,none⟩) e.length D)∧Calls prog 141 #[.slice (some ⟨C,E,none⟩) e.length D,Jbl y[i].1] z fun bO w'=>bO=.returned (.tuple #[.int .i64 2,.nilIface])∧Below z.heap.size z w'):=fun z bP bQ=>by
  obtain⟨C,E,D,bJ,bT⟩:=bA z (Ut (Qq M) bQ) 0 e rfl
  have:=Jts C E D e y[i].1.1 y[i].1.2.1 y[i].1.2.2 z bT (bP.ints (y[i].1,true) R) bE bu bx
  rw[bz]at this
  exact⟨C,E,D,by simpa using bJ,this⟩
 have bC:∀ g o,y[i].1.1=some ⟨g,o,none⟩→ev.ownBlock≠some g∧g≠A∧g<(Jam w nd).heap.size:=fun g o e=>Z.off y[i] (Ob3 hi) g o e
 have X:Hid (Zm (Jam w nd) w.heap.size 0 nd∧ev.ownBlock≠some w.heap.size∧Below w.heap.size w (Jam w nd)):=⟨bh,bB,M⟩
 have bl:Hid (∀ g o,y[i].1.1=some ⟨g,o,none⟩→ev.ownBlock≠some g∧g≠A∧g<(Jam w nd).heap.size):=bC
 have bH:=bh.2.1
 rw[bf,Od0]at bH
 have bU:Hid (nd.l=(i:Int)):=bf
 have bL:Hid (nd.xs=(some ⟨H,eo,none⟩,ne,br)):=bG
 have bX:=run_neq_nil_nil (P:=prog)
 obtain⟨s,hs⟩:∃ s,s=y[i].1:=⟨_,rfl⟩
 rw[←hs]at bi bj bl R ⊢
 clear hs bf bG bh bB M bC Z h hn bA bE bu bx bz
 go_enter func108,ntmps108
 go_upto_region 2 with(go_at_call 140;refine bi.mono ?_;rintro bN bM ⟨rfl,bc,O,bS⟩)
 have bD:=Jmi X.out.1 O X.out.2.1
 obtain⟨C,E,D,bJ,bR⟩:=bj.out bM bc O
 have bI:=bD.2.2.2.2.1
 rw[bL.out,Od0]at bI
 simp only at bI
 have bY:(1:Int)≤(ne:Int):=by omega
 have bn:Hid _:=bc
 have bK:Hid _:=O
 clear bD bc O bi bH
 go_wp2_with (go_at_call 141;refine bR.mono ?_;rintro bN bV ⟨rfl,K⟩)
 refine bodyPost_ret (v:=.tuple #[Jbl s,.nilIface]) (by simp[results,results108,go_sem]) rfl ⟨s.1,s.2.1,rfl,bn.out.below K,Ut (Ut (Qq X.out.2.2) bK.out) (Qq K),(bn.out.ints (s,true) R).below K,fun g o e=>?_⟩
 have:=bl.out g o e
 exact⟨this.1,this.2.1,Oc2 this.2.2 (by rw[←bS];exact K.size),.inr ⟨(s,true),R,e⟩⟩
theorem Jsy (L O:Nat)(bn ev:Value)(z:List Kn)(nd:Nd)(i:Nat)(y:List (List Pt))(bi eo bN:Nat)(w:World)(h:Jed L O bn ev z w)(bR:nd.l=(i:Int))(hi:i<z.length)(hn:z[i].2=false)(bX:nd.xs=(some ⟨bi,eo,none⟩,y.length,bN))(bS:1≤y.length)(cB:y.length≤6)
  (bO:∀ A,w.grownBy A ev.ownBlock→Jaz A bi eo y) (bV:∀ e∈y,Uj z[i].1.2.2 e∧1≤e.length∧e.length≤12) :
  Calls prog 109 #[.pointer (some ⟨O,0,none⟩),nd.val] w (Jq3 L O bn ev (z.set i (z[i].1,true)) (y.map (Jbk z[i].1.2.2)) w):=by
 have bj:Below w.heap.size w (Jam w nd):=Jc (Oa5 _ _) _
 have bC:=Jh0 w nd
 have bP:=h.below bj
 have bE:=Jr1 L O bn ev z i (Jam w nd) bP hi hn
 have bT:ev.ownBlock≠some w.heap.size:=fun e=>by have:=(Je h.own e).2;omega
 have bB:(z[i].1,true)∈z.set i (z[i].1,true):=List.mem_set hi _
 have bM:Hid (∀ A j (R:j<y.length),Jed L O bn ev (z.set i (z[i].1,true)) A→(Jam w nd).grownBy A ev.ownBlock→∃ E K H,A.cell? ⟨bi,eo+j,none⟩=some (.slice (some ⟨E,K,none⟩) y[j].length H)∧Calls prog 141 #[.slice (some ⟨E,K,none⟩) y[j].length H,Jbl z[i].1] A fun cj w'=>cj=.returned (.tuple #[.int .i64 (Jbk z[i].1.2.2 y[j]),.nilIface])∧Below A.heap.size A w'):=fun A j R cl cr=>by
  obtain⟨E,K,H,X,bJ⟩:=bO A (Ut (Qq bj) cr) j y[j] (Oa3 R)
  have bI:=bV y[j] (Ob3 R)
  exact⟨E,K,H,X,Jts E K H y[j] z[i].1.1 z[i].1.2.1 z[i].1.2.2 A bJ (cl.ints (z[i].1,true) bB) bI.1 bI.2.1 bI.2.2⟩
 have bf:Hid (Zm (Jam w nd) w.heap.size 0 nd∧ev.ownBlock≠some w.heap.size∧Below w.heap.size w (Jam w nd)):=⟨bC,bT,bj⟩
 have bY:=bC.2.1
 rw[bR,Od0]at bY
 have ch:Hid (nd.xs=(some ⟨bi,eo,none⟩,y.length,bN)):=bX
 have cC:=run_neq_nil_nil (P:=prog)
 obtain⟨s,hs⟩:∃ s,s=z[i].1:=⟨_,rfl⟩
 rw[←hs]at bE bM bB ⊢
 clear hs bR bX bC bT bj bP h hn bO bV bB
 go_enter func109,ntmps109
 go_upto_region 2 with(go_at_call 140;refine bE.mono ?_;rintro ci C ⟨rfl,bQ,bz,cD⟩)
 have bU:=Jmi bf.out.1 bz bf.out.2.1
 have bZ:=bU.2.2.2.2.1
 rw[ch.out,Od0]at bZ
 simp only at bZ
 have cE:(1:Int)≤(y.length:Int):=by omega
 have cF:(y.length:Int)≤6:=by omega
 have bh:Hid _:=bQ
 have bL:Hid _:=bz
 clear bU bQ bz bE bY
 go_wp2
 go_loopw [8,37] (fun sv i wr=>∃ j:Nat,j≤y.length∧i=.int .i64 (j:Int)∧Jo wr C.heap.size 3 sv (((y.take j).map (Jbk s.2.2)).map iv)∧Below C.heap.size C wr) (fun _ i _=>y.length-(intOf i).toNat)
 case atStart=>exact⟨0,Ob7 _,rfl,Jo.nil _ _ _,Oa5 _ _⟩
 case round=>
  obtain⟨j,R,rfl,bl,D⟩:=hrel
  have M:Hid _:=bl
  have bK:Hid _:=D
  obtain⟨cI,ca,bD,U⟩:=bl.cells
  rw[Oa6,Oa6,Oc7,Oj1 R]at bD
  by_cases bA:j<y.length
  ·obtain⟨E,K,H,X,bH⟩:=bM.out wr j bA (bh.out.below D) (Ut bL.out (Qq D))
   subst bD
   have bc:Hid (j<y.length∧y[j]?=some y[j]):=⟨bA,Oa3 bA⟩
   obtain⟨es,bx⟩:∃ es,es=y[j]:=⟨_,rfl⟩
   rw[←bx]at X bH
   have cb:Hid (es=y[j]):=bx
   obtain⟨Z,bG⟩:∃ Z,Z=Jbk s.2.2 es:=⟨_,rfl⟩
   rw[←bG]at bH
   have cf:Hid (Z=Jbk s.2.2 es):=bG
   clear bx bG bl D U
   go_wp2_with (first|(go_at_call 141;refine bH.mono ?_;rintro ci br ⟨rfl,bu⟩)|(at_builtin;go_must (refine Ks (by rfl) _ _ 22 3 _ 8 Zw (by rfl) (by decide) (by kernel_rfl) (by rfl) C.heap.size _ _ (by rfl) (Jo.alloc (Jl M.out fun g e=>bu.block g (Je M.out e).2) _) ⟨br.heap.size,0,none⟩ 1 [iv Z] (by rfl) (by exact Ua br _ _) (by intro u bW;simp at bW;subst bW;rfl) (by simp only[List.length_cons,List.length_nil,Oa6,Oc7];omega) (by simp;have:=bu.size;have:=bK.out.size;omega) ?_);intro sv' w4 X bJ cH))
   go_roundw
   case rel=>
    refine⟨j+1,bc.out.1,by have:=bc.out.1;go_num,?_,?_⟩
    ·rw[Oc4 bc.out.1,Ob8,Ob8,←cb.out]
     simp only[Oe4,Oi4]
     rw[←cf.out]
     exact X
    have cn:Below C.heap.size C (br.alloc (.cells #[iv Z] 3)):=Jc (Jb bK.out bu) _
    exact Jy cn bJ fun k cv=>(Je M.out cv).1
   case measure=>have:=bc.out.1;simp[intOf];omega
  obtain rfl:j=y.length:=by omega
  rw[Of2]at U M
  subst bD
  have cy:y.map (Jbk s.2.2)≠[]:=fun e=>by rw[List.map_eq_nil_iff]at e;rw[e]at bS;simp at bS
  obtain⟨g,o,rfl,cu,_⟩:=Kc.at (ns:=y.map (Jbk s.2.2)) U (i:=0) (Oi9.2 cy)
  have cA:=Je M.out (g:=g) rfl
  have cc:Hid (Kc wr (some ⟨g,o,none⟩) (y.map (Jbk s.2.2))):=U
  clear U bl
  go_wp2
  have cx:(y.map (Jbk s.2.2)).length=y.length:=Oa6 ..
  refine bodyPost_ret (v:=.tuple #[.slice (some ⟨g,o,none⟩) y.length ca,.nilIface]) (by simp[results,results109,go_sem]) rfl ⟨some ⟨g,o,none⟩,ca,by rw[Jbl,cx],bh.out.below D,Ut (Ut (Qq bf.out.2.2) bL.out) (Qq D),cc.out,fun cz cG e=>?_⟩
  cases e
  exact⟨fun e=>by have:=(Je bh.out.own e).2;omega,by have:=Jd bh.out.ck;omega,cu,.inl (by have:=bf.out.2.2.size;omega)⟩
attribute [local go_sem] Oc0
theorem Jrx (g cap n:Nat)(w:World)(hn:n≤1000)(A:∀ i,i<n→∃ s:Sch,w.cell? ⟨g,i*2,none⟩=some (Jbl s)∧w.cell? ⟨g,i*2+1,none⟩=some (.bool true)) :
  Calls prog 62 #[.slice (some ⟨g,0,none⟩) n cap,.func (.func 63) #[] #[]] w fun e w'=>e=.returned (.int .i64 (-1))∧Below w.heap.size w w':=by
 have D:Hid _:=A
 clear A
 go_enter func62,ntmps62
 go_wp2
 go_loopw [8] (fun i wr=>∃ k:Nat,k≤n∧i=.int .i64 k∧Below w.heap.size w wr) (fun i _=>n-(intOf i).toNat)
 case atStart=>exact⟨0,Ob7 _,rfl,Oa5 _ _⟩
 case round=>
  obtain⟨k,A,rfl,y⟩:=hrel
  by_cases C:k<n
  ·obtain⟨s,c0,c1⟩:=D.out k C
   have E:=Ja y c0
   have H:=Ja y c1
   have z:Hid (k<n):=C
   go_wp2
   go_roundw
   case rel=>exact⟨k+1,z.out,by have:=z.out;go_num,Jc y _⟩
   case measure=>have:=z.out;simp[intOf];omega
  go_wp2
  exact bodyPost_ret (v:=.int .i64 (-1)) (by simp[results,results62,go_sem]) rfl ⟨rfl,y⟩
structure Kh1 (scs:List (List Int)) (fl:Nat→Bool) (j:Nat) (ks:List Kn):Prop where
 len:ks.length=j
 sch:∀ (i:Nat) (k:Kn),ks[i]?=some k→scs[i]?=some k.1.2.2
 flg:∀ (i:Nat) (k:Kn),ks[i]?=some k→k.2=fl i
structure Jrm (w:World) (tf nv0:Value) (scs:List (List Int)) (fl:Nat→Nat→Bool) (j:Nat) (ev sv:Value) (ks:List Kn) (W:World):Prop where
 chk:Jed (w.heap.size+2) (w.heap.size+1) tf ev ks W
 kso:Kh1 scs (fl j) j ks
 own:Jo W (w.heap.size+2) 22 sv (ks.map fun k=>Jbl k.1)
 sep:∀ g,sv.ownBlock=some g→ev.ownBlock≠some g
 off:∀ k∈ks,∀ g o,k.1.1=some ⟨g,o,none⟩→sv.ownBlock≠some g
 plan:W.heap[w.heap.size]?=some (.cells #[nv0] 54 (0,0))
 low:Below w.heap.size w W
def Jvz (w:World)(D:Value)(C:List (List Int))(A:Nat→Nat→Bool)(nd:Nd)(j:Nat):Prop:=
 0≤nd.op∧nd.op≤7∧∃ sch,C[j]?=some sch∧∀ W ev y,Below w.heap.size w W→(∀ g,ev.ownBlock=some g→w.heap.size≤g)→Jed (w.heap.size+2) (w.heap.size+1) D ev y W→Kh1 C (A j) j y →
  Calls prog (Jm5 nd.op) #[.pointer (some ⟨w.heap.size+1,0,none⟩),nd.val] W fun e E=>∃ z,z.map (·.1)=y.map (·.1)∧(∀ (i:Nat) (k:Kn),z[i]?=some k→k.2=A (j+1) i)∧Jq3 (w.heap.size+2) (w.heap.size+1) D ev z sch W e E
theorem Jw8:(prog.info? 148).map (fun i=>(i.zero,i.size,i.bytes))=some (some (.agg #[.slice none 0 0,.bool false]),2,32):=by kernel_rfl
structure Jyq (w:World) (tf nv0:Value) (scs:List (List Int)) (fl:Nat→Nat→Bool) (j:Nat) (ev sv:Value) (ks:List Kn) (a:Option Addr) (c:Nat) (sch:List Int) (W:World):Prop where
 chk:Jed (w.heap.size+2) (w.heap.size+1) tf ev ks W
 len:ks.length=j
 sch1:∀ (i:Nat) (k:Kn),ks[i]?=some k→scs[i]?=some k.1.2.2
 sch2:scs[j]?=some sch
 flg:∀ (i:Nat) (k:Kn),ks[i]?=some k→k.2=fl (j+1) i
 own:Jo W (w.heap.size+2) 22 sv (ks.map fun k=>Jbl k.1)
 sep:∀ g,sv.ownBlock=some g→ev.ownBlock≠some g
 off:∀ k∈ks,∀ g o,k.1.1=some ⟨g,o,none⟩→sv.ownBlock≠some g
 ints:Kc W a sch
 aoff:∀ g o,a=some ⟨g,o,none⟩→ev.ownBlock≠some g∧g≠w.heap.size+1∧g<W.heap.size∧sv.ownBlock≠some g
 plan:W.heap[w.heap.size]?=some (.cells #[nv0] 54 (0,0))
 low:Below w.heap.size w W
theorem Jrm.node {w:World}{X bl:Value}{U:List (List Int)}{O:Nat→Nat→Bool}{j:Nat}{ev sv:Value}{E A:List Kn}{W M H:World}{sch:List Int}(h:Jrm w X bl U O j ev sv E W)(bf:Below W.heap.size W M)(K:A.map (·.1)=E.map (·.1))(hf:∀ (i:Nat) (k:Kn),A[i]?=some k→k.2=O (j+1) i)(hs:U[j]?=some sch){a:Option Addr}{c:Nat}
  (bx:Jed (w.heap.size+2) (w.heap.size+1) X ev A H) (bz:M.grownBy H ev.ownBlock) (hi:Kc H a sch) (bC:∀ g o,a=some ⟨g,o,none⟩→ev.ownBlock≠some g∧g≠w.heap.size+1∧g<H.heap.size∧(M.heap.size≤g∨∃ k∈A,k.1.1=some ⟨g,o,none⟩)):Jyq w X bl U O j ev sv A a c sch H:=by
 have R:=Ut (Qq bf) bz
 have bi:∀ k∈A,∃ z∈E,k.1=z.1:=fun k y=>by
  have:k.1∈E.map (·.1):=by rw[←K];exact List.mem_map_of_mem y
  obtain⟨z,C,D⟩:=Of0.1 this
  exact⟨z,C,D.symm⟩
 have bA:A.length=E.length:=by have:=congrArg List.length K;simpa using this
 have bB:A.map (fun k=>Jbl k.1)=E.map fun k=>Jbl k.1:=by
  have:=congrArg (List.map Jbl) K
  rw[Oi6,Oi6]at this
  exact this
 have bh:∀ g,ev.ownBlock=some g→w.heap.size+2≤g:=fun g e=>(Je h.chk.own e).1
 refine⟨bx,bA.trans h.kso.len,fun i k y=>?_,hs,hf,?_,h.sep,fun k y g o e=>?_,hi,fun g o e=>?_,?_,?_⟩
 ·have:(E.map (·.1))[i]?=some k.1:=by rw[←K,Ob1,y];rfl
  rw[Ob1,Oe9]at this
  obtain⟨z,C,D⟩:=this
  rw[←D]
  exact h.kso.sch i z C
 ·unfold Jo
  rw[bB]
  exact Jl h.own fun g e=>R.block g (Je h.own e).2 (Oc5 (h.sep g e))
 ·obtain⟨z,C,D⟩:=bi k y
  rw[D]at e
  exact h.off z C g o e
 ·obtain⟨C,D,bn,bc⟩:=bC g o e
  refine⟨C,D,bn,fun Z=>?_⟩
  rcases bc with bc|⟨k,y,bj⟩
  ·have:=(Je h.own Z).2
   have:=bf.size
   omega
  obtain⟨z,br,bu⟩:=bi k y
  rw[bu]at bj
  exact h.off z br g o bj Z
 ·rw[R.block _ (Jd h.plan) (fun e=>by have:=bh _ e.symm;omega)]
  exact h.plan
 exact Jy h.low R fun k y=>by have:=bh k y;omega
theorem Jyq.done {w:World}{bx bI:Value}{bK:List (List Int)}{Z:Nat→Nat→Bool}{j:Nat}{ev ev' sv sv':Value}{D:List Kn}{a:Option Addr}{c:Nat}{sch:List Int}{W w4 E:World}(h:Jyq w bx bI bK Z j ev sv D a c sch W)(bO:Z (j+1) j=false)(bl bn:Obj)
  (bJ:w4.ownsRow (w.heap.size+2) 148 2 ev' (D.length+1) (D.flatMap knC++[Jbl (a,c,sch),.bool false])) (bu:(W.alloc bl).grownBy w4 ev.ownBlock) (M:ev'.ownBlock=ev.ownBlock∨ev'.ownBlock=some (W.alloc bl).heap.size)
  (bP:Jo E (w.heap.size+2) 22 sv' ((D.map fun k=>Jbl k.1)++[Jbl (a,c,sch)])) (O:((w4.setCell ⟨w.heap.size+1,1,none⟩ ev').alloc bn).grownBy E sv.ownBlock) (R:sv'.ownBlock=sv.ownBlock∨sv'.ownBlock=some ((w4.setCell ⟨w.heap.size+1,1,none⟩ ev').alloc bn).heap.size) :
  Jrm w bx bI bK Z (j+1) ev' sv' (D++[((a,c,sch),false)]) E:=by
 have U:∀ g,ev.ownBlock=some g→w.heap.size+2≤g∧g<W.heap.size:=fun g e=>Je h.chk.own e
 have H:∀ g,sv.ownBlock=some g→w.heap.size+2≤g∧g<W.heap.size:=fun g e=>Je h.own e
 have X:∀ g,ev'.ownBlock=some g→w.heap.size+2≤g∧g<w4.heap.size:=fun g e=>Je bJ e
 have bQ:=bu.size
 have bL:=O.size
 rw[Oa7]at bQ bL M R
 have K:(w4.setCell ⟨w.heap.size+1,1,none⟩ ev').heap.size=w4.heap.size:=by simp[World.setCell]
 rw[K]at bL R
 have bz:∀ k,k<W.heap.size→ev.ownBlock≠some k→w4.heap[k]?=W.heap[k]?:=fun k z C=>(bu.block k (by rw[Oa7];omega) (Oc5 C)).trans (Oa9 _ _ _ z)
 have bA:∀ k,k<w4.heap.size→k≠w.heap.size+1→sv.ownBlock≠some k→E.heap[k]?=w4.heap[k]?:=fun k z C bc=>(O.block k (by rw[Oa7,K];omega) (Oc5 bc)).trans ((Oa9 _ _ _ (by rw[K];exact z)).trans (Oa4 _ _ _ _ C))
 have bB:∀ k,k<W.heap.size→ev.ownBlock≠some k→k≠w.heap.size+1→sv.ownBlock≠some k→E.heap[k]?=W.heap[k]?:=fun k z C bc bf=>(bA k (by omega) bc bf).trans (bz k z C)
 have bh:w4.heap[w.heap.size+1]?=_:=(bz _ (Jd h.chk.ck) (fun e=>by have:=U _ e;omega)).trans h.chk.ck
 have bD:=Jk bh 1 ev'
 simp only[Oa1,List.set_cons_zero,List.set_cons_succ]at bD
 have bN:E.heap[w.heap.size+1]?=some (.cells #[bx,ev'] 144 (0,0)):=by
  rw[O.block _ (by rw[Oa7,K];have:=Jd bh;omega) (fun e=>by have:=H _ e.symm;omega),Oa9 _ _ _ (by rw[K];exact Jd bh)]
  exact bD
 have bG:∀ g,ev.ownBlock≠some g→g<W.heap.size→ev'.ownBlock≠some g:=fun g z C e=>by
  rcases M with q|q
  ·exact z (q.symm.trans e)
  rw[q]at e;cases e;omega
 have bH:∀ g,sv.ownBlock≠some g→g<W.heap.size→sv'.ownBlock≠some g:=fun g z C e=>by
  rcases R with q|q
  ·exact z (q.symm.trans e)
  rw[q]at e;cases e;omega
 have bE:∀ (a:Option Addr) (s:List Int),Kc W a s→(∀ g o,a=some ⟨g,o,none⟩→ev.ownBlock≠some g∧g≠w.heap.size+1∧sv.ownBlock≠some g)→Kc E a s:=fun a s hi bj=>hi.of_block (by omega) fun b o e bi=>bB b bi (bj b o e).1 (bj b o e).2.1 (bj b o e).2.2
 refine⟨⟨bN,?_,fun k y=>?_,fun k y g o e=>?_,h.chk.low⟩,⟨?_,fun i k y=>?_,fun i k y=>?_⟩,?_,fun g e A=>?_,fun k y g o e=>?_,?_,?_⟩
 ·rw[Oa8,List.length_singleton,Oe8,Ol6]
  refine Jl bJ fun g e=>bA g (X g e).2 (by have:=X g e;omega) (fun A=>?_)
  rcases M with q|q
  ·exact h.sep g A (q.symm.trans e)
  rw[q]at e
  cases e
  have:=H _ A
  omega
 ·rw[Od2,Oc6]at y
  rcases y with y|rfl
  ·exact bE _ _ (h.chk.ints k y) fun g o e=>⟨(h.chk.off k y g o e).1,(h.chk.off k y g o e).2.1,h.off k y g o e⟩
  exact bE _ _ h.ints fun g o e=>⟨(h.aoff g o e).1,(h.aoff g o e).2.1,(h.aoff g o e).2.2.2⟩
 ·rw[Od2,Oc6]at y
  rcases y with y|rfl
  ·have:=h.chk.off k y g o e
   exact⟨bG g this.1 this.2.2,this.2.1,by omega⟩
  have:=h.aoff g o e
  exact⟨bG g this.1 this.2.2.1,this.2.1,by omega⟩
 ·rw[Oa8,List.length_singleton,h.len]
 ·rw[Om7]at y
  split at y
  ·exact h.sch1 i k y
  rename_i bR
  have hi:i=j:=by
   have:i-D.length<1:=(Ob9.1 y).1
   have:=h.len
   omega
  subst hi
  rw[h.len,Oe1]at y
  cases y
  exact h.sch2
 ·rw[Om7]at y
  split at y
  ·exact h.flg i k y
  have hi:i=j:=by
   have:i-D.length<1:=(Ob9.1 y).1
   have:=h.len
   omega
  subst hi
  rw[h.len,Oe1]at y
  cases y
  exact bO.symm
 ·rw[Ob8]
  exact bP
 ·rcases R with q|q
  ·have bC:=q.symm.trans e
   have:=H g bC
   rcases M with br|br
   ·exact h.sep g bC (br.symm.trans A)
   rw[br]at A;cases A;omega
  rw[q]at e
  cases e
  have:=(X _ A).2
  omega
 ·rw[Od2,Oc6]at y
  rcases y with y|rfl
  ·exact bH g (h.off k y g o e) (h.chk.off k y g o e).2.2
  exact bH g (h.aoff g o e).2.2.2 (h.aoff g o e).2.2.1
 ·rw[bB _ (Jd h.plan) (fun e=>by have:=U _ e;omega) (by omega) (fun e=>by have:=H _ e;omega)]
  exact h.plan
 have bi:=h.low
 have bf:Below w.heap.size w w4:=Jy (Jc bi bl) bu fun k y=>by have:=U k y;omega
 have bM:Below w.heap.size w (w4.setCell ⟨w.heap.size+1,1,none⟩ ev'):=bf.setCell (p:=⟨w.heap.size+1,1,none⟩) (by simp) _
 exact Jy (Jc bM bn) O fun k y=>by have:=H k y;omega
theorem Jcz {w:World}{B:Nat}{e:TypeId}{A:Nat}{sv:Value}{n:Nat}{xs:List Value}(h:w.ownsRow B e A sv n xs):∃ a c,sv=.slice a n c:=by
 rcases h with⟨_,⟨y,z⟩|⟨g,cap,_,y,_⟩⟩
 ·exact⟨none,0,by rw[y,z]⟩
 exact⟨_,_,y⟩
theorem Jrm.below {w:World}{H D:Value}{E:List (List Int)}{A:Nat→Nat→Bool}{j:Nat}{ev sv:Value}{C:List Kn}{W z:World}(h:Jrm w H D E A j ev sv C W)(y:Below W.heap.size W z):Jrm w H D E A j ev sv C z:=
 ⟨h.chk.below y,h.kso,Jl h.own fun g e=>y.block g (Je h.own e).2,h.sep,h.off,(y.block _ (Jd h.plan)).trans h.plan,Jb h.low y⟩
theorem Jyq.mid {w:World}{C M:Value}{R:List (List Int)}{E:Nat→Nat→Bool}{j:Nat}{ev ev' sv:Value}{z:List Kn}{a:Option Addr}{c:Nat}{sch:List Int}{W w4:World}(h:Jyq w C M R E j ev sv z a c sch W)(O:Obj)(A:(W.alloc O).grownBy w4 ev.ownBlock) :
  w4.heap[w.heap.size+1]?=some (.cells #[C,ev] 144 (0,0))∧Jo (w4.setCell ⟨w.heap.size+1,1,none⟩ ev') (w.heap.size+2) 22 sv (z.map fun k=>Jbl k.1)∧w.heap.size+2≤w4.heap.size:=by
 have D:∀ g,ev.ownBlock=some g→w.heap.size+2≤g∧g<W.heap.size:=fun g e=>Je h.chk.own e
 have U:=A.size
 rw[Oa7]at U
 have y:∀ k,k<W.heap.size→ev.ownBlock≠some k→w4.heap[k]?=W.heap[k]?:=fun k H K=>(A.block k (by rw[Oa7];omega) (Oc5 K)).trans (Oa9 _ _ _ H)
 refine⟨(y _ (Jd h.chk.ck) (fun e=>by have:=D _ e;omega)).trans h.chk.ck,Jl h.own fun g e=>?_,by have:=Jd h.chk.ck;omega⟩
 have:=Je h.own e
 rw[Oa4 _ _ _ _ (by simp;omega)]
 exact y g this.2 (h.sep g e)
theorem Kex (w:World)(u v:Value)(e:TypeId):∀ (j:Nat) (x:Value),[u,v][j]?=some x→(w.alloc (.cells #[u,v] e)).cell? ((⟨w.heap.size,0,none⟩:Addr).add j)=some x:=by
 intro j x y
 have hn:=heap_alloc_new w (.cells #[u,v] e)
 match j,y with
 |0,y=>cases y;unfold World.cell?;rw[show ((⟨w.heap.size,0,none⟩:Addr).add 0).block=w.heap.size from rfl,hn];rfl
 |1,y=>cases y;unfold World.cell?;rw[show ((⟨w.heap.size,0,none⟩:Addr).add 1).block=w.heap.size from rfl,hn];rfl
theorem Jrc (H no Z:Nat)(y:List Nd)(A:Nat)(C:Array Value)(K:List (List Int))(D:Nat→Nat→Bool)(w:World)
  (bR:∀ j nd,y[j]?=some nd→Zm w H (no+j*7) nd) (db:1≤y.length) (dc:y.length≤12) (bY:K.length=y.length) (cc:∀ j nd,y[j]?=some nd→Jvz w (.func (.func A) C #[]) K D nd j) (bV:∀ j,D (j+1) j=false) (bU:∀ i,i+1<y.length→D y.length i=true) :
  Calls prog 41 #[.agg #[.slice (some ⟨H,no,none⟩) y.length Z],.func (.func A) C #[]] w fun e w'=>∃ (bM:List Sch) (sv:Value),e=.returned (.tuple #[sv,.nilIface])∧Below w.heap.size w w'∧Jo w' (w.heap.size+2) 22 sv (bM.map Jbl)∧bM.map (·.2.2)=K∧∀ s∈bM,Kc w' s.1 s.2.2:=by
 have bi:Hid ((∀ j nd,y[j]?=some nd→Zm w H (no+j*7) nd)∧K.length=y.length∧(∀ j nd,y[j]?=some nd→Jvz w (.func (.func A) C #[]) K D nd j)∧(∀ j,D (j+1) j=false)∧∀ i,i+1<y.length→D y.length i=true):=⟨bR,bY,cc,bV,bU⟩
 have dh:=run_neq_nil_nil (P:=prog)
 have di:∀ (a:Addr) (R:World),(store a (.func (.func A) C #[])).run prog R=stored prog R a (.func (.func A) C #[]) .plain:=fun a R=>run_store _ _ _ _ _ rfl
 clear bR bY cc bV bU
 go_enter func41,ntmps41
 go_upto_region 5 with fail
 have bS:Jrm w (.func (.func A) C #[]) (.slice (some ⟨H,no,none⟩) y.length Z) K D 0 (.slice none 0 0) (.slice none 0 0) [] ((w.alloc (.cells #[(.slice (some ⟨H,no,none⟩) y.length Z)] 54)).alloc (.cells #[(.func (.func A) C #[]),.slice none 0 0] 144)):=by
  refine⟨⟨?_,⟨rfl,.inl ⟨rfl,rfl⟩⟩,fun k E=>(by cases E),fun k E=>(by cases E),by omega⟩,⟨rfl,fun i k E=>(by simp at E),fun i k E=>(by simp at E)⟩,Jo.nil _ _ _,fun g e=>(by simp[Value.ownBlock]at e),fun k E=>(by cases E),?_,Jc (Jc (Oa5 _ _) _) _⟩
  ·have:=heap_alloc_new (w.alloc (.cells #[(.slice (some ⟨H,no,none⟩) y.length Z)] 54)) (.cells #[(.func (.func A) C #[]),.slice none 0 0] 144)
   rw[Oa7]at this
   exact this
  exact(Oa9 _ _ _ (by simp)).trans (heap_alloc_new w _)
 have bC:Hid _:=bS
 generalize (w.alloc (.cells #[(.slice (some ⟨H,no,none⟩) y.length Z)] 54)).alloc (.cells #[(.func (.func A) C #[]),.slice none 0 0] 144)=cu at bC ⊢
 have dp:cu.cell? ⟨w.heap.size,0,none⟩=some (.slice (some ⟨H,no,none⟩) y.length Z):=by simp[World.cell?,bC.out.plan]
 clear bS
 go_wp2
 go_loopw [7,34] (fun sv i wr=>∃ (j:Nat) (ev:Value) (M:List Kn),j≤y.length∧i=.int .i64 (j:Int)∧Jrm w (.func (.func A) C #[]) (.slice (some ⟨H,no,none⟩) y.length Z) K D j ev sv M wr) (fun _ i _=>y.length-(intOf i).toNat)
 case atStart=>exact⟨0,_,_,Ob7 _,rfl,bC.out⟩
 case round=>
  obtain⟨j,ev,M,de,rfl,z⟩:=hrel
  have bN:Hid _:=z
  have bW:=z.kso.len
  obtain⟨cY,cZ,bE⟩:=Jcz z.chk.own
  obtain⟨cT,cU,bz⟩:=Jcz z.own
  rw[Oa6]at bz
  rw[bW]at bE bz
  by_cases bZ:j<y.length
  ·obtain⟨nd,bJ⟩:∃ nd,y[j]?=some nd:=⟨_,Oa3 bZ⟩
   obtain⟨cl,cn,sch,cf,bT⟩:=bi.out.2.2.1 j nd bJ
   obtain⟨dr,ds,dt,du,dv,dw,dx⟩:=(bi.out.1 j nd bJ).below z.low
   have bj:Below wr.heap.size wr (Jam wr nd):=Jc (Oa5 _ _) _
   have bH:∀ g,ev.ownBlock=some g→w.heap.size+2≤g∧g<wr.heap.size:=fun g e=>Je z.chk.own e
   have cI:=Kbz (w.heap.size+1) nd (Jam wr nd) (fun R v w'=>∃ X,X.map (·.1)=M.map (·.1)∧(∀ (i:Nat) (k:Kn),X[i]?=some k→k.2=D (j+1) i)∧Jq3 (w.heap.size+2) (w.heap.size+1) (.func (.func A) C #[]) ev X sch R (.returned v) w') cl cn (fun R bn=>by
    refine(bT R ev M (Jb z.low (Jb bj bn)) (fun g e=>by have:=bH g e;omega) (z.chk.below (Jb bj bn)) z.kso).mono ?_
    rintro e cV ⟨X,bh,hf,a,c,rfl,bu,bf,hi,bx⟩
    exact⟨_,_,rfl,⟨X,bh,hf,a,c,rfl,bu,bf,hi,bx⟩,bf.size,fun k bL bB=>bf.block k bB (fun e=>by have:=bH k e.symm;have:=bj.size;omega)⟩)
   have bc:Hid (K[j]?=some sch∧j<y.length∧Below wr.heap.size wr (Jam wr nd)):=⟨cf,bZ,bj⟩
   subst bE bz
   obtain⟨cN,cG,cJ,cK,cM⟩:=info_parts Jw8
   clear z bT bJ cl cn cf bj bH
   go_wp2_with (first|(go_at_call 61;refine cI.mono ?_;rintro cx bD ⟨R,bn,v,rfl,X,bh,hf,a,c,bK,bu,bf,hi,bx⟩;injection bK with bK;subst bK;have O:Hid (Jyq w (.func (.func A) C #[]) (.slice (some ⟨H,no,none⟩) y.length Z) K D j _ _ X a c sch bD):=bN.out.node (Jb bc.out.2.2 bn) bh hf bc.out.1 bu bf hi bx;obtain⟨_,c1⟩:=O.out.chk.cells;clear bu bf hi bx bh hf)|(at_builtin;refine wpList_append_own_at _ (by rfl) _ _ 142 (by rfl) (w.heap.size+2) 148 cN _ 2 32 (by kernel_rfl) cG cJ cK cM (by rfl) (by decide) _ _ _ (by rfl) (Jbm O.out.chk.own _) ⟨bD.heap.size,0,none⟩ 1 1 [Jbl (a,c,sch),.bool false] (by rfl) (by rfl) (by exact Kex bD _ _ _) (by intro u bl;simp at bl;rcases bl with rfl|rfl<;>rfl) (by have:=O.out.len;have:=bc.out;unfold maxLen;omega) (by have:=O.out.len;have:=bc.out;omega) (by simp;have:=Jd O.out.chk.ck;omega) ?_;intro ev' w4 bL bB _ cO;go_must (obtain⟨cj,m2,m3⟩:=O.out.mid (ev':=ev') _ bB);go_must (obtain⟨bQ,bO,ci⟩:=ownsRow_succ bL);obtain⟨bA,ca⟩:∃ bA,bA=X.length+1:=⟨_,rfl⟩;rw[←ca]at ci;clear ca;subst ci;have cX:w4.cell? ⟨w.heap.size+1,1,none⟩=some _:=(by simp[World.cell?,cj];rfl);have da:w4.frozen? ⟨w.heap.size+1,1,none⟩=false:=(by simp[World.frozen?,cj]);have ch:(w4.setCell ⟨w.heap.size+1,1,none⟩ (.slice (some ⟨bQ,0,none⟩) bA bO)).heap.size=w4.heap.size:=(by simp[World.setCell]);have cb:=Ua (w4.setCell ⟨w.heap.size+1,1,none⟩ (.slice (some ⟨bQ,0,none⟩) bA bO)) (Jbl (a,c,sch)) 22;rw[ch]at cb)|(at_builtin;go_must (refine Ul (by rfl) _ _ 97 22 _ 24 Jzf (by rfl) (by decide) (by kernel_rfl) (by rfl) (w.heap.size+2) _ _ (by rfl) (Jo.alloc m2 _) ⟨w4.heap.size,0,none⟩ 1 [Jbl (a,c,sch)] (by rfl) (by exact cb) (by intro u bl;simp at bl;subst bl;rfl) (by have:=O.out.len;have:=bc.out;simp only[List.length_cons,List.length_nil,Oa6];omega) (by rw[Oa7,ch];omega) ?_);intro sv' dq cP cQ cS;go_must (have cA:=O.out.done (bi.out.2.2.2.1 j) _ _ bL bB cO cP cQ cS)))
   go_roundw
   case rel=>exact⟨j+1,_,_,bc.out.2.1,rfl,cA⟩
   case measure=>have:=bc.out.2.1;simp[intOf];omega
  have bI:j=y.length:=by omega
  obtain⟨g,cap,U,cE,cF,_⟩:=z.chk.at (i:=0) (by omega)
  rw[bW]at U
  have bX:∀ i,i<y.length-1→∃ s:Sch,wr.cell? ⟨g,i*2,none⟩=some (Jbl s)∧wr.cell? ⟨g,i*2+1,none⟩=some (.bool true):=fun i hi=>by
   obtain⟨cz,cv,bG,_,_,cy,bP,_⟩:=z.chk.at (i:=i) (by omega)
   rw[U]at bG
   simp only[On8,Oc9,Oh2,and_true]at bG
   have hf:=z.kso.flg i M[i] (Oa3 (by omega))
   have cD:D j i=true:=by rw[bI];exact bi.out.2.2.2.2 i (by omega)
   rw[hf.trans cD]at bP
   rw[bG.1]
   exact⟨_,cy,bP⟩
  obtain⟨m,bh⟩:∃ m,y.length=m+1:=⟨y.length-1,by omega⟩
  have cH:=Jrx g cap m wr (by omega) (fun i hi=>bX i (by omega))
  have cC:m≤cap:=by
   rcases z.chk.own with⟨_,⟨h0,_⟩|⟨cz,cv,_,h0,_,_,dd,_⟩⟩
   ·rw[h0]at U;cases U
   rw[h0]at U
   simp only[On8,Oc9,Oh2,and_true]at U
   omega
  obtain⟨_,c1⟩:=z.chk.cells
  rw[U]at c1
  have cr:Hid (M.map (·.1.2.2)=K):=by
   show _=_
   have df:=bi.out.2.1
   refine Oi8 fun i=>?_
   rw[Ob1]
   cases hki:M[i]? with
   |some k=>rw[z.kso.sch i k hki];rfl
   |none=>
    have:M.length≤i:=List.getElem?_eq_none_iff.1 hki
    exact(List.getElem?_eq_none_iff.2 (by omega)).symm
  have dj:(y.length:Int)-1=(m:Int):=by omega
  have dk:(0:Int)≤(m:Int):=by omega
  have dm:(m:Int)≤(cap:Int):=by omega
  have dg:m≤11:=by omega
  subst bz
  rw[bI]at c1 ⊢
  clear bX U bE z cE cF cC bh
  go_wp2_with (go_at_call 62;refine cH.mono ?_;rintro cx cW ⟨rfl,cB⟩)
  have br:=bN.out.below cB
  rw[bI]at br
  refine bodyPost_ret (v:=.tuple #[.slice cT y.length cU,.nilIface]) (by simp[results,results41,go_sem]) rfl ⟨M.map (·.1),_,rfl,br.low,?_,?_,fun s hs=>?_⟩
  ·rw[Oi6];exact br.own
  ·rw[Oi6];exact cr.out
  obtain⟨k,E,rfl⟩:=Of0.1 hs
  exact br.chk.ints k E
attribute [local go_sem] Oc0
abbrev Dn:=Option (Nat×List (Option Addr×Nat)×List (List V))
def dnV (d:Dn):Value:=match d with|none=>.slice none 0 0|some x=>.slice (some ⟨x.1,0,none⟩) x.2.2.length x.2.2.length
def Jfk (z:Nat)(y:Value)(x:Nat×List (Option Addr×Nat)×List (List V))(W:World):Prop:=Qd W x.1 x.2.1 x.2.2∧Jbo x.1 x.2.1 x.2.2.length (fun b=>b≠z∧y.ownBlock≠some b∧b<W.heap.size)
structure Jd6 (L rb:Nat) (z bu bl:Int) (se tp dp sc dv:Value) (ds:List Dn) (W:World):Prop where
 run:Jck W rb z (.int .i64 bu) (.int .i64 bl) se tp dp sc dv
 own:Jo W L 75 dv (ds.map dnV)
 cols:∀ x,some x∈ds→Jfk rb dv x W
 low:rb<L
theorem Qd.blocks {W y:World}{g:Nat}{hs:List (Option Addr×Nat)}{cs:List (List V)}(h:Qd W g hs cs)(z:W.heap.size≤y.heap.size)(hF:Jbo g hs cs.length fun b=>y.heap[b]?=W.heap[b]?):Qd y g hs cs:=
 h.kp (Fx:=fun b=>y.heap[b]?=W.heap[b]?) ⟨z,fun _ h=>h⟩ hF
theorem Jfk.move {D:Nat}{E H:Value}{x:Nat×List (Option Addr×Nat)×List (List V)}{W A:World}(h:Jfk D E x W)(C:W.heap.size≤A.heap.size)(z:∀ b,b≠D→E.ownBlock≠some b→b<W.heap.size→A.heap[b]?=W.heap[b]?∧H.ownBlock≠some b):Jfk D H x A:=
 ⟨h.1.blocks C ⟨(z _ h.2.1.1 h.2.1.2.1 h.2.1.2.2).1,fun j y b o e=>(z b (h.2.2 j y b o e).1 (h.2.2 j y b o e).2.1 (h.2.2 j y b o e).2.2).1⟩,⟨h.2.1.1,(z _ h.2.1.1 h.2.1.2.1 h.2.1.2.2).2,Oc2 h.2.1.2.2 C⟩,fun j y b o e=>⟨(h.2.2 j y b o e).1,(z b (h.2.2 j y b o e).1 (h.2.2 j y b o e).2.1 (h.2.2 j y b o e).2.2).2,Oc2 (h.2.2 j y b o e).2.2 C⟩⟩
theorem Jfk.below {C:Nat}{z:Value}{x:Nat×List (Option Addr×Nat)×List (List V)}{W y:World}(h:Jfk C z x W)(A:Below W.heap.size W y):Jfk C z x y:=h.move A.size fun b _ D E=>⟨A.block b E,D⟩
theorem Jd6.below {L K:Nat}{U C A:Int}{O R D M H:Value}{E:List Dn}{W z:World}(h:Jd6 L K U C A O R D M H E W)(y:Below W.heap.size W z):Jd6 L K U C A O R D M H E z:=
 ⟨h.run.below y,Jl h.own fun g e=>y.block g (Je h.own e).2,fun x X=>(h.cols x X).below y,h.low⟩
theorem Jd6.more {L y:Nat}{X H E:Int}{R U K O z A:Value}{Z:List Dn}{W w4:World}{x:Nat×List (Option Addr×Nat)×List (List V)}(h:Jd6 L y X H E R U K O z Z W)(bC:Jfk y z x W)(bl:Obj)
  (bn:Jo w4 L 75 A (Z.map dnV++[dnV (some x)])) (br:(W.alloc bl).grownBy w4 z.ownBlock) (bu:A.ownBlock=z.ownBlock∨A.ownBlock=some (W.alloc bl).heap.size) :
  Jd6 L y X H E R U K O A (Z++[some x]) (w4.setCell ⟨y,7,none⟩ A)∧Jck w4 y X (.int .i64 H) (.int .i64 E) R U K O z:=by
 have bx:∀ g,z.ownBlock=some g→L≤g∧g<W.heap.size:=fun g e=>Je h.own e
 have bz:∀ g,A.ownBlock=some g→L≤g∧g<w4.heap.size:=fun g e=>Je bn e
 have bB:=h.low
 have bD:=br.size
 rw[Oa7]at bD bu
 have bf:∀ k,k<W.heap.size→z.ownBlock≠some k→w4.heap[k]?=W.heap[k]?:=fun k bc M=>(br.block k (by rw[Oa7];omega) (Oc5 M)).trans (Oa9 _ _ _ bc)
 have bi:Jck w4 y X (.int .i64 H) (.int .i64 E) R U K O z:=(bf y (Jd h.run) (fun e=>by have:=bx _ e;omega)).trans h.run
 have bj:=Jk bi 7 A
 simp only[Oa1,List.set_cons_zero,List.set_cons_succ]at bj
 have bh:∀ D,Jfk y z D W→Jfk y A D (w4.setCell ⟨y,7,none⟩ A):=fun D C=>C.move (by simp[World.setCell];omega) fun b bc M bA=>⟨(Oa4 _ _ _ _ bc).trans (bf b bA M),fun e=>by
  rcases bu with q|q
  ·exact M (q.symm.trans e)
  rw[q]at e;cases e;omega⟩
 refine⟨⟨bj,?_,fun D C=>?_,bB⟩,bi⟩
 ·rw[Ob8]
  exact Jl bn fun g e=>Oa4 _ _ _ _ (by have:=bz g e;simp;omega)
 rw[Od2,Oc6]at C
 rcases C with C|C
 ·exact bh D (h.cols D C)
 cases C
 exact bh x bC
def Ju1 (w:World)(L A:Nat)(X K H:Int)(R U M O:Value)(E:Nat→List Dn→Prop)(Z:Nat→Value→World→Prop)(nd:Nd)(j:Nat):Prop:=
 0≤nd.op∧nd.op≤7∧∀ W y C,Below w.heap.size w W→(∀ g,y.ownBlock=some g→w.heap.size≤g)→Jd6 L A X K H R U M O y C W→C.length=j→E j C →
  Calls prog (Jej nd.op) #[.pointer (some ⟨A,0,none⟩),nd.val] W fun e z=>W.grownBy z y.ownBlock ∧
   ((∃ (x:Nat×List (Option Addr×Nat)×List (List V)) (D:List Dn),e=.returned (.tuple #[dnV (some x),.nilIface])∧Jd6 L A X K H R U M O y D z∧Jfk A y x z∧D.length=j∧E (j+1) (D++[some x])) ∨
    (∃ (ty b:Nat),e=.returned (.tuple #[.slice none 0 0,.iface ty (.pointer (some ⟨b,0,none⟩))])∧Z j (.iface ty (.pointer (some ⟨b,0,none⟩))) z))
attribute [local go_sem] Oc0
def Jx8 (n:Nat)(A:Nat→List Dn→Prop)(z:Nat→Value→World→Prop)(w:World):Ending→World→Prop:=fun e w'=>Below w.heap.size w w' ∧
 ((∃ (x:Nat×List (Option Addr×Nat)×List (List V)) (C:List Dn),e=.returned (.tuple #[dnV (some x),.nilIface])∧Qd w' x.1 x.2.1 x.2.2∧A n (C++[some x])) ∨
  (∃ (j:Nat) (v:Value) (y:Nat),e=.returned (.tuple #[.slice none 0 0,.iface 111 (.pointer (some ⟨y,0,none⟩))])∧w'.heap[y]?=some (.cells #[.int .i64 (j:Int),v] 113 (0,0))∧z j v w'∧w.heap.size≤y))
structure Jty (W2:World) (z bu bl:Int) (se tp dp sc sv:Value) (nds:List Nd) (PS:Nat→List Dn→Prop) (j:Nat) (dv:Value) (ds:List Dn) (wr:World):Prop where
 rs:Jd6 (W2.heap.size+1) W2.heap.size z bu bl se tp dp sc dv ds wr
 len:ds.length=j
 ps:PS j ds
 last:0<j→∃ ds' x,ds=ds'++[some x]
 steps:wr.ownsRow (W2.heap.size+1) 110 8 sv nds.length (nds.flatMap (Jbu W2.heap.size))
 sep:∀ g,sv.ownBlock=some g→dv.ownBlock≠some g
 low:Below W2.heap.size W2 wr
theorem Jty.below {A:World}{X D C:Int}{R U E O sv:Value}{M:List Nd}{z:Nat→List Dn→Prop}{j:Nat}{K:Value}{H:List Dn}{wr W:World}(h:Jty A X D C R U E O sv M z j K H wr)(y:Below wr.heap.size wr W):Jty A X D C R U E O sv M z j K H W:=
 ⟨h.rs.below y,h.len,h.ps,h.last,Jl h.steps fun g e=>y.block g (Je h.steps e).2,h.sep,Jb h.low y⟩
theorem Jty.step {A:World}{bi H E:Int}{bf bh K bc sv:Value}{z:List Nd}{D:Nat→List Dn→Prop}{j:Nat}{O:Value}{M:List Dn}{wr:World}(h:Jty A bi H E bf bh K bc sv z D j O M wr){i:Nat}{nd:Nd}(hi:z[i]?=some nd) :
  ∃ g cap,sv=.slice (some ⟨g,0,none⟩) z.length cap∧Zm wr g (i*8) nd∧wr.cell? ⟨g,i*8+7,none⟩=some (.func (.func (Jej nd.op)) #[.pointer (some ⟨A.heap.size,0,none⟩)] #[]):=by
 have bu:i<z.length:=(Ob9.1 hi).1
 rcases h.steps with⟨h0,⟨C,R⟩|⟨g,cap,bj,C,R,U,bl,bn,br,X⟩⟩
 ·omega
 have y:∀ k,k<8→wr.cell? ⟨g,i*8+k,none⟩=(Jbu A.heap.size nd)[k]?:=fun k Z=>by
  have:=Jek (Jbu A.heap.size) 8 (fun _=>rfl) z i k nd hi Z
  rw[←X,Oe7,if_pos (by omega),Oe6]at this
  rw[←this]
  simp[World.cell?,U]
 exact⟨g,cap,C,⟨y 0 (by omega),y 1 (by omega),y 2 (by omega),y 3 (by omega),y 4 (by omega),y 5 (by omega),y 6 (by omega)⟩,y 7 (by omega)⟩
theorem Jty.next {y:World}{bc H E:Int}{X Z K U sv:Value}{bx:List Nd}{bf:Nat→List Dn→Prop}{j:Nat}{z D:Value}{bA C:List Dn}{wr A w4:World}{x:Nat×List (Option Addr×Nat)×List (List V)}(h:Jty y bc H E X Z K U sv bx bf j z bA wr)(bj:wr.grownBy A z.ownBlock)(hR:Jd6 (y.heap.size+1) y.heap.size bc H E X Z K U z C A)(bC:Jfk y.heap.size z x A)(bD:C.length=j)(bE:bf (j+1) (C++[some x]))(O:Obj)
  (bG:Jo w4 (y.heap.size+1) 75 D (C.map dnV++[dnV (some x)])) (R:(A.alloc O).grownBy w4 z.ownBlock) (bn:D.ownBlock=z.ownBlock∨D.ownBlock=some (A.alloc O).heap.size) :
  Jty y bc H E X Z K U sv bx bf (j+1) D (C++[some x]) (w4.setCell ⟨y.heap.size,7,none⟩ D)∧Jck w4 y.heap.size bc (.int .i64 H) (.int .i64 E) X Z K U z:=by
 obtain⟨bi,M⟩:=hR.more bC O bG R bn
 have bu:∀ g,z.ownBlock=some g→y.heap.size+1≤g∧g<wr.heap.size:=fun g e=>Je h.rs.own e
 have br:∀ g,sv.ownBlock=some g→y.heap.size+1≤g∧g<wr.heap.size:=fun g e=>Je h.steps e
 have bI:=bj.size
 have bH:=R.size
 rw[Oa7]at bH bn
 have bz:∀ k,k<wr.heap.size→z.ownBlock≠some k→k≠y.heap.size→(w4.setCell ⟨y.heap.size,7,none⟩ D).heap[k]?=wr.heap[k]?:=fun k bi M bB=>by
  rw[Oa4 _ _ _ _ bB,R.block k (by rw[Oa7];omega) (Oc5 M),Oa9 _ _ _ (by omega)]
  exact bj.block k bi (Oc5 M)
 refine⟨⟨bi,by rw[Oa8,List.length_singleton,bD],bE,fun _=>⟨C,x,rfl⟩,Jl h.steps fun g e=>bz g (br g e).2 (h.sep g e) (by have:=br g e;omega),fun g e bh=>?_,?_⟩,M⟩
 ·rcases bn with q|q
  ·exact h.sep g e (q.symm.trans bh)
  rw[q]at bh
  cases bh
  have:=br _ e
  omega
 have b1:Below y.heap.size y A:=Jy h.low bj fun k bl=>by have:=bu k bl;omega
 have b2:Below y.heap.size y w4:=Jy (Jc b1 O) R fun k bl=>by have:=bu k bl;omega
 exact b2.setCell (p:=⟨y.heap.size,7,none⟩) (Oa2 _) _
theorem Jzj:(prog.info? 75).map (fun i=>(i.zero,i.size,i.bytes))=some (some (.slice none 0 0),1,24):=by kernel_rfl
theorem Jr6 (bf no bj s d:Nat)(z:List Nd)(D C A E:Int)(bh:Nat→List Dn→Prop)(bn:Nat→Value→World→Prop)(bi:Value→World→Prop)(w:World)
  (cP:∀ j nd,z[j]?=some nd→Zm w bf (no+j*7) nd) (fE:1≤z.length) (fF:z.length≤12) (dA:1≤D) (dB:D≤1000) (bx:2≤C) (bc:C≤1000) (dg:0≤A) (dh:A≤4096)
  (dw:∀ H,Below w.heap.size w H→Calls prog 41 #[(.agg #[.slice (some ⟨bf,no,none⟩) z.length bj]),(.func (.func 42) #[.pointer (some ⟨s,0,none⟩)] #[])] H fun e w'=>∃ a n c,e=.returned (.tuple #[.slice a n c,.nilIface])∧Below H.heap.size H w'∧bi (.slice a n c) w')
  (cS:∀ v W R,Below W.heap.size W R→bi v W→bi v R)
  (dz:∀ H bO,Below w.heap.size w H→bi bO H→∀ j nd,z[j]?=some nd→Ju1 H (H.heap.size+1) H.heap.size D C A (.int .i64 E) (.pointer (some ⟨s,0,none⟩)) (.pointer (some ⟨d,0,none⟩)) bO bh bn nd j)
  (cM:∀ j v W R,Below W.heap.size W R→bn j v W→bn j v R) (cQ:bh 0 []) :
  Calls prog 27 #[(.agg #[.slice (some ⟨bf,no,none⟩) z.length bj]),.agg #[.int .i64 D,.int .i64 C,.int .i64 A,.int .i64 E],(.pointer (some ⟨s,0,none⟩)),(.pointer (some ⟨d,0,none⟩))] w (Jx8 z.length bh bn w):=by
 have bI:Hid ((∀ j nd,z[j]?=some nd→Zm w bf (no+j*7) nd)∧(∀ H bO,Below w.heap.size w H→bi bO H→∀ j nd,z[j]?=some nd→Ju1 H (H.heap.size+1) H.heap.size D C A (.int .i64 E) (.pointer (some ⟨s,0,none⟩)) (.pointer (some ⟨d,0,none⟩)) bO bh bn nd j)∧(∀ j v W R,Below W.heap.size W R→bn j v W→bn j v R)∧bh 0 []∧∀ v W R,Below W.heap.size W R→bi v W→bi v R):=⟨cP,dz,cM,cQ,cS⟩
 have fH:=run_neq_nil_nil (P:=prog)
 obtain⟨w1,bE⟩:∃ w1,w1=(w.alloc (.cells #[.slice (some ⟨bf,no,none⟩) z.length bj] 54)).alloc (.cells #[.int .i64 D,.int .i64 C,.int .i64 A,.int .i64 E] 28):=⟨_,rfl⟩
 have cj:Below w.heap.size w w1:=by rw[bE];exact Jc (Jc (Oa5 _ _) _) _
 have cx:=dw w1 cj
 have cE:Hid (Below w.heap.size w w1):=cj
 have dE:w1.heap[w.heap.size]?=some (.cells #[.slice (some ⟨bf,no,none⟩) z.length bj] 54 (0,0)):=by rw[bE];exact(Oa9 _ _ _ (by simp)).trans (heap_alloc_new w _)
 have dG:w1.heap[w.heap.size+1]?=some (.cells #[.int .i64 D,.int .i64 C,.int .i64 A,.int .i64 E] 28 (0,0)):=by
  have:=heap_alloc_new (w.alloc (.cells #[.slice (some ⟨bf,no,none⟩) z.length bj] 54)) (.cells #[.int .i64 D,.int .i64 C,.int .i64 A,.int .i64 E] 28)
  rw[Oa7]at this
  rw[bE]
  exact this
 have dp:=fun W=>Jk5 D C A (.int .i64 E) W dA dB bx bc dg dh
 have bJ:Hid (w1.heap[w.heap.size]?=some (.cells #[.slice (some ⟨bf,no,none⟩) z.length bj] 54 (0,0))∧w1.heap[w.heap.size+1]?=some (.cells #[.int .i64 D,.int .i64 C,.int .i64 A,.int .i64 E] 28 (0,0))):=⟨dE,dG⟩
 rw[bE]at cx
 have cG:Hid (w1=_):=bE
 clear cP dz cM cQ dw cj dE dG dA dB bx bc dg dh bE cS
 go_enter func27,ntmps27
 go_upto_region 2 with(go_at_call 41;refine cx.mono ?_;rintro bQ br ⟨K,O,M,rfl,bx,dv⟩)
 rw[←cG.out]at bx
 have dJ:=(bx.block _ (Jd bJ.out.1)).trans bJ.out.1
 have bl:=(bx.block _ (Jd bJ.out.2)).trans bJ.out.2
 have ca:br.cell? ⟨w.heap.size+1,0,none⟩=some (.int .i64 D):=by simp[World.cell?,bl]
 have bz:br.cell? ⟨w.heap.size+1,1,none⟩=some (.int .i64 C):=by simp[World.cell?,bl]
 have bG:br.cell? ⟨w.heap.size+1,2,none⟩=some (.int .i64 A):=by simp[World.cell?,bl]
 have bH:br.cell? ⟨w.heap.size+1,3,none⟩=some (.int .i64 E):=by simp[World.cell?,bl]
 have bK:Hid (Below w.heap.size w br∧bi (.slice K O M) br∧br.heap[w.heap.size]?=some (.cells #[.slice (some ⟨bf,no,none⟩) z.length bj] 54 (0,0))∧br.heap[w.heap.size+1]?=some (.cells #[.int .i64 D,.int .i64 C,.int .i64 A,.int .i64 E] 28 (0,0))):=⟨Jb cE.out bx,dv,dJ,bl⟩
 clear cx bx dv dJ bl cG bJ cE w1
 go_upto_region 6 with(go_at_call 43;refine(dp _).mono ?_;rintro bQ y ⟨rfl,bc⟩)
 have dX:=Ja bc ca
 have dY:=Ja bc bz
 have bL:=Ja bc bG
 have dZ:=Ja bc bH
 have cD:=(bc.block _ (Jd bK.out.2.2.1)).trans bK.out.2.2.1
 have bX:Below w.heap.size w y:=Jb bK.out.1 bc
 have cy:=bI.out.2.2.2.2 _ _ _ bc bK.out.2.1
 have ch:Hid (Below w.heap.size w y∧bi (.slice K O M) y):=⟨bX,cy⟩
 have cC:=bI.out.2.1 y (.slice K O M) bX cy
 have dR:Hid _:=cC
 have bR:Below y.heap.size y (y.alloc (.cells #[.int .i64 D,.int .i64 C,.int .i64 A,.int .i64 E,(.pointer (some ⟨s,0,none⟩)),(.pointer (some ⟨d,0,none⟩)),.slice K O M,.slice none 0 0] 105)):=Jc (Oa5 _ _) _
 have dr:(y.alloc (.cells #[.int .i64 D,.int .i64 C,.int .i64 A,.int .i64 E,(.pointer (some ⟨s,0,none⟩)),(.pointer (some ⟨d,0,none⟩)),.slice K O M,.slice none 0 0] 105)).heap[y.heap.size]?=_:=heap_alloc_new y (.cells #[.int .i64 D,.int .i64 C,.int .i64 A,.int .i64 E,(.pointer (some ⟨s,0,none⟩)),(.pointer (some ⟨d,0,none⟩)),.slice K O M,.slice none 0 0] 105)
 have dI:=(bR.block _ (Jd cD)).trans cD
 have cz:=Jxb y.heap.size bf no bj z (y.alloc (.cells #[.int .i64 D,.int .i64 C,.int .i64 A,.int .i64 E,(.pointer (some ⟨s,0,none⟩)),(.pointer (some ⟨d,0,none⟩)),.slice K O M,.slice none 0 0] 105)) (fun j p cu=>((bI.out.1 j p cu).below bX).below bR) (fun p cu=>by
  obtain⟨j,de⟩:=Ok2.1 cu
  have:=cC j p de
  exact⟨this.1,this.2.1⟩) (by omega)
 have dH:(y.alloc (.cells #[.int .i64 D,.int .i64 C,.int .i64 A,.int .i64 E,(.pointer (some ⟨s,0,none⟩)),(.pointer (some ⟨d,0,none⟩)),.slice K O M,.slice none 0 0] 105)).cell? ⟨w.heap.size,0,none⟩=some (.slice (some ⟨bf,no,none⟩) z.length bj):=by simp[World.cell?,dI]
 clear ca bz bG bH bc dp bK cD bX cy cC dI
 go_upto_region 7 with fail
 have bD:Hid ((y.alloc (.cells #[.int .i64 D,.int .i64 C,.int .i64 A,.int .i64 E,(.pointer (some ⟨s,0,none⟩)),(.pointer (some ⟨d,0,none⟩)),.slice K O M,.slice none 0 0] 105)).heap[y.heap.size]?=some (.cells #[.int .i64 D,.int .i64 C,.int .i64 A,.int .i64 E,(.pointer (some ⟨s,0,none⟩)),(.pointer (some ⟨d,0,none⟩)),.slice K O M,.slice none 0 0] 105 (0,0))∧Below y.heap.size y (y.alloc (.cells #[.int .i64 D,.int .i64 C,.int .i64 A,.int .i64 E,(.pointer (some ⟨s,0,none⟩)),(.pointer (some ⟨d,0,none⟩)),.slice K O M,.slice none 0 0] 105))∧(y.alloc (.cells #[.int .i64 D,.int .i64 C,.int .i64 A,.int .i64 E,(.pointer (some ⟨s,0,none⟩)),(.pointer (some ⟨d,0,none⟩)),.slice K O M,.slice none 0 0] 105)).heap.size=y.heap.size+1):=⟨dr,bR,by simp⟩
 clear dr bR
 generalize y.alloc (.cells #[.int .i64 D,.int .i64 C,.int .i64 A,.int .i64 E,(.pointer (some ⟨s,0,none⟩)),(.pointer (some ⟨d,0,none⟩)),.slice K O M,.slice none 0 0] 105)=dT at cz dH bD ⊢
 go_wp2_with (go_at_call 44;refine cz.mono ?_;rintro bQ cH ⟨cU,sv,rfl,cA⟩;obtain⟨cb,cc,cB⟩:=Jcz cA;have dP:Hid (cH.ownsRow dT.heap.size 110 8 sv z.length (z.flatMap (Jbu y.heap.size))):=cA;have fy:Hid (sv=.slice cb z.length cc):=cB;have fh:sv=.slice cb z.length cc:=cB;clear cA cB;subst fh)
 have cO:Jty y D C A (.int .i64 E) (.pointer (some ⟨s,0,none⟩)) (.pointer (some ⟨d,0,none⟩)) (.slice K O M) (.slice cb z.length cc) z bh 0 (.slice none 0 0) [] cH:=
  ⟨⟨(cU.block _ (Jd bD.out.1)).trans bD.out.1,Jo.nil _ _ _,fun x fj=>(by cases fj),by omega⟩,rfl,bI.out.2.2.2.1,fun h=>absurd h (Oe3 _),(by have:=dP.out;rw[bD.out.2.2]at this;exact this),fun g e bL=>(by cases bL),Jb bD.out.2.1 cU⟩
 have dM:Hid _:=cO
 clear cO cz bD dH dX dY bL dZ
 go_loopw [41] (fun i wr=>∃ (j:Nat) (X:Value) (bP:List Dn),j≤z.length∧i=.int .i64 (j:Int)∧Jty y D C A (.int .i64 E) (.pointer (some ⟨s,0,none⟩)) (.pointer (some ⟨d,0,none⟩)) (.slice K O M) (.slice cb z.length cc) z bh j X bP wr) (fun i _=>z.length-(intOf i).toNat)
 case atStart=>exact⟨0,_,_,Ob7 _,rfl,dM.out⟩
 case round=>
  obtain⟨j,X,bP,de,rfl,hL⟩:=hrel
  have cf:Hid _:=hL
  have dt:=hL.rs.run
  obtain⟨cI,cJ,bT,cY⟩:=hL.rs.own.cells
  rw[Oa6,hL.len]at bT
  by_cases di:j<z.length
  ·obtain⟨nd,bY⟩:∃ nd,z[j]?=some nd:=⟨_,Oa3 di⟩
   obtain⟨fk,fl,cn⟩:=dR.out j nd bY
   obtain⟨fM,fL,dx,⟨fN,fO,fP,fQ,fR,fS,fT⟩,fx⟩:=hL.step bY
   simp only[On8]at dx
   obtain⟨rfl,-,rfl⟩:=dx
   have fd:=Js3 nd.op
   obtain⟨f,hf⟩:∃ f,f=Jej nd.op:=⟨_,rfl⟩
   rw[←hf]at fd fx cn
   have fI:∀ (a:Addr) (H:World),(store a (.func (.func f) #[.pointer (some ⟨y.heap.size,0,none⟩)] #[])).run prog H=stored prog H a (.func (.func f) #[.pointer (some ⟨y.heap.size,0,none⟩)] #[]) .plain:=fun a H=>run_store _ _ _ _ _ rfl
   have bS:Below wr.heap.size wr (wr.alloc (.cells #[.int .i64 nd.op,.int .i64 nd.l,.int .i64 nd.r,.string nd.tn,.slice nd.xs.1 nd.xs.2.1 nd.xs.2.2,.slice nd.ky.1 nd.ky.2.1 nd.ky.2.2,.int .i64 nd.kk,.func (.func f) #[.pointer (some ⟨y.heap.size,0,none⟩)] #[]] 110)):=Jc (Oa5 _ _) _
   have cl:=(cn (wr.alloc (.cells #[.int .i64 nd.op,.int .i64 nd.l,.int .i64 nd.r,.string nd.tn,.slice nd.xs.1 nd.xs.2.1 nd.xs.2.2,.slice nd.ky.1 nd.ky.2.1 nd.ky.2.2,.int .i64 nd.kk,.func (.func f) #[.pointer (some ⟨y.heap.size,0,none⟩)] #[]] 110)) X bP (Jb hL.low bS) (fun g e=>by have:=(Je hL.rs.own e).1;omega) (hL.rs.below bS) hL.len hL.ps).mono (R':=fun e R=>∃ a b,e=.returned (.tuple #[a,b])∧(wr.alloc (.cells #[.int .i64 nd.op,.int .i64 nd.l,.int .i64 nd.r,.string nd.tn,.slice nd.xs.1 nd.xs.2.1 nd.xs.2.2,.slice nd.ky.1 nd.ky.2.1 nd.ky.2.2,.int .i64 nd.kk,.func (.func f) #[.pointer (some ⟨y.heap.size,0,none⟩)] #[]] 110)).grownBy R X.ownBlock∧((∃ (x:Nat×List (Option Addr×Nat)×List (List V)) (U:List Dn),a=dnV (some x)∧b=.nilIface∧Jd6 (y.heap.size+1) y.heap.size D C A (.int .i64 E) (.pointer (some ⟨s,0,none⟩)) (.pointer (some ⟨d,0,none⟩)) (.slice K O M) X U R∧Jfk y.heap.size X x R∧U.length=j∧bh (j+1) (U++[some x]))∨(∃ (ty bb:Nat),a=.slice none 0 0∧b=.iface ty (.pointer (some ⟨bb,0,none⟩))∧bn j b R))) (fun e R h=>by
    obtain⟨dc,⟨x,U,rfl,fs,ft,fu,fv⟩|⟨ty,bb,rfl,bV⟩⟩:=h
    ·exact⟨_,_,rfl,dc,.inl ⟨x,U,rfl,rfl,fs,ft,fu,fv⟩⟩
    exact⟨_,_,rfl,dc,.inr ⟨ty,bb,rfl,rfl,bV⟩⟩)
   have bB:Hid (j<z.length∧z[j]?=some nd∧Below wr.heap.size wr (wr.alloc (.cells #[.int .i64 nd.op,.int .i64 nd.l,.int .i64 nd.r,.string nd.tn,.slice nd.xs.1 nd.xs.2.1 nd.xs.2.2,.slice nd.ky.1 nd.ky.2.1 nd.ky.2.2,.int .i64 nd.kk,.func (.func f) #[.pointer (some ⟨y.heap.size,0,none⟩)] #[]] 110))):=⟨di,bY,bS⟩
   have da:∀ g,X.ownBlock=some g→y.heap.size+1≤g∧g<wr.heap.size:=fun g e=>Je hL.rs.own e
   have bA:Hid (X=.slice cI j cJ∧∀ g,X.ownBlock=some g→y.heap.size+1≤g∧g<wr.heap.size):=⟨bT,da⟩
   clear hf hL cn bY fk fl dt cY bS bT da
   go_upto_region 11 with(refine cl.mono ?_;rintro bQ Z ⟨fw,fK,rfl,bW,fc⟩)
   rcases fc with⟨x,U,ds,rfl,hR,cK,cZ,dq⟩|⟨ty,bb,rfl,rfl,bV⟩
   ·as_aux_lemma=>
     have fg:fw=.slice (some ⟨x.1,0,none⟩) x.2.2.length x.2.2.length:=ds
     subst fg
     have dL:Hid (wr.grownBy Z X.ownBlock):=Ut (Qq bB.out.2.2) bW
     have bC:Hid (Jd6 (y.heap.size+1) y.heap.size D C A (.int .i64 E) (.pointer (some ⟨s,0,none⟩)) (.pointer (some ⟨d,0,none⟩)) (.slice K O M) X U Z∧Jfk y.heap.size X x Z∧U.length=j∧bh (j+1) (U++[some x])):=⟨hR,cK,cZ,dq⟩
     have ci:=hR.run.cells.2.2.2.2
     rw[bA.out.1]at ci
     have ff:Jo Z (y.heap.size+1) 75 (.slice cI j cJ) (U.map dnV):=by have:=hR.own;rw[bA.out.1]at this;exact this
     clear ds hR cK cZ dq bW cl
     go_wp2_with (at_builtin;go_must (refine Ul (by rfl) _ _ 103 75 _ 24 Jzj (by rfl) (by decide) (by kernel_rfl) (by rfl) (y.heap.size+1) _ _ (by rfl) (Jo.alloc ff _) ⟨Z.heap.size,0,none⟩ 1 [dnV (some x)] (by rfl) (by exact Ua Z _ _) (by intro u dy;simp at dy;subst dy;rfl) (by have:=bC.out.2.2.1;have:=bB.out.1;simp only[List.length_cons,List.length_nil,Oa6];omega) (by simp;have:=Jd bC.out.1.run;omega) ?_);intro fC w4 bl fq fr;go_must (obtain⟨fb,cv⟩:=cf.out.next dL.out bC.out.1 bC.out.2.1 bC.out.2.2.1 bC.out.2.2.2 (.cells #[dnV (some x)] 75) bl (by rw[bA.out.1];exact fq) (by rw[bA.out.1];exact fr));obtain⟨fz,fA,du,_⟩:=bl.cells;obtain⟨dC,dk⟩:∃ dC,dC=(U.map dnV++[dnV (some x)]).length:=⟨_,rfl⟩;rw[←dk]at du;clear dk;subst du;rw[bA.out.1]at cv;have fB:=cv.cells.2.2.2.2;have fD:w4.frozen? ⟨y.heap.size,7,none⟩=false:=(by simp[World.frozen?,show w4.heap[y.heap.size]?=_ from cv]))
     go_roundw
     case rel=>exact⟨j+1,_,_,bB.out.1,by have:=bB.out.1;go_num,fb⟩
     case measure=>have:=bB.out.1;simp[intOf];omega
   as_aux_lemma=>
    have dd:=Ut (Qq (r:=X.ownBlock) bB.out.2.2) bW
    have cV:Below y.heap.size y Z:=Jy cf.out.low dd fun k cr=>by have:=bA.out.2 k cr;omega
    have cF:Hid (Below w.heap.size w Z):=Jb ch.out.1 cV
    have cN:=bI.out.2.2.1 j _ Z (Z.alloc (.cells #[.int .i64 (j:Int),.iface ty (.pointer (some ⟨bb,0,none⟩))] 113)) (Jc (Oa5 _ _) _) bV
    have dK:Hid _:=cN
    clear bV cN cV dd bW cl
    go_wp2
    refine bodyPost_ret (v:=.tuple #[.slice none 0 0,.iface 111 (.pointer (some ⟨Z.heap.size,0,none⟩))]) (by simp[results,results27,go_sem]) rfl ⟨Jc cF.out _,.inr ⟨j,_,Z.heap.size,rfl,heap_alloc_new Z _,dK.out,cF.out.size⟩⟩
  as_aux_lemma=>
   have df:j=z.length:=by omega
   obtain⟨U,x,bM⟩:=hL.last (by omega)
   have fe:U.length+1=z.length:=by have:=hL.len;rw[bM,Oa8,List.length_singleton]at this;omega
   obtain⟨m,dj⟩:∃ m,m=U.length:=⟨_,rfl⟩
   rcases hL.rs.own with⟨ca,⟨bz,bG⟩|⟨bu,dW,dV,bz,bG,bH,fm,fo,fp,dD⟩⟩
   ·rw[Oa6,hL.len]at bG;omega
   rw[Oa6,hL.len]at bz
   have cX:dV[m]?=some (dnV (some x)):=by
    have bN:(bP.map dnV)[m]?=some (dnV (some x)):=by rw[bM,Ob8,Ob6 (by rw[Oa6];omega),Oa6,dj,Oe1];rfl
    rw[←dD,Oe7]at bN
    split at bN
    ·rw[Oe6]at bN;exact bN
    cases bN
   have cW:wr.cell? ⟨bu,m,none⟩=some (.slice (some ⟨x.1,0,none⟩) x.2.2.length x.2.2.length):=by
    simp only[World.cell?,bH]
    exact cX
   have db:wr.frozen? ⟨bu,m,none⟩=false:=by simp[World.frozen?,bH]
   have bZ:=hL.rs.run
   rw[bz]at bZ
   have fi:=Jjb y.heap.size bu j dW m D (.int .i64 C) (.int .i64 A) (.int .i64 E) (.pointer (some ⟨s,0,none⟩)) (.pointer (some ⟨d,0,none⟩)) (.slice K O M) _ _ _ wr bZ (by omega) cW db
   have ci:=bZ.cells.2.2.2.2
   have bU:=hL.rs.cols x (by rw[bM];simp)
   have dS:Hid (Qd (wr.setCell ⟨bu,m,none⟩ (.slice none 0 0)) x.1 x.2.1 x.2.2):=by
    have dm:X.ownBlock=some bu:=by rw[bz];rfl
    exact bU.1.blocks (by simp[World.setCell]) ⟨Oa4 _ _ _ _ (fun e=>bU.2.1.2.1 (dm.trans (congrArg some e.symm))),fun k cr b o e=>Oa4 _ _ _ _ (fun bL=>(bU.2.2 k cr b o e).2.1 (dm.trans (congrArg some bL.symm)))⟩
   have dO:Hid (bh z.length (U++[some x])):=by have:=hL.ps;rw[bM,df]at this;exact this
   have dN:Hid (Below w.heap.size w (wr.setCell ⟨bu,m,none⟩ (.slice none 0 0))):=(Jb ch.out.1 hL.low).setCell (p:=⟨bu,m,none⟩) (by have:=ch.out.1.size;simp;omega) _
   rw[df]at ci ⊢
   have fJ:(z.length:Int)-1=(m:Int):=by omega
   have fG:m≤11:=by omega
   clear bU bZ hL cf cX db cW ca bz bG bH fm fo fp dD cY bT bM fe dj dt
   go_wp2_with (go_at_call 45;refine fi.mono ?_;rintro bQ dU ⟨rfl,cT⟩;have dQ:Hid (dU=wr.setCell ⟨bu,m,none⟩ (.slice none 0 0)):=cT;clear cT)
   refine bodyPost_ret (v:=.tuple #[.slice (some ⟨x.1,0,none⟩) x.2.2.length x.2.2.length,.nilIface]) (by simp[results,results27,go_sem]) rfl ?_
   rw[dQ.out]
   exact⟨dN.out,.inl ⟨x,U,rfl,dS.out,dO.out⟩⟩
attribute [local go_sem] Oc0
theorem Jd6.take {L O:Nat}{bx bc Z:Int}{bn br bh bl A:Value}{z:List Dn}{W:World}(h:Jd6 L O bx bc Z bn br bh bl A z W){i:Nat}{x:Nat×List (Option Addr×Nat)×List (List V)}(hi:z[i]?=some (some x)) :
  ∃ y H,A=.slice (some ⟨y,0,none⟩) z.length H∧i<z.length∧L≤y∧y<W.heap.size∧W.cell? ⟨y,i,none⟩=some (.slice (some ⟨x.1,0,none⟩) x.2.2.length x.2.2.length)∧W.frozen? ⟨y,i,none⟩=false∧Jfk O A x W ∧
   ∀ E,W.grownBy E (some y)→E.heap[y]?=Jdc W y i→Jd6 L O bx bc Z bn br bh bl A (z.set i none) E:=by
 have bB:i<z.length:=(Ob9.1 hi).1
 have bC:=h.low
 rcases h.own with⟨bL,⟨D,K⟩|⟨y,H,bf,D,K,M,bj,bI,bJ,X⟩⟩
 ·rw[Oa6]at K;omega
 rw[Oa6]at D bj
 have bA:bf[i]?=some (dnV (some x)):=by
  have C:(z.map dnV)[i]?=some (dnV (some x)):=by rw[Ob1,hi];rfl
  rw[←X,Oe7]at C
  split at C
  ·rw[Oe6]at C;exact C
  cases C
 have bD:some x∈z:=Of6 hi
 have bE:A.ownBlock=some y:=by rw[D];rfl
 refine⟨y,H,D,bB,K,Jd M,?_,by simp[World.frozen?,M],h.cols x bD,fun E U R=>?_⟩
 ·simp only[World.cell?,M]
  exact bA
 have hs:=Jk M i (.slice none 0 0)
 unfold Jdc at R
 rw[hs]at R
 refine⟨(U.block O (Jd h.run) (fun e=>by cases e;omega)).trans h.run,⟨?_,.inr ⟨y,H,bf.setIfInBounds i (.slice none 0 0),?_,K,R,?_,bI,?_,?_⟩⟩,fun bu bG=>?_,bC⟩
 ·rw[Oa6,Of8];omega
 ·rw[Oa6,Of8];exact D
 ·rw[Oa6,Of8];exact bj
 ·simpa using bJ
 ·rw[Oa6,Of8,Ok0,List.take_set]
  rw[Oa6]at X
  rw[X,Op0]
  rfl
 have bH:some bu∈z:=by
  rcases List.mem_or_eq_of_mem_set bG with h|h
  ·exact h
  ·cases h
 exact(h.cols bu bH).move U.size fun b bK bi bz=>⟨U.block b bz (fun e=>bi (bE.trans e.symm)),bi⟩
theorem Jgr {y:Nat}{w w':World}(h:Ju (·=y) w w'):w.grownBy w' (some y):=⟨h.os,h.tape,h.output,h.size,fun k z A=>h.block k z fun e=>A (by rw[show k=y from e])⟩
def Kid (L D:Nat)(bc H E:Int)(X Z K U z:Value)(M:List Dn)(l:Nat)(O R:Addr)(e:List Pt)(cols:List (List V))(N:Nat)(W:World):Ending→World→Prop:=fun C y=>W.grownBy y z.ownBlock ∧
 ((∃ (g:Nat) (hs:List (Option Addr×Nat)),C=.returned (.tuple #[dnV (some (g,hs,cols.map (Yq ((Yf e cols N).map fun (i:Nat)=>(i:Int))))),.nilIface])∧Jd6 L D bc H E X Z K U z (M.set l none) y∧Jfk D z (g,hs,cols.map (Yq ((Yf e cols N).map fun (i:Nat)=>(i:Int)))) y∧∀ i,i<N→∃ v,Kl e (Ji cols i)=.inl v) ∨
  (∃ A kk r:Nat,C=.returned (.tuple #[.slice none 0 0,Qv A])∧r<N∧Kr [e] (Ji cols r)≠0∧Ja8 y A (r:Int) kk (Jdb O R (Kr [e] (Ji cols r)))∧∀ i,i<r→∃ v,Kl e (Ji cols i)=.inl v))
theorem Juo {L K:Nat}{D:Nat}{O M:Int}{bj bl R bi U:Value}{H:List Dn}{W:World}(h:Jd6 L K D O M bj bl R bi U H W)(nd:Nd)(l:Nat)(g:Nat)(hs:List (Option Addr×Nat))(cols:List (List V))(hi:H[l]?=some (some (g,hs,cols)))(bT:nd.l=(l:Int))(Z eo ne bc:Nat)(ch:nd.xs=(some ⟨Z,eo,none⟩,ne,bc))(bP:1≤bc)(e:List Pt)(B N:Nat)(cl:B≤L)(X bh:Addr)
  (bG:∀ E:World,(∀ k,k<B→E.heap[k]?=W.heap[k]?)→Jaz E Z eo [e]) (bX:Jga cols.length [e]) (ci:1≤D) (cz:D≤1000) (cb:1≤cols.length) (cc:cols.length≤1000) (bN:∀ j,j<cols.length→(cols.getD j []).length=N) (bI:N≤100000) (bR:∀ i,i<N→∀ v∈Ji cols i,Jg v.n) (bH:Jdo W X bh) (cx:10<B∧11<B) :
  Calls prog 82 #[.pointer (some ⟨K,0,none⟩),nd.val] W (Kid L K D O M bj bl R bi U H l X bh e cols N W):=by
 obtain⟨bn,bB,bu,bS,cn,cr,bM,hf,C,bW⟩:=h.take hi
 have bz:=h.run
 rw[bu]at bz
 have z:U.ownBlock=some bn:=by rw[bu];rfl
 have cy:=h.low
 have:=Js8 K bn H.length bB l D (.int .i64 O) (.int .i64 M) bj bl R bi nd.op nd.r nd.tn (.slice nd.ky.1 nd.ky.2.1 nd.ky.2.2) nd.kk Z eo ne bc e g cols.length hs cols N W X bh bz bS bM hf (by omega) (fun E bJ=>bG E fun k bf=>bJ k (by omega) (by omega)) bX bP ci (by omega) C.1 cb cc bN bI bR ⟨fun e=>C.2.1.2.1 (z.trans (congrArg some e.symm)),fun j y b o A bC=>(C.2.2 j y b o A).2.1 (z.trans (congrArg some bC.symm))⟩ ⟨C.2.1.2.2,fun j y b o A=>(C.2.2 j y b o A).2.2⟩ bH ⟨by omega,by omega⟩
 rw[Nd.val,bT,ch]
 refine this.mono fun cj bA bY=>?_
 obtain⟨bf,⟨bE,ca,rfl,cv,br,bK,bU,bO⟩|⟨bD,kk,r,rfl,bZ,cu,bV,cf,bQ⟩⟩:=bY
 ·have bx:=Jgr bf
  refine⟨by rw[z];exact bx,.inl ⟨bE,ca,?_,bW bA bx bO,⟨br,⟨?_,?_⟩⟩,bK⟩⟩
  ·simp only[dnV,Oa6]
  ·exact⟨by have:=Jd h.run;omega,by rw[z];intro e;cases e;omega,br.row.lt⟩
  intro j y b o A
  rw[Oa6]at y
  have bL:=bU j y b o A
  exact⟨by have:=Jd h.run;omega,by rw[z];intro e;cases e;omega,bL.2⟩
 refine⟨by rw[z];exact Jgr bf,.inr ⟨bD,kk,r,rfl,bZ,bV,cf,fun i hi=>bQ i hi e (Oc6.2 rfl)⟩⟩
def slH (v:Value):Option Addr×Nat:=match v with|.slice a _ c=>(a,c)|_=>(none,0)
theorem Jo6 {w:World}{B g:Nat}{z:List Value}{cs:List (List V)}(h:Jar w B g z cs):Qd w g (z.map slH) cs∧∀ j,j<cs.length→∀ b o,(Yo (z.map slH) j).1=some ⟨b,o,none⟩→B≤b∧b<w.heap.size:=by
 have H:∀ j,j<cs.length→Yo (z.map slH) j=slH (Uq z j):=fun j y=>by
  unfold Yo Uq
  rw[Oa0,Oa0,Ob1,Oa3 (by rw[h.len];exact y)]
  rfl
 have A:∀ j,j<cs.length→Uq z j=.slice (Yo (z.map slH) j).1 (cs.getD j []).length (Yo (z.map slH) j).2∧Jv w (Yo (z.map slH) j).1 (cs.getD j [])∧(cs.getD j []).length≤(Yo (z.map slH) j).2:=fun j y=>by
  obtain⟨a,cap,e,K⟩:=(h.own j y).vals
  rw[H j y,e]
  refine⟨rfl,K,?_⟩
  rcases h.own j y with⟨_,⟨C,D⟩|⟨O,M,_,C,_,_,E,_⟩⟩
  ·rw[D];exact Ob7 _
  rw[e]at C
  cases C
  exact E
 refine⟨⟨?_,fun j y=>(A j y).2.1,fun j y=>(A j y).2.2⟩,fun j y b o e=>?_⟩
 ·rw[←h.len]
  exact h.row.congr fun j y=>(A j (by rw[←h.len];exact y)).1
 refine Je (h.own j y) ?_
 rw[(A j y).1,e]
 rfl
def Khw (L E:Nat)(bf K H:Int)(Z bc M X A:Value)(O:List Dn)(l:Nat)(R U:Addr)(y:List (List Pt))(cols:List (List V))(N:Nat)(W:World):Ending→World→Prop:=fun D z=>W.grownBy z A.ownBlock ∧
 ((∃ (g:Nat) (hs:List (Option Addr×Nat)),D=.returned (.tuple #[dnV (some (g,hs,y.map fun e=>(List.range N).map fun i=>pv1 e (Ji cols i))),.nilIface])∧Jd6 L E bf K H Z bc M X A (O.set l none) z∧Jfk E A (g,hs,y.map fun e=>(List.range N).map fun i=>pv1 e (Ji cols i)) z∧∀ i,i<N→∀ e∈y,∃ v,Kl e (Ji cols i)=.inl v) ∨
  (∃ C kk r:Nat,D=.returned (.tuple #[.slice none 0 0,Qv C])∧r<N∧Kr y (Ji cols r)≠0∧Ja8 z C (r:Int) kk (Jdb R U (Kr y (Ji cols r)))∧∀ i,i<r→∀ e∈y,∃ v,Kl e (Ji cols i)=.inl v))
theorem Jsx {L K:Nat}{E:Nat}{O M:Int}{bh bi R bf U:Value}{H:List Dn}{W:World}(h:Jd6 L K E O M bh bi R bf U H W)(nd:Nd)(l:Nat)(g:Nat)(hs:List (Option Addr×Nat))(cols:List (List V))(hi:H[l]?=some (some (g,hs,cols)))(bT:nd.l=(l:Int))(Z eo bl:Nat)(y:List (List Pt))(cf:nd.xs=(some ⟨Z,eo,none⟩,y.length,bl))(B N:Nat)(cn:B≤L)(X bc:Addr)
  (bE:Jaz W Z eo y) (bX:Jga cols.length y) (bO:1≤y.length) (bP:y.length≤1000) (ch:1≤E) (cA:E≤1000) (ca:1≤cols.length) (cb:cols.length≤1000) (bM:∀ j,j<cols.length→(cols.getD j []).length=N) (bH:N≤100000) (bR:∀ i,i<N→∀ v∈Ji cols i,Jg v.n) (bG:Jdo W X bc) (cy:10<B∧11<B) :
  Calls prog 83 #[.pointer (some ⟨K,0,none⟩),nd.val] W (Khw L K E O M bh bi R bf U H l X bc y cols N W):=by
 obtain⟨bj,bB,br,bS,cr,cu,bL,hf,C,bW⟩:=h.take hi
 have bz:=h.run
 rw[br]at bz
 have z:U.ownBlock=some bj:=by rw[br];rfl
 have cz:=h.low
 have:=Jp8 K bj H.length bB l E (.int .i64 O) (.int .i64 M) bh bi R bf nd.op nd.r nd.tn (.slice nd.ky.1 nd.ky.2.1 nd.ky.2.2) nd.kk Z eo bl y g cols.length hs cols N W X bc bz bS bL hf (by omega) bE bX bO bP ch (by omega) C.1 ca cb bM bH bR ⟨fun e=>C.2.1.2.1 (z.trans (congrArg some e.symm)),fun j D b o A bC=>(C.2.2 j D b o A).2.1 (z.trans (congrArg some bC.symm))⟩ ⟨C.2.1.2.2,fun j D b o A=>(C.2.2 j D b o A).2.2⟩ bG ⟨by omega,by omega⟩
 rw[Nd.val,bT,cf]
 refine this.mono fun cl bA bY=>?_
 obtain⟨bx,⟨ci,cj,rfl,cx,bI,bJ,bN⟩|⟨bD,kk,r,rfl,bZ,cv,bV,cc,bQ⟩⟩:=bY
 ·have bu:=Jgr bx
  obtain⟨bn,bU⟩:=Jo6 bI
  refine⟨by rw[z];exact bu,.inl ⟨ci,cj.map slH,?_,bW bA bu bN,⟨bn,⟨?_,?_⟩⟩,bJ⟩⟩
  ·simp only[dnV,Oa6]
  ·exact⟨by have:=Jd h.run;omega,by rw[z];intro e;cases e;omega,bn.row.lt⟩
  intro j D b o A
  have bK:=bU j D b o A
  exact⟨by have:=Jd h.run;omega,by rw[z];intro e;cases e;omega,bK.2⟩
 exact⟨by rw[z];exact Jgr bx,.inr ⟨bD,kk,r,rfl,bZ,bV,cc,bQ⟩⟩
theorem Kdz {L C s:Nat}{X H E:Int}{U K R A:Value}{Z:List Dn}{W:World}(h:Jd6 L C X H E U (.pointer (some ⟨s,0,none⟩)) K R A Z W)(nd:Nd)(cols:List (List V))
  (bx:∀ y,Below W.heap.size W y→Calls prog 48 #[.pointer (some ⟨s,0,none⟩),.string nd.tn] y fun e w'=>Below y.heap.size y w'∧∃ g z,e=.returned (.tuple #[.slice (some ⟨g,0,none⟩) cols.length cols.length,.nilIface])∧Jar w' y.heap.size g z cols) :
  Calls prog 81 #[.pointer (some ⟨C,0,none⟩),nd.val] W fun bc D=>Below W.heap.size W D∧∃ (g:Nat) (hs:List (Option Addr×Nat)),bc=.returned (.tuple #[dnV (some (g,hs,cols)),.nilIface])∧Jd6 L C X H E U (.pointer (some ⟨s,0,none⟩)) K R A Z D∧Jfk C A (g,hs,cols) D:=by
 have:=Jos C s X (.int .i64 H) (.int .i64 E) U K R A nd.op nd.l nd.r nd.tn (.slice nd.xs.1 nd.xs.2.1 nd.xs.2.2) (.slice nd.ky.1 nd.ky.2.1 nd.ky.2.2) nd.kk W (fun y a b w'=>∃ g z,a=.slice (some ⟨g,0,none⟩) cols.length cols.length∧b=.nilIface∧Jar w' y.heap.size g z cols) h.run (fun y M=>(bx y M).mono fun e w' O=>by
  obtain⟨bl,g,z,rfl,bn⟩:=O
  exact⟨bl,_,_,rfl,g,z,rfl,rfl,bn⟩)
 refine this.mono fun bc D O=>?_
 obtain⟨bi,y,M,a,b,rfl,g,z,rfl,rfl,bh⟩:=O
 obtain⟨bf,bu⟩:=Jo6 bh
 have bB:=M.size
 have bz:=bh.low
 have bA:=Jd h.run
 have bj:∀ k,A.ownBlock=some k→k<W.heap.size:=fun k e=>(Je h.own e).2
 refine⟨bi,g,z.map slH,rfl,h.below bi,bf,⟨by omega,fun e=>by have:=bj _ e;omega,bf.row.lt⟩,fun j br b o e=>?_⟩
 have:=bu j br b o e
 exact⟨by omega,fun e=>by have:=bj _ e;omega,this.2⟩
end Go.Proofs.YtjjdldddcegjiaaGreatDoor
