/- The type of an expression, as the program tells it. -/
import Derived.Test.YtdlgbphkaicfaaaGreatDoorXr
import Derived.Test.YtdlgbphkaicfaaaGreatDoorXp
import Derived.Test.YtdlgbphkaicfaaaGreatDoorSb
set_option maxHeartbeats 2000000
set_option maxRecDepth 100000
namespace Go.Proofs.YtdlgbphkaicfaaaGreatDoor
open Go.RowKit Go.Shelf Tryz
attribute [local go_sem] Oc0
def Jbk (sch:List Int)(es:List Pt):Int:=(es.map (tyP sch)).getD (es.length-1) 0
theorem Kc6 (sch:List Int)(es:List Pt)(j k:Nat)(y:k<j):(es.map (tyP sch)).getD k 0=((es.take j).map (tyP sch)).getD k 0:=by
 rw[Oa0,Oa0,Ob1,Ob1,Oe7,if_pos y]
structure TyS (w:World) (cv ev:Value) (sch:List Int) (es:List Pt) (j:Nat) (wr:World):Prop where
 ty:Jg6 wr w.heap.size cv ev
 own:Jo wr (w.heap.size+1) 3 ev (((es.take j).map (tyP sch)).map iv)
 low:Below w.heap.size w wr
theorem TyS.below {w:World}{A ev:Value}{sch:List Int}{es:List Pt}{j:Nat}{wr W:World}(h:TyS w A ev sch es j wr)(y:Below wr.heap.size wr W):TyS w A ev sch es j W:=
 ⟨(y.block _ (Jd h.ty)).trans h.ty,Jl h.own fun g e=>y.block g (Je h.own e).2,Jb h.low y⟩
theorem TyS.more {w:World}{y ev ev':Value}{sch:List Int}{es:List Pt}{j:Nat}{wr w4:World}(h:TyS w y ev sch es j wr){p:Pt}(R:es[j]?=some p)(E:Jo w4 (w.heap.size+1) 3 ev' (((es.take j).map (tyP sch)).map iv++[iv (tyP sch p)]))(D:wr.grownBy w4 ev.ownBlock) :
  TyS w y ev' sch es (j+1) (w4.setCell ⟨w.heap.size,1,none⟩ ev')∧Jg6 w4 w.heap.size y ev:=by
 have O:ev.ownBlock≠some w.heap.size:=fun e=>by have:=(Je h.own e).1;omega
 have A:Jg6 w4 w.heap.size y ev:=(D.block _ (Jd h.ty) (Oc5 O)).trans h.ty
 obtain⟨K,U⟩:=Ob9.1 R
 have hs:=Jk A 1 ev'
 simp only[Oa1,List.set_cons_zero,List.set_cons_succ]at hs
 refine⟨⟨hs,?_,?_⟩,A⟩
 ·rw[Oc4 K,U,Ob8,Ob8]
  exact Jl E fun g H=>Oa4 _ _ _ _ (by have:=(Je E H).1;simp;omega)
 exact(Jy h.low D fun k M=>by have:=(Je h.own M).1;omega).setCell (p:=⟨w.heap.size,1,none⟩) (by simp) _
theorem Jts (bk bl ca:Nat)(es:List Pt)(D:Option Addr)(K:Nat)(sch:List Int)(w:World)
  (bB:∀ k p,es[k]?=some p→Qi w bk (bl+k*7) p) (bA:Kc w D sch) (bM:Uj sch es) (h1:1≤es.length) (cl:es.length≤12) :
  Calls prog 130 #[.slice (some ⟨bk,bl,none⟩) es.length ca,.slice D sch.length K] w fun e w'=>e=.returned (.tuple #[.int .i64 (Jbk sch es),.nilIface])∧Below w.heap.size w w':=by
 have ba:Hid ((∀ k p,es[k]?=some p→Qi w bk (bl+k*7) p)∧Kc w D sch∧Uj sch es):=⟨bB,bA,bM⟩
 clear bB bA bM
 go_enter func130,ntmps130
 go_upto_region 4 with fail
 have bc:TyS w (.slice D sch.length K) (.slice none 0 0) sch es 0 (w.alloc (.cells #[.slice D sch.length K,.slice none 0 0] 333)):=⟨heap_alloc_new w _,Jo.nil _ _ _,Jc (Oa5 _ _) _⟩
 generalize w.alloc (.cells #[.slice D sch.length K,.slice none 0 0] 333)=cc at bc ⊢
 have bS:Hid _:=bc
 clear bc
 go_wp2
 go_loopw [28] (fun i wr=>∃ (j:Nat) (ev:Value),j≤es.length∧i=.int .i64 (j:Int)∧TyS w (.slice D sch.length K) ev sch es j wr) (fun i _=>es.length-(intOf i).toNat)
 case atStart=>exact⟨0,_,Ob7 _,rfl,bS.out⟩
 case round=>
  obtain⟨j,ev,bh,rfl,E⟩:=hrel
  have bn:Hid _:=E
  obtain⟨bT,bz,bG,M⟩:=E.own.cells
  rw[Oa6,Oa6,Oc7,Oj1 bh]at bG
  subst bG
  by_cases bi:j<es.length
  ·obtain⟨p,Z⟩:∃ p,es[j]?=some p:=⟨_,Oa3 bi⟩
   obtain⟨cy,cz,cA,cB,cC,cD,cE⟩:=(ba.out.1 j p Z).below E.low
   have bJ:=ba.out.2.2 j p Z
   have U:((es.take j).map (tyP sch)).length=j:=by rw[Oa6,Oc7,Oj1 bh]
   have X:Below wr.heap.size wr (Zj wr p):=Jc (Oa5 _ _) _
   have bf:=E.below X
   have bD:=Ke5 w.heap.size D K sch bT bz ((es.take j).map (tyP sch)) (es.map (tyP sch)) p (Zj wr p) (by rw[U];exact bf.ty) (ba.out.2.1.below bf.low) (Uh.below M X) (fun k bH=>Kc6 sch es j k (by rw[U]at bH;exact bH)) (by rw[U];exact bJ)
   have O:Hid (es[j]?=some p∧j<es.length):=⟨Z,bi⟩
   have bQ:Hid (Below wr.heap.size wr (Zj wr p)):=X
   obtain⟨A,H⟩:∃ A,A=tyP sch p:=⟨_,rfl⟩
   rw[←H]at bD
   have bb:Hid (A=tyP sch p):=H
   clear E bf X M U bJ Z H
   go_wp2_with (first|(go_at_call 172;refine bD.mono ?_;rintro ci br ⟨rfl,bW⟩;have R:Hid _:=bn.out.below (Jb bQ.out bW);obtain⟨_,c1⟩:=R.out.ty.cells)|(at_builtin;go_must (refine Ks (by rfl) _ _ 22 3 _ 8 Zw (by rfl) (by decide) (by kernel_rfl) (by rfl) (w.heap.size+1) _ _ (by rfl) (Jo.alloc R.out.own _) ⟨br.heap.size,0,none⟩ 1 [iv A] (by rfl) (by exact Ua br _ _) (by intro u bN;simp at bN;subst bN;rfl) (by simp only[List.length_cons,List.length_nil,Oa6,Oc7];omega) (by simp;have:=Jd R.out.ty;omega) ?_);intro sv' w4 bP cb cx;go_must (obtain⟨bU,bC⟩:=(R.out.below (Jc (Oa5 _ _) _)).more (ev':=sv') (w4:=w4) O.out.1 (by rw[←bb.out];exact bP) cb);obtain⟨cf,c5,bK,_⟩:=bP.cells;obtain⟨bO,bI⟩:∃ bO,bO=(((es.take j).map (tyP sch)).map iv++[iv A]).length:=⟨_,rfl⟩;rw[←bI]at bK;clear bI;subst bK;obtain⟨_,ch⟩:=bC.cells;have cj:w4.frozen? ⟨w.heap.size,1,none⟩=false:=(by simp[World.frozen?,show w4.heap[w.heap.size]?=_ from bC])))
   go_roundw
   case rel=>exact⟨j+1,_,O.out.2,by have:=O.out.2;go_num,bU⟩
   case measure=>have:=O.out.2;simp[intOf];omega
  obtain rfl:j=es.length:=by omega
  rw[Of2]at M
  obtain⟨m,bY⟩:∃ m,es.length=m+1:=⟨es.length-1,by omega⟩
  have bj:m<(es.map (tyP sch)).length:=by rw[Oa6];omega
  obtain⟨bx,eo,rfl,bX,bE⟩:=Kc.at M bj
  obtain⟨A,H⟩:∃ A,A=Jbk sch es:=⟨_,rfl⟩
  have bL:(es.map (tyP sch))[m]=A:=by
   rw[H]
   unfold Jbk
   rw[show es.length-1=m by omega,Oa0,Oa3 bj]
   rfl
  rw[bL]at bE
  have bb:Hid (Jbk sch es=A):=H.symm
  obtain⟨_,c1⟩:=E.ty.cells
  have bZ:IntKind.i64.wrap ((es.length:Int)-1)=(m:Int):=by rw[Od4];omega
  obtain⟨n,hn⟩:∃ n,n=es.length:=⟨_,rfl⟩
  rw[←hn]at c1 bZ ⊢
  have cu:(0:Int)≤(m:Int):=by omega
  have cv:(m:Int)<(n:Int):=by omega
  have cn:m≤11:=by omega
  have cr:n≤12:=by omega
  have bR:Hid (Below w.heap.size w wr):=E.low
  clear bL H bj bY M E bn bi bh bX hn
  go_upto_region 12 with fail
  refine wp_region_held_drew (S:=fun bu=>bu.cell? ⟨w.heap.size,1,none⟩=some (.slice (some ⟨bx,eo,none⟩) n bz)∧bu.cell? ⟨bx,eo+m,none⟩=some (.int .i64 A)) (by kernel_rfl) ⟨Jh c1,Jh bE⟩ (fun y=>?_)
  refine tk 0 ?_ rfl y ?_ (tk 1 ?_ rfl y ?_ (tk 2 ?_ rfl y ?_ (tk 3 ?_ rfl y ?_ (tk 4 ?_ rfl y ?_ (tk 5 ?_ rfl y ?_ (tk 6 ?_ rfl y ?_ (tk 7 ?_ rfl y ?_ (tk 8 ?_ rfl y ?_ (tk 9 ?_ rfl y ?_ (tk 10 ?_ rfl y ?_ (tk 11 ?_ rfl y ?_ (tk 12 ?_ rfl y ?_ (tk 13 ?_ rfl y ?_ ?_)))))))))))))
  iterate 14
   rotate_left 1
   ·intro w bV;(try dsimp only at bV);go_simp;try rfl
  simp only[Act.put,List.getElem_toArray,List.getElem_cons_zero,List.getElem_cons_succ,Oa1,List.set_cons_zero,List.set_cons_succ]
  refine wpAnyH_done (by kernel_rfl) ?_ _
  go_wp2
  exact bodyPost_ret (v:=.tuple #[.int .i64 A,.nilIface]) (by simp[results,results130,go_sem]) rfl ⟨by rw[bb.out],Jj bR.out⟩
attribute [local go_sem] Oc0
theorem Kbe (n:ByteArray)(w:World)(G:Nat→Prop)(s d:Nat)(Ts:List TS)(sv:Value)(bs:List Nat)(h:Jfl w G s d Ts sv bs)(k:Nat)(O:Ub Ts n=k)(U:k<Ts.length)(A:Ts[k].types≠[])(R:Ts[k].types.length≤1000) :
  Calls prog 32 #[.pointer (some ⟨s,0,none⟩),.string n] w fun e w'=>Below w.heap.size w w'∧∃ g c,e=.returned (.tuple #[.slice (some ⟨g,0,none⟩) Ts[k].types.length c,.bool true])∧w.heap.size≤g∧g<w'.heap.size∧Kc w' (some ⟨g,0,none⟩) Ts[k].types:=by
 have hf:=Jo8 n w G s d Ts sv bs h
 have M:Jhc Ts n=(k:Int):=by unfold Jhc;rw[O,if_pos U]
 rw[M]at hf
 obtain⟨b,o,X,c2,D⟩:=h.at U
 obtain⟨_,c1⟩:=h.field
 obtain⟨a,cap,Z,_⟩:=h.own.cells
 rw[Oa6,h.len]at Z
 subst Z
 simp at X
 subst X
 have bA:=h.few
 generalize bs[k]'_=tk at c2 D
 generalize Ts[k]=T at D A R ⊢
 obtain⟨bn,ba,bD,bE,hs,H⟩:=D
 have E:=H.types
 have c3:w.cell? ⟨tk,1,none⟩=some (.slice bn T.types.length ba):=by simp[World.cell?,H.cells]
 obtain⟨b2,bl,rfl,_,_⟩:=Kc.at E (i:=0) (Oi9.2 A)
 have K:=fun W (bf:Below w.heap.size w W)=>Jhe b2 bl ba T.types W A R (E.below bf)
 have bB:(0:Int)≤(k:Int):=by omega
 have bC:(k:Int)<(Ts.length:Int):=by omega
 have bb:Hid _:=K
 clear H E O M h K
 go_enter func32,ntmps32
 go_wp2_with (first|(go_at_call 45;refine hf.mono ?_;rintro e bc ⟨rfl,y⟩;have bu:=Ja y c1;have bx:=Ja y c2;have bz:=Ja y c3)|(go_at_call 49;refine(bb.out bc y).mono ?_;rintro e br ⟨bh,g,gc,rfl,bi,bj,bk⟩))
 go_ret2
 exact⟨Jb y bh,g,gc,rfl,Ob2 y.size bi,bj,bk⟩
abbrev Sch:=Option Addr×Nat×List Int
abbrev Jbl (s:Sch):Value:=.slice s.1 s.2.2.length s.2.1
abbrev Kn:=Sch×Bool
def knC (k:Kn):List Value:=[Jbl k.1,.bool k.2]
theorem Jx7 (k:Kn):(knC k).length=2:=rfl
structure Jed (L cb:Nat) (tf ev:Value) (ks:List Kn) (W:World):Prop where
 ck:W.heap[cb]?=some (.cells #[tf,ev] 137 (0,0))
 own:W.ownsRow L 141 2 ev ks.length (ks.flatMap knC)
 ints:∀ k∈ks,Kc W k.1.1 k.1.2.2
 off:∀ k∈ks,∀ g o,k.1.1=some ⟨g,o,none⟩→ev.ownBlock≠some g∧g≠cb∧g<W.heap.size
 low:cb<L
theorem Jed.below {L D:Nat}{E ev:Value}{ks:List Kn}{W W':World}(h:Jed L D E ev ks W)(A:Below W.heap.size W W'):Jed L D E ev ks W':=
 ⟨(A.block _ (Jd h.ck)).trans h.ck,Jl h.own fun g e=>A.block g (Je h.own e).2,fun k y=>(h.ints k y).below A,fun k y g o e=>⟨(h.off k y g o e).1,(h.off k y g o e).2.1,Oc2 (h.off k y g o e).2.2 A.size⟩,h.low⟩
theorem Jed.cells {L y:Nat}{A ev:Value}{ks:List Kn}{W:World}(h:Jed L y A ev ks W):W.cell? ⟨y,0,none⟩=some A∧W.cell? ⟨y,1,none⟩=some ev:=by
 have:=h.ck
 constructor<;>simp[World.cell?,this]
theorem Jed.at {L E:Nat}{bc ev:Value}{ks:List Kn}{W:World}(h:Jed L E bc ev ks W){i:Nat}(hi:i<ks.length) :
  ∃ g cap,ev=.slice (some ⟨g,0,none⟩) ks.length cap∧g≠E∧g<W.heap.size∧W.cell? ⟨g,i*2,none⟩=some (Jbl ks[i].1)∧W.cell? ⟨g,i*2+1,none⟩=some (.bool ks[i].2)∧W.frozen? ⟨g,i*2+1,none⟩=false ∧
   (∀ b,Jed L E bc ev (ks.set i (ks[i].1,b)) (W.setCell ⟨g,i*2+1,none⟩ (.bool b))):=by
 have bu:=h.low
 rcases h.own with⟨h0,⟨h1,h2⟩|⟨g,cap,O,h1,h2,D,bj,bk,bl,R⟩⟩
 ·omega
 have X:∀ j,j<2→O[i*2+j]?=(knC ks[i])[j]?:=fun j br=>by
  have:=Jek knC 2 Jx7 ks i j ks[i] (Oa3 hi) br
  rw[←R,Oe7,if_pos (by omega),Oe6]at this
  exact this
 refine⟨g,cap,h1,by omega,Jd D,?_,?_,?_,fun b=>?_⟩
 ·have:=X 0 (by omega)
  simp[World.cell?,D]
  simpa [knC] using this
 ·have:=X 1 (by omega)
  simp[World.cell?,D]
  simpa [knC] using this
 ·simp[World.frozen?,D]
 have hs:=Jk D (i*2+1) (.bool b)
 have bb:∀ k,k≠g→(W.setCell ⟨g,i*2+1,none⟩ (.bool b)).heap[k]?=W.heap[k]?:=fun k y=>Oa4 _ _ _ _ y
 have Z:∀ k∈ks.set i (ks[i].1,b),∃ A∈ks,k.1=A.1:=fun k y=>by
  rcases List.mem_or_eq_of_mem_set y with h|h
  ·exact⟨k,h,rfl⟩
  exact⟨ks[i],Ob3 hi,by rw[h]⟩
 have bx:ev.ownBlock=some g:=by rw[h1];rfl
 have U:(ks.set i (ks[i].1,b)).flatMap knC=(ks.flatMap knC).set (i*2+1) (.bool b):=by
  have bh:ks=ks.take i++ks[i]::ks.drop (i+1):=by rw[←Oi1 hi,Ok3]
  have K:ks.set i (ks[i].1,b)=ks.take i++(ks[i].1,b)::ks.drop (i+1):=by
   rw[On0,if_pos hi]
  have ba:((ks.take i).flatMap knC).length=i*2:=by rw[Kci knC 2 Jx7,Oc7,Oj1 (by omega)]
  rw[K,Oe8,Og7]
  conv=>rhs;rw[bh,Oe8,Og7]
  rw[Ok4 _ _ (by rw[ba];omega),ba,show i*2+1-i*2=1 by omega]
  rfl
 refine⟨(bb E (by omega)).trans h.ck,⟨?_,.inr ⟨g,cap,O.setIfInBounds (i*2+1) (.bool b),?_,h2,hs,?_,bk,?_,?_⟩⟩,fun k y=>?_,fun k y bi o e=>?_,bu⟩
 ·rw[U,Of8,Of8];exact h0
 ·rw[Of8];exact h1
 ·rw[Of8];exact bj
 ·simpa using bl
 ·rw[U,←R,Of8,Ok0,List.take_set]
 ·obtain⟨A,H,e⟩:=Z k y
  rw[e]
  exact(h.ints A H).of_block (by simp[World.setCell]) fun M bz bf _=>bb M fun bn=>(h.off A H M bz bf).1 (by rw[bx,bn])
 obtain⟨A,H,K⟩:=Z k y
 rw[K]at e
 have:=h.off A H bi o e
 exact⟨this.1,this.2.1,by simpa [World.setCell] using this.2.2⟩
theorem Jr1 (L y:Nat)(E ev:Value)(ks:List Kn)(i:Nat)(W:World)(h:Jed L y E ev ks W)(hi:i<ks.length)(hn:ks[i].2=false) :
  Calls prog 129 #[.pointer (some ⟨y,0,none⟩),.int .i64 (i:Int)] W fun e W'=>e=.returned (.tuple #[Jbl ks[i].1,.nilIface])∧Jed L y E ev (ks.set i (ks[i].1,true)) W'∧W.grownBy W' ev.ownBlock∧W'.heap.size=W.heap.size:=by
 obtain⟨g,cap,rfl,K,R,H,O,ba,A⟩:=h.at hi
 obtain⟨_,c1⟩:=h.cells
 have A:=A true
 have D:Hid _:=A
 have U:(W.setCell ⟨g,i*2+1,none⟩ (.bool true)).cell? ⟨y,1,none⟩=some (.slice (some ⟨g,0,none⟩) ks.length cap):=Uc (fun e=>K (congrArg Addr.block e)) c1
 have M:(W.setCell ⟨g,i*2+1,none⟩ (.bool true)).cell? ⟨g,i*2,none⟩=some (Jbl ks[i].1):=Uc (fun e=>by have:=congrArg Addr.off e;simp at this) H
 generalize ks[i].1=s at H M D ⊢
 rw[hn]at O
 have X:(0:Int)≤(i:Int):=by omega
 have Z:(i:Int)<(ks.length:Int):=by omega
 clear A hn h
 go_enter func129,ntmps129
 go_wp2
 exact bodyPost_ret (v:=.tuple #[Jbl s,.nilIface]) (by simp[results,results129,go_sem]) rfl ⟨rfl,D.out,Ka4 ⟨rfl,rfl,rfl,Oa2 _,fun _ _ _=>rfl⟩ _ _,by simp[World.setCell]⟩
end Go.Proofs.YtdlgbphkaicfaaaGreatDoor
