/- exprs.New: expressions made ready. -/
import Derived.Test.YtjjdldddcegjiaaGreatDoorXh
set_option maxHeartbeats 2000000
set_option maxRecDepth 100000
namespace Go.Proofs.YtjjdldddcegjiaaGreatDoor
open Go.RowKit Go.Shelf Tryz
attribute [local go_sem] Oc0
abbrev Jfq (b:Nat):Array Value:=#[.func (.func 185) #[.pointer (some ⟨b,0,none⟩)] #[],.func (.func 186) #[.pointer (some ⟨b,0,none⟩)] #[],.func (.func 187) #[.pointer (some ⟨b,0,none⟩)] #[],.func (.func 188) #[.pointer (some ⟨b,0,none⟩)] #[],.func (.func 189) #[.pointer (some ⟨b,0,none⟩)] #[],.func (.func 190) #[.pointer (some ⟨b,0,none⟩)] #[],.func (.func 191) #[.pointer (some ⟨b,0,none⟩)] #[],.func (.func 192) #[.pointer (some ⟨b,0,none⟩)] #[],.func (.func 193) #[.pointer (some ⟨b,0,none⟩)] #[],.func (.func 194) #[.pointer (some ⟨b,0,none⟩)] #[],.func (.func 195) #[.pointer (some ⟨b,0,none⟩)] #[],.func (.func 196) #[.pointer (some ⟨b,0,none⟩)] #[]]
theorem Jz6 (b:Nat)(k:Nat)(y:k<12):(Jfq b)[k]?=some (.func (.func (Zv (k:Int))) #[.pointer (some ⟨b,0,none⟩)] #[]):=by
 match k,y with
 |0,_=>rfl
 |1,_=>rfl
 |2,_=>rfl
 |3,_=>rfl
 |4,_=>rfl
 |5,_=>rfl
 |6,_=>rfl
 |7,_=>rfl
 |8,_=>rfl
 |9,_=>rfl
 |10,_=>rfl
 |11,_=>rfl
 |k+12,h=>omega
theorem Jvt (b:Nat)(w:World):Calls prog 149 #[.pointer (some ⟨b,0,none⟩)] w fun e w'=>e=.returned (.agg (Jfq b))∧Below w.heap.size w w':=by
 have y:∀ (f:Nat) (a:Addr) (W:World),(store a (.func (.func f) #[.pointer (some ⟨b,0,none⟩)] #[])).run prog W=stored prog W a (.func (.func f) #[.pointer (some ⟨b,0,none⟩)] #[]) .plain:=fun f a W=>run_store _ _ _ _ _ rfl
 go_enter func149,ntmps149
 go_wp2
 exact bodyPost_ret (v:=.agg (Jfq b)) (by simp[results,results149,go_sem]) rfl ⟨rfl,(by repeat (first|exact Oa5 _ _|refine Jc ?_ _|refine Jj ?_))⟩
def Qi (w:World)(g o:Nat)(p:Pt):Prop:=
 w.cell? ⟨g,o,none⟩=some (.int .i64 p.op)∧w.cell? ⟨g,o+1,none⟩=some (.int .i64 p.l)∧w.cell? ⟨g,o+2,none⟩=some (.int .i64 p.r)∧w.cell? ⟨g,o+3,none⟩=some (.int .i64 p.c)∧w.cell? ⟨g,o+4,none⟩=some (.int .i64 p.v.k)∧w.cell? ⟨g,o+5,none⟩=some (.int .i64 p.v.n)∧w.cell? ⟨g,o+6,none⟩=some (.string p.v.s)
theorem Qi.below {w w':World}{g o:Nat}{p:Pt}(h:Qi w g o p)(y:Below w.heap.size w w'):Qi w' g o p:=
 ⟨Ja y h.1,Ja y h.2.1,Ja y h.2.2.1,Ja y h.2.2.2.1,Ja y h.2.2.2.2.1,Ja y h.2.2.2.2.2.1,Ja y h.2.2.2.2.2.2⟩
def Jaz (w:World)(A eo:Nat)(C:List (List Pt)):Prop:=∀ j es,C[j]?=some es→∃ y z D,w.cell? ⟨A,eo+j,none⟩=some (.slice (some ⟨y,z,none⟩) es.length D)∧∀ k p,es[k]?=some p→Qi w y (z+k*7) p
theorem Jaz.below {w w':World}{y eo:Nat}{z:List (List Pt)}(h:Jaz w y eo z)(A:Below w.heap.size w w'):Jaz w' y eo z:=fun j es E=>by
 obtain⟨K,O,M,C,D⟩:=h j es E
 exact⟨K,O,M,Ja A C,fun k p H=>(D k p H).below A⟩
def Jft (b:Nat)(p:Pt):List Value:=[.int .i64 p.op,.int .i64 p.l,.int .i64 p.r,.int .i64 p.c,.int .i64 p.v.k,.int .i64 p.v.n,.string p.v.s,.func (.func (Zv p.op)) #[.pointer (some ⟨b,0,none⟩)] #[]]
theorem Jek {α:Type}(f:α→List Value)(y:Nat)(hf:∀ a,(f a).length=y):∀ (l:List α) (k i:Nat) (a:α),l[k]?=some a→i<y→(l.flatMap f)[k*y+i]?=(f a)[i]?:=by
 intro l
 induction l with
 |nil=>intro k i a h;simp at h
 |cons x l z=>
  intro k i a h hi
  rw[Og7]
  cases k with
  |zero=>
   simp at h
   subst h
   rw[Nat.zero_mul,Od0,Ob0 (by rw[hf];exact hi)]
  |succ k=>
   have e:(k+1)*y+i=y+(k*y+i):=by rw[Of5];omega
   rw[e,Ob6 (by rw[hf];omega),hf,Nat.add_sub_cancel_left]
   exact z k i a (by simpa using h) hi
theorem Kci {α:Type}(f:α→List Value)(y:Nat)(hf:∀ a,(f a).length=y)(l:List α):(l.flatMap f).length=l.length*y:=by
 induction l with
 |nil=>simp
 |cons x l z=>rw[Og7,Oa8,z,hf,List.length_cons,Of5];omega
def Jxp (w:World)(B b:Nat)(sv:Value)(es:List Pt):Prop:=w.ownsRow B 278 8 sv es.length (es.flatMap (Jft b))
theorem Jnn {w:World}{B b A K:Nat}{es:List Pt}(h:Jxp w B b (.slice (some ⟨A,0,none⟩) es.length K) es)(H:A≠b):Jco w A b es:=by
 obtain⟨_,⟨z,_⟩|⟨g,cap,M,z,_,D,_,_,O,E⟩⟩:=h
 ·cases z
 simp only[On8,Oc9,Oh2,and_true]at z
 obtain⟨rfl,-,rfl⟩:=z
 refine⟨H,fun j p C=>?_⟩
 have R:j<es.length:=(Ob9.1 C).1
 have y:∀ i,i<8→w.cell? ⟨A,j*8+i,none⟩=(Jft b p)[i]?:=fun i hi=>by
  have:=Jek (Jft b) 8 (fun _=>rfl) es j i p C hi
  rw[←E,Oe7,if_pos (by omega),Oe6]at this
  rw[←this]
  simp[World.cell?,D]
 exact⟨y 0 (by omega),y 1 (by omega),y 2 (by omega),y 3 (by omega),y 4 (by omega),y 5 (by omega),y 6 (by omega),y 7 (by omega)⟩
theorem Jue:(prog.info? 278).map (fun i=>(i.zero,i.size,i.bytes))=some (some (.agg #[.int .i64 0,.int .i64 0,.int .i64 0,.int .i64 0,.int .i64 0,.int .i64 0,.string ⟨#[]⟩,.nilFunc]),8,72):=by kernel_rfl
theorem Jsw:(prog.info? 276).map (fun i=>(i.zero,i.size,i.bytes))=some (some (.slice none 0 0),1,24):=by kernel_rfl
abbrev stV (q:Nat×Nat×List Pt):Value:=.slice (some ⟨q.1,0,none⟩) q.2.2.length q.2.1
structure Jw1 (w:World) (kb:Nat) (exv:Value) (qs:List (Nat×Nat×List Pt)) (ess:List (List Pt)) (j:Nat) (wr:World):Prop where
 own:Jo wr w.heap.size 276 exv (qs.map stV)
 wk:Uz wr w.heap.size exv (.slice none 0 0) 0 0 (.slice none 0 0) .nilIface
 kinds:∃ ty,wr.heap[kb]?=some (.cells (Jfq w.heap.size) ty (0,0))∧ty≠278∧ty≠276∧ty≠272
 steps:∀ q∈qs,Jxp wr w.heap.size w.heap.size (stV q) q.2.2
 took:qs.map (·.2.2)=ess.take j
 below:Below w.heap.size w wr
def Jd3 (lo hi:Nat)(w:World)(b:Nat)(ex:Value)(A:List (List Pt)):Prop:=∃ y C,ex=.slice (some ⟨y,0,none⟩) A.length C∧y≠b∧lo≤y∧y<hi∧∀ j es,A[j]?=some es→∃ z D,lo≤z∧z<hi∧w.cell? ⟨y,j,none⟩=some (.slice (some ⟨z,0,none⟩) es.length D)∧Jco w z b es
theorem Jd3.at {lo hi:Nat}{w:World}{b:Nat}{ex:Value}{y:List (List Pt)}(h:Jd3 lo hi w b ex y):Jx0 w b ex y:=by
 obtain⟨A,z,C,D,_,_,E⟩:=h
 refine⟨A,z,C,D,fun j es M=>?_⟩
 obtain⟨O,R,_,_,H,K⟩:=E j es M
 exact⟨O,R,H,K⟩
theorem Jd3.of_blocks {lo hi:Nat}{w w':World}{b:Nat}{ex:Value}{M:List (List Pt)}(h:Jd3 lo hi w b ex M)(R:∀ k,lo≤k→k<hi→k≠b→w'.heap[k]?=w.heap[k]?):Jd3 lo hi w' b ex M:=by
 obtain⟨A,U,X,O,D,E,Z⟩:=h
 refine⟨A,U,X,O,D,E,fun j es bf=>?_⟩
 obtain⟨z,bB,H,K,bc,C⟩:=Z j es bf
 have y:∀ o v,w.cell? ⟨z,o,none⟩=some v→w'.cell? ⟨z,o,none⟩=some v:=fun o v bi=>(Oc3 (a:=⟨z,o,none⟩) (R z H K C.ne)).trans bi
 refine⟨z,bB,H,K,(Oc3 (a:=⟨A,j,none⟩) (R A D E O)).trans bc,C.ne,fun j p bh=>?_⟩
 obtain⟨bj,bl,bn,br,bu,bx,bz,bA⟩:=C.step j p bh
 exact⟨y _ _ bj,y _ _ bl,y _ _ bn,y _ _ br,y _ _ bu,y _ _ bx,y _ _ bz,y _ _ bA⟩
theorem Ja4 {w:World}{B:Nat}{e:TypeId}{D:Nat}{sv:Value}{n:Nat}{xs:List Value}{g:Nat}(h:w.ownsRow B e D sv n xs)(y:sv.ownBlock=some g):∃ z,w.heap[g]?=some (.cells z e (0,0)):=by
 obtain⟨_,⟨A,_⟩|⟨E,cap,z,A,_,C,_⟩⟩:=h
 ·rw[A]at y;cases y
 rw[A]at y
 simp only[Value.ownBlock,Oc9]at y
 exact⟨z,y▸C⟩
theorem Jfc {w:World}{g A:Nat}{c C:Array Value}{e z:TypeId}{f D:Nat×Nat}(h:w.heap[g]?=some (.cells c e f))(y:w.heap[A]?=some (.cells C z D))(H:e≠z):g≠A:=fun E=>by
 subst E
 rw[h]at y
 simp only[Oc9,Obj.cells.injEq]at y
 exact H y.2.1
theorem Kg0 {w:World}{O:Nat}{y:Value}{R:List (Nat×Nat×List Pt)}{D:List (List Pt)}{j:Nat}{wr C z:World}(h:Jw1 w O y R D j wr)(A:Below wr.heap.size wr C){o:Obj}(H:(C.alloc o).grownBy z y.ownBlock):Uz z w.heap.size y (.slice none 0 0) 0 0 (.slice none 0 0) .nilIface:=by
 have K:=Jd h.wk
 have X:=A.size
 have M:y.ownBlock≠some w.heap.size:=fun e=>by
  obtain⟨U,E⟩:=Ja4 h.own e
  exact Jfc E h.wk (by decide) rfl
 show z.heap[w.heap.size]?=_
 rw[H.block _ (by rw[Oa7];omega) (fun e=>M e.symm),Oa9 _ _ _ (by omega),A.block _ K]
 exact h.wk
theorem Ket {w:World}{K:Nat}{C:Value}{br:List (Nat×Nat×List Pt)}{bj:List (List Pt)}{j:Nat}{wr D y:World}(h:Jw1 w K C br bj j wr){es:List Pt}(bE:bj[j]?=some es)(E:Below wr.heap.size wr D){bf bh:Nat}(bJ:Jxp D wr.heap.size w.heap.size (.slice (some ⟨bf,0,none⟩) es.length bh) es)
  {H:Value} (M:(D.alloc (.cells #[.slice (some ⟨bf,0,none⟩) es.length bh] 276)).grownBy y C.ownBlock) (bC:Jo y w.heap.size 276 H (br.map stV++[stV (bf,bh,es)])) :
  Jw1 w K H (br++[(bf,bh,es)]) bj (j+1) (y.setCell ⟨w.heap.size,0,none⟩ H):=by
 have bM:=h.below.size
 have bP:=E.size
 have bN:=M.size
 rw[Oa7]at bN
 have bK:=Jd h.wk
 have Z:∀ g,C.ownBlock=some g→(w.heap.size≤g∧g<wr.heap.size)∧∃ A,wr.heap[g]?=some (.cells A 276 (0,0)):=fun g e=>⟨Je h.own e,Ja4 h.own e⟩
 have bz:∀ k,k<D.heap.size→C.ownBlock≠some k→y.heap[k]?=D.heap[k]?:=fun k O bn=>by
  rw[M.block k (by rw[Oa7];omega) (fun e=>bn e.symm),Oa9 _ _ k O]
 have bl:∀ k,k<wr.heap.size→C.ownBlock≠some k→y.heap[k]?=wr.heap[k]?:=fun k O bn=>by
  rw[bz k (by omega) bn,E.block k O]
 have bL:C.ownBlock≠some w.heap.size:=fun e=>by
  obtain⟨_,A,z⟩:=Z _ e
  exact Jfc z h.wk (by decide) rfl
 have bc:Uz y w.heap.size C (.slice none 0 0) 0 0 (.slice none 0 0) .nilIface:=(bl _ bK bL).trans h.wk
 have bI:∀ g A,D.heap[g]?=some (.cells A 278 (0,0))→C.ownBlock≠some g:=fun g A z e=>by
  obtain⟨⟨_,bG⟩,bO,bA⟩:=Z _ e
  rw[←E.block g bG]at bA
  exact Jfc bA z (by decide) rfl
 have bB:∀ sv bi,Jxp D w.heap.size w.heap.size sv bi→Jxp (y.setCell ⟨w.heap.size,0,none⟩ H) w.heap.size w.heap.size sv bi:=fun sv bi hs=>Jl hs fun g e=>by
  obtain⟨A,z⟩:=Ja4 hs e
  have U:y.heap[g]?=D.heap[g]?:=bz g (Jd z) (bI g A z)
  rw[Oa4 _ _ _ _ ?_,U]
  exact Jfc (U.trans z) bc (by decide)
 refine⟨?_,?_,?_,?_,?_,?_⟩
 ·rw[Ob8]
  refine Jl bC fun g e=>?_
  obtain⟨A,z⟩:=Ja4 bC e
  exact Oa4 _ _ _ _ (Jfc z bc (by decide))
 ·have:=Jk bc 0 H
  simp only[Oa1,List.set_cons_zero]at this
  exact this
 ·obtain⟨ty,X,bD,bu,bx⟩:=h.kinds
  have U:y.heap[K]?=wr.heap[K]?:=bl K (Jd X) fun e=>by
   obtain⟨_,A,z⟩:=Z _ e
   exact Jfc z X (fun e=>bu e.symm) rfl
  have bH:K≠w.heap.size:=Jfc (U.trans X) bc bx
  exact⟨ty,(Oa4 _ _ _ _ bH).trans (U.trans X),bD,bu,bx⟩
 ·intro q R
  rw[Od2,Oc6]at R
  rcases R with R|rfl
  ·exact bB _ _ (Jl (h.steps q R) fun g e=>E.block g (Je (h.steps q R) e).2)
  exact bB _ _ (Jgl bJ bM)
 ·rw[Ob8,h.took,Oi7,bE];rfl
 refine⟨?_,?_,?_,?_,fun k O=>?_⟩
 ·exact M.os.trans (E.os.trans h.below.os)
 ·exact M.tape.trans (E.tape.trans h.below.tape)
 ·exact M.output.trans (E.output.trans h.below.output)
 ·have:(y.setCell ⟨w.heap.size,0,none⟩ H).heap.size=y.heap.size:=by simp[World.setCell]
  omega
 rw[Oa4 _ _ _ _ (by show k≠w.heap.size;omega),bl k (by omega) (fun e=>by have:=(Z k e).1;omega)]
 exact h.below.block k O
theorem Jsm (bM eo cP W:Nat)(A:List (List Pt))(w:World)(cf:Jaz w bM eo A)(cB:Jga W A)(dB:A.length≤1000)(dC:1≤A.length) :
  Calls prog 115 #[.slice (some ⟨bM,eo,none⟩) A.length cP] w fun e w'=>Below w.heap.size w w'∧e=.returned (.pointer (some ⟨w.heap.size,0,none⟩))∧∃ ex,Uz w' w.heap.size ex (.slice none 0 0) 0 0 (.slice none 0 0) .nilIface∧Jd3 w.heap.size w'.heap.size w' w.heap.size ex A:=by
 have bY:Hid (Jaz w bM eo A∧Jga W A):=⟨cf,cB⟩
 clear cf cB
 have dE:∀ (f:Nat) (a:Addr) (E:World),(store a (.func (.func f) #[.pointer (some ⟨w.heap.size,0,none⟩)] #[])).run prog E=stored prog E a (.func (.func f) #[.pointer (some ⟨w.heap.size,0,none⟩)] #[]) .plain:=fun f a E=>run_store _ _ _ _ _ rfl
 obtain⟨w1,bx⟩:∃ w1,w1=w.alloc (.cells #[.slice none 0 0,.slice none 0 0,.int .i64 0,.int .i64 0,.slice none 0 0,.nilIface] 272):=⟨_,rfl⟩
 have ch:Below w.heap.size w w1:=by rw[bx];exact Jc (Oa5 _ _) _
 have cF:Uz w1 w.heap.size (.slice none 0 0) (.slice none 0 0) 0 0 (.slice none 0 0) .nilIface:=by rw[bx];exact heap_alloc_new w _
 have bS:=Jvt w.heap.size w1
 have bK:Hid (Below w.heap.size w w1∧Uz w1 w.heap.size (.slice none 0 0) (.slice none 0 0) 0 0 (.slice none 0 0) .nilIface):=⟨ch,cF⟩
 have bZ:Hid (w1=w.alloc (.cells #[.slice none 0 0,.slice none 0 0,.int .i64 0,.int .i64 0,.slice none 0 0,.nilIface] 272)):=bx
 rw[bx]at bS
 clear ch cF bx
 go_enter func115,ntmps115
 go_upto_region 3 with(go_at_call 149;refine bS.mono ?_;rintro e R ⟨rfl,bA⟩;rw[←bZ.out]at bA)
 have cz:Jw1 w R.heap.size (.slice none 0 0) [] A 0 (R.alloc (.cells (Jfq w.heap.size) 274)):=by
  have K:Below R.heap.size R (R.alloc (.cells (Jfq w.heap.size) 274)):=Jc (Oa5 _ _) _
  exact⟨Jo.nil _ _ _,(bK.out.2.below bA).below K,⟨274,heap_alloc_new R _,by decide,by decide,by decide⟩,fun q dd=>by simp at dd,rfl,Jb (Jb bK.out.1 bA) K⟩
 have bz:Hid (Jw1 w R.heap.size (.slice none 0 0) [] A 0 (R.alloc (.cells (Jfq w.heap.size) 274))):=cz
 clear cz bS bK bZ bA
 obtain⟨M,cu⟩:∃ M,M=R.heap.size:=⟨_,rfl⟩
 rw[←cu]at bz ⊢
 clear cu
 generalize R.alloc (.cells (Jfq w.heap.size) 274)=dv at bz ⊢
 go_wp2
 go_loopw [16] (fun i wr=>∃ (j:Nat) (bN:Value) (C:List (Nat×Nat×List Pt)),j≤A.length∧i=.int .i64 (j:Int)∧Hid (Jw1 w M bN C A j wr)) (fun i _=>A.length-(intOf i).toNat)
 case atStart=>exact⟨0,_,_,Ob7 _,rfl,bz⟩
 case round=>
  obtain⟨j,bN,C,dy,rfl,H⟩:=hrel
  clear bz
  obtain⟨D,dg⟩:∃ D,D=wr:=⟨_,rfl⟩
  subst dg
  by_cases db:j<A.length
  ·obtain⟨es,bi⟩:∃ es,A[j]?=some es:=⟨_,Oa3 db⟩
   obtain⟨dm,dp,dO,bI,cD⟩:=bY.out.1 j es bi
   have dQ:=Ja H.out.below bI
   have bT:=bY.out.2 es (Of6 bi)
   have bJ:Hid ((∀ k p,es[k]?=some p→Qi w dm (dp+k*7) p)∧es≠[]∧es.length≤1000∧∀ j p,es[j]?=some p→Jr0 W j p):=⟨cD,bT⟩
   have cH:Hid (A[j]?=some es):=bi
   have dx:es.length≤1000:=bT.2.1
   have dI:(0:Int)≤(j:Int):=by omega
   have dJ:(j:Int)<(A.length:Int):=by omega
   have dH:w.heap.size<D.heap.size:=Jd H.out.wk
   clear bi cD bT bI
   go_wp2
   go_loopw [7,22] (fun s i wr=>∃ k:Nat,k≤es.length∧i=.int .i64 (k:Int)∧Hid (wr.ownsRow D.heap.size 278 8 s k ((es.take k).flatMap (Jft w.heap.size)))∧Below D.heap.size D wr) (fun _ i _=>es.length-(intOf i).toNat)
   case atStart=>exact⟨0,Ob7 _,rfl,⟨rfl,.inl ⟨rfl,rfl⟩⟩,Oa5 _ _⟩
   case round=>
    obtain⟨k,bC,rfl,bl,bf⟩:=hrel
    have dG:=bf.size
    by_cases da:k<es.length
    ·obtain⟨p,bG⟩:∃ p,es[k]?=some p:=⟨_,Oa3 da⟩
     obtain⟨cG,bI,dq,dr,ds,dt,du⟩:=(bJ.out.1 k p bG).below (Jb H.out.below bf)
     have bU:=bJ.out.2.2.2 k p bG
     obtain⟨y,bE⟩:∃ y:Nat,p.op=(y:Int):=⟨p.op.toNat,by have:=bU.lo;omega⟩
     have dc:y<12:=by have:=bU.hi;omega
     have bR:wr.cell? ⟨M,y,none⟩=some (.func (.func (Zv p.op)) #[.pointer (some ⟨w.heap.size,0,none⟩)] #[]):=by
      obtain⟨ty,bD,_⟩:=H.out.kinds
      have cX:=(bf.block _ (Jd bD)).trans bD
      have:=Jz6 w.heap.size y dc
      rw[←bE]at this
      rw[←this]
      simp only[World.cell?,cX]
      rfl
     obtain⟨f,hf⟩:∃ f,f=Zv p.op:=⟨_,rfl⟩
     have cM:Hid (Jft w.heap.size p=[.int .i64 (y:Int),.int .i64 p.l,.int .i64 p.r,.int .i64 p.c,.int .i64 p.v.k,.int .i64 p.v.n,.string p.v.s,.func (.func f) #[.pointer (some ⟨w.heap.size,0,none⟩)] #[]]):=by
      show _=_
      unfold Jft
      rw[hf,bE]
     rw[←hf]at bR
     rw[bE]at cG
     have cK:Hid (es[k]?=some p):=bG
     have dK:(0:Int)≤(k:Int):=by omega
     have dL:(k:Int)<(es.length:Int):=by omega
     have dM:(0:Int)≤(y:Int):=by omega
     have dN:(y:Int)<12:=by omega
     clear hf bE bG bU
     go_upto_region 10 with fail
     have cx:=heap_alloc_new wr (.cells #[.int .i64 (y:Int),.int .i64 p.l,.int .i64 p.r,.int .i64 p.c,.int .i64 p.v.k,.int .i64 p.v.n,.string p.v.s] 51)
     have cY:(wr.alloc (.cells #[.int .i64 (y:Int),.int .i64 p.l,.int .i64 p.r,.int .i64 p.c,.int .i64 p.v.k,.int .i64 p.v.n,.string p.v.s] 51)).drew.cell? ⟨M,y,none⟩=some (.func (.func f) #[.pointer (some ⟨w.heap.size,0,none⟩)] #[]):=Jh (Kf bR)
     obtain⟨dk,cW,dh,di,dj⟩:=info_parts Jue
     refine wp_region_held_drew (S:=fun E=>E.cell? ⟨wr.heap.size,0,none⟩=some (.int .i64 (y:Int))∧E.cell? ⟨wr.heap.size,1,none⟩=some (.int .i64 p.l)∧E.cell? ⟨wr.heap.size,2,none⟩=some (.int .i64 p.r)∧E.cell? ⟨wr.heap.size,3,none⟩=some (.int .i64 p.c)∧E.cell? ⟨wr.heap.size,4,none⟩=some (.int .i64 p.v.k)∧E.cell? ⟨wr.heap.size,5,none⟩=some (.int .i64 p.v.n)∧E.cell? ⟨wr.heap.size,6,none⟩=some (.string p.v.s)∧E.cell? ⟨M,y,none⟩=some (.func (.func f) #[.pointer (some ⟨w.heap.size,0,none⟩)] #[])) (by kernel_rfl) (by refine⟨?_,?_,?_,?_,?_,?_,?_,cY⟩<;>(unfold World.cell?;rw[heap_drew,cx];rfl)) (fun z=>?_)
     refine tk 0 ?_ rfl z ?_ (tk 1 ?_ rfl z ?_ (tk 2 ?_ rfl z ?_ (tk 3 ?_ rfl z ?_ (tk 4 ?_ rfl z ?_ (tk 5 ?_ rfl z ?_ (tk 6 ?_ rfl z ?_ ?_))))))
     iterate 7
      rotate_left 1
      ·intro w bO;(try dsimp only at bO);go_simp;try rfl
     simp only[Act.put,List.getElem_toArray,List.getElem_cons_zero,List.getElem_cons_succ,Oa1,List.set_cons_zero,List.set_cons_succ]
     clear cx cG bI dq dr ds dt du
     refine wpAnyH_ready (rs:=[7]) (by kernel_rfl) (by simp) (AllReadyH.cons rfl (fun bL bu=>?_) AllReadyH.nil)
     go_simp
     have K:Below (wr.alloc (.cells #[.int .i64 (y:Int),.int .i64 p.l,.int .i64 p.r,.int .i64 p.c,.int .i64 p.v.k,.int .i64 p.v.n,.string p.v.s] 51)).drew.heap.size (wr.alloc (.cells #[.int .i64 (y:Int),.int .i64 p.l,.int .i64 p.r,.int .i64 p.c,.int .i64 p.v.k,.int .i64 p.v.n,.string p.v.s] 51)).drew (((wr.alloc (.cells #[.int .i64 (y:Int),.int .i64 p.l,.int .i64 p.r,.int .i64 p.c,.int .i64 p.v.k,.int .i64 p.v.n,.string p.v.s] 51)).alloc (.cells #[.int .i64 (y:Int),.int .i64 p.l,.int .i64 p.r,.int .i64 p.c,.int .i64 p.v.k,.int .i64 p.v.n,.string p.v.s,.func (.func f) #[.pointer (some ⟨w.heap.size,0,none⟩)] #[]] 278)).drew):=by
      have:=Jc (Oa5 _ (wr.alloc (.cells #[.int .i64 (y:Int),.int .i64 p.l,.int .i64 p.r,.int .i64 p.c,.int .i64 p.v.k,.int .i64 p.v.n,.string p.v.s] 51))) (.cells #[.int .i64 (y:Int),.int .i64 p.l,.int .i64 p.r,.int .i64 p.c,.int .i64 p.v.k,.int .i64 p.v.n,.string p.v.s,.func (.func f) #[.pointer (some ⟨w.heap.size,0,none⟩)] #[]] 278)
      exact⟨this.os,this.tape,this.output,this.size,this.block⟩
     refine bu.out _ _ ⟨Ja K z.1,Ja K z.2.1,Ja K z.2.2.1,Ja K z.2.2.2.1,Ja K z.2.2.2.2.1,Ja K z.2.2.2.2.2.1,Ja K z.2.2.2.2.2.2.1,Ja K z.2.2.2.2.2.2.2⟩ (fun z=>?_)
     clear bu bL
     refine wpAnyH_ready (rs:=[8]) (by kernel_rfl) (by simp) (AllReadyH.cons rfl (fun bL bu=>?_) AllReadyH.nil)
     have cj:Below wr.heap.size wr (((wr.alloc (.cells #[.int .i64 (y:Int),.int .i64 p.l,.int .i64 p.r,.int .i64 p.c,.int .i64 p.v.k,.int .i64 p.v.n,.string p.v.s] 51)).alloc (.cells #[.int .i64 (y:Int),.int .i64 p.l,.int .i64 p.r,.int .i64 p.c,.int .i64 p.v.k,.int .i64 p.v.n,.string p.v.s,.func (.func f) #[.pointer (some ⟨w.heap.size,0,none⟩)] #[]] 278)).drew):=Jj (Jc (Jc (Oa5 _ _) _) _)
     have cC:(((wr.alloc (.cells #[.int .i64 (y:Int),.int .i64 p.l,.int .i64 p.r,.int .i64 p.c,.int .i64 p.v.k,.int .i64 p.v.n,.string p.v.s] 51)).alloc (.cells #[.int .i64 (y:Int),.int .i64 p.l,.int .i64 p.r,.int .i64 p.c,.int .i64 p.v.k,.int .i64 p.v.n,.string p.v.s,.func (.func f) #[.pointer (some ⟨w.heap.size,0,none⟩)] #[]] 278)).drew).ownsRow D.heap.size 278 8 u7 k ((es.take k).flatMap (Jft w.heap.size)):=Jaw bl.out cj
     have ci:(((wr.alloc (.cells #[.int .i64 (y:Int),.int .i64 p.l,.int .i64 p.r,.int .i64 p.c,.int .i64 p.v.k,.int .i64 p.v.n,.string p.v.s] 51)).alloc (.cells #[.int .i64 (y:Int),.int .i64 p.l,.int .i64 p.r,.int .i64 p.c,.int .i64 p.v.k,.int .i64 p.v.n,.string p.v.s,.func (.func f) #[.pointer (some ⟨w.heap.size,0,none⟩)] #[]] 278)).drew).heap[wr.heap.size+1]?=some (.cells #[.int .i64 (y:Int),.int .i64 p.l,.int .i64 p.r,.int .i64 p.c,.int .i64 p.v.k,.int .i64 p.v.n,.string p.v.s,.func (.func f) #[.pointer (some ⟨w.heap.size,0,none⟩)] #[]] 278 (0,0)):=by
      have:=heap_alloc_new (wr.alloc (.cells #[.int .i64 (y:Int),.int .i64 p.l,.int .i64 p.r,.int .i64 p.c,.int .i64 p.v.k,.int .i64 p.v.n,.string p.v.s] 51)) (.cells #[.int .i64 (y:Int),.int .i64 p.l,.int .i64 p.r,.int .i64 p.c,.int .i64 p.v.k,.int .i64 p.v.n,.string p.v.s,.func (.func f) #[.pointer (some ⟨w.heap.size,0,none⟩)] #[]] 278)
      rw[Oa7]at this
      exact this
     refine step_append_lies (((wr.alloc (.cells #[.int .i64 (y:Int),.int .i64 p.l,.int .i64 p.r,.int .i64 p.c,.int .i64 p.v.k,.int .i64 p.v.n,.string p.v.s] 51)).alloc (.cells #[.int .i64 (y:Int),.int .i64 p.l,.int .i64 p.r,.int .i64 p.c,.int .i64 p.v.k,.int .i64 p.v.n,.string p.v.s,.func (.func f) #[.pointer (some ⟨w.heap.size,0,none⟩)] #[]] 278)).drew) rfl (.tmp 26) (.tmp 33) 276 rfl D.heap.size 278 dk (.agg #[.int .i64 0,.int .i64 0,.int .i64 0,.int .i64 0,.int .i64 0,.int .i64 0,.string ⟨#[]⟩,.nilFunc]) 8 72 underlying276 cW dh di dj rfl (by decide) u7 k ((es.take k).flatMap (Jft w.heap.size)) rfl cC ⟨wr.heap.size+1,0,none⟩ 1 1 [.int .i64 (y:Int),.int .i64 p.l,.int .i64 p.r,.int .i64 p.c,.int .i64 p.v.k,.int .i64 p.v.n,.string p.v.s,.func (.func f) #[.pointer (some ⟨w.heap.size,0,none⟩)] #[]] rfl rfl (fun j u bj=>World.news_of_block ci j u (by simpa using bj)) (fun u bj=>by simp at bj;rcases bj with rfl|rfl|rfl|rfl|rfl|rfl|rfl|rfl<;>rfl) (by decide) (by unfold maxLen;omega) (by omega) (by rw[heap_drew,Oa7,Oa7];omega) (wr.heap.size+2) (by rw[heap_drew,Oa7,Oa7]) (fun cQ cO bn cA bB cT cZ=>?_)
     have dS:=bB.size
     have dA:=Jm bR
     have dz:M<D.heap.size:=by obtain⟨ty,bD,_⟩:=H.out.kinds;exact Jd bD
     have bh:∀ o:Nat,bn.cell? ⟨wr.heap.size,o,none⟩=(((wr.alloc (.cells #[.int .i64 (y:Int),.int .i64 p.l,.int .i64 p.r,.int .i64 p.c,.int .i64 p.v.k,.int .i64 p.v.n,.string p.v.s] 51)).alloc (.cells #[.int .i64 (y:Int),.int .i64 p.l,.int .i64 p.r,.int .i64 p.c,.int .i64 p.v.k,.int .i64 p.v.n,.string p.v.s,.func (.func f) #[.pointer (some ⟨w.heap.size,0,none⟩)] #[]] 278)).drew).cell? ⟨wr.heap.size,o,none⟩:=fun o=>by simp only[World.cell?,bB.block wr.heap.size (Jm z.1) (fun e=>by have:=Je bl.out e.symm;omega)]
     have cr:bn.cell? ⟨M,y,none⟩=(((wr.alloc (.cells #[.int .i64 (y:Int),.int .i64 p.l,.int .i64 p.r,.int .i64 p.c,.int .i64 p.v.k,.int .i64 p.v.n,.string p.v.s] 51)).alloc (.cells #[.int .i64 (y:Int),.int .i64 p.l,.int .i64 p.r,.int .i64 p.c,.int .i64 p.v.k,.int .i64 p.v.n,.string p.v.s,.func (.func f) #[.pointer (some ⟨w.heap.size,0,none⟩)] #[]] 278)).drew).cell? ⟨M,y,none⟩:=by simp only[World.cell?,bB.block M (by rw[heap_drew,Oa7,Oa7];omega) (fun e=>by have:=Je bl.out e.symm;omega)]
     refine bu.out _ _ ⟨(bh 0).trans z.1,(bh 1).trans z.2.1,(bh 2).trans z.2.2.1,(bh 3).trans z.2.2.2.1,(bh 4).trans z.2.2.2.2.1,(bh 5).trans z.2.2.2.2.2.1,(bh 6).trans z.2.2.2.2.2.2.1,cr.trans z.2.2.2.2.2.2.2⟩ (fun z=>?_)
     clear bu bL bh cr
     simp only[Act.put,List.getElem_toArray,List.getElem_cons_zero,List.getElem_cons_succ,Oa1,List.set_cons_zero,List.set_cons_succ]
     refine tk 9 ?_ rfl z ?_ ?_
     rotate_left 1
     ·intro w bO;(try dsimp only at bO);go_simp;try rfl
     simp only[Act.put,List.getElem_toArray,List.getElem_cons_zero,List.getElem_cons_succ,Oa1,List.set_cons_zero,List.set_cons_succ]
     refine wpAnyH_done (by kernel_rfl) ?_ _
     have cJ:Hid (bn.ownsRow D.heap.size 278 8 (.slice (some ⟨cQ,0,none⟩) (k+1) cO) (k+1) ((es.take (k+1)).flatMap (Jft w.heap.size))):=by
      show World.ownsRow _ _ _ _ _ _ _
      rw[Oi7,cK.out,Oe8]
      show World.ownsRow _ _ _ _ _ _ ((es.take k).flatMap (Jft w.heap.size)++(Jft w.heap.size p++[]))
      rw[Od7,cM.out]
      exact cA
     have cU:Below D.heap.size D bn:=Jy (Jb bf cj) bB fun g e=>(Je bl.out e).1
     clear z cA cT cZ cC ci
     go_wp2
     go_roundw
     case rel=>exact⟨k+1,by omega,by go_num,cJ,cU⟩
     case measure=>simp[intOf];omega
    obtain rfl:k=es.length:=by omega
    have cy:es.length≠0:=fun e=>bJ.out.2.1 (Od3.1 e)
    obtain⟨X,Z,bV⟩:∃ X Z,u7=.slice (some ⟨X,0,none⟩) es.length Z:=by
     obtain⟨_,⟨_,bc⟩|⟨X,Z,cb,br,_⟩⟩:=bl.out
     ·exact absurd bc cy
     exact⟨X,Z,br⟩
    subst bV
    have U:Jxp wr D.heap.size w.heap.size (.slice (some ⟨X,0,none⟩) es.length Z) es:=by
     have:=bl.out
     rwa [Oc8 (Oa2 _)]at this
    have cN:Hid (Jxp wr D.heap.size w.heap.size (.slice (some ⟨X,0,none⟩) es.length Z) es):=U
    have c0:=(H.out.wk.below bf).cells.1
    have dD:C.length≤A.length:=by
     have:=congrArg List.length H.out.took
     rw[Oa6,Oc7]at this
     omega
    clear U cy
    go_wp2_with (at_builtin;go_must (refine Ul (by rfl) _ _ 270 276 _ 24 Jsw (by rfl) (by decide) (by kernel_rfl) (by rfl) w.heap.size _ _ (by rfl) (Jo.alloc (H.out.own.below bf) _) ⟨wr.heap.size,0,none⟩ 1 [.slice (some ⟨X,0,none⟩) es.length Z] (by rfl) (by exact Ua wr _ _) (by intro u bj;simp at bj;subst bj;rfl) (by rw[Oa6];simp only[List.length_cons,List.length_nil];omega) (by simp;omega) ?_);intro dw bn br bc cS;obtain⟨ca,c5,cE,_⟩:=br.cells;obtain⟨bH,cv⟩:∃ bH,bH=(C.map stV++[Value.slice (some ⟨X,0,none⟩) es.length Z]).length:=⟨_,rfl⟩;rw[←cv]at cE;subst cE;clear cv;have bX:=Kg0 H.out bf bc;have dP:=bX.cells.1;have dR:=bX.thaw 0;have cI:Hid (Jw1 w M (.slice ca bH c5) (C++[(X,Z,es)]) A (j+1) (bn.setCell ⟨w.heap.size,0,none⟩ (.slice ca bH c5))):=Ket H.out cH.out bf cN.out bc br;clear br bc cS bX)
    go_roundw
    case rel=>exact⟨j+1,_,_,by omega,by go_num,cI⟩
    case measure=>simp[intOf];omega
  obtain rfl:j=A.length:=by omega
  have O:=H
  go_wp2
  go_ret
  refine⟨O.out.below,rfl,bN,O.out.wk,?_⟩
  have bW:=O.out.took
  rw[Oc8 (Oa2 _)]at bW
  have df:C.length=A.length:=by rw[←bW,Oa6]
  obtain⟨a,cap,bV,cl⟩:=Ji8 O.out.own
  have de:0<C.length:=by omega
  obtain⟨g,cV,bQ,_⟩:=cl 0 (stV C[0]) (by rw[Ob1,Oa3 de];rfl)
  subst cV
  refine⟨g,cap,by rw[bV,Oa6,df],?_,(Je O.out.own bQ).1,(Je O.out.own bQ).2,fun k es bi=>?_⟩
  ·obtain⟨cb,bP⟩:=Ja4 O.out.own bQ
   exact Jfc bP O.out.wk (by decide)
  have bC:k<C.length:=by have:=(Ob9.1 bi).1;omega
  have cn:C[k].2.2=es:=by
   have:=congrArg (·[k]?) bW
   simp only[Ob1,Oa3 bC,bi,Option.map_some]at this
   exact Oj6 this
  obtain⟨g2,cc,_,bc,_⟩:=cl k (stV C[k]) (by rw[Ob1,Oa3 bC];rfl)
  simp only[Oc9,Oh2,and_true]at cc
  subst cc
  have U:=O.out.steps C[k] (Ob3 bC)
  rw[show stV C[k]=Value.slice (some ⟨C[k].1,0,none⟩) es.length C[k].2.1 by rw[←cn]]at bc U
  rw[cn]at U
  refine⟨C[k].1,C[k].2.1,(Je U rfl).1,(Je U rfl).2,bc,Jnn U ?_⟩
  obtain⟨cb,bP⟩:=Ja4 U rfl
  exact Jfc bP O.out.wk (by decide)
end Go.Proofs.YtjjdldddcegjiaaGreatDoor
