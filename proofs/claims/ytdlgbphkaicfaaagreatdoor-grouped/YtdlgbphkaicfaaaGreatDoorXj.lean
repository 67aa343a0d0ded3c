/- exprs.New: expressions made ready. -/
import Derived.Test.YtdlgbphkaicfaaaGreatDoorXh
set_option maxHeartbeats 2000000
set_option maxRecDepth 100000
namespace Go.Proofs.YtdlgbphkaicfaaaGreatDoor
open Go.RowKit Go.Shelf Tryz
attribute [local go_sem] Oc0
abbrev Jfq (b:Nat):Array Value:=#[.func (.func 174) #[.pointer (some ⟨b,0,none⟩)] #[],.func (.func 175) #[.pointer (some ⟨b,0,none⟩)] #[],.func (.func 176) #[.pointer (some ⟨b,0,none⟩)] #[],.func (.func 177) #[.pointer (some ⟨b,0,none⟩)] #[],.func (.func 178) #[.pointer (some ⟨b,0,none⟩)] #[],.func (.func 179) #[.pointer (some ⟨b,0,none⟩)] #[],.func (.func 180) #[.pointer (some ⟨b,0,none⟩)] #[],.func (.func 181) #[.pointer (some ⟨b,0,none⟩)] #[],.func (.func 182) #[.pointer (some ⟨b,0,none⟩)] #[],.func (.func 183) #[.pointer (some ⟨b,0,none⟩)] #[],.func (.func 184) #[.pointer (some ⟨b,0,none⟩)] #[],.func (.func 185) #[.pointer (some ⟨b,0,none⟩)] #[]]
theorem Jz6 (b:Nat)(k:Nat)(y:k<12):(Jfq b)[k]?=some (.func (.func (Zv (k:Int))) #[.pointer (some ⟨b,0,none⟩)] #[]):=by
 match k,y with
 |0,_=>rfl
 |1,_=>rfl
 |2,_=>rfl
 |3,_=>rfl
 |4,_=>rfl
 |5,_=>rfl
 |6,_=>rfl
 |7,_=>rfl
 |8,_=>rfl
 |9,_=>rfl
 |10,_=>rfl
 |11,_=>rfl
 |k+12,h=>omega
theorem Jvt (b:Nat)(w:World):Calls prog 138 #[.pointer (some ⟨b,0,none⟩)] w fun e w'=>e=.returned (.agg (Jfq b))∧Below w.heap.size w w':=by
 have y:∀ (f:Nat) (a:Addr) (W:World),(store a (.func (.func f) #[.pointer (some ⟨b,0,none⟩)] #[])).run prog W=stored prog W a (.func (.func f) #[.pointer (some ⟨b,0,none⟩)] #[]) .plain:=fun f a W=>run_store _ _ _ _ _ rfl
 go_enter func138,ntmps138
 go_wp2
 exact bodyPost_ret (v:=.agg (Jfq b)) (by simp[results,results138,go_sem]) rfl ⟨rfl,(by repeat (first|exact Oa5 _ _|refine Jc ?_ _|refine Jj ?_))⟩
def Qi (w:World)(g o:Nat)(p:Pt):Prop:=
 w.cell? ⟨g,o,none⟩=some (.int .i64 p.op)∧w.cell? ⟨g,o+1,none⟩=some (.int .i64 p.l)∧w.cell? ⟨g,o+2,none⟩=some (.int .i64 p.r)∧w.cell? ⟨g,o+3,none⟩=some (.int .i64 p.c)∧w.cell? ⟨g,o+4,none⟩=some (.int .i64 p.v.k)∧w.cell? ⟨g,o+5,none⟩=some (.int .i64 p.v.n)∧w.cell? ⟨g,o+6,none⟩=some (.string p.v.s)
theorem Qi.below {w w':World}{g o:Nat}{p:Pt}(h:Qi w g o p)(y:Below w.heap.size w w'):Qi w' g o p:=
 ⟨Ja y h.1,Ja y h.2.1,Ja y h.2.2.1,Ja y h.2.2.2.1,Ja y h.2.2.2.2.1,Ja y h.2.2.2.2.2.1,Ja y h.2.2.2.2.2.2⟩
def Jaz (w:World)(D eo:Nat)(E:List (List Pt)):Prop:=∀ j es,E[j]?=some es→∃ y A H,w.cell? ⟨D,eo+j,none⟩=some (.slice (some ⟨y,A,none⟩) es.length H)∧∀ k p,es[k]?=some p→Qi w y (A+k*7) p
theorem Jaz.below {w w':World}{y eo:Nat}{A:List (List Pt)}(h:Jaz w y eo A)(D:Below w.heap.size w w'):Jaz w' y eo A:=fun j es E=>by
 obtain⟨K,O,M,h1,h2⟩:=h j es E
 exact⟨K,O,M,Ja D h1,fun k p H=>(h2 k p H).below D⟩
def Jft (b:Nat)(p:Pt):List Value:=[.int .i64 p.op,.int .i64 p.l,.int .i64 p.r,.int .i64 p.c,.int .i64 p.v.k,.int .i64 p.v.n,.string p.v.s,.func (.func (Zv p.op)) #[.pointer (some ⟨b,0,none⟩)] #[]]
theorem Jek {α:Type}(f:α→List Value)(z:Nat)(hf:∀ a,(f a).length=z):∀ (l:List α) (k i:Nat) (a:α),l[k]?=some a→i<z→(l.flatMap f)[k*z+i]?=(f a)[i]?:=by
 intro l
 induction l with
 |nil=>intro k i a h;simp at h
 |cons x l y=>
  intro k i a h hi
  rw[Og7]
  cases k with
  |zero=>
   simp at h
   subst h
   rw[Nat.zero_mul,Od0,Ob0 (by rw[hf];exact hi)]
  |succ k=>
   have e:(k+1)*z+i=z+(k*z+i):=by rw[Of5];omega
   rw[e,Ob6 (by rw[hf];omega),hf,Nat.add_sub_cancel_left]
   exact y k i a (by simpa using h) hi
theorem Kci {α:Type}(f:α→List Value)(z:Nat)(hf:∀ a,(f a).length=z)(l:List α):(l.flatMap f).length=l.length*z:=by
 induction l with
 |nil=>simp
 |cons x l y=>rw[Og7,Oa8,y,hf,List.length_cons,Of5];omega
def Jxp (w:World)(B b:Nat)(sv:Value)(es:List Pt):Prop:=w.ownsRow B 270 8 sv es.length (es.flatMap (Jft b))
theorem Jnn {w:World}{B b A K:Nat}{es:List Pt}(h:Jxp w B b (.slice (some ⟨A,0,none⟩) es.length K) es)(H:A≠b):Jco w A b es:=by
 obtain⟨_,⟨h1,_⟩|⟨g,cap,M,h1,_,h2,_,_,O,E⟩⟩:=h
 ·cases h1
 simp only[On8,Oc9,Oh2,and_true]at h1
 obtain⟨rfl,-,rfl⟩:=h1
 refine⟨H,fun j p D=>?_⟩
 have R:j<es.length:=(Ob9.1 D).1
 have y:∀ i,i<8→w.cell? ⟨A,j*8+i,none⟩=(Jft b p)[i]?:=fun i hi=>by
  have:=Jek (Jft b) 8 (fun _=>rfl) es j i p D hi
  rw[←E,Oe7,if_pos (by omega),Oe6]at this
  rw[←this]
  simp[World.cell?,h2]
 exact⟨y 0 (by omega),y 1 (by omega),y 2 (by omega),y 3 (by omega),y 4 (by omega),y 5 (by omega),y 6 (by omega),y 7 (by omega)⟩
theorem Jue:(prog.info? 270).map (fun i=>(i.zero,i.size,i.bytes))=some (some (.agg #[.int .i64 0,.int .i64 0,.int .i64 0,.int .i64 0,.int .i64 0,.int .i64 0,.string ⟨#[]⟩,.nilFunc]),8,72):=by kernel_rfl
theorem Jsw:(prog.info? 268).map (fun i=>(i.zero,i.size,i.bytes))=some (some (.slice none 0 0),1,24):=by kernel_rfl
abbrev stV (q:Nat×Nat×List Pt):Value:=.slice (some ⟨q.1,0,none⟩) q.2.2.length q.2.1
structure Jw1 (w:World) (kb:Nat) (exv:Value) (qs:List (Nat×Nat×List Pt)) (ess:List (List Pt)) (j:Nat) (wr:World):Prop where
 own:Jo wr w.heap.size 268 exv (qs.map stV)
 wk:Uz wr w.heap.size exv (.slice none 0 0) 0 0 (.slice none 0 0) .nilIface
 kinds:∃ ty,wr.heap[kb]?=some (.cells (Jfq w.heap.size) ty (0,0))∧ty≠270∧ty≠268∧ty≠264
 steps:∀ q∈qs,Jxp wr w.heap.size w.heap.size (stV q) q.2.2
 took:qs.map (·.2.2)=ess.take j
 below:Below w.heap.size w wr
def Jd3 (lo hi:Nat)(w:World)(b:Nat)(ex:Value)(D:List (List Pt)):Prop:=∃ y E,ex=.slice (some ⟨y,0,none⟩) D.length E∧y≠b∧lo≤y∧y<hi∧∀ j es,D[j]?=some es→∃ A H,lo≤A∧A<hi∧w.cell? ⟨y,j,none⟩=some (.slice (some ⟨A,0,none⟩) es.length H)∧Jco w A b es
theorem Jd3.at {lo hi:Nat}{w:World}{b:Nat}{ex:Value}{y:List (List Pt)}(h:Jd3 lo hi w b ex y):Jx0 w b ex y:=by
 obtain⟨D,A,h1,h2,_,_,E⟩:=h
 refine⟨D,A,h1,h2,fun j es M=>?_⟩
 obtain⟨O,R,_,_,H,K⟩:=E j es M
 exact⟨O,R,H,K⟩
theorem Jd3.of_blocks {lo hi:Nat}{w w':World}{b:Nat}{ex:Value}{R:List (List Pt)}(h:Jd3 lo hi w b ex R)(U:∀ k,lo≤k→k<hi→k≠b→w'.heap[k]?=w.heap[k]?):Jd3 lo hi w' b ex R:=by
 obtain⟨D,X,h1,h2,H,K,Z⟩:=h
 refine⟨D,X,h1,h2,H,K,fun j es bb=>?_⟩
 obtain⟨A,bx,M,O,ba,E⟩:=Z j es bb
 have y:∀ o v,w.cell? ⟨A,o,none⟩=some v→w'.cell? ⟨A,o,none⟩=some v:=fun o v bf=>(Oc3 (a:=⟨A,o,none⟩) (U A M O E.ne)).trans bf
 refine⟨A,bx,M,O,(Oc3 (a:=⟨D,j,none⟩) (U D H K h2)).trans ba,E.ne,fun j p bc=>?_⟩
 obtain⟨bh,bi,bj,bk,bl,bn,br,bu⟩:=E.step j p bc
 exact⟨y _ _ bh,y _ _ bi,y _ _ bj,y _ _ bk,y _ _ bl,y _ _ bn,y _ _ br,y _ _ bu⟩
theorem Ja4 {w:World}{B:Nat}{e:TypeId}{z:Nat}{sv:Value}{n:Nat}{xs:List Value}{g:Nat}(h:w.ownsRow B e z sv n xs)(y:sv.ownBlock=some g):∃ A,w.heap[g]?=some (.cells A e (0,0)):=by
 obtain⟨_,⟨h1,_⟩|⟨D,cap,A,h1,_,h2,_⟩⟩:=h
 ·rw[h1]at y;cases y
 rw[h1]at y
 simp only[Value.ownBlock,Oc9]at y
 exact⟨A,y▸h2⟩
theorem Jfc {w:World}{g D:Nat}{c E:Array Value}{e A:TypeId}{f H:Nat×Nat}(h:w.heap[g]?=some (.cells c e f))(y:w.heap[D]?=some (.cells E A H))(M:e≠A):g≠D:=fun K=>by
 subst K
 rw[h]at y
 simp only[Oc9,Obj.cells.injEq]at y
 exact M y.2.1
theorem Kg0 {w:World}{kb:Nat}{y:Value}{U:List (Nat×Nat×List Pt)}{H:List (List Pt)}{j:Nat}{wr E A:World}(h:Jw1 w kb y U H j wr)(D:Below wr.heap.size wr E){o:Obj}(M:(E.alloc o).grownBy A y.ownBlock):Uz A w.heap.size y (.slice none 0 0) 0 0 (.slice none 0 0) .nilIface:=by
 have O:=Jd h.wk
 have Z:=D.size
 have R:y.ownBlock≠some w.heap.size:=fun e=>by
  obtain⟨X,K⟩:=Ja4 h.own e
  exact Jfc K h.wk (by decide) rfl
 show A.heap[w.heap.size]?=_
 rw[M.block _ (by rw[Oa7];omega) (fun e=>R e.symm),Oa9 _ _ _ (by omega),D.block _ O]
 exact h.wk
theorem Ket {w:World}{kb:Nat}{E:Value}{bk:List (Nat×Nat×List Pt)}{bh:List (List Pt)}{j:Nat}{wr H y:World}(h:Jw1 w kb E bk bh j wr){es:List Pt}(bA:bh[j]?=some es)(K:Below wr.heap.size wr H){bb bc:Nat}(bE:Jxp H wr.heap.size w.heap.size (.slice (some ⟨bb,0,none⟩) es.length bc) es)
  {M:Value} (O:(H.alloc (.cells #[.slice (some ⟨bb,0,none⟩) es.length bc] 268)).grownBy y E.ownBlock) (bz:Jo y w.heap.size 268 M (bk.map stV++[stV (bb,bc,es)])) :
  Jw1 w kb M (bk++[(bb,bc,es)]) bh (j+1) (y.setCell ⟨w.heap.size,0,none⟩ M):=by
 have bI:=h.below.size
 have bL:=K.size
 have bJ:=O.size
 rw[Oa7]at bJ
 have bG:=Jd h.wk
 have Z:∀ g,E.ownBlock=some g→(w.heap.size≤g∧g<wr.heap.size)∧∃ D,wr.heap[g]?=some (.cells D 268 (0,0)):=fun g e=>⟨Je h.own e,Ja4 h.own e⟩
 have br:∀ k,k<H.heap.size→E.ownBlock≠some k→y.heap[k]?=H.heap[k]?:=fun k R bj=>by
  rw[O.block k (by rw[Oa7];omega) (fun e=>bj e.symm),Oa9 _ _ k R]
 have bi:∀ k,k<wr.heap.size→E.ownBlock≠some k→y.heap[k]?=wr.heap[k]?:=fun k R bj=>by
  rw[br k (by omega) bj,K.block k R]
 have bH:E.ownBlock≠some w.heap.size:=fun e=>by
  obtain⟨_,D,A⟩:=Z _ e
  exact Jfc A h.wk (by decide) rfl
 have ba:Uz y w.heap.size E (.slice none 0 0) 0 0 (.slice none 0 0) .nilIface:=(bi _ bG bH).trans h.wk
 have bD:∀ g D,H.heap[g]?=some (.cells D 270 (0,0))→E.ownBlock≠some g:=fun g D A e=>by
  obtain⟨⟨_,bB⟩,bK,bu⟩:=Z _ e
  rw[←K.block g bB]at bu
  exact Jfc bu A (by decide) rfl
 have bx:∀ sv bf,Jxp H w.heap.size w.heap.size sv bf→Jxp (y.setCell ⟨w.heap.size,0,none⟩ M) w.heap.size w.heap.size sv bf:=fun sv bf hs=>Jl hs fun g e=>by
  obtain⟨D,A⟩:=Ja4 hs e
  have X:y.heap[g]?=H.heap[g]?:=br g (Jd A) (bD g D A)
  rw[Oa4 _ _ _ _ ?_,X]
  exact Jfc (X.trans A) ba (by decide)
 refine⟨?_,?_,?_,?_,?_,?_⟩
 ·rw[Ob8]
  refine Jl bz fun g e=>?_
  obtain⟨D,A⟩:=Ja4 bz e
  exact Oa4 _ _ _ _ (Jfc A ba (by decide))
 ·have:=Jk ba 0 M
  simp only[Oa1,List.set_cons_zero]at this
  exact this
 ·obtain⟨ty,h1,h2,bl,bn⟩:=h.kinds
  have X:y.heap[kb]?=wr.heap[kb]?:=bi kb (Jd h1) fun e=>by
   obtain⟨_,D,A⟩:=Z _ e
   exact Jfc A h1 (fun e=>bl e.symm) rfl
  have bC:kb≠w.heap.size:=Jfc (X.trans h1) ba bn
  exact⟨ty,(Oa4 _ _ _ _ bC).trans (X.trans h1),h2,bl,bn⟩
 ·intro q U
  rw[Od2,Oc6]at U
  rcases U with U|rfl
  ·exact bx _ _ (Jl (h.steps q U) fun g e=>K.block g (Je (h.steps q U) e).2)
  exact bx _ _ (Jgl bE bI)
 ·rw[Ob8,h.took,Oi7,bA];rfl
 refine⟨?_,?_,?_,?_,fun k R=>?_⟩
 ·exact O.os.trans (K.os.trans h.below.os)
 ·exact O.tape.trans (K.tape.trans h.below.tape)
 ·exact O.output.trans (K.output.trans h.below.output)
 ·have:(y.setCell ⟨w.heap.size,0,none⟩ M).heap.size=y.heap.size:=by simp[World.setCell]
  omega
 rw[Oa4 _ _ _ _ (by show k≠w.heap.size;omega),bi k (by omega) (fun e=>by have:=(Z k e).1;omega)]
 exact h.below.block k R
theorem Jsm (bI eo cK W:Nat)(D:List (List Pt))(w:World)(bZ:Jaz w bI eo D)(cx:Jga W D)(dx:D.length≤1000)(dy:1≤D.length) :
  Calls prog 104 #[.slice (some ⟨bI,eo,none⟩) D.length cK] w fun e w'=>Below w.heap.size w w'∧e=.returned (.pointer (some ⟨w.heap.size,0,none⟩))∧∃ ex,Uz w' w.heap.size ex (.slice none 0 0) 0 0 (.slice none 0 0) .nilIface∧Jd3 w.heap.size w'.heap.size w' w.heap.size ex D:=by
 have bU:Hid (Jaz w bI eo D∧Jga W D):=⟨bZ,cx⟩
 clear bZ cx
 have dA:∀ (f:Nat) (a:Addr) (K:World),(store a (.func (.func f) #[.pointer (some ⟨w.heap.size,0,none⟩)] #[])).run prog K=stored prog K a (.func (.func f) #[.pointer (some ⟨w.heap.size,0,none⟩)] #[]) .plain:=fun f a K=>run_store _ _ _ _ _ rfl
 obtain⟨w1,bl⟩:∃ w1,w1=w.alloc (.cells #[.slice none 0 0,.slice none 0 0,.int .i64 0,.int .i64 0,.slice none 0 0,.nilIface] 264):=⟨_,rfl⟩
 have ca:Below w.heap.size w w1:=by rw[bl];exact Jc (Oa5 _ _) _
 have cB:Uz w1 w.heap.size (.slice none 0 0) (.slice none 0 0) 0 0 (.slice none 0 0) .nilIface:=by rw[bl];exact heap_alloc_new w _
 have bO:=Jvt w.heap.size w1
 have bG:Hid (Below w.heap.size w w1∧Uz w1 w.heap.size (.slice none 0 0) (.slice none 0 0) 0 0 (.slice none 0 0) .nilIface):=⟨ca,cB⟩
 have bV:Hid (w1=w.alloc (.cells #[.slice none 0 0,.slice none 0 0,.int .i64 0,.int .i64 0,.slice none 0 0,.nilIface] 264)):=bl
 rw[bl]at bO
 clear ca cB bl
 go_enter func104,ntmps104
 go_upto_region 3 with(go_at_call 138;refine bO.mono ?_;rintro e U ⟨rfl,br⟩;rw[←bV.out]at br)
 have cu:Jw1 w U.heap.size (.slice none 0 0) [] D 0 (U.alloc (.cells (Jfq w.heap.size) 266)):=by
  have O:Below U.heap.size U (U.alloc (.cells (Jfq w.heap.size) 266)):=Jc (Oa5 _ _) _
  exact⟨Jo.nil _ _ _,(bG.out.2.below br).below O,⟨266,heap_alloc_new U _,by decide,by decide,by decide⟩,fun q cZ=>by simp at cZ,rfl,Jb (Jb bG.out.1 br) O⟩
 have bn:Hid (Jw1 w U.heap.size (.slice none 0 0) [] D 0 (U.alloc (.cells (Jfq w.heap.size) 266))):=cu
 clear cu bO bG bV br
 obtain⟨kb,cj⟩:∃ kb,kb=U.heap.size:=⟨_,rfl⟩
 rw[←cj]at bn ⊢
 clear cj
 generalize U.alloc (.cells (Jfq w.heap.size) 266)=dr at bn ⊢
 go_wp2
 go_loopw [16] (fun i wr=>∃ (j:Nat) (bJ:Value) (E:List (Nat×Nat×List Pt)),j≤D.length∧i=.int .i64 (j:Int)∧Hid (Jw1 w kb bJ E D j wr)) (fun i _=>D.length-(intOf i).toNat)
 case atStart=>exact⟨0,_,_,Ob7 _,rfl,bn⟩
 case round=>
  obtain⟨j,bJ,E,du,rfl,M⟩:=hrel
  clear bn
  obtain⟨H,dc⟩:∃ H,H=wr:=⟨_,rfl⟩
  subst dc
  by_cases cX:j<D.length
  ·obtain⟨es,bf⟩:∃ es,D[j]?=some es:=⟨_,Oa3 cX⟩
   obtain⟨dh,di,dI,bD,cz⟩:=bU.out.1 j es bf
   have dK:=Ja M.out.below bD
   have bP:=bU.out.2 es (Of6 bf)
   have bE:Hid ((∀ k p,es[k]?=some p→Qi w dh (di+k*7) p)∧es≠[]∧es.length≤1000∧∀ j p,es[j]?=some p→Jr0 W j p):=⟨cz,bP⟩
   have cD:Hid (D[j]?=some es):=bf
   have dt:es.length≤1000:=bP.2.1
   have j1:(0:Int)≤(j:Int):=by omega
   have j2:(j:Int)<(D.length:Int):=by omega
   have dC:w.heap.size<H.heap.size:=Jd M.out.wk
   clear bf cz bP bD
   go_wp2
   go_loopw [7,22] (fun s i wr=>∃ k:Nat,k≤es.length∧i=.int .i64 (k:Int)∧Hid (wr.ownsRow H.heap.size 270 8 s k ((es.take k).flatMap (Jft w.heap.size)))∧Below H.heap.size H wr) (fun _ i _=>es.length-(intOf i).toNat)
   case atStart=>exact⟨0,Ob7 _,rfl,⟨rfl,.inl ⟨rfl,rfl⟩⟩,Oa5 _ _⟩
   case round=>
    obtain⟨k,bx,rfl,bi,bb⟩:=hrel
    have dB:=bb.size
    by_cases cW:k<es.length
    ·obtain⟨p,bB⟩:∃ p,es[k]?=some p:=⟨_,Oa3 cW⟩
     obtain⟨cC,bD,dj,dk,dm,dp,dq⟩:=(bE.out.1 k p bB).below (Jb M.out.below bb)
     have bQ:=bE.out.2.2.2 k p bB
     obtain⟨y,bA⟩:∃ y:Nat,p.op=(y:Int):=⟨p.op.toNat,by have:=bQ.lo;omega⟩
     have cY:y<12:=by have:=bQ.hi;omega
     have bN:wr.cell? ⟨kb,y,none⟩=some (.func (.func (Zv p.op)) #[.pointer (some ⟨w.heap.size,0,none⟩)] #[]):=by
      obtain⟨ty,bz,_⟩:=M.out.kinds
      have cT:=(bb.block _ (Jd bz)).trans bz
      have:=Jz6 w.heap.size y cY
      rw[←bA]at this
      rw[←this]
      simp only[World.cell?,cT]
      rfl
     obtain⟨f,hf⟩:∃ f,f=Zv p.op:=⟨_,rfl⟩
     have cH:Hid (Jft w.heap.size p=[.int .i64 (y:Int),.int .i64 p.l,.int .i64 p.r,.int .i64 p.c,.int .i64 p.v.k,.int .i64 p.v.n,.string p.v.s,.func (.func f) #[.pointer (some ⟨w.heap.size,0,none⟩)] #[]]):=by
      show _=_
      unfold Jft
      rw[hf,bA]
     rw[←hf]at bN
     rw[bA]at cC
     have cG:Hid (es[k]?=some p):=bB
     have dD:(0:Int)≤(k:Int):=by omega
     have dE:(k:Int)<(es.length:Int):=by omega
     have dG:(0:Int)≤(y:Int):=by omega
     have dH:(y:Int)<12:=by omega
     clear hf bA bB bQ
     go_upto_region 10 with fail
     have cn:=heap_alloc_new wr (.cells #[.int .i64 (y:Int),.int .i64 p.l,.int .i64 p.r,.int .i64 p.c,.int .i64 p.v.k,.int .i64 p.v.n,.string p.v.s] 65)
     have cU:(wr.alloc (.cells #[.int .i64 (y:Int),.int .i64 p.l,.int .i64 p.r,.int .i64 p.c,.int .i64 p.v.k,.int .i64 p.v.n,.string p.v.s] 65)).drew.cell? ⟨kb,y,none⟩=some (.func (.func f) #[.pointer (some ⟨w.heap.size,0,none⟩)] #[]):=Jh (Kf bN)
     obtain⟨dg,cS,dd,de,df⟩:=info_parts Jue
     refine wp_region_held_drew (S:=fun K=>K.cell? ⟨wr.heap.size,0,none⟩=some (.int .i64 (y:Int))∧K.cell? ⟨wr.heap.size,1,none⟩=some (.int .i64 p.l)∧K.cell? ⟨wr.heap.size,2,none⟩=some (.int .i64 p.r)∧K.cell? ⟨wr.heap.size,3,none⟩=some (.int .i64 p.c)∧K.cell? ⟨wr.heap.size,4,none⟩=some (.int .i64 p.v.k)∧K.cell? ⟨wr.heap.size,5,none⟩=some (.int .i64 p.v.n)∧K.cell? ⟨wr.heap.size,6,none⟩=some (.string p.v.s)∧K.cell? ⟨kb,y,none⟩=some (.func (.func f) #[.pointer (some ⟨w.heap.size,0,none⟩)] #[])) (by kernel_rfl) (by refine⟨?_,?_,?_,?_,?_,?_,?_,cU⟩<;>(unfold World.cell?;rw[heap_drew,cn];rfl)) (fun A=>?_)
     refine tk 0 ?_ rfl A ?_ (tk 1 ?_ rfl A ?_ (tk 2 ?_ rfl A ?_ (tk 3 ?_ rfl A ?_ (tk 4 ?_ rfl A ?_ (tk 5 ?_ rfl A ?_ (tk 6 ?_ rfl A ?_ ?_))))))
     iterate 7
      rotate_left 1
      ·intro w bK;(try dsimp only at bK);go_simp;try rfl
     simp only[Act.put,List.getElem_toArray,List.getElem_cons_zero,List.getElem_cons_succ,Oa1,List.set_cons_zero,List.set_cons_succ]
     clear cn cC bD dj dk dm dp dq
     refine wpAnyH_ready (rs:=[7]) (by kernel_rfl) (by simp) (AllReadyH.cons rfl (fun bH bk=>?_) AllReadyH.nil)
     go_simp
     have O:Below (wr.alloc (.cells #[.int .i64 (y:Int),.int .i64 p.l,.int .i64 p.r,.int .i64 p.c,.int .i64 p.v.k,.int .i64 p.v.n,.string p.v.s] 65)).drew.heap.size (wr.alloc (.cells #[.int .i64 (y:Int),.int .i64 p.l,.int .i64 p.r,.int .i64 p.c,.int .i64 p.v.k,.int .i64 p.v.n,.string p.v.s] 65)).drew (((wr.alloc (.cells #[.int .i64 (y:Int),.int .i64 p.l,.int .i64 p.r,.int .i64 p.c,.int .i64 p.v.k,.int .i64 p.v.n,.string p.v.s] 65)).alloc (.cells #[.int .i64 (y:Int),.int .i64 p.l,.int .i64 p.r,.int .i64 p.c,.int .i64 p.v.k,.int .i64 p.v.n,.string p.v.s,.func (.func f) #[.pointer (some ⟨w.heap.size,0,none⟩)] #[]] 270)).drew):=by
      have:=Jc (Oa5 _ (wr.alloc (.cells #[.int .i64 (y:Int),.int .i64 p.l,.int .i64 p.r,.int .i64 p.c,.int .i64 p.v.k,.int .i64 p.v.n,.string p.v.s] 65))) (.cells #[.int .i64 (y:Int),.int .i64 p.l,.int .i64 p.r,.int .i64 p.c,.int .i64 p.v.k,.int .i64 p.v.n,.string p.v.s,.func (.func f) #[.pointer (some ⟨w.heap.size,0,none⟩)] #[]] 270)
      exact⟨this.os,this.tape,this.output,this.size,this.block⟩
     refine bk.out _ _ ⟨Ja O A.1,Ja O A.2.1,Ja O A.2.2.1,Ja O A.2.2.2.1,Ja O A.2.2.2.2.1,Ja O A.2.2.2.2.2.1,Ja O A.2.2.2.2.2.2.1,Ja O A.2.2.2.2.2.2.2⟩ (fun A=>?_)
     clear bk bH
     refine wpAnyH_ready (rs:=[8]) (by kernel_rfl) (by simp) (AllReadyH.cons rfl (fun bH bk=>?_) AllReadyH.nil)
     have cc:Below wr.heap.size wr (((wr.alloc (.cells #[.int .i64 (y:Int),.int .i64 p.l,.int .i64 p.r,.int .i64 p.c,.int .i64 p.v.k,.int .i64 p.v.n,.string p.v.s] 65)).alloc (.cells #[.int .i64 (y:Int),.int .i64 p.l,.int .i64 p.r,.int .i64 p.c,.int .i64 p.v.k,.int .i64 p.v.n,.string p.v.s,.func (.func f) #[.pointer (some ⟨w.heap.size,0,none⟩)] #[]] 270)).drew):=Jj (Jc (Jc (Oa5 _ _) _) _)
     have cy:(((wr.alloc (.cells #[.int .i64 (y:Int),.int .i64 p.l,.int .i64 p.r,.int .i64 p.c,.int .i64 p.v.k,.int .i64 p.v.n,.string p.v.s] 65)).alloc (.cells #[.int .i64 (y:Int),.int .i64 p.l,.int .i64 p.r,.int .i64 p.c,.int .i64 p.v.k,.int .i64 p.v.n,.string p.v.s,.func (.func f) #[.pointer (some ⟨w.heap.size,0,none⟩)] #[]] 270)).drew).ownsRow H.heap.size 270 8 u7 k ((es.take k).flatMap (Jft w.heap.size)):=Jaw bi.out cc
     have cb:(((wr.alloc (.cells #[.int .i64 (y:Int),.int .i64 p.l,.int .i64 p.r,.int .i64 p.c,.int .i64 p.v.k,.int .i64 p.v.n,.string p.v.s] 65)).alloc (.cells #[.int .i64 (y:Int),.int .i64 p.l,.int .i64 p.r,.int .i64 p.c,.int .i64 p.v.k,.int .i64 p.v.n,.string p.v.s,.func (.func f) #[.pointer (some ⟨w.heap.size,0,none⟩)] #[]] 270)).drew).heap[wr.heap.size+1]?=some (.cells #[.int .i64 (y:Int),.int .i64 p.l,.int .i64 p.r,.int .i64 p.c,.int .i64 p.v.k,.int .i64 p.v.n,.string p.v.s,.func (.func f) #[.pointer (some ⟨w.heap.size,0,none⟩)] #[]] 270 (0,0)):=by
      have:=heap_alloc_new (wr.alloc (.cells #[.int .i64 (y:Int),.int .i64 p.l,.int .i64 p.r,.int .i64 p.c,.int .i64 p.v.k,.int .i64 p.v.n,.string p.v.s] 65)) (.cells #[.int .i64 (y:Int),.int .i64 p.l,.int .i64 p.r,.int .i64 p.c,.int .i64 p.v.k,.int .i64 p.v.n,.string p.v.s,.func (.func f) #[.pointer (some ⟨w.heap.size,0,none⟩)] #[]] 270)
      rw[Oa7]at this
      exact this
     refine step_append_lies (((wr.alloc (.cells #[.int .i64 (y:Int),.int .i64 p.l,.int .i64 p.r,.int .i64 p.c,.int .i64 p.v.k,.int .i64 p.v.n,.string p.v.s] 65)).alloc (.cells #[.int .i64 (y:Int),.int .i64 p.l,.int .i64 p.r,.int .i64 p.c,.int .i64 p.v.k,.int .i64 p.v.n,.string p.v.s,.func (.func f) #[.pointer (some ⟨w.heap.size,0,none⟩)] #[]] 270)).drew) rfl (.tmp 26) (.tmp 33) 268 rfl H.heap.size 270 dg (.agg #[.int .i64 0,.int .i64 0,.int .i64 0,.int .i64 0,.int .i64 0,.int .i64 0,.string ⟨#[]⟩,.nilFunc]) 8 72 underlying268 cS dd de df rfl (by decide) u7 k ((es.take k).flatMap (Jft w.heap.size)) rfl cy ⟨wr.heap.size+1,0,none⟩ 1 1 [.int .i64 (y:Int),.int .i64 p.l,.int .i64 p.r,.int .i64 p.c,.int .i64 p.v.k,.int .i64 p.v.n,.string p.v.s,.func (.func f) #[.pointer (some ⟨w.heap.size,0,none⟩)] #[]] rfl rfl (fun j u bh=>World.news_of_block cb j u (by simpa using bh)) (fun u bh=>by simp at bh;rcases bh with rfl|rfl|rfl|rfl|rfl|rfl|rfl|rfl<;>rfl) (by decide) (by unfold maxLen;omega) (by omega) (by rw[heap_drew,Oa7,Oa7];omega) (wr.heap.size+2) (by rw[heap_drew,Oa7,Oa7]) (fun cM cJ bj cv bu cO cV=>?_)
     have dM:=bu.size
     have dw:=Jm bN
     have dv:kb<H.heap.size:=by obtain⟨ty,bz,_⟩:=M.out.kinds;exact Jd bz
     have bc:∀ o:Nat,bj.cell? ⟨wr.heap.size,o,none⟩=(((wr.alloc (.cells #[.int .i64 (y:Int),.int .i64 p.l,.int .i64 p.r,.int .i64 p.c,.int .i64 p.v.k,.int .i64 p.v.n,.string p.v.s] 65)).alloc (.cells #[.int .i64 (y:Int),.int .i64 p.l,.int .i64 p.r,.int .i64 p.c,.int .i64 p.v.k,.int .i64 p.v.n,.string p.v.s,.func (.func f) #[.pointer (some ⟨w.heap.size,0,none⟩)] #[]] 270)).drew).cell? ⟨wr.heap.size,o,none⟩:=fun o=>by simp only[World.cell?,bu.block wr.heap.size (Jm A.1) (fun e=>by have:=Je bi.out e.symm;omega)]
     have ci:bj.cell? ⟨kb,y,none⟩=(((wr.alloc (.cells #[.int .i64 (y:Int),.int .i64 p.l,.int .i64 p.r,.int .i64 p.c,.int .i64 p.v.k,.int .i64 p.v.n,.string p.v.s] 65)).alloc (.cells #[.int .i64 (y:Int),.int .i64 p.l,.int .i64 p.r,.int .i64 p.c,.int .i64 p.v.k,.int .i64 p.v.n,.string p.v.s,.func (.func f) #[.pointer (some ⟨w.heap.size,0,none⟩)] #[]] 270)).drew).cell? ⟨kb,y,none⟩:=by simp only[World.cell?,bu.block kb (by rw[heap_drew,Oa7,Oa7];omega) (fun e=>by have:=Je bi.out e.symm;omega)]
     refine bk.out _ _ ⟨(bc 0).trans A.1,(bc 1).trans A.2.1,(bc 2).trans A.2.2.1,(bc 3).trans A.2.2.2.1,(bc 4).trans A.2.2.2.2.1,(bc 5).trans A.2.2.2.2.2.1,(bc 6).trans A.2.2.2.2.2.2.1,ci.trans A.2.2.2.2.2.2.2⟩ (fun A=>?_)
     clear bk bH bc ci
     simp only[Act.put,List.getElem_toArray,List.getElem_cons_zero,List.getElem_cons_succ,Oa1,List.set_cons_zero,List.set_cons_succ]
     refine tk 9 ?_ rfl A ?_ ?_
     rotate_left 1
     ·intro w bK;(try dsimp only at bK);go_simp;try rfl
     simp only[Act.put,List.getElem_toArray,List.getElem_cons_zero,List.getElem_cons_succ,Oa1,List.set_cons_zero,List.set_cons_succ]
     refine wpAnyH_done (by kernel_rfl) ?_ _
     have cF:Hid (bj.ownsRow H.heap.size 270 8 (.slice (some ⟨cM,0,none⟩) (k+1) cJ) (k+1) ((es.take (k+1)).flatMap (Jft w.heap.size))):=by
      show World.ownsRow _ _ _ _ _ _ _
      rw[Oi7,cG.out,Oe8]
      show World.ownsRow _ _ _ _ _ _ ((es.take k).flatMap (Jft w.heap.size)++(Jft w.heap.size p++[]))
      rw[Od7,cH.out]
      exact cv
     have cP:Below H.heap.size H bj:=Jy (Jb bb cc) bu fun g e=>(Je bi.out e).1
     clear A cv cO cV cy cb
     go_wp2
     go_roundw
     case rel=>exact⟨k+1,by omega,by go_num,cF,cP⟩
     case measure=>simp[intOf];omega
    obtain rfl:k=es.length:=by omega
    have cr:es.length≠0:=fun e=>bE.out.2.1 (Od3.1 e)
    obtain⟨Z,ba,bR⟩:∃ Z ba,u7=.slice (some ⟨Z,0,none⟩) es.length ba:=by
     obtain⟨_,⟨_,h2⟩|⟨Z,ba,bX,h1,_⟩⟩:=bi.out
     ·exact absurd h2 cr
     exact⟨Z,ba,h1⟩
    subst bR
    have X:Jxp wr H.heap.size w.heap.size (.slice (some ⟨Z,0,none⟩) es.length ba) es:=by
     have:=bi.out
     rwa [Oc8 (Oa2 _)]at this
    have cI:Hid (Jxp wr H.heap.size w.heap.size (.slice (some ⟨Z,0,none⟩) es.length ba) es):=X
    have c0:=(M.out.wk.below bb).cells.1
    have dz:E.length≤D.length:=by
     have:=congrArg List.length M.out.took
     rw[Oa6,Oc7]at this
     omega
    clear X cr
    go_wp2_with (at_builtin;go_must (refine Ul (by rfl) _ _ 262 268 _ 24 Jsw (by rfl) (by decide) (by kernel_rfl) (by rfl) w.heap.size _ _ (by rfl) (Jo.alloc (M.out.own.below bb) _) ⟨wr.heap.size,0,none⟩ 1 [.slice (some ⟨Z,0,none⟩) es.length ba] (by rfl) (by exact Ua wr _ _) (by intro u bh;simp at bh;subst bh;rfl) (by rw[Oa6];simp only[List.length_cons,List.length_nil];omega) (by simp;omega) ?_);intro ds bj h1 h2 cN;obtain⟨bW,c5,cA,_⟩:=h1.cells;obtain⟨bC,cl⟩:∃ bC,bC=(E.map stV++[Value.slice (some ⟨Z,0,none⟩) es.length ba]).length:=⟨_,rfl⟩;rw[←cl]at cA;subst cA;clear cl;have bT:=Kg0 M.out bb h2;have dJ:=bT.cells.1;have dL:=bT.thaw 0;have cE:Hid (Jw1 w kb (.slice bW bC c5) (E++[(Z,ba,es)]) D (j+1) (bj.setCell ⟨w.heap.size,0,none⟩ (.slice bW bC c5))):=Ket M.out cD.out bb cI.out h2 h1;clear h1 h2 cN bT)
    go_roundw
    case rel=>exact⟨j+1,_,_,by omega,by go_num,cE⟩
    case measure=>simp[intOf];omega
  obtain rfl:j=D.length:=by omega
  have R:=M
  go_wp2
  go_ret
  refine⟨R.out.below,rfl,bJ,R.out.wk,?_⟩
  have bS:=R.out.took
  rw[Oc8 (Oa2 _)]at bS
  have db:E.length=D.length:=by rw[←bS,Oa6]
  obtain⟨a,cap,bR,cf⟩:=Ji8 R.out.own
  have da:0<E.length:=by omega
  obtain⟨g,cQ,bM,_⟩:=cf 0 (stV E[0]) (by rw[Ob1,Oa3 da];rfl)
  subst cQ
  refine⟨g,cap,by rw[bR,Oa6,db],?_,(Je R.out.own bM).1,(Je R.out.own bM).2,fun k es bf=>?_⟩
  ·obtain⟨bX,bL⟩:=Ja4 R.out.own bM
   exact Jfc bL R.out.wk (by decide)
  have bx:k<E.length:=by have:=(Ob9.1 bf).1;omega
  have ch:E[k].2.2=es:=by
   have:=congrArg (·[k]?) bS
   simp only[Ob1,Oa3 bx,bf,Option.map_some]at this
   exact Oj6 this
  obtain⟨g2,bY,_,h2,_⟩:=cf k (stV E[k]) (by rw[Ob1,Oa3 bx];rfl)
  simp only[Oc9,Oh2,and_true]at bY
  subst bY
  have X:=R.out.steps E[k] (Ob3 bx)
  rw[show stV E[k]=Value.slice (some ⟨E[k].1,0,none⟩) es.length E[k].2.1 by rw[←ch]]at h2 X
  rw[ch]at X
  refine⟨E[k].1,E[k].2.1,(Je X rfl).1,(Je X rfl).2,h2,Jnn X ?_⟩
  obtain⟨bX,bL⟩:=Ja4 X rfl
  exact Jfc bL R.out.wk (by decide)
end Go.Proofs.YtdlgbphkaicfaaaGreatDoor
