/- Small functions of a run: options, the kinds of nodes. -/
import Derived.Test.YtdlgbphkaicfaaaGreatDoorXl
set_option maxHeartbeats 2000000
set_option maxRecDepth 100000
namespace Go.Proofs.YtdlgbphkaicfaaaGreatDoor
open Go.RowKit Go.Shelf Tryz
attribute [local go_sem] Oc0
theorem Jk5 (y D A:Int)(O:Value)(w:World)(h1:1≤y)(h2:y≤1000)(E:2≤D)(H:D≤1000)(K:0≤A)(M:A≤4096):Calls prog 33 #[.agg #[.int .i64 y,.int .i64 D,.int .i64 A,O]] w fun e w'=>e=.returned (.bool true)∧Below w.heap.size w w':=by
 have R:decide (1≤y)=true:=by simp[h1]
 have U:decide (y≤1000)=true:=by simp[h2]
 have X:decide (2≤D)=true:=by simp[E]
 have Z:decide (D≤1000)=true:=by simp[H]
 have ba:decide (0≤A)=true:=by simp[K]
 have bb:decide (A≤4096)=true:=by simp[M]
 go_enter func33,ntmps33
 go_wp2
 go_ret
 exact⟨rfl,Jc (Oa5 _ _) _⟩
abbrev Jd5 (b:Nat):Array Value:=#[.func (.func 70) #[.pointer (some ⟨b,0,none⟩)] #[],.func (.func 71) #[.pointer (some ⟨b,0,none⟩)] #[],.func (.func 72) #[.pointer (some ⟨b,0,none⟩)] #[],.func (.func 73) #[.pointer (some ⟨b,0,none⟩)] #[],.func (.func 74) #[.pointer (some ⟨b,0,none⟩)] #[],.func (.func 75) #[.pointer (some ⟨b,0,none⟩)] #[],.func (.func 76) #[.pointer (some ⟨b,0,none⟩)] #[],.func (.func 77) #[.pointer (some ⟨b,0,none⟩)] #[]]
theorem Juh (b:Nat)(w:World):Calls prog 53 #[.pointer (some ⟨b,0,none⟩)] w fun e w'=>e=.returned (.agg (Jd5 b))∧Below w.heap.size w w':=by
 have y:∀ (f:Nat) (a:Addr) (W:World),(store a (.func (.func f) #[.pointer (some ⟨b,0,none⟩)] #[])).run prog W=stored prog W a (.func (.func f) #[.pointer (some ⟨b,0,none⟩)] #[]) .plain:=fun f a W=>run_store _ _ _ _ _ rfl
 go_enter func53,ntmps53
 go_wp2
 exact bodyPost_ret (v:=.agg (Jd5 b)) (by simp[results,results53,go_sem]) rfl ⟨rfl,(by repeat (first|exact Oa5 _ _|refine Jc ?_ _|refine Jj ?_))⟩
theorem Jos (K s:Nat)(z:Int)(bf bc bl bh bk dn:Value)(op l r:Int)(tn:ByteArray)(xs ky:Value)(kk:Int)(w:World)(P:World→Value→Value→World→Prop)(U:Jck w K z bf bc bl (.pointer (some ⟨s,0,none⟩)) bh bk dn)
  (X:∀ A,Below w.heap.size w A→Calls prog 37 #[.pointer (some ⟨s,0,none⟩),.string tn] A fun e w'=>Below A.heap.size A w'∧∃ a b,e=.returned (.tuple #[a,b])∧P A a b w') :
  Calls prog 70 #[.pointer (some ⟨K,0,none⟩),.agg #[.int .i64 op,.int .i64 l,.int .i64 r,.string tn,xs,ky,.int .i64 kk]] w fun e w'=>Below w.heap.size w w'∧∃ A,Below w.heap.size w A∧∃ a b,e=.returned (.tuple #[a,b])∧P A a b w':=by
 obtain⟨_,c4,_,_,_⟩:=U.cells
 have E:Below w.heap.size w (w.alloc (.cells #[.int .i64 op,.int .i64 l,.int .i64 r,.string tn,xs,ky,.int .i64 kk] 47)).drew:=Jj (Jc (Oa5 _ _) _)
 have bi:=X _ E
 have M:Hid (Below w.heap.size w (w.alloc (.cells #[.int .i64 op,.int .i64 l,.int .i64 r,.string tn,xs,ky,.int .i64 kk] 47)).drew):=E
 have hn:=heap_alloc_new w (.cells #[.int .i64 op,.int .i64 l,.int .i64 r,.string tn,xs,ky,.int .i64 kk] 47)
 have bj:(w.alloc (.cells #[.int .i64 op,.int .i64 l,.int .i64 r,.string tn,xs,ky,.int .i64 kk] 47)).drew.cell? ⟨w.heap.size,3,none⟩=some (.string tn):=by unfold World.cell?;rw[heap_drew,hn];rfl
 clear U X E hn
 go_enter func70,ntmps70
 go_upto_region 1 with fail
 refine wp_region_held_drew (S:=fun A=>A.cell? ⟨K,4,none⟩=some (.pointer (some ⟨s,0,none⟩))∧A.cell? ⟨w.heap.size,3,none⟩=some (.string tn)) (by kernel_rfl) ⟨Jh (Kf c4),bj⟩ (fun y=>?_)
 refine tk 0 ?_ rfl y ?_ (tk 1 ?_ rfl y ?_ (tk 2 ?_ rfl y ?_ (tk 3 ?_ rfl y ?_ (tk 4 ?_ rfl y ?_ (tk 5 ?_ rfl y ?_ ?_)))))
 iterate 6
  rotate_left 1
  ·intro w D;(try dsimp only at D);go_simp;try rfl
 simp only[Act.put,List.getElem_toArray,List.getElem_cons_zero,List.getElem_cons_succ,Oa1,List.set_cons_zero,List.set_cons_succ]
 refine wpAnyH_ready (rs:=[6]) (by kernel_rfl) (by simp) (AllReadyH.cons rfl (fun ba O=>?_) AllReadyH.nil)
 go_simp
 refine bi.mono ?_
 rintro e bb ⟨H,a,b,rfl,R⟩
 have Z:Hid (P (w.alloc (.cells #[.int .i64 op,.int .i64 l,.int .i64 r,.string tn,xs,ky,.int .i64 kk] 47)).drew a b bb):=R
 clear R
 go_simp
 refine O.out _ _ ⟨Ja H y.1,Ja H y.2⟩ (fun y=>?_)
 clear O ba
 refine tk 7 ?_ rfl y ?_ (tk 8 ?_ rfl y ?_ (tk 9 ?_ rfl y ?_ (tk 10 ?_ rfl y ?_ ?_)))
 iterate 4
  rotate_left 1
  ·intro w D;(try dsimp only at D);go_simp;try rfl
 simp only[Act.put,List.getElem_toArray,List.getElem_cons_zero,List.getElem_cons_succ,Oa1,List.set_cons_zero,List.set_cons_succ]
 refine wpAnyH_done (by kernel_rfl) ?_ _
 go_wp2_with fail
 exact bodyPost_ret (v:=.tuple #[a,b]) (by simp[results,results70,go_sem]) rfl ⟨Jb M.out H,_,M.out,a,b,rfl,Z.out⟩
attribute [local go_sem] Oc0
structure Nd where
 op:Int
 l:Int
 r:Int
 tn:ByteArray
 xs:Option Addr×Nat×Nat
 ky:Option Addr×Nat×Nat
 kk:Int
abbrev Nd.val (p:Nd):Value:=.agg #[.int .i64 p.op,.int .i64 p.l,.int .i64 p.r,.string p.tn,.slice p.xs.1 p.xs.2.1 p.xs.2.2,.slice p.ky.1 p.ky.2.1 p.ky.2.2,.int .i64 p.kk]
def Zm (w:World)(g o:Nat)(p:Nd):Prop:=
 w.cell? ⟨g,o,none⟩=some (.int .i64 p.op)∧w.cell? ⟨g,o+1,none⟩=some (.int .i64 p.l)∧w.cell? ⟨g,o+2,none⟩=some (.int .i64 p.r)∧w.cell? ⟨g,o+3,none⟩=some (.string p.tn)∧w.cell? ⟨g,o+4,none⟩=some (.slice p.xs.1 p.xs.2.1 p.xs.2.2)∧w.cell? ⟨g,o+5,none⟩=some (.slice p.ky.1 p.ky.2.1 p.ky.2.2)∧w.cell? ⟨g,o+6,none⟩=some (.int .i64 p.kk)
theorem Zm.below {w w':World}{g o:Nat}{p:Nd}(h:Zm w g o p)(y:Below w.heap.size w w'):Zm w' g o p:=
 ⟨Ja y h.1,Ja y h.2.1,Ja y h.2.2.1,Ja y h.2.2.2.1,Ja y h.2.2.2.2.1,Ja y h.2.2.2.2.2.1,Ja y h.2.2.2.2.2.2⟩
def Jej (op:Int):Nat:=if op=0 then 70 else if op=1 then 71 else if op=2 then 72 else if op=3 then 73 else if op=4 then 74 else if op=5 then 75 else if op=6 then 76 else 77
theorem Js3 (op:Int)(args:Array Value)(W:World):(callFunc (Jej op) args).run prog W=.ok (.enter (Jej op) args) W:=by
 unfold Jej
 repeat (split;(first|kernel_rfl|skip))
 kernel_rfl
theorem Jy7 (b:Nat)(k:Nat)(y:k<8):(Jd5 b)[k]?=some (.func (.func (Jej (k:Int))) #[.pointer (some ⟨b,0,none⟩)] #[]):=by
 match k,y with
 |0,_=>rfl
 |1,_=>rfl
 |2,_=>rfl
 |3,_=>rfl
 |4,_=>rfl
 |5,_=>rfl
 |6,_=>rfl
 |7,_=>rfl
 |k+8,h=>omega
def Jbu (b:Nat)(p:Nd):List Value:=[.int .i64 p.op,.int .i64 p.l,.int .i64 p.r,.string p.tn,.slice p.xs.1 p.xs.2.1 p.xs.2.2,.slice p.ky.1 p.ky.2.1 p.ky.2.2,.int .i64 p.kk,.func (.func (Jej p.op)) #[.pointer (some ⟨b,0,none⟩)] #[]]
theorem Jvj:(prog.info? 104).map (fun i=>(i.zero,i.size,i.bytes))=some (some (.agg #[.int .i64 0,.int .i64 0,.int .i64 0,.string ⟨#[]⟩,.slice none 0 0,.slice none 0 0,.int .i64 0,.nilFunc]),8,104):=by kernel_rfl
theorem Jxb (A O no Z:Nat)(E:List Nd)(w:World)(bA:∀ j p,E[j]?=some p→Zm w O (no+j*7) p)(bL:∀ p∈E,0≤p.op∧p.op≤7)(cC:E.length≤1000) :
  Calls prog 34 #[.pointer (some ⟨A,0,none⟩),.agg #[.slice (some ⟨O,no,none⟩) E.length Z]] w fun e w'=>Below w.heap.size w w'∧∃ sv,e=.returned sv∧w'.ownsRow w.heap.size 104 8 sv E.length (E.flatMap (Jbu A)):=by
 have bz:Hid ((∀ j p,E[j]?=some p→Zm w O (no+j*7) p)∧∀ p∈E,0≤p.op∧p.op≤7):=⟨bA,bL⟩
 clear bA bL
 have cD:∀ (f:Nat) (a:Addr) (H:World),(store a (.func (.func f) #[.pointer (some ⟨A,0,none⟩)] #[])).run prog H=stored prog H a (.func (.func f) #[.pointer (some ⟨A,0,none⟩)] #[]) .plain:=fun f a H=>run_store _ _ _ _ _ rfl
 have bI:=Juh A (w.alloc (.cells #[.slice (some ⟨O,no,none⟩) E.length Z] 51))
 have bN:=heap_alloc_new w (.cells #[.slice (some ⟨O,no,none⟩) E.length Z] 51)
 have bB:Below w.heap.size w (w.alloc (.cells #[.slice (some ⟨O,no,none⟩) E.length Z] 51)):=Jc (Oa5 _ _) _
 have bh:Hid (Below w.heap.size w (w.alloc (.cells #[.slice (some ⟨O,no,none⟩) E.length Z] 51))∧(w.alloc (.cells #[.slice (some ⟨O,no,none⟩) E.length Z] 51)).heap[w.heap.size]?=some (.cells #[.slice (some ⟨O,no,none⟩) E.length Z] 51 (0,0))):=⟨bB,bN⟩
 clear bN bB
 go_enter func34,ntmps34
 go_upto_region 2 with(go_at_call 53;refine bI.mono ?_;rintro e M ⟨rfl,bx⟩)
 have K:Below M.heap.size M (M.alloc (.cells (Jd5 A) 144)):=Jc (Oa5 _ _) _
 have bf:=heap_alloc_new M (.cells (Jd5 A) 144)
 have bE:=Jb bh.out.1 (Jb bx K)
 have bO:=(Jb bx K).block _ (Jd bh.out.2) |>.trans bh.out.2
 have U:Hid ((M.alloc (.cells (Jd5 A) 144)).heap[M.heap.size]?=some (.cells (Jd5 A) 144 (0,0))∧Below w.heap.size w (M.alloc (.cells (Jd5 A) 144))):=⟨bf,bE⟩
 have bP:(M.alloc (.cells (Jd5 A) 144)).cell? ⟨w.heap.size,0,none⟩=some (.slice (some ⟨O,no,none⟩) E.length Z):=by simp only[World.cell?,bO];rfl
 clear bI bx K bf bE bO bh
 obtain⟨kb,bf⟩:∃ kb,kb=M.heap.size:=⟨_,rfl⟩
 rw[←bf]at U ⊢
 clear bf
 generalize M.alloc (.cells (Jd5 A) 144)=R at U bP ⊢
 go_wp2
 go_loopw [6,14] (fun s i wr=>∃ k:Nat,k≤E.length∧i=.int .i64 (k:Int)∧Hid (wr.ownsRow R.heap.size 104 8 s k ((E.take k).flatMap (Jbu A)))∧Below R.heap.size R wr) (fun _ i _=>E.length-(intOf i).toNat)
 case atStart=>exact⟨0,Ob7 _,rfl,⟨rfl,.inl ⟨rfl,rfl⟩⟩,Oa5 _ _⟩
 case round=>
  obtain⟨k,cA,rfl,ba,bc⟩:=hrel
  have cE:=bc.size
  clear bP
  by_cases cc:k<E.length
  ·obtain⟨p,bl⟩:∃ p,E[k]?=some p:=⟨_,Oa3 cc⟩
   obtain⟨bQ,cr,cu,cv,cx,cy,cz⟩:=(bz.out.1 k p bl).below (Jb U.out.2 bc)
   have ch:=bz.out.2 p (Of6 bl)
   obtain⟨y,bk⟩:∃ y:Nat,p.op=(y:Int):=⟨p.op.toNat,by omega⟩
   have cf:y<8:=by omega
   have bH:wr.cell? ⟨kb,y,none⟩=some (.func (.func (Jej p.op)) #[.pointer (some ⟨A,0,none⟩)] #[]):=by
    have bZ:=(bc.block _ (Jd U.out.1)).trans U.out.1
    have:=Jy7 A y cf
    rw[←bk]at this
    rw[←this]
    simp only[World.cell?,bZ]
    rfl
   obtain⟨f,hf⟩:∃ f,f=Jej p.op:=⟨_,rfl⟩
   have bT:Hid (Jbu A p=[.int .i64 (y:Int),.int .i64 p.l,.int .i64 p.r,.string p.tn,.slice p.xs.1 p.xs.2.1 p.xs.2.2,.slice p.ky.1 p.ky.2.1 p.ky.2.2,.int .i64 p.kk,.func (.func f) #[.pointer (some ⟨A,0,none⟩)] #[]]):=by
    show _=_
    unfold Jbu
    rw[hf,bk]
   rw[←hf]at bH
   rw[bk]at bQ
   have bS:Hid (E[k]?=some p):=bl
   have cF:(0:Int)≤(k:Int):=by omega
   have cG:(k:Int)<(E.length:Int):=by omega
   have cH:(0:Int)≤(y:Int):=by omega
   have cI:(y:Int)<8:=by omega
   clear hf bk bl ch
   go_upto_region 6 with fail
   have bJ:=heap_alloc_new wr (.cells #[.int .i64 (y:Int),.int .i64 p.l,.int .i64 p.r,.string p.tn,.slice p.xs.1 p.xs.2.1 p.xs.2.2,.slice p.ky.1 p.ky.2.1 p.ky.2.2,.int .i64 p.kk] 47)
   have ca:(wr.alloc (.cells #[.int .i64 (y:Int),.int .i64 p.l,.int .i64 p.r,.string p.tn,.slice p.xs.1 p.xs.2.1 p.xs.2.2,.slice p.ky.1 p.ky.2.1 p.ky.2.2,.int .i64 p.kk] 47)).drew.cell? ⟨kb,y,none⟩=some (.func (.func f) #[.pointer (some ⟨A,0,none⟩)] #[]):=Jh (Kf bH)
   obtain⟨cn,bY,ci,cj,cl⟩:=info_parts Jvj
   refine wp_region_held_drew (S:=fun H=>H.cell? ⟨wr.heap.size,0,none⟩=some (.int .i64 (y:Int))∧H.cell? ⟨wr.heap.size,1,none⟩=some (.int .i64 p.l)∧H.cell? ⟨wr.heap.size,2,none⟩=some (.int .i64 p.r)∧H.cell? ⟨wr.heap.size,3,none⟩=some (.string p.tn)∧H.cell? ⟨wr.heap.size,4,none⟩=some (.slice p.xs.1 p.xs.2.1 p.xs.2.2)∧H.cell? ⟨wr.heap.size,5,none⟩=some (.slice p.ky.1 p.ky.2.1 p.ky.2.2)∧H.cell? ⟨wr.heap.size,6,none⟩=some (.int .i64 p.kk)∧H.cell? ⟨kb,y,none⟩=some (.func (.func f) #[.pointer (some ⟨A,0,none⟩)] #[])) (by kernel_rfl) (by refine⟨?_,?_,?_,?_,?_,?_,?_,ca⟩<;>(unfold World.cell?;rw[heap_drew,bJ];rfl)) (fun D=>?_)
   refine tk 0 ?_ rfl D ?_ (tk 1 ?_ rfl D ?_ (tk 2 ?_ rfl D ?_ (tk 3 ?_ rfl D ?_ (tk 4 ?_ rfl D ?_ (tk 5 ?_ rfl D ?_ (tk 6 ?_ rfl D ?_ ?_))))))
   iterate 7
    rotate_left 1
    ·intro w bu;(try dsimp only at bu);go_simp;try rfl
   simp only[Act.put,List.getElem_toArray,List.getElem_cons_zero,List.getElem_cons_succ,Oa1,List.set_cons_zero,List.set_cons_succ]
   clear bJ bQ cr cu cv cx cy cz
   refine wpAnyH_ready (rs:=[7]) (by kernel_rfl) (by simp) (AllReadyH.cons rfl (fun br bb=>?_) AllReadyH.nil)
   go_simp
   have K:Below (wr.alloc (.cells #[.int .i64 (y:Int),.int .i64 p.l,.int .i64 p.r,.string p.tn,.slice p.xs.1 p.xs.2.1 p.xs.2.2,.slice p.ky.1 p.ky.2.1 p.ky.2.2,.int .i64 p.kk] 47)).drew.heap.size (wr.alloc (.cells #[.int .i64 (y:Int),.int .i64 p.l,.int .i64 p.r,.string p.tn,.slice p.xs.1 p.xs.2.1 p.xs.2.2,.slice p.ky.1 p.ky.2.1 p.ky.2.2,.int .i64 p.kk] 47)).drew (((wr.alloc (.cells #[.int .i64 (y:Int),.int .i64 p.l,.int .i64 p.r,.string p.tn,.slice p.xs.1 p.xs.2.1 p.xs.2.2,.slice p.ky.1 p.ky.2.1 p.ky.2.2,.int .i64 p.kk] 47)).alloc (.cells #[.int .i64 (y:Int),.int .i64 p.l,.int .i64 p.r,.string p.tn,.slice p.xs.1 p.xs.2.1 p.xs.2.2,.slice p.ky.1 p.ky.2.1 p.ky.2.2,.int .i64 p.kk,.func (.func f) #[.pointer (some ⟨A,0,none⟩)] #[]] 104)).drew):=by
    have:=Jc (Oa5 _ (wr.alloc (.cells #[.int .i64 (y:Int),.int .i64 p.l,.int .i64 p.r,.string p.tn,.slice p.xs.1 p.xs.2.1 p.xs.2.2,.slice p.ky.1 p.ky.2.1 p.ky.2.2,.int .i64 p.kk] 47))) (.cells #[.int .i64 (y:Int),.int .i64 p.l,.int .i64 p.r,.string p.tn,.slice p.xs.1 p.xs.2.1 p.xs.2.2,.slice p.ky.1 p.ky.2.1 p.ky.2.2,.int .i64 p.kk,.func (.func f) #[.pointer (some ⟨A,0,none⟩)] #[]] 104)
    exact⟨this.os,this.tape,this.output,this.size,this.block⟩
   refine bb.out _ _ ⟨Ja K D.1,Ja K D.2.1,Ja K D.2.2.1,Ja K D.2.2.2.1,Ja K D.2.2.2.2.1,Ja K D.2.2.2.2.2.1,Ja K D.2.2.2.2.2.2.1,Ja K D.2.2.2.2.2.2.2⟩ (fun D=>?_)
   clear bb br
   refine wpAnyH_ready (rs:=[8]) (by kernel_rfl) (by simp) (AllReadyH.cons rfl (fun br bb=>?_) AllReadyH.nil)
   have bD:Below wr.heap.size wr (((wr.alloc (.cells #[.int .i64 (y:Int),.int .i64 p.l,.int .i64 p.r,.string p.tn,.slice p.xs.1 p.xs.2.1 p.xs.2.2,.slice p.ky.1 p.ky.2.1 p.ky.2.2,.int .i64 p.kk] 47)).alloc (.cells #[.int .i64 (y:Int),.int .i64 p.l,.int .i64 p.r,.string p.tn,.slice p.xs.1 p.xs.2.1 p.xs.2.2,.slice p.ky.1 p.ky.2.1 p.ky.2.2,.int .i64 p.kk,.func (.func f) #[.pointer (some ⟨A,0,none⟩)] #[]] 104)).drew):=Jj (Jc (Jc (Oa5 _ _) _) _)
   have bM:(((wr.alloc (.cells #[.int .i64 (y:Int),.int .i64 p.l,.int .i64 p.r,.string p.tn,.slice p.xs.1 p.xs.2.1 p.xs.2.2,.slice p.ky.1 p.ky.2.1 p.ky.2.2,.int .i64 p.kk] 47)).alloc (.cells #[.int .i64 (y:Int),.int .i64 p.l,.int .i64 p.r,.string p.tn,.slice p.xs.1 p.xs.2.1 p.xs.2.2,.slice p.ky.1 p.ky.2.1 p.ky.2.2,.int .i64 p.kk,.func (.func f) #[.pointer (some ⟨A,0,none⟩)] #[]] 104)).drew).ownsRow R.heap.size 104 8 u6 k ((E.take k).flatMap (Jbu A)):=Jaw ba.out bD
   have bC:(((wr.alloc (.cells #[.int .i64 (y:Int),.int .i64 p.l,.int .i64 p.r,.string p.tn,.slice p.xs.1 p.xs.2.1 p.xs.2.2,.slice p.ky.1 p.ky.2.1 p.ky.2.2,.int .i64 p.kk] 47)).alloc (.cells #[.int .i64 (y:Int),.int .i64 p.l,.int .i64 p.r,.string p.tn,.slice p.xs.1 p.xs.2.1 p.xs.2.2,.slice p.ky.1 p.ky.2.1 p.ky.2.2,.int .i64 p.kk,.func (.func f) #[.pointer (some ⟨A,0,none⟩)] #[]] 104)).drew).heap[wr.heap.size+1]?=some (.cells #[.int .i64 (y:Int),.int .i64 p.l,.int .i64 p.r,.string p.tn,.slice p.xs.1 p.xs.2.1 p.xs.2.2,.slice p.ky.1 p.ky.2.1 p.ky.2.2,.int .i64 p.kk,.func (.func f) #[.pointer (some ⟨A,0,none⟩)] #[]] 104 (0,0)):=by
    have:=heap_alloc_new (wr.alloc (.cells #[.int .i64 (y:Int),.int .i64 p.l,.int .i64 p.r,.string p.tn,.slice p.xs.1 p.xs.2.1 p.xs.2.2,.slice p.ky.1 p.ky.2.1 p.ky.2.2,.int .i64 p.kk] 47)) (.cells #[.int .i64 (y:Int),.int .i64 p.l,.int .i64 p.r,.string p.tn,.slice p.xs.1 p.xs.2.1 p.xs.2.2,.slice p.ky.1 p.ky.2.1 p.ky.2.2,.int .i64 p.kk,.func (.func f) #[.pointer (some ⟨A,0,none⟩)] #[]] 104)
    rw[Oa7]at this
    exact this
   refine step_append_lies (((wr.alloc (.cells #[.int .i64 (y:Int),.int .i64 p.l,.int .i64 p.r,.string p.tn,.slice p.xs.1 p.xs.2.1 p.xs.2.2,.slice p.ky.1 p.ky.2.1 p.ky.2.2,.int .i64 p.kk] 47)).alloc (.cells #[.int .i64 (y:Int),.int .i64 p.l,.int .i64 p.r,.string p.tn,.slice p.xs.1 p.xs.2.1 p.xs.2.2,.slice p.ky.1 p.ky.2.1 p.ky.2.2,.int .i64 p.kk,.func (.func f) #[.pointer (some ⟨A,0,none⟩)] #[]] 104)).drew) rfl (.tmp 18) (.tmp 25) 100 rfl R.heap.size 104 cn (.agg #[.int .i64 0,.int .i64 0,.int .i64 0,.string ⟨#[]⟩,.slice none 0 0,.slice none 0 0,.int .i64 0,.nilFunc]) 8 104 underlying100 bY ci cj cl rfl (by decide) u6 k ((E.take k).flatMap (Jbu A)) rfl bM ⟨wr.heap.size+1,0,none⟩ 1 1 [.int .i64 (y:Int),.int .i64 p.l,.int .i64 p.r,.string p.tn,.slice p.xs.1 p.xs.2.1 p.xs.2.2,.slice p.ky.1 p.ky.2.1 p.ky.2.2,.int .i64 p.kk,.func (.func f) #[.pointer (some ⟨A,0,none⟩)] #[]] rfl rfl (fun j u bn=>World.news_of_block bC j u (by simpa using bn)) (fun u bn=>by simp at bn;rcases bn with rfl|rfl|rfl|rfl|rfl|rfl|rfl|rfl<;>rfl) (by decide) (by unfold maxLen;omega) (by omega) (by rw[heap_drew,Oa7,Oa7];omega) (wr.heap.size+2) (by rw[heap_drew,Oa7,Oa7]) (fun bV bU bi bK bj bW cb=>?_)
   have cJ:=bj.size
   have cB:kb<R.heap.size:=Jd U.out.1
   have X:∀ o:Nat,bi.cell? ⟨wr.heap.size,o,none⟩=(((wr.alloc (.cells #[.int .i64 (y:Int),.int .i64 p.l,.int .i64 p.r,.string p.tn,.slice p.xs.1 p.xs.2.1 p.xs.2.2,.slice p.ky.1 p.ky.2.1 p.ky.2.2,.int .i64 p.kk] 47)).alloc (.cells #[.int .i64 (y:Int),.int .i64 p.l,.int .i64 p.r,.string p.tn,.slice p.xs.1 p.xs.2.1 p.xs.2.2,.slice p.ky.1 p.ky.2.1 p.ky.2.2,.int .i64 p.kk,.func (.func f) #[.pointer (some ⟨A,0,none⟩)] #[]] 104)).drew).cell? ⟨wr.heap.size,o,none⟩:=fun o=>by simp only[World.cell?,bj.block wr.heap.size (Jm D.1) (fun e=>by have:=Je ba.out e.symm;omega)]
   have bG:bi.cell? ⟨kb,y,none⟩=(((wr.alloc (.cells #[.int .i64 (y:Int),.int .i64 p.l,.int .i64 p.r,.string p.tn,.slice p.xs.1 p.xs.2.1 p.xs.2.2,.slice p.ky.1 p.ky.2.1 p.ky.2.2,.int .i64 p.kk] 47)).alloc (.cells #[.int .i64 (y:Int),.int .i64 p.l,.int .i64 p.r,.string p.tn,.slice p.xs.1 p.xs.2.1 p.xs.2.2,.slice p.ky.1 p.ky.2.1 p.ky.2.2,.int .i64 p.kk,.func (.func f) #[.pointer (some ⟨A,0,none⟩)] #[]] 104)).drew).cell? ⟨kb,y,none⟩:=by simp only[World.cell?,bj.block kb (by rw[heap_drew,Oa7,Oa7];omega) (fun e=>by have:=Je ba.out e.symm;omega)]
   refine bb.out _ _ ⟨(X 0).trans D.1,(X 1).trans D.2.1,(X 2).trans D.2.2.1,(X 3).trans D.2.2.2.1,(X 4).trans D.2.2.2.2.1,(X 5).trans D.2.2.2.2.2.1,(X 6).trans D.2.2.2.2.2.2.1,bG.trans D.2.2.2.2.2.2.2⟩ (fun D=>?_)
   clear bb br X bG
   simp only[Act.put,List.getElem_toArray,List.getElem_cons_zero,List.getElem_cons_succ,Oa1,List.set_cons_zero,List.set_cons_succ]
   refine tk 9 ?_ rfl D ?_ ?_
   rotate_left 1
   ·intro w bu;(try dsimp only at bu);go_simp;try rfl
   simp only[Act.put,List.getElem_toArray,List.getElem_cons_zero,List.getElem_cons_succ,Oa1,List.set_cons_zero,List.set_cons_succ]
   refine wpAnyH_done (by kernel_rfl) ?_ _
   have bR:Hid (bi.ownsRow R.heap.size 104 8 (.slice (some ⟨bV,0,none⟩) (k+1) bU) (k+1) ((E.take (k+1)).flatMap (Jbu A))):=by
    show World.ownsRow _ _ _ _ _ _ _
    rw[Oi7,bS.out,Oe8]
    show World.ownsRow _ _ _ _ _ _ ((E.take k).flatMap (Jbu A)++(Jbu A p++[]))
    rw[Od7,bT.out]
    exact bK
   have bX:Below R.heap.size R bi:=Jy (Jb bc bD) bj fun g e=>(Je ba.out e).1
   clear D bK bW cb bM bC
   go_wp2
   go_roundw
   case rel=>exact⟨k+1,by omega,by go_num,bR,bX⟩
   case measure=>simp[intOf];omega
  obtain rfl:k=E.length:=by omega
  go_wp2
  go_ret
  have:=ba.out
  rw[Oc8 (Oa2 _)]at this
  exact⟨Jb U.out.2 bc,_,rfl,Jgl this U.out.2.size⟩
end Go.Proofs.YtdlgbphkaicfaaaGreatDoor
namespace Go.Proofs.YtdlgbphkaicfaaaGreatDoor
open Go.RowKit Go.Shelf
attribute [local go_sem] Oc0
def Yf (e:List Pt)(cols:List (List V))(N:Nat):List Nat:=(List.range N).filter fun i=>decide ((pv1 e (Ji cols i)).n=1)
attribute [local go_sem] Oc0
end Go.Proofs.YtdlgbphkaicfaaaGreatDoor
