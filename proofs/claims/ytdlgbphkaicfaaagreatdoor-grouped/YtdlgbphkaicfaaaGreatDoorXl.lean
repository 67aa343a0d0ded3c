/- Project. -/
import Derived.Test.YtdlgbphkaicfaaaGreatDoorXk
import Derived.Test.YtdlgbphkaicfaaaGreatDoorTj
set_option maxHeartbeats 2000000
set_option maxRecDepth 100000
namespace Go.Proofs.YtdlgbphkaicfaaaGreatDoor
open Go.RowKit Go.Shelf Tryz
attribute [local go_sem] Oc0
theorem Jur (w:World)(y A D:Obj)(W:World)(hW:((w.alloc y).alloc A).alloc D=W):W.heap.size=w.heap.size+3∧W.heap[w.heap.size]?=some y∧W.heap[w.heap.size+1]?=some A∧W.heap[w.heap.size+2]?=some D∧Below w.heap.size w W:=by
 subst hW
 have K:=heap_alloc_new w y
 have E:=heap_alloc_new (w.alloc y) A
 have H:=heap_alloc_new ((w.alloc y).alloc A) D
 have M:(w.alloc y).heap.size=w.heap.size+1:=by simp
 have O:((w.alloc y).alloc A).heap.size=w.heap.size+2:=by simp
 rw[M]at E
 rw[O]at H
 exact⟨by simp,by rw[Oa9 _ _ _ (by omega),Oa9 _ _ _ (by omega)];exact K,by rw[Oa9 _ _ _ (by omega)];exact E,H,Jc (Jc (Jc (Oa5 _ _) _) _) _⟩
theorem Jmn {hs:List (Option Addr×Nat)}{k f t j b o y A:Nat}(H:j<k)(E:(Yo hs j).1=some ⟨y,A,none⟩)(h:(Yo (Jnt hs k f t) j).1=some ⟨b,o,none⟩):b=y:=by
 have D:Yo (Jnt hs k f t) j=(Jkl (Yo hs j).1 f t,t-f):=by simp[Yo,Jnt,H]
 rw[D,E]at h
 simp only at h
 unfold Jkl at h
 split at h
 ·simp only[Oc9,Oh2]at h
  exact h.1.symm
 rw[Option.map_some,Op7]at h
 simp only[Oc9,Oh2]at h
 exact h.1.symm
theorem Jjk.ok {D:Nat}{H Z:Addr}{b:Nat}{ex:Value}{cols:List (List V)}{first N:Nat}{A:List (List Pt)}{w w':World}{e:Ending}(h:Jjk D H Z b ex cols first N A w e w')(X:∀ i,i<N→Kr A (Ji cols i)=0) :
  ∃ (sv:Value) (y:List (Option Addr×Nat×List V)),e=.returned (.tuple #[sv,.nilIface])∧Ju (·=b) w w'∧(∃ (E:Value) (f n:Int) (ba K:Value),Uz w' b ex E f n ba K)∧Jo w' w.heap.size 54 sv (y.map slV)∧y.length=A.length∧(∀ q∈y,Jv w' q.1 q.2.2∧q.2.2.length=N)∧(∀ q∈y,∀ g o,q.1=some ⟨g,o,none⟩→g≠b∧g<w'.heap.size∧(g<D∨w.heap.size≤g))∧∀ i,i<N→∀ k e,A[k]?=some e→Kl e (Ji cols i)=.inl (((y.map (·.2.2)).getD k []).getD i Jf):=by
 obtain⟨h1,h2,⟨sv,y,M,O⟩|⟨bb,kk,m,U,_,_,R,_⟩⟩:=h
 ·exact⟨sv,y,M,h1,h2,O⟩
 exact absurd (X m U) R
theorem Jux {y:List (List Pt)}{x:List V}(h:∀ e∈y,∃ v,Kl e x=.inl v):Kr y x=0:=by
 have:=Jiy [] h
 rw[Od7]at this
 exact this
theorem Jjk.bad {M:Nat}{D K:Addr}{b:Nat}{ex:Value}{cols:List (List V)}{first N:Nat}{A:List (List Pt)}{w w':World}{e:Ending}(h:Jjk M D K b ex cols first N A w e w')(R:¬ ∀ i,i<N→Kr A (Ji cols i)=0) :
  ∃ y kk m:Nat,e=.returned (.tuple #[.slice none 0 0,Qv y])∧Ju (·=b) w w'∧m<N∧w.heap.size≤y∧Kr A (Ji cols m)≠0∧Ja8 w' y ((first+m:Nat):Int) kk (Jdb D K (Kr A (Ji cols m)))∧∀ i,i<m→∀ e∈A,∃ v,Kl e (Ji cols i)=.inl v:=by
 obtain⟨h1,h2,⟨sv,bf,E,H,ba,bb,bc,O⟩|⟨y,kk,m,Z,E,H⟩⟩:=h
 ·exact absurd (fun i hi=>Jux fun e U=>by
   obtain⟨k,X⟩:=Ok2.1 U
   exact⟨_,O i hi k e X⟩) R
 exact⟨y,kk,m,E,h1,Z,H⟩
def Kde (D l:Nat)(H K:Addr)(y:List (List Pt))(cols:List (List V))(N:Nat)(w:World):Ending→World→Prop:=fun e w'=>
 Ju (·=D) w w' ∧
 ((∃ (A:Nat) (M:List Value),e=.returned (.tuple #[.slice (some ⟨A,0,none⟩) y.length y.length,.nilIface])∧w.heap.size≤A∧Jar w' A A M (y.map fun e=>(List.range N).map fun i=>pv1 e (Ji cols i))∧(∀ i,i<N→∀ e∈y,∃ v,Kl e (Ji cols i)=.inl v)∧w'.heap[D]?=Jdc w D l) ∨
  (∃ E kk r:Nat,e=.returned (.tuple #[.slice none 0 0,Qv E])∧r<N∧w.heap.size≤E∧Kr y (Ji cols r)≠0∧Ja8 w' E (r:Int) kk (Jdb H K (Kr y (Ji cols r)))∧∀ i,i<r→∀ e∈y,∃ v,Kl e (Ji cols i)=.inl v))
theorem Jp8 (br A k dD l:Nat)(z:Nat)(dC dB fm fo dE fl:Value)(op r:Int)(tn:ByteArray)(ky:Value)(kk:Int)(bI eo bR:Nat)(y:List (List Pt))(g cap:Nat)(hs:List (Option Addr×Nat))(cols:List (List V))(N:Nat)(w:World)(cA cH:Addr)
  (bJ:Jck w br z dC dB fm fo dE fl (.slice (some ⟨A,0,none⟩) k dD)) (cS:l<k) (bU:w.cell? ⟨A,l,none⟩=some (.slice (some ⟨g,0,none⟩) cols.length cap)) (fI:w.frozen? ⟨A,l,none⟩=false) (ds:br≠A)
  (ft:Jaz w bI eo y) (fN:Jga cols.length y) (gB:1≤y.length) (dj:y.length≤1000) (dv:1≤z) (gN:z≤100000)
  (fs:Qd w g hs cols) (fS:1≤cols.length) (gI:cols.length≤1000) (fE:∀ j,j<cols.length→(cols.getD j []).length=N) (gt:N≤100000) (fL:∀ i,i<N→∀ v∈Ji cols i,Jg v.n) (fJ:Jbo g hs cols.length (fun b=>b≠A)) (fK:Jbo g hs cols.length (fun b=>b<w.heap.size)) (fv:Jdo w cA cH) (fu:A≠10∧A≠11) :
  Calls prog 72 #[.pointer (some ⟨br,0,none⟩),.agg #[.int .i64 op,.int .i64 (l:Int),.int .i64 r,.string tn,.slice (some ⟨bI,eo,none⟩) y.length bR,ky,.int .i64 kk]] w (Kde A l cA cH y cols N w):=by
 have cC:A<w.heap.size:=by have:=Jm bU;exact this
 have cv:Hid (Jck w br z dC dB fm fo dE fl (.slice (some ⟨A,0,none⟩) k dD)∧l<k∧w.cell? ⟨A,l,none⟩=some (.slice (some ⟨g,0,none⟩) cols.length cap)∧w.frozen? ⟨A,l,none⟩=false∧br≠A):=⟨bJ,cS,bU,fI,ds⟩
 have dA:Hid (Jaz w bI eo y∧Jga cols.length y):=⟨ft,fN⟩
 have bk:Hid (Qd w g hs cols∧(∀ j,j<cols.length→(cols.getD j []).length=N)∧(∀ i,i<N→∀ v∈Ji cols i,Jg v.n)∧Jbo g hs cols.length (fun b=>b≠A)∧Jbo g hs cols.length (fun b=>b<w.heap.size)):=⟨fs,fE,fL,fJ,fK⟩
 have cu:Hid (Jdo w cA cH∧A≠10∧A≠11):=⟨fv,fu⟩
 clear bJ cS bU fI ds ft fN fs fE fL fJ fK fv fu
 refine(callsIn_wide (n:=3)).1 ?_
 refine callsIn_of_wp_marks func72 rfl trivial ?_ rfl
 simp only[ntmps72,Om3,List.length_cons,List.length_nil,Nat.reduceAdd,Nat.reduceSub,Ok9,Array.replicate_zero,Om4,Ol2,List.nil_append,List.cons_append]
 refine wpIn_wide.2 ?_
 go_upto_region 1 with fail
 generalize fx:((w.alloc (.cells #[.int .i64 op,.int .i64 (l:Int),.int .i64 r,.string tn,.slice (some ⟨bI,eo,none⟩) y.length bR,ky,.int .i64 kk] 47)).alloc _).alloc _=dd
 obtain⟨dY,cK,cb,bN,dN⟩:=Jur w _ _ _ dd fx
 clear fx
 have dJ:=Jsm bI eo bR cols.length y dd (dA.out.1.below dN) dA.out.2 dj gB
 rw[dY]at dJ
 have gT:dd.cell? ⟨w.heap.size,4,none⟩=some (.slice (some ⟨bI,eo,none⟩) y.length bR):=by simp[World.cell?,cK]
 go_upto_region 2 with(go_at_call 104;refine dJ.mono ?_;rintro e E ⟨bO,rfl,ex,cG,fG⟩)
 have bn:Below E.heap.size E (E.alloc (.cells #[.pointer (some ⟨w.heap.size+3,0,none⟩)] 212)):=Jc (Oa5 _ _) _
 have cM:=heap_alloc_new E (.cells #[.pointer (some ⟨w.heap.size+3,0,none⟩)] 212)
 rw[←dY]at bO
 have cc:=(bn.block _ (Oc2 (Jd cK) bO.size)).trans ((bO.block _ (Jd cK)).trans cK)
 have cB:=(bn.block _ (Oc2 (Jd cb) bO.size)).trans ((bO.block _ (Jd cb)).trans cb)
 have cN:=(bn.block _ (Oc2 (Jd bN) bO.size)).trans ((bO.block _ (Jd bN)).trans bN)
 have fb:=cG.below bn
 have dk:=fG.of_blocks (fun k _ M _=>bn.block k M)
 have dO:=Jb dN (Jb bO bn)
 have fh:w.heap.size+3<E.heap.size:=Jd cG
 have dw:(E.alloc (.cells #[.pointer (some ⟨w.heap.size+3,0,none⟩)] 212)).heap.size=E.heap.size+1:=by rw[Oa7]
 clear dJ gT cK cb bN cG fG bO bn dY dN
 generalize E.alloc (.cells #[.pointer (some ⟨w.heap.size+3,0,none⟩)] 212)=bf at cM cc cB cN fb dk dO dw ⊢
 generalize E.heap.size=bE at cM dk fh dw ⊢
 have cJ:Hid (w.heap.size+3<bE∧bf.heap.size=bE+1):=⟨fh,dw⟩
 clear fh dw dd E
 have fB:=Jiz y.length bf dj
 have gP:bf.cell? ⟨w.heap.size,4,none⟩=some (.slice (some ⟨bI,eo,none⟩) y.length bR):=by simp[World.cell?,cc]
 go_upto_region 3 with(go_at_call 78;refine fB.mono ?_;rintro e bH ⟨rfl,dR,fz⟩)
 have dM:Below bH.heap.size bH (bH.alloc (.cells #[.slice (some ⟨bf.heap.size,0,none⟩) y.length y.length] 74)):=Jc (Oa5 _ _) _
 have et:=heap_alloc_new bH (.cells #[.slice (some ⟨bf.heap.size,0,none⟩) y.length y.length] 74)
 have bT:=Jb fz dM
 have fq:=(bT.block _ (Jd cc)).trans cc
 have g1:=(bT.block _ (Jd cB)).trans cB
 have g2:=(bT.block _ (Jd cN)).trans cN
 have dH:=(bT.block _ (Jd cM)).trans cM
 have fc:=fb.below bT
 have fH:=dk.of_blocks (fun k _ M _=>bT.block k (by have:=cJ.out;omega))
 have cf:=Jb dO bT
 have bV:=dR.below dM
 have dx:bf.heap.size<bH.heap.size:=dR.row.lt
 have bj:(bH.alloc (.cells #[.slice (some ⟨bf.heap.size,0,none⟩) y.length y.length] 74)).heap.size=bH.heap.size+1:=by rw[Oa7]
 clear fB gP cc cB cN cM fb dk dO dR fz dM bT
 generalize bH.alloc (.cells #[.slice (some ⟨bf.heap.size,0,none⟩) y.length y.length] 74)=cx at et fq g1 g2 dH fc fH cf bV bj ⊢
 generalize bH.heap.size=K at et dx bj ⊢
 generalize bf.heap.size=D at et dx bV cJ ⊢
 have bG:Hid (w.heap.size+3<bE∧D=bE+1∧D<K∧cx.heap.size=K+1):=⟨cJ.out.1,cJ.out.2,dx,bj⟩
 clear dx bj bf bH cJ
 have gO:cx.cell? ⟨w.heap.size,1,none⟩=some (.int .i64 (l:Int)):=by simp[World.cell?,fq]
 have gQ:=(cv.out.1.below cf).cells.1
 have gH:=Jjb br A k dD l z dC dB fm fo dE fl (some ⟨g,0,none⟩) cols.length cap cx.drew (cv.out.1.below (Jj cf)) cv.out.2.1 (Ja cf cv.out.2.2.1) (by rw[←cv.out.2.2.2.1];exact Ol7 (cf.block A cC))
 have dh:=fun de=>Jh4 (.slice (some ⟨g,0,none⟩) cols.length cap) (z:Int) (some ⟨g,0,none⟩) cols.length cap rfl de
 have gJ:A≠w.heap.size:=by omega
 have ds:=cv.out.2.2.2.2
 refine(wpIn_wide (n:=3)).1 (Code.wpIn_mono Jpf.imp ((wpIn_wide (n:=3)).2 (wp_region_held_drew (S:=fun de=>de.cell? ⟨w.heap.size,1,none⟩=some (.int .i64 (l:Int))∧de.cell? ⟨br,0,none⟩=some (.int .i64 (z:Int))) (by kernel_rfl) ⟨gO,gQ⟩ (fun bl=>?_))))
 refine tk 0 ?_ rfl bl ?_ (tk 1 ?_ rfl bl ?_ (tk 2 ?_ rfl bl ?_ (tk 4 ?_ rfl bl ?_ (tk 5 ?_ rfl bl ?_ (tk 6 ?_ rfl bl ?_ (tk 7 ?_ rfl bl ?_ (tk 8 ?_ rfl bl ?_ ?_)))))))
 iterate 8
  rotate_left 1
  ·intro w gv;(try dsimp only at gv);go_simp;try rfl
 simp only[Act.put,List.getElem_toArray,List.getElem_cons_zero,List.getElem_cons_succ,Oa1,List.set_cons_zero,List.set_cons_succ]
 refine wpAnyH_ready (rs:=[3]) (by kernel_rfl) (by simp) (AllReadyH.cons rfl (fun dc bz=>?_) AllReadyH.nil)
 go_simp
 refine gH.mono ?_
 rintro e bD ⟨rfl,dK⟩
 have gu:bD.cell? ⟨w.heap.size,1,none⟩=some (.int .i64 (l:Int))∧bD.cell? ⟨br,0,none⟩=some (.int .i64 (z:Int)):=by rw[dK];exact⟨Uc (fun e=>gJ (congrArg Addr.block e)) bl.1,Uc (fun e=>ds (congrArg Addr.block e).symm) bl.2⟩
 have da:Hid (bD=cx.drew.setCell ⟨A,l,none⟩ (.slice none 0 0)):=dK
 clear dK
 go_simp
 refine bz.out _ _ gu (fun bl=>?_)
 clear bz dc
 refine wpAnyH_ready (rs:=[9]) (by kernel_rfl) (by simp) (AllReadyH.cons rfl (fun dc bz=>?_) AllReadyH.nil)
 go_simp
 refine(dh bD).mono ?_
 rintro e bb ⟨rfl,dL⟩
 have dg:Below bD.heap.size bD bb:=by rw[dL];exact Jc (Jc (Oa5 _ _) _) _
 have db:Hid (bb=(bD.alloc (.cells #[.slice (some ⟨g,0,none⟩) cols.length cap] 74)).alloc (.cells #[.int .i64 (z:Int)] 3)):=dL
 clear dL
 go_simp
 refine bz.out _ _ ⟨Ja dg bl.1,Ja dg bl.2⟩ (fun bl=>?_)
 clear bz dc
 refine wpAnyH_done (by kernel_rfl) (Jpf.go ?_) _
 go_wp2_with fail
 refine(wpIn_wide (n:=3)).1 ?_
 have bK:bD.heap.size=K+1:=by rw[da.out,←bG.out.2.2.2];simp[World.setCell]
 have bL:bb.heap.size=K+3:=by rw[db.out,Oa7,Oa7,bK]
 have ch:∀ k,k<cx.heap.size→k≠A→bb.heap[k]?=cx.heap[k]?:=fun k M bi=>by
  have U:k<bD.heap.size:=by rw[bK,←bG.out.2.2.2];exact M
  rw[dg.block k U,da.out,Oa4 _ _ _ _ bi]
  rfl
 have gg:bb.heap[K+1]?=some (.cells #[.slice (some ⟨g,0,none⟩) cols.length cap] 74 (0,0)):=by
  have:=heap_alloc_new bD (.cells #[.slice (some ⟨g,0,none⟩) cols.length cap] 74)
  rw[db.out,Oa9 _ _ _ (by rw[Oa7,bK];omega),←bK]
  exact this
 have ge:bb.heap[K+1+1]?=some (.cells #[.int .i64 (z:Int)] 3 (0,0)):=by
  have:=heap_alloc_new (bD.alloc (.cells #[.slice (some ⟨g,0,none⟩) cols.length cap] 74)) (.cells #[.int .i64 (z:Int)] 3)
  rw[Oa7,bK]at this
  rw[db.out]
  exact this
 have dp:Ju (·=A) w bb:=by
  rw[db.out,da.out]
  exact Ju.alloc (Ju.alloc (Ju.set (F:=fun x=>x=A) (Ju.of_below (Jj cf)) rfl l _) _) _
 have bj:=bG.out
 have gA:bb.heap[A]?=Jdc w A l:=by
  rw[dg.block A (by have:=bG.out;omega),da.out]
  exact Jol (cf.block A cC)
 have gs:Jj0 w z A l (K+3) (w.heap.size+3) bE K D ex y cols [] bb:=by
  refine⟨(ch _ (Jd g1) (by omega)).trans g1,(ch _ (Jd g2) (by omega)).trans g2,(ch _ (Jd dH) (by omega)).trans dH,(ch _ (Jd et) (by omega)).trans et,⟨_,_,_,_,_,(ch _ (Jd fc) (by omega)).trans fc⟩,fH.of_blocks (fun k h1 h2 _=>ch k (by omega) (by omega)),fun x Z=>by simp at Z,⟨by omega,by omega⟩,⟨List.replicate y.length (.slice none 0 0),?_,?_⟩,dp,by omega,fun x Z=>(by simp at Z),cC,gA⟩
  ·have e:Un y cols []=List.replicate y.length []:=by
    unfold Un
    rw[List.eq_replicate_iff]
    simp
   rw[e]
   refine⟨bV.row.of_block (ch D (by omega) (by omega)),bV.low,bV.len,fun i hi=>Jl (bV.own i hi) fun g e=>?_,bV.ne,bV.apart⟩
   have:Uq (List.replicate y.length (Value.slice none 0 0)) i=.slice none 0 0:=by
    unfold Uq
    rw[Oa0,Of3]
    split<;>rfl
   rw[this]at e
   cases e
  intro j c _ e
  have:Uq (List.replicate y.length (Value.slice none 0 0)) j=.slice none 0 0:=by
   unfold Uq
   rw[Oa0,Of3]
   split<;>rfl
  rw[this]at e
  cases e
 have fY:Hid (Jj0 w z A l (K+3) (w.heap.size+3) bE K D ex y cols [] bb):=gs
 have gX:Hid (∀ k,k<w.heap.size→k≠A→bb.heap[k]?=w.heap[k]?):=fun k M bi=>dp.block k M bi
 have gn:Qd bb g hs cols:=bk.out.1.kp (Fx:=fun k=>k<w.heap.size∧k≠A) ⟨dp.size,fun k M=>dp.block k M.1 M.2⟩ ⟨⟨bk.out.2.2.2.2.1,bk.out.2.2.2.1.1⟩,fun j H b o e=>⟨bk.out.2.2.2.2.2 j H b o e,bk.out.2.2.2.1.2 j H b o e⟩⟩
 rw[bK]
 refine Jg8 rfl (by omega) (gf:=139) (lb:=#[.pointer (some ⟨K+1,0,none⟩),.pointer (some ⟨K+1+1,0,none⟩)]) rfl trivial (enters_of func139 (by kernel_rfl) rfl)
  (Jjx 2 (by omega) (K+1) (K+1+1) g cap hs cols N z dv gN gt fS gI bb gn bk.out.2.1 (by simp[World.cell?,gg]) (by simp[World.cell?,ge]) (fun k=>k=K+1∨k=K+1+1∨(k<w.heap.size∧k≠A)) ⟨.inl rfl,.inr (.inl rfl),.inr (.inr ⟨bk.out.2.2.2.2.1,bk.out.2.2.2.1.1⟩),fun j H b o e=>.inr (.inr ⟨bk.out.2.2.2.2.2 j H b o e,bk.out.2.2.2.1.2 j H b o e⟩)⟩ (fun k M=>by omega))
  (fun h k=>h.trans k) ?hKb (Oa5 _ _) (fun _=>rfl)
  (fun ba W=>Jj0 w z A l (K+3) (w.heap.size+3) bE K D ex y cols (ba.map fun x=>(x.1,x.2.1)) W)
  (fun c ba W=>c=.ret∧Jq9 w A cA cH y cols (ba.map fun x=>(x.1,x.2.1)) W)
  ?hI ?hIx ?hR fY.out (fun x=>{tmps:=#[.pointer (some ⟨br,0,none⟩),.agg #[.int .i64 op,.int .i64 (l:Int),.int .i64 r,.string tn,.slice (some ⟨bI,eo,none⟩) y.length bR,ky,.int .i64 kk],undef,.pointer (some ⟨w.heap.size,0,none⟩),.pointer (some ⟨w.heap.size+1,0,none⟩),.pointer (some ⟨w.heap.size+1+1,0,none⟩),.pointer (some ⟨bE,0,none⟩),.pointer (some ⟨K,0,none⟩),.int .i64 (x.1:Int),.slice (some ⟨x.2.2,0,none⟩) cols.length cols.length,undef,undef,.pointer (some ⟨w.heap.size,4,none⟩),.slice (some ⟨bI,eo,none⟩) y.length bR,.pointer (some ⟨w.heap.size+3,0,none⟩),.pointer (some ⟨w.heap.size,4,none⟩),.slice (some ⟨bI,eo,none⟩) y.length bR,.int .i64 (y.length:Int),.slice (some ⟨D,0,none⟩) y.length y.length,.pointer (some ⟨br,0,none⟩),.pointer (some ⟨w.heap.size,1,none⟩),.int .i64 (l:Int),.slice (some ⟨g,0,none⟩) cols.length cap,.pointer (some ⟨br,0,none⟩),.pointer (some ⟨br,0,none⟩),.pointer (some ⟨br,0,none⟩),.pointer (some ⟨br,0,none⟩),.int .i64 (z:Int),.func (.func 139) #[] #[.pointer (some ⟨K+1,0,none⟩),.pointer (some ⟨K+1+1,0,none⟩)],.int .i64 (x.1:Int),.slice (some ⟨x.2.2,0,none⟩) cols.length cols.length,undef,undef,undef,undef,undef,undef,undef,undef,undef,undef,undef,undef,undef,undef],defers:=[]}) ?assign ?body ?done ?stop
 case hKb=>
  intro W l o bZ cS bX _ _
  exact⟨by simp,fun k M=>World.putObj_heap_other (by omega)⟩
 case hI=>
  intro s W W' row h cQ bJ
  exact h.kept (by omega) cQ fun r e=>⟨by have:=(bJ r e).1;omega,(bJ r e).2⟩
 case hIx=>
  rintro c s W W' row ⟨bU,h⟩ cQ bJ
  exact⟨bU,h.kept (L:=K+3) (by omega) cQ fun r e=>⟨by have:=(bJ r e).1;omega,(bJ r e).2⟩⟩
 case hR=>
  rintro x W W' row ⟨h1,h2,bu,bS⟩ cQ bJ
  exact⟨h1,h2,bu,bS.ck (CK.of_grown cQ fun r e=>(bJ r e).2)⟩
 case assign=>
  clear bj bK bL
  intro l x W dc bz
  gi_wp2
  exact bz
 case body=>
  rintro fk ba ⟨f,m,fr⟩ W hI ⟨fd,⟨fe,ff⟩,fg,du⟩ cW
  simp only at fd fe ff fg du
  obtain⟨gb,cc,gR,gU,gh,cG⟩:=hI.wk
  have cE:(cols.map (Jbx f (f+m))).length=cols.length:=by rw[Oa6]
  have dP:∀ j,j<(cols.map (Jbx f (f+m))).length→∀ cO o,(Yo (Jnt hs cols.length f (f+m)) j).1=some ⟨cO,o,none⟩→cO<w.heap.size:=fun j H cO o e=>by
   rw[cE]at H
   rcases bk.out.1.vals j H with h0|⟨gY,gZ,gx,cS,_⟩
   ·have:=bk.out.2.1 j H
    rw[h0]at this
    simp at this
    omega
   rw[Jmn H gx e]
   exact cS
  have hcut:∀ j,j<(cols.map (Jbx f (f+m))).length→((cols.map (Jbx f (f+m))).getD j []).length=m:=fun j H=>by
   rw[cE]at H
   rw[Oa0,Ob1,Oa3 H]
   have:=bk.out.2.1 j H
   rw[Oa0,Oa3 H]at this
   simp only[Option.map_some,Option.getD_some]at this ⊢
   rw[Jca (by omega)]
   omega
  have dq:=hI.keep
  have cD:=Jm cu.out.1.d
  have fO:=Jm cu.out.1.o
  simp only at cD fO
  have cU:=Jx4 w.heap.size (w.heap.size+3) ex gb cc gR gU gh fr cols.length (Jnt hs cols.length f (f+m)) (cols.map (Jbx f (f+m))) f m y cA cH W cG hI.exs.at (by rw[cE];exact dA.out.2) dj ⟨by omega,fun j H=>du.row.cell H,du.vals,fun j H cO o e=>by have:=dP j H cO o e;omega⟩ (by rw[cE];exact fS) hcut dP (fun i hi v fR=>by rw[Yw cols f m i hi]at fR;exact bk.out.2.2.1 (f+i) (by omega) v fR) (by omega) (by omega) ⟨dq.cell cu.out.1.d (fun e=>cu.out.2.1 e.symm),dq.cell cu.out.1.o (fun e=>cu.out.2.2 e.symm)⟩ dq.size ⟨by omega,by omega⟩
  rw[cE]at cU
  have cw:W.cell? ⟨bE,0,none⟩=some (.pointer (some ⟨w.heap.size+3,0,none⟩)):=by simp[World.cell?,hI.bw]
  have O:Hid (Jj0 w z A l (K+3) (w.heap.size+3) bE K D ex y cols (ba.map fun x=>(x.1,x.2.1)) W):=hI
  have fp:Hid (f+m≤N∧1≤m∧m≤z∧bb.heap.size≤fr∧ba.length<ckN N z):=⟨fd,fe,ff,fg,cW⟩
  have bQ:Hid (bb.heap.size=K+3∧A<w.heap.size):=⟨bL,cC⟩
  clear hI fd fe ff fg du cW cG dP hcut cE cD fO dq bj bK bL
  by_cases fA:∀ i,i<m→Kr y (Ji (cols.map (Jbx f (f+m))) i)=0
  ·have dW:=cU.mono fun e w' h=>h.ok fA
   clear cU
   have bj:=bG.out
   have dU:=O.out.low
   obtain⟨bC,X,cl⟩:=O.out.ct
   have dh:=O.out.bt
   have fC:∀ (sv:Value) (R:List (Option Addr×Nat×List V)) (E:World),Ju (·=w.heap.size+3) W E→Jo E W.heap.size 54 sv (R.map slV)→R.length=y.length→(∀ q∈R,Jv E q.1 q.2.2∧q.2.2.length=m)→(∀ q∈R,∀ g o,q.1=some ⟨g,o,none⟩→g≠w.heap.size+3∧g<E.heap.size∧(g<w.heap.size∨W.heap.size≤g)) →
     ∃ g2 cp,sv=.slice (some ⟨g2,0,none⟩) y.length cp∧Calls prog 108 #[.slice (some ⟨D,0,none⟩) y.length y.length,.slice (some ⟨g2,0,none⟩) y.length cp] E fun e w'=>e=.returned (.tuple #[])∧(∃ cI,Jar w' D D cI (Jdi (Un y cols (ba.map fun x=>(x.1,x.2.1))) (R.map (·.2.2)) (Un y cols (ba.map fun x=>(x.1,x.2.1))).length)∧∀ j b,j<y.length→(Uq cI j).ownBlock=some b→K+3≤b)∧Below D E w'∧E.heap.size≤w'.heap.size∧∀ x,x<E.heap.size→x≠D→(∀ j,j<y.length→(Uq bC j).ownBlock≠some x)→w'.heap[x]?=E.heap[x]?:=by
    intro sv R E U cV ci cF cT
    have jl:=U.size
    have bA:(Un y cols (ba.map fun x=>(x.1,x.2.1))).length=y.length:=Up _ _ _
    obtain⟨g2,cp,cn,fD⟩:=Jcs (b:=w.heap.size+3) cV (by omega) (fun e=>by rw[e]at ci;simp at ci;omega) (fun q cX=>(cF q cX).1) fun q cX g o e=>(cT q cX g o e).1
    have cD:(R.map (·.2.2)).length=y.length:=by rw[Oa6,ci]
    rw[cD]at cn
    have gC:W.heap.size≤g2∧g2<E.heap.size:=Je cV (by rw[cn];rfl)
    have fP:∀ j b,j<y.length→(Uq bC j).ownBlock=some b→K+3≤b∧b<W.heap.size:=fun j b H e=>⟨cl j b H e,(Je (X.own j (by rw[bA];exact H)) e).2⟩
    have gw:Jar E D D bC (Un y cols (ba.map fun x=>(x.1,x.2.1))):=⟨X.row.of_block (U.block D X.row.lt (by show ¬ D=w.heap.size+3;omega)),X.low,X.len,fun i hi=>Jl (X.own i hi) fun g e=>U.block g (Je (X.own i hi) e).2 (by have:=cl i g (by rw[bA]at hi;exact hi) e;show ¬ g=w.heap.size+3;omega),X.ne,X.apart⟩
    have fF:∀ k bM bZ,k<(R.map (·.2.2)).length→(Yo (R.map fun q=>(q.1,q.2.1)) k).1=some ⟨bM,bZ,none⟩→bM<w.heap.size∨W.heap.size≤bM:=fun k bM bZ M e=>by
     rw[Oa6]at M
     have bN:Yo (R.map fun q=>(q.1,q.2.1)) k=(R[k].1,R[k].2.1):=by unfold Yo;rw[Oa0,Ob1,Oa3 M];rfl
     rw[bN]at e
     exact(cT _ (Ob3 M) bM bZ e).2.2
    have gy:∀ j,j<(Un y cols (ba.map fun x=>(x.1,x.2.1))).length→((Un y cols (ba.map fun x=>(x.1,x.2.1))).getD j []).length+((R.map (·.2.2)).getD j []).length≤1000000:=fun j H=>by
     rw[bA]at H
     have h1:=Jyu cols (ba.map fun x=>(x.1,x.2.1)) z O.out.tot (Oa3 H)
     have h2:((R.map (·.2.2)).getD j []).length=m:=by
      rw[Oa0,Ob1,Oa3 (by omega:j<R.length)]
      exact(cF _ (Ob3 _)).2
     have bu:=fp.out
     have bS:=Jxx (N:=N) dv bu.2.2.2.2
     rw[Oa6]at h1
     omega
    have df:=Kb4 D D y.length bC (Un y cols (ba.map fun x=>(x.1,x.2.1))) g2 cp (R.map fun q=>(q.1,q.2.1)) (R.map (·.2.2)) E gw ⟨gC.2,fD.cell,fD.vals⟩ (by rw[cD,bA]) gy (by omega) (by rw[bA];exact dj) (fun j b H e=>by
     rw[bA]at H
     have h1:=fP j b H e
     exact⟨by omega,fun k bM bZ M dG=>by have:=fF k bM bZ M dG;omega⟩) ⟨by omega,fun k bM bZ M dG=>by have:=fF k bM bZ M dG;omega⟩
    rw[cD,bA]at df
    refine⟨g2,cp,cn,df.mono fun e w' h=>?_⟩
    obtain⟨h1,⟨cI,h2,bu⟩,gm,bS,dI⟩:=h
    rw[bA]
    exact⟨h1,⟨cI,h2,fun j b H e=>by rcases bu j b H e with h|h;exact(fP j b H h).1;omega⟩,gm,bS,dI⟩
   have fX:Hid _:=fC
   have cr:Hid (Jar W D D bC (Un y cols (ba.map fun x=>(x.1,x.2.1)))∧∀ j c,j<y.length→(Uq bC j).ownBlock=some c→K+3≤c):=⟨X,cl⟩
   clear fC X cl bj dU
   gi_wp2_with (first|(refine⟨trivial,?_⟩;gi_at_call 106;refine(CallsIn.inRound fk (callsIn_wide.2 dW)).mono ?_;rintro e E ⟨sv,R,rfl,U,gK,cV,ci,cF,cT,fQ⟩;obtain⟨g2,cp,cn,df⟩:=fX.out sv R E U cV ci cF cT;subst cn;have ct:E.cell? ⟨K,0,none⟩=some (.slice (some ⟨D,0,none⟩) y.length y.length):=U.cell (by simp[World.cell?,dh]) (by have:=bG.out;show ¬ K=w.heap.size+3;omega);have cZ:Hid (R.length=y.length∧(∀ q∈R,q.2.2.length=m)∧∀ i,i<m→∀ k e,y[k]?=some e→Kl e (Ji (cols.map (Jbx f (f+m))) i)=.inl (((R.map (·.2.2)).getD k []).getD i Jf)):=⟨ci,fun q cX=>(cF q cX).2,fQ⟩;clear cV ci cF cT fQ)|(refine⟨trivial,?_⟩;gi_at_call 108;refine(CallsIn.inRound fk (callsIn_wide.2 df)).mono ?_;rintro e bf ⟨rfl,⟨cI,di,cn⟩,bn,jf,fT⟩))
   have bj:=bG.out
   have dU:=O.out.low
   have fU:=O.out.keep.size
   have dT:=U.size
   have gM:=fp.out
   have bL:=bQ.out
   have bA:(Un y cols (ba.map fun x=>(x.1,x.2.1))).length=y.length:=Up _ _ _
   have fM:∀ k,(∀ j,j<y.length→(Uq bC j).ownBlock≠some k)→k<W.heap.size→k≠D→k≠w.heap.size+3→bf.heap[k]?=W.heap[k]?:=fun k h1 h2 bu bS=>by rw[fT k (by omega) bu h1,U.block k h2 bS]
   have bW:∀ k,k<K+3→k≠D→k≠w.heap.size+3→bf.heap[k]?=W.heap[k]?:=fun k h1 h2 bu=>fM k (fun j H e=>by have:=cr.out.2 j k H e;omega) (by omega) h2 bu
   have gD:Ju (·=A) w bf:=by
    have bh:=O.out.keep
    exact⟨bn.os.trans (U.os.trans bh.os),bn.tape.trans (U.tape.trans bh.tape),bn.output.trans (U.output.trans bh.output),by omega,fun k M bi=>(bW k (by omega) (by omega) (by omega)).trans (bh.block k M bi)⟩
   refine⟨⟨by omega,fun k o M bX bU=>?_⟩,⟨by omega,fun k M=>bW k (by omega) (by omega) (by omega)⟩,?_⟩
   ·rw[fM k (fun j H e=>?_) (Jd bX) (by omega) (by omega)]
    ·exact bX
    obtain⟨ja,gz⟩:=Ja4 (cr.out.1.own j (by rw[bA];exact H)) e
    rw[gz]at bX
    cases bX
    simp[Obj.isCells]at bU
   obtain⟨gd,cB,gS,gV,gi,gL⟩:=gK
   rw[Ob8]
   refine⟨(bW _ (by omega) (by omega) (by omega)).trans O.out.b1,(bW _ (by omega) (by omega) (by omega)).trans O.out.b2,(bW _ (by omega) (by omega) (by omega)).trans O.out.bw,(bW _ (by omega) (by omega) (by omega)).trans dh,⟨gd,cB,gS,gV,gi,?_⟩,O.out.exs.of_blocks (fun k h1 h2 bu=>bW k (by omega) (by omega) bu),?_,⟨by omega,dU.2⟩,⟨cI,?_,cn⟩,gD,by omega,?_,O.out.dl,(bW A (by omega) (by omega) (by omega)).trans O.out.dn⟩
   ·show bf.heap[w.heap.size+3]?=_
    rw[fT _ (by omega) (by omega) (fun j H e=>by have:=cr.out.2 j _ H e;omega)]
    exact gL
   ·intro x Z
    rw[Od2]at Z
    rcases Z with Z|Z
    ·exact O.out.tot x Z
    simp only[Oe4,Oi4,Oc6]at Z
    subst Z
    exact gM.2.2.1
   ·rw[Jwo y cols (ba.map fun x=>(x.1,x.2.1)) f m (R.map (·.2.2)) (by rw[Oa6];exact cZ.out.1) (fun k M=>?_) (fun i hi k e bP=>?_)]at di
    ·exact di
    ·rw[Oa6]at M
     rw[Oa0,Ob1,Oa3 M]
     exact cZ.out.2.1 _ (Ob3 M)
    have:=cZ.out.2.2 i hi k e bP
    rwa [Yw cols f m i hi]at this
   intro x Z i hi e bP
   rw[Od2]at Z
   rcases Z with Z|Z
   ·exact O.out.run x Z i hi e bP
   simp only[Oe4,Oi4,Oc6]at Z
   subst Z
   obtain⟨k,M⟩:=Ok2.1 bP
   have:=cZ.out.2.2 i hi k e M
   rw[Yw cols f m i hi]at this
   exact⟨_,this⟩
  have dW:=cU.mono fun e w' h=>h.bad fA
  clear cU
  have b2:=O.out.b2
  have b1:=O.out.b1
  gi_wp2_with (first|(refine⟨trivial,?_⟩;gi_at_call 106;refine(CallsIn.inRound fk (callsIn_wide.2 dW)).mono ?_;rintro e E ⟨bc,dy,bB,rfl,U,dV,dS,bi,cY,dm⟩;have ca:=(U.block _ (Jd b1) (by show ¬ w.heap.size+1=w.heap.size+3;omega)).trans b1;have cz:=(U.block _ (Jd b2) (by show ¬ w.heap.size+2=w.heap.size+3;omega)).trans b2;have jg:E.cell? ⟨w.heap.size+1,0,none⟩=some (.slice none 0 0):=(by simp[World.cell?,ca]);have jh:E.frozen? ⟨w.heap.size+1,0,none⟩=false:=(by simp[World.frozen?,ca]);have ji:E.cell? ⟨w.heap.size+1+1,0,none⟩=some .nilIface:=(by simp[World.cell?,cz]);have jj:E.frozen? ⟨w.heap.size+1+1,0,none⟩=false:=(by simp[World.frozen?,cz]);have dz:Hid (E.heap[w.heap.size+1]?=some (.cells #[.slice none 0 0] 74 (0,0))∧E.heap[w.heap.size+1+1]?=some (.cells #[.nilIface] 76 (0,0))):=⟨ca,cz⟩;clear ca cz))
  have bj:=bG.out
  have jc:=O.out.size
  have fU:=O.out.keep.size
  have ca:=Jk dz.out.1 0 (.slice none 0 0)
  have cz:=Jk dz.out.2 0 (Qv bc)
  simp only[Oa1,List.set_cons_zero]at ca cz
  have cb:((E.setCell ⟨w.heap.size+1,0,none⟩ (.slice none 0 0)).setCell ⟨w.heap.size+1+1,0,none⟩ (Qv bc)).heap[w.heap.size+1]?=some (.cells #[.slice none 0 0] 74 (0,0)):=by rw[Oa4 _ _ _ _ (by show w.heap.size+1≠w.heap.size+1+1;omega)];exact ca
  have bN:((E.setCell ⟨w.heap.size+1,0,none⟩ (.slice none 0 0)).setCell ⟨w.heap.size+1+1,0,none⟩ (Qv bc)).heap[w.heap.size+1+1]?=some (.cells #[Qv bc] 76 (0,0)):=by
   have:=Jk (w:=E.setCell ⟨w.heap.size+1,0,none⟩ (.slice none 0 0)) (b:=w.heap.size+1+1) (cs:=#[.nilIface]) (t:=76) (by rw[Oa4 _ _ _ _ (by show w.heap.size+1+1≠w.heap.size+1;omega)];exact dz.out.2) 0 (Qv bc)
   simpa only[Oa1,List.set_cons_zero] using this
  have bY:∀ k,k≠w.heap.size+1→k≠w.heap.size+1+1→((E.setCell ⟨w.heap.size+1,0,none⟩ (.slice none 0 0)).setCell ⟨w.heap.size+1+1,0,none⟩ (Qv bc)).heap[k]?=E.heap[k]?:=fun k h1 h2=>by rw[Oa4 _ _ _ _ h2,Oa4 _ _ _ _ h1]
  have dt:((E.setCell ⟨w.heap.size+1,0,none⟩ (.slice none 0 0)).setCell ⟨w.heap.size+1+1,0,none⟩ (Qv bc)).heap.size=E.heap.size:=by simp[World.setCell]
  have dT:=U.size
  refine⟨⟨Ob2 dT (Oo0 dt.symm),fun k o M bX bU=>?_⟩,rfl,cb,⟨bc,dy,bB,ba.map (fun x=>(x.1,x.2.1)),(f,m),by rw[Ob8];rfl,dV,bN,by omega,?_,?_,O.out.run,fun i hi=>?_⟩,?_⟩
  ·have gG:=Jd bX
   rw[bY k (by have:=bQ.out;omega) (by have:=bQ.out;omega),U.block k gG (by show ¬ k=w.heap.size+3;have:=bQ.out;omega)]
   exact bX
  ·rw[Yw cols f m bB dV]at bi
   exact bi
  ·rw[Yw cols f m bB dV]at cY
   exact cY.of_block (bY bc (by omega) (by omega))
  ·have:=dm i hi
   rwa [Yw cols f m i (by omega)]at this
  have bh:=O.out.keep
  refine⟨U.os.trans bh.os,U.tape.trans bh.tape,U.output.trans bh.output,Ob2 (Ob2 fU dT) (Oo0 dt.symm),fun k M bi=>?_⟩
  rw[bY k (by omega) (by omega),U.block k (by omega) (by show ¬ k=w.heap.size+3;omega)]
  exact bh.block k M bi
 case done=>
  rintro bx jk W gq fW hI bz
  rw[fW]at hI
  obtain⟨bC,X,cl⟩:=hI.ct
  have c2:W.cell? ⟨w.heap.size+1,0,none⟩=some (.slice none 0 0):=by simp[World.cell?,hI.b1]
  have cN:W.frozen? ⟨w.heap.size+1,0,none⟩=false:=by simp[World.frozen?,hI.b1]
  have cy:W.heap[w.heap.size+1+1]?=some (.cells #[.nilIface] 76 (0,0)):=hI.b2
  have c3:W.cell? ⟨w.heap.size+1+1,0,none⟩=some .nilIface:=by simp[World.cell?,cy]
  have jb:W.frozen? ⟨w.heap.size+1+1,0,none⟩=false:=by simp[World.frozen?,cy]
  have c4:W.cell? ⟨K,0,none⟩=some (.slice (some ⟨D,0,none⟩) y.length y.length):=by simp[World.cell?,hI.bt]
  have O:Hid (Jj0 w z A l (K+3) (w.heap.size+3) bE K D ex y cols (cks N z (ckN N z)) W):=hI
  have cr:Hid (Jar W D D bC (Un y cols (cks N z (ckN N z)))∧∀ j c,j<y.length→(Uq bC j).ownBlock=some c→K+3≤c):=⟨X,cl⟩
  have bQ:Hid (bb.heap.size=K+3∧A<w.heap.size):=⟨bL,cC⟩
  clear hI fW X cl cy bj bK bL
  go_wp2_with fail
  have bj:=bG.out
  have bL:=bQ.out
  have fw:=((KeepsOthers.setCell W ⟨w.heap.size+1,0,none⟩ (.slice (some ⟨D,0,none⟩) y.length y.length)).trans (KeepsOthers.setCell _ ⟨w.heap.size+1+1,0,none⟩ .nilIface)).same bx _ bz rfl
  refine⟨by simp,.inl ⟨_,_,rfl,run_takeDeferred fw,?_⟩⟩
  have g2:((W.setCell ⟨w.heap.size+1,0,none⟩ (.slice (some ⟨D,0,none⟩) y.length y.length)).setCell ⟨w.heap.size+1+1,0,none⟩ .nilIface).cell? ⟨w.heap.size+1,0,none⟩=some (.slice (some ⟨D,0,none⟩) y.length y.length):=by
   rw[Ob5 _ _ _ _ (by simp)]
   exact Oj0 _ _ _ (by rw[c2];rfl)
  have gj:((W.setCell ⟨w.heap.size+1,0,none⟩ (.slice (some ⟨D,0,none⟩) y.length y.length)).setCell ⟨w.heap.size+1+1,0,none⟩ .nilIface).cell? ⟨w.heap.size+1+1,0,none⟩=some .nilIface:=
   Oj0 _ _ _ (by rw[Ob5 _ _ _ _ (by simp),c3];rfl)
  have cj:∀ r,some bx=some r→∃ o:Obj,((W.setCell ⟨w.heap.size+1,0,none⟩ (.slice (some ⟨D,0,none⟩) y.length y.length)).setCell ⟨w.heap.size+1+1,0,none⟩ .nilIface).heap[r]?=some o∧o.isCells=false:=fun r e=>by cases e;exact⟨_,fw,rfl⟩
  have bY:∀ k,k≠w.heap.size+1→k≠w.heap.size+1+1→((W.setCell ⟨w.heap.size+1,0,none⟩ (.slice (some ⟨D,0,none⟩) y.length y.length)).setCell ⟨w.heap.size+1+1,0,none⟩ .nilIface).heap[k]?=W.heap[k]?:=fun k h1 h2=>by rw[Oa4 _ _ _ _ h2,Oa4 _ _ _ _ h1]
  have dt:((W.setCell ⟨w.heap.size+1,0,none⟩ (.slice (some ⟨D,0,none⟩) y.length y.length)).setCell ⟨w.heap.size+1+1,0,none⟩ .nilIface).heap.size=W.heap.size:=by simp[World.setCell]
  have bA:(Un y cols (cks N z (ckN N z))).length=y.length:=Up _ _ _
  have bh:=O.out.keep
  have gE:Ju (·=A) w ((W.setCell ⟨w.heap.size+1,0,none⟩ (.slice (some ⟨D,0,none⟩) y.length y.length)).setCell ⟨w.heap.size+1+1,0,none⟩ .nilIface):=⟨bh.os,bh.tape,bh.output,Ob2 bh.size (Oo0 dt.symm),fun k M bi=>(bY k (by omega) (by omega)).trans (bh.block k M bi)⟩
  have X:=cr.out.1
  have di:Jar ((W.setCell ⟨w.heap.size+1,0,none⟩ (.slice (some ⟨D,0,none⟩) y.length y.length)).setCell ⟨w.heap.size+1+1,0,none⟩ .nilIface) D D bC (Un y cols (cks N z (ckN N z))):=⟨X.row.of_block (bY D (by omega) (by omega)),X.low,X.len,fun i hi=>Jl (X.own i hi) fun g e=>by have:=cr.out.2 i g (by rw[bA]at hi;exact hi) e;exact bY g (by omega) (by omega),X.ne,X.apart⟩
  have fi:=cell_kept g2 (grownBy_putObj' _ bx (.deferred none)) cj
  have fj:=cell_kept gj (grownBy_putObj' _ bx (.deferred none)) cj
  have dQ:=CK.of_grown (grownBy_putObj' _ bx (.deferred none)) cj
  refine⟨.tuple #[.slice (some ⟨D,0,none⟩) y.length y.length,.nilIface],by simp[results,Tryz.f72,go_sem,fi,fj],?_⟩
  refine⟨Jau gE (grownBy_putObj' _ bx (.deferred none)) (fun r e=>by cases e;omega),.inl ⟨D,bC,rfl,by omega,?_,fun i hi e bP=>?_,(World.putObj_heap_other (by omega)).trans ((bY A (by omega) (by omega)).trans O.out.dn)⟩⟩
  ·rw[←Kbb y cols N z dv]
   exact di.ck dQ
  obtain⟨x,Z,t,dZ,rfl⟩:=Jgt N z (ckN N z) i (by rw[Ol4 (Jcy dv)];exact hi)
  exact O.out.run x Z t dZ e bP
 case stop=>
  rintro bx c ba W gq ⟨k,M,cW⟩ ⟨rfl,cP⟩ bz
  rw[cW]at cP
  obtain⟨bc,dy,bB,R,x,dr,je,bn,dS,bi,cY,fy,dm⟩:=cP.err
  have c2:W.cell? ⟨w.heap.size+1,0,none⟩=some (.slice none 0 0):=by simp[World.cell?,cP.b1]
  have cy:W.heap[w.heap.size+1+1]?=some (.cells #[Qv bc] 76 (0,0)):=bn
  have c3:W.cell? ⟨w.heap.size+1+1,0,none⟩=some (Qv bc):=by simp[World.cell?,cy]
  have ga:Hid (Ju (·=A) w W):=cP.keep
  have dX:x.1+bB<N∧∀ i,i<x.1+bB→∀ e∈y,∃ v,Kl e (Ji cols i)=.inl v:=by
   cases k with
   |zero=>simp[cks]at dr
   |succ k=>
    rw[Jbj]at dr
    obtain⟨h1,h2⟩:=List.append_inj' dr rfl
    simp only[List.cons.injEq,and_true]at h2
    have cb:x.1=k*z:=by rw[←h2];rfl
    have bN:x.2=min z (N-k*z):=by rw[←h2];rfl
    refine⟨by omega,fun i hi e bP=>?_⟩
    by_cases jd:i<k*z
    ·obtain⟨gW,fV,t,dZ,rfl⟩:=Jgt N z k i (by omega)
     rw[h1]at fV
     exact fy gW fV t dZ e bP
    have:=dm (i-x.1) (by omega) e bP
    rwa [show x.1+(i-x.1)=i by omega]at this
  have fZ:Hid (x.1+bB<N∧(∀ i,i<x.1+bB→∀ e∈y,∃ v,Kl e (Ji cols i)=.inl v)∧Kr y (Ji cols (x.1+bB))≠0∧Ja8 W bc ((x.1+bB:Nat):Int) dy (Jdb cA cH (Kr y (Ji cols (x.1+bB))))∧w.heap.size≤bc):=⟨dX.1,dX.2,bi,cY,dS⟩
  have bQ:Hid (bb.heap.size=K+3∧A<w.heap.size):=⟨bL,cC⟩
  clear cP cW dr dX bi cY fy dm bn cy bj bK bL dS
  gi_wp2
  have bj:=bG.out
  have bL:=bQ.out
  have cj:∀ r,some bx=some r→∃ o:Obj,W.heap[r]?=some o∧o.isCells=false:=fun r e=>by cases e;exact⟨_,bz,rfl⟩
  refine⟨by simp,.inl ⟨_,_,rfl,run_takeDeferred bz,?_⟩⟩
  have fi:=cell_kept c2 (grownBy_putObj' _ bx (.deferred none)) cj
  have fj:=cell_kept c3 (grownBy_putObj' _ bx (.deferred none)) cj
  have dQ:=CK.of_grown (grownBy_putObj' W bx (.deferred none)) cj
  refine⟨.tuple #[.slice none 0 0,Qv bc],by simp[results,Tryz.f72,go_sem,fi,fj],?_⟩
  obtain⟨h1,h2,bu,bS,dI⟩:=fZ.out
  exact⟨Jau ga.out (grownBy_putObj' _ bx (.deferred none)) (fun r e=>by cases e;omega),.inr ⟨bc,dy,x.1+bB,rfl,h1,dI,bu,dQ.cells _ _ _ _ bS,h2⟩⟩
end Go.Proofs.YtdlgbphkaicfaaaGreatDoor
