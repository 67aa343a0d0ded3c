/- Project. -/
import Derived.Test.YtjjdldddcegjiaaGreatDoorXk
import Derived.Test.YtjjdldddcegjiaaGreatDoorTj
set_option maxHeartbeats 2000000
set_option maxRecDepth 100000
namespace Go.Proofs.YtjjdldddcegjiaaGreatDoor
open Go.RowKit Go.Shelf Tryz
attribute [local go_sem] Oc0
theorem Jur (w:World)(y z A:Obj)(W:World)(hW:((w.alloc y).alloc z).alloc A=W):W.heap.size=w.heap.size+3∧W.heap[w.heap.size]?=some y∧W.heap[w.heap.size+1]?=some z∧W.heap[w.heap.size+2]?=some A∧Below w.heap.size w W:=by
 subst hW
 have E:=heap_alloc_new w y
 have C:=heap_alloc_new (w.alloc y) z
 have D:=heap_alloc_new ((w.alloc y).alloc z) A
 have H:(w.alloc y).heap.size=w.heap.size+1:=by simp
 have K:((w.alloc y).alloc z).heap.size=w.heap.size+2:=by simp
 rw[H]at C
 rw[K]at D
 exact⟨by simp,by rw[Oa9 _ _ _ (by omega),Oa9 _ _ _ (by omega)];exact E,by rw[Oa9 _ _ _ (by omega)];exact C,D,Jc (Jc (Jc (Oa5 _ _) _) _) _⟩
theorem Jmn {hs:List (Option Addr×Nat)}{k f t j b o y z:Nat}(D:j<k)(C:(Yo hs j).1=some ⟨y,z,none⟩)(h:(Yo (Jnt hs k f t) j).1=some ⟨b,o,none⟩):b=y:=by
 have A:Yo (Jnt hs k f t) j=(Jkl (Yo hs j).1 f t,t-f):=by simp[Yo,Jnt,D]
 rw[A,C]at h
 simp only at h
 unfold Jkl at h
 split at h
 ·simp only[Oc9,Oh2]at h
  exact h.1.symm
 rw[Option.map_some,Op7]at h
 simp only[Oc9,Oh2]at h
 exact h.1.symm
theorem Jjk.ok {A:Nat}{C X:Addr}{b:Nat}{ex:Value}{cols:List (List V)}{first N:Nat}{z:List (List Pt)}{w w':World}{e:Ending}(h:Jjk A C X b ex cols first N z w e w')(U:∀ i,i<N→Kr z (Ji cols i)=0) :
  ∃ (sv:Value) (y:List (Option Addr×Nat×List V)),e=.returned (.tuple #[sv,.nilIface])∧Ju (·=b) w w'∧(∃ (ba:Value) (f n:Int) (Z D:Value),Uz w' b ex ba f n Z D)∧Jo w' w.heap.size 58 sv (y.map slV)∧y.length=z.length∧(∀ q∈y,Jv w' q.1 q.2.2∧q.2.2.length=N)∧(∀ q∈y,∀ g o,q.1=some ⟨g,o,none⟩→g≠b∧g<w'.heap.size∧(g<A∨w.heap.size≤g))∧∀ i,i<N→∀ k e,z[k]?=some e→Kl e (Ji cols i)=.inl (((y.map (·.2.2)).getD k []).getD i Jf):=by
 obtain⟨E,H,⟨sv,y,K,M⟩|⟨bc,kk,m,R,_,_,O,_⟩⟩:=h
 ·exact⟨sv,y,K,E,H,M⟩
 exact absurd (U m R) O
theorem Jux {y:List (List Pt)}{x:List V}(h:∀ e∈y,∃ v,Kl e x=.inl v):Kr y x=0:=by
 have:=Jiy [] h
 rw[Od7]at this
 exact this
theorem Jjk.bad {H:Nat}{A E:Addr}{b:Nat}{ex:Value}{cols:List (List V)}{first N:Nat}{z:List (List Pt)}{w w':World}{e:Ending}(h:Jjk H A E b ex cols first N z w e w')(O:¬ ∀ i,i<N→Kr z (Ji cols i)=0) :
  ∃ y kk m:Nat,e=.returned (.tuple #[.slice none 0 0,Qv y])∧Ju (·=b) w w'∧m<N∧w.heap.size≤y∧Kr z (Ji cols m)≠0∧Ja8 w' y ((first+m:Nat):Int) kk (Jdb A E (Kr z (Ji cols m)))∧∀ i,i<m→∀ e∈z,∃ v,Kl e (Ji cols i)=.inl v:=by
 obtain⟨K,Z,⟨sv,bi,C,D,bc,bf,bh,M⟩|⟨y,kk,m,X,C,D⟩⟩:=h
 ·exact absurd (fun i hi=>Jux fun e R=>by
   obtain⟨k,U⟩:=Ok2.1 R
   exact⟨_,M i hi k e U⟩) O
 exact⟨y,kk,m,C,K,X,D⟩
def Kde (A l:Nat)(D E:Addr)(y:List (List Pt))(cols:List (List V))(N:Nat)(w:World):Ending→World→Prop:=fun e w'=>
 Ju (·=A) w w' ∧
 ((∃ (z:Nat) (H:List Value),e=.returned (.tuple #[.slice (some ⟨z,0,none⟩) y.length y.length,.nilIface])∧w.heap.size≤z∧Jar w' z z H (y.map fun e=>(List.range N).map fun i=>pv1 e (Ji cols i))∧(∀ i,i<N→∀ e∈y,∃ v,Kl e (Ji cols i)=.inl v)∧w'.heap[A]?=Jdc w A l) ∨
  (∃ C kk r:Nat,e=.returned (.tuple #[.slice none 0 0,Qv C])∧r<N∧w.heap.size≤C∧Kr y (Ji cols r)≠0∧Ja8 w' C (r:Int) kk (Jdb D E (Kr y (Ji cols r)))∧∀ i,i<r→∀ e∈y,∃ v,Kl e (Ji cols i)=.inl v))
theorem Jp8 (bA z k dI l:Nat)(H:Nat)(dH dG fr fs dJ fq:Value)(op r:Int)(tn:ByteArray)(ky:Value)(kk:Int)(bM eo bV:Nat)(y:List (List Pt))(g cap:Nat)(hs:List (Option Addr×Nat))(cols:List (List V))(N:Nat)(w:World)(cE cM:Addr)
  (bN:Jck w bA H dH dG fr fs dJ fq (.slice (some ⟨z,0,none⟩) k dI)) (cW:l<k) (bY:w.cell? ⟨z,l,none⟩=some (.slice (some ⟨g,0,none⟩) cols.length cap)) (fN:w.frozen? ⟨z,l,none⟩=false) (dw:bA≠z)
  (fy:Jaz w bM eo y) (fS:Jga cols.length y) (gI:1≤y.length) (dq:y.length≤1000) (dz:1≤H) (gT:H≤100000)
  (fx:Qd w g hs cols) (fX:1≤cols.length) (gO:cols.length≤1000) (fJ:∀ j,j<cols.length→(cols.getD j []).length=N) (gz:N≤100000) (fQ:∀ i,i<N→∀ v∈Ji cols i,Jg v.n) (fO:Jbo g hs cols.length (fun b=>b≠z)) (fP:Jbo g hs cols.length (fun b=>b<w.heap.size)) (fA:Jdo w cE cM) (fz:z≠10∧z≠11) :
  Calls prog 83 #[.pointer (some ⟨bA,0,none⟩),.agg #[.int .i64 op,.int .i64 (l:Int),.int .i64 r,.string tn,.slice (some ⟨bM,eo,none⟩) y.length bV,ky,.int .i64 kk]] w (Kde z l cE cM y cols N w):=by
 have cG:z<w.heap.size:=by have:=Jm bY;exact this
 have cA:Hid (Jck w bA H dH dG fr fs dJ fq (.slice (some ⟨z,0,none⟩) k dI)∧l<k∧w.cell? ⟨z,l,none⟩=some (.slice (some ⟨g,0,none⟩) cols.length cap)∧w.frozen? ⟨z,l,none⟩=false∧bA≠z):=⟨bN,cW,bY,fN,dw⟩
 have dE:Hid (Jaz w bM eo y∧Jga cols.length y):=⟨fy,fS⟩
 have bu:Hid (Qd w g hs cols∧(∀ j,j<cols.length→(cols.getD j []).length=N)∧(∀ i,i<N→∀ v∈Ji cols i,Jg v.n)∧Jbo g hs cols.length (fun b=>b≠z)∧Jbo g hs cols.length (fun b=>b<w.heap.size)):=⟨fx,fJ,fQ,fO,fP⟩
 have cz:Hid (Jdo w cE cM∧z≠10∧z≠11):=⟨fA,fz⟩
 clear bN cW bY fN dw fy fS fx fJ fQ fO fP fA fz
 refine(callsIn_wide (n:=3)).1 ?_
 refine callsIn_of_wp_marks func83 rfl trivial ?_ rfl
 simp only[ntmps83,Om3,List.length_cons,List.length_nil,Nat.reduceAdd,Nat.reduceSub,Ok9,Array.replicate_zero,Om4,Ol2,List.nil_append,List.cons_append]
 refine wpIn_wide.2 ?_
 go_upto_region 1 with fail
 generalize fC:((w.alloc (.cells #[.int .i64 op,.int .i64 (l:Int),.int .i64 r,.string tn,.slice (some ⟨bM,eo,none⟩) y.length bV,ky,.int .i64 kk] 46)).alloc _).alloc _=dh
 obtain⟨fd,cP,ci,bR,dR⟩:=Jur w _ _ _ dh fC
 clear fC
 have dN:=Jsm bM eo bV cols.length y dh (dE.out.1.below dR) dE.out.2 dq gI
 rw[fd]at dN
 have gZ:dh.cell? ⟨w.heap.size,4,none⟩=some (.slice (some ⟨bM,eo,none⟩) y.length bV):=by simp[World.cell?,cP]
 go_upto_region 2 with(go_at_call 115;refine dN.mono ?_;rintro e C ⟨bS,rfl,ex,cK,fL⟩)
 have bz:Below C.heap.size C (C.alloc (.cells #[.pointer (some ⟨w.heap.size+3,0,none⟩)] 220)):=Jc (Oa5 _ _) _
 have cQ:=heap_alloc_new C (.cells #[.pointer (some ⟨w.heap.size+3,0,none⟩)] 220)
 rw[←fd]at bS
 have cj:=(bz.block _ (Oc2 (Jd cP) bS.size)).trans ((bS.block _ (Jd cP)).trans cP)
 have cF:=(bz.block _ (Oc2 (Jd ci) bS.size)).trans ((bS.block _ (Jd ci)).trans ci)
 have cS:=(bz.block _ (Oc2 (Jd bR) bS.size)).trans ((bS.block _ (Jd bR)).trans bR)
 have ff:=cK.below bz
 have dr:=fL.of_blocks (fun k _ K _=>bz.block k K)
 have dS:=Jb dR (Jb bS bz)
 have fl:w.heap.size+3<C.heap.size:=Jd cK
 have dA:(C.alloc (.cells #[.pointer (some ⟨w.heap.size+3,0,none⟩)] 220)).heap.size=C.heap.size+1:=by rw[Oa7]
 clear dN gZ cP ci bR cK fL bS bz fd dR
 generalize C.alloc (.cells #[.pointer (some ⟨w.heap.size+3,0,none⟩)] 220)=bj at cQ cj cF cS ff dr dS dA ⊢
 generalize C.heap.size=bJ at cQ dr fl dA ⊢
 have cO:Hid (w.heap.size+3<bJ∧bj.heap.size=bJ+1):=⟨fl,dA⟩
 clear fl dA dh C
 have fG:=Jiz y.length bj dq
 have gV:bj.cell? ⟨w.heap.size,4,none⟩=some (.slice (some ⟨bM,eo,none⟩) y.length bV):=by simp[World.cell?,cj]
 go_upto_region 3 with(go_at_call 89;refine fG.mono ?_;rintro e bL ⟨rfl,dV,fE⟩)
 have dQ:Below bL.heap.size bL (bL.alloc (.cells #[.slice (some ⟨bj.heap.size,0,none⟩) y.length y.length] 75)):=Jc (Oa5 _ _) _
 have et:=heap_alloc_new bL (.cells #[.slice (some ⟨bj.heap.size,0,none⟩) y.length y.length] 75)
 have bX:=Jb fE dQ
 have fv:=(bX.block _ (Jd cj)).trans cj
 have g1:=(bX.block _ (Jd cF)).trans cF
 have g2:=(bX.block _ (Jd cS)).trans cS
 have dL:=(bX.block _ (Jd cQ)).trans cQ
 have fg:=ff.below bX
 have fM:=dr.of_blocks (fun k _ K _=>bX.block k (by have:=cO.out;omega))
 have cl:=Jb dS bX
 have bZ:=dV.below dQ
 have dB:bj.heap.size<bL.heap.size:=dV.row.lt
 have br:(bL.alloc (.cells #[.slice (some ⟨bj.heap.size,0,none⟩) y.length y.length] 75)).heap.size=bL.heap.size+1:=by rw[Oa7]
 clear fG gV cj cF cS cQ ff dr dS dV fE dQ bX
 generalize bL.alloc (.cells #[.slice (some ⟨bj.heap.size,0,none⟩) y.length y.length] 75)=cB at et fv g1 g2 dL fg fM cl bZ br ⊢
 generalize bL.heap.size=E at et dB br ⊢
 generalize bj.heap.size=A at et dB bZ cO ⊢
 have bK:Hid (w.heap.size+3<bJ∧A=bJ+1∧A<E∧cB.heap.size=E+1):=⟨cO.out.1,cO.out.2,dB,br⟩
 clear dB br bj bL cO
 have gU:cB.cell? ⟨w.heap.size,1,none⟩=some (.int .i64 (l:Int)):=by simp[World.cell?,fv]
 have gW:=(cA.out.1.below cl).cells.1
 have gN:=Jjb bA z k dI l H dH dG fr fs dJ fq (some ⟨g,0,none⟩) cols.length cap cB.drew (cA.out.1.below (Jj cl)) cA.out.2.1 (Ja cl cA.out.2.2.1) (by rw[←cA.out.2.2.2.1];exact Ol7 (cl.block z cG))
 have dm:=fun di=>Jh4 (.slice (some ⟨g,0,none⟩) cols.length cap) (H:Int) (some ⟨g,0,none⟩) cols.length cap rfl di
 have gP:z≠w.heap.size:=by omega
 have dw:=cA.out.2.2.2.2
 refine(wpIn_wide (n:=3)).1 (Code.wpIn_mono Jpf.imp ((wpIn_wide (n:=3)).2 (wp_region_held_drew (S:=fun di=>di.cell? ⟨w.heap.size,1,none⟩=some (.int .i64 (l:Int))∧di.cell? ⟨bA,0,none⟩=some (.int .i64 (H:Int))) (by kernel_rfl) ⟨gU,gW⟩ (fun bx=>?_))))
 refine tk 0 ?_ rfl bx ?_ (tk 1 ?_ rfl bx ?_ (tk 2 ?_ rfl bx ?_ (tk 4 ?_ rfl bx ?_ (tk 5 ?_ rfl bx ?_ (tk 6 ?_ rfl bx ?_ (tk 7 ?_ rfl bx ?_ (tk 8 ?_ rfl bx ?_ ?_)))))))
 iterate 8
  rotate_left 1
  ·intro w gB;(try dsimp only at gB);go_simp;try rfl
 simp only[Act.put,List.getElem_toArray,List.getElem_cons_zero,List.getElem_cons_succ,Oa1,List.set_cons_zero,List.set_cons_succ]
 refine wpAnyH_ready (rs:=[3]) (by kernel_rfl) (by simp) (AllReadyH.cons rfl (fun dg bD=>?_) AllReadyH.nil)
 go_simp
 refine gN.mono ?_
 rintro e bI ⟨rfl,dO⟩
 have gA:bI.cell? ⟨w.heap.size,1,none⟩=some (.int .i64 (l:Int))∧bI.cell? ⟨bA,0,none⟩=some (.int .i64 (H:Int)):=by rw[dO];exact⟨Uc (fun e=>gP (congrArg Addr.block e)) bx.1,Uc (fun e=>dw (congrArg Addr.block e).symm) bx.2⟩
 have de:Hid (bI=cB.drew.setCell ⟨z,l,none⟩ (.slice none 0 0)):=dO
 clear dO
 go_simp
 refine bD.out _ _ gA (fun bx=>?_)
 clear bD dg
 refine wpAnyH_ready (rs:=[9]) (by kernel_rfl) (by simp) (AllReadyH.cons rfl (fun dg bD=>?_) AllReadyH.nil)
 go_simp
 refine(dm bI).mono ?_
 rintro e bh ⟨rfl,dP⟩
 have dk:Below bI.heap.size bI bh:=by rw[dP];exact Jc (Jc (Oa5 _ _) _) _
 have df:Hid (bh=(bI.alloc (.cells #[.slice (some ⟨g,0,none⟩) cols.length cap] 75)).alloc (.cells #[.int .i64 (H:Int)] 3)):=dP
 clear dP
 go_simp
 refine bD.out _ _ ⟨Ja dk bx.1,Ja dk bx.2⟩ (fun bx=>?_)
 clear bD dg
 refine wpAnyH_done (by kernel_rfl) (Jpf.go ?_) _
 go_wp2_with fail
 refine(wpIn_wide (n:=3)).1 ?_
 have bO:bI.heap.size=E+1:=by rw[de.out,←bK.out.2.2.2];simp[World.setCell]
 have bP:bh.heap.size=E+3:=by rw[df.out,Oa7,Oa7,bO]
 have cn:∀ k,k<cB.heap.size→k≠z→bh.heap[k]?=cB.heap[k]?:=fun k K bn=>by
  have R:k<bI.heap.size:=by rw[bO,←bK.out.2.2.2];exact K
  rw[dk.block k R,de.out,Oa4 _ _ _ _ bn]
  rfl
 have gq:bh.heap[E+1]?=some (.cells #[.slice (some ⟨g,0,none⟩) cols.length cap] 75 (0,0)):=by
  have:=heap_alloc_new bI (.cells #[.slice (some ⟨g,0,none⟩) cols.length cap] 75)
  rw[df.out,Oa9 _ _ _ (by rw[Oa7,bO];omega),←bO]
  exact this
 have gn:bh.heap[E+1+1]?=some (.cells #[.int .i64 (H:Int)] 3 (0,0)):=by
  have:=heap_alloc_new (bI.alloc (.cells #[.slice (some ⟨g,0,none⟩) cols.length cap] 75)) (.cells #[.int .i64 (H:Int)] 3)
  rw[Oa7,bO]at this
  rw[df.out]
  exact this
 have dt:Ju (·=z) w bh:=by
  rw[df.out,de.out]
  exact Ju.alloc (Ju.alloc (Ju.set (F:=fun x=>x=z) (Ju.of_below (Jj cl)) rfl l _) _) _
 have br:=bK.out
 have gH:bh.heap[z]?=Jdc w z l:=by
  rw[dk.block z (by have:=bK.out;omega),de.out]
  exact Jol (cl.block z cG)
 have gy:Jj0 w H z l (E+3) (w.heap.size+3) bJ E A ex y cols [] bh:=by
  refine⟨(cn _ (Jd g1) (by omega)).trans g1,(cn _ (Jd g2) (by omega)).trans g2,(cn _ (Jd dL) (by omega)).trans dL,(cn _ (Jd et) (by omega)).trans et,⟨_,_,_,_,_,(cn _ (Jd fg) (by omega)).trans fg⟩,fM.of_blocks (fun k bc Z _=>cn k (by omega) (by omega)),fun x X=>by simp at X,⟨by omega,by omega⟩,⟨List.replicate y.length (.slice none 0 0),?_,?_⟩,dt,by omega,fun x X=>(by simp at X),cG,gH⟩
  ·have e:Un y cols []=List.replicate y.length []:=by
    unfold Un
    rw[List.eq_replicate_iff]
    simp
   rw[e]
   refine⟨bZ.row.of_block (cn A (by omega) (by omega)),bZ.low,bZ.len,fun i hi=>Jl (bZ.own i hi) fun g e=>?_,bZ.ne,bZ.apart⟩
   have:Uq (List.replicate y.length (Value.slice none 0 0)) i=.slice none 0 0:=by
    unfold Uq
    rw[Oa0,Of3]
    split<;>rfl
   rw[this]at e
   cases e
  intro j c _ e
  have:Uq (List.replicate y.length (Value.slice none 0 0)) j=.slice none 0 0:=by
   unfold Uq
   rw[Oa0,Of3]
   split<;>rfl
  rw[this]at e
  cases e
 have gh:Hid (Jj0 w H z l (E+3) (w.heap.size+3) bJ E A ex y cols [] bh):=gy
 have jd:Hid (∀ k,k<w.heap.size→k≠z→bh.heap[k]?=w.heap[k]?):=fun k K bn=>dt.block k K bn
 have gw:Qd bh g hs cols:=bu.out.1.kp (Fx:=fun k=>k<w.heap.size∧k≠z) ⟨dt.size,fun k K=>dt.block k K.1 K.2⟩ ⟨⟨bu.out.2.2.2.2.1,bu.out.2.2.2.1.1⟩,fun j D b o e=>⟨bu.out.2.2.2.2.2 j D b o e,bu.out.2.2.2.1.2 j D b o e⟩⟩
 rw[bO]
 refine Jg8 rfl (by omega) (gf:=150) (lb:=#[.pointer (some ⟨E+1,0,none⟩),.pointer (some ⟨E+1+1,0,none⟩)]) rfl trivial (enters_of func150 (by kernel_rfl) rfl)
  (Jjx 2 (by omega) (E+1) (E+1+1) g cap hs cols N H dz gT gz fX gO bh gw bu.out.2.1 (by simp[World.cell?,gq]) (by simp[World.cell?,gn]) (fun k=>k=E+1∨k=E+1+1∨(k<w.heap.size∧k≠z)) ⟨.inl rfl,.inr (.inl rfl),.inr (.inr ⟨bu.out.2.2.2.2.1,bu.out.2.2.2.1.1⟩),fun j D b o e=>.inr (.inr ⟨bu.out.2.2.2.2.2 j D b o e,bu.out.2.2.2.1.2 j D b o e⟩)⟩ (fun k K=>by omega))
  (fun h k=>h.trans k) ?hKb (Oa5 _ _) (fun _=>rfl)
  (fun bf W=>Jj0 w H z l (E+3) (w.heap.size+3) bJ E A ex y cols (bf.map fun x=>(x.1,x.2.1)) W)
  (fun c bf W=>c=.ret∧Jq9 w z cE cM y cols (bf.map fun x=>(x.1,x.2.1)) W)
  ?hI ?hIx ?hR gh.out (fun x=>{tmps:=#[.pointer (some ⟨bA,0,none⟩),.agg #[.int .i64 op,.int .i64 (l:Int),.int .i64 r,.string tn,.slice (some ⟨bM,eo,none⟩) y.length bV,ky,.int .i64 kk],undef,.pointer (some ⟨w.heap.size,0,none⟩),.pointer (some ⟨w.heap.size+1,0,none⟩),.pointer (some ⟨w.heap.size+1+1,0,none⟩),.pointer (some ⟨bJ,0,none⟩),.pointer (some ⟨E,0,none⟩),.int .i64 (x.1:Int),.slice (some ⟨x.2.2,0,none⟩) cols.length cols.length,undef,undef,.pointer (some ⟨w.heap.size,4,none⟩),.slice (some ⟨bM,eo,none⟩) y.length bV,.pointer (some ⟨w.heap.size+3,0,none⟩),.pointer (some ⟨w.heap.size,4,none⟩),.slice (some ⟨bM,eo,none⟩) y.length bV,.int .i64 (y.length:Int),.slice (some ⟨A,0,none⟩) y.length y.length,.pointer (some ⟨bA,0,none⟩),.pointer (some ⟨w.heap.size,1,none⟩),.int .i64 (l:Int),.slice (some ⟨g,0,none⟩) cols.length cap,.pointer (some ⟨bA,0,none⟩),.pointer (some ⟨bA,0,none⟩),.pointer (some ⟨bA,0,none⟩),.pointer (some ⟨bA,0,none⟩),.int .i64 (H:Int),.func (.func 150) #[] #[.pointer (some ⟨E+1,0,none⟩),.pointer (some ⟨E+1+1,0,none⟩)],.int .i64 (x.1:Int),.slice (some ⟨x.2.2,0,none⟩) cols.length cols.length,undef,undef,undef,undef,undef,undef,undef,undef,undef,undef,undef,undef,undef,undef],defers:=[]}) ?assign ?body ?done ?stop
 case hKb=>
  intro W l o cf cW cb _ _
  exact⟨by simp,fun k K=>World.putObj_heap_other (by omega)⟩
 case hI=>
  intro s W fu row h cV bN
  exact h.kept (by omega) cV fun r e=>⟨by have:=(bN r e).1;omega,(bN r e).2⟩
 case hIx=>
  rintro c s W fu row ⟨bY,h⟩ cV bN
  exact⟨bY,h.kept (L:=E+3) (by omega) cV fun r e=>⟨by have:=(bN r e).1;omega,(bN r e).2⟩⟩
 case hR=>
  rintro x W fu row ⟨bc,Z,bB,bW⟩ cV bN
  exact⟨bc,Z,bB,bW.ck (CK.of_grown cV fun r e=>(bN r e).2)⟩
 case assign=>
  clear br bO bP
  intro l x W dg bD
  gi_wp2
  exact bD
 case body=>
  rintro fp bf ⟨f,m,fw⟩ W hI ⟨fh,⟨fi,fj⟩,fk,dy⟩ da
  simp only at fh fi fj fk dy
  obtain⟨ba,cj,gX,ja,gs,cK⟩:=hI.wk
  have cI:(cols.map (Jbx f (f+m))).length=cols.length:=by rw[Oa6]
  have dT:∀ j,j<(cols.map (Jbx f (f+m))).length→∀ cT o,(Yo (Jnt hs cols.length f (f+m)) j).1=some ⟨cT,o,none⟩→cT<w.heap.size:=fun j D cT o e=>by
   rw[cI]at D
   rcases bu.out.1.vals j D with h0|⟨je,jf,gD,cW,_⟩
   ·have:=bu.out.2.1 j D
    rw[h0]at this
    simp at this
    omega
   rw[Jmn D gD e]
   exact cW
  have hcut:∀ j,j<(cols.map (Jbx f (f+m))).length→((cols.map (Jbx f (f+m))).getD j []).length=m:=fun j D=>by
   rw[cI]at D
   rw[Oa0,Ob1,Oa3 D]
   have:=bu.out.2.1 j D
   rw[Oa0,Oa3 D]at this
   simp only[Option.map_some,Option.getD_some]at this ⊢
   rw[Jca (by omega)]
   omega
  have du:=hI.keep
  have cH:=Jm cz.out.1.d
  have fT:=Jm cz.out.1.o
  simp only at cH fT
  have cY:=Jx4 w.heap.size (w.heap.size+3) ex ba cj gX ja gs fw cols.length (Jnt hs cols.length f (f+m)) (cols.map (Jbx f (f+m))) f m y cE cM W cK hI.exs.at (by rw[cI];exact dE.out.2) dq ⟨by omega,fun j D=>dy.row.cell D,dy.vals,fun j D cT o e=>by have:=dT j D cT o e;omega⟩ (by rw[cI];exact fX) hcut dT (fun i hi v fW=>by rw[Yw cols f m i hi]at fW;exact bu.out.2.2.1 (f+i) (by omega) v fW) (by omega) (by omega) ⟨du.cell cz.out.1.d (fun e=>cz.out.2.1 e.symm),du.cell cz.out.1.o (fun e=>cz.out.2.2 e.symm)⟩ du.size ⟨by omega,by omega⟩
  rw[cI]at cY
  have cw:W.cell? ⟨bJ,0,none⟩=some (.pointer (some ⟨w.heap.size+3,0,none⟩)):=by simp[World.cell?,hI.bw]
  have M:Hid (Jj0 w H z l (E+3) (w.heap.size+3) bJ E A ex y cols (bf.map fun x=>(x.1,x.2.1)) W):=hI
  have ft:Hid (f+m≤N∧1≤m∧m≤H∧bh.heap.size≤fw∧bf.length<ckN N H):=⟨fh,fi,fj,fk,da⟩
  have bU:Hid (bh.heap.size=E+3∧z<w.heap.size):=⟨bP,cG⟩
  clear hI fh fi fj fk dy da cK dT hcut cI cH fT du br bO bP
  by_cases fF:∀ i,i<m→Kr y (Ji (cols.map (Jbx f (f+m))) i)=0
  ·have fb:=cY.mono fun e w' h=>h.ok fF
   clear cY
   have br:=bK.out
   have dY:=M.out.low
   obtain⟨bH,U,cv⟩:=M.out.ct
   have dm:=M.out.bt
   have fH:∀ (sv:Value) (O:List (Option Addr×Nat×List V)) (C:World),Ju (·=w.heap.size+3) W C→Jo C W.heap.size 58 sv (O.map slV)→O.length=y.length→(∀ q∈O,Jv C q.1 q.2.2∧q.2.2.length=m)→(∀ q∈O,∀ g o,q.1=some ⟨g,o,none⟩→g≠w.heap.size+3∧g<C.heap.size∧(g<w.heap.size∨W.heap.size≤g)) →
     ∃ g2 cp,sv=.slice (some ⟨g2,0,none⟩) y.length cp∧Calls prog 119 #[.slice (some ⟨A,0,none⟩) y.length y.length,.slice (some ⟨g2,0,none⟩) y.length cp] C fun e w'=>e=.returned (.tuple #[])∧(∃ cN,Jar w' A A cN (Jdi (Un y cols (bf.map fun x=>(x.1,x.2.1))) (O.map (·.2.2)) (Un y cols (bf.map fun x=>(x.1,x.2.1))).length)∧∀ j b,j<y.length→(Uq cN j).ownBlock=some b→E+3≤b)∧Below A C w'∧C.heap.size≤w'.heap.size∧∀ x,x<C.heap.size→x≠A→(∀ j,j<y.length→(Uq bH j).ownBlock≠some x)→w'.heap[x]?=C.heap[x]?:=by
    intro sv O C R cZ cr cJ cX
    have jr:=R.size
    have bE:(Un y cols (bf.map fun x=>(x.1,x.2.1))).length=y.length:=Up _ _ _
    obtain⟨g2,cp,cx,fI⟩:=Jcs (b:=w.heap.size+3) cZ (by omega) (fun e=>by rw[e]at cr;simp at cr;omega) (fun q db=>(cJ q db).1) fun q db g o e=>(cX q db g o e).1
    have cH:(O.map (·.2.2)).length=y.length:=by rw[Oa6,cr]
    rw[cH]at cx
    have gJ:W.heap.size≤g2∧g2<C.heap.size:=Je cZ (by rw[cx];rfl)
    have fU:∀ j b,j<y.length→(Uq bH j).ownBlock=some b→E+3≤b∧b<W.heap.size:=fun j b D e=>⟨cv j b D e,(Je (U.own j (by rw[bE];exact D)) e).2⟩
    have gC:Jar C A A bH (Un y cols (bf.map fun x=>(x.1,x.2.1))):=⟨U.row.of_block (R.block A U.row.lt (by show ¬ A=w.heap.size+3;omega)),U.low,U.len,fun i hi=>Jl (U.own i hi) fun g e=>R.block g (Je (U.own i hi) e).2 (by have:=cv i g (by rw[bE]at hi;exact hi) e;show ¬ g=w.heap.size+3;omega),U.ne,U.apart⟩
    have fK:∀ k bQ cf,k<(O.map (·.2.2)).length→(Yo (O.map fun q=>(q.1,q.2.1)) k).1=some ⟨bQ,cf,none⟩→bQ<w.heap.size∨W.heap.size≤bQ:=fun k bQ cf K e=>by
     rw[Oa6]at K
     have bR:Yo (O.map fun q=>(q.1,q.2.1)) k=(O[k].1,O[k].2.1):=by unfold Yo;rw[Oa0,Ob1,Oa3 K];rfl
     rw[bR]at e
     exact(cX _ (Ob3 K) bQ cf e).2.2
    have gE:∀ j,j<(Un y cols (bf.map fun x=>(x.1,x.2.1))).length→((Un y cols (bf.map fun x=>(x.1,x.2.1))).getD j []).length+((O.map (·.2.2)).getD j []).length≤1000000:=fun j D=>by
     rw[bE]at D
     have bc:=Jyu cols (bf.map fun x=>(x.1,x.2.1)) H M.out.tot (Oa3 D)
     have Z:((O.map (·.2.2)).getD j []).length=m:=by
      rw[Oa0,Ob1,Oa3 (by omega:j<O.length)]
      exact(cJ _ (Ob3 _)).2
     have bB:=ft.out
     have bW:=Jxx (N:=N) dz bB.2.2.2.2
     rw[Oa6]at bc
     omega
    have dj:=Kb4 A A y.length bH (Un y cols (bf.map fun x=>(x.1,x.2.1))) g2 cp (O.map fun q=>(q.1,q.2.1)) (O.map (·.2.2)) C gC ⟨gJ.2,fI.cell,fI.vals⟩ (by rw[cH,bE]) gE (by omega) (by rw[bE];exact dq) (fun j b D e=>by
     rw[bE]at D
     have bc:=fU j b D e
     exact⟨by omega,fun k bQ cf K dK=>by have:=fK k bQ cf K dK;omega⟩) ⟨by omega,fun k bQ cf K dK=>by have:=fK k bQ cf K dK;omega⟩
    rw[cH,bE]at dj
    refine⟨g2,cp,cx,dj.mono fun e w' h=>?_⟩
    obtain⟨bc,⟨cN,Z,bB⟩,gv,bW,dM⟩:=h
    rw[bE]
    exact⟨bc,⟨cN,Z,fun j b D e=>by rcases bB j b D e with h|h;exact(fU j b D h).1;omega⟩,gv,bW,dM⟩
   have gg:Hid _:=fH
   have cy:Hid (Jar W A A bH (Un y cols (bf.map fun x=>(x.1,x.2.1)))∧∀ j c,j<y.length→(Uq bH j).ownBlock=some c→E+3≤c):=⟨U,cv⟩
   clear fH U cv br dY
   gi_wp2_with (first|(refine⟨trivial,?_⟩;gi_at_call 117;refine(CallsIn.inRound fp (callsIn_wide.2 fb)).mono ?_;rintro e C ⟨sv,O,rfl,R,gQ,cZ,cr,cJ,cX,fV⟩;obtain⟨g2,cp,cx,dj⟩:=gg.out sv O C R cZ cr cJ cX;subst cx;have ct:C.cell? ⟨E,0,none⟩=some (.slice (some ⟨A,0,none⟩) y.length y.length):=R.cell (by simp[World.cell?,dm]) (by have:=bK.out;show ¬ E=w.heap.size+3;omega);have dd:Hid (O.length=y.length∧(∀ q∈O,q.2.2.length=m)∧∀ i,i<m→∀ k e,y[k]?=some e→Kl e (Ji (cols.map (Jbx f (f+m))) i)=.inl (((O.map (·.2.2)).getD k []).getD i Jf)):=⟨cr,fun q db=>(cJ q db).2,fV⟩;clear cZ cr cJ cX fV)|(refine⟨trivial,?_⟩;gi_at_call 119;refine(CallsIn.inRound fp (callsIn_wide.2 dj)).mono ?_;rintro e bj ⟨rfl,⟨cN,dp,cx⟩,bz,jl,fY⟩))
   have br:=bK.out
   have dY:=M.out.low
   have fZ:=M.out.keep.size
   have dX:=R.size
   have gS:=ft.out
   have bP:=bU.out
   have bE:(Un y cols (bf.map fun x=>(x.1,x.2.1))).length=y.length:=Up _ _ _
   have fR:∀ k,(∀ j,j<y.length→(Uq bH j).ownBlock≠some k)→k<W.heap.size→k≠A→k≠w.heap.size+3→bj.heap[k]?=W.heap[k]?:=fun k bc Z bB bW=>by rw[fY k (by omega) bB bc,R.block k Z bW]
   have ca:∀ k,k<E+3→k≠A→k≠w.heap.size+3→bj.heap[k]?=W.heap[k]?:=fun k bc Z bB=>fR k (fun j D e=>by have:=cy.out.2 j k D e;omega) (by omega) Z bB
   have gK:Ju (·=z) w bj:=by
    have bl:=M.out.keep
    exact⟨bz.os.trans (R.os.trans bl.os),bz.tape.trans (R.tape.trans bl.tape),bz.output.trans (R.output.trans bl.output),by omega,fun k K bn=>(ca k (by omega) (by omega) (by omega)).trans (bl.block k K bn)⟩
   refine⟨⟨by omega,fun k o K cb bY=>?_⟩,⟨by omega,fun k K=>ca k (by omega) (by omega) (by omega)⟩,?_⟩
   ·rw[fR k (fun j D e=>?_) (Jd cb) (by omega) (by omega)]
    ·exact cb
    obtain⟨jg,gG⟩:=Ja4 (cy.out.1.own j (by rw[bE];exact D)) e
    rw[gG]at cb
    cases cb
    simp[Obj.isCells]at bY
   obtain⟨gm,cF,gY,jb,gt,gR⟩:=gQ
   rw[Ob8]
   refine⟨(ca _ (by omega) (by omega) (by omega)).trans M.out.b1,(ca _ (by omega) (by omega) (by omega)).trans M.out.b2,(ca _ (by omega) (by omega) (by omega)).trans M.out.bw,(ca _ (by omega) (by omega) (by omega)).trans dm,⟨gm,cF,gY,jb,gt,?_⟩,M.out.exs.of_blocks (fun k bc Z bB=>ca k (by omega) (by omega) bB),?_,⟨by omega,dY.2⟩,⟨cN,?_,cx⟩,gK,by omega,?_,M.out.dl,(ca z (by omega) (by omega) (by omega)).trans M.out.dn⟩
   ·show bj.heap[w.heap.size+3]?=_
    rw[fY _ (by omega) (by omega) (fun j D e=>by have:=cy.out.2 j _ D e;omega)]
    exact gR
   ·intro x X
    rw[Od2]at X
    rcases X with X|X
    ·exact M.out.tot x X
    simp only[Oe4,Oi4,Oc6]at X
    subst X
    exact gS.2.2.1
   ·rw[Jwo y cols (bf.map fun x=>(x.1,x.2.1)) f m (O.map (·.2.2)) (by rw[Oa6];exact dd.out.1) (fun k K=>?_) (fun i hi k e bT=>?_)]at dp
    ·exact dp
    ·rw[Oa6]at K
     rw[Oa0,Ob1,Oa3 K]
     exact dd.out.2.1 _ (Ob3 K)
    have:=dd.out.2.2 i hi k e bT
    rwa [Yw cols f m i hi]at this
   intro x X i hi e bT
   rw[Od2]at X
   rcases X with X|X
   ·exact M.out.run x X i hi e bT
   simp only[Oe4,Oi4,Oc6]at X
   subst X
   obtain⟨k,K⟩:=Ok2.1 bT
   have:=dd.out.2.2 i hi k e K
   rw[Yw cols f m i hi]at this
   exact⟨_,this⟩
  have fb:=cY.mono fun e w' h=>h.bad fF
  clear cY
  have b2:=M.out.b2
  have b1:=M.out.b1
  gi_wp2_with (first|(refine⟨trivial,?_⟩;gi_at_call 117;refine(CallsIn.inRound fp (callsIn_wide.2 fb)).mono ?_;rintro e C ⟨bi,dC,bG,rfl,R,dZ,dW,bn,dc,ds⟩;have ch:=(R.block _ (Jd b1) (by show ¬ w.heap.size+1=w.heap.size+3;omega)).trans b1;have cD:=(R.block _ (Jd b2) (by show ¬ w.heap.size+2=w.heap.size+3;omega)).trans b2;have jm:C.cell? ⟨w.heap.size+1,0,none⟩=some (.slice none 0 0):=(by simp[World.cell?,ch]);have jn:C.frozen? ⟨w.heap.size+1,0,none⟩=false:=(by simp[World.frozen?,ch]);have jo:C.cell? ⟨w.heap.size+1+1,0,none⟩=some .nilIface:=(by simp[World.cell?,cD]);have jp:C.frozen? ⟨w.heap.size+1+1,0,none⟩=false:=(by simp[World.frozen?,cD]);have dD:Hid (C.heap[w.heap.size+1]?=some (.cells #[.slice none 0 0] 75 (0,0))∧C.heap[w.heap.size+1+1]?=some (.cells #[.nilIface] 77 (0,0))):=⟨ch,cD⟩;clear ch cD))
  have br:=bK.out
  have ji:=M.out.size
  have fZ:=M.out.keep.size
  have ch:=Jk dD.out.1 0 (.slice none 0 0)
  have cD:=Jk dD.out.2 0 (Qv bi)
  simp only[Oa1,List.set_cons_zero]at ch cD
  have ci:((C.setCell ⟨w.heap.size+1,0,none⟩ (.slice none 0 0)).setCell ⟨w.heap.size+1+1,0,none⟩ (Qv bi)).heap[w.heap.size+1]?=some (.cells #[.slice none 0 0] 75 (0,0)):=by rw[Oa4 _ _ _ _ (by show w.heap.size+1≠w.heap.size+1+1;omega)];exact ch
  have bR:((C.setCell ⟨w.heap.size+1,0,none⟩ (.slice none 0 0)).setCell ⟨w.heap.size+1+1,0,none⟩ (Qv bi)).heap[w.heap.size+1+1]?=some (.cells #[Qv bi] 77 (0,0)):=by
   have:=Jk (w:=C.setCell ⟨w.heap.size+1,0,none⟩ (.slice none 0 0)) (b:=w.heap.size+1+1) (cs:=#[.nilIface]) (t:=77) (by rw[Oa4 _ _ _ _ (by show w.heap.size+1+1≠w.heap.size+1;omega)];exact dD.out.2) 0 (Qv bi)
   simpa only[Oa1,List.set_cons_zero] using this
  have cc:∀ k,k≠w.heap.size+1→k≠w.heap.size+1+1→((C.setCell ⟨w.heap.size+1,0,none⟩ (.slice none 0 0)).setCell ⟨w.heap.size+1+1,0,none⟩ (Qv bi)).heap[k]?=C.heap[k]?:=fun k bc Z=>by rw[Oa4 _ _ _ _ Z,Oa4 _ _ _ _ bc]
  have dx:((C.setCell ⟨w.heap.size+1,0,none⟩ (.slice none 0 0)).setCell ⟨w.heap.size+1+1,0,none⟩ (Qv bi)).heap.size=C.heap.size:=by simp[World.setCell]
  have dX:=R.size
  refine⟨⟨Ob2 dX (Oo0 dx.symm),fun k o K cb bY=>?_⟩,rfl,ci,⟨bi,dC,bG,bf.map (fun x=>(x.1,x.2.1)),(f,m),by rw[Ob8];rfl,dZ,bR,by omega,?_,?_,M.out.run,fun i hi=>?_⟩,?_⟩
  ·have gM:=Jd cb
   rw[cc k (by have:=bU.out;omega) (by have:=bU.out;omega),R.block k gM (by show ¬ k=w.heap.size+3;have:=bU.out;omega)]
   exact cb
  ·rw[Yw cols f m bG dZ]at bn
   exact bn
  ·rw[Yw cols f m bG dZ]at dc
   exact dc.of_block (cc bi (by omega) (by omega))
  ·have:=ds i hi
   rwa [Yw cols f m i (by omega)]at this
  have bl:=M.out.keep
  refine⟨R.os.trans bl.os,R.tape.trans bl.tape,R.output.trans bl.output,Ob2 (Ob2 fZ dX) (Oo0 dx.symm),fun k K bn=>?_⟩
  rw[cc k (by omega) (by omega),R.block k (by omega) (by show ¬ k=w.heap.size+3;omega)]
  exact bl.block k K bn
 case done=>
  rintro bC jq W gx gb hI bD
  rw[gb]at hI
  obtain⟨bH,U,cv⟩:=hI.ct
  have c2:W.cell? ⟨w.heap.size+1,0,none⟩=some (.slice none 0 0):=by simp[World.cell?,hI.b1]
  have cS:W.frozen? ⟨w.heap.size+1,0,none⟩=false:=by simp[World.frozen?,hI.b1]
  have cC:W.heap[w.heap.size+1+1]?=some (.cells #[.nilIface] 77 (0,0)):=hI.b2
  have c3:W.cell? ⟨w.heap.size+1+1,0,none⟩=some .nilIface:=by simp[World.cell?,cC]
  have jh:W.frozen? ⟨w.heap.size+1+1,0,none⟩=false:=by simp[World.frozen?,cC]
  have c4:W.cell? ⟨E,0,none⟩=some (.slice (some ⟨A,0,none⟩) y.length y.length):=by simp[World.cell?,hI.bt]
  have M:Hid (Jj0 w H z l (E+3) (w.heap.size+3) bJ E A ex y cols (cks N H (ckN N H)) W):=hI
  have cy:Hid (Jar W A A bH (Un y cols (cks N H (ckN N H)))∧∀ j c,j<y.length→(Uq bH j).ownBlock=some c→E+3≤c):=⟨U,cv⟩
  have bU:Hid (bh.heap.size=E+3∧z<w.heap.size):=⟨bP,cG⟩
  clear hI gb U cv cC br bO bP
  go_wp2_with fail
  have br:=bK.out
  have bP:=bU.out
  have fB:=((KeepsOthers.setCell W ⟨w.heap.size+1,0,none⟩ (.slice (some ⟨A,0,none⟩) y.length y.length)).trans (KeepsOthers.setCell _ ⟨w.heap.size+1+1,0,none⟩ .nilIface)).same bC _ bD rfl
  refine⟨by simp,.inl ⟨_,_,rfl,run_takeDeferred fB,?_⟩⟩
  have g2:((W.setCell ⟨w.heap.size+1,0,none⟩ (.slice (some ⟨A,0,none⟩) y.length y.length)).setCell ⟨w.heap.size+1+1,0,none⟩ .nilIface).cell? ⟨w.heap.size+1,0,none⟩=some (.slice (some ⟨A,0,none⟩) y.length y.length):=by
   rw[Ob5 _ _ _ _ (by simp)]
   exact Oj0 _ _ _ (by rw[c2];rfl)
  have gu:((W.setCell ⟨w.heap.size+1,0,none⟩ (.slice (some ⟨A,0,none⟩) y.length y.length)).setCell ⟨w.heap.size+1+1,0,none⟩ .nilIface).cell? ⟨w.heap.size+1+1,0,none⟩=some .nilIface:=
   Oj0 _ _ _ (by rw[Ob5 _ _ _ _ (by simp),c3];rfl)
  have cu:∀ r,some bC=some r→∃ o:Obj,((W.setCell ⟨w.heap.size+1,0,none⟩ (.slice (some ⟨A,0,none⟩) y.length y.length)).setCell ⟨w.heap.size+1+1,0,none⟩ .nilIface).heap[r]?=some o∧o.isCells=false:=fun r e=>by cases e;exact⟨_,fB,rfl⟩
  have cc:∀ k,k≠w.heap.size+1→k≠w.heap.size+1+1→((W.setCell ⟨w.heap.size+1,0,none⟩ (.slice (some ⟨A,0,none⟩) y.length y.length)).setCell ⟨w.heap.size+1+1,0,none⟩ .nilIface).heap[k]?=W.heap[k]?:=fun k bc Z=>by rw[Oa4 _ _ _ _ Z,Oa4 _ _ _ _ bc]
  have dx:((W.setCell ⟨w.heap.size+1,0,none⟩ (.slice (some ⟨A,0,none⟩) y.length y.length)).setCell ⟨w.heap.size+1+1,0,none⟩ .nilIface).heap.size=W.heap.size:=by simp[World.setCell]
  have bE:(Un y cols (cks N H (ckN N H))).length=y.length:=Up _ _ _
  have bl:=M.out.keep
  have gL:Ju (·=z) w ((W.setCell ⟨w.heap.size+1,0,none⟩ (.slice (some ⟨A,0,none⟩) y.length y.length)).setCell ⟨w.heap.size+1+1,0,none⟩ .nilIface):=⟨bl.os,bl.tape,bl.output,Ob2 bl.size (Oo0 dx.symm),fun k K bn=>(cc k (by omega) (by omega)).trans (bl.block k K bn)⟩
  have U:=cy.out.1
  have dp:Jar ((W.setCell ⟨w.heap.size+1,0,none⟩ (.slice (some ⟨A,0,none⟩) y.length y.length)).setCell ⟨w.heap.size+1+1,0,none⟩ .nilIface) A A bH (Un y cols (cks N H (ckN N H))):=⟨U.row.of_block (cc A (by omega) (by omega)),U.low,U.len,fun i hi=>Jl (U.own i hi) fun g e=>by have:=cy.out.2 i g (by rw[bE]at hi;exact hi) e;exact cc g (by omega) (by omega),U.ne,U.apart⟩
  have fm:=cell_kept g2 (grownBy_putObj' _ bC (.deferred none)) cu
  have fo:=cell_kept gu (grownBy_putObj' _ bC (.deferred none)) cu
  have dU:=CK.of_grown (grownBy_putObj' _ bC (.deferred none)) cu
  refine⟨.tuple #[.slice (some ⟨A,0,none⟩) y.length y.length,.nilIface],by simp[results,Tryz.f83,go_sem,fm,fo],?_⟩
  refine⟨Jau gL (grownBy_putObj' _ bC (.deferred none)) (fun r e=>by cases e;omega),.inl ⟨A,bH,rfl,by omega,?_,fun i hi e bT=>?_,(World.putObj_heap_other (by omega)).trans ((cc z (by omega) (by omega)).trans M.out.dn)⟩⟩
  ·rw[←Kbb y cols N H dz]
   exact dp.ck dU
  obtain⟨x,X,t,fe,rfl⟩:=Jgt N H (ckN N H) i (by rw[Ol4 (Jcy dz)];exact hi)
  exact M.out.run x X t fe e bT
 case stop=>
  rintro bC c bf W gx ⟨k,K,da⟩ ⟨rfl,cU⟩ bD
  rw[da]at cU
  obtain⟨bi,dC,bG,O,x,dv,jk,bz,dW,bn,dc,fD,ds⟩:=cU.err
  have c2:W.cell? ⟨w.heap.size+1,0,none⟩=some (.slice none 0 0):=by simp[World.cell?,cU.b1]
  have cC:W.heap[w.heap.size+1+1]?=some (.cells #[Qv bi] 77 (0,0)):=bz
  have c3:W.cell? ⟨w.heap.size+1+1,0,none⟩=some (Qv bi):=by simp[World.cell?,cC]
  have gj:Hid (Ju (·=z) w W):=cU.keep
  have fc:x.1+bG<N∧∀ i,i<x.1+bG→∀ e∈y,∃ v,Kl e (Ji cols i)=.inl v:=by
   cases k with
   |zero=>simp[cks]at dv
   |succ k=>
    rw[Jbj]at dv
    obtain⟨bc,Z⟩:=List.append_inj' dv rfl
    simp only[List.cons.injEq,and_true]at Z
    have ci:x.1=k*H:=by rw[←Z];rfl
    have bR:x.2=min H (N-k*H):=by rw[←Z];rfl
    refine⟨by omega,fun i hi e bT=>?_⟩
    by_cases jj:i<k*H
    ·obtain⟨jc,ga,t,fe,rfl⟩:=Jgt N H k i (by omega)
     rw[bc]at ga
     exact fD jc ga t fe e bT
    have:=ds (i-x.1) (by omega) e bT
    rwa [show x.1+(i-x.1)=i by omega]at this
  have gi:Hid (x.1+bG<N∧(∀ i,i<x.1+bG→∀ e∈y,∃ v,Kl e (Ji cols i)=.inl v)∧Kr y (Ji cols (x.1+bG))≠0∧Ja8 W bi ((x.1+bG:Nat):Int) dC (Jdb cE cM (Kr y (Ji cols (x.1+bG))))∧w.heap.size≤bi):=⟨fc.1,fc.2,bn,dc,dW⟩
  have bU:Hid (bh.heap.size=E+3∧z<w.heap.size):=⟨bP,cG⟩
  clear cU da dv fc bn dc fD ds bz cC br bO bP dW
  gi_wp2
  have br:=bK.out
  have bP:=bU.out
  have cu:∀ r,some bC=some r→∃ o:Obj,W.heap[r]?=some o∧o.isCells=false:=fun r e=>by cases e;exact⟨_,bD,rfl⟩
  refine⟨by simp,.inl ⟨_,_,rfl,run_takeDeferred bD,?_⟩⟩
  have fm:=cell_kept c2 (grownBy_putObj' _ bC (.deferred none)) cu
  have fo:=cell_kept c3 (grownBy_putObj' _ bC (.deferred none)) cu
  have dU:=CK.of_grown (grownBy_putObj' W bC (.deferred none)) cu
  refine⟨.tuple #[.slice none 0 0,Qv bi],by simp[results,Tryz.f83,go_sem,fm,fo],?_⟩
  obtain⟨bc,Z,bB,bW,dM⟩:=gi.out
  exact⟨Jau gj.out (grownBy_putObj' _ bC (.deferred none)) (fun r e=>by cases e;omega),.inr ⟨bi,dC,x.1+bG,rfl,bc,dM,bB,dU.cells _ _ _ _ bW,Z⟩⟩
end Go.Proofs.YtjjdldddcegjiaaGreatDoor
