/- All expressions of a Work on a batch. -/
import Derived.Test.YtjjdldddcegjiaaGreatDoorXg
import Derived.Test.YtjjdldddcegjiaaGreatDoorKq
set_option maxHeartbeats 2000000
set_option maxRecDepth 100000
namespace Go.Proofs.YtjjdldddcegjiaaGreatDoor
open Go.RowKit Go.Shelf Tryz
attribute [local go_sem] Oc0
def Kr:List (List Pt)→List V→Nat
 |[],_=>0
 |e::es,x=>match Kl e x with|.inl _=>Kr es x|.inr c=>c
theorem Jiy {es:List (List Pt)}(y:List (List Pt)){x:List V}(h:∀ e∈es,∃ v,Kl e x=.inl v):Kr (es++y) x=Kr y x:=by
 induction es with
 |nil=>rfl
 |cons e es D=>
  obtain⟨v,C⟩:=h e (Of4 ..)
  simp only[List.cons_append,Kr,C]
  exact D fun z A=>h z (Og1 _ A)
theorem Kek {y:List (List Pt)}{j c:Nat}{es:List Pt}{x:List V}(C:y[j]?=some es)(h:∀ k e,y[k]?=some e→k<j→∃ v,Kl e x=.inl v)(A:Kl es x=.inr c):Kr y x=c:=by
 obtain⟨E,D⟩:=Ob9.1 C
 have M:y=y.take j++(es::y.drop (j+1)):=by rw[←D,←Oi1 E,Ok3]
 rw[M,Jiy]
 ·simp only[Kr,A]
 intro e K
 obtain⟨k,z⟩:=Ok2.1 K
 rw[Oe7]at z
 split at z
 ·rename_i H;exact h k e z H
 cases z
def Jx0 (w:World)(b:Nat)(ex:Value)(z:List (List Pt)):Prop:=∃ y C,ex=.slice (some ⟨y,0,none⟩) z.length C∧y≠b∧∀ j es,z[j]?=some es→∃ A D,w.cell? ⟨y,j,none⟩=some (.slice (some ⟨A,0,none⟩) es.length D)∧Jco w A b es
def Jga (W:Nat)(y:List (List Pt)):Prop:=∀ es∈y,es≠[]∧es.length≤1000∧∀ j p,es[j]?=some p→Jr0 W j p
structure OnS (B0:Nat) (w:World) (b:Nat) (ex ba:Value) (first N n':Nat) (er' pv sv:Value) (qs:List (Option Addr×Nat×List V)) (cols:List (List V)) (ess:List (List Pt)) (j:Nat) (dv ov:Addr) (wr:World):Prop where
 own:Jo wr w.heap.size 58 sv (qs.map slV)
 wk:Uz wr b ex ba first n' pv er'
 keep:Ju (·=b) w wr
 len:qs.length=j
 vals:∀ q∈qs,Jv wr q.1 q.2.2∧n'≤q.2.2.length∧q.2.2.length≤N
 off:∀ q∈qs,∀ g o,q.1=some ⟨g,o,none⟩→g≠b∧g<wr.heap.size∧sv.ownBlock≠some g∧(g<B0∨w.heap.size≤g)
 le:n'≤N
 run:∀ i,i<n'→∀ k e,ess[k]?=some e→k<j→Kl e (Ji cols i)=.inl (((qs.map (·.2.2)).getD k []).getD i Jf)
 err:Jrv dv ov w wr cols (fun x c=>Kr ess x=c) first N n' .nilIface er'
theorem Kfl {bh:Nat}{w:World}{b:Nat}{ex ba:Value}{first N bD:Nat}{bG bY sv:Value}{M:List (Option Addr×Nat×List V)}{cols:List (List V)}{bx:List (List Pt)}{j:Nat}{br bE:Addr}{wr:World}(h:OnS bh w b ex ba first N bD bG bY sv M cols bx j br bE wr)(cb:b<w.heap.size)(ca:bh≤w.heap.size){es:List Pt}(bB:bx[j]?=some es){y:World}
  {a:Option Addr} {c E:Nat} {vs:List V} {bN bu:Value} (bL:∀ g o,a=some ⟨g,o,none⟩→g≠b∧g<y.heap.size∧(g<bh∨wr.heap.size≤g)) (bW:Jv y a vs) (bR:E≤vs.length) (bS:vs.length≤N) (bT:E≤bD) (bV:∀ i,i<E→Kl es (Ji cols i)=.inl (vs.getD i Jf)) (Z:Ju (·=b) wr y) (bX:Uz y b ex ba first E bN bu) (bQ:Jrv br bE wr y cols (fun x c=>Yy es x []=.inr c) first bD E bG bu)
  {H:World} {sv':Value} (U:(y.alloc (.cells #[slV (a,c,vs)] 58)).grownBy H sv.ownBlock) (bU:Jo H w.heap.size 58 sv' (M.map slV++[slV (a,c,vs)])) (bI:sv'.ownBlock=sv.ownBlock∨sv'.ownBlock=some (y.heap.size+1)) :
  OnS bh w b ex ba first N E bu bN sv' (M++[(a,c,vs)]) cols bx (j+1) br bE H:=by
 have cl:=h.keep.size
 have ch:=Z.size
 have cj:=U.size
 have ci:(y.alloc (.cells #[slV (a,c,vs)] 58)).heap.size=y.heap.size+1:=by simp
 have bn:∀ g,sv.ownBlock=some g→w.heap.size≤g∧g<wr.heap.size:=fun g e=>Je h.own e
 have bj:∀ k,k<y.heap.size→sv.ownBlock≠some k→H.heap[k]?=y.heap[k]?:=fun k X bC=>by
  rw[U.block k (by omega) (fun e=>bC e.symm),Oa9 _ _ k (by omega)]
 have bA:∀ k,k<wr.heap.size→k≠b→sv.ownBlock≠some k→H.heap[k]?=wr.heap[k]?:=fun k X bl bC=>by
  rw[bj k (by omega) bC,Z.block k (by omega) bl]
 have bK:∀ g o,a=some ⟨g,o,none⟩→sv.ownBlock≠some g:=fun g o e A=>by
  have C:=bn g A
  have R:=bL g o e
  omega
 have bP:H.heap[b]?=y.heap[b]?:=bj b (by omega) (fun e=>by have:=bn b e;omega)
 refine⟨?_,bP.trans bX,?_,?_,?_,?_,Ob2 bT h.le,?_,?_⟩
 ·rw[Ob8];exact bU
 ·have bi:=h.keep
  refine⟨?_,?_,?_,by omega,fun k X bl=>?_⟩
  ·exact U.os.trans (Z.os.trans bi.os)
  ·exact U.tape.trans (Z.tape.trans bi.tape)
  ·exact U.output.trans (Z.output.trans bi.output)
  rw[bA k (by omega) bl (fun e=>by have:=bn k e;omega)]
  exact bi.block k X bl
 ·rw[Oa8,List.length_singleton,h.len]
 ·intro q z
  rw[Od2,Oc6]at z
  rcases z with z|rfl
  ·obtain⟨C,R,K⟩:=h.vals q z
   exact⟨C.of_block (by omega) fun g o e bf=>bA g bf (h.off q z g o e).1 (h.off q z g o e).2.2.1,by omega,K⟩
  exact⟨bW.of_block (by omega) fun g o e bf=>bj g bf (bK g o e),bR,bS⟩
 ·intro q z g o e
  rw[Od2,Oc6]at z
  rcases z with z|rfl
  ·obtain⟨C,R,K,bz⟩:=h.off q z g o e
   refine⟨C,by omega,fun A=>?_,bz⟩
   rcases bI with D|D
   ·exact K (D▸A)
   rw[D]at A;simp at A;omega
  obtain⟨C,R,K⟩:=bL g o e
  refine⟨C,by omega,fun A=>?_,by omega⟩
  rcases bI with D|D
  ·exact bK g o e (D▸A)
  rw[D]at A;simp at A;omega
 ·intro i hi k e bc bJ
  rw[Ob8,List.map_singleton]
  have bf:(M.map (·.2.2)).length=j:=by rw[Oa6,h.len]
  by_cases X:k<j
  ·rw[Oa0 (l:=M.map (·.2.2)++[vs]),Ob0 (by omega),←Oa0]
   exact h.run i (by omega) k e bc X
  obtain rfl:k=j:=by omega
  rw[bB]at bc
  cases bc
  rw[Oa0 (l:=M.map (·.2.2)++[vs]),Ob6 (by omega),bf,Oe1]
  exact bV i hi
 rcases bQ with⟨rfl,rfl⟩|⟨C,O,bO,kk,R,K,bz,bZ,bH⟩
 ·exact h.err.of_blocks fun O row cc cf bB bM=>bA O (Jd bM) (by omega) (Jmb h.own bM)
 refine .inr ⟨by have:=h.le;omega,O,bO,kk,R,?_,bz,by omega,bH.of_block (bj O (Jd bH) ?_)⟩
 ·exact Kek bB (fun k e bc bJ=>⟨_,h.run E C k e bc bJ⟩) (Keu K)
 intro e
 have:=bn O e
 omega
def Jjk (C:Nat)(D H:Addr)(b:Nat)(ex:Value)(cols:List (List V))(first N:Nat)(y:List (List Pt))(w:World):Ending→World→Prop:=fun e w'=>
 Ju (·=b) w w'∧(∃ (ba:Value) (f n:Int) (K E:Value),Uz w' b ex ba f n K E) ∧
 ((∃ (sv:Value) (z:List (Option Addr×Nat×List V)),e=.returned (.tuple #[sv,.nilIface])∧Jo w' w.heap.size 58 sv (z.map slV)∧z.length=y.length∧(∀ q∈z,Jv w' q.1 q.2.2∧q.2.2.length=N)∧(∀ q∈z,∀ g o,q.1=some ⟨g,o,none⟩→g≠b∧g<w'.heap.size∧(g<C∨w.heap.size≤g))∧∀ i,i<N→∀ k e,y[k]?=some e→Kl e (Ji cols i)=.inl (((z.map (·.2.2)).getD k []).getD i Jf)) ∨
  (∃ A kk m:Nat,m<N∧e=.returned (.tuple #[.slice none 0 0,Qv A])∧w.heap.size≤A∧Kr y (Ji cols m)≠0∧Ja8 w' A ((first+m:Nat):Int) kk (Jdb D H (Kr y (Ji cols m)))∧∀ i,i<m→∀ e∈y,∃ v,Kl e (Ji cols i)=.inl v))
theorem Jx4 (E b:Nat)(ex cI:Value)(cM dd:Int)(bR cK:Value)(A cap:Nat)(hs:List (Option Addr×Nat))(cols:List (List V))(first N:Nat)(z:List (List Pt))(K R:Addr)(w:World)
  (hW:Uz w b ex cI cM dd bR cK) (cW:Jx0 w b ex z) (cy:Jga cols.length z) (dh:z.length≤1000) (bL:Jha w b A hs cols) (bN:1≤cols.length) (bM:∀ j,j<cols.length→(cols.getD j []).length=N) (ci:∀ j,j<cols.length→∀ g o,(Yo hs j).1=some ⟨g,o,none⟩→g<E) (ch:∀ i,i<N→∀ v∈Ji cols i,Jg v.n)
  (hn:N≤100000) (hf:first+N≤10000000) (ca:Jdo w K R) (bZ:E≤w.heap.size) (cb:b≠10∧b≠11) :
  Calls prog 117 #[.pointer (some ⟨b,0,none⟩),(.slice (some ⟨A,0,none⟩) cols.length cap),.int .i64 (first:Int)] w (Jjk E K R b ex cols first N z w):=by
 obtain⟨U,bi,rfl,cY,cc⟩:=cW
 obtain⟨c0,c1,c2,c3,c4,c5⟩:=hW.cells
 have cN:=hW.thaw 1
 have cO:=hW.thaw 2
 have cP:=hW.thaw 3
 have cQ:=hW.thaw 5
 have cf:=Jd hW
 have cn:=Jlg A cols.length cap (Yo hs 0).1 N (Yo hs 0).2 w bN (by have:=bL.cell 0 bN;rwa [bM 0 bN]at this)
 have bB:=Jk (Jk (Jk (Jk hW 1 (.slice (some ⟨A,0,none⟩) cols.length cap)) 2 (.int .i64 (first:Int))) 3 (.int .i64 (N:Int))) 5 .nilIface
 simp only[Oa1,List.set_cons_zero,List.set_cons_succ]at bB
 have cl:Ju (·=b) w ((((w.setCell ⟨b,1,none⟩ (.slice (some ⟨A,0,none⟩) cols.length cap)).setCell ⟨b,2,none⟩ (.int .i64 (first:Int))).setCell ⟨b,3,none⟩ (.int .i64 (N:Int))).setCell ⟨b,5,none⟩ .nilIface):=Ju.set (F:=fun x=>x=b) (Ju.set (F:=fun x=>x=b) (Ju.set (F:=fun x=>x=b) (Ju.set (F:=fun x=>x=b) (Ju.refl _ w) rfl 1 _) rfl 2 _) rfl 3 _) rfl 5 _
 obtain⟨w1,bP⟩:∃ w1,w1=(((w.setCell ⟨b,1,none⟩ (.slice (some ⟨A,0,none⟩) cols.length cap)).setCell ⟨b,2,none⟩ (.int .i64 (first:Int))).setCell ⟨b,3,none⟩ (.int .i64 (N:Int))).setCell ⟨b,5,none⟩ .nilIface:=⟨_,rfl⟩
 rw[←bP]at bB cl
 have bV:Hid (Uz w1 b (.slice (some ⟨U,0,none⟩) z.length bi) (.slice (some ⟨A,0,none⟩) cols.length cap) first N bR .nilIface):=bB
 have bf:Hid (Jha w b A hs cols∧(∀ j,j<cols.length→(cols.getD j []).length=N)∧(∀ j,j<cols.length→∀ g o,(Yo hs j).1=some ⟨g,o,none⟩→g<E)∧(∀ i,i<N→∀ v∈Ji cols i,Jg v.n)):=⟨bL,bM,ci,ch⟩
 have bX:Hid ((∀ j es,z[j]?=some es→∃ bC bT,w.cell? ⟨U,j,none⟩=some (.slice (some ⟨bC,0,none⟩) es.length bT)∧Jco w bC b es)∧Jga cols.length z):=⟨cc,cy⟩
 have bh:Hid (Jdo w K R∧b≠10∧b≠11):=⟨ca,cb⟩
 have bU:Hid (N≤100000∧first+N≤10000000):=⟨hn,hf⟩
 have bW:Hid (w1=(((w.setCell ⟨b,1,none⟩ (.slice (some ⟨A,0,none⟩) cols.length cap)).setCell ⟨b,2,none⟩ (.int .i64 (first:Int))).setCell ⟨b,3,none⟩ (.int .i64 (N:Int))).setCell ⟨b,5,none⟩ .nilIface):=bP
 clear hW bL bM ci ch cc cy ca cb hn hf bB bP
 go_enter func117,ntmps117
 go_upto_region 2 with(go_at_call 65;refine cn.mono ?_;rintro e de ⟨rfl,cV⟩;rw[cV])
 rw[←bW.out]
 obtain⟨bD,bE,bG,bH,bI,bJ⟩:=bV.out.cells
 clear c0 c1 c2 c3 c4 c5 cN cO cP cQ cn bW
 go_wp2
 go_loopw [8,32] (fun s i wr=>∃ (j O:Nat) (bu bQ sv:Value) (bS:List (Option Addr×Nat×List V)),j≤z.length∧i=.int .i64 (j:Int)∧s=sv∧Hid (OnS E w b (.slice (some ⟨U,0,none⟩) z.length bi) (.slice (some ⟨A,0,none⟩) cols.length cap) first N O bu bQ sv bS cols z j K R wr)) (fun _ i _=>z.length-(intOf i).toNat)
 case atStart=>exact⟨0,N,.nilIface,bR,.slice none 0 0,[],Ob7 _,rfl,rfl,Jo.nil _ _ _,bV.out,cl,rfl,fun q C=>by simp at C,fun q C=>by simp at C,Oa2 _,fun i _ k e _ M=>absurd M (Oe0 _),.inl ⟨rfl,rfl⟩⟩
 case round=>
  obtain⟨j,O,bu,bQ,sv,bS,bz,rfl,rfl,y⟩:=hrel
  have dc:=y.out.keep.size
  by_cases da:j<z.length
  ·obtain⟨es,bx⟩:∃ es,z[j]?=some es:=⟨_,Oa3 da⟩
   obtain⟨bC,bT,cE,cz⟩:=bX.out.1 j es bx
   have dm:=y.out.keep.cell cE cY
   have bA:=bX.out.2 es (Of6 bx)
   have cZ:=Jkm E N b (.slice (some ⟨U,0,none⟩) z.length bi) first O A cap hs cols bQ bu bC bT es K R wr y.out.wk (bf.out.1.keep y.out.keep) (fun j bz=>by have:=bf.out.2.1 j bz;have:=y.out.le;omega) bf.out.2.2.1 (fun i hi=>bf.out.2.2.2 i (by have:=y.out.le;omega)) (fun j bz=>by have:=bf.out.2.1 j bz;omega) y.out.le (cz.keep y.out.keep) bA.2.2 bA.1 bA.2.1 (by have:=bU.out;have:=y.out.le;omega) (by have:=bU.out;have:=y.out.le;omega) ⟨y.out.keep.cell bh.out.1.d (fun e=>bh.out.2.1 e.symm),y.out.keep.cell bh.out.1.o (fun e=>bh.out.2.2 e.symm)⟩ (Ob2 bZ dc) bh.out.2
   have cF:Hid (z[j]?=some es):=bx
   have dj:(0:Int)≤(j:Int):=by omega
   have dk:(j:Int)<(z.length:Int):=by omega
   clear bx cz bA cE bD bE bG bH bI bJ
   go_wp2_with (first|(go_at_call 151;refine cZ.mono ?_;rintro e H ⟨a,c,bc,vs,cD,bK,rfl,cx,cB,cr,cu,cv,bn,bO,cC,cj⟩;have D:Hid ((∀ g o,a=some ⟨g,o,none⟩→g≠b∧g<H.heap.size∧(g<E∨wr.heap.size≤g))∧Jv H a vs∧bc≤vs.length∧vs.length≤N∧bc≤O∧(∀ i,i<bc→Kl es (Ji cols i)=.inl (vs.getD i Jf))∧Ju (·=b) wr H∧Uz H b (.slice (some ⟨U,0,none⟩) z.length bi) (.slice (some ⟨A,0,none⟩) cols.length cap) first bc cD bK∧Jrv K R wr H cols (fun x c=>Yy es x []=.inr c) first O bc bu bK):=⟨cx,cB,cr,cu,cv,bn,bO,cC,cj⟩;have di:=bO.size;clear cx cB cr cu cv bn cC cj)|(at_builtin;go_must (refine Ul (by rfl) _ _ 75 58 _ 24 Jps (by rfl) (by decide) (by kernel_rfl) (by rfl) w.heap.size _ _ (by rfl) (Jo.alloc (Jm2 y.out.own cf bO) _) ⟨H.heap.size,0,none⟩ 1 [.slice a vs.length c] (by rfl) (by exact Ua H _ _) (by intro u cA;simp at cA;subst cA;rfl) (by rw[Oa6,y.out.len];simp only[List.length_cons,List.length_nil];omega) (by simp;omega) ?_);intro sv' df bj bl X))
   have db:=Kfl y.out cf bZ cF.out D.out.1 D.out.2.1 D.out.2.2.1 D.out.2.2.2.1 D.out.2.2.2.2.1 D.out.2.2.2.2.2.1 D.out.2.2.2.2.2.2.1 D.out.2.2.2.2.2.2.2.1 D.out.2.2.2.2.2.2.2.2 bl bj (by rw[Oa7]at X;exact X)
   go_roundw
   case rel=>exact⟨j+1,bc,bK,cD,sv',_,by omega,by go_num,rfl,db⟩
   case measure=>simp[intOf];omega
  obtain rfl:j=z.length:=by omega
  have cJ:=y.out.wk.cells.2.2.2.2.2
  have bn:∀ i,i<O→∀ e∈z,∃ v,Kl e (Ji cols i)=.inl v:=fun i hi e cX=>by
   obtain⟨k,M⟩:=Ok2.1 cX
   exact⟨_,y.out.run i hi k e M (Ob9.1 M).1⟩
  rcases y.out.err with⟨bj,bl⟩|⟨bj,br,dg,kk,bl,X,cS,cT,bY⟩
  ·subst bj bl
   clear bD bE bG bH bI bJ
   go_wp2
   refine bodyPost_ret (v:=.tuple #[u8,.nilIface]) (by simp[results,results117,go_sem]) rfl ?_
   exact⟨y.out.keep,⟨_,_,_,_,_,y.out.wk⟩,.inl ⟨_,bS,rfl,y.out.own,y.out.len,fun q C=>⟨(y.out.vals q C).1,by have:=(y.out.vals q C).2;omega⟩,fun q C g o e=>⟨(y.out.off q C g o e).1,(y.out.off q C g o e).2.1,(y.out.off q C g o e).2.2.2⟩,fun i hi k e M=>y.out.run i hi k e M (Ob9.1 M).1⟩⟩
  subst cS
  have cG:Hid (Jjk E K R b (.slice (some ⟨U,0,none⟩) z.length bi) cols first N z w (.returned (.tuple #[.slice none 0 0,Qv br])) wr.drew):=by
   refine⟨y.out.keep.drewN 1,⟨_,_,_,_,_,y.out.wk⟩,.inr ⟨br,kk,O,bj,rfl,cT,?_,?_,bn⟩⟩
   ·rw[X];exact bl
   rw[X];exact bY
  clear bD bE bG bH bI bJ bn X bY
  go_upto_region 9 with fail
  refine wp_region_held_drew (S:=fun cH=>cH.cell? ⟨b,5,none⟩=some (Qv br)) (by kernel_rfl) cJ (fun Z=>?_)
  refine tk 0 ?_ rfl Z ?_ (tk 1 ?_ rfl Z ?_ (tk 2 ?_ rfl Z ?_ (tk 3 ?_ rfl Z ?_ (tk 4 ?_ rfl Z ?_ (tk 5 ?_ rfl Z ?_ ?_)))))
  iterate 6
   rotate_left 1
   ·intro w cU;(try dsimp only at cU);go_simp;try rfl
  simp only[Act.put,List.getElem_toArray,List.getElem_cons_zero,List.getElem_cons_succ,Oa1,List.set_cons_zero,List.set_cons_succ]
  refine wpAnyH_done (by kernel_rfl) ?_ _
  go_wp2
  exact bodyPost_ret (v:=.tuple #[.slice none 0 0,Qv br]) (by simp[results,results117,go_sem]) rfl cG.out
end Go.Proofs.YtjjdldddcegjiaaGreatDoor
