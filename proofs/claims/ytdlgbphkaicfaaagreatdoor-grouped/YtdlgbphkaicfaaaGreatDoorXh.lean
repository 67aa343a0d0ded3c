/- All expressions of a Work on a batch. -/
import Derived.Test.YtdlgbphkaicfaaaGreatDoorXg
import Derived.Test.YtdlgbphkaicfaaaGreatDoorKq
set_option maxHeartbeats 2000000
set_option maxRecDepth 100000
namespace Go.Proofs.YtdlgbphkaicfaaaGreatDoor
open Go.RowKit Go.Shelf Tryz
attribute [local go_sem] Oc0
def Kr:List (List Pt)→List V→Nat
 |[],_=>0
 |e::es,x=>match Kl e x with|.inl _=>Kr es x|.inr c=>c
theorem Jiy {es:List (List Pt)}(y:List (List Pt)){x:List V}(h:∀ e∈es,∃ v,Kl e x=.inl v):Kr (es++y) x=Kr y x:=by
 induction es with
 |nil=>rfl
 |cons e es H=>
  obtain⟨v,E⟩:=h e (Of4 ..)
  simp only[List.cons_append,Kr,E]
  exact H fun A D=>h A (Og1 _ D)
theorem Kek {y:List (List Pt)}{j c:Nat}{es:List Pt}{x:List V}(E:y[j]?=some es)(h:∀ k e,y[k]?=some e→k<j→∃ v,Kl e x=.inl v)(D:Kl es x=.inr c):Kr y x=c:=by
 obtain⟨K,H⟩:=Ob9.1 E
 have R:y=y.take j++(es::y.drop (j+1)):=by rw[←H,←Oi1 K,Ok3]
 rw[R,Jiy]
 ·simp only[Kr,D]
 intro e O
 obtain⟨k,A⟩:=Ok2.1 O
 rw[Oe7]at A
 split at A
 ·rename_i M;exact h k e A M
 cases A
def Jx0 (w:World)(b:Nat)(ex:Value)(A:List (List Pt)):Prop:=∃ y E,ex=.slice (some ⟨y,0,none⟩) A.length E∧y≠b∧∀ j es,A[j]?=some es→∃ D H,w.cell? ⟨y,j,none⟩=some (.slice (some ⟨D,0,none⟩) es.length H)∧Jco w D b es
def Jga (W:Nat)(y:List (List Pt)):Prop:=∀ es∈y,es≠[]∧es.length≤1000∧∀ j p,es[j]?=some p→Jr0 W j p
structure OnS (B0:Nat) (w:World) (b:Nat) (ex ba:Value) (first N n':Nat) (er' pv sv:Value) (qs:List (Option Addr×Nat×List V)) (cols:List (List V)) (ess:List (List Pt)) (j:Nat) (dv ov:Addr) (wr:World):Prop where
 own:Jo wr w.heap.size 54 sv (qs.map slV)
 wk:Uz wr b ex ba first n' pv er'
 keep:Ju (·=b) w wr
 len:qs.length=j
 vals:∀ q∈qs,Jv wr q.1 q.2.2∧n'≤q.2.2.length∧q.2.2.length≤N
 off:∀ q∈qs,∀ g o,q.1=some ⟨g,o,none⟩→g≠b∧g<wr.heap.size∧sv.ownBlock≠some g∧(g<B0∨w.heap.size≤g)
 le:n'≤N
 run:∀ i,i<n'→∀ k e,ess[k]?=some e→k<j→Kl e (Ji cols i)=.inl (((qs.map (·.2.2)).getD k []).getD i Jf)
 err:Jrv dv ov w wr cols (fun x c=>Kr ess x=c) first N n' .nilIface er'
theorem Kfl {bc:Nat}{w:World}{b:Nat}{ex bk:Value}{first N bB:Nat}{bD bW sv:Value}{O:List (Option Addr×Nat×List V)}{cols:List (List V)}{br:List (List Pt)}{j:Nat}{bl bC:Addr}{wr:World}(h:OnS bc w b ex bk first N bB bD bW sv O cols br j bl bC wr)(bZ:b<w.heap.size)(bY:bc≤w.heap.size){es:List Pt}(bz:br[j]?=some es){y:World}
  {a:Option Addr} {c H:Nat} {vs:List V} {bL bn:Value} (bJ:∀ g o,a=some ⟨g,o,none⟩→g≠b∧g<y.heap.size∧(g<bc∨wr.heap.size≤g)) (bU:Jv y a vs) (bP:H≤vs.length) (bQ:vs.length≤N) (bR:H≤bB) (bT:∀ i,i<H→Kl es (Ji cols i)=.inl (vs.getD i Jf)) (Z:Ju (·=b) wr y) (bV:Uz y b ex bk first H bL bn) (bO:Jrv bl bC wr y cols (fun x c=>Yy es x []=.inr c) first bB H bD bn)
  {K:World} {sv':Value} (U:(y.alloc (.cells #[slV (a,c,vs)] 54)).grownBy K sv.ownBlock) (bS:Jo K w.heap.size 54 sv' (O.map slV++[slV (a,c,vs)])) (bG:sv'.ownBlock=sv.ownBlock∨sv'.ownBlock=some (y.heap.size+1)) :
  OnS bc w b ex bk first N H bn bL sv' (O++[(a,c,vs)]) cols br (j+1) bl bC K:=by
 have ci:=h.keep.size
 have cc:=Z.size
 have ch:=U.size
 have cf:(y.alloc (.cells #[slV (a,c,vs)] 54)).heap.size=y.heap.size+1:=by simp
 have bj:∀ g,sv.ownBlock=some g→w.heap.size≤g∧g<wr.heap.size:=fun g e=>Je h.own e
 have bh:∀ k,k<y.heap.size→sv.ownBlock≠some k→K.heap[k]?=y.heap[k]?:=fun k X bA=>by
  rw[U.block k (by omega) (fun e=>bA e.symm),Oa9 _ _ k (by omega)]
 have bx:∀ k,k<wr.heap.size→k≠b→sv.ownBlock≠some k→K.heap[k]?=wr.heap[k]?:=fun k X bi bA=>by
  rw[bh k (by omega) bA,Z.block k (by omega) bi]
 have bI:∀ g o,a=some ⟨g,o,none⟩→sv.ownBlock≠some g:=fun g o e D=>by
  have h1:=bj g D
  have h2:=bJ g o e
  omega
 have bN:K.heap[b]?=y.heap[b]?:=bh b (by omega) (fun e=>by have:=bj b e;omega)
 refine⟨?_,bN.trans bV,?_,?_,?_,?_,Ob2 bR h.le,?_,?_⟩
 ·rw[Ob8];exact bS
 ·have bf:=h.keep
  refine⟨?_,?_,?_,by omega,fun k X bi=>?_⟩
  ·exact U.os.trans (Z.os.trans bf.os)
  ·exact U.tape.trans (Z.tape.trans bf.tape)
  ·exact U.output.trans (Z.output.trans bf.output)
  rw[bx k (by omega) bi (fun e=>by have:=bj k e;omega)]
  exact bf.block k X bi
 ·rw[Oa8,List.length_singleton,h.len]
 ·intro q A
  rw[Od2,Oc6]at A
  rcases A with A|rfl
  ·obtain⟨h1,h2,M⟩:=h.vals q A
   exact⟨h1.of_block (by omega) fun g o e bb=>bx g bb (h.off q A g o e).1 (h.off q A g o e).2.2.1,by omega,M⟩
  exact⟨bU.of_block (by omega) fun g o e bb=>bh g bb (bI g o e),bP,bQ⟩
 ·intro q A g o e
  rw[Od2,Oc6]at A
  rcases A with A|rfl
  ·obtain⟨h1,h2,M,bu⟩:=h.off q A g o e
   refine⟨h1,by omega,fun D=>?_,bu⟩
   rcases bG with E|E
   ·exact M (E▸D)
   rw[E]at D;simp at D;omega
  obtain⟨h1,h2,M⟩:=bJ g o e
  refine⟨h1,by omega,fun D=>?_,by omega⟩
  rcases bG with E|E
  ·exact bI g o e (E▸D)
  rw[E]at D;simp at D;omega
 ·intro i hi k e ba bH
  rw[Ob8,List.map_singleton]
  have bb:(O.map (·.2.2)).length=j:=by rw[Oa6,h.len]
  by_cases X:k<j
  ·rw[Oa0 (l:=O.map (·.2.2)++[vs]),Ob0 (by omega),←Oa0]
   exact h.run i (by omega) k e ba X
  obtain rfl:k=j:=by omega
  rw[bz]at ba
  cases ba
  rw[Oa0 (l:=O.map (·.2.2)++[vs]),Ob6 (by omega),bb,Oe1]
  exact bT i hi
 rcases bO with⟨rfl,rfl⟩|⟨h1,R,bM,kk,h2,M,bu,bX,bE⟩
 ·exact h.err.of_blocks fun R row ca cb bz bK=>bx R (Jd bK) (by omega) (Jmb h.own bK)
 refine .inr ⟨by have:=h.le;omega,R,bM,kk,h2,?_,bu,by omega,bE.of_block (bh R (Jd bE) ?_)⟩
 ·exact Kek bz (fun k e ba bH=>⟨_,h.run H h1 k e ba bH⟩) (Keu M)
 intro e
 have:=bj R e
 omega
def Jjk (E:Nat)(K O:Addr)(b:Nat)(ex:Value)(cols:List (List V))(first N:Nat)(y:List (List Pt))(w:World):Ending→World→Prop:=fun e w'=>
 Ju (·=b) w w'∧(∃ (H:Value) (f n:Int) (R M:Value),Uz w' b ex H f n R M) ∧
 ((∃ (sv:Value) (A:List (Option Addr×Nat×List V)),e=.returned (.tuple #[sv,.nilIface])∧Jo w' w.heap.size 54 sv (A.map slV)∧A.length=y.length∧(∀ q∈A,Jv w' q.1 q.2.2∧q.2.2.length=N)∧(∀ q∈A,∀ g o,q.1=some ⟨g,o,none⟩→g≠b∧g<w'.heap.size∧(g<E∨w.heap.size≤g))∧∀ i,i<N→∀ k e,y[k]?=some e→Kl e (Ji cols i)=.inl (((A.map (·.2.2)).getD k []).getD i Jf)) ∨
  (∃ D kk m:Nat,m<N∧e=.returned (.tuple #[.slice none 0 0,Qv D])∧w.heap.size≤D∧Kr y (Ji cols m)≠0∧Ja8 w' D ((first+m:Nat):Int) kk (Jdb K O (Kr y (Ji cols m)))∧∀ i,i<m→∀ e∈y,∃ v,Kl e (Ji cols i)=.inl v))
theorem Jx4 (K b:Nat)(ex cF:Value)(cI da:Int)(bO cH:Value)(D cap:Nat)(hs:List (Option Addr×Nat))(cols:List (List V))(first N:Nat)(A:List (List Pt))(O X:Addr)(w:World)
  (hW:Uz w b ex cF cI da bO cH) (cT:Jx0 w b ex A) (cu:Jga cols.length A) (de:A.length≤1000) (bI:Jha w b D hs cols) (bK:1≤cols.length) (bJ:∀ j,j<cols.length→(cols.getD j []).length=N) (cc:∀ j,j<cols.length→∀ g o,(Yo hs j).1=some ⟨g,o,none⟩→g<K) (cb:∀ i,i<N→∀ v∈Ji cols i,Jg v.n)
  (hn:N≤100000) (hf:first+N≤10000000) (bX:Jdo w O X) (bW:K≤w.heap.size) (bY:b≠10∧b≠11) :
  Calls prog 106 #[.pointer (some ⟨b,0,none⟩),(.slice (some ⟨D,0,none⟩) cols.length cap),.int .i64 (first:Int)] w (Jjk K O X b ex cols first N A w):=by
 obtain⟨Z,bi,rfl,cV,bZ⟩:=cT
 obtain⟨c0,c1,c2,c3,c4,c5⟩:=hW.cells
 have cJ:=hW.thaw 1
 have cK:=hW.thaw 2
 have cM:=hW.thaw 3
 have cN:=hW.thaw 5
 have ca:=Jd hW
 have ci:=Jlg D cols.length cap (Yo hs 0).1 N (Yo hs 0).2 w bK (by have:=bI.cell 0 bK;rwa [bJ 0 bK]at this)
 have bx:=Jk (Jk (Jk (Jk hW 1 (.slice (some ⟨D,0,none⟩) cols.length cap)) 2 (.int .i64 (first:Int))) 3 (.int .i64 (N:Int))) 5 .nilIface
 simp only[Oa1,List.set_cons_zero,List.set_cons_succ]at bx
 have ch:Ju (·=b) w ((((w.setCell ⟨b,1,none⟩ (.slice (some ⟨D,0,none⟩) cols.length cap)).setCell ⟨b,2,none⟩ (.int .i64 (first:Int))).setCell ⟨b,3,none⟩ (.int .i64 (N:Int))).setCell ⟨b,5,none⟩ .nilIface):=Ju.set (F:=fun x=>x=b) (Ju.set (F:=fun x=>x=b) (Ju.set (F:=fun x=>x=b) (Ju.set (F:=fun x=>x=b) (Ju.refl _ w) rfl 1 _) rfl 2 _) rfl 3 _) rfl 5 _
 obtain⟨w1,bM⟩:∃ w1,w1=(((w.setCell ⟨b,1,none⟩ (.slice (some ⟨D,0,none⟩) cols.length cap)).setCell ⟨b,2,none⟩ (.int .i64 (first:Int))).setCell ⟨b,3,none⟩ (.int .i64 (N:Int))).setCell ⟨b,5,none⟩ .nilIface:=⟨_,rfl⟩
 rw[←bM]at bx ch
 have bS:Hid (Uz w1 b (.slice (some ⟨Z,0,none⟩) A.length bi) (.slice (some ⟨D,0,none⟩) cols.length cap) first N bO .nilIface):=bx
 have bf:Hid (Jha w b D hs cols∧(∀ j,j<cols.length→(cols.getD j []).length=N)∧(∀ j,j<cols.length→∀ g o,(Yo hs j).1=some ⟨g,o,none⟩→g<K)∧(∀ i,i<N→∀ v∈Ji cols i,Jg v.n)):=⟨bI,bJ,cc,cb⟩
 have bU:Hid ((∀ j es,A[j]?=some es→∃ bz bQ,w.cell? ⟨Z,j,none⟩=some (.slice (some ⟨bz,0,none⟩) es.length bQ)∧Jco w bz b es)∧Jga cols.length A):=⟨bZ,cu⟩
 have bh:Hid (Jdo w O X∧b≠10∧b≠11):=⟨bX,bY⟩
 have bR:Hid (N≤100000∧first+N≤10000000):=⟨hn,hf⟩
 have bT:Hid (w1=(((w.setCell ⟨b,1,none⟩ (.slice (some ⟨D,0,none⟩) cols.length cap)).setCell ⟨b,2,none⟩ (.int .i64 (first:Int))).setCell ⟨b,3,none⟩ (.int .i64 (N:Int))).setCell ⟨b,5,none⟩ .nilIface):=bM
 clear hW bI bJ cc cb bZ cu bX bY hn hf bx bM
 go_enter func106,ntmps106
 go_upto_region 2 with(go_at_call 54;refine ci.mono ?_;rintro e db ⟨rfl,cS⟩;rw[cS])
 rw[←bT.out]
 obtain⟨bA,bB,bC,bD,bE,bG⟩:=bS.out.cells
 clear c0 c1 c2 c3 c4 c5 cJ cK cM cN ci bT
 go_wp2
 go_loopw [8,32] (fun s i wr=>∃ (j U:Nat) (bl bN sv:Value) (bP:List (Option Addr×Nat×List V)),j≤A.length∧i=.int .i64 (j:Int)∧s=sv∧Hid (OnS K w b (.slice (some ⟨Z,0,none⟩) A.length bi) (.slice (some ⟨D,0,none⟩) cols.length cap) first N U bl bN sv bP cols A j O X wr)) (fun _ i _=>A.length-(intOf i).toNat)
 case atStart=>exact⟨0,N,.nilIface,bO,.slice none 0 0,[],Ob7 _,rfl,rfl,Jo.nil _ _ _,bS.out,ch,rfl,fun q E=>by simp at E,fun q E=>by simp at E,Oa2 _,fun i _ k e _ R=>absurd R (Oe0 _),.inl ⟨rfl,rfl⟩⟩
 case round=>
  obtain⟨j,U,bl,bN,sv,bP,br,rfl,rfl,y⟩:=hrel
  have cZ:=y.out.keep.size
  by_cases cX:j<A.length
  ·obtain⟨es,bn⟩:∃ es,A[j]?=some es:=⟨_,Oa3 cX⟩
   obtain⟨bz,bQ,cB,cv⟩:=bU.out.1 j es bn
   have dg:=y.out.keep.cell cB cV
   have bu:=bU.out.2 es (Of6 bn)
   have cW:=Jkm K N b (.slice (some ⟨Z,0,none⟩) A.length bi) first U D cap hs cols bN bl bz bQ es O X wr y.out.wk (bf.out.1.keep y.out.keep) (fun j br=>by have:=bf.out.2.1 j br;have:=y.out.le;omega) bf.out.2.2.1 (fun i hi=>bf.out.2.2.2 i (by have:=y.out.le;omega)) (fun j br=>by have:=bf.out.2.1 j br;omega) y.out.le (cv.keep y.out.keep) bu.2.2 bu.1 bu.2.1 (by have:=bR.out;have:=y.out.le;omega) (by have:=bR.out;have:=y.out.le;omega) ⟨y.out.keep.cell bh.out.1.d (fun e=>bh.out.2.1 e.symm),y.out.keep.cell bh.out.1.o (fun e=>bh.out.2.2 e.symm)⟩ (Ob2 bW cZ) bh.out.2
   have cC:Hid (A[j]?=some es):=bn
   have j1:(0:Int)≤(j:Int):=by omega
   have j2:(j:Int)<(A.length:Int):=by omega
   clear bn cv bu cB bA bB bC bD bE bG
   go_wp2_with (first|(go_at_call 140;refine cW.mono ?_;rintro e M ⟨a,c,bc,vs,cA,bH,rfl,cr,cy,cj,cl,cn,bj,bL,cz,cf⟩;have H:Hid ((∀ g o,a=some ⟨g,o,none⟩→g≠b∧g<M.heap.size∧(g<K∨wr.heap.size≤g))∧Jv M a vs∧bc≤vs.length∧vs.length≤N∧bc≤U∧(∀ i,i<bc→Kl es (Ji cols i)=.inl (vs.getD i Jf))∧Ju (·=b) wr M∧Uz M b (.slice (some ⟨Z,0,none⟩) A.length bi) (.slice (some ⟨D,0,none⟩) cols.length cap) first bc cA bH∧Jrv O X wr M cols (fun x c=>Yy es x []=.inr c) first U bc bl bH):=⟨cr,cy,cj,cl,cn,bj,bL,cz,cf⟩;have df:=bL.size;clear cr cy cj cl cn bj cz cf)|(at_builtin;go_must (refine Ul (by rfl) _ _ 74 54 _ 24 Jps (by rfl) (by decide) (by kernel_rfl) (by rfl) w.heap.size _ _ (by rfl) (Jo.alloc (Jm2 y.out.own ca bL) _) ⟨M.heap.size,0,none⟩ 1 [.slice a vs.length c] (by rfl) (by exact Ua M _ _) (by intro u cx;simp at cx;subst cx;rfl) (by rw[Oa6,y.out.len];simp only[List.length_cons,List.length_nil];omega) (by simp;omega) ?_);intro sv' dc h1 h2 ba))
   have cY:=Kfl y.out ca bW cC.out H.out.1 H.out.2.1 H.out.2.2.1 H.out.2.2.2.1 H.out.2.2.2.2.1 H.out.2.2.2.2.2.1 H.out.2.2.2.2.2.2.1 H.out.2.2.2.2.2.2.2.1 H.out.2.2.2.2.2.2.2.2 h2 h1 (by rw[Oa7]at ba;exact ba)
   go_roundw
   case rel=>exact⟨j+1,bc,bH,cA,sv',_,by omega,by go_num,rfl,cY⟩
   case measure=>simp[intOf];omega
  obtain rfl:j=A.length:=by omega
  have cG:=y.out.wk.cells.2.2.2.2.2
  have bj:∀ i,i<U→∀ e∈A,∃ v,Kl e (Ji cols i)=.inl v:=fun i hi e cU=>by
   obtain⟨k,R⟩:=Ok2.1 cU
   exact⟨_,y.out.run i hi k e R (Ob9.1 R).1⟩
  rcases y.out.err with⟨h1,h2⟩|⟨h1,bk,dd,kk,h2,ba,cO,cP,bV⟩
  ·subst h1 h2
   clear bA bB bC bD bE bG
   go_wp2
   refine bodyPost_ret (v:=.tuple #[u8,.nilIface]) (by simp[results,results106,go_sem]) rfl ?_
   exact⟨y.out.keep,⟨_,_,_,_,_,y.out.wk⟩,.inl ⟨_,bP,rfl,y.out.own,y.out.len,fun q E=>⟨(y.out.vals q E).1,by have:=(y.out.vals q E).2;omega⟩,fun q E g o e=>⟨(y.out.off q E g o e).1,(y.out.off q E g o e).2.1,(y.out.off q E g o e).2.2.2⟩,fun i hi k e R=>y.out.run i hi k e R (Ob9.1 R).1⟩⟩
  subst cO
  have cD:Hid (Jjk K O X b (.slice (some ⟨Z,0,none⟩) A.length bi) cols first N A w (.returned (.tuple #[.slice none 0 0,Qv bk])) wr.drew):=by
   refine⟨y.out.keep.drewN 1,⟨_,_,_,_,_,y.out.wk⟩,.inr ⟨bk,kk,U,h1,rfl,cP,?_,?_,bj⟩⟩
   ·rw[ba];exact h2
   rw[ba];exact bV
  clear bA bB bC bD bE bG bj ba bV
  go_upto_region 9 with fail
  refine wp_region_held_drew (S:=fun cE=>cE.cell? ⟨b,5,none⟩=some (Qv bk)) (by kernel_rfl) cG (fun bb=>?_)
  refine tk 0 ?_ rfl bb ?_ (tk 1 ?_ rfl bb ?_ (tk 2 ?_ rfl bb ?_ (tk 3 ?_ rfl bb ?_ (tk 4 ?_ rfl bb ?_ (tk 5 ?_ rfl bb ?_ ?_)))))
  iterate 6
   rotate_left 1
   ·intro w cQ;(try dsimp only at cQ);go_simp;try rfl
  simp only[Act.put,List.getElem_toArray,List.getElem_cons_zero,List.getElem_cons_succ,Oa1,List.set_cons_zero,List.set_cons_succ]
  refine wpAnyH_done (by kernel_rfl) ?_ _
  go_wp2
  exact bodyPost_ret (v:=.tuple #[.slice none 0 0,Qv bk]) (by simp[results,results106,go_sem]) rfl cD.out
end Go.Proofs.YtdlgbphkaicfaaaGreatDoor
