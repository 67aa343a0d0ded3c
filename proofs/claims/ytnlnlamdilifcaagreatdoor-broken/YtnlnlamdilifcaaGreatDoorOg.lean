/- cut: what holds between two batches. -/
import Derived.Test.YtnlnlamdilifcaaGreatDoorOd
import Derived.Test.YtnlnlamdilifcaaGreatDoorOb
namespace Go.Proofs.YtnlnlamdilifcaaGreatDoor
section
open Go.RowKit Go.Shelf Tryz
def chL (n:Nat)(y:List (Nat×Nat)):List (List Nat):=y.map (Kr3 (List.range n))
structure CtI (K:SC) (w:World) (F:Nat->Prop) (E:DS) (z bu pr L:Nat) (pre:List (Nat×Nat)) (W:World) (F':Nat->Prop) (E':DS) (Ms:List Mr) (mv rv:Value):Prop where
 si:SI K W F' E' Ms mv (z:Int)
 len:Ms.length=pre.length
 run:∀ (j:Nat) m x,Ms[j]?=some m->pre[j]?=some x->m.R.place=j/\m.R.held=[]/\m.R.rem=Ksi (Kr6 K.ks K.cs) (Kr3 (List.range (nR K.cs)) x)
 rv:Rv K W F' Ms mv L (w.heap.size+3) rv (Ms.map (·.rb))
 b0:W.heap[w.heap.size]?=some (.cells #[Pq K.sb] 322 (0,0))
 b1:W.heap[w.heap.size+1]?=some (.cells #[Sz] 323 (0,0))
 b2:W.heap[w.heap.size+2]?=some (.cells #[.nilIface] 77 (0,0))
 new:∀ m∈Ms,L<=m.rb/\∀ k,m.N k->L<=k
 mnew:∀ g,mv.ownBlock=some g->L<=g
 ffr:∀ k,F' k->F k\/L<=k
 size:L<=W.heap.size
 pgs:dz E'<=dz E+2*pr*bu*pre.length
 fcl:∀ k,F' k->L<=k->∃ o:Obj,W.heap[k]?=some o/\o.isCells=true
def CtG (H:SC)(y:Nat->Prop)(mv:Value):Nat->Prop:=fun k=>k=H.sb\/mv.ownBlock=some k\/y k
structure CtM (K:SC) (w:World) (F:Nat->Prop) (z bu pr L:Nat) (pre:List (Nat×Nat)) (W:World) (F':Nat->Prop) (E':DS) (Ms:List Mr) (mv rv:Value) (W3:World) (F3:Nat->Prop) (E3:DS) (m3:Mr) (mv3:Value):Prop where
 si:SI K W3 F3 E3 (Ms++[m3]) mv3 (z:Int)
 rb:m3.rb=W.heap.size
 place:m3.R.place=pre.length
 held:m3.R.held=[]
 rv:Rv K W3 F3 (Ms++[m3]) mv3 L (w.heap.size+3) rv (Ms.map (·.rb))
 n3:∀ k,m3.N k->W.heap.size<=k
 mnew:∀ g,mv3.ownBlock=some g->L<=g
 ffr:∀ k,F3 k->F k\/L<=k
 keep:Ju (CtG K F' mv) W W3
 pgs:dz E3<=dz E'+2*pr*bu
theorem Qcf pr z len(I:1<=z)(hl:1<=len):pr*min z len*ckN len z<=2*pr*len:=by
 have h:min z len*ckN len z<=2*len:=by
  by_cases h:len<=z
  ·have y:ckN len z=1:=by
    unfold ckN;refine Nat.le_antisymm ?_ ?_
    ·exact Nat.le_of_lt_succ ((Nat.div_lt_iff_lt_mul zo).2 zo)
    ·exact(Nat.le_div_iff_mul_le zo).2 zo
   rw[y,Ol4 h];omega
  rw[Oj1 zo];have H:z*ckN len z<=len+z-1:=by unfold ckN;exact Nat.mul_div_le _ _
  omega
 calc pr*min z len*ckN len z=pr*(min z len*ckN len z):=Nat.mul_assoc _ _ _
  _<=pr*(2*len):=Nat.mul_le_mul_left _ h
  _=2*pr*len:=by rw[<-Nat.mul_assoc,Nat.mul_comm pr 2]
section
variable {K:SC} {w W:World} {F F':Nat->Prop} {z bu pr L:Nat} {pre:List (Nat×Nat)} {E E':DS} {Ms:List Mr} {mv rv:Value}
theorem CtI.far (h:CtI K w F E z bu pr L pre W F' E' Ms mv rv)(hF:∀ k,F k->k<w.heap.size)(I:K.sb<w.heap.size){k}(y:w.heap.size<=k)(H:k<L):¬ CtG K F' mv k:=fun e=>by
 rcases e with e|e|e
 ·omega
 ·have:=h.mnew k e;omega
 rcases h.ffr k e with e|e
 ·have:=hF k e;omega
 omega
theorem CtI.step (hK:SK K)(h:CtI K w F E z bu pr L pre W F' E' Ms mv rv)(hF:∀ k,F k->k<w.heap.size)(cM:K.sb<w.heap.size)(cW:w.heap.size+4<=L)(bR:1<=z)(cP:z<=64)(cH:∀ ch:List Nat,(∀ t∈ch,t<nR K.cs)->1<=ch.length->ch.length<=64->(Qu (Kr4 K.ts (Jba ch K.cs) K.ts.length)).length<=pr*ch.length){f n gx cp hs}(cI:pre.length<ckN (nR K.cs) bu)(cZ:dz E+2*pr*bu*ckN (nR K.cs) bu<=930000)(bZ:1<=bu/\bu<=50000)(cX:nR K.cs<=100000)(db:f+n<=nR K.cs)(cD:1<=n)(cC:n<=bu)(hC:Qd W gx (Jnt hs K.cs.length f (f+n)) (Jba (Kr3 (List.range (nR K.cs)) (f,n)) K.cs))(dc:L<=gx)(bW:∀ j,j<K.cs.length->∃ bh bC,(Yo hs j).1=some (Ar bh bC)/\bh<K.w0.heap.size/\¬ K.F0 bh):
  Cq 247 #[Pq K.sb,Iq (pre.length:Nat)] W fun e M=>e=.returned (rpV W.heap.size)/\M.cell? (Aq w.heap.size)=some (Pq K.sb)/\∀ X,Bq M X ->
   Cq 169 #[Pq K.sb,Sq gx K.cs.length cp] X fun e O=>∃ gb,e=.returned (Sq gb K.cs.length K.cs.length)/\O.cell? (Aq w.heap.size)=some (Pq K.sb) /\
    Cq 248 #[Pq K.sb,Pq W.heap.size,Sq gb K.cs.length K.cs.length] O fun e bf=>∃ Z bx m3 cQ,CtM K w F z bu pr L pre W F' E' Ms mv rv bf Z bx m3 cQ /\
     ((e=.returned .nilIface/\m3.R.rem=Ksi (Kr6 K.ks K.cs) (Kr3 (List.range (nR K.cs)) (f,n)))\/∃ br b,e=.returned (Ip 149 b)/\Yu bf (Ip 149 b) (if br=true then K.q else K.qw) none (some (-1))/\W.heap.size<=b/\¬ Z b/\Ksy K.D0 br):=by
 have dj:=h.size;have bY:=Jd h.b0;have dl:=h.si.old.size;have bM:∀ t∈Kr3 (List.range (nR K.cs)) (f,n),t<nR K.cs:=fun t ht=>Oj4.1 (Om9 (Oh7 ht));have cx:(Kr3 (List.range (nR K.cs)) (f,n)).Pairwise (·<·):=(List.pairwise_lt_range).sublist ((List.drop_sublist _ _).trans (List.take_sublist _ _));have cv:(Kr3 (List.range (nR K.cs)) (f,n)).length=n:=by unfold Kr3;simp;omega
 generalize da:Kr3 (List.range (nR K.cs)) (f,n)=ids at *;refine(h.si.add hK (by have:=h.len;have:=Kg4 (nR K.cs) bu bZ.1;omega) pre.length).mono ?_;rintro e M ⟨rfl,bj,H⟩;have cL:=H.keep.size;have cR:∀ k,w.heap.size<=k->k<L->¬ (k=K.sb\/mv.ownBlock=some k):=fun k bz bE e=>h.far hF cM bz bE (e.imp id .inl);have bD:M.heap[w.heap.size]?=_:=(H.keep.block _ bY (cR _ (Oa2 _) zo)).trans h.b0;have dg:W.heap.size<M.heap.size:=Jd (H.sw.si.runs _ (Of6 H.sw.at_)).1.cells;refine⟨rfl,by simp[World.cell?,bD],fun X bi=>?_⟩;have di:=bi.size;have bS:SW K X F' E' (Ms++[Ksj W.heap.size pre.length]) bj (z:Int) Ms.length (Ksj W.heap.size pre.length):=H.sw.keep (G:=fun _=>False) (Ju.of_below bi) (fun _ h=>h.elim) id (fun _ _=>id) (fun _ _=>id) (fun _ _=>⟨id,fun _ _=>id⟩);have cn:gx<W.heap.size:=hC.row.lt;have cj:mv.ownBlock≠some gx:=fun e=>by
  obtain⟨cT,bB⟩:=Ja4 h.si.own e;obtain⟨cU,bJ,_⟩:=hC.row;rw[bB]at bJ;simp at bJ
 have cb:∀ j b o,j<K.cs.length->(Yo (Jnt hs K.cs.length f (f+n)) j).1=some (Ar b o)->b<K.w0.heap.size/\¬ K.F0 b:=fun j b o I e=>by
  obtain⟨bh,bC,bX,hl⟩:=bW j I;rw[Jmn I bX e];exact hl
 have bV:Qd M gx (Jnt hs K.cs.length f (f+n)) (Jba ids K.cs):=hC.on cL (H.keep.block gx cn fun e=>e.elim (fun e=>zo) cj) fun j b o I e=>by
  rw[Krw]at I;have hb:=cb j b o I e;exact H.keep.block b zo fun e=>e.elim (fun e=>by have:=hK.sb;omega) fun e=>by have:=h.mnew b e;have:=hK.sb;omega
 have cA:=(bS.si.env hK).so.key;refine(Kt8 K.sb K.kb K.ko K.kc gx cp K.ts K.cs K.ks _ ids X hK.sg cA (bV.below bi) cx bM zo).mono ?_;rintro e O ⟨bA,gb,cK,rfl,ci,bG,bH⟩;have dh:=bA.size;have bI:=Jb bi bA;have bT:O.heap[w.heap.size]?=_:=(bI.block _ zo).trans bD;refine⟨gb,rfl,by simp[World.cell?,bT],?_⟩;have cS:SW K O F' E' (Ms++[Ksj W.heap.size pre.length]) bj (z:Int) Ms.length (Ksj W.heap.size pre.length):=bS.keep (G:=fun _=>False) (Ju.of_below bA) (fun _ h=>h.elim) id (fun _ _=>id) (fun _ _=>id) (fun _ _=>⟨id,fun _ _=>id⟩);have bQ:(Ksi (Kr6 K.ks K.cs) ids).length=n:=(Ksb _ _).length_eq.trans cv;have bK:∀ b,X.heap.size<=b->¬ (F' b\/b=(Ksj W.heap.size pre.length).rb\/(Ksj W.heap.size pre.length).ab=some b):=fun b hb e=>by
  rcases e with e|e|e
  ·have:=h.si.flt b e;omega
  ·have:b=W.heap.size:=e;omega
  cases e
 have de:pr*min z n*ckN n z<=2*pr*n:=Qcf pr z n bR cD;have df:=h.pgs;have dd:2*pr*n<=2*pr*bu:=Nat.mul_le_mul_left _ cC;have cB:2*pr*bu*(pre.length+1)<=2*pr*bu*ckN (nR K.cs) bu:=Nat.mul_le_mul_left _ cI;rw[Nat.mul_add,Nat.mul_one]at cB;refine(Kuz K hK O F' E' _ bj z Ms.length _ gb K.cs.length cK (Ksi (Kr6 K.ks K.cs) ids) cS bR cP bG ⟨⟨bG.row.lt,bK gb ci⟩,fun j I b o e=>⟨(bH j I b o e).2,bK b (bH j I b o e).1⟩⟩ (fun t ht=>bM t ((Ksb _ _).mem_iff.1 ht)) zo zo (by show (0:Nat)<=100000;omega) (pr*min z n) (fun ch bB bz bE cV=>Ob2 (cH ch bB bz zo) (Nat.mul_le_mul_left _ zo)) (by rw[bQ];omega)).mono ?_;rintro e bf ⟨cz,Z,bx,m3,bk,cJ,cG,bL,cF,cY,cc,cf⟩;have cN:(Ms++[Ksj W.heap.size pre.length]).set Ms.length m3=Ms++[m3]:=zS;rw[cN]at bk;rw[bQ]at cc;have cy:Ju (fun k=>k=K.sb\/mv.ownBlock=some k) W O:=H.keep.trans' (Ju.of_below (F:=fun _=>False) bI) fun _ _ e=>e.elim;have bN:Ju (CtG K F' mv) W bf:=(cy.mono fun k _ e=>e.imp id .inl).trans' cz fun k y e=>by
  rcases e with e|e|e
  ·exact .inr (.inr e)
  ·have:k=W.heap.size:=e;omega
  cases e
 have bP:m3.rb=W.heap.size:=cJ;have bO:∀ k,m3.N k->W.heap.size<=k:=fun k y=>(cF k y).elim (fun e=>e.elim) fun e=>by omega
 refine⟨Z,bx,m3,bj,⟨bk.si,bP,cG,bk.held.1,?_,bO,fun g Y=>?_,fun k y=>(bL k y).elim (h.ffr k) fun e=>.inr zo,bN,zo⟩,?_⟩
 ·refine h.rv.step bN (fun k y e=>?_) (fun k y=>(bL k y).imp id fun e=>zo) (fun x U=>?_) fun g Y=>?_
  ·rcases e with e|e|e
   ·exact y.sb e
   ·exact y.mv e
   exact y.nf e
  ·rcases Od2.1 U with U|U
   ·exact⟨.inr ⟨x,U,rfl⟩,fun k y=>.inl ⟨x,U,y⟩⟩
   rw[Oc6.1 U];exact⟨.inl (Nat.le_of_eq bP.symm),fun k y=>.inr (bO k y)⟩
  rcases H.own with e|⟨bU,e,hl⟩
  ·exact .inl (e.symm.trans Y)
  exact .inr (by have:=Oj6 (e.symm.trans Y);omega)
 ·rcases H.own with e|⟨bU,e,hl⟩
  ·exact h.mnew g (e.symm.trans Y)
  have:=Oj6 (e.symm.trans Y);omega
 rcases cf with⟨rfl,cu⟩|⟨br,b,rfl,ca,hb,cE,_,cO⟩
 ·refine .inl ⟨rfl,?_⟩;unfold Rn.rem;rw[bk.held.1,List.nil_append,<-List.flatMap_def,cu];rfl
 exact .inr ⟨br,b,rfl,ca,zo,cE,cO⟩
end
end
open Go.RowKit Go.Shelf
theorem Rv.less {I W F H K mv rv L b ps}(h:Rv I W F K mv L b rv ps)(hF:∀ k,H k->F k):Rv I W H K mv L b rv ps:=
 h.step (Ju.refl (fun _=>False) W) (fun _ _=>id) (fun k y=>.inl (hF k y)) (fun x M=>⟨.inr ⟨x,M,rfl⟩,fun _ y=>.inl ⟨x,M,y⟩⟩) (fun _ O=>.inl O)
section
variable {K:SC} {w W W3:World} {F F' F3:Nat->Prop} {z bu pr L:Nat} {pre:List (Nat×Nat)} {E E' E3:DS} {Ms:List Mr} {mv rv mv3:Value} {m3:Mr}
theorem CtI.gcl (h:CtI K w F E z bu pr L pre W F' E' Ms mv rv)(I:K.sb<w.heap.size)(H:w.heap.size+4<=L):∀ k,CtG K F' mv k->L<=k->∃ o:Obj,W.heap[k]?=some o/\o.isCells=true:=fun k y hl=>by
 rcases y with e|e|e
 ·omega
 ·exact Ktb h.si.own e
 exact h.fcl k e hl
theorem CtM.fin (h:CtI K w F E z bu pr L pre W F' E' Ms mv rv)(hM:CtM K w F z bu pr L pre W F' E' Ms mv rv W3 F3 E3 m3 mv3)(hF:∀ k,F k->k<w.heap.size)(bi:K.sb<w.heap.size)(br:w.heap.size+4<=L){f n}(bA:m3.R.rem=Ksi (Kr6 K.ks K.cs) (Kr3 (List.range (nR K.cs)) (f,n))){Z H rv'}(bx:Bq W3 Z)(I:Jo H L 365 rv' ((Ms.map (·.rb)++[W.heap.size]).map rpV))(bf:Z.grownBy H rv.ownBlock)(bk:rv'.ownBlock=rv.ownBlock\/rv'.ownBlock=some Z.heap.size):
  (∃ bj,CtI K w F E z bu pr L (pre++[(f,n)]) (H.setCell (Aq (w.heap.size+3)) rv') bj E3 (Ms++[m3]) mv3 rv')/\KeepsFrom L W (H.setCell (Aq (w.heap.size+3)) rv')/\Ju (fun k=>CtG K F' mv k\/k=w.heap.size+3\/rv.ownBlock=some k) W (H.setCell (Aq (w.heap.size+3)) rv'):=by
 obtain⟨bB,y,bC⟩:=hM.rv.push hM.si bx I bf bk;generalize H.setCell (Aq (w.heap.size+3)) rv'=bh at *;have U:Ju (fun k=>CtG K F' mv k\/k=w.heap.size+3\/rv.ownBlock=some k) W bh:=(hM.keep.mono fun k _ e=>.inl e).trans' y fun k _ e=>.inr e;have bE:=h.size;have bD:=U.size;have hlen:=h.len;have far:∀ k,w.heap.size<=k->k<w.heap.size+3->bh.heap[k]?=W.heap[k]?:=fun k I bf=>U.block k zo fun e=>by
  rcases e with e|e|e
  ·exact h.far hF bi I zo e
  ·omega
  have:=(Je h.rv.own e).1;omega
 have bz:(Ms++[m3]).map (·.rb)=Ms.map (·.rb)++[W.heap.size]:=by rw[Ob8,<-hM.rb];rfl
 refine⟨⟨_,bC.narrow,by rw[Oa8,Oa8,hlen];rfl,fun j m x M Y=>?_,by rw[bz];exact bB.less fun k y=>y.1,(far _ (Oa2 _) zo).trans h.b0,(far _ zo zo).trans h.b1,(far _ zo zo).trans h.b2,fun m O=>?_,hM.mnew,fun k y=>hM.ffr k y.1,zo,?_,fun k y _=>y.2⟩,Ks1 U fun k y hl=>?_,U⟩
 ·by_cases hl:j<Ms.length
  ·rw[Ob0 hl]at M;rw[Ob0 zo]at Y;exact h.run j m x M Y
  have I:=(Ob9.1 M).1;rw[Oa8,List.length_singleton]at I;obtain rfl:j=Ms.length:=zo;rw[Ob6 (Oa2 _),Oe1]at M;rw[Ob6 zo,show Ms.length-pre.length=0 by omega]at Y;obtain rfl:m3=m:=Oj6 M;obtain rfl:(f,n)=x:=Oj6 Y;exact⟨hM.place.trans hlen.symm,hM.held,bA⟩
 ·rcases Od2.1 O with O|O
  ·exact h.new m O
  rw[Oc6.1 O];exact⟨by rw[hM.rb];omega,fun k y=>by have:=hM.n3 k y;omega⟩
 ·have I:=hM.pgs;have bf:=h.pgs;rw[Oa8,List.length_singleton,Nat.mul_add,Nat.mul_one];omega
 rcases y with e|e|e
 ·exact h.gcl bi br k e hl
 ·omega
 exact Ktb h.rv.own e
end
structure CtX (K:SC) (w:World) (z lim:Nat) (W:World) (F':Nat->Prop) (E':DS) (Ms:List Mr) (mv:Value) (y:Bool) (b:Nat):Prop where
 si:SI K W F' E' Ms mv (z:Int)
 b1:W.heap[w.heap.size+1]?=some (.cells #[Sz] 323 (0,0))
 b2:W.heap[w.heap.size+2]?=some (.cells #[Ip 149 b] 77 (0,0))
 ch:Yu W (Ip 149 b) (if y=true then K.q else K.qw) none (some (-1))
 bn:w.heap.size+3<=b/\¬ F' b
 why:Ksy K.D0 y
 pgs:dz E'<=lim
theorem CtX.of {y w W X K G M O mv U}{b z L lim:Nat}(bx:dz M<=lim)(bG:SI y W K M O mv (z:Int))(bL:y.w0.heap.size<=w.heap.size)(bK:y.sb<w.heap.size)(bJ:w.heap.size+3<=L)(bA:∀ k,K k->k<w.heap.size\/L<=k)(bC:∀ g,mv.ownBlock=some g->L<=g)(bf:∀ m∈O,(m.rb<w.heap.size\/L<=m.rb)/\∀ k,m.N k->k<w.heap.size\/L<=k)(br:Yu W (Ip 149 b) (if U=true then y.q else y.qw) none (some (-1)))(hb:L<=b)(bE:¬ K b)(bH:Ksy y.D0 U)(I:Ju G W X)(bk:∀ k,G k->k=w.heap.size+1\/k=w.heap.size+2)(bi:X.heap[w.heap.size+1]?=some (.cells #[Sz] 323 (0,0)))(bj:X.heap[w.heap.size+2]?=some (.cells #[Ip 149 b] 77 (0,0))):CtX y w z lim X K M O mv U b:=by
 obtain⟨bh,bI⟩:=br.disk_at;have H:∀ k,G k->w.heap.size<k/\k<L:=fun k I=>by have:=bk k I;omega
 have Y:X.heap[b]?=W.heap[b]?:=I.block b (Jb0 bh) fun e=>by have:=H b e;omega
 refine⟨bG.keep I (fun k I=>by have:=H k I;omega) (fun e=>by have:=H _ e;omega) (fun g bB e=>by have:=H _ e;have:=bC g bB;omega) (fun k bz e=>by have:=H _ e;have:=bA k bz;omega) (fun m Z=>⟨fun e=>by have:=H _ e;have:=(bf m Z).1;omega,fun k bD e=>by have:=H _ e;have:=(bf m Z).2 k bD;omega⟩),bi,bj,.disk b _ _ ((Oc3 Y).trans bh) ((Oc3 Y).trans bI),⟨zo,bE⟩,bH,bx⟩
theorem CtX.ck {H w W I M K O mv U b z lim}(h:CtX H w z lim W M K O mv U b)(y:CK W I)(ho:Ju H.F0 H.w0 I):CtX H w z lim I M K O mv U b:=by
 obtain⟨Y,Z⟩:=h.ch.disk_at;exact⟨h.si.ck y ho,y.cells _ _ _ _ h.b1,y.cells _ _ _ _ h.b2,.disk b _ _ (y.cell Y) (y.cell Z),h.bn,h.why,h.pgs⟩
theorem CtI.ck {H w W I F M z bu pr L U E K O mv rv}(h:CtI H w F E z bu pr L U W M K O mv rv)(y:CK W I)(ho:Ju H.F0 H.w0 I):CtI H w F E z bu pr L U I M K O mv rv:=
 ⟨h.si.ck y ho,h.len,h.run,h.rv.ck y,y.cells _ _ _ _ h.b0,y.cells _ _ _ _ h.b1,y.cells _ _ _ _ h.b2,h.new,h.mnew,h.ffr,Ob2 h.size y.size,h.pgs,fun k Y hl=>y.isCells (h.fcl k Y hl)⟩
def Ks8 (y:List Mr)(i:Nat):Nat:=((y[i]?).map (·.rb)).getD 0
theorem Qbh y:(List.range y.length).map (Ks8 y)=y.map (·.rb):=by
 refine Oi8 fun j=>?_;rw[Ob1,Ob1];by_cases h:j<y.length
 ·rw[Oh6 h,Oa3 h];simp[Ks8,List.getElem?_eq_getElem h]
 rw[Ob4 zt,Ob4 zo];rfl
structure Ks4 (K:SC) (z:Nat) (W:World) (F':Nat->Prop) (E':DS) (Ms:List Mr) (mv rv:Value) (idx:List Nat) (Ls:List (List Nat)):Prop where
 si:SI K W F' E' Ms mv (z:Int)
 rd:Rdy K Ms idx Ls 0
 flat:Ls.flatten=List.range (nR K.cs)
 own:Jo W K.w0.heap.size 365 rv ((idx.map (Ks8 Ms)).map rpV)
 no:∀ g,rv.ownBlock=some g->NoS K W F' Ms mv g
theorem Ks4.keep {M z W Z K G U O mv rv idx Y}(h:Ks4 M z W K U O mv rv idx Y)(I:Ju G W Z)(y:∀ k,G k->NoS M W K O mv k)(hr:∀ g,rv.ownBlock=some g->¬ G g):Ks4 M z Z K U O mv rv idx Y:=
 ⟨h.si.keep I (fun k I=>(y k I).lo) (fun e=>(y _ e).sb rfl) (fun _ H e=>(y _ e).mv H) (fun _ bh e=>(y _ e).nf bh) (fun m bf=>⟨fun e=>((y _ e).ms m bf).1 rfl,fun _ bi e=>((y _ e).ms m bf).2 bi⟩),h.rd,h.flat,Yd h.own fun g H=>I.block g (h.no g H).lt (hr g H),fun g H=>(h.no g H).grown I.size⟩
theorem Ks4.ck {y z W H M K U mv rv idx O}(h:Ks4 y z W M K U mv rv idx O)(I:CK W H)(ho:Ju y.F0 y.w0 H):Ks4 y z H M K U mv rv idx O:=
 ⟨h.si.ck I ho,h.rd,h.flat,Jxz h.own I,fun g Y=>(h.no g Y).grown I.size⟩
theorem CtI.noB {y w W F H z bu pr L O E M I mv rv}(h:CtI y w F E z bu pr L O W H M I mv rv)(hF:∀ k,F k->k<w.heap.size)(Z:y.sb<w.heap.size)(bf:y.w0.heap.size<=w.heap.size){k}(U:w.heap.size<=k)(Y:k<L):NoS y W H I mv k:=by
 have hs:=h.size;refine⟨zo,zo,zo,fun e=>by have:=h.mnew k e;omega,fun e=>?_,fun m K=>⟨fun e=>by have:=(h.new m K).1;omega,fun e=>by have:=(h.new m K).2 k e;omega⟩⟩;rcases h.ffr k e with e|e
 ·have:=hF k e;omega
 omega
def Kzd (H:SC)(w:World)(z q ml lim:Nat)(e:Ending)(w':World):Prop:=
 (∃ I y K mv rv idx O,e=.returned (.tuple #[rv,.nilIface])/\Ks4 H z w' I y K mv rv idx O/\idx.length=q/\K.length=ml/\dz y<=lim) \/
 (∃ I y K mv M b,e=.returned (.tuple #[Sz,Ip 149 b])/\SI H w' I y K mv (z:Int)/\Yu w' (Ip 149 b) (if M=true then H.q else H.qw) none (some (-1))/\w.heap.size<=b/\¬ I b/\Ksy H.D0 M/\dz y<=lim)
theorem CtI.all {y w W F U z bu pr L E O I mv rv}(h:CtI y w F E z bu pr L (cks (nR y.cs) bu (ckN (nR y.cs) bu)) W U O I mv rv)(Y:1<=bu)(bk:y.w0.heap.size<=L):
  Ks4 y z W U O I mv rv (List.range (ckN (nR y.cs) bu)) (chL (nR y.cs) (cks (nR y.cs) bu (ckN (nR y.cs) bu))):=by
 have hlen:=h.len;rw[Jbp]at hlen;have K:(chL (nR y.cs) (cks (nR y.cs) bu (ckN (nR y.cs) bu))).flatten=List.range (nR y.cs):=by
  have:=Kvl (List.range (nR y.cs)) bu Y;rw[Op1]at this;exact this
 refine⟨h.si,⟨List.nodup_range,?_,?_,?_,fun l hl=>?_,fun j i l _ M hl=>?_⟩,K,?_,h.rv.no⟩
 ·unfold chL;rw[Oa6,Jbp,Op1]
 ·rw[K];exact List.pairwise_lt_range
 ·rw[K];exact fun x H=>Oj4.1 H
 ·unfold chL at hl;obtain⟨x,H,rfl⟩:=Of0.1 hl;unfold cks at H;obtain⟨i,hi,rfl⟩:=Of0.1 H;have:=Jqs Y (Oj4.1 hi);intro e;have:=congrArg List.length e;unfold Kr3 Jaa at this;simp at this;omega
 ·have br:j<ckN (nR y.cs) bu:=by have:=(Ob9.1 M).1;rw[Op1]at this;exact this
  rw[Oh6 br]at M;obtain rfl:j=i:=Oj6 M;unfold chL at hl;rw[Ob1]at hl;obtain⟨x,H,rfl⟩:=Oe9.1 hl;have Z:I[j]?=some (I[j]' zo):=Oa3 _;exact⟨_,Z,h.run j _ x Z H⟩
 rw[<-hlen,Qbh];exact⟨h.rv.own.1,h.rv.own.2.imp id fun ⟨g,cap,bf,bh,bi,bj⟩=>⟨g,cap,bf,bh,Ob2 bk bi,bj⟩⟩
