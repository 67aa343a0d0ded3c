/- cut: what holds between two batches. -/
import Derived.Test.YtjbenncelbpbnaaGreatDoorOd
import Derived.Test.YtjbenncelbpbnaaGreatDoorOb
namespace Go.Proofs.YtjbenncelbpbnaaGreatDoor
section
open Go.RowKit Go.Shelf Tryz
def chL (n:Nat)(y:List (Nat×Nat)):List (List Nat):=y.map (Kr2 (List.range n))
structure CtI (K:SC) (w:World) (F:Nat->Prop) (E:DS) (z bu pr L:Nat) (pre:List (Nat×Nat)) (W:World) (F':Nat->Prop) (E':DS) (Ms:List Mr) (mv rv:Value):Prop where
 si:SI K W F' E' Ms mv (z:Int)
 len:Ms.length=pre.length
 run:∀ (j:Nat) m x,Ms[j]?=some m->pre[j]?=some x->m.R.place=j/\m.R.held=[]/\m.R.rem=Ksg (Kr5 K.ks K.cs) (Kr2 (List.range (nR K.cs)) x)
 rv:Rv K W F' Ms mv L (w.heap.size+3) rv (Ms.map (·.rb))
 b0:W.heap[w.heap.size]?=some (.cells #[.pointer (some ⟨K.sb,0,none⟩)] 300 (0,0))
 b1:W.heap[w.heap.size+1]?=some (.cells #[.slice none 0 0] 301 (0,0))
 b2:W.heap[w.heap.size+2]?=some (.cells #[.nilIface] 78 (0,0))
 new:∀ m∈Ms,L<=m.rb/\∀ k,m.N k->L<=k
 mnew:∀ g,mv.ownBlock=some g->L<=g
 ffr:∀ k,F' k->F k\/L<=k
 size:L<=W.heap.size
 pgs:dz E'<=dz E+2*pr*bu*pre.length
 fcl:∀ k,F' k->L<=k->∃ o:Obj,W.heap[k]?=some o/\o.isCells=true
def CtG (H:SC)(y:Nat->Prop)(mv:Value):Nat->Prop:=fun k=>k=H.sb\/mv.ownBlock=some k\/y k
structure CtM (K:SC) (w:World) (F:Nat->Prop) (z bu pr L:Nat) (pre:List (Nat×Nat)) (W:World) (F':Nat->Prop) (E':DS) (Ms:List Mr) (mv rv:Value) (W3:World) (F3:Nat->Prop) (E3:DS) (m3:Mr) (mv3:Value):Prop where
 si:SI K W3 F3 E3 (Ms++[m3]) mv3 (z:Int)
 rb:m3.rb=W.heap.size
 place:m3.R.place=pre.length
 held:m3.R.held=[]
 rv:Rv K W3 F3 (Ms++[m3]) mv3 L (w.heap.size+3) rv (Ms.map (·.rb))
 n3:∀ k,m3.N k->W.heap.size<=k
 mnew:∀ g,mv3.ownBlock=some g->L<=g
 ffr:∀ k,F3 k->F k\/L<=k
 keep:Ju (CtG K F' mv) W W3
 pgs:dz E3<=dz E'+2*pr*bu
theorem Qbn pr z len(I:1<=z)(hl:1<=len):pr*min z len*ckN len z<=2*pr*len:=by
 have h:min z len*ckN len z<=2*len:=by
  by_cases h:len<=z
  ·have y:ckN len z=1:=by
    unfold ckN;refine Nat.le_antisymm ?_ ?_
    ·exact Nat.le_of_lt_succ ((Nat.div_lt_iff_lt_mul zo).2 zo)
    ·exact(Nat.le_div_iff_mul_le zo).2 zo
   rw[y,Ol4 h];omega
  rw[Oj1 zo];have H:z*ckN len z<=len+z-1:=by unfold ckN;exact Nat.mul_div_le _ _
  omega
 calc pr*min z len*ckN len z=pr*(min z len*ckN len z):=Nat.mul_assoc _ _ _
  _<=pr*(2*len):=Nat.mul_le_mul_left _ h
  _=2*pr*len:=by rw[<-Nat.mul_assoc,Nat.mul_comm pr 2]
section
variable {K:SC} {w W:World} {F F':Nat->Prop} {z bu pr L:Nat} {pre:List (Nat×Nat)} {E E':DS} {Ms:List Mr} {mv rv:Value}
theorem CtI.far (h:CtI K w F E z bu pr L pre W F' E' Ms mv rv)(hF:∀ k,F k->k<w.heap.size)(I:K.sb<w.heap.size){k}(y:w.heap.size<=k)(H:k<L):¬ CtG K F' mv k:=fun e=>by
 rcases e with e|e|e
 ·omega
 ·have:=h.mnew k e;omega
 rcases h.ffr k e with e|e
 ·have:=hF k e;omega
 omega
theorem CtI.step (hK:SK K)(h:CtI K w F E z bu pr L pre W F' E' Ms mv rv)(hF:∀ k,F k->k<w.heap.size)(cL:K.sb<w.heap.size)(cV:w.heap.size+4<=L)(bR:1<=z)(cO:z<=64)(cG:∀ ch:List Nat,(∀ t∈ch,t<nR K.cs)->1<=ch.length->ch.length<=64->(Qu (Kr3 K.ts (Jba ch K.cs) K.ts.length)).length<=pr*ch.length){f n gx cp hs}(cH:pre.length<ckN (nR K.cs) bu)(cY:dz E+2*pr*bu*ckN (nR K.cs) bu<=930000)(bZ:1<=bu/\bu<=50000)(cW:nR K.cs<=100000)(da:f+n<=nR K.cs)(cC:1<=n)(hn:n<=bu)(hC:Qd W gx (Jnt hs K.cs.length f (f+n)) (Jba (Kr2 (List.range (nR K.cs)) (f,n)) K.cs))(db:L<=gx)(bW:∀ j,j<K.cs.length->∃ bh bC,(Yo hs j).1=some ⟨bh,bC,none⟩/\bh<K.w0.heap.size/\¬ K.F0 bh):
  Calls prog 240 #[.pointer (some ⟨K.sb,0,none⟩),.int .i64 (pre.length:Nat)] W fun e I=>e=.returned (rpV W.heap.size)/\I.cell? ⟨w.heap.size,0,none⟩=some (.pointer (some ⟨K.sb,0,none⟩))/\∀ X,Below I.heap.size I X ->
   Calls prog 154 #[.pointer (some ⟨K.sb,0,none⟩),.slice (some ⟨gx,0,none⟩) K.cs.length cp] X fun e M=>∃ O,e=.returned (.slice (some ⟨O,0,none⟩) K.cs.length K.cs.length)/\M.cell? ⟨w.heap.size,0,none⟩=some (.pointer (some ⟨K.sb,0,none⟩)) /\
    Calls prog 241 #[.pointer (some ⟨K.sb,0,none⟩),.pointer (some ⟨W.heap.size,0,none⟩),.slice (some ⟨O,0,none⟩) K.cs.length K.cs.length] M fun e bf=>∃ Z bx m3 cP,CtM K w F z bu pr L pre W F' E' Ms mv rv bf Z bx m3 cP /\
     ((e=.returned .nilIface/\m3.R.rem=Ksg (Kr5 K.ks K.cs) (Kr2 (List.range (nR K.cs)) (f,n)))\/∃ br b,e=.returned (.iface 156 (.pointer (some ⟨b,0,none⟩)))/\Yu bf (.iface 156 (.pointer (some ⟨b,0,none⟩))) (if br=true then K.q else K.qw) none (some (-1))/\W.heap.size<=b/\¬ Z b/\Kso K.D0 br):=by
 have di:=h.size;have bY:=Jd h.b0;have dj:=h.si.old.size;have bM:∀ t∈Kr2 (List.range (nR K.cs)) (f,n),t<nR K.cs:=fun t ht=>Oj4.1 (Om9 (Oh7 ht));have cx:(Kr2 (List.range (nR K.cs)) (f,n)).Pairwise (·<·):=(List.pairwise_lt_range).sublist ((List.drop_sublist _ _).trans (List.take_sublist _ _));have cv:(Kr2 (List.range (nR K.cs)) (f,n)).length=n:=by unfold Kr2;simp;omega
 generalize cZ:Kr2 (List.range (nR K.cs)) (f,n)=ids at *;refine(h.si.add hK (by have:=h.len;have:=Kg4 (nR K.cs) bu bZ.1;omega) pre.length).mono ?_;rintro e I ⟨rfl,bj,y⟩;have cK:=y.keep.size;have cQ:∀ k,w.heap.size<=k->k<L->¬ (k=K.sb\/mv.ownBlock=some k):=fun k bz bE e=>h.far hF cL bz bE (e.imp id .inl);have bD:I.heap[w.heap.size]?=_:=(y.keep.block _ bY (cQ _ (Oa2 _) zo)).trans h.b0;have df:W.heap.size<I.heap.size:=Jd (y.sw.si.runs _ (Of6 y.sw.at_)).1.cells;refine⟨rfl,by simp[World.cell?,bD],fun X bi=>?_⟩;have dh:=bi.size;have bS:SW K X F' E' (Ms++[Ksi W.heap.size pre.length]) bj (z:Int) Ms.length (Ksi W.heap.size pre.length):=y.sw.keep (G:=fun _=>False) (Ju.of_below bi) (fun _ h=>h.elim) id (fun _ _=>id) (fun _ _=>id) (fun _ _=>⟨id,fun _ _=>id⟩);have cn:gx<W.heap.size:=hC.row.lt;have cj:mv.ownBlock≠some gx:=fun e=>by
  obtain⟨cS,bB⟩:=Ja4 h.si.own e;obtain⟨cT,bJ,_⟩:=hC.row;rw[bB]at bJ;simp at bJ
 have cb:∀ j b o,j<K.cs.length->(Yo (Jnt hs K.cs.length f (f+n)) j).1=some ⟨b,o,none⟩->b<K.w0.heap.size/\¬ K.F0 b:=fun j b o H e=>by
  obtain⟨bh,bC,bX,hl⟩:=bW j H;rw[Jmn H bX e];exact hl
 have bV:Qd I gx (Jnt hs K.cs.length f (f+n)) (Jba ids K.cs):=hC.on cK (y.keep.block gx cn fun e=>e.elim (fun e=>zo) cj) fun j b o H e=>by
  rw[Krw]at H;have hb:=cb j b o H e;exact y.keep.block b zo fun e=>e.elim (fun e=>by have:=hK.sb;omega) fun e=>by have:=h.mnew b e;have:=hK.sb;omega
 have cA:=(bS.si.env hK).so.key;refine(Kt3 K.sb K.kb K.ko K.kc gx cp K.ts K.cs K.ks _ ids X hK.sg cA (bV.below bi) cx bM zo).mono ?_;rintro e M ⟨bA,O,cJ,rfl,ci,bG,bH⟩;have dg:=bA.size;have bI:=Jb bi bA;have bT:M.heap[w.heap.size]?=_:=(bI.block _ zo).trans bD;refine⟨O,rfl,by simp[World.cell?,bT],?_⟩;have cR:SW K M F' E' (Ms++[Ksi W.heap.size pre.length]) bj (z:Int) Ms.length (Ksi W.heap.size pre.length):=bS.keep (G:=fun _=>False) (Ju.of_below bA) (fun _ h=>h.elim) id (fun _ _=>id) (fun _ _=>id) (fun _ _=>⟨id,fun _ _=>id⟩);have bQ:(Ksg (Kr5 K.ks K.cs) ids).length=n:=(Kr9 _ _).length_eq.trans cv;have bK:∀ b,X.heap.size<=b->¬ (F' b\/b=(Ksi W.heap.size pre.length).rb\/(Ksi W.heap.size pre.length).ab=some b):=fun b hb e=>by
  rcases e with e|e|e
  ·have:=h.si.flt b e;omega
  ·have:b=W.heap.size:=e;omega
  cases e
 have dd:pr*min z n*ckN n z<=2*pr*n:=Qbn pr z n bR cC;have de:=h.pgs;have dc:2*pr*n<=2*pr*bu:=Nat.mul_le_mul_left _ hn;have cB:2*pr*bu*(pre.length+1)<=2*pr*bu*ckN (nR K.cs) bu:=Nat.mul_le_mul_left _ cH;rw[Nat.mul_add,Nat.mul_one]at cB;refine(Kux K hK M F' E' _ bj z Ms.length _ O K.cs.length cJ (Ksg (Kr5 K.ks K.cs) ids) cR bR cO bG ⟨⟨bG.row.lt,bK O ci⟩,fun j H b o e=>⟨(bH j H b o e).2,bK b (bH j H b o e).1⟩⟩ (fun t ht=>bM t ((Kr9 _ _).mem_iff.1 ht)) zo zo (by show (0:Nat)<=100000;omega) (pr*min z n) (fun ch bB bz bE cU=>Ob2 (cG ch bB bz zo) (Nat.mul_le_mul_left _ zo)) (by rw[bQ];omega)).mono ?_;rintro e bf ⟨cz,Z,bx,m3,bk,cI,cF,bL,cE,cX,cc,cf⟩;have cM:(Ms++[Ksi W.heap.size pre.length]).set Ms.length m3=Ms++[m3]:=zS;rw[cM]at bk;rw[bQ]at cc;have cy:Ju (fun k=>k=K.sb\/mv.ownBlock=some k) W M:=y.keep.trans' (Ju.of_below (F:=fun _=>False) bI) fun _ _ e=>e.elim;have bN:Ju (CtG K F' mv) W bf:=(cy.mono fun k _ e=>e.imp id .inl).trans' cz fun k hk e=>by
  rcases e with e|e|e
  ·exact .inr (.inr e)
  ·have:k=W.heap.size:=e;omega
  cases e
 have bP:m3.rb=W.heap.size:=cI;have bO:∀ k,m3.N k->W.heap.size<=k:=fun k hk=>(cE k hk).elim (fun e=>e.elim) fun e=>by omega
 refine⟨Z,bx,m3,bj,⟨bk.si,bP,cF,bk.held.1,?_,bO,fun g Y=>?_,fun k hk=>(bL k hk).elim (h.ffr k) fun e=>.inr zo,bN,zo⟩,?_⟩
 ·refine h.rv.step bN (fun k hk e=>?_) (fun k hk=>(bL k hk).imp id fun e=>zo) (fun x U=>?_) fun g Y=>?_
  ·rcases e with e|e|e
   ·exact hk.sb e
   ·exact hk.mv e
   exact hk.nf e
  ·rcases Od2.1 U with U|U
   ·exact⟨.inr ⟨x,U,rfl⟩,fun k hk=>.inl ⟨x,U,hk⟩⟩
   rw[Oc6.1 U];exact⟨.inl (Nat.le_of_eq bP.symm),fun k hk=>.inr (bO k hk)⟩
  rcases y.own with e|⟨bU,e,hl⟩
  ·exact .inl (e.symm.trans Y)
  exact .inr (by have:=Oj6 (e.symm.trans Y);omega)
 ·rcases y.own with e|⟨bU,e,hl⟩
  ·exact h.mnew g (e.symm.trans Y)
  have:=Oj6 (e.symm.trans Y);omega
 rcases cf with⟨rfl,cu⟩|⟨br,b,rfl,ca,hb,cD,_,cN⟩
 ·refine .inl ⟨rfl,?_⟩;unfold Rn.rem;rw[bk.held.1,List.nil_append,<-List.flatMap_def,cu];rfl
 exact .inr ⟨br,b,rfl,ca,zo,cD,cN⟩
end
end
open Go.RowKit Go.Shelf
theorem Rv.less {H W F y I mv rv L b ps}(h:Rv H W F I mv L b rv ps)(hF:∀ k,y k->F k):Rv H W y I mv L b rv ps:=
 h.step (Ju.refl (fun _=>False) W) (fun _ _=>id) (fun k hk=>.inl (hF k hk)) (fun x K=>⟨.inr ⟨x,K,rfl⟩,fun _ hk=>.inl ⟨x,K,hk⟩⟩) (fun _ M=>.inl M)
section
variable {K:SC} {w W W3:World} {F F' F3:Nat->Prop} {z bu pr L:Nat} {pre:List (Nat×Nat)} {E E' E3:DS} {Ms:List Mr} {mv rv mv3:Value} {m3:Mr}
theorem CtI.gcl (h:CtI K w F E z bu pr L pre W F' E' Ms mv rv)(H:K.sb<w.heap.size)(y:w.heap.size+4<=L):∀ k,CtG K F' mv k->L<=k->∃ o:Obj,W.heap[k]?=some o/\o.isCells=true:=fun k hk hl=>by
 rcases hk with e|e|e
 ·omega
 ·exact Ks9 h.si.own e
 exact h.fcl k e hl
theorem CtM.fin (h:CtI K w F E z bu pr L pre W F' E' Ms mv rv)(hM:CtM K w F z bu pr L pre W F' E' Ms mv rv W3 F3 E3 m3 mv3)(hF:∀ k,F k->k<w.heap.size)(bh:K.sb<w.heap.size)(bk:w.heap.size+4<=L){f n}(bz:m3.R.rem=Ksg (Kr5 K.ks K.cs) (Kr2 (List.range (nR K.cs)) (f,n))){Y y rv'}(br:Below W3.heap.size W3 Y)(H:Jo y L 354 rv' ((Ms.map (·.rb)++[W.heap.size]).map rpV))(Z:Y.grownBy y rv.ownBlock)(bj:rv'.ownBlock=rv.ownBlock\/rv'.ownBlock=some Y.heap.size):
  (∃ bi,CtI K w F E z bu pr L (pre++[(f,n)]) (y.setCell ⟨w.heap.size+3,0,none⟩ rv') bi E3 (Ms++[m3]) mv3 rv')/\KeepsFrom L W (y.setCell ⟨w.heap.size+3,0,none⟩ rv')/\Ju (fun k=>CtG K F' mv k\/k=w.heap.size+3\/rv.ownBlock=some k) W (y.setCell ⟨w.heap.size+3,0,none⟩ rv'):=by
 obtain⟨bA,hk,bB⟩:=hM.rv.push hM.si br H Z bj;generalize y.setCell ⟨w.heap.size+3,0,none⟩ rv'=bf at *;have O:Ju (fun k=>CtG K F' mv k\/k=w.heap.size+3\/rv.ownBlock=some k) W bf:=(hM.keep.mono fun k _ e=>.inl e).trans' hk fun k _ e=>.inr e;have bD:=h.size;have bC:=O.size;have hlen:=h.len;have far:∀ k,w.heap.size<=k->k<w.heap.size+3->bf.heap[k]?=W.heap[k]?:=fun k H Z=>O.block k zo fun e=>by
  rcases e with e|e|e
  ·exact h.far hF bh H zo e
  ·omega
  have:=(Je h.rv.own e).1;omega
 have bx:(Ms++[m3]).map (·.rb)=Ms.map (·.rb)++[W.heap.size]:=by rw[Ob8,<-hM.rb];rfl
 refine⟨⟨_,bB.narrow,by rw[Oa8,Oa8,hlen];rfl,fun j m x I U=>?_,by rw[bx];exact bA.less fun k hk=>hk.1,(far _ (Oa2 _) zo).trans h.b0,(far _ zo zo).trans h.b1,(far _ zo zo).trans h.b2,fun m M=>?_,hM.mnew,fun k hk=>hM.ffr k hk.1,zo,?_,fun k hk _=>hk.2⟩,Ks1 O fun k hk hl=>?_,O⟩
 ·by_cases hl:j<Ms.length
  ·rw[Ob0 hl]at I;rw[Ob0 zo]at U;exact h.run j m x I U
  have H:=(Ob9.1 I).1;rw[Oa8,List.length_singleton]at H;obtain rfl:j=Ms.length:=zo;rw[Ob6 (Oa2 _),Oe1]at I;rw[Ob6 zo,show Ms.length-pre.length=0 by omega]at U;obtain rfl:m3=m:=Oj6 I;obtain rfl:(f,n)=x:=Oj6 U;exact⟨hM.place.trans hlen.symm,hM.held,bz⟩
 ·rcases Od2.1 M with M|M
  ·exact h.new m M
  rw[Oc6.1 M];exact⟨by rw[hM.rb];omega,fun k hk=>by have:=hM.n3 k hk;omega⟩
 ·have H:=hM.pgs;have Z:=h.pgs;rw[Oa8,List.length_singleton,Nat.mul_add,Nat.mul_one];omega
 rcases hk with e|e|e
 ·exact h.gcl bh bk k e hl
 ·omega
 exact Ks9 h.rv.own e
end
structure CtX (K:SC) (w:World) (z lim:Nat) (W:World) (F':Nat->Prop) (E':DS) (Ms:List Mr) (mv:Value) (y:Bool) (b:Nat):Prop where
 si:SI K W F' E' Ms mv (z:Int)
 b1:W.heap[w.heap.size+1]?=some (.cells #[.slice none 0 0] 301 (0,0))
 b2:W.heap[w.heap.size+2]?=some (.cells #[.iface 156 (.pointer (some ⟨b,0,none⟩))] 78 (0,0))
 ch:Yu W (.iface 156 (.pointer (some ⟨b,0,none⟩))) (if y=true then K.q else K.qw) none (some (-1))
 bn:w.heap.size+3<=b/\¬ F' b
 why:Kso K.D0 y
 pgs:dz E'<=lim
theorem CtX.of {y w W X I G K M mv O}{b z L lim:Nat}(br:dz K<=lim)(bC:SI y W I K M mv (z:Int))(bI:y.w0.heap.size<=w.heap.size)(bH:y.sb<w.heap.size)(bG:w.heap.size+3<=L)(bx:∀ k,I k->k<w.heap.size\/L<=k)(bA:∀ g,mv.ownBlock=some g->L<=g)(Z:∀ m∈M,(m.rb<w.heap.size\/L<=m.rb)/\∀ k,m.N k->k<w.heap.size\/L<=k)(bk:Yu W (.iface 156 (.pointer (some ⟨b,0,none⟩))) (if O=true then y.q else y.qw) none (some (-1)))(hb:L<=b)(bB:¬ I b)(bD:Kso y.D0 O)(hk:Ju G W X)(bj:∀ k,G k->k=w.heap.size+1\/k=w.heap.size+2)(bh:X.heap[w.heap.size+1]?=some (.cells #[.slice none 0 0] 301 (0,0)))(bi:X.heap[w.heap.size+2]?=some (.cells #[.iface 156 (.pointer (some ⟨b,0,none⟩))] 78 (0,0))):CtX y w z lim X I K M mv O b:=by
 obtain⟨bf,bE⟩:=bk.disk_at;have H:∀ k,G k->w.heap.size<k/\k<L:=fun k hk=>by have:=bj k hk;omega
 have U:X.heap[b]?=W.heap[b]?:=hk.block b (Jb0 bf) fun e=>by have:=H b e;omega
 refine⟨bC.keep hk (fun k hk=>by have:=H k hk;omega) (fun e=>by have:=H _ e;omega) (fun g bz e=>by have:=H _ e;have:=bA g bz;omega) (fun k hf e=>by have:=H _ e;have:=bx k hf;omega) (fun m Y=>⟨fun e=>by have:=H _ e;have:=(Z m Y).1;omega,fun k hn e=>by have:=H _ e;have:=(Z m Y).2 k hn;omega⟩),bh,bi,.disk b _ _ ((Oc3 U).trans bf) ((Oc3 U).trans bE),⟨zo,bB⟩,bD,br⟩
theorem CtX.ck {y w W H K I M mv O b z lim}(h:CtX y w z lim W K I M mv O b)(hk:CK W H)(ho:Ju y.F0 y.w0 H):CtX y w z lim H K I M mv O b:=by
 obtain⟨U,Y⟩:=h.ch.disk_at;exact⟨h.si.ck hk ho,hk.cells _ _ _ _ h.b1,hk.cells _ _ _ _ h.b2,.disk b _ _ (hk.cell U) (hk.cell Y),h.bn,h.why,h.pgs⟩
theorem CtI.ck {y w W H F K z bu pr L O E I M mv rv}(h:CtI y w F E z bu pr L O W K I M mv rv)(hk:CK W H)(ho:Ju y.F0 y.w0 H):CtI y w F E z bu pr L O H K I M mv rv:=
 ⟨h.si.ck hk ho,h.len,h.run,h.rv.ck hk,hk.cells _ _ _ _ h.b0,hk.cells _ _ _ _ h.b1,hk.cells _ _ _ _ h.b2,h.new,h.mnew,h.ffr,Ob2 h.size hk.size,h.pgs,fun k U hl=>hk.isCells (h.fcl k U hl)⟩
def Ks7 (y:List Mr)(i:Nat):Nat:=((y[i]?).map (·.rb)).getD 0
theorem Qbk y:(List.range y.length).map (Ks7 y)=y.map (·.rb):=by
 refine Oi8 fun j=>?_;rw[Ob1,Ob1];by_cases h:j<y.length
 ·rw[Oh6 h,Oa3 h];simp[Ks7,List.getElem?_eq_getElem h]
 rw[Ob4 zt,Ob4 zo];rfl
structure Ks4 (K:SC) (z:Nat) (W:World) (F':Nat->Prop) (E':DS) (Ms:List Mr) (mv rv:Value) (idx:List Nat) (Ls:List (List Nat)):Prop where
 si:SI K W F' E' Ms mv (z:Int)
 rd:Rdy K Ms idx Ls 0
 flat:Ls.flatten=List.range (nR K.cs)
 own:Jo W K.w0.heap.size 354 rv ((idx.map (Ks7 Ms)).map rpV)
 no:∀ g,rv.ownBlock=some g->NoS K W F' Ms mv g
theorem Ks4.keep {K z W Y I G O M mv rv idx U}(h:Ks4 K z W I O M mv rv idx U)(hk:Ju G W Y)(y:∀ k,G k->NoS K W I M mv k)(hr:∀ g,rv.ownBlock=some g->¬ G g):Ks4 K z Y I O M mv rv idx U:=
 ⟨h.si.keep hk (fun k hk=>(y k hk).lo) (fun e=>(y _ e).sb rfl) (fun _ H e=>(y _ e).mv H) (fun _ hf e=>(y _ e).nf hf) (fun m Z=>⟨fun e=>((y _ e).ms m Z).1 rfl,fun _ hn e=>((y _ e).ms m Z).2 hn⟩),h.rd,h.flat,Yd h.own fun g H=>hk.block g (h.no g H).lt (hr g H),fun g H=>(h.no g H).grown hk.size⟩
theorem Ks4.ck {y z W H K I O mv rv idx M}(h:Ks4 y z W K I O mv rv idx M)(hk:CK W H)(ho:Ju y.F0 y.w0 H):Ks4 y z H K I O mv rv idx M:=
 ⟨h.si.ck hk ho,h.rd,h.flat,Jxz h.own hk,fun g U=>(h.no g U).grown hk.size⟩
theorem CtI.noB {y w W F H z bu pr L O E M I mv rv}(h:CtI y w F E z bu pr L O W H M I mv rv)(hF:∀ k,F k->k<w.heap.size)(Z:y.sb<w.heap.size)(bf:y.w0.heap.size<=w.heap.size){k}(U:w.heap.size<=k)(Y:k<L):NoS y W H I mv k:=by
 have hs:=h.size;refine⟨zo,zo,zo,fun e=>by have:=h.mnew k e;omega,fun e=>?_,fun m K=>⟨fun e=>by have:=(h.new m K).1;omega,fun e=>by have:=(h.new m K).2 k e;omega⟩⟩;rcases h.ffr k e with e|e
 ·have:=hF k e;omega
 omega
def Ky4 (H:SC)(w:World)(z q ml lim:Nat)(e:Ending)(w':World):Prop:=
 (∃ I y K mv rv idx O,e=.returned (.tuple #[rv,.nilIface])/\Ks4 H z w' I y K mv rv idx O/\idx.length=q/\K.length=ml/\dz y<=lim) \/
 (∃ I y K mv M b,e=.returned (.tuple #[.slice none 0 0,.iface 156 (.pointer (some ⟨b,0,none⟩))])/\SI H w' I y K mv (z:Int)/\Yu w' (.iface 156 (.pointer (some ⟨b,0,none⟩))) (if M=true then H.q else H.qw) none (some (-1))/\w.heap.size<=b/\¬ I b/\Kso H.D0 M/\dz y<=lim)
theorem CtI.all {y w W F U z bu pr L E O I mv rv}(h:CtI y w F E z bu pr L (cks (nR y.cs) bu (ckN (nR y.cs) bu)) W U O I mv rv)(Y:1<=bu)(bk:y.w0.heap.size<=L):
  Ks4 y z W U O I mv rv (List.range (ckN (nR y.cs) bu)) (chL (nR y.cs) (cks (nR y.cs) bu (ckN (nR y.cs) bu))):=by
 have hlen:=h.len;rw[Jbp]at hlen;have K:(chL (nR y.cs) (cks (nR y.cs) bu (ckN (nR y.cs) bu))).flatten=List.range (nR y.cs):=by
  have:=Kva (List.range (nR y.cs)) bu Y;rw[Op1]at this;exact this
 refine⟨h.si,⟨List.nodup_range,?_,?_,?_,fun l hl=>?_,fun j i l _ M hl=>?_⟩,K,?_,h.rv.no⟩
 ·unfold chL;rw[Oa6,Jbp,Op1]
 ·rw[K];exact List.pairwise_lt_range
 ·rw[K];exact fun x H=>Oj4.1 H
 ·unfold chL at hl;obtain⟨x,H,rfl⟩:=Of0.1 hl;unfold cks at H;obtain⟨i,hi,rfl⟩:=Of0.1 H;have:=Jqs Y (Oj4.1 hi);intro e;have:=congrArg List.length e;unfold Kr2 Jaa at this;simp at this;omega
 ·have br:j<ckN (nR y.cs) bu:=by have:=(Ob9.1 M).1;rw[Op1]at this;exact this
  rw[Oh6 br]at M;obtain rfl:j=i:=Oj6 M;unfold chL at hl;rw[Ob1]at hl;obtain⟨x,H,rfl⟩:=Oe9.1 hl;have Z:I[j]?=some (I[j]' zo):=Oa3 _;exact⟨_,Z,h.run j _ x Z H⟩
 rw[<-hlen,Qbk];exact⟨h.rv.own.1,h.rv.own.2.imp id fun ⟨g,cap,bf,bh,bi,bj⟩=>⟨g,cap,bf,bh,Ob2 bk bi,bj⟩⟩
