/- Merging: the runs are put into the heap, one by one. -/
import Derived.Test.YtnlnlamdilifcaaGreatDoorBt
namespace Go.Proofs.YtnlnlamdilifcaaGreatDoor
section
open Go.RowKit Go.Shelf Tryz
structure MgG (K:SC) (mv:Value) (bl:Int) (idx:List Nat) (fn tot lim:Nat) (caps:Array Value) (Q:TkQ) (w:World) (T F:Nat->Prop) (E:DS) (Ms:List Mr) (rab rao:Nat):Prop where
 ent:∀ (args:Array Value) (W:World),(callFunc fn args).run prog W=.ok (.enter fn args) W
 hK:SK K
 hQ:Qb7 K mv bl idx fn tot lim caps Q
 hq:Q [] T w F E Ms
 hM:Ktm Ms idx
 hr:∀ (j i:Nat) m,idx[j]?=some i->Ms[i]?=some m->w.cell? (Ar rab (rao+j))=some (rpV m.rb)
 hra:¬ F rab/\¬ T rab/\¬ MgB Ms idx rab
 hh:∀ (i:Nat) m,i∈idx->Ms[i]?=some m->m.R.held=[]/\m.R.rem≠[]/\m.R.rem.Pairwise (Lt (Kr6 K.ks K.cs))
 htot:(Kry Ms idx).flatten.length=tot
 ht:tot<=100000
 hlen:idx.length<=100000
structure M1 (K:SC) (mv:Value) (idx:List Nat) (Q:TkQ) (w:World) (T F:Nat->Prop) (Ms:List Mr) (hb k:Nat) (W:World) (E1:DS) (Ms1:List Mr) (f:Nat->Nat):Prop where
 q:Q [] T W F E1 Ms1
 ho:HpO K W F Ms1 mv T hb
 hp:HpP W hb K.sb k f
 std:Std Ms1 (idx.take k) k f
 heap:Hp (Kr6 K.ks K.cs) k (fun j=>Ksd Ms1 (f j))
 rems:Kry Ms1 idx=Kry Ms idx
 left:∀ (j i:Nat) m,k<=j->idx[j]?=some i->Ms1[i]?=some m->m.R.held=[]
 mg:Ktm Ms1 idx
 ml:MgL w F T Ms idx W F T Ms1
 fresh:∀ k,HpF W hb k->w.heap.size<=k
theorem Qbw {α:Type}{l:List α}{k:Nat}{x:α}(h:l[k]?=some x):l.set k x=l:=by
 refine Oi8 fun j=>?_;by_cases e:k=j
 ·subst e;rw[Oh0 (Ob9.1 h).1,h]
 rw[Od1 e]
section
variable {K:SC} {mv:Value} {bl:Int} {idx:List Nat} {fn tot lim:Nat} {caps:Array Value} {Q:TkQ} {w W:World} {T F:Nat->Prop} {E E1:DS} {Ms Ms1:List Mr} {rab rao hb k:Nat} {f:Nat->Nat}
theorem M1.start (G:MgG K mv bl idx fn tot lim caps Q w T F E Ms rab rao):M1 K mv idx Q w T F Ms w.heap.size 0 (w.alloc (.cells #[Sz,ahV K.sb] 375)) E Ms fun _=>0:=by
 have hs:=G.hQ.si G.hq;have I:=Jc (Oa5 w.heap.size w) (.cells #[Sz,ahV K.sb] 375);have H:=heap_alloc_new w (.cells #[Sz,ahV K.sb] 375);have y:Ju (fun _=>False) w (w.alloc (.cells #[Sz,ahV K.sb] 375)):=Ju.of_below I;have hF:∀ k,HpF (w.alloc (.cells #[Sz,ahV K.sb] 375)) w.heap.size k->k=w.heap.size:=fun k h=>by
  rcases h with h|⟨n,c,h⟩
  ·exact h
  rw[(Ksr H).1]at h;simp at h
 refine⟨G.hQ.keep G.hq y (fun _ h=>h.elim) (fun h=>h.elim) (fun _ _ h=>h.elim) (fun _ _ h=>h.elim) (fun _ _=>⟨fun h=>h.elim,fun _ _ h=>h.elim⟩) (fun _ _ h=>h.elim),fun k y=>?_,.inl ⟨rfl,H⟩,Std.nil G.hM fun i j O U a b c=>(hs.sep i j O U a b c).1,fun j Y Z=>zo,rfl,fun j i m _ M hi=>(G.hh i m (Of6 M) hi).1,G.hM,MgL.refl.turn y fun _ h=>h.elim,fun k y=>Nat.le_of_eq (hF k y).symm⟩;have e:=hF k y;subst e;exact⟨hs.noS (Oa2 _) (Jd H),fun h=>Oe3 _ (G.hQ.lt G.hq _ h)⟩
theorem M1.step (G:MgG K mv bl idx fn tot lim caps Q w T F E Ms rab rao)(h:M1 K mv idx Q w T F Ms hb k W E1 Ms1 f)(bz:k<idx.length):
  ∃ r:Nat,W.cell? (Ar rab (rao+k))=some (rpV r)/\Cq 213 #[Pq K.sb,Pq r] W fun e O=>∃ b,e=.returned (.tuple #[.bool b,.nilIface]) /\
   Cq 214 #[Pq hb,Pq r] O fun e br=>e=.returned (.tuple #[])/\∃ bk bL bO,M1 K mv idx Q w T F Ms hb (k+1) br bk bL bO:=by
 have H:idx[k]?=some (idx[k]'(bz)):=Oa3 bz;generalize idx[k]'(bz)=i at H;have bf:i∈idx:=Of6 H;obtain⟨m,y⟩:=h.mg.ex i bf;obtain⟨bK,Z,_⟩:=h.ml.new i m y;have bW:=Qb5 h.ml.rbs y Z;have c0:=G.hr k i bK H Z;have bS:W.cell? (Ar rab (rao+k))=some (rpV m.rb):=by
  rw[bW];exact(Oc3 (h.ml.keep.block rab (Jb0 c0) fun e=>by
   rcases e with e|e|e
   ·exact G.hra.1 e
   ·exact G.hra.2.1 e
   exact G.hra.2.2 e)).trans c0
 have bx:=h.left k i m (Oa2 _) H y;have bX:m.R.rem≠[]:=by
  have Y:=Kso H y;rw[h.rems,Kso H Z]at Y;rw[<-Oj6 Y];exact(G.hh i bK bf Z).2.1
 have hs:=G.hQ.si h.q;refine⟨m.rb,bS,(hs.next G.hK y (by rw[bx];simp)).mono ?_⟩;rintro e O ⟨b,bj,bk,rfl,I⟩;refine⟨b,rfl,?_⟩;have bh:=G.hQ.next h.q bf y I;obtain⟨bC,bU⟩:=h.ho.next h.hp I y;have bH:=h.mg.next I y;have bi:=h.std.push h.mg I H y bx bX;have bR:=bC.ahOk (G.hQ.si bh) G.hK (bH.sub (List.take_sublist (k+1) idx));have hl:=G.hlen;refine(Kyf hb K.sb k m.rb f (Ksd (Ms1.set i bj)) _ (Kr6 K.ks K.cs) G.hK.sg.ord O bU zo (fun j bT=>?_) ?_ bR (fun j Y bD=>?_) bi.keys).mono ?_
 ·have:=bi.at_ j zo;rw[if_neg zo]at this;exact this
 ·have:=bi.at_ k zo;rw[if_pos rfl]at this;exact this
 ·show Lt _ (Ksd (Ms1.set i bj) (f ((j-1) / 2))) (Ksd (Ms1.set i bj) (f j));rw[h.std.key_old h.mg.nd I.rb H y zo,h.std.key_old h.mg.nd I.rb H y bD];exact h.heap j Y bD
 rintro e br ⟨rfl,bA,bM,cap,bN,U,bP,bV,bQ⟩;have bG:∀ x,HpF br hb x->HpF O hb x\/O.heap.size<=x:=fun x M=>by
  rcases(U.foot x).1 M with e|e
  ·exact .inl (.inl e)
  exact e▸bQ
 have bE:∀ x,HpF O hb x->w.heap.size<=x:=fun x M=>h.fresh x (HpF.back (I.keep.block hb (h.ho hb (.inl rfl)).1.lt fun e=>e.elim (h.ho hb (.inl rfl)).1.nf fun e=>((h.ho hb (.inl rfl)).1.ms m (Of6 y)).1 e.symm) M);have bJ:=h.ml.next I y bf;have bZ:=bJ.keep.size;refine⟨rfl,bk,Ms1.set i bj,bN,⟨bC.keepQ G.hQ bh bA,bC.turn (G.hQ.si bh) (G.hQ.lt bh) bA (fun x M=>?_) bG,.inr ⟨bM,cap,U⟩,bi.arr bP,bV,?_,fun j bY m2 bT bI bB=>?_,bH,bJ.turn bA bE,fun x M=>(bG x M).elim (bE x) fun e=>zo⟩⟩
 ·rcases(U.foot x).1 M with e|e
  ·rw[e];exact Jd U.st
  rw[e];exact U.lt
 ·rw[Kto h.mg.nd H y,I.whole bx,Qbw (Kso H y),h.rems]
 rcases getElem?_set_cases bB with⟨e,_⟩|⟨_,bB⟩
 ·subst e;have:=(List.getElem?_inj (Ob9.1 H).1 h.mg.nd).1 (H.trans bI.symm);omega
 exact h.left j bY m2 zo bI bB
end
end
open Go.RowKit Go.Shelf
structure Rdy (K:SC) (Ms:List Mr) (idx:List Nat) (Ls:List (List Nat)) (a:Nat):Prop where
 nd:idx.Nodup
 len:Ls.length=idx.length
 inc:Ls.flatten.Pairwise (·<·)
 low:∀ x∈Ls.flatten,x<nR K.cs
 ne:∀ l∈Ls,l≠[]
 run:∀ (j i:Nat) l,a<=j->idx[j]?=some i->Ls[j]?=some l->∃ m,Ms[i]?=some m/\m.R.place=j/\m.R.held=[]/\m.R.rem=Ksi (Kr6 K.ks K.cs) l
section
variable {K:SC} {Ms Ms':List Mr} {idx:List Nat} {Ls:List (List Nat)} {a c:Nat}
theorem Rdy.same (h:Rdy K Ms idx Ls a)(M:a<=c)(hs:∀ j i,c<=j->idx[j]?=some i->Ms'[i]?=Ms[i]?):Rdy K Ms' idx Ls c:=
 ⟨h.nd,h.len,h.inc,h.low,h.ne,fun j i l I hi hl=>by
  obtain⟨m,y,H⟩:=h.run j i l zo hi hl;exact⟨m,(hs j i I hi).trans y,H⟩⟩
theorem Kza:∀ {H:List (List Nat)},H.flatten.Pairwise (·<·)->∀ {i j:Nat} {l y:List Nat},H[i]?=some l->H[j]?=some y->i<j->∀ x∈l,∀ I∈y,x<I
 |[],_,i,j,l,y,hi,_,_=>by simp at hi
 |a::H,h,i,j,l,y,hi,K,O=>by
  rw[List.flatten_cons,List.pairwise_append]at h;intro x M I hy;cases j with
  |zero=>omega
  |succ j=>
   rw[List.getElem?_cons_succ]at K;cases i with
   |zero=>
    rw[List.getElem?_cons_zero]at hi;exact h.2.2 x (Oj6 hi▸M) I (List.mem_flatten.2 ⟨y,Of6 K,hy⟩)
   |succ i=>
    rw[List.getElem?_cons_succ]at hi;exact Kza h.2.1 hi K zo x M I hy
theorem Rdy.at_ (h:Rdy K Ms idx Ls a){H}(Y:H=(idx.drop a).take c){q i}(hq:H[q]?=some i):∃ m l,q<c/\idx[a+q]?=some i/\Ls[a+q]?=some l/\Ms[i]?=some m/\m.R.place=a+q/\m.R.held=[]/\m.R.rem=Ksi (Kr6 K.ks K.cs) l:=by
 subst Y;have y:q<c:=by
  have:=(Ob9.1 hq).1;rw[Oc7]at this;omega
 rw[Oh3 y,Oh9]at hq;have hl:a+q<Ls.length:=by rw[h.len];exact(Ob9.1 hq).1
 obtain⟨m,I,M,O,U⟩:=h.run (a+q) i _ zo hq (Oa3 hl);exact⟨m,_,y,hq,Oa3 hl,I,M,O,U⟩
theorem Rdy.jnd (h:Rdy K Ms idx Ls a){y}(H:y=(idx.drop a).take c):y.Nodup:=by
 subst H;exact(h.nd.sublist (List.drop_sublist _ _)).sublist (List.take_sublist _ _)
theorem Rdy.mgIn (h:Rdy K Ms idx Ls a){I}(Z:I=(idx.drop a).take c):Ktm Ms I:=by
 have y:∀ i∈I,∃ q m l,I[q]?=some i/\q<c/\idx[a+q]?=some i/\Ls[a+q]?=some l/\Ms[i]?=some m/\m.R.place=a+q/\m.R.held=[]/\m.R.rem=Ksi (Kr6 K.ks K.cs) l:=fun i hi=>by
  obtain⟨q,hq,e⟩:=Od5 hi;have bf:I[q]?=some i:=by rw[Oa3 hq,e]
  obtain⟨m,l,bj⟩:=h.at_ Z bf;exact⟨q,m,l,bf,bj⟩
 refine⟨h.jnd Z,fun i hi=>?_,fun i j bE bG hi M U Y hp x bh bH hy=>?_,fun i j bE bG hi M U Y br hp=>?_⟩
 ·obtain⟨q,m,l,_,_,_,_,H,_⟩:=y i hi;exact⟨m,H⟩
 ·obtain⟨q,m,l,_,_,_,hl,H,bx,_,bB⟩:=y i hi;obtain⟨bi,m2,bD,_,_,_,bk,O,bz,_,bC⟩:=y j M;obtain rfl:=Oj6 (H.symm.trans U);obtain rfl:=Oj6 (O.symm.trans Y);rw[bB]at bh;rw[bC]at hy;exact Kza h.inc hl bk zo x ((Ksb _ _).mem_iff.1 bh) bH ((Ksb _ _).mem_iff.1 hy)
 obtain⟨q,m,l,hq,_,_,_,H,bx,_⟩:=y i hi;obtain⟨bi,m2,bD,bA,_,_,_,O,bz,_⟩:=y j M;obtain rfl:=Oj6 (H.symm.trans U);obtain rfl:=Oj6 (O.symm.trans Y);have:q=bi:=zo;subst this;exact br (Oj6 (hq.symm.trans bA))
theorem Rdy.rems (h:Rdy K Ms idx Ls a){y}(H:y=(idx.drop a).take c):Kry Ms y=((Ls.drop a).take c).map (Ksi (Kr6 K.ks K.cs)):=by
 have hl:y.length=((Ls.drop a).take c).length:=by subst H;simp[h.len]
 refine Oi8 fun q=>?_;by_cases hq:q<y.length
 ·have I:y[q]?=some (y[q]'hq):=Oa3 hq;obtain⟨m,l,M,_,O,U,_,_,Y⟩:=h.at_ H I;rw[Kso I U,Ob1,Oh3 M,Oh9,O,Y];rfl
 rw[Ob4 (by unfold Kry;rw[Oa6];omega),Ob4 (by rw[Oa6];omega)]
theorem Ktn {f}:∀ y:List (List Nat),((y.map (Ksi f)).flatten).Perm y.flatten
 |[]=>List.Perm.refl _
 |a::y=>by
  rw[Oe4,List.flatten_cons,List.flatten_cons];exact(Ksb f a).append (Ktn y)
theorem Kyq {f}(ho:Kse f){l y}(h:l.Perm y)(H:y.Nodup):Ksi f l=Ksi f y:=Kw9 ho ((Ksb f l).trans h) (Kuy ho (h.nodup_iff.2 H))
theorem Kwj {l:List Nat}(h:l.Pairwise (·<·)):l.Nodup:=h.imp fun h=>Nat.ne_of_lt h
theorem Kxm {y:List (List Nat)}{l:List Nat}(h:l∈y):l.Sublist y.flatten:=List.sublist_flatten_of_mem h
theorem Kun {l H:List (List Nat)}(h:l.Sublist H):l.flatten.Sublist H.flatten:=by
 induction h with
 |slnil=>exact List.Sublist.refl _
 |cons a _ y=>rw[List.flatten_cons];exact y.trans (List.sublist_append_right _ _)
 |cons_cons a _ y=>rw[List.flatten_cons,List.flatten_cons];exact(List.Sublist.refl a).append y
theorem Kxb (y:List (List Nat))(a c:Nat):((y.drop a).take c).flatten.Sublist y.flatten:=Kun ((List.take_sublist c _).trans (List.drop_sublist a y))
theorem Rdy.all (h:Rdy K Ms idx Ls a)(ho:Kse (Kr6 K.ks K.cs)){y}(H:y=(idx.drop a).take c):Ksi (Kr6 K.ks K.cs) (Kry Ms y).flatten=Ksi (Kr6 K.ks K.cs) ((Ls.drop a).take c).flatten:=by
 rw[h.rems H];exact Kyq ho (Ktn _) (Kwj (h.inc.sublist (Kxb Ls a c)))
theorem Rdy.cnt (h:Rdy K Ms idx Ls a){y}(H:y=(idx.drop a).take c):(Kry Ms y).flatten.length=((Ls.drop a).take c).flatten.length:=by
 rw[h.rems H];exact(Ktn _).length_eq
theorem Rdy.hh (h:Rdy K Ms idx Ls a)(ho:Kse (Kr6 K.ks K.cs)){y}(M:y=(idx.drop a).take c):∀ (i:Nat) m,i∈y->Ms[i]?=some m->m.R.held=[]/\m.R.rem≠[]/\m.R.rem.Pairwise (Lt (Kr6 K.ks K.cs)):=fun i m hi O=>by
 obtain⟨q,hq,e⟩:=Od5 hi;obtain⟨m2,l,_,_,hl,U,_,hh,I⟩:=h.at_ M (show y[q]?=some i by rw[Oa3 hq,e]);obtain rfl:=Oj6 (U.symm.trans O);have H:=Of6 hl;refine⟨hh,fun e=>h.ne l H ?_,?_⟩
 ·rw[I]at e;have:=(Ksb (Kr6 K.ks K.cs) l).length_eq;rw[e]at this;exact Od3.1 this.symm
 rw[I];exact Kuy ho (Kwj (h.inc.sublist (Kxm H)))
end
