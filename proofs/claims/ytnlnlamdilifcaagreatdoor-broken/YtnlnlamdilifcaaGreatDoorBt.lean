/- Runs that are merged: which is ahead, by the numbers of their rows. -/
import Derived.Test.YtnlnlamdilifcaaGreatDoorAz
import Derived.Test.YtnlnlamdilifcaaGreatDoorAu
set_option maxHeartbeats 4000000
set_option maxRecDepth 100000
namespace Go.Proofs.YtnlnlamdilifcaaGreatDoor
section
open Go.RowKit Go.Shelf
def Ksd (y:List Mr)(r:Nat):Nat:=((y.find? fun m=>m.rb==r).map fun m=>m.R.held.headD 0).getD 0
theorem Ksg {y}(hs:∀ (i j:Nat) I K,y[i]?=some I->y[j]?=some K->i≠j->I.rb≠K.rb){i:Nat}{m}(hi:y[i]?=some m):Ksd y m.rb=m.R.held.headD 0:=by
 unfold Ksd;cases hf:y.find? (fun x=>x.rb==m.rb)with
 |none=>
  have:=List.find?_eq_none.1 hf m (Of6 hi);simp at this
 |some x=>
  have Y:=List.find?_some hf;have Z:=List.mem_of_find?_eq_some hf;obtain⟨j,M,e⟩:=Od5 Z;have H:y[j]?=some x:=by rw[Oa3 M,e]
  have O:j=i:=Decidable.byContradiction fun U=>hs j i x m H hi U (by simpa using Y);subst O;rw[hi]at H;cases H
  rfl
structure Ktm (Ms:List Mr) (idx:List Nat):Prop where
 nd:idx.Nodup
 ex:∀ i∈idx,∃ m,Ms[i]?=some m
 pl:∀ i j mi mj,i∈idx->j∈idx->Ms[i]?=some mi->Ms[j]?=some mj->mi.R.place<mj.R.place->∀ a∈mi.R.rem,∀ b∈mj.R.rem,a<b
 pd:∀ i j mi mj,i∈idx->j∈idx->Ms[i]?=some mi->Ms[j]?=some mj->i≠j->mi.R.place≠mj.R.place
def Kvd (y:List Mr)(idx:List Nat)(r:Nat):Prop:=∃ i m,i∈idx/\y[i]?=some m/\m.rb=r/\m.R.held≠[]
theorem Kuo {R:Rn}(h:R.held≠[]):R.held.head?=some (R.held.headD 0)/\R.held.headD 0∈R.rem:=by
 cases hh:R.held with
 |nil=>exact absurd hh h
 |cons a l=>exact⟨rfl,by simp[Rn.rem,hh]⟩
theorem SI.ahOk {y w F G E O mv bl idx}(h:SI y w F E O mv bl)(hK:SK y)(hM:Ktm O idx)(bC:∀ k,G k->y.w0.heap.size<=k)(bE:¬ G y.sb)(bD:∀ g,mv.ownBlock=some g->¬ G g)(hF:∀ k,F k->¬ G k)(bj:∀ m∈O,¬ G m.rb/\∀ k,m.N k->¬ G k):
  Kuv w G y.sb (Kvd O idx) (Ksd O) (Kr6 y.ks y.cs):=by
 intro W hW r s ⟨i,H,hi,M,er,bz⟩ ⟨j,I,Y,K,es,bB⟩;have U:=h.keep hW bC bE bD hF bj;have bi:=U.env hK;have bI:=(U.runs H (Of6 M)).1;have bJ:=(U.runs I (Of6 K)).1;have bG:=Ksg (fun i j H I a b c=>(h.sep i j H I a b c).1) M;have bH:=Ksg (fun i j H I a b c=>(h.sep i j H I a b c).1) K;obtain⟨br,bf⟩:=Kuo bz;obtain⟨bx,bh⟩:=Kuo bB;subst er es;rw[bG,bH];have bk:=Kxk y.sb y.kb y.ko y.kc H.rb I.rb _ _ _ _ y.ts y.cs y.ks W hK.sg bi.so.key (bI.atRow br) (bJ.atRow bx);refine bk.mono fun e w' hp=>⟨?_,hp.2⟩;rw[hp.1];refine Qr ?_;unfold Kyu ltB;by_cases h0:Kr6 y.ks y.cs (H.R.held.headD 0) (I.R.held.headD 0)=0
 ·rw[if_neg (fun x=>x h0),h0];have bA:H.R.place<I.R.place↔H.R.held.headD 0<I.R.held.headD 0:=by
   by_cases Z:i=j
   ·subst Z;rw[M]at K;cases K;simp
   have bN:=hM.pd i j H I hi Y M K Z;constructor
   ·intro hp;exact hM.pl i j H I hi Y M K hp _ bf _ bh
   intro bL;refine Decidable.byContradiction fun bM=>?_;have:=hM.pl j i I H Y hi K M zo _ bh _ bf;omega
  simp[bA]
 rw[if_pos h0];exact decide_eq_decide.2 ⟨.inl,fun x=>x.resolve_right fun bK=>h0 bK.1⟩
end
section
open Go.RowKit Go.Shelf Tryz
theorem Kxw {ts cs ks}(I:Sg ts cs ks){ids}(Z:ids.Pairwise (·<·)){g}(h:Qc4 ks (Jba ids cs) ids.length g):(Jba ids cs).map (Yq (Ktp ids.length g))=Jba (Ksi (Kr6 ks cs) ids) cs:=by
 have y:∀ i,i<ids.length->g i<ids.length:=fun i hi=>by
  obtain⟨t,_,bf,e⟩:=h.arr.at (k:=i) ⟨Ob7 _,hi⟩;rw[e];exact bf
 rw[Ky2 ids cs ids.length g y];congr 1
 have K:(List.range ids.length).map (fun i=>ids.getD (g i) 0)=((List.range ids.length).map g).map fun i=>ids.getD i 0:=by rw[Oi6];rfl
 have M:(List.range ids.length).map (fun i=>ids.getD i 0)=ids:=by
  refine Oh4 zS fun i bh O=>?_;rw[Od9,Oo7,Oa0,Oa3 O];rfl
 refine Kw9 I.ord ?_ ?_
 ·rw[K];have:=(Qby h.arr).map fun i=>ids.getD i 0;rw[M]at this;exact this
 rw[List.pairwise_iff_getElem];intro i j hi H Y;simp only[Oa6,Op1]at hi H;simp only[Od9,Oo7];have hs:=h.srt i j (Ob7 _) Y H;have U:Ks7 ks (Kr5 (Jba ids cs) (g i)) (Kr5 (Jba ids cs) (g j))=Kr6 ks cs (ids.getD (g i) 0) (ids.getD (g j) 0):=Qaz I ids (y i hi) (y j H);unfold Lt at hs |-;simp only[U]at hs;rcases hs with hs|⟨h0,hl⟩
 ·exact .inl hs
 refine .inr ⟨h0,?_⟩;have ga:=y i hi;have gb:=y j H;have:=(List.pairwise_iff_getElem.1 Z) (g i) (g j) ga gb hl;rw[Oa0,Oa3 ga,Oa0,Oa3 gb];exact this
theorem Kt8 sb kb ko kc H cp ts cs ks hs ids w(I:Sg ts cs ks)(hK:Kx2 w sb kb ko kc ks)(hC:Qd w H hs (Jba ids cs))(bf:ids.Pairwise (·<·))(Z:∀ i∈ids,i<nR cs)(bh:ids.length<=100000):
  Cq 169 #[Pq sb,Sq H cs.length cp] w fun e w'=>Bq w w'/\∃ gb y,e=.returned (Sq gb cs.length cs.length)/\w.heap.size<=gb/\Qd w' gb y (Jba (Ksi (Kr6 ks cs) ids) cs)/\Qaw w w' y cs.length:=by
 have h:=Kvx sb kb ko kc ks H cp hs (Jba ids cs) ids.length w hK hC (I.keyC ids bh) (I.ordP ids Z);rw[Krw]at h;refine h.mono fun e w' hp=>?_;obtain⟨hb,gb,g,y,U,Y,O,K,M⟩:=hp;rw[Kxw I bf O]at K;exact⟨hb,gb,y,U,Y,K,M⟩
end
section
open Go.RowKit Go.Shelf
theorem CellsX.ck {W y a xs}(h:Uh W a xs)(H:CK W y):Uh y a xs:=by
 rcases h with h|⟨b,o,I,K,M⟩
 ·exact .inl h
 exact .inr ⟨b,o,I,Oc2 K H.size,fun i v hi=>H.cell (M i v hi)⟩
theorem Jf1.ck {w w' F d D sv ps}(h:Jf1 w F d D sv ps)(y:CK w w'):Jf1 w' F d D sv ps:=
 ⟨y.cells _ _ _ _ h.cells,Jxz h.own y,h.ownF,h.dF,h.len,fun i b hi=>by
  obtain⟨I,K,M,p,O,H⟩:=h.page i b hi;exact⟨I,K,M,p,O,H.1,Jq5 H.2 y⟩,h.vacant,h.inj,h.low,h.full,h.small⟩
theorem Zb.ck {w w' F d D}(h:Zb w F d D)(y:CK w w'):Zb w' F d D:=by
 obtain⟨sv,ps,h⟩:=h;exact⟨sv,ps,h.ck y⟩
section
variable {w w':World} {N:Nat->Prop} {ts:List Int} {cs:Cs}
theorem Kv0.ck {b}(h:Kv0 w N ts cs b)(y:CK w w'):Kv0 w' N ts cs b:=⟨CellsX.ck h.lens y,CellsX.ck h.pages y,h.ln,h.pn⟩
theorem Ktk.ck {ids hv}(h:Ktk w N cs ids hv)(M:CK w w'):Ktk w' N cs ids hv:=by
 rcases h with h|⟨y,hb,hs,cap,H,I,K⟩
 ·exact .inl h
 exact .inr ⟨y,hb,hs,cap,H,I.ck M,K⟩
theorem Ksp.ck {rb R ba bc hv}(h:Ksp w N ts cs rb R ba bc hv)(y:CK w w'):Ksp w' N ts cs rb R ba bc hv:=
 ⟨y.cells _ _ _ _ h.cells,CellsX.ck h.arr y,h.an,h.cap,fun b hb=>(h.blk b hb).ck y,h.held.ck y,h.nr,fun k H=>Oc2 (h.lt k H) y.size⟩
end
theorem SI.ck {H w w' F E I mv bl}(h:SI H w F E I mv bl)(y:CK w w')(ho:Ju H.F0 H.w0 w'):SI H w' F E I mv bl:=
 ⟨y.cells _ _ _ _ h.st,Jxz h.own y,h.msb,fun m K=>⟨(h.runs m K).1.ck y,(h.runs m K).2⟩,h.off,h.sep,h.disk.ck y,fun k M=>Oc2 (h.flt k M) y.size,h.sF,h.mF,h.ffr,ho,h.top,h.blks⟩
end
section
open Go.RowKit Go.Shelf Tryz
def Kvc (w:World)(B tn:Nat)(sv:Value)(bs:List Bk):Prop:=w.ownsRow B 370 3 sv bs.length (bs.flatMap (Bk.cells tn))
theorem Qdk:(prog.info? 370).map (fun i=>(i.zero,i.size,i.bytes))=some (some (.agg #[iZ,Sz,Sz]),3,56):=zK
theorem Kvc.slice {w B tn sv bs}(h:Kvc w B tn sv bs):∃ a cap,sv=.slice a bs.length cap/\Uh w a (bs.flatMap (Bk.cells tn))/\bs.length<=cap/\∀ x o,a=some (Ar x o)->sv.ownBlock=some x:=by
 obtain⟨h0,⟨y,H⟩|⟨g,cap,O,y,H,I,K,U,Y,M⟩⟩:=h
 ·have:bs=[]:=List.eq_nil_of_length_eq_zero H;subst this;exact⟨none,0,y,.inl rfl,Oa2 _,fun x o e=>by cases e⟩
 refine⟨some (Aq g),cap,y,.inr ⟨g,0,rfl,Jd I,fun i v hi=>?_⟩,K,fun x o e=>?_⟩
 ·rw[<-M]at hi;have hl:i<bs.length*3:=by have:=(Ob9.1 hi).1;simp at this;omega
  rw[Oh3 hl]at hi;simp only[World.cell?,I,Od0];simpa using hi
 simp at e;rw[y];simp[Value.ownBlock,e.1]
theorem Kvc.of_block {w w' B tn sv bs}(h:Kvc w B tn sv bs)(hb:∀ g,sv.ownBlock=some g->w'.heap[g]?=w.heap[g]?):Kvc w' B tn sv bs:=Jl h hb
structure SW (K:SC) (w:World) (F:Nat->Prop) (E:DS) (Ms:List Mr) (mv:Value) (bl:Int) (i:Nat) (m:Mr):Prop where
 si:SI K w F E Ms mv bl
 at_:Ms[i]?=some m
 own:Kvc w K.w0.heap.size K.ts.length (.slice m.ba m.R.bs.length m.bc) m.R.bs
 held:m.R.held=[]/\m.hv=Sz
 arr:∀ g,(Value.slice m.ba m.R.bs.length m.bc).ownBlock=some g->∀ j mj,Ms[j]?=some mj->j≠i->¬ mj.N g
 lst:∀ b∈m.R.bs,∀ x o,(b.la=some (Ar x o)\/b.pa=some (Ar x o))->(Value.slice m.ba m.R.bs.length m.bc).ownBlock≠some x
end
section
open Go.RowKit Go.Shelf
theorem SI.turn2 {U:SC}{w w'}{F bh A:Nat->Prop}{E br:DS}{M:List Mr}{mv}{bl:Int}{i:Nat}{m y:Mr}(h:SI U w F E M mv bl)(hi:M[i]?=some m)(bi:Ju (fun k=>F k\/k=m.rb\/A k) w w')(bx:∀ k,A k->m.N k)(bP:∀ k,A k->∀ j bM,M[j]?=some bM->j≠i->¬ bM.N k)(bH:∀ k,bh k->F k\/w.heap.size<=k)(bT:∀ k,bh k->k<w'.heap.size)(Z:y.rb=m.rb)(hr:Ksp w' y.N U.ts U.cs y.rb y.R y.ba y.bc y.hv)(bz:∀ k,y.N k->m.N k\/w.heap.size<=k)(bR:∀ k,y.N k->¬ bh k)(bQ:Zb w' bh U.d br)(ht:Top U.D0 br ((M.set i y).flatMap Mr.ls))(hb:∀ x∈M.set i y,∀ b∈x.R.bs,Kz3 U br b):SI U w' bh br (M.set i y) mv bl:=by
 have bJ:=Of6 hi;have ho:=h.off m bJ;have bI:=h.runs m bJ;have bL:=Jd h.st;have bY:=Jd bI.1.cells;have bk:∀ k,k<w.heap.size->¬ F k->¬ bh k:=fun k bV H I=>(bH k I).elim H fun Y=>by omega
 have bW:(M.set i y).map (·.rb)=M.map (·.rb):=by
  rw[Op0,Z];refine Oi8 fun j=>?_;by_cases e:j=i
  ·subst e;rw[List.getElem?_set_self'];rw[Ob1,hi];rfl
  rw[Od1 (fun bN=>e bN.symm)]
 have bX:∀ x∈M.set i y,Qbl U mv x:=fun x bj=>by
  rcases List.mem_or_eq_of_mem_set bj with bj|rfl
  ·exact h.off x bj
  exact⟨Z▸ho.lo,Z▸ho.sb,Z▸ho.made,fun k bi=>(bz k bi).elim (ho.nlo k) (fun Y=>by have:=h.old.size;omega),fun H=>(bz _ H).elim ho.nsb (fun Y=>zo),fun g O H=>(bz _ H).elim (ho.nmade g O) (fun Y=>by have:=Qk h.own O;omega)⟩
 refine⟨(bi.block _ bL (fun hh=>?_)).trans h.st,?_,h.msb,fun x bj=>?_,bX,fun a b cb mb K bE bD=>?_,bQ,bT,bk _ bL h.sF,fun g O=>bk g (Qk h.own O) (h.mF g O),fun k I=>?_,?_,ht,hb⟩
 ·rcases hh with I|e|K
  ·exact h.sF I
  ·exact ho.sb e.symm
  exact ho.nsb (bx _ K)
 ·rw[bW];exact Yd h.own fun g O=>bi.block g (Qk h.own O) (fun hh=>by
   rcases hh with I|e|K
   ·exact h.mF g O I
   ·exact ho.made (e▸O)
   exact ho.nmade g O (bx _ K))
 ·obtain⟨j,bU,e⟩:=Od5 bj;rcases getElem?_set_cases (show (M.set i y)[j]?=some x by rw[Oa3 bU,e])with⟨_,rfl⟩|⟨hji,hjx⟩
  ·exact⟨hr,by rw[Z];exact bk _ bY bI.2.1,bR⟩
  have bf:=h.runs x (Of6 hjx);have bK:=h.sep j i x m hjx hi hji;have bZ:=h.sep i j m x hi hjx (fun e=>hji e.symm);have ca:=Jd bf.1.cells;refine⟨bf.1.keep bi (fun hh=>?_) (fun k H hh=>?_),bk _ ca bf.2.1,fun k H=>bk k (bf.1.lt k H) (bf.2.2 k H)⟩
  ·rcases hh with I|e|K
   ·exact bf.2.1 I
   ·exact bK.1 e
   exact bZ.2 (bx _ K)
  rcases hh with I|e|K
  ·exact bf.2.2 k H I
  ·exact bK.2 (e▸H)
  exact bP k K j x hjx hji H
 ·rcases getElem?_set_cases K with⟨bO,bB⟩|⟨bS,bC⟩
  ·rcases getElem?_set_cases bE with⟨eb,_⟩|⟨bG,bA⟩
   ·exact absurd (bO.trans eb.symm) bD
   have:=h.sep i b m mb hi bA (fun e=>bG e.symm);rw[bB];refine⟨Z▸this.1,fun H=>(bz _ H).elim this.2 fun Y=>?_⟩;have:=Jd (h.runs mb (Of6 bA)).1.cells;omega
  rcases getElem?_set_cases bE with⟨eb,bB⟩|⟨bG,bA⟩
  ·rw[bB,Z];exact h.sep a i cb m bC hi bS
  exact h.sep _ _ _ _ bC bA bD
 ·rcases bH k I with Y|Y
  ·exact h.ffr k Y
  exact .inr (by have:=h.old.size;omega)
 refine h.old.trans' bi fun k bV hh=>?_;rcases hh with I|rfl|K
 ·exact(h.ffr k I).resolve_right zo
 ·have:=ho.lo;omega
 have:=ho.nlo k (bx k K);omega
theorem SI.disk_same {Z w w' F y E Y bh mv bl}(h:SI Z w F E bh mv bl)(K:Ju F w w')(bi:∀ k,y k->F k\/w.heap.size<=k)(br:∀ k,y k->k<w'.heap.size)(bk:Zb w' y Z.d Y)(hs:Kft E Y):SI Z w' y Y bh mv bl:=by
 have bj:=Jd h.st;have U:∀ k,k<w.heap.size->¬ F k->¬ y k:=fun k bx O H=>(bi k H).elim O fun bf=>by omega
 refine⟨(K.block _ bj h.sF).trans h.st,Yd h.own fun g I=>K.block g (Qk h.own I) (h.mF g I),h.msb,fun m M=>?_,h.off,h.sep,bk,br,U _ bj h.sF,fun g I=>U g (Qk h.own I) (h.mF g I),fun k H=>?_,h.old.trans' K fun k bx H=>(h.ffr k H).resolve_right zo,h.top.same hs,fun m M b hb=>⟨(h.blks m M b hb).1.same hs,(h.blks m M b hb).2⟩⟩
 ·have hr:=h.runs m M;exact⟨hr.1.keep K hr.2.1 hr.2.2,U _ (Jd hr.1.cells) hr.2.1,fun k O=>U k (hr.1.lt k O) (hr.2.2 k O)⟩
 rcases bi k H with bf|bf
 ·exact h.ffr k bf
 exact .inr (by have:=h.old.size;omega)
theorem Kvm {w B e a n c xs}(h:Jo w B e (.slice a n c) xs):Uh w a xs/\(n=xs.length)/\∀ x o,a=some (Ar x o)->B<=x/\x<w.heap.size/\(Value.slice a n c).ownBlock=some x:=by
 obtain⟨a',I,y,H⟩:=h.cells;cases y
 refine⟨H,rfl,fun x o e=>?_⟩;have hob:(Value.slice a xs.length c).ownBlock=some x:=by rw[e];rfl
 exact⟨(Je h hob).1,(Je h hob).2,hob⟩
theorem SW.wrote {K W bf bH H F FD E bz bA mv bl i m}(bj:SW K W F E bA mv bl i m)b(cG:∀ t∈b.ids,t<nR K.cs)(cD:1<=b.ids.length/\b.ids.length<=64)(bD:Ju F W bf)(cE:Zb bf FD K.d bz)(ci:∀ k,FD k->F k\/W.heap.size<=k)(cn:∀ k,FD k->k<bf.heap.size)(bU:Jjo E bz (Qu (Kr4 K.ts (Jba b.ids K.cs) K.ts.length)) b.l)(cI:b.l.length<=1000000)(cK:Jo bf W.heap.size 3 (.slice b.la K.ts.length b.lc) ((Ks9 K.ts (Jba b.ids K.cs) K.ts.length).map nv))(cL:∀ g,(Value.slice b.la K.ts.length b.lc).ownBlock=some g->¬ FD g)(cM:Jo bf W.heap.size 3 (.slice b.pa b.l.length b.pc) (b.l.map nv))(cN:∀ g,(Value.slice b.pa b.l.length b.pc).ownBlock=some g->¬ FD g)(bB:Bq bf bH){a2 y}(bR:Kvc H K.w0.heap.size K.ts.length (.slice a2 (m.R.bs.length+1) y) (m.R.bs++[b]))(bK:bH.grownBy H (Value.slice m.ba m.R.bs.length m.bc).ownBlock)(M:(Value.slice a2 (m.R.bs.length+1) y).ownBlock=(Value.slice m.ba m.R.bs.length m.bc).ownBlock\/(Value.slice a2 (m.R.bs.length+1) y).ownBlock=some bH.heap.size):
  ∃ bQ,SW K (H.setCell (Ar m.rb 1) (.slice a2 (m.R.bs.length+1) y)) FD bz (bA.set i ⟨m.rb,⟨m.R.place,m.R.bs++[b],[]⟩,bQ,a2,y,Sz⟩) mv bl i ⟨m.rb,⟨m.R.place,m.R.bs++[b],[]⟩,bQ,a2,y,Sz⟩/\Ju (fun k=>F k\/k=m.rb\/(Value.slice m.ba m.R.bs.length m.bc).ownBlock=some k) W (H.setCell (Ar m.rb 1) (.slice a2 (m.R.bs.length+1) y))/\∀ k,bQ k->m.N k\/W.heap.size<=k:=by
 have h:=bj.si;have hi:=bj.at_;have bX:=Of6 hi;have Y:=h.runs m bX;have ho:=h.off m bX;have cx:=Jd Y.1.cells;have dc:=bD.size;have dd:=bB.size;have de:=bK.size;have bC:∀ g,(Value.slice m.ba m.R.bs.length m.bc).ownBlock=some g->m.N g/\g<W.heap.size:=fun g I=>by
  have cJ:=(Je bj.own I).2;obtain⟨a,cap,da,_,_,bZ⟩:=bj.own.slice;cases hba:m.ba with
  |none=>rw[hba]at I;simp[Value.ownBlock]at I
  |some cX=>
   rcases bj.own with⟨_,⟨h0,_⟩|⟨cB,cY,cZ,h0,_⟩⟩
   ·rw[hba]at h0;simp at h0
   simp at h0;have ca:=h0.1;rw[ca]at I;simp[Value.ownBlock]at I;subst I;exact⟨Y.1.an cB 0 ca,cJ⟩
 have df:(H.setCell (Ar m.rb 1) (.slice a2 (m.R.bs.length+1) y)).heap.size=H.heap.size:=zS;have bV:∀ k,k≠m.rb->(H.setCell (Ar m.rb 1) (.slice a2 (m.R.bs.length+1) y)).heap[k]?=H.heap[k]?:=fun k U=>Oa4 _ _ _ _ U;have bT:∀ k,k<bH.heap.size->(Value.slice m.ba m.R.bs.length m.bc).ownBlock≠some k->H.heap[k]?=bH.heap[k]?:=fun k U bJ=>bK.block k U fun e=>bJ e.symm;have bS:∀ k,k<bf.heap.size->(Value.slice m.ba m.R.bs.length m.bc).ownBlock≠some k->k≠m.rb->(H.setCell (Ar m.rb 1) (.slice a2 (m.R.bs.length+1) y)).heap[k]?=bf.heap[k]?:=fun k U bJ hr=>by
  rw[bV k hr,bT k zo bJ,bB.block k U]
 have cO:H.heap[m.rb]?=some (.cells #[Iq (m.R.place:Nat),.slice m.ba m.R.bs.length m.bc,Sz] 368 (0,0)):=by
  rw[bT _ zo (fun e=>Y.1.nr (bC _ e).1),bB.block _ zo,bD.block _ cx Y.2.1];have:=Y.1.cells;rw[bj.held.2]at this;exact this
 obtain⟨cz,dh,bE⟩:=Kvm cK;obtain⟨cp,np,bG⟩:=Kvm cM;have cj:Ju (fun k=>F k\/k=m.rb\/(Value.slice m.ba m.R.bs.length m.bc).ownBlock=some k) W (H.setCell (Ar m.rb 1) (.slice a2 (m.R.bs.length+1) y)):=by
  refine Ju.set (b:=m.rb) ?_ (.inr (.inl rfl)) 1 _;exact⟨bK.os.trans (bB.os.trans bD.os),bK.tape.trans (bB.tape.trans bD.tape),bK.output.trans (bB.output.trans bD.output),zo,fun k U bJ=>by
   rw[bT k zo (fun e=>bJ (.inr (.inr e))),bB.block k zo,bD.block k U (fun e=>bJ (.inl e))]⟩
 have bY:∀ k,k<W.heap.size->¬ F k->¬ FD k:=fun k db bx bi=>(ci k bi).elim bx fun Z=>by omega
 have cv:∀ g,(Value.slice a2 (m.R.bs.length+1) y).ownBlock=some g->(m.N g/\g<W.heap.size)\/g=bH.heap.size:=fun g I=>by
  rcases M with M|M
  ·exact .inl (bC g (M.symm.trans I))
  rw[M]at I;simp at I;exact .inr I.symm
 have cH:∀ g,(Value.slice a2 (m.R.bs.length+1) y).ownBlock=some g->g<H.heap.size:=fun g I=>(Je bR I).2;obtain⟨cy,cA,es,cf,cc,hob⟩:=bR.slice;have cb:cy=a2/\cA=y:=by simp at es;exact⟨es.1.symm,es.2.symm⟩
 rw[cb.1]at cf hob;rw[cb.2]at cc;have cu:∀ g,(Value.slice a2 (m.R.bs.length+1) y).ownBlock=some g->g≠m.rb:=fun g I e=>by
  rcases cv g I with Z|Z
  ·exact Y.1.nr (e▸Z.1)
  omega
 refine⟨fun k=>m.N k\/(W.heap.size<=k/\k<H.heap.size/\¬ FD k),?_,cj,fun k U=>U.imp id (·.1)⟩;have cP:Ksp (H.setCell (Ar m.rb 1) (.slice a2 (m.R.bs.length+1) y)) (fun k=>m.N k\/(W.heap.size<=k/\k<H.heap.size/\¬ FD k)) K.ts K.cs m.rb ⟨m.R.place,m.R.bs++[b],[]⟩ a2 y Sz :=by
  refine⟨?_,cf.on zo fun x o e=>bV x (cu x (hob x o e)),fun x o e=>?_,by simpa using cc,fun bh O=>?_,.inl ⟨rfl,rfl⟩,fun hh=>?_,fun k U=>?_⟩
  ·rw[Jk cO];simp
  ·rcases cv x (hob x o e)with Z|Z
   ·exact .inl Z.1
   exact .inr ⟨zo,cH x (hob x o e),fun bi=>by have:=cn x bi;omega⟩
  ·rcases Od2.1 O with O|O
   ·have br:=Y.1.blk bh O;have bL:∀ x o,(bh.la=some (Ar x o)\/bh.pa=some (Ar x o))->m.N x->(H.setCell (Ar m.rb 1) (.slice a2 (m.R.bs.length+1) y)).heap[x]?=W.heap[x]?:=fun x o e bx=>by
     have cV:=Y.1.lt x bx;rw[bS x zo (bj.lst bh O x o e) (fun bZ=>Y.1.nr (bZ▸bx)),bD.block x cV (Y.2.2 x bx)]
    exact⟨br.lens.on zo fun x o e=>bL x o (.inl e) (br.ln x o e),br.pages.on zo fun x o e=>bL x o (.inr e) (br.pn x o e),fun x o e=>.inl (br.ln x o e),fun x o e=>.inl (br.pn x o e)⟩
   rw[Oc6.1 O];have bL:∀ x,W.heap.size<=x->x<bf.heap.size->(H.setCell (Ar m.rb 1) (.slice a2 (m.R.bs.length+1) y)).heap[x]?=bf.heap[x]?:=fun x dg cU=>bS x cU (fun e=>by have:=(bC x e).2;omega) zo;exact⟨cz.on zo fun x o e=>bL x (bE x o e).1 (bE x o e).2.1,cp.on zo fun x o e=>bL x (bG x o e).1 (bG x o e).2.1,fun x o e=>.inr ⟨(bE x o e).1,by have:=(bE x o e).2.1;omega,cL x (bE x o e).2.2⟩,fun x o e=>.inr ⟨(bG x o e).1,by have:=(bG x o e).2.1;omega,cN x (bG x o e).2.2⟩⟩
  ·rcases hh with Z|Z
   ·exact Y.1.nr Z
   omega
  rcases U with Z|Z
  ·have:=Y.1.lt k Z;omega
  omega
 have cR:∀ x,(bA.set i x)[i]?=some x:=fun x=>by rw[Oh0 (Ob9.1 hi).1]
 obtain⟨dj,di,cS,cQ⟩:=Ky4 bA i m hi;have cT:Top K.D0 bz ((bA.set i ⟨m.rb,⟨m.R.place,m.R.bs++[b],[]⟩,(fun k=>m.N k\/(W.heap.size<=k/\k<H.heap.size/\¬ FD k)),a2,y,Sz⟩).flatMap Mr.ls):=by
  have cW:=h.top.laid bU;refine cW.perm ?_;rw[cQ];rw[cS];simp only[Mr.ls,Oe8,Og7,Ob8,Oe4,Oi4,Od8];refine List.Perm.append_left _ (List.Perm.append_left _ ?_);exact List.perm_append_comm
 have cC:∀ x∈bA.set i ⟨m.rb,⟨m.R.place,m.R.bs++[b],[]⟩,(fun k=>m.N k\/(W.heap.size<=k/\k<H.heap.size/\¬ FD k)),a2,y,Sz⟩,∀ bh∈x.R.bs,Kz3 K bz bh:=fun x bO bh O=>by
  have old:∀ bM∈bA,∀ c∈bM.R.bs,Kz3 K bz c:=fun bM hy c bW=>⟨h.top.held bU (Op5.2 ⟨bM,hy,Of0.2 ⟨c,bW,rfl⟩⟩) (h.blks bM hy c bW).1,(h.blks bM hy c bW).2⟩;rcases List.mem_or_eq_of_mem_set bO with bO|rfl
  ·exact old x bO bh O
  rcases Od2.1 O with O|O
  ·exact old m bX bh O
  rw[Oc6.1 O];exact⟨bU.seg,cD,cG,cI⟩
 have cF:Zb (H.setCell (Ar m.rb 1) (.slice a2 (m.R.bs.length+1) y)) FD K.d bz:=cE.stands fun k bi hl=>bS k hl (fun e=>bY k (bC k e).2 (Y.2.2 k (bC k e).1) bi) (fun e=>bY _ cx Y.2.1 (e▸bi));refine⟨h.turn2 (A:=fun k=>(Value.slice m.ba m.R.bs.length m.bc).ownBlock=some k) hi cj (fun k U=>(bC k U).1) (fun k U j bP bI bN=>bj.arr k U j bP bI bN) ci (fun k bi=>by have:=cn k bi;omega) rfl cP (fun k U=>U.imp id (·.1)) (fun k U bi=>U.elim (fun Z=>bY k (Y.1.lt k Z) (Y.2.2 k Z) bi) (fun Z=>Z.2.2 bi)) cF cT cC,cR _,?_,⟨rfl,rfl⟩,fun g I j bP bI bN=>?_,fun bh O x o e=>?_⟩
 ·have:=bR.of_block (w':=H.setCell (Ar m.rb 1) (.slice a2 (m.R.bs.length+1) y)) fun g I=>bV g (cu g I);simpa using this
 ·have bk:(Value.slice a2 (m.R.bs.length+1) y).ownBlock=some g:=by simpa using I
  rcases getElem?_set_cases bI with⟨e,_⟩|⟨_,bI⟩
  ·exact absurd e bN
  rcases M with M|M
  ·exact bj.arr g (M.symm.trans bk) j bP bI bN
  rw[M]at bk;simp at bk;intro bx;have:=(h.runs bP (Of6 bI)).1.lt g bx;omega
 intro I;have bk:(Value.slice a2 (m.R.bs.length+1) y).ownBlock=some x:=by simpa using I
 rcases Od2.1 O with O|O
 ·have br:=Y.1.blk bh O;have bx:m.N x:=e.elim (br.ln x o) (br.pn x o);rcases M with M|M
  ·exact bj.lst bh O x o e (M.symm.trans bk)
  rw[M]at bk;simp at bk;have:=Y.1.lt x bx;omega
 rw[Oc6.1 O]at e;have bO:W.heap.size<=x/\x<bf.heap.size:=e.elim (fun e=>⟨(bE x o e).1,(bE x o e).2.1⟩) (fun e=>⟨(bG x o e).1,(bG x o e).2.1⟩);rcases M with M|M
 ·have:=(bC x (M.symm.trans bk)).2;omega
 rw[M]at bk;simp at bk;omega
theorem SW.ck {y w w' F E H mv bl i m}(h:SW y w F E H mv bl i m)(I:CK w w')(ho:Ju y.F0 y.w0 w'):SW y w' F E H mv bl i m:=
 ⟨h.si.ck I ho,h.at_,Jxz h.own I,h.held,h.arr,h.lst⟩
abbrev Mr.ab (m:Mr):Option Nat:=(Value.slice m.ba m.R.bs.length m.bc).ownBlock
def Kr3 (ids:List Nat)(x:Nat×Nat):List Nat:=(ids.take (x.1+x.2)).drop x.1
theorem CK.isCells {W y}(h:CK W y){k:Nat}(K:∃ o:Obj,W.heap[k]?=some o/\o.isCells=true):∃ o:Obj,y.heap[k]?=some o/\o.isCells=true:=by
 obtain⟨o,H,I⟩:=K;cases o<;>first|exact⟨_,h.cells _ _ _ _ H,rfl⟩|(cases I)
theorem Zb.narrow {w F d D}(h:Zb w F d D):Zb w (fun k=>F k/\∃ o:Obj,w.heap[k]?=some o/\o.isCells=true) d D:=by
 obtain⟨sv,ps,h⟩:=h;refine⟨sv,ps,h.cells,h.own,fun g H=>⟨⟨(h.ownF g H).1,?_⟩,(h.ownF g H).2⟩,⟨h.dF,_,h.cells,rfl⟩,h.len,fun i b hb=>?_,h.vacant,h.inj,h.low,h.full,h.small⟩
 ·obtain⟨O,y⟩:=Ja4 h.own H;exact⟨_,y,rfl⟩
 obtain⟨a1,a2,K,p,M,I⟩:=h.page i b hb;obtain⟨c,y,_⟩:=I.2;exact⟨⟨a1,_,y,rfl⟩,a2,K,p,M,I⟩
theorem SW.narrow {I w F E K mv bl i m}(h:SW I w F E K mv bl i m):SW I w (fun k=>F k/\∃ o:Obj,w.heap[k]?=some o/\o.isCells=true) E K mv bl i m:=
 ⟨⟨h.si.st,h.si.own,h.si.msb,fun m H=>⟨(h.si.runs m H).1,fun e=>(h.si.runs m H).2.1 e.1,fun k y e=>(h.si.runs m H).2.2 k y e.1⟩,h.si.off,h.si.sep,h.si.disk.narrow,fun k y=>h.si.flt k y.1,fun e=>h.si.sF e.1,fun g M e=>h.si.mF g M e.1,fun k y=>h.si.ffr k y.1,h.si.old,h.si.top,h.si.blks⟩,h.at_,h.own,h.held,h.arr,h.lst⟩
structure WrI (K:SC) (w:World) (F:Nat->Prop) (E:DS) (Ms:List Mr) (mv:Value) (z i:Nat) (m:Mr) (ids:List Nat) (L pb:Nat) (pre:List (Nat×Nat)) (W:World) (F':Nat->Prop) (E':DS) (m':Mr):Prop where
 sw:SW K W F' E' (Ms.set i m') mv (z:Int) i m'
 rb:m'.rb=m.rb
 place:m'.R.place=m.R.place
 ids:m'.R.bs.map (·.ids)=m.R.bs.map (·.ids)++pre.map (Kr3 ids)
 ffr:∀ k,F' k->F k\/L<=k
 nfr:∀ k,m'.N k->m.N k\/L<=k
 afr:∀ g,m'.ab=some g->m.ab=some g\/L<=g
 b0:W.heap[w.heap.size]?=some (.cells #[Pq K.sb] 322 (0,0))
 b1:W.heap[w.heap.size+1]?=some (.cells #[Pq m.rb] 365 (0,0))
 b2:W.heap[w.heap.size+2]?=some (.cells #[.nilIface] 77 (0,0))
 keep:Ju (fun k=>F k\/k=m.rb\/m.ab=some k) w W
 size:L<=W.heap.size
 pgs:dz E'<=dz E+pb*pre.length
 fcl:∀ k,F' k->L<=k->∃ o:Obj,W.heap[k]?=some o/\o.isCells=true
theorem Krz {G w W H row}(h:Ju G w W)(y:W.grownBy H row)(hr:∀ r,row=some r->w.heap.size<=r):Ju G w H:=
 ⟨y.os.trans h.os,y.tape.trans h.tape,y.output.trans h.output,Ob2 h.size y.size,fun k I K=>(y.block k (Oc2 I h.size) fun e=>by have:=hr k e.symm;omega).trans (h.block k I K)⟩
theorem WrI.kept {I w F E O mv z i m ids L Z bf W U M K Y row}(h:WrI I w F E O mv z i m ids L Z bf W M K Y)(bj:w.heap.size<=L)(bi:I.w0.heap.size<=w.heap.size)(H:W.grownBy U row)(hr:∀ r,row=some r->L<=r/\∃ o:Obj,W.heap[r]?=some o/\o.isCells=false):WrI I w F E O mv z i m ids L Z bf U M K Y:=by
 have y:=CK.of_grown H fun r e=>(hr r e).2;exact⟨h.sw.ck y (Krz h.sw.si.old H fun r e=>by have:=(hr r e).1;omega),h.rb,h.place,h.ids,h.ffr,h.nfr,h.afr,y.cells _ _ _ _ h.b0,y.cells _ _ _ _ h.b1,y.cells _ _ _ _ h.b2,Krz h.keep H fun r e=>by have:=(hr r e).1;omega,Ob2 h.size H.size,h.pgs,fun k bh hl=>y.isCells (h.fcl k bh hl)⟩
theorem SW.box {M w W F K E bh O mv}{z i L:Nat}{m I}(H:SW M w F E O mv (z:Int) i m)(h:SW M W K bh (O.set i I) mv (z:Int) i I)(bx:w.heap.size+5<=L)(bz:I.rb=m.rb)(ffr:∀ k,K k->F k\/L<=k)(nfr:∀ k,I.N k->m.N k\/L<=k)(afr:∀ g,I.ab=some g->m.ab=some g\/L<=g)(b:Nat)(hb:w.heap.size<=b/\b<w.heap.size+5)v:SW M (W.setCell (Aq b) v) K bh (O.set i I) mv (z:Int) i I:=by
 have bj:=Of6 H.at_;have bA:=Jd H.si.st;have bB:=H.si.old.size;have br:¬ K b:=fun U=>(ffr b U).elim (fun y=>by have:=H.si.flt b y;omega) (fun y=>zo);have bi:Ju (fun k=>k=b) W (W.setCell (Aq b) v):=Ju.set (F:=fun k=>k=b) (Ju.refl _ _) rfl 0 v;have bk:=h.si.keep bi (fun k e=>zo) (fun e=>zo) (fun g Y e=>by have:=Qk H.si.own Y;omega) (fun k U e=>br (e▸U)) (fun x bf=>by
  rcases List.mem_or_eq_of_mem_set bf with bf|rfl
  ·have hr:=H.si.runs x bf;exact⟨fun e=>by have:=Jd hr.1.cells;omega,fun k Z e=>by have:=hr.1.lt k Z;omega⟩
  have hr:=H.si.runs m bj;exact⟨fun e=>by have:=Jd hr.1.cells;omega,fun k Z e=>(nfr k Z).elim (fun y=>by have:=hr.1.lt k y;omega) (fun y=>zo)⟩)
 refine⟨bk,h.at_,h.own.of_block fun g Y=>Oa4 _ _ _ _ fun e=>?_,h.held,h.arr,h.lst⟩;have e:g=b:=e;rcases afr g Y with y|y
 ·have:=(Je H.own y).2;omega
 omega
def Kwz (H:SC)(w:World)(F:Nat->Prop)(E:DS)(M:List Mr)(mv:Value)(z i:Nat)(m:Mr)(ids:List Nat)(O:Nat)(e:Ending)(w':World):Prop:=
 Ju (fun k=>F k\/k=m.rb\/m.ab=some k) w w'/\∃ I K y,SW H w' I K (M.set i y) mv (z:Int) i y/\y.rb=m.rb/\y.R.place=m.R.place/\(∀ k,I k->F k\/w.heap.size<=k)/\(∀ k,y.N k->m.N k\/w.heap.size<=k)/\(∀ g,y.ab=some g->m.ab=some g\/w.heap.size<=g)/\dz K<=dz E+O*ckN ids.length z /\
  ((e=.returned .nilIface/\y.R.bs.flatMap (·.ids)=m.R.bs.flatMap (·.ids)++ids) \/
   (∃ x b,e=.returned (Ip 149 b)/\Yu w' (Ip 149 b) (if x=true then H.q else H.qw) none (some (-1))/\w.heap.size<=b/\¬ I b/\¬ y.N b/\Ksy H.D0 x))
structure WrX (K:SC) (w:World) (F:Nat->Prop) (E:DS) (Ms:List Mr) (mv:Value) (z i:Nat) (m:Mr) (ids:List Nat) (L pb:Nat) (W:World) (F':Nat->Prop) (E':DS) (m':Mr) (x:Bool) (b:Nat):Prop where
 sw:SW K W F' E' (Ms.set i m') mv (z:Int) i m'
 rb:m'.rb=m.rb
 place:m'.R.place=m.R.place
 ffr:∀ k,F' k->F k\/L<=k
 nfr:∀ k,m'.N k->m.N k\/L<=k
 afr:∀ g,m'.ab=some g->m.ab=some g\/L<=g
 b2:W.heap[w.heap.size+2]?=some (.cells #[Ip 149 b] 77 (0,0))
 ch:Yu W (Ip 149 b) (if x=true then K.q else K.qw) none (some (-1))
 bn:L<=b/\¬ F' b/\¬ m'.N b
 keep:Ju (fun k=>F k\/k=m.rb\/m.ab=some k) w W
 size:L<=W.heap.size
 pgs:dz E'<=dz E+pb*ckN ids.length z
 why:Ksy K.D0 x
theorem Kxy ids z:∀ k,((cks ids.length z k).map (Kr3 ids)).flatten=ids.take (k*z):=by
 intro k;induction k with
 |zero=>simp[cks]
 |succ k I=>
  rw[Jbj,Ob8,List.flatten_append,I];simp only[Oe4,Oi4,List.flatten_cons,List.flatten_nil,Od7];unfold Kr3 Jaa;have y:ids.take (k*z+min z (ids.length-k*z))=ids.take ((k+1)*z):=by
   rw[Nat.add_mul,Nat.one_mul];by_cases h:z<=ids.length-k*z
   ·rw[Oj1 h]
   rw[Oc8 zo,Oc8 zo]
  simp only;rw[y];have H:ids.take (k*z)=(ids.take ((k+1)*z)).take (k*z):=by rw[List.take_take,Oj1 (Om8 z (Nat.le_succ k))]
  rw[H,Ok3]
theorem Kvl ids z(y:1<=z):((cks ids.length z (ckN ids.length z)).map (Kr3 ids)).flatten=ids:=by
 rw[Kxy,Oc8 (Jcy y)]
theorem WrI.from {Z w F E bf mv z i m ids L bj bk W K I Y y}(h:WrI Z w F E bf mv z i m ids L bj bk W I Y y){b}(hb:b<L)(U:Ju (fun k=>I k\/k=y.rb\/y.ab=some k\/k=b) W K):KeepsFrom L W K:=
 ⟨U.size,fun k o bh H ho=>(U.block k (Jd H) fun e=>by
  have no:¬ ∃ o:Obj,W.heap[k]?=some o/\o.isCells=true:=fun ⟨bx,M,O⟩=>by
   rw[H]at M;cases M
   rw[ho]at O;cases O
  rcases e with e|e|e|e
  ·exact no (h.fcl k e bh)
  ·have:=(h.sw.si.runs y (Of6 h.sw.at_)).1.cells;exact no ⟨_,e▸this,rfl⟩
  ·obtain⟨br,bi⟩:=Ja4 h.sw.own e;exact no ⟨_,bi,rfl⟩
  omega).trans H⟩
theorem WrI.next {H w F E bj mv}{z i:Nat}{m ids}{L bA:Nat}{bE W M bk O bf FD bi Z y}(bh:SW H w F E bj mv (z:Int) i m)(h:WrI H w F E bj mv z i m ids L bA bE W bf bi y)(ca:w.heap.size+5<=L)b x(bM:b.ids=Kr3 ids x)(bP:∀ t∈b.ids,t<nR H.cs)(bN:1<=b.ids.length/\b.ids.length<=64)(bz:Ju bf W M)(bO:Zb M FD H.d Z)(bC:∀ k,FD k->bf k\/W.heap.size<=k)(bR:∀ k,FD k->k<M.heap.size)(bJ:Jjo bi Z (Qu (Kr4 H.ts (Jba b.ids H.cs) H.ts.length)) b.l)(bQ:b.l.length<=1000000)(bS:Jo M W.heap.size 3 (.slice b.la H.ts.length b.lc) ((Ks9 H.ts (Jba b.ids H.cs) H.ts.length).map nv))(bT:∀ g,(Value.slice b.la H.ts.length b.lc).ownBlock=some g->¬ FD g)(bW:Jo M W.heap.size 3 (.slice b.pa b.l.length b.pc) (b.l.map nv))(bX:∀ g,(Value.slice b.pa b.l.length b.pc).ownBlock=some g->¬ FD g)(bB:Bq M bk){a2}{I:Nat}(bH:Kvc O H.w0.heap.size H.ts.length (.slice a2 (y.R.bs.length+1) I) (y.R.bs++[b]))(bI:bk.grownBy O y.ab)(U:(Value.slice a2 (y.R.bs.length+1) I).ownBlock=y.ab\/(Value.slice a2 (y.R.bs.length+1) I).ownBlock=some bk.heap.size)(bV:dz Z<=dz bi+bA):
  (∃ bG bY,WrI H w F E bj mv z i m ids L bA (bE++[x]) (O.setCell (Ar y.rb 1) (.slice a2 (y.R.bs.length+1) I)) bG Z bY)/\KeepsFrom L W (O.setCell (Ar y.rb 1) (.slice a2 (y.R.bs.length+1) I))/\Ju (fun k=>bf k\/k=y.rb\/y.ab=some k) W (O.setCell (Ar y.rb 1) (.slice a2 (y.R.bs.length+1) I)):=by
 obtain⟨bZ,bD,Y,bK⟩:=h.sw.wrote b bP bN bz bO bC bR bJ bQ bS bT bW bX bB bH bI U;rw[List.set_set]at bD;have cj:=h.size;have bU:=Of6 bh.at_;have cc:m.rb<w.heap.size:=Jd (bh.si.runs m bU).1.cells;have bL:∀ g,m.ab=some g->g<w.heap.size:=fun g br=>(Je bh.own br).2;have far:∀ k,w.heap.size<=k->k<w.heap.size+5->(O.setCell (Ar y.rb 1) (.slice a2 (y.R.bs.length+1) I)).heap[k]?=W.heap[k]?:=fun k bz cb=>Y.block k zo fun e=>by
  rcases e with e|e|e
  ·rcases h.ffr k e with e|e
   ·have:=bh.si.flt k e;omega
   omega
  ·rw[h.rb]at e;omega
  rcases h.afr k e with e|e
  ·have:=bL k e;omega
  omega
 have ci:=bB.size;have cf:=bz.size;refine⟨⟨_,_,bD.narrow,h.rb,h.place,?_,fun k K=>(bC k K.1).elim (h.ffr k) (fun e=>.inr zo),fun k K=>(bK k K).elim (h.nfr k) (fun e=>.inr zo),fun g br=>?_,(far _ zo zo).trans h.b0,(far _ zo zo).trans h.b1,(far _ zo zo).trans h.b2,?_,by have:=Y.size;omega,?_,fun k K _=>K.2⟩,h.from (b:=w.heap.size) zo (Y.mono fun k _ K=>K.imp id (Or.imp id .inl)),Y⟩
 ·simp only[Ob8,Oe4,Oi4,h.ids,bM,Od8]
 ·have bx:(Value.slice a2 (y.R.bs.length+1) I).ownBlock=some g:=by simpa [Mr.ab] using br
  rcases U with U|U
  ·exact h.afr g (U.symm.trans bx)
  rw[U]at bx;simp at bx;exact .inr zo
 ·refine h.keep.trans' Y fun k K e=>?_;rcases e with e|e|e
  ·exact .inl ((h.ffr k e).resolve_right zo)
  ·exact .inr (.inl (e.trans h.rb))
  exact .inr (.inr ((h.afr k e).resolve_right zo))
 rw[Oa8,List.length_singleton,Nat.mul_add,Nat.mul_one,<-On5];exact Ob2 bV (Nat.add_le_add_right h.pgs _)
theorem Kvy {P l n M y Q S a w}O(I:P.follows .mixedOrders=true)(K:Ki4 y=true)(H:S w.drew)(h:S w.drew->Ks6 P .any y (Jpf Q) S O y.size (Array.replicate y.size false) a w.drew):(Code.region M y true).wpIn (Fence.wide.inRound l) n P Q a w:=
 Code.wpIn_mono Jpf.imp (wpIn_region_any I (Ki2 K Jpf.shut _ _ _ _ (Ktd _ _ _ _ (h H))))
end
section
open Go.RowKit Go.Shelf Tryz
attribute [local go_sem] Oc0
theorem SW.abN {K W F E M mv bl i m}(H:SW K W F E M mv bl i m){g}(y:m.ab=some g):m.N g/\g<W.heap.size:=by
 have Y:=H.si.runs m (Of6 H.at_);have U:=(Je H.own y).2;rcases H.own with⟨_,⟨h0,_⟩|⟨O,Z,bf,h0,_⟩⟩
 ·unfold Mr.ab at y;rw[h0]at y;cases y
 simp at h0;have I:=h0.1;unfold Mr.ab at y;rw[I]at y;simp[Value.ownBlock]at y;subst y;exact⟨Y.1.an O 0 I,U⟩
theorem zaX {p:Prop}(h:p:=by intro W l o gG hl ho _ _;exact⟨zS,fun k H=>World.putObj_heap_other zo⟩):p:=h
theorem Kuz y(hK:SK y)w F E bx mv(z i:Nat)m(bj cp:Nat)hs ids(h:SW y w F E bx mv (z:Int) i m)(dt:1<=z)(gD:z<=64)(hC:Qd w bj hs (Jba ids y.cs))(dL:Jbo bj hs y.cs.length (fun b=>b<w.heap.size/\¬ (F b\/b=m.rb\/m.ab=some b)))(fN:∀ t∈ids,t<nR y.cs)(gw:1<=ids.length)(cS:ids.length<=50000)(gs:m.R.bs.length<=100000)(bD:Nat)(fR:∀ ch:List Nat,(∀ t∈ch,t<nR y.cs)->1<=ch.length->ch.length<=z->ch.length<=ids.length->(Qu (Kr4 y.ts (Jba ch y.cs) y.ts.length)).length<=bD)(gy:dz E+bD*ckN ids.length z<=930000):
  Cq 248 #[Po (Aq y.sb),Po (Aq m.rb),Sq bj y.cs.length cp] w (Kwz y w F E bx mv z i m ids bD):=by
 have hlen:(Jba ids y.cs).length=y.cs.length:=Krw _ _;have fQ:=hK.sg.good.one;have fM:=hK.sg.good.few;have gu:=h.si.runs m (Of6 h.at_);obtain⟨_,_,s4,_,_⟩:=h.si.st.field;have gC:=Jd h.si.st;have bi:=zh h;have cZ:Hid (Qd w bj hs (Jba ids y.cs)/\Jbo bj hs y.cs.length (fun b=>b<w.heap.size/\¬ (F b\/b=m.rb\/m.ab=some b))):=⟨hC,dL⟩;clear hC dL h;refine(callsIn_wide (n:=3)).1 ?_;refine callsIn_of_wp_marks func248 rfl trivial ?_ rfl;simp only[ntmps248,Om3,List.length_cons,List.length_nil,Nat.reduceAdd,Nat.reduceSub,Ok9,Array.replicate_zero,Om4,Ol2,List.nil_append,List.cons_append];refine wpIn_wide.2 ?_;go_upto_region 1 with fail
 generalize dO:((w.alloc _).alloc _).alloc _=bO;obtain⟨cB,cH,ca,cb,de⟩:=Jur w _ _ _ bO dO;clear dO;have c0:=zc 0 cH;have c4:=Ja de s4;have dQ:=fun X=>Jh4 (Sq bj y.cs.length cp) (z:Int) (some (Aq bj)) y.cs.length cp rfl X;go_wp2_with (go_at_call 123;refine(dQ _).mono ?_;rintro e bB ⟨rfl,bT⟩)
 have bE:bB.heap.size=w.heap.size+5:=by rw[bT,Oa7,Oa7,cB]
 have ci:Bq bO bB:=by rw[bT];exact Jc (Jc (Oa5 _ _) _) _
 have dE:bB.heap[w.heap.size+3]?=some (.cells #[Sq bj y.cs.length cp] 84 (0,0)):=by
  rw[bT,Oa9 _ _ _ (by rw[Oa7,cB];omega),<-cB];exact heap_alloc_new bO _
 have dD:bB.heap[w.heap.size+3+1]?=some (.cells #[Iq (z:Int)] 3 (0,0)):=by
  have:=heap_alloc_new (bO.alloc (.cells #[Sq bj y.cs.length cp] 84)) (.cells #[Iq (z:Int)] 3);rw[Oa7,cB]at this;rw[bT];exact this
 have cj:=Jb de ci;have dG:=(ci.block _ (Jd cH)).trans cH;have dH:=(ci.block _ (Jd ca)).trans ca;have dI:=(ci.block _ (Jd cb)).trans cb;have ff:bx.set i m=bx:=by
  refine Oi8 fun j=>?_;by_cases e:j=i
  ·subst e;rw[Oh0 (Ob9.1 bi.out.at_).1,bi.out.at_]
  rw[Od1 (fun fC=>e fC.symm)]
 have cD:SW y bB F E bx mv (z:Int) i m:=by
  have:=bi.out;have bR:=fun (x:Mr) (fY:x∈bx)=>this.si.runs x fY;exact⟨this.si.keep (G:=fun _=>False) (Ju.of_below cj) (fun k H=>H.elim) id (fun _ _=>id) (fun _ _=>id) (fun _ _=>⟨id,fun _ _=>id⟩),this.at_,Jaw this.own cj,this.held,this.arr,this.lst⟩
 have dM:WrI y w F E bx mv z i m ids (w.heap.size+5) bD [] bB F E m:=
  ⟨by rw[ff];exact cD,rfl,rfl,zS,fun k H=>.inl H,fun k H=>.inl H,fun g U=>.inl U,dG,dH,dI,Ju.of_below cj,zo,zS,fun k H hl=>by have:=bi.out.si.flt k H;omega⟩
 have fy:=zh dM;have dK:Qd bB bj hs (Jba ids y.cs):=cZ.out.1.below cj;have bJ:y.w0.heap.size<=w.heap.size:=bi.out.si.old.size;have hseq:=Jjx 2 zo (w.heap.size+3) (w.heap.size+3+1) bj cp hs (Jba ids y.cs) ids.length z dt zo zo (by rw[hlen];exact fQ) (by rw[hlen];exact fM) bB dK (fun j cv=>Kr0 ids (by rw[hlen]at cv;exact cv)) (by rw[hlen];simp[World.cell?,dE]) (by simp[World.cell?,dD]) (fun k=>k=w.heap.size+3\/k=w.heap.size+3+1\/(k<w.heap.size/\¬ (F k\/k=m.rb\/m.ab=some k))) ⟨.inl rfl,.inr (.inl rfl),.inr (.inr cZ.out.2.1),fun j cv b o e=>.inr (.inr (cZ.out.2.2 j (by rw[hlen]at cv;exact cv) b o e))⟩ (fun k H=>zo);simp only[hlen]at hseq;clear dM cD ff dG dH dI ci cj cH ca cb de c0 c4 s4 dQ dK dE dD;rw[<-bT];clear bT cB bO;refine(wpIn_wide (n:=3)).1 ?_;refine Jg8 rfl zo (gf:=155) (lb:=#[Po (Aq (w.heap.size+3)),Po (Aq (w.heap.size+3+1))]) rfl trivial (enters_of func155 zK rfl)
  hseq (fun h k=>h.trans k) ?hKb (Oa5 _ _) (fun _=>rfl)
  (fun bV W=>∃ Y M I,WrI y w F E bx mv z i m ids (w.heap.size+5) bD (bV.map fun x=>(x.1,x.2.1)) W Y M I)
  (fun c bV W=>c=.ret/\∃ Y M I x b,WrX y w F E bx mv z i m ids (w.heap.size+5) bD W Y M I x b)
  ?hI ?hIx ?hR ⟨F,E,m,fy.out⟩ (fun x=>{tmps:=#[Po (Aq y.sb),Po (Aq m.rb),Sq bj y.cs.length cp,Po (Aq w.heap.size),Po (Aq (w.heap.size+1)),undef,Po (Aq (w.heap.size+1+1)),undef,Sq x.2.2 y.cs.length y.cs.length,undef,undef,Sq bj y.cs.length cp,Po (Aq y.sb),Po (Aq y.sb),Po (Ar y.sb 4),Iq (z:Nat),.func (.func 155) #[] #[Po (Aq (w.heap.size+3)),Po (Aq (w.heap.size+3+1))],Iq (x.1:Int),Sq x.2.2 y.cs.length y.cs.length,undef,undef,undef,undef,undef,undef,undef,undef,undef,undef,undef,undef,undef,undef,undef,undef,undef,undef,undef],defers:=[]}) ?assign ?body ?done ?stop
 case hKb=>
  exact zaX
 case hI=>
  rintro s W dC row ⟨Y,M,I,h⟩ U hr;exact⟨Y,M,I,h.kept zo bJ U fun r e=>⟨by have:=(hr r e).1;omega,(hr r e).2⟩⟩
 case hIx=>
  rintro c s W dC row ⟨cM,Y,M,I,x,b,h⟩ U hr;have bC:=CK.of_grown U fun r e=>(hr r e).2;obtain⟨bW,bK⟩:=h.ch.disk_at;exact⟨cM,Y,M,I,x,b,h.sw.ck bC (Krz h.sw.si.old U fun r e=>by have:=(hr r e).1;omega),h.rb,h.place,h.ffr,h.nfr,h.afr,bC.cells _ _ _ _ h.b2,.disk b _ _ (bC.cell bW) (bC.cell bK),h.bn,Krz h.keep U fun r e=>by have:=(hr r e).1;omega,Ob2 h.size U.size,h.pgs,h.why⟩
 case hR=>
  rintro x W dC row ⟨cJ,dJ,fE,fF⟩ U hr;exact⟨cJ,dJ,fE,fF.ck (CK.of_grown U fun r e=>(hr r e).2)⟩
 case assign=>
  clear bE bJ;intro l x W gn fH;gi_wp2
  exact fH
 case stop=>
  rintro D c bV W fG ⟨k,H,cV⟩ ⟨rfl,Y,M,I,x,b,bS⟩ cK;have bP:W.heap[w.heap.size+1+1]?=some (.cells #[Ie 149 (Aq b)] 77 (0,0)):=bS.b2;have c3:=zc 0 bP;have dc:=zh bS;have bZ:Hid (y.w0.heap.size<=w.heap.size/\bB.heap.size=w.heap.size+5):=⟨bJ,bE⟩;clear bS bP cV bJ bE;gi_wp2
  have bJ:=bZ.out.1;have bE:=bZ.out.2;have cA:∀ r,some D=some r->∃ o:Obj,W.heap[r]?=some o/\o.isCells=false:=fun r e=>by cases e;exact⟨_,cK,rfl⟩
  refine⟨zS,.inl ⟨_,_,rfl,run_takeDeferred cK,?_⟩⟩;have dv:=cell_kept c3 (grownBy_putObj' _ D (.deferred none)) cA;have bC:=CK.of_grown (grownBy_putObj' W D (.deferred none)) cA;have bN:=grownBy_putObj' W D (.deferred none);refine⟨Ie 149 (Aq b),by simp[results,Tryz.f248,go_sem,dv],?_⟩;have h:=dc.out;obtain⟨bW,bK⟩:=h.ch.disk_at;refine⟨Krz h.keep bN (fun r e=>by cases e;omega),Y,M,I,h.sw.ck bC (Krz h.sw.si.old bN fun r e=>by cases e;omega),h.rb,h.place,fun k H=>(h.ffr k H).imp id zo,fun k H=>(h.nfr k H).imp id zo,fun g U=>(h.afr g U).imp id zo,h.pgs,.inr ⟨x,b,rfl,.disk b _ _ (bC.cell bW) (bC.cell bK),by have:=h.bn.1;omega,h.bn.2.1,h.bn.2.2,h.why⟩⟩
 case done=>
  rintro D gK W fG fk ⟨Y,M,I,hI⟩ cK;rw[fk]at hI;have bP:W.heap[w.heap.size+1+1]?=some (.cells #[.nilIface] 77 (0,0)):=hI.b2;have c3:=zc 0 bP;have gp:W.frozen? ⟨w.heap.size+1+1,0,none⟩=false:=by simp[World.frozen?,bP]
  have dc:=zh hI;have bZ:Hid (y.w0.heap.size<=w.heap.size/\bB.heap.size=w.heap.size+5):=⟨bJ,bE⟩;clear hI bP fk bJ bE;go_wp2_with fail
  have bJ:=bZ.out.1;have bE:=bZ.out.2;have h:=dc.out;have dN:=(KeepsOthers.setCell W ⟨w.heap.size+1+1,0,none⟩ .nilIface).same D _ cK rfl;have cD:=SW.box bi.out h.sw (Oa2 _) h.rb h.ffr h.nfr h.afr (w.heap.size+1+1) zo .nilIface;have gi:Ju (fun k=>F k\/k=m.rb\/m.ab=some k) w (W.setCell (Aq (w.heap.size+1+1)) .nilIface):=h.keep.trans' (Ju.set (F:=fun k=>k=w.heap.size+1+1) (Ju.refl _ _) rfl 0 _) fun k H e=>by omega
  have dv:(W.setCell (Aq (w.heap.size+1+1)) .nilIface).cell? (Aq (w.heap.size+1+1))=some .nilIface:=World.cell?_setCell_same _ _ _ c3;generalize W.setCell (Aq (w.heap.size+1+1)) .nilIface=X at *;have cA:∀ r,some D=some r->∃ o:Obj,X.heap[r]?=some o/\o.isCells=false:=fun r e=>by cases e;exact⟨_,dN,rfl⟩
  refine⟨zS,.inl ⟨_,_,rfl,run_takeDeferred dN,?_⟩⟩;have bN:=grownBy_putObj' X D (.deferred none);have gh:=cell_kept dv bN cA;have bC:=CK.of_grown bN cA;refine⟨.nilIface,by simp[results,Tryz.f248,go_sem,gh],?_⟩;have fI:=Kvl ids z dt;have fS:=h.pgs;rw[Jbp]at fS;refine⟨Krz gi bN (fun r e=>by cases e;omega),Y,M,I,cD.ck bC (Krz cD.si.old bN fun r e=>by cases e;omega),h.rb,h.place,fun k H=>(h.ffr k H).imp id zo,fun k H=>(h.nfr k H).imp id zo,fun g U=>(h.afr g U).imp id zo,zo,.inl ⟨rfl,?_⟩⟩;rw[List.flatMap_def,h.ids,List.flatten_append,fI,List.flatMap_def]
 case body=>
  rintro fq bV ⟨f,Z,gx⟩ W ⟨Y,M,I,hI⟩ ⟨fi,⟨dr,ds⟩,fj,cY⟩ cV;simp only at fi dr ds fj cY;rw[Ktg]at cY;have dS:(Kr3 ids (f,Z)).length=Z:=by unfold Kr3;simp;omega
  have cN:∀ t∈Kr3 ids (f,Z),t<nR y.cs:=fun t ht=>fN t (Om9 (Oh7 ht));have bU:=hI.sw.si.env hK;have cx:=hK.sg.lay cN zo;have fe:=hI.pgs;rw[Oa6]at fe;have dX:=Nat.mul_le_mul_left bD (show bV.length+1<=ckN ids.length z from cV);rw[Nat.mul_add,Nat.mul_one]at dX;have fd:=fR (Kr3 ids (f,Z)) cN zo zo (by unfold Kr3;rw[Of7,Oc7];omega);have fL:ckN ids.length z<=ids.length:=Kg4 _ _ dt;have dj:∀ k,k<y.w0.heap.size->¬ y.F0 k->¬ Y k:=fun k H cS dg=>(hI.sw.si.ffr k dg).elim cS (fun bQ=>zo);have gg:=Qbo (E:=M) zo;have cz:=Qao y.sb y.tb y.to_ y.tc y.ts gx y.cs.length _ (Jba (Kr3 ids (f,Z)) y.cs) (Kr3 ids (f,Z)).length W Y y.d M y.q y.qw bU.so.c0 bU.so.c3 bU.so.ty cY cx.1 hI.sw.si.disk hI.sw.si.flt bU.cq bU.cw (dj _ hK.gl.2.2.1 hK.gl.1) (dj _ hK.gl.2.2.2 hK.gl.2.1) (by have:=cx.2.2;omega);rw[Krw]at cz;have c0:W.cell? (Aq w.heap.size)=some (Po (Aq y.sb)):=by simp[World.cell?,hI.b0]
  have cF:=zh hI;have da:Hid ((Kr3 ids (f,Z)).length=Z/\(∀ t∈Kr3 ids (f,Z),t<nR y.cs)/\1<=Z/\Z<=z/\bV.length<ids.length/\dz M+bD<=dz E+bD*ckN ids.length z):=⟨dS,cN,dr,ds,zo,zo⟩;have dy:Hid (Ky1 y.ts (Jba (Kr3 ids (f,Z)) y.cs) (Kr3 ids (f,Z)).length/\(Qu (Kr4 y.ts (Jba (Kr3 ids (f,Z)) y.cs) y.ts.length)).length<=11000/\(Qu (Kr4 y.ts (Jba (Kr3 ids (f,Z)) y.cs) y.ts.length)).length<=bD/\dz M+(Qu (Kr4 y.ts (Jba (Kr3 ids (f,Z)) y.cs) y.ts.length)).length<=950000):=⟨cx.1,cx.2.2,fd,zo⟩;clear hI fi dr ds fj cY dS cN bU cx fe fL dj cV dX fd gg;have dB:=zh bE;clear bE;generalize dR:Kr3 ids (f,Z)=ch at *;have fw:=zh dR;clear dR;obtain⟨dx,dq⟩:∃ dx,Uy M (Qu (Kr4 y.ts (Jba ch y.cs) y.ts.length))=dx:=⟨_,rfl⟩;rw[dq]at cz;have db:=zh dq;clear dq;obtain⟨bY,l,x⟩:=dx;have cE:Hid (∀ X,Ju Y W X->X.cell? (Aq (w.heap.size+1))=some (Po (Aq m.rb))/\X.heap[w.heap.size+1+1]?=some (.cells #[.nilIface] 77 (0,0))/\X.heap[m.rb]?=some (.cells #[Iq (I.R.place:Nat),.slice I.ba I.R.bs.length I.bc,Sz] 368 (0,0))):=fun X H=>by
   have hI:=cF.out;have bA:=hI.sw.si.runs I (Of6 hI.sw.at_);have nb:∀ k,w.heap.size<=k->k<w.heap.size+5->¬ Y k:=fun k cJ dJ dg=>(hI.ffr _ dg).elim (fun bQ=>by have:=bi.out.si.flt _ bQ;omega) (fun bQ=>zo);have ca:=(H.block _ (Jd hI.b1) (nb _ zo zo)).trans hI.b1;have cb:=(H.block _ (Jd hI.b2) (nb _ zo zo)).trans hI.b2;have er:=(H.block _ (Jd bA.1.cells) bA.2.1).trans bA.1.cells;rw[hI.sw.held.2,hI.rb]at er;exact⟨by simp[World.cell?,ca],cb,er⟩
  cases x with
  |none=>
   gi_wp2_with (first|(refine⟨trivial,?_⟩;gi_at_call 286;refine(CallsIn.inRound fq (callsIn_wide.2 cz)).mono ?_;rintro e K ⟨bh,FD,cO,cn,cQ,gE,gH,rfl,⟨cP,dh⟩,cU,dl⟩;obtain⟨la,lc,rfl,_⟩:=cP.cells;obtain⟨pa,pc,rfl,_⟩:=cU.cells))
   rw[Oa6,Kti]at cP dh;rw[Oa6]at cU dl;rw[Kti];obtain⟨bK,bL,dw⟩:=cE.out K bh;have qr:=zc 1 dw;have dA:Hid (Ju Y W K/\Zb K FD y.d bY/\(∀ k,FD k->Y k\/W.heap.size<=k)/\(∀ k,FD k->k<K.heap.size)/\Jo K W.heap.size 3 (.slice la y.ts.length lc) ((Ks9 y.ts (Jba ch y.cs) y.ts.length).map nv)/\(∀ g,(Value.slice la y.ts.length lc).ownBlock=some g->¬ FD g)/\Jo K W.heap.size 3 (.slice pa l.length pc) (l.map nv)/\∀ g,(Value.slice pa l.length pc).ownBlock=some g->¬ FD g):=⟨bh,cO,cn,cQ,cP,dh,cU,dl⟩;have fz:=zh dw;clear bh cO cn cQ cP dh cU dl cz bL dw cE;have bk:Bq K (K.alloc (.cells #[Iq (ch.length:Nat),.slice la y.ts.length lc,.slice pa l.length pc] 370)):=Jc (Oa5 _ _) _;have cT:=heap_alloc_new K (.cells #[Iq (ch.length:Nat),.slice la y.ts.length lc,.slice pa l.length pc] 370);generalize K.alloc (.cells #[Iq (ch.length:Nat),.slice la y.ts.length lc,.slice pa l.length pc] 370)=bf at bk cT |-;obtain⟨fs,ft,fu,_⟩:=Ksm cT;have fA:Hid (Bq K bf/\bf.heap[K.heap.size]?=some (.cells #[Iq (ch.length:Nat),.slice la y.ts.length lc,.slice pa l.length pc] 370 (0,0))):=⟨bk,cT⟩;have fr:=Ja bk bK;have pr:=Ja bk qr;clear bk cT bK qr;refine Kvy 10 (S:=fun X=>X.cell? (Aq (w.heap.size+1))=some (Po (Aq m.rb))/\X.cell? (Ar m.rb 1)=some (.slice I.ba I.R.bs.length I.bc)/\X.cell? (Aq K.heap.size)=some (Iq (ch.length:Nat))/\X.cell? (Ar K.heap.size 1)=some (.slice la y.ts.length lc)/\X.cell? (Ar K.heap.size 2)=some (.slice pa l.length pc)) zK zK ⟨Jh fr,Jh pr,Jh fs,Jh ft,Jh fu⟩ (fun O=>?_);clear fr pr fs ft fu;refine tkm 0 rfl O ?_;refine tkm 1 rfl O ?_;refine tkm 2 rfl O ?_;refine tkn ?_;refine tkm 3 rfl O ?_;refine tkm 4 rfl O ?_;refine tkm 5 rfl O ?_;refine tkn ?_;refine Kr2 6 rfl (fun bM bz=>?_);go_simp;have bI:Bq bf (bf.alloc (.cells #[Iq (ch.length:Nat),.slice la y.ts.length lc,.slice pa l.length pc] 370)).drew:=Jj (Jc (Oa5 _ _) _);have di:(bf.alloc (.cells #[Iq (ch.length:Nat),.slice la y.ts.length lc,.slice pa l.length pc] 370)).drew.heap[bf.heap.size]?=some (.cells #[Iq (ch.length:Nat),.slice la y.ts.length lc,.slice pa l.length pc] 370 (0,0)):=heap_alloc_new bf _;have cW:(bf.alloc (.cells #[Iq (ch.length:Nat),.slice la y.ts.length lc,.slice pa l.length pc] 370)).drew.heap.size=bf.heap.size+1:=Oa7 _ _;generalize (bf.alloc (.cells #[Iq (ch.length:Nat),.slice la y.ts.length lc,.slice pa l.length pc] 370)).drew=bG at bI di cW |-;refine bz.out _ _ ⟨Ja bI O.1,Ja bI O.2.1,Ja bI O.2.2.1,Ja bI O.2.2.2.1,Ja bI O.2.2.2.2⟩ (fun O=>?_);clear bz bM;have br:=cF.out;have fK:I.R.bs.length<=200000:=by
    have cJ:=congrArg List.length br.ids;simp only[Oa6,Oa8]at cJ;have:=da.out.2.2.2.2.1;omega
   have cf:Bq K bG:=Jb fA.out.1 bI;have bA:=br.sw.si.runs I (Of6 br.sw.at_);have bh:=dA.out.1;have ge:=cf.size;have fZ:=bh.size;have gd:=br.size;have fc:Kvc bG y.w0.heap.size y.ts.length (.slice I.ba I.R.bs.length I.bc) I.R.bs:=br.sw.own.of_block fun g U=>by
    have bR:=br.sw.abN U;rw[cf.block g zo,bh.block g bR.2 (bA.2.2 g bR.1)]
   have cL:∀ g,I.ab=some g->g<W.heap.size/\g≠w.heap.size+1/\g≠m.rb:=fun g U=>by
    have bR:=br.sw.abN U;refine⟨bR.2,fun e=>?_,fun e=>bA.1.nr (by rw[br.rb];exact e▸bR.1)⟩;rcases br.afr g U with bQ|bQ
    ·have:=(bi.out.abN bQ).2;omega
    omega
   have fV:m.rb<W.heap.size:=by rw[<-br.rb];exact Jd bA.1.cells
   obtain⟨fp,dU,fl,fm,fo⟩:=info_parts Qdk;refine Kr2 7 rfl (fun bM bz=>?_);refine step_append_lies bG rfl (.tmp 32) (.tmp 34) 366 rfl y.w0.heap.size 370 fp (.agg #[iZ,Sz,Sz]) 3 56 zK dU fl fm fo rfl zd (.slice I.ba I.R.bs.length I.bc) I.R.bs.length (I.R.bs.flatMap (Bk.cells y.ts.length)) rfl fc ⟨bf.heap.size,0,none⟩ 1 1 [Iq (ch.length:Nat),.slice la y.ts.length lc,.slice pa l.length pc] rfl rfl (fun j u cX=>World.news_of_block (w:=bG) di j u (by simpa using cX)) (fun u cX=>by simp at cX;rcases cX with rfl|rfl|rfl<;>rfl) zd (by unfold maxLen;omega) zo zo (bf.heap.size+1) cW (fun dd fB cG dZ cu dP fP=>?_);have dp:=(cu.block m.rb zo fun e=>(cL _ e.symm).2.2 rfl).trans ((cf.block _ zo).trans fz.out);have cw:=zc 1 dp;have fD:cG.frozen? ⟨m.rb,1,none⟩=false:=by simp[World.frozen?,dp]
   have cI:∀ o u,bG.cell? (Ar K.heap.size o)=some u->cG.cell? (Ar K.heap.size o)=some u:=fun o u cM=>(cu.cell_far ⟨K.heap.size,o,none⟩ (by have:=Jb0 cM;exact this) fun e=>by have gq:K.heap.size<W.heap.size:=(cL _ e.symm).1;omega).trans cM;refine bz.out _ _ ⟨(cu.cell_far ⟨w.heap.size+1,0,none⟩ (Jb0 O.1) fun e=>(cL _ e.symm).2.1 rfl).trans O.1,cw,cI _ _ O.2.2.1,cI _ _ O.2.2.2.1,cI _ _ O.2.2.2.2⟩ (fun O=>?_);have fx:Hid (bG.grownBy cG I.ab/\(I.ab=some dd\/dd=bf.heap.size+1)/\Kvc cG y.w0.heap.size y.ts.length (Sq dd (I.R.bs.length+1) fB) (I.R.bs++[⟨ch,l,la,lc,pa,pc⟩])/\Bq K bG/\bG.heap.size=bf.heap.size+1):=⟨cu,dP,by
    unfold Kvc;rw[Oa8,List.length_singleton];simpa [Bk.cells] using dZ,cf,cW⟩
   clear bz bM cu dP dZ bI di cW cf fc dp cI fK ge fZ gd fP br bA bh cL dU fl fm fo fp;simp only[Act.put,List.getElem_toArray,List.getElem_cons_zero,List.getElem_cons_succ,Oa1,List.set_cons_zero,List.set_cons_succ];refine Kr2 8 rfl (fun bM bz=>?_);go_simp;refine bz.out _ _ O (fun O=>?_);clear bz bM;refine tkm 9 rfl O ?_;refine tkn ?_;refine Kts rfl (fun bM bz=>?_);go_simp;refine bz.out _ _ ?_;clear bz bM O cw fD;have hI:=cF.out;have bH:=dA.out;have cc:=fx.out;have df:=da.out;have cy:=Jrh (Qu (Kr4 y.ts (Jba ch y.cs) y.ts.length)) M;have dW:=(Jc1 (Qu (Kr4 y.ts (Jba ch y.cs) y.ts.length)) M).1;obtain⟨_,fT,fU,dm⟩:=dy.out;have dT:=(Qbz (Qu (Kr4 y.ts (Jba ch y.cs) y.ts.length)) M dm).1;rw[db.out]at cy dW dT;have dY:=WrI.next bi.out hI (Oa2 _) ⟨ch,l,la,lc,pa,pc⟩ (f,Z) fw.out.symm df.2.1 (by show 1<=ch.length/\ch.length<=64;omega) bH.1 bH.2.1 bH.2.2.1 bH.2.2.2.1 (dW rfl) (by show l.length<=1000000;have:=cy.2;dsimp only at this;omega) bH.2.2.2.2.1 bH.2.2.2.2.2.1 bH.2.2.2.2.2.2.1 bH.2.2.2.2.2.2.2 cc.2.2.2.1 cc.2.2.1 cc.1 (cc.2.1.imp (fun e=>e.symm) fun e=>by rw[e,cc.2.2.2.2];rfl) (by dsimp only at dT;omega);rw[hI.rb]at dY;obtain⟨⟨fv,m2,fX⟩,fO,dV⟩:=dY;have cR:=bi.out;have gz:m.rb<w.heap.size:=Jd (cR.si.runs m (Of6 cR.at_)).1.cells;have fW:=hI.size;refine⟨by rw[dB.out];exact fO,⟨dV.size,fun k H=>dV.block k zo fun e=>?_⟩,fv,bY,m2,by rw[Ob8];exact fX⟩;rcases e with e|e|e
   ·rcases hI.ffr k e with e|e
    ·have:=cR.si.flt k e;rcases H with H|H|H
     ·omega
     ·omega
     exact H.2 (.inl e)
    omega
   ·rcases H with H|H|H
    ·omega
    ·omega
    exact H.2 (.inr (.inl e))
   rcases hI.afr k e with e|e
   ·have:=(cR.abN e).2;rcases H with H|H|H
    ·omega
    ·omega
    exact H.2 (.inr (.inr e))
   omega
  |some x=>
   gi_wp2_with (first|(refine⟨trivial,?_⟩;gi_at_call 286;refine(CallsIn.inRound fq (callsIn_wide.2 cz)).mono ?_;rintro e K ⟨bh,FD,cO,cn,cQ,bb,rfl,gr,df,fJ⟩;obtain⟨_,bL,_⟩:=cE.out K bh;have cC:=((Jc (Oa5 _ K) (.cells #[iZ,Sz,Sz] 370)).block _ (Jd bL)).trans bL;have gI:(K.alloc (.cells #[iZ,Sz,Sz] 370)).cell? (Aq (w.heap.size+1+1))=some .nilIface:=(by simp[World.cell?,cC]);have gJ:(K.alloc (.cells #[iZ,Sz,Sz] 370)).frozen? ⟨w.heap.size+1+1,0,none⟩=false:=(by simp[World.frozen?,cC]);clear bL cC))
   have hI:=cF.out;have bk:Bq K (K.alloc (.cells #[iZ,Sz,Sz] 370)):=Jc (Oa5 _ K) _;obtain⟨_,bL,_⟩:=cE.out K bh;have cC:=(bk.block _ (Jd bL)).trans bL;have bA:=hI.sw.si.runs I (Of6 hI.sw.at_);have fV:m.rb<w.heap.size:=Jd (bi.out.si.runs m (Of6 bi.out.at_)).1.cells;have fW:=hI.size;have gA:=bh.size;have gB:=bk.size;have fg:=Jso (D:=M) (ps:=Qu (Kr4 y.ts (Jba ch y.cs) y.ts.length)) (x:=x) (by rw[db.out]);obtain⟨_,fT,fU,dm⟩:=dy.out;obtain⟨cy,fh⟩:=Qbz (Qu (Kr4 y.ts (Jba ch y.cs) y.ts.length)) M dm;rw[db.out]at fg cy fh;have gt:=da.out;have bX:SW y K FD (Jf4 bY l) (bx.set i I) mv (z:Int) i I:=⟨hI.sw.si.disk_same bh cn cQ cO fg.1,hI.sw.at_,hI.sw.own.of_block fun g U=>bh.block g (hI.sw.abN U).2 (bA.2.2 g (hI.sw.abN U).1),hI.sw.held,hI.sw.arr,hI.sw.lst⟩;have gj:SW y (K.alloc (.cells #[iZ,Sz,Sz] 370)) FD (Jf4 bY l) (bx.set i I) mv (z:Int) i I:=⟨bX.si.keep (G:=fun _=>False) (Ju.of_below bk) (fun k H=>H.elim) id (fun _ _=>id) (fun _ _=>id) (fun _ _=>⟨id,fun _ _=>id⟩),bX.at_,Jaw bX.own bk,bX.held,bX.arr,bX.lst⟩;have ffr:∀ k,FD k->F k\/w.heap.size+5<=k:=fun k H=>(cn k H).elim (hI.ffr k) fun e=>.inr zo;have gm:=SW.box bi.out gj (Oa2 _) hI.rb ffr hI.nfr hI.afr (w.heap.size+1+1) zo (Ie 149 (Aq bb));have du:Ju (fun k=>Y k\/k=w.heap.size+1+1) W ((K.alloc (.cells #[iZ,Sz,Sz] 370)).setCell (Aq (w.heap.size+1+1)) (Ie 149 (Aq bb))):=Ju.set (F:=fun k=>Y k\/k=w.heap.size+1+1) ((bh.trans (Ju.of_below bk)).mono fun k _ H=>.inl H) (.inr rfl) 0 _;obtain⟨bW,bK⟩:=df.disk_at;have bS:((K.alloc (.cells #[iZ,Sz,Sz] 370)).setCell (Aq (w.heap.size+1+1)) (Ie 149 (Aq bb))).heap[bb]?=K.heap[bb]?:=(Oa4 _ _ _ _ (show bb≠w.heap.size+1+1 by omega)).trans (bk.block bb (Jb0 bW));refine⟨by rw[dB.out];exact hI.from (b:=w.heap.size+1+1) zo (du.mono fun k _ H=>H.imp id fun e=>.inr (.inr e)),rfl,FD,Jf4 bY l,I,x,bb,gm,hI.rb,hI.place,ffr,hI.nfr,hI.afr,by rw[Jk cC];simp,.disk bb _ _ ((Oc3 bS).trans bW) ((Oc3 bS).trans bK),⟨zo,fJ,fun cS=>by have:=bA.1.lt _ cS;omega⟩,hI.keep.trans' du fun k H e=>?_,by have:=du.size;simp[World.setCell]at this |-;omega,?_,(fh x rfl).of hI.sw.si.top.quota hI.sw.si.top.fail⟩
   ·rcases e with e|e
    ·exact .inl ((hI.ffr k e).resolve_right zo)
    omega
   rw[Kyi];dsimp only at cy;omega
theorem SW.next {K w w' F E Y H mv bl i j m Z I b}(h:SW K w F E H mv bl j I)(U:Kst K w F E H mv bl i m Z b Y w')(hi:H[i]?=some m)(M:i≠j):SW K w' F Y (H.set i Z) mv bl j I:=by
 have bj:=h.si.runs I (Of6 h.at_);refine⟨U.si,by rw[Od1 M];exact h.at_,h.own.of_block fun g y=>U.keep.block g (h.abN y).2 fun e=>?_,h.held,fun g y k mk O bi=>?_,h.lst⟩
 ·rcases e with e|e
  ·exact bj.2.2 g (h.abN y).1 e
  exact(h.si.sep j i I m h.at_ hi fun bf=>M bf.symm).2 (e▸(h.abN y).1)
 rcases getElem?_set_cases O with⟨_,rfl⟩|⟨_,O⟩
 ·intro bh;rcases U.new g bh with e|e
  ·exact h.arr g y i m hi M e
  have:=(h.abN y).2;omega
 exact h.arr g y k mk O bi
theorem SW.keep {y w w' F G E H mv bl i m}(h:SW y w F E H mv bl i m)(K:Ju G w w')(M:∀ k,G k->y.w0.heap.size<=k)(U:¬ G y.sb)(O:∀ g,mv.ownBlock=some g->¬ G g)(hF:∀ k,F k->¬ G k)(hM:∀ m∈H,¬ G m.rb/\∀ k,m.N k->¬ G k):SW y w' F E H mv bl i m:=
 ⟨h.si.keep K M U O hF hM,h.at_,h.own.of_block fun g I=>K.block g (h.abN I).2 ((hM m (Of6 h.at_)).2 g (h.abN I).1),h.held,h.arr,h.lst⟩
theorem Kwz.ret {y w w' F E H mv z i m ids I e}(h:Kwz y w F E H mv z i m ids I e w'):∃ v,e=.returned v:=by
 obtain⟨_,_,_,_,_,_,_,_,_,_,_,hv|⟨_,_,hv,_⟩⟩:=h
 ·exact⟨_,hv.1⟩
 exact⟨_,hv⟩
theorem Kv3 y(hK:SK y)w F E K mv(z i:Nat)m(H cp:Nat)hs ids(h:SW y w F E K mv (z:Int) i m)(bj:1<=z)(bk:z<=64)(hC:Qd w H hs (Jba ids y.cs))(M:Jbo H hs y.cs.length (fun b=>b<w.heap.size/\¬ (F b\/b=m.rb\/m.ab=some b)))(O:∀ t∈ids,t<nR y.cs)(bh:1<=ids.length)(bf:ids.length<=50000)(Z:m.R.bs.length<=100000)(I:Nat)(U:∀ ch:List Nat,(∀ t∈ch,t<nR y.cs)->1<=ch.length->ch.length<=z->ch.length<=ids.length->(Qu (Kr4 y.ts (Jba ch y.cs) y.ts.length)).length<=I)(Y:dz E+I*ckN ids.length z<=930000)(b1 b2:Nat)(bx:w.cell? (Aq b1)=some (Pq y.sb))(bz:w.cell? (Aq b2)=some (Pq m.rb)):
  Cq 250 #[Sq H y.cs.length cp,Pq b1,Pq b2] w (Kwz y w F E K mv z i m ids I):=by
 have bi:=Kuz y hK w F E K mv z i m H cp hs ids h bj bk hC M O bh bf Z I U Y;clear h hC M O U Y;go_enter func250,ntmps250
 go_wp2_with (go_at_call 248;refine bi.mono ?_;intro e br hp;obtain⟨v,hv⟩:∃ v,e=.returned v:=hp.ret;subst hv)
 go_ret
 exact hp
theorem Qab cs l H:Jdi (Jba l cs) (Jba H cs) cs.length=Jba (l++H) cs:=by
 refine Oh4 (by rw[Jf9,Krw,Krw]) fun j M K=>?_;have y:j<cs.length:=by rw[Krw]at K;exact K
 have I:=Jlm (Jba l cs) (Jba H cs) cs.length j (by rw[Krw];exact y);rw[if_pos y,Kr8 l y,Kr8 H y,<-Ob8,<-Kr8 (l++H) y]at I;rw[Oa0,Oa3 M,Oa0,Oa3 K]at I;exact I
theorem Kx3 (y:SC)w(B g cap:Nat)(I:List Value)(l ids:List Nat)(g2 O ob:Nat)(hs:List (Option Addr×Nat))(hob:w.cell? (Aq ob)=some (Sq g y.cs.length cap))(Y:Jar w B g I (Jba l y.cs))(U:Qd w g2 hs (Jba ids y.cs))(br:y.cs.length<=1000)(bh:l.length+ids.length<=1000000)(bk:B<=w.heap.size)(bf:∀ j b,j<y.cs.length->(Uq I j).ownBlock=some b->b≠g2/\∀ k H M,k<y.cs.length->(Yo hs k).1=some (Ar H M)->b≠H)(bi:g≠g2/\∀ k H M,k<y.cs.length->(Yo hs k).1=some (Ar H M)->g≠H):
  Cq 173 #[Sq g2 y.cs.length O,Pq ob] w fun e w'=>e=.returned .nilIface/\(∃ bj,Jar w' B g bj (Jba (l++ids) y.cs)/\∀ j b,j<y.cs.length->(Uq bj j).ownBlock=some b->(Uq I j).ownBlock=some b\/w.heap.size<=b)/\Below B w w'/\w.heap.size<=w'.heap.size/\∀ x,x<w.heap.size->x≠g->(∀ j,j<y.cs.length->(Uq I j).ownBlock≠some x)->w'.heap[x]?=w.heap[x]?:=by
 have Z:=Kb4 B g cap I (Jba l y.cs) g2 O hs (Jba ids y.cs) w Y U.loose (by rw[Krw,Krw]) (fun j K=>by rw[Krw]at K;rw[Kr0 l K,Kr0 ids K];exact bh) bk (by rw[Krw];exact br) (by rw[Krw,Krw];exact bf) (by rw[Krw];exact bi);rw[Krw,Krw,Qab]at Z;clear Y U bf bi bh;go_enter func173,ntmps173
 go_wp2_with (go_at_call 126;refine Z.mono ?_;rintro e bx ⟨rfl,hp⟩)
 go_ret
 exact⟨rfl,hp⟩
end
section
open Go.RowKit Go.Shelf
def Kry (y:List Mr)(idx:List Nat):List (List Nat):=idx.map fun i=>((y[i]?).map fun m=>m.R.rem).getD []
theorem Kso {y idx}{j i:Nat}{m}(H:idx[j]?=some i)(hi:y[i]?=some m):(Kry y idx)[j]?=some m.R.rem:=by
 unfold Kry;rw[Ob1,H];simp[hi]
theorem Kto {y idx}(Y:idx.Nodup){j i m K}(H:idx[j]?=some i)(hi:y[i]?=some m):Kry (y.set i K) idx=(Kry y idx).set j K.R.rem:=by
 have I:=(Ob9.1 H).1;have U:=(Ob9.1 hi).1;refine Oi8 fun k=>?_;by_cases e:k=j
 ·subst e;rw[Kso H (Oh0 U),Oh0 (by unfold Kry;rw[Oa6];exact I)]
 rw[Od1 (fun M=>e M.symm)];unfold Kry;rw[Ob1,Ob1];cases hk:idx[k]? with
 |none=>rfl
 |some bf=>
  have Z:i≠bf:=fun O=>e ((List.getElem?_inj I Y).1 (by rw[H,hk,O])).symm;simp only[Option.map_some];rw[Od1 Z]
theorem Kst.tail {I w w' F E H K mv bl i m y b}(h:Kst I w F E K mv bl i m y b H w')(hh:m.R.held≠[]):m.R.rem=m.R.held.headD 0::y.R.rem:=by
 rw[h.rem];unfold Rn.rem;cases hl:m.R.held with
 |nil=>exact absurd hl hh
 |cons a l=>rfl
theorem Kst.whole {I w w' F E H K mv bl i m y b}(h:Kst I w F E K mv bl i m y b H w')(hh:m.R.held=[]):y.R.rem=m.R.rem:=by
 rw[h.rem];unfold Rn.rem;rw[hh];rfl
theorem Kst.sub {K w w' F E I M mv bl i m H b}(h:Kst K w F E M mv bl i m H b I w'):∀ a∈H.R.rem,a∈m.R.rem:=fun a y=>by
 by_cases hh:m.R.held=[]
 ·exact h.whole hh▸y
 rw[h.tail hh];exact Og1 _ y
theorem Ktm.next {bj w w' F E bi I mv bl idx i m K b}(hM:Ktm I idx)(h:Kst bj w F E I mv bl i m K b bi w')(hi:I[i]?=some m):Ktm (I.set i K) idx:=by
 have old:∀ (k:Nat) (mk:Mr),(I.set i K)[k]?=some mk->∃ H,I[k]?=some H/\mk.R.place=H.R.place/\∀ a∈mk.R.rem,a∈H.R.rem:=fun k mk y=>by
  rcases getElem?_set_cases y with⟨e,rfl⟩|⟨_,y⟩
  ·exact⟨m,e▸hi,h.place,h.sub⟩
  exact⟨mk,y,rfl,fun a U=>U⟩
 refine⟨hM.nd,fun k y=>?_,fun k l mk ml y hl M O hp a U bh hb=>?_,fun k l mk ml y hl M O br=>?_⟩
 ·obtain⟨H,bk⟩:=hM.ex k y;by_cases e:i=k
  ·exact⟨K,by rw[<-e,Oh0 (Ob9.1 hi).1]⟩
  exact⟨H,by rw[Od1 e];exact bk⟩
 ·obtain⟨H,ho,Z,s1⟩:=old k mk M;obtain⟨no,Y,bf,s2⟩:=old l ml O;exact hM.pl k l H no y hl ho Y (by rw[<-Z,<-bf];exact hp) a (s1 a U) bh (s2 bh hb)
 obtain⟨H,ho,Z,_⟩:=old k mk M;obtain⟨no,Y,bf,_⟩:=old l ml O;rw[Z,bf];exact hM.pd k l H no y hl ho Y br
structure Std (Ms:List Mr) (idx:List Nat) (n:Nat) (f:Nat->Nat):Prop where
 mg:Ktm Ms idx
 sep:∀ (i j:Nat) mi mj,Ms[i]?=some mi->Ms[j]?=some mj->i≠j->mi.rb≠mj.rb
 at_:∀ j,j<n->Kvd Ms idx (f j)
 cov:∀ (i:Nat) m,i∈idx->Ms[i]?=some m->m.R.rem≠[]->m.R.held≠[]/\∃ j,j<n/\f j=m.rb
 inj:Inj n f
structure Mgg (c:Nat->Nat->Int) (all taken:List Nat) (Ms:List Mr) (idx:List Nat) (n:Nat) (f:Nat->Nat):Prop extends Std Ms idx n f where
 mrg:Mrg c all taken (Kry Ms idx)
 hp:Hp c n (fun j=>Ksd Ms (f j))
theorem Mgg.top {c}(ho:Kse c){all bj H idx n f}(h:Mgg c all bj H idx n f)(bz:1<=n):
  ∃ k i m,idx[k]?=some i/\H[i]?=some m/\m.rb=f 0/\m.R.held≠[]/\∀ r,m.R.rem=m.R.held.headD 0::r->Mrg c all (bj++[m.R.held.headD 0]) ((Kry H idx).set k r):=by
 obtain⟨i,m,hi,M,hr,hh⟩:=h.at_ 0 bz;obtain⟨k,bi,bx⟩:=Od5 hi;have U:idx[k]?=some i:=by rw[Oa3 bi,bx]
 refine⟨k,i,m,U,M,hr,hh,fun r bD=>h.mrg.take ho (by rw[Kso U M,bD]) fun j bk s bf bA=>?_⟩;have I:j<idx.length:=by have:=(Ob9.1 bf).1;unfold Kry at this;rw[Oa6]at this;exact this
 have bh:idx[j]?=some (idx[j]'(I)):=Oa3 I;obtain⟨K,O⟩:=h.mg.ex _ (Ob3 I);have y:=Kso bh O;rw[bf]at y;have y:bk::s=K.R.rem:=Oj6 y;obtain⟨br,q,hq,Z⟩:=h.cov _ K (Ob3 I) O (by rw[<-y];simp);have bB:i≠idx[j]'(I):=fun e=>bA ((List.getElem?_inj bi h.mg.nd).1 (by rw[U,bh,e])).symm;have bC:0<q:=by
  rcases Oj2 q with e|e
  ·subst e;exact absurd (hr.trans Z) (h.sep i _ m K M O bB)
  exact e
 have Y:Lt c (Ksd H (f 0)) (Ksd H (f q)):=h.hp.min ho q bC hq;rw[<-hr,Z,Ksg h.sep M,Ksg h.sep O]at Y;have hy:K.R.held.headD 0=bk:=by
  unfold Rn.rem at y;cases hl:K.R.held with
  |nil=>exact absurd hl br
  |cons a l=>rw[hl]at y;simp at y;exact y.1.symm
 rw[hy]at Y;exact Y
theorem Mgg.done {c}(ho:Kse c){all H I idx f}(h:Mgg c all H I idx 0 f):H=Ksi c all:=by
 refine h.mrg.done ho fun r hr=>?_;unfold Kry at hr;obtain⟨i,hi,rfl⟩:=Of0.1 hr;obtain⟨m,y⟩:=h.mg.ex i hi;rw[y];simp only[Option.map_some,Option.getD_some];by_cases e:m.R.rem=[]
 ·exact e
 obtain⟨_,j,K,_⟩:=h.cov i m hi y e;exact absurd K (Oe0 _)
theorem Arr.lt {n f g}(h:Arr 0 n f g):∃ p q:Nat->Nat,(∀ k,q (p k)=k)/\(∀ k,p (q k)=k)/\(∀ k,k<n->p k<n)/\(∀ k,k<n->q k<n)/\∀ k,g k=f (p k):=by
 obtain⟨p,q,H,I,K,O⟩:=h;have hp:∀ k,k<n->p k<n:=fun k U=>by
  rcases Oc1 (p k) n with e|e
  ·exact e
  have y:=K (p k) (.inr e);have M:=congrArg q y;rw[H,H]at M;omega
 refine⟨p,q,H,I,hp,fun k U=>?_,O⟩;rcases Oc1 (q k) n with e|e
 ·exact e
 have y:=K (q k) (.inr e);rw[I]at y;omega
theorem Std.arr {K idx n f M}(h:Std K idx n f)(H:Arr 0 n f M):Std K idx n M:=by
 obtain⟨p,q,O,U,hp,hq,y⟩:=H.lt;refine⟨h.mg,h.sep,fun j I=>by rw[y];exact h.at_ _ (hp j I),fun i m hi Y hr=>?_,fun a b H hb e=>?_⟩
 ·obtain⟨hh,j,I,e⟩:=h.cov i m hi Y hr;exact⟨hh,q j,hq j I,by rw[y,U];exact e⟩
 rw[y,y]at e;have:=congrArg q (h.inj _ _ (hp a H) (hp b hb) e);rw[O,O]at this;exact this
theorem Ktm.apart {I idx}(h:Ktm I idx){i j y H}(hi:i∈idx)(O:j∈idx)(K:I[i]?=some y)(M:I[j]?=some H)(Y:i≠j){a}(U:a∈y.R.rem)(hb:a∈H.R.rem):False:=by
 have hp:=h.pd i j y H hi O K M Y;rcases Nat.lt_or_gt_of_ne hp with e|e
 ·exact absurd (h.pl i j y H hi O K M e a U a hb) (Oe3 _)
 exact absurd (h.pl j i H y O hi M K e a hb a U) (Oe3 _)
theorem Std.keys {y idx n f}(h:Std y idx n f):Inj n (fun j=>Ksd y (f j)):=fun a b M hb e=>by
 obtain⟨i,m,hi,I,er,hh⟩:=h.at_ a M;obtain⟨Z,m2,Y,H,K,U⟩:=h.at_ b hb;have e:Ksd y (f a)=Ksd y (f b):=e;rw[<-er,<-K,Ksg h.sep I,Ksg h.sep H]at e;by_cases O:i=Z
 ·subst O;rw[I]at H;cases H
  exact h.inj a b M hb (er.symm.trans K)
 exact(h.mg.apart hi Y I H O (Kuo hh).2 (e▸(Kuo U).2)).elim
theorem Kul {y:List Mr}{i:Nat}{m I:Mr}(hs:∀ (i j:Nat) M H,y[i]?=some M->y[j]?=some H->i≠j->M.rb≠H.rb)(hi:y[i]?=some m)(bj:I.rb=m.rb):∀ (k j:Nat) mk H,(y.set i I)[k]?=some mk->(y.set i I)[j]?=some H->k≠j->mk.rb≠H.rb:=by
 have old:∀ (k:Nat) (mk:Mr),(y.set i I)[k]?=some mk->∃ O,y[k]?=some O/\mk.rb=O.rb:=fun k mk K=>by
  rcases getElem?_set_cases K with⟨e,rfl⟩|⟨_,K⟩
  ·exact⟨m,e▸hi,bj⟩
  exact⟨mk,K,rfl⟩
 intro k j mk H Z bf bi;obtain⟨a,bh,U⟩:=old k mk Z;obtain⟨b,hb,Y⟩:=old j H bf;rw[U,Y];exact hs k j a b bh hb bi
section
variable {K:SC} {w w':World} {F:Nat->Prop} {E E':DS} {Ms:List Mr} {mv:Value} {bl:Int} {idx:List Nat} {n i:Nat} {f:Nat->Nat} {m m':Mr}
theorem Std.next_yes (h:Std Ms idx n f)(y:Kst K w F E Ms mv bl i m m' true E' w')(hi:Ms[i]?=some m)(U:i∈idx)(bf:1<=n)(h0:m.rb=f 0):Std (Ms.set i m') idx n f:=by
 have bh:(Ms.set i m')[i]?=some m':=Oh0 (Ob9.1 hi).1;refine⟨h.mg.next y hi,Kul h.sep hi y.rb,fun j Y=>?_,fun k mk Z I hr=>?_,h.inj⟩
 ·obtain⟨M,m2,O,H,er,hh⟩:=h.at_ j Y;by_cases e:i=M
  ·subst e;rw[hi]at H;cases H
   exact⟨i,m',U,bh,y.rb.trans er,y.yes rfl⟩
  exact⟨M,m2,O,by rw[Od1 e];exact H,er,hh⟩
 rcases getElem?_set_cases I with⟨_,rfl⟩|⟨_,I⟩
 ·exact⟨y.yes rfl,0,bf,(y.rb.trans h0).symm⟩
 exact h.cov k mk Z I hr
theorem Std.next_no (h:Std Ms idx (n+1) f)(U:Kst K w F E Ms mv bl i m m' false E' w')(hi:Ms[i]?=some m)(h0:m.rb=f 0):Std (Ms.set i m') idx n (fun j=>if j=0 then f n else f j):=by
 have oth:∀ j,j<n+1->j≠0->Kvd (Ms.set i m') idx (f j):=fun j H y=>by
  obtain⟨Y,m2,bh,O,er,hh⟩:=h.at_ j H;by_cases e:i=Y
  ·subst e;rw[hi]at O;cases O
   exact absurd (h.inj j 0 H zo (er.symm.trans h0)) y
  exact⟨Y,m2,bh,by rw[Od1 e];exact O,er,hh⟩
 refine⟨h.mg.next U hi,Kul h.sep hi U.rb,fun j H=>?_,fun k mk bj I hr=>?_,fun a b br hb e=>?_⟩
 ·show Kvd _ _ (if j=0 then f n else f j);split
  ·exact oth n zo zo
  rename_i y
  exact oth j zo y
 ·rcases getElem?_set_cases I with⟨_,rfl⟩|⟨bk,I⟩
  ·exact absurd (U.no rfl) hr
  obtain⟨hh,j,H,e⟩:=h.cov k mk bj I hr;have y:j≠0:=fun bf=>by
   subst bf;exact h.sep i k m mk hi I (fun Z=>bk Z.symm) (h0.trans e)
  refine⟨hh,?_⟩;by_cases bi:j=n
  ·exact⟨0,zo,by rw[if_pos rfl,<-bi];exact e⟩
  exact⟨j,zo,by rw[if_neg y];exact e⟩
 have e:(if a=0 then f n else f a)=(if b=0 then f n else f b):=e;by_cases M:a=0
 ·by_cases eb:b=0
  ·omega
  rw[if_pos M,if_neg eb]at e;have:=h.inj n b zo zo e;omega
 by_cases eb:b=0
 ·rw[if_neg M,if_pos eb]at e;have:=h.inj a n zo zo e;omega
 rw[if_neg M,if_neg eb]at e;exact h.inj a b zo zo e
theorem Std.key_far (h:Std Ms idx n f)(I:m'.rb=m.rb)(hi:Ms[i]?=some m)(h0:m.rb=f 0){j}(U:0<j)(H:j<n):Ksd (Ms.set i m') (f j)=Ksd Ms (f j):=by
 obtain⟨M,m2,O,y,er,hh⟩:=h.at_ j H;have K:i≠M:=fun e=>by
  subst e;rw[hi]at y;cases y
  have:=h.inj j 0 H zo (er.symm.trans h0);omega
 rw[<-er,Ksg h.sep y,Ksg (Kul h.sep hi I) (by rw[Od1 K];exact y)]
end
theorem Ktm.sub {K idx M}(h:Ktm K idx)(hs:M.Sublist idx):Ktm K M:=
 ⟨h.nd.sublist hs,fun i hi=>h.ex i (hs.subset hi),fun i j H I hi y=>h.pl i j H I (hs.subset hi) (hs.subset y),fun i j H I hi y=>h.pd i j H I (hs.subset hi) (hs.subset y)⟩
theorem Kst.stands {K w w' F E I M mv bl i m H b}(y:Kst K w F E M mv bl i m H b I w')(hh:m.R.held=[])(hr:m.R.rem≠[]):H.R.held≠[]:=by
 cases b with
 |true=>exact y.yes rfl
 |false=>exact absurd ((y.whole hh).symm.trans (y.no rfl)) hr
section
variable {K:SC} {w w':World} {F:Nat->Prop} {E E':DS} {Ms:List Mr} {mv:Value} {bl:Int} {idx:List Nat} {k i:Nat} {f:Nat->Nat} {m m':Mr} {b:Bool}
theorem Kzq (K:idx.Nodup)(y:idx[k]?=some i):i∉idx.take k:=fun hi=>by
 obtain⟨j,H,e⟩:=Od5 hi;have M:j<k:=by rw[Oc7]at H;omega
 have I:=(Ob9.1 y).1;rw[List.getElem_take]at e;have:=(List.getElem?_inj I K).1 (show idx[k]?=idx[j]? by rw[y,Oa3 zo,e]);omega
theorem Std.oth (h:Std Ms (idx.take k) k f)(O:idx.Nodup)(I:idx[k]?=some i){j}(K:j<k):∃ y m2,y∈idx.take k/\i≠y/\Ms[y]?=some m2/\m2.rb=f j/\m2.R.held≠[]:=by
 obtain⟨y,m2,H,M,er,hh⟩:=h.at_ j K;exact⟨y,m2,H,fun e=>Kzq O I (e▸H),M,er,hh⟩
theorem Std.push (h:Std Ms (idx.take k) k f)(hM:Ktm Ms idx)(y:Kst K w F E Ms mv bl i m m' b E' w')(H:idx[k]?=some i)(hi:Ms[i]?=some m)(hh:m.R.held=[])(hr:m.R.rem≠[]):Std (Ms.set i m') (idx.take (k+1)) (k+1) (fun j=>if j=k then m.rb else f j):=by
 have bA:(Ms.set i m')[i]?=some m':=Oh0 (Ob9.1 hi).1;have bG:=(Ob9.1 H).1;have bk:i∈idx.take (k+1):=Of6 (i:=k) (by rw[Oh3 zo];exact H);have br:∀ x,x∈idx.take k->x∈idx.take (k+1):=fun x bB=>by rw[Oi7];exact List.mem_append_left _ bB
 refine⟨(hM.next y hi).sub (List.take_sublist _ _),Kul h.sep hi y.rb,fun j Y=>?_,fun q bC hq bf bz=>?_,fun a c bD bE e=>?_⟩
 ·show Kvd _ _ (if j=k then m.rb else f j);split
  ·exact⟨i,m',bk,bA,y.rb,y.stands hh hr⟩
  obtain⟨O,m2,bj,I,Z,er,bh⟩:=h.oth hM.nd H (j:=j) zo;exact⟨O,m2,br O bj,by rw[Od1 I];exact Z,er,bh⟩
 ·rcases getElem?_set_cases bf with⟨_,rfl⟩|⟨I,bf⟩
  ·exact⟨y.stands hh hr,k,zo,by rw[if_pos rfl];exact y.rb.symm⟩
  have bx:q∈idx.take k:=by
   rw[Oi7,H]at hq;rcases Od2.1 hq with hq|hq
   ·exact hq
   ·simp at hq;exact absurd hq I
  obtain⟨bi,j,Y,e⟩:=h.cov q bC bx bf bz;exact⟨bi,j,zo,by rw[if_neg zo];exact e⟩
 have far:∀ j,j<k->m.rb≠f j:=fun j Y e=>by
  obtain⟨O,m2,_,I,Z,er,_⟩:=h.oth hM.nd H Y;exact h.sep i O m m2 hi Z I (e.trans er.symm)
 have e:(if a=k then m.rb else f a)=(if c=k then m.rb else f c):=e;by_cases U:a=k
 ·by_cases M:c=k
  ·omega
  rw[if_pos U,if_neg M]at e;exact absurd e (far c zo)
 by_cases M:c=k
 ·rw[if_neg U,if_pos M]at e;exact absurd e.symm (far a zo)
 rw[if_neg U,if_neg M]at e;exact h.inj a c zo zo e
theorem Std.key_old (h:Std Ms (idx.take k) k f)(K:idx.Nodup)(O:m'.rb=m.rb)(H:idx[k]?=some i)(hi:Ms[i]?=some m){j}(I:j<k):Ksd (Ms.set i m') (f j)=Ksd Ms (f j):=by
 obtain⟨U,m2,_,M,y,er,_⟩:=h.oth K H I;rw[<-er,Ksg h.sep y,Ksg (Kul h.sep hi O) (by rw[Od1 M];exact y)]
end
theorem Std.nil {y idx f}(hM:Ktm y idx)(hs:∀ (i j:Nat) H I,y[i]?=some H->y[j]?=some I->i≠j->H.rb≠I.rb):Std y (idx.take 0) 0 f:=
 ⟨hM.sub (List.take_sublist _ _),hs,fun j M=>absurd M (Oe0 _),fun i m hi=>by simp at hi,fun a _ K=>absurd K (Oe0 _)⟩
section
variable {Ms Ms':List Mr} {idx:List Nat}
theorem Ktm.same (h:Ktm Ms idx)(hs:∀ i∈idx,Ms'[i]?=Ms[i]?):Ktm Ms' idx:=
 ⟨h.nd,fun i hi=>by rw[hs i hi];exact h.ex i hi,fun i j K M hi y H I=>h.pl i j K M hi y (by rw[<-hs i hi];exact H) (by rw[<-hs j y];exact I),fun i j K M hi y H I=>h.pd i j K M hi y (by rw[<-hs i hi];exact H) (by rw[<-hs j y];exact I)⟩
theorem Ku1 (hs:∀ i∈idx,Ms'[i]?=Ms[i]?):Kry Ms' idx=Kry Ms idx:=by
 unfold Kry;exact Oj9 fun i hi=>by rw[hs i hi]
theorem Kvk (hs:∀ i∈idx,Ms'[i]?=Ms[i]?)(K:∀ (i j:Nat) y H,Ms[i]?=some y->Ms[j]?=some H->i≠j->y.rb≠H.rb)(M:∀ (i j:Nat) y H,Ms'[i]?=some y->Ms'[j]?=some H->i≠j->y.rb≠H.rb){r}(hr:Kvd Ms idx r):Ksd Ms' r=Ksd Ms r:=by
 obtain⟨i,m,hi,I,rfl,_⟩:=hr;rw[Ksg K I,Ksg M (by rw[hs i hi];exact I)]
theorem Std.same {n f}(h:Std Ms idx n f)(hs:∀ i∈idx,Ms'[i]?=Ms[i]?)(K:∀ (i j:Nat) H I,Ms'[i]?=some H->Ms'[j]?=some I->i≠j->H.rb≠I.rb):Std Ms' idx n f:=
 ⟨h.mg.same hs,K,fun j M=>by
  obtain⟨i,m,hi,y,e⟩:=h.at_ j M;exact⟨i,m,hi,by rw[hs i hi];exact y,e⟩,fun i m hi y=>h.cov i m hi (by rw[<-hs i hi];exact y),h.inj⟩
theorem Mgg.same {c all M n f}(h:Mgg c all M Ms idx n f)(hs:∀ i∈idx,Ms'[i]?=Ms[i]?)(y:∀ (i j:Nat) I K,Ms'[i]?=some I->Ms'[j]?=some K->i≠j->I.rb≠K.rb):Mgg c all M Ms' idx n f:=
 ⟨h.toStd.same hs y,by rw[Ku1 hs];exact h.mrg,fun j h0 H=>by
  show Lt c (Ksd Ms' (f ((j-1) / 2))) (Ksd Ms' (f j));rw[Kvk hs h.sep y (h.at_ j H),Kvk hs h.sep y (h.at_ _ zo)];exact h.hp j h0 H⟩
end
theorem Mgg.start {c all y idx f}(h:Std y (idx.take idx.length) idx.length f)(hp:Hp c idx.length (fun j=>Ksd y (f j)))(H:(Kry y idx).flatten.Perm all)(hr:∀ r∈Kry y idx,r.Pairwise (Lt c)):Mgg c all [] y idx idx.length f:=by
 rw[Of2]at h;exact⟨h,Mrg.start H hr,hp⟩
section
variable {c:Nat->Nat->Int} {K:SC} {w w':World} {F:Nat->Prop} {E E':DS} {Ms:List Mr} {mv:Value} {bl:Int} {idx all taken:List Nat} {n k i:Nat} {f f':Nat->Nat} {m m':Mr}
theorem Mgg.yes (h:Mgg c all taken Ms idx n f)(M:1<=n)(y:idx[k]?=some i)(hi:Ms[i]?=some m)(h0:m.rb=f 0)(hh:m.R.held≠[])(H:Kst K w F E Ms mv bl i m m' true E' w')(ht:∀ r,m.R.rem=m.R.held.headD 0::r->Mrg c all (taken++[m.R.held.headD 0]) ((Kry Ms idx).set k r))(I:Arr 0 n f f')(hp:Hp c n (fun j=>Ksd (Ms.set i m') (f' j))):Mgg c all (taken++[m.R.held.headD 0]) (Ms.set i m') idx n f':=
 ⟨(h.toStd.next_yes H hi (Of6 y) M h0).arr I,by rw[Kto h.mg.nd y hi];exact ht _ (H.tail hh),hp⟩
theorem Mgg.no (h:Mgg c all taken Ms idx (n+1) f)(I:idx[k]?=some i)(hi:Ms[i]?=some m)(h0:m.rb=f 0)(hh:m.R.held≠[])(y:Kst K w F E Ms mv bl i m m' false E' w')(ht:∀ r,m.R.rem=m.R.held.headD 0::r->Mrg c all (taken++[m.R.held.headD 0]) ((Kry Ms idx).set k r))(H:Arr 0 n (fun j=>if j=0 then f n else f j) f')(hp:Hp c n (fun j=>Ksd (Ms.set i m') (f' j))):Mgg c all (taken++[m.R.held.headD 0]) (Ms.set i m') idx n f':=
 ⟨(h.toStd.next_no y hi h0).arr H,by rw[Kto h.mg.nd I hi];exact ht _ (y.tail hh),hp⟩
end
end
section
open Go.RowKit Go.Shelf Tryz
abbrev TkQ:=List Nat->(Nat->Prop)->World->(Nat->Prop)->DS->List Mr->Prop
structure Kyo (K:SC) (mv:Value) (bl:Int) (idx:List Nat) (T:Nat->Prop) (W:World) (F:Nat->Prop) (Ms:List Mr) (T':Nat->Prop) (W':World) (F':Nat->Prop) (E':DS) (Ms':List Mr):Prop where
 keep:Ju (fun k=>F k\/T k) W W'
 si:SI K W' F' E' Ms' mv bl
 ffr:∀ k,F' k->F k\/W.heap.size<=k
 tfr:∀ k,T' k->T k\/W.heap.size<=k
 same:∀ i∈idx,Ms'[i]?=Ms[i]?
 rbs:Ms'.map (·.rb)=Ms.map (·.rb)
 new:∀ (i:Nat) m',Ms'[i]?=some m'->∃ m,Ms[i]?=some m/\∀ k,m'.N k->m.N k\/W.heap.size<=k
structure Qb7 (K:SC) (mv:Value) (bl:Int) (idx:List Nat) (fn tot lim:Nat) (caps:Array Value) (Q:TkQ):Prop where
 si:∀ {t T W F E Ms},Q t T W F E Ms->SI K W F E Ms mv bl
 lt:∀ {t T W F E Ms},Q t T W F E Ms->∀ k,T k->k<W.heap.size
 off:∀ {t T W F E Ms},Q t T W F E Ms->¬ T K.sb/\(∀ g,mv.ownBlock=some g->¬ T g)/\(∀ k,F k->¬ T k)/\∀ i m,i∈idx->Ms[i]?=some m->¬ T m.rb/\∀ k,m.N k->¬ T k
 next:∀ {t T W F E Ms i m m' b E' W'},Q t T W F E Ms->i∈idx->Ms[i]?=some m->Kst K W F E Ms mv bl i m m' b E' W'->Q t T W' F E' (Ms.set i m')
 keep:∀ {t T W F E Ms G W'},Q t T W F E Ms->Ju G W W'->(∀ k,G k->K.w0.heap.size<=k)->¬ G K.sb->(∀ g,mv.ownBlock=some g->¬ G g)->(∀ k,F k->¬ G k)->(∀ m∈Ms,¬ G m.rb/\∀ k,m.N k->¬ G k)->(∀ k,T k->¬ G k)->Q t T W' F E Ms
 take:∀ {t T W F E Ms x cb cp hs},Q t T W F E Ms->t.length<tot->x<nR K.cs->Qd W cb hs (Jba [x] K.cs)->Jbo cb hs K.cs.length (fun b=>b<W.heap.size/\¬ (F b\/T b)) ->
  Cq fn (#[Sq cb K.cs.length cp]++caps) W fun e W'=>∃ T' F' E' Ms',Kyo K mv bl idx T W F Ms T' W' F' E' Ms' /\
   ((e=.returned .nilIface/\Q (t++[x]) T' W' F' E' Ms')\/∃ y b,e=.returned (Ip 149 b)/\Yu W' (Ip 149 b) (if y=true then K.q else K.qw) none (some (-1))/\W.heap.size<=b/\¬ F' b/\Ksy K.D0 y/\dz E'<=lim)
theorem Kve {y:List Mr}{i:Nat}{m H:Mr}(hi:y[i]?=some m)(I:H.rb=m.rb):(y.set i H).map (·.rb)=y.map (·.rb):=by
 refine Oi8 fun k=>?_;rw[Ob1,Ob1];by_cases e:i=k
 ·subst e;rw[Oh0 (Ob9.1 hi).1,hi];simp[I]
 rw[Od1 e]
end
open Go.RowKit Go.Shelf
theorem Kxo:∀ (bs:List Bk),(∀ b∈bs,1<=b.ids.length)->bs.length<=(bs.flatMap (·.ids)).length
 |[],_=>Oa2 _
 |b::bs,h=>by
  have H:=Kxo bs fun x y=>h x (Og1 _ y);have I:=h b Of4;rw[Og7,Oa8,List.length_cons];omega
structure Bx (K:SC) (W:World) (F:Nat->Prop) (Ms:List Mr) (mv:Value) (b:Nat) (v:Value):Prop where
 cell:W.cell? (Aq b)=some v
 sb:b≠K.sb
 mv:mv.ownBlock≠some b
 nf:¬ F b
 ms:∀ m∈Ms,m.rb≠b/\¬ m.N b
def NrT (b1 b2:Nat)(m:Mr):Nat->Prop:=fun k=>k=b1\/k=b2\/k=m.rb\/m.ab=some k
structure NrI (K:SC) (mv:Value) (z j rb0 b1 b2 pb tot lim:Nat) (idx:List Nat) (Ms0:List Mr) (p0:Nat) (t:List Nat) (T:Nat->Prop) (W:World) (F:Nat->Prop) (E:DS) (Ms:List Mr) (m:Mr):Prop where
 sw:SW K W F E Ms mv (z:Int) j m
 rb:m.rb=rb0
 pl:m.R.place=p0
 ids:m.R.bs.flatMap (·.ids)=t
 own:T=NrT b1 b2 m
 x1:Bx K W F Ms mv b1 (Pq K.sb)
 x2:Bx K W F Ms mv b2 (Pq rb0)
 pgs:dz E+pb*(tot-t.length)<=lim
 oth:∀ i,i∉idx->i≠j->Ms[i]?=Ms0[i]?
def NrQ (y:SC)(mv:Value)(z j O b1 b2 M U lim:Nat)(idx:List Nat)(I:List Mr)(K:Nat):TkQ:=fun t T W F E H=>∃ m,NrI y mv z j O b1 b2 M U lim idx I K t T W F E H m
theorem Ktr {y:List Mr}{i:Nat}{m I x:Mr}(hi:y[i]?=some m)(U:I.rb=m.rb){S:Nat}(M:∀ k,I.N k->m.N k\/S<=k)(H:x∈y.set i I):∃ K∈y,x.rb=K.rb/\∀ k,x.N k->K.N k\/S<=k:=by
 rcases List.mem_or_eq_of_mem_set H with H|rfl
 ·exact⟨x,H,rfl,fun k O=>.inl O⟩
 exact⟨m,Of6 hi,U,M⟩
theorem Bx.turn {I W O F H G K M mv v b}(h:Bx I W F K mv b v)(bf:Ju G W O)(U:¬ G b)(hF:∀ k,H k->F k\/W.heap.size<=k)(hM:∀ x∈M,∃ y∈K,x.rb=y.rb/\∀ k,x.N k->y.N k\/W.heap.size<=k):Bx I O H M mv b v:=by
 have hl:b<W.heap.size:=Jb0 h.cell;refine⟨(Oc3 (bf.block b hl U)).trans h.cell,h.sb,h.mv,fun Z=>(hF b Z).elim h.nf fun e=>zo,fun x bi=>?_⟩;obtain⟨y,hy,e,Y⟩:=hM x bi;exact⟨by rw[e];exact(h.ms y hy).1,fun bh=>(Y b bh).elim (h.ms y hy).2 fun e=>zo⟩
theorem NrQ.ok U(hK:SK U)mv(z j cA b1 b2 K Z lim:Nat)(cE:lim<=930000)idx bS(cz:Nat)(bQ:1<=z)(cx:z<=64)(bf:j∉idx)(htot:Z<=100000)(cn:∀ x,x<nR U.cs->(Qu (Kr4 U.ts (Jba [x] U.cs) U.ts.length)).length<=K):Qb7 U mv (z:Int) idx 250 Z lim #[Pq b1,Pq b2] (NrQ U mv z j cA b1 b2 K Z lim idx bS cz):=by
 refine⟨fun ⟨m,h⟩=>h.sw.si,fun ⟨m,h⟩ k y=>?_,fun ⟨m,h⟩=>?_,fun ⟨cy,h⟩ hi Y H=>?_,fun ⟨m,h⟩ y g1 g2 bU bV bW bJ=>?_,fun {t T W F E bB x bT cp hs} ⟨m,h⟩ ht I hC bL=>?_⟩
 ·rw[h.own]at y;rcases y with rfl|rfl|rfl|y
  ·exact Jb0 h.x1.cell
  ·exact Jb0 h.x2.cell
  ·exact Jd (h.sw.si.runs m (Of6 h.sw.at_)).1.cells
  exact(h.sw.abN y).2
 ·have Y:=h.sw.si.runs m (Of6 h.sw.at_);have ho:=h.sw.si.off m (Of6 h.sw.at_);rw[h.own];refine⟨?_,fun g bz=>?_,fun k bx=>?_,fun i O hi M=>⟨?_,fun k H=>?_⟩⟩
  ·rintro(e|e|e|e)
   ·exact h.x1.sb e.symm
   ·exact h.x2.sb e.symm
   ·exact ho.sb e.symm
   exact ho.nsb (h.sw.abN e).1
  ·rintro(e|e|e|e)
   ·exact h.x1.mv (e▸bz)
   ·exact h.x2.mv (e▸bz)
   ·exact ho.made (e▸bz)
   exact ho.nmade g bz (h.sw.abN e).1
  ·rintro(e|e|e|e)
   ·exact h.x1.nf (e▸bx)
   ·exact h.x2.nf (e▸bx)
   ·exact Y.2.1 (e▸bx)
   exact Y.2.2 k (h.sw.abN e).1 bx
  ·have bj:j≠i:=fun e=>bf (e▸hi);have bi:=Of6 M;rintro(e|e|e|e)
   ·exact(h.x1.ms O bi).1 e
   ·exact(h.x2.ms O bi).1 e
   ·exact(h.sw.si.sep j i m O h.sw.at_ M bj).1 e.symm
   exact(h.sw.si.sep j i m O h.sw.at_ M bj).2 (h.sw.abN e).1
  have bj:j≠i:=fun e=>bf (e▸hi);have bi:=Of6 M;rintro(e|e|e|e)
  ·exact(h.x1.ms O bi).2 (e▸H)
  ·exact(h.x2.ms O bi).2 (e▸H)
  ·exact(h.sw.si.sep i j O m M h.sw.at_ fun bC=>bj bC.symm).2 (e▸H)
  exact h.sw.arr k e i O M (fun bC=>bj bC.symm) H
 ·have bh:=Of6 Y;exact⟨cy,h.sw.next H Y (fun e=>bf (e▸hi)),h.rb,h.pl,h.ids,h.own,h.x1.turn H.keep (fun e=>e.elim h.x1.nf fun e=>(h.x1.ms _ bh).1 e.symm) (fun k y=>.inl y) (fun x I=>Ktr Y H.rb H.new I),h.x2.turn H.keep (fun e=>e.elim h.x2.nf fun e=>(h.x2.ms _ bh).1 e.symm) (fun k y=>.inl y) (fun x I=>Ktr Y H.rb H.new I),by rw[H.pgs];exact h.pgs,fun a bk br=>(Od1 (fun e=>bk (by rw[<-e];exact hi))).trans (h.oth a bk br)⟩
 ·exact⟨m,h.sw.keep y g1 g2 bU bV bW,h.rb,h.pl,h.ids,h.own,h.x1.turn y (bJ b1 (by rw[h.own];exact .inl rfl)) (fun k y=>.inl y) (fun x I=>⟨x,I,rfl,fun k y=>.inl y⟩),h.x2.turn y (bJ b2 (by rw[h.own];exact .inr (.inl rfl))) (fun k y=>.inl y) (fun x I=>⟨x,I,rfl,fun k y=>.inl y⟩),h.pgs,h.oth⟩
 have bh:=Of6 h.sw.at_;have cc:ckN 1 z<=1:=Kg4 _ _ bQ;have cF:K*ckN 1 z<=K:=Ob2 (Nat.mul_le_mul_left K cc) (Nat.le_of_eq (Nat.mul_one _));have cH:K*(Z-t.length)=K*(Z-(t.length+1))+K:=by
  rw[show Z-t.length=(Z-(t.length+1))+1 by omega,Nat.mul_add,Nat.mul_one]
 have cG:=h.pgs;have bY:m.R.bs.length<=100000:=by
  have:=Kxo m.R.bs fun b hb=>(h.sw.si.blks m bh b hb).2.1.1;rw[h.ids]at this;omega
 have mono:∀ b,(b<W.heap.size/\¬ (F b\/T b))->b<W.heap.size/\¬ (F b\/b=m.rb\/m.ab=some b):=fun b hb=>⟨hb.1,fun e=>hb.2 (e.imp id fun e=>by rw[h.own];exact .inr (.inr e))⟩;have ca:=Kv3 U hK W F E bB mv z j m bT cp hs [x] h.sw bQ cx hC ⟨mono _ bL.1,fun j bf b o e=>mono b (bL.2 j bf b o e)⟩ (fun t ht=>by rw[Oc6.1 ht];exact I) (Oa2 _) zS bY K (fun ch bZ cD _ bK=>by
  obtain⟨a,rfl⟩:∃ a,ch=[a]:=List.length_eq_one_iff.1 (by have bK:ch.length<=1:=bK;omega);exact cn a (bZ a (Oc6.2 rfl))) (by show dz E+K*ckN 1 z<=930000;omega) b1 b2 h.x1.cell (by rw[h.rb];exact h.x2.cell)
 refine Calls.mono ca fun e cC hp=>?_;obtain⟨bG,bR,bI,bH,bP,bA,cu,bE,bN,bX,bO,cf⟩:=hp;have bO:dz bI<=dz E+K*ckN 1 z:=bO;have bM:=fun x I=>Ktr (S:=W.heap.size) (x:=x) h.sw.at_ bA bN I;have nb:∀ b v,Bx U W F bB mv b v->¬ (F b\/b=m.rb\/m.ab=some b):=fun b v hb e=>by
  rcases e with e|e|e
  ·exact hb.nf e
  ·exact(hb.ms m bh).1 e.symm
  exact(hb.ms m bh).2 (h.sw.abN e).1
 refine⟨NrT b1 b2 bH,bR,bI,bB.set j bH,⟨bG.mono fun k _ y=>y.imp id fun e=>by rw[h.own];exact .inr (.inr e),bP.si,bE,fun k y=>?_,fun i hi=>Od1 (fun e:j=i=>bf (e▸hi)),Kve h.sw.at_ bA,fun i O M=>?_⟩,?_⟩
 ·rw[h.own];rcases y with e|e|e|e
  ·exact .inl (.inl e)
  ·exact .inl (.inr (.inl e))
  ·exact .inl (.inr (.inr (.inl (e.trans bA))))
  exact(bX k e).imp (fun e=>.inr (.inr (.inr e))) id
 ·rcases getElem?_set_cases M with⟨e,rfl⟩|⟨_,M⟩
  ·exact⟨m,e▸h.sw.at_,bN⟩
  exact⟨O,M,fun k y=>.inl y⟩
 rcases cf with⟨bD,ci⟩|⟨cB,b,bD,cb,hb,cj,_,cv⟩
 ·exact .inl ⟨bD,bH,bP,bA.trans h.rb,cu.trans h.pl,by rw[ci,h.ids],rfl,h.x1.turn bG (nb _ _ h.x1) bE bM,h.x2.turn bG (nb _ _ h.x2) bE bM,by rw[Oa8,List.length_singleton];omega,fun a bk br=>(Od1 (fun e=>br e.symm)).trans (h.oth a bk br)⟩
 exact .inr ⟨cB,b,bD,cb,hb,cj,cv,zo⟩
structure NoS (K:SC) (W:World) (F:Nat->Prop) (Ms:List Mr) (mv:Value) (b:Nat):Prop where
 lt:b<W.heap.size
 lo:K.w0.heap.size<=b
 sb:b≠K.sb
 mv:mv.ownBlock≠some b
 nf:¬ F b
 ms:∀ m∈Ms,m.rb≠b/\¬ m.N b
theorem NoS.turn {H W M F I K mv b}(h:NoS H W F I mv b)(hs:W.heap.size<=M.heap.size)(hM:∀ x∈K,∃ y∈I,x.rb=y.rb/\∀ k,x.N k->y.N k\/W.heap.size<=k):NoS H M F K mv b:=by
 have hl:=h.lt;refine⟨Oc2 hl hs,h.lo,h.sb,h.mv,h.nf,fun x Y=>?_⟩;obtain⟨y,hy,e,O⟩:=hM x Y;exact⟨by rw[e];exact(h.ms y hy).1,fun U=>(O b U).elim (h.ms y hy).2 fun e=>zo⟩
theorem SI.noS {y W I F E H mv bl}(h:SI y W F E H mv bl){b}(hb:W.heap.size<=b)(hl:b<I.heap.size):NoS y I F H mv b:=by
 have M:=Jd h.st;refine⟨hl,Ob2 h.old.size hb,zo,fun e=>?_,fun e=>?_,fun m K=>⟨fun e=>?_,fun e=>?_⟩⟩
 ·have:=Qk h.own e;omega
 ·have:=h.flt b e;omega
 ·have:=Jd (h.runs m K).1.cells;omega
 have:=(h.runs m K).1.lt b e;omega
def SrT (n ob g:Nat)(y:List Value):Nat->Prop:=fun k=>k=ob\/k=g\/∃ j,j<n/\(Uq y j).ownBlock=some k
structure SrI (K:SC) (mv:Value) (bl:Int) (ob g cap lim:Nat) (t:List Nat) (T:Nat->Prop) (W:World) (F:Nat->Prop) (E:DS) (Ms:List Mr) (svs:List Value):Prop where
 si:SI K W F E Ms mv bl
 col:Jar W K.w0.heap.size g svs (Jba t K.cs)
 box:W.cell? (Aq ob)=some (Sq g K.cs.length cap)
 own:T=SrT K.cs.length ob g svs
 no:∀ k,T k->NoS K W F Ms mv k
 ob:ob≠g/\∀ j,j<K.cs.length->(Uq svs j).ownBlock≠some ob
 pgs:dz E<=lim
def SrQ (y:SC)(mv:Value)(bl:Int)(ob g cap lim:Nat):TkQ:=fun t T W F E H=>∃ I,SrI y mv bl ob g cap lim t T W F E H I
theorem Jar.on {w w' B g y cs}(h:Jar w B g y cs)(H:∀ k,(k=g\/∃ j,j<cs.length/\(Uq y j).ownBlock=some k)->w'.heap[k]?=w.heap[k]?):Jar w' B g y cs:=
 ⟨h.row.of_block (H g (.inl rfl)),h.low,h.len,fun i hi=>Jl (h.own i hi) fun b hb=>H b (.inr ⟨i,hi,hb⟩),h.ne,h.apart⟩
theorem SrI.on {K mv bl ob g cap lim t T W y F E I O M Z}(h:SrI K mv bl ob g cap lim t T W F E O Z)(bi:dz I<=lim)(hs:SI K y F I M mv bl){G}(Y:Ju G W y)(bh:∀ k,T k->¬ G k)(hM:∀ x∈M,∃ bf∈O,x.rb=bf.rb/\∀ k,x.N k->bf.N k\/W.heap.size<=k):SrI K mv bl ob g cap lim t T y F I M Z:=by
 have same:∀ k,T k->y.heap[k]?=W.heap[k]?:=fun k H=>Y.block k (h.no k H).lt (bh k H);refine⟨hs,h.col.on fun k bj=>same k ?_,(Oc3 (same ob ?_)).trans h.box,h.own,fun k H=>(h.no k H).turn Y.size hM,h.ob,bi⟩
 ·rw[h.own];rcases bj with e|⟨j,U,e⟩
  ·exact .inr (.inl e)
  exact .inr (.inr ⟨j,by rw[Krw]at U;exact U,e⟩)
 rw[h.own];exact .inl rfl
theorem SrQ.ok U(hK:SK U)mv bl ob g cap bI lim idx(htot:bI<=100000):Qb7 U mv bl idx 173 bI lim #[Pq ob] (SrQ U mv bl ob g cap lim):=by
 refine⟨fun ⟨_,h⟩=>h.si,fun ⟨_,h⟩ k y=>(h.no k y).lt,fun ⟨_,h⟩=>⟨fun e=>(h.no _ e).sb rfl,fun g bA e=>(h.no _ e).mv bA,fun k bz e=>(h.no _ e).nf bz,fun i m _ O=>⟨fun e=>((h.no _ e).ms m (Of6 O)).1 rfl,fun k M e=>((h.no _ e).ms m (Of6 O)).2 M⟩⟩,fun ⟨Y,h⟩ _ O M=>⟨Y,h.on (by rw[M.pgs];exact h.pgs) M.si M.keep (fun k H e=>e.elim (h.no k H).nf fun e=>((h.no k H).ms _ (Of6 O)).1 e.symm) fun x Z=>Ktr O M.rb M.new Z⟩,fun ⟨Y,h⟩ y g1 g2 bM bN bO bP=>⟨Y,h.on h.pgs (h.si.keep y g1 g2 bM bN bO) y bP fun x Z=>⟨x,Z,rfl,fun k y=>.inl y⟩⟩,fun {t T W F E bi x bL cp hs} ⟨Y,h⟩ ht _ hC bf=>?_⟩;have H:∀ k,(k=g\/∃ j,j<U.cs.length/\(Uq Y j).ownBlock=some k)->T k:=fun k y=>by rw[h.own];exact .inr y
 have bR:=Kx3 U W U.w0.heap.size g cap Y t [x] bL cp ob hs h.box h.col hC hK.sg.good.few (by rw[List.length_singleton];omega) h.si.old.size (fun j b I e=>⟨fun K=>bf.1.2 (.inr (K▸H b (.inr ⟨j,I,e⟩))),fun k bj bD y bk K=>(bf.2 k y bj bD bk).2 (.inr (K▸H b (.inr ⟨j,I,e⟩)))⟩) ⟨fun K=>bf.1.2 (.inr (K▸H g (.inl rfl))),fun k bj bD y bk K=>(bf.2 k y bj bD bk).2 (.inr (K▸H g (.inl rfl)))⟩;refine Calls.mono bR fun e bK hp=>?_;obtain⟨bS,⟨bH,bE,bC⟩,bx,bh,bQ⟩:=hp;have bB:Ju (fun k=>k=g\/∃ j,j<U.cs.length/\(Uq Y j).ownBlock=some k) W bK:=⟨bx.os,bx.tape,bx.output,bh,fun k y M=>bQ k y (fun e=>M (.inl e)) fun j I e=>M (.inr ⟨j,I,e⟩)⟩;have bG:=h.si.keep bB (fun k y=>(h.no k (H k y)).lo) (fun e=>(h.no _ (H _ e)).sb rfl) (fun g bA e=>(h.no _ (H _ e)).mv bA) (fun k bz e=>(h.no _ (H _ e)).nf bz) (fun m O=>⟨fun e=>((h.no _ (H _ e)).ms m O).1 rfl,fun k M e=>((h.no _ (H _ e)).ms m O).2 M⟩);have br:T ob:=by rw[h.own];exact .inl rfl
 have bT:=(h.no ob br).lt;refine⟨SrT U.cs.length ob g bH,F,E,bi,⟨bB.mono fun k _ y=>.inr (H k y),bG,fun k y=>.inl y,fun k y=>?_,fun i _=>rfl,rfl,fun i m O=>⟨m,O,fun k y=>.inl y⟩⟩,.inl ⟨bS,bH,bG,bE,?_,rfl,fun k y=>?_,⟨h.ob.1,fun j I e=>?_⟩,h.pgs⟩⟩
 ·rcases y with e|e|⟨j,I,e⟩
  ·exact .inl (e▸br)
  ·exact .inl (H k (.inl e))
  exact(bC j k I e).imp (fun e=>H k (.inr ⟨j,I,e⟩)) id
 ·exact(Oc3 (bB.block ob bT fun e=>e.elim h.ob.1 fun ⟨j,I,e⟩=>h.ob.2 j I e)).trans h.box
 ·have same:=fun (x:Mr) (Z:x∈bi)=>(⟨x,Z,rfl,fun k y=>.inl y⟩:∃ bJ∈bi,x.rb=bJ.rb/\∀ k,x.N k->bJ.N k\/W.heap.size<=k);rcases y with e|e|⟨j,I,e⟩
  ·exact(h.no k (e▸br)).turn bh same
  ·exact(h.no k (H k (.inl e))).turn bh same
  rcases bC j k I e with K|K
  ·exact(h.no k (H k (.inr ⟨j,I,K⟩))).turn bh same
  exact h.si.noS K (Je (bE.own j (by rw[Krw];exact I)) e).2
 rcases bC j ob I e with K|K
 ·exact h.ob.2 j I K
 omega
def HpO (y:SC)(W:World)(F:Nat->Prop)(H:List Mr)(mv:Value)(T:Nat->Prop)(hb:Nat):Prop:=∀ k,HpF W hb k->NoS y W F H mv k/\¬ T k
theorem HpF.back {W y hb k}(e:y.heap[hb]?=W.heap[hb]?)(h:HpF y hb k):HpF W hb k:=by
 unfold HpF at h |-;rw[Oc3 e]at h;exact h
theorem HpP.on {W y hb sb n f}(h:HpP W hb sb n f)(hs:W.heap.size<=y.heap.size)(I:∀ k,HpF W hb k->y.heap[k]?=W.heap[k]?):HpP y hb sb n f:=by
 rcases h with⟨e,h⟩|⟨H,cap,h⟩
 ·exact .inl ⟨e,(I hb (.inl rfl)).trans h⟩
 exact .inr ⟨H,cap,h.on hs (I hb (.inl rfl)) (I H ((h.foot H).2 (.inr rfl)))⟩
section
variable {K:SC} {W W':World} {F F' T T':Nat->Prop} {E E':DS} {Ms Ms':List Mr} {mv:Value} {bl:Int} {idx:List Nat} {hb n i:Nat} {f:Nat->Nat} {m m':Mr} {b:Bool}
theorem HpO.next (h:HpO K W F Ms mv T hb)(hp:HpP W hb K.sb n f)(H:Kst K W F E Ms mv bl i m m' b E' W')(hi:Ms[i]?=some m):HpO K W' F (Ms.set i m') mv T hb/\HpP W' hb K.sb n f:=by
 have same:∀ k,HpF W hb k->W'.heap[k]?=W.heap[k]?:=fun k y=>H.keep.block k (h k y).1.lt fun e=>e.elim (h k y).1.nf fun e=>((h k y).1.ms m (Of6 hi)).1 e.symm;refine⟨fun k y=>?_,hp.on H.keep.size same⟩;have I:=HpF.back (same hb (.inl rfl)) y;exact⟨(h k I).1.turn H.keep.size fun x M=>Ktr hi H.rb H.new M,(h k I).2⟩
theorem HpO.took (h:HpO K W F Ms mv T hb)(hp:HpP W hb K.sb n f)(hl:Kyo K mv bl idx T W F Ms T' W' F' E' Ms'):HpO K W' F' Ms' mv T' hb/\HpP W' hb K.sb n f:=by
 have same:∀ k,HpF W hb k->W'.heap[k]?=W.heap[k]?:=fun k H=>hl.keep.block k (h k H).1.lt fun e=>e.elim (h k H).1.nf (h k H).2;refine⟨fun k H=>?_,hp.on hl.keep.size same⟩;have O:=HpF.back (same hb (.inl rfl)) H;have y:=(h k O).1;have Y:=y.lt;refine⟨⟨Oc2 Y hl.keep.size,y.lo,y.sb,y.mv,fun e=>(hl.ffr k e).elim y.nf fun e=>zo,fun x bh=>?_⟩,fun e=>(hl.tfr k e).elim (h k O).2 fun e=>zo⟩;obtain⟨q,hq,e⟩:=Od5 bh;obtain⟨I,hy,U⟩:=hl.new q x (by rw[Oa3 hq,e]);have bf:x.rb=I.rb:=by
  have M:=congrArg (fun l=>l[q]?) hl.rbs;simp only[Ob1,Oa3 hq,e,hy,Option.map_some]at M;exact Oj6 M
 exact⟨by rw[bf];exact(y.ms I (Of6 hy)).1,fun Z=>(U k Z).elim (y.ms I (Of6 hy)).2 fun e=>zo⟩
theorem HpO.turn (h:HpO K W F Ms mv T hb)(hs:SI K W F E Ms mv bl)(ht:∀ k,T k->k<W.heap.size)(y:Ju (HpF W hb) W W')(O:∀ k,HpF W' hb k->k<W'.heap.size)(M:∀ k,HpF W' hb k->HpF W hb k\/W.heap.size<=k):HpO K W' F Ms mv T hb:=fun k H=>by
 rcases M k H with e|e
 ·exact⟨(h k e).1.turn y.size fun x U=>⟨x,U,rfl,fun k y=>.inl y⟩,(h k e).2⟩
 exact⟨hs.noS e (O k H),fun I=>by have:=ht k I;omega⟩
theorem HpO.keepQ {fn Z lim I}{Q:TkQ}{t}(hQ:Qb7 K mv bl idx fn Z lim I Q)(h:HpO K W F Ms mv T hb)(hq:Q t T W F E Ms)(y:Ju (HpF W hb) W W'):Q t T W' F E Ms:=
 hQ.keep hq y (fun k y=>(h k y).1.lo) (fun e=>(h _ e).1.sb rfl) (fun _ U e=>(h _ e).1.mv U) (fun _ O e=>(h _ e).1.nf O) (fun x H=>⟨fun e=>((h _ e).1.ms x H).1 rfl,fun _ Y e=>((h _ e).1.ms x H).2 Y⟩) (fun _ M e=>(h _ e).2 M)
theorem HpO.ahOk (h:HpO K W F Ms mv T hb)(hs:SI K W F E Ms mv bl)(hK:SK K)(hM:Ktm Ms idx):Kuv W (HpF W hb) K.sb (Kvd Ms idx) (Ksd Ms) (Kr6 K.ks K.cs):=
 hs.ahOk hK hM (fun k M=>(h k M).1.lo) (fun e=>(h _ e).1.sb rfl) (fun _ I e=>(h _ e).1.mv I) (fun _ H e=>(h _ e).1.nf H) (fun x y=>⟨fun e=>((h _ e).1.ms x y).1 rfl,fun _ O e=>((h _ e).1.ms x y).2 O⟩)
end
theorem Krx {p}(h:p):Hid p:=h
def MgB (y:List Mr)(idx:List Nat):Nat->Prop:=fun k=>∃ i m,i∈idx/\y[i]?=some m/\k=m.rb
structure MgL (w:World) (F0 T0:Nat->Prop) (Ms0:List Mr) (idx:List Nat) (W:World) (F T:Nat->Prop) (Ms:List Mr):Prop where
 keep:Ju (fun k=>F0 k\/T0 k\/MgB Ms0 idx k) w W
 ffr:∀ k,F k->F0 k\/w.heap.size<=k
 tfr:∀ k,T k->T0 k\/w.heap.size<=k
 rbs:Ms.map (·.rb)=Ms0.map (·.rb)
 new:∀ (i:Nat) m',Ms[i]?=some m'->∃ m,Ms0[i]?=some m/\∀ k,m'.N k->m.N k\/w.heap.size<=k
theorem Qb5 {y H:List Mr}(h:y.map (·.rb)=H.map (·.rb)){i:Nat}{m K:Mr}(M:y[i]?=some m)(O:H[i]?=some K):m.rb=K.rb:=by
 have I:=congrArg (fun l=>l[i]?) h;simp only[Ob1,M,O,Option.map_some]at I;exact Oj6 I
section
variable {K:SC} {w W W':World} {F F' T T' F0 T0 G:Nat->Prop} {E E':DS} {Ms Ms' Ms0:List Mr} {mv:Value} {bl:Int} {idx:List Nat} {i:Nat} {m m':Mr} {b:Bool}
theorem MgL.refl:MgL w F0 T0 Ms0 idx w F0 T0 Ms0:=⟨Ju.refl _ _,fun _ h=>.inl h,fun _ h=>.inl h,rfl,fun _ m h=>⟨m,h,fun _ h=>.inl h⟩⟩
theorem MgL.next (h:MgL w F0 T0 Ms0 idx W F T Ms)(H:Kst K W F E Ms mv bl i m m' b E' W')(hi:Ms[i]?=some m)(Y:i∈idx):MgL w F0 T0 Ms0 idx W' F T (Ms.set i m'):=by
 have hs:=h.keep.size;obtain⟨O,y,U⟩:=h.new i m hi;refine⟨h.keep.trans' H.keep fun k M e=>?_,h.ffr,h.tfr,(Kve hi H.rb).trans h.rbs,fun j x I=>?_⟩
 ·rcases e with e|e
  ·exact .inl ((h.ffr k e).resolve_right zo)
  exact .inr (.inr ⟨i,O,Y,y,e.trans (Qb5 h.rbs hi y)⟩)
 rcases getElem?_set_cases I with⟨e,rfl⟩|⟨_,I⟩
 ·subst e;exact⟨O,y,fun k M=>(H.new k M).elim (U k) fun e=>.inr zo⟩
 exact h.new j x I
theorem MgL.took (h:MgL w F0 T0 Ms0 idx W F T Ms)(hl:Kyo K mv bl idx T W F Ms T' W' F' E' Ms'):MgL w F0 T0 Ms0 idx W' F' T' Ms':=by
 have hs:=h.keep.size;refine⟨h.keep.trans' hl.keep fun k y e=>?_,fun k y=>(hl.ffr k y).elim (h.ffr k) fun e=>.inr zo,fun k y=>(hl.tfr k y).elim (h.tfr k) fun e=>.inr zo,hl.rbs.trans h.rbs,fun j x M=>?_⟩
 ·rcases e with e|e
  ·exact .inl ((h.ffr k e).resolve_right zo)
  exact .inr (.inl ((h.tfr k e).resolve_right zo))
 obtain⟨U,hy,H⟩:=hl.new j x M;obtain⟨z,O,I⟩:=h.new j U hy;exact⟨z,O,fun k y=>(H k y).elim (I k) fun e=>.inr zo⟩
theorem MgL.turn (h:MgL w F0 T0 Ms0 idx W F T Ms)(H:Ju G W W')(y:∀ k,G k->w.heap.size<=k):MgL w F0 T0 Ms0 idx W' F T Ms:=
 ⟨h.keep.trans' H fun k I e=>absurd (y k e) zo,h.ffr,h.tfr,h.rbs,h.new⟩
end
