/- Runs that are merged: which is ahead, by the numbers of their rows. -/
import Derived.Test.YtkdojacdolidfaaGreatDoorAz
import Derived.Test.YtkdojacdolidfaaGreatDoorAu
namespace Go.Proofs.YtkdojacdolidfaaGreatDoor
section
open Go.RowKit Go.Shelf
def Ksf (y:List Mr)(r:Nat):Nat:=((y.find? fun m=>m.rb==r).map fun m=>m.R.held.headD 0).getD 0
theorem Ksj {y}(hs:∀ (i j:Nat) I K,y[i]?=some I->y[j]?=some K->i≠j->I.rb≠K.rb){i:Nat}{m}(hi:y[i]?=some m):Ksf y m.rb=m.R.held.headD 0:=by
 unfold Ksf;cases hf:y.find? (fun x=>x.rb==m.rb)with
 |none=>
  have:=List.find?_eq_none.1 hf m (Of6 hi);simp at this
 |some x=>
  have Y:=List.find?_some hf;have Z:=List.mem_of_find?_eq_some hf;obtain⟨j,M,e⟩:=Od5 Z;have H:y[j]?=some x:=by rw[Oa3 M,e]
  have O:j=i:=Decidable.byContradiction fun U=>hs j i x m H hi U (by simpa using Y);subst O;rw[hi]at H;cases H
  rfl
structure Ktt (Ms:List Mr) (idx:List Nat):Prop where
 nd:idx.Nodup
 ex:∀ i∈idx,∃ m,Ms[i]?=some m
 pl:∀ i j mi mj,i∈idx->j∈idx->Ms[i]?=some mi->Ms[j]?=some mj->mi.R.place<mj.R.place->∀ a∈mi.R.rem,∀ b∈mj.R.rem,a<b
 pd:∀ i j mi mj,i∈idx->j∈idx->Ms[i]?=some mi->Ms[j]?=some mj->i≠j->mi.R.place≠mj.R.place
def Kv4 (y:List Mr)(idx:List Nat)(r:Nat):Prop:=∃ i m,i∈idx/\y[i]?=some m/\m.rb=r/\m.R.held≠[]
theorem Kuy {R:Rn}(h:R.held≠[]):R.held.head?=some (R.held.headD 0)/\R.held.headD 0∈R.rem:=by
 cases hh:R.held with
 |nil=>exact absurd hh h
 |cons a l=>exact⟨rfl,by simp[Rn.rem,hh]⟩
theorem SI.ahOk {y w F G E O mv bl idx}(h:SI y w F E O mv bl)(hK:SK y)(hM:Ktt O idx)(bD:∀ k,G k->y.w0.heap.size<=k)(bG:¬ G y.sb)(bE:∀ g,mv.ownBlock=some g->¬ G g)(hF:∀ k,F k->¬ G k)(bj:∀ m∈O,¬ G m.rb/\∀ k,m.N k->¬ G k):
  Ku8 w G y.sb (Kv4 O idx) (Ksf O) (Kr7 y.ks y.cs):=by
 intro W bk r s ⟨i,H,hi,M,er,bA⟩ ⟨j,I,Y,K,es,bC⟩;have U:=h.keep bk bD bG bE hF bj;have bi:=U.env hK;have bJ:=(U.runs H (Of6 M)).1;have bK:=(U.runs I (Of6 K)).1;have bH:=Ksj (fun i j H I a b c=>(h.sep i j H I a b c).1) M;have bI:=Ksj (fun i j H I a b c=>(h.sep i j H I a b c).1) K;obtain⟨bx,bf⟩:=Kuy bA;obtain⟨bz,bh⟩:=Kuy bC;subst er es;rw[bH,bI];have br:=Kx0 y.sb y.kb y.ko y.kc H.rb I.rb _ _ _ _ y.ts y.cs y.ks W hK.sg bi.so.key (bJ.atRow bx) (bK.atRow bz);refine br.mono fun e w' hp=>⟨?_,hp.2⟩;rw[hp.1];refine Qr ?_;unfold Kyr ltB;by_cases h0:Kr7 y.ks y.cs (H.R.held.headD 0) (I.R.held.headD 0)=0
 ·rw[if_neg (fun x=>x h0),h0];have bB:H.R.place<I.R.place↔H.R.held.headD 0<I.R.held.headD 0:=by
   by_cases Z:i=j
   ·subst Z;rw[M]at K;cases K;simp
   have bO:=hM.pd i j H I hi Y M K Z;constructor
   ·intro hp;exact hM.pl i j H I hi Y M K hp _ bf _ bh
   intro bM;refine Decidable.byContradiction fun bN=>?_;have:=hM.pl j i I H Y hi K M zo _ bh _ bf;omega
  simp[bB]
 rw[if_pos h0];exact decide_eq_decide.2 ⟨.inl,fun x=>x.resolve_right fun bL=>h0 bL.1⟩
end
section
open Go.RowKit Go.Shelf Tryz
theorem Kxl {ts cs ks}(M:Sg ts cs ks){ids}(bh:ids.Pairwise (·<·)){g}(h:Qco ks (Jba ids cs) ids.length g):(Jba ids cs).map (Yq (Ktu ids.length g))=Jba (Ksi (Kr7 ks cs) ids) cs:=by
 have y:∀ i,i<ids.length->g i<ids.length:=fun i hi=>by
  obtain⟨t,_,bi,e⟩:=h.arr.at (k:=i) ⟨Ob7 _,hi⟩;rw[e];exact bi
 rw[Kyl ids cs ids.length g y];congr 1
 have O:(List.range ids.length).map (fun i=>ids.getD (g i) 0)=((List.range ids.length).map g).map fun i=>ids.getD i 0:=by rw[Oi6];rfl
 have U:(List.range ids.length).map (fun i=>ids.getD i 0)=ids:=by
  refine Oh4 zS fun i bj Y=>?_;rw[Od9,Oo7,Oa0,Oa3 Y];rfl
 refine Kw8 M.ord ?_ ?_
 ·rw[O];have:=(Qa0 h.arr).map fun i=>ids.getD i 0;rw[U]at this;exact this
 rw[List.pairwise_iff_getElem];intro i j hi H bf;simp only[Oa6,Op1]at hi H;simp only[Od9,Oo7];have hs:=h.srt i j (Ob7 _) bf H;have Z:Ks5 ks (Kry (Jba ids cs) (g i)) (Kry (Jba ids cs) (g j))=Kr7 ks cs (ids.getD (g i) 0) (ids.getD (g j) 0):=Kzy M ids (y i hi) (y j H);unfold Lt at hs |-;simp only[Z]at hs;rcases hs with hs|⟨h0,hl⟩
 ·exact .inl hs
 refine .inr ⟨h0,?_⟩;have I:=y i hi;have K:=y j H;have:=(List.pairwise_iff_getElem.1 bh) (g i) (g j) I K hl;rw[Oa0,Oa3 I,Oa0,Oa3 K];exact this
theorem Kug sb kb ko kc I cp ts cs ks hs ids w(K:Sg ts cs ks)(hK:Kxj w sb kb ko kc ks)(hC:Qd w I hs (Jba ids cs))(bh:ids.Pairwise (·<·))(bf:∀ i∈ids,i<nR cs)(bi:ids.length<=100000):
  Calls prog 155 #[.pointer (some ⟨sb,0,none⟩),.slice (some ⟨I,0,none⟩) cs.length cp] w fun e w'=>Below w.heap.size w w'/\∃ y H,e=.returned (.slice (some ⟨y,0,none⟩) cs.length cs.length)/\w.heap.size<=y/\Qd w' y H (Jba (Ksi (Kr7 ks cs) ids) cs)/\Qah w w' H cs.length:=by
 have h:=Kv9 sb kb ko kc ks I cp hs (Jba ids cs) ids.length w hK hC (K.keyC ids bi) (K.ordP ids bf);rw[Krw]at h;refine h.mono fun e w' hp=>?_;obtain⟨hb,y,g,H,Y,Z,U,M,O⟩:=hp;rw[Kxl K bh U]at M;exact⟨hb,y,H,Y,Z,M,O⟩
end
section
open Go.RowKit Go.Shelf
theorem CellsX.ck {W y a xs}(h:Uh W a xs)(H:CK W y):Uh y a xs:=by
 rcases h with h|⟨b,o,I,K,M⟩
 ·exact .inl h
 exact .inr ⟨b,o,I,Oc2 K H.size,fun i v hi=>H.cell (M i v hi)⟩
theorem Jf1.ck {w w' F d D sv ps}(h:Jf1 w F d D sv ps)(y:CK w w'):Jf1 w' F d D sv ps:=
 ⟨y.cells _ _ _ _ h.cells,Jxz h.own y,h.ownF,h.dF,h.len,fun i b hi=>by
  obtain⟨I,K,M,p,O,H⟩:=h.page i b hi;exact⟨I,K,M,p,O,H.1,Jq5 H.2 y⟩,h.vacant,h.inj,h.low,h.full,h.small⟩
theorem Zb.ck {w w' F d D}(h:Zb w F d D)(y:CK w w'):Zb w' F d D:=by
 obtain⟨sv,ps,h⟩:=h;exact⟨sv,ps,h.ck y⟩
section
variable {w w':World} {N:Nat->Prop} {ts:List Int} {cs:Cs}
theorem Kwc.ck {b}(h:Kwc w N ts cs b)(y:CK w w'):Kwc w' N ts cs b:=⟨CellsX.ck h.lens y,CellsX.ck h.pages y,h.ln,h.pn⟩
theorem Ktq.ck {ids hv}(h:Ktq w N cs ids hv)(M:CK w w'):Ktq w' N cs ids hv:=by
 rcases h with h|⟨y,hb,hs,cap,H,I,K⟩
 ·exact .inl h
 exact .inr ⟨y,hb,hs,cap,H,I.ck M,K⟩
theorem Kss.ck {rb R ba bc hv}(h:Kss w N ts cs rb R ba bc hv)(y:CK w w'):Kss w' N ts cs rb R ba bc hv:=
 ⟨y.cells _ _ _ _ h.cells,CellsX.ck h.arr y,h.an,h.cap,fun b hb=>(h.blk b hb).ck y,h.held.ck y,h.nr,fun k H=>Oc2 (h.lt k H) y.size⟩
end
theorem SI.ck {H w w' F E I mv bl}(h:SI H w F E I mv bl)(y:CK w w')(ho:Ju H.F0 H.w0 w'):SI H w' F E I mv bl:=
 ⟨y.cells _ _ _ _ h.st,Jxz h.own y,h.msb,fun m K=>⟨(h.runs m K).1.ck y,(h.runs m K).2⟩,h.off,h.sep,h.disk.ck y,fun k M=>Oc2 (h.flt k M) y.size,h.sF,h.mF,h.ffr,ho,h.top,h.blks⟩
end
section
open Go.RowKit Go.Shelf Tryz
def Kvu (w:World)(B tn:Nat)(sv:Value)(bs:List Bk):Prop:=w.ownsRow B 361 3 sv bs.length (bs.flatMap (Bk.cells tn))
theorem Qdb:(prog.info? 361).map (fun i=>(i.zero,i.size,i.bytes))=some (some (.agg #[.int .i64 0,.slice none 0 0,.slice none 0 0]),3,56):=zK
theorem Kvu.slice {w B tn sv bs}(h:Kvu w B tn sv bs):∃ a cap,sv=.slice a bs.length cap/\Uh w a (bs.flatMap (Bk.cells tn))/\bs.length<=cap/\∀ x o,a=some ⟨x,o,none⟩->sv.ownBlock=some x:=by
 obtain⟨h0,⟨y,H⟩|⟨g,cap,O,y,H,I,K,U,Y,M⟩⟩:=h
 ·have:bs=[]:=List.eq_nil_of_length_eq_zero H;subst this;exact⟨none,0,y,.inl rfl,Oa2 _,fun x o e=>by cases e⟩
 refine⟨some ⟨g,0,none⟩,cap,y,.inr ⟨g,0,rfl,Jd I,fun i v hi=>?_⟩,K,fun x o e=>?_⟩
 ·rw[<-M]at hi;have hl:i<bs.length*3:=by have:=(Ob9.1 hi).1;simp at this;omega
  rw[Oh3 hl]at hi;simp only[World.cell?,I,Od0];simpa using hi
 simp at e;rw[y];simp[Value.ownBlock,e.1]
theorem Kvu.of_block {w w' B tn sv bs}(h:Kvu w B tn sv bs)(hb:∀ g,sv.ownBlock=some g->w'.heap[g]?=w.heap[g]?):Kvu w' B tn sv bs:=Jl h hb
structure SW (K:SC) (w:World) (F:Nat->Prop) (E:DS) (Ms:List Mr) (mv:Value) (bl:Int) (i:Nat) (m:Mr):Prop where
 si:SI K w F E Ms mv bl
 at_:Ms[i]?=some m
 own:Kvu w K.w0.heap.size K.ts.length (.slice m.ba m.R.bs.length m.bc) m.R.bs
 held:m.R.held=[]/\m.hv=.slice none 0 0
 arr:∀ g,(Value.slice m.ba m.R.bs.length m.bc).ownBlock=some g->∀ j mj,Ms[j]?=some mj->j≠i->¬ mj.N g
 lst:∀ b∈m.R.bs,∀ x o,(b.la=some ⟨x,o,none⟩\/b.pa=some ⟨x,o,none⟩)->(Value.slice m.ba m.R.bs.length m.bc).ownBlock≠some x
end
open Go.RowKit Go.Shelf
theorem SI.turn2 {U:SC}{w w'}{F bh A:Nat->Prop}{E br:DS}{M:List Mr}{mv}{bl:Int}{i:Nat}{m y:Mr}(h:SI U w F E M mv bl)(hi:M[i]?=some m)(bi:Ju (fun k=>F k\/k=m.rb\/A k) w w')(bx:∀ k,A k->m.N k)(bP:∀ k,A k->∀ j bM,M[j]?=some bM->j≠i->¬ bM.N k)(bH:∀ k,bh k->F k\/w.heap.size<=k)(bT:∀ k,bh k->k<w'.heap.size)(Z:y.rb=m.rb)(hr:Kss w' y.N U.ts U.cs y.rb y.R y.ba y.bc y.hv)(bz:∀ k,y.N k->m.N k\/w.heap.size<=k)(bR:∀ k,y.N k->¬ bh k)(bQ:Zb w' bh U.d br)(ht:Top U.D0 br ((M.set i y).flatMap Mr.ls))(hb:∀ x∈M.set i y,∀ b∈x.R.bs,Qan U br b):SI U w' bh br (M.set i y) mv bl:=by
 have bJ:=Of6 hi;have ho:=h.off m bJ;have bI:=h.runs m bJ;have bL:=Jd h.st;have bY:=Jd bI.1.cells;have bk:∀ k,k<w.heap.size->¬ F k->¬ bh k:=fun k bV H I=>(bH k I).elim H fun Y=>by omega
 have bW:(M.set i y).map (·.rb)=M.map (·.rb):=by
  rw[Op0,Z];refine Oi8 fun j=>?_;by_cases e:j=i
  ·subst e;rw[List.getElem?_set_self'];rw[Ob1,hi];rfl
  rw[Od1 (fun bN=>e bN.symm)]
 have bX:∀ x∈M.set i y,Qbf U mv x:=fun x bj=>by
  rcases List.mem_or_eq_of_mem_set bj with bj|rfl
  ·exact h.off x bj
  exact⟨Z▸ho.lo,Z▸ho.sb,Z▸ho.made,fun k bi=>(bz k bi).elim (ho.nlo k) (fun Y=>by have:=h.old.size;omega),fun H=>(bz _ H).elim ho.nsb (fun Y=>zo),fun g O H=>(bz _ H).elim (ho.nmade g O) (fun Y=>by have:=Qk h.own O;omega)⟩
 refine⟨(bi.block _ bL (fun hh=>?_)).trans h.st,?_,h.msb,fun x bj=>?_,bX,fun a b cb mb K bE bD=>?_,bQ,bT,bk _ bL h.sF,fun g O=>bk g (Qk h.own O) (h.mF g O),fun k I=>?_,?_,ht,hb⟩
 ·rcases hh with I|e|K
  ·exact h.sF I
  ·exact ho.sb e.symm
  exact ho.nsb (bx _ K)
 ·rw[bW];exact Yd h.own fun g O=>bi.block g (Qk h.own O) (fun hh=>by
   rcases hh with I|e|K
   ·exact h.mF g O I
   ·exact ho.made (e▸O)
   exact ho.nmade g O (bx _ K))
 ·obtain⟨j,bU,e⟩:=Od5 bj;rcases getElem?_set_cases (show (M.set i y)[j]?=some x by rw[Oa3 bU,e])with⟨_,rfl⟩|⟨hji,hjx⟩
  ·exact⟨hr,by rw[Z];exact bk _ bY bI.2.1,bR⟩
  have bf:=h.runs x (Of6 hjx);have bK:=h.sep j i x m hjx hi hji;have bZ:=h.sep i j m x hi hjx (fun e=>hji e.symm);have ca:=Jd bf.1.cells;refine⟨bf.1.keep bi (fun hh=>?_) (fun k H hh=>?_),bk _ ca bf.2.1,fun k H=>bk k (bf.1.lt k H) (bf.2.2 k H)⟩
  ·rcases hh with I|e|K
   ·exact bf.2.1 I
   ·exact bK.1 e
   exact bZ.2 (bx _ K)
  rcases hh with I|e|K
  ·exact bf.2.2 k H I
  ·exact bK.2 (e▸H)
  exact bP k K j x hjx hji H
 ·rcases getElem?_set_cases K with⟨bO,bB⟩|⟨bS,bC⟩
  ·rcases getElem?_set_cases bE with⟨eb,_⟩|⟨bG,bA⟩
   ·exact absurd (bO.trans eb.symm) bD
   have:=h.sep i b m mb hi bA (fun e=>bG e.symm);rw[bB];refine⟨Z▸this.1,fun H=>(bz _ H).elim this.2 fun Y=>?_⟩;have:=Jd (h.runs mb (Of6 bA)).1.cells;omega
  rcases getElem?_set_cases bE with⟨eb,bB⟩|⟨bG,bA⟩
  ·rw[bB,Z];exact h.sep a i cb m bC hi bS
  exact h.sep _ _ _ _ bC bA bD
 ·rcases bH k I with Y|Y
  ·exact h.ffr k Y
  exact .inr (by have:=h.old.size;omega)
 refine h.old.trans' bi fun k bV hh=>?_;rcases hh with I|rfl|K
 ·exact(h.ffr k I).resolve_right zo
 ·have:=ho.lo;omega
 have:=ho.nlo k (bx k K);omega
theorem SI.disk_same {Z w w' F y E Y bh mv bl}(h:SI Z w F E bh mv bl)(K:Ju F w w')(bi:∀ k,y k->F k\/w.heap.size<=k)(br:∀ k,y k->k<w'.heap.size)(bk:Zb w' y Z.d Y)(hs:Kft E Y):SI Z w' y Y bh mv bl:=by
 have bj:=Jd h.st;have U:∀ k,k<w.heap.size->¬ F k->¬ y k:=fun k bx O H=>(bi k H).elim O fun bf=>by omega
 refine⟨(K.block _ bj h.sF).trans h.st,Yd h.own fun g I=>K.block g (Qk h.own I) (h.mF g I),h.msb,fun m M=>?_,h.off,h.sep,bk,br,U _ bj h.sF,fun g I=>U g (Qk h.own I) (h.mF g I),fun k H=>?_,h.old.trans' K fun k bx H=>(h.ffr k H).resolve_right zo,h.top.same hs,fun m M b hb=>⟨(h.blks m M b hb).1.same hs,(h.blks m M b hb).2⟩⟩
 ·have hr:=h.runs m M;exact⟨hr.1.keep K hr.2.1 hr.2.2,U _ (Jd hr.1.cells) hr.2.1,fun k O=>U k (hr.1.lt k O) (hr.2.2 k O)⟩
 rcases bi k H with bf|bf
 ·exact h.ffr k bf
 exact .inr (by have:=h.old.size;omega)
theorem Kv0 {w B e a n c xs}(h:Jo w B e (.slice a n c) xs):Uh w a xs/\(n=xs.length)/\∀ x o,a=some ⟨x,o,none⟩->B<=x/\x<w.heap.size/\(Value.slice a n c).ownBlock=some x:=by
 obtain⟨K,M,H,I⟩:=h.cells;cases H
 refine⟨I,rfl,fun x o e=>?_⟩;have y:(Value.slice a xs.length c).ownBlock=some x:=by rw[e];rfl
 exact⟨(Je h y).1,(Je h y).2,y⟩
theorem SW.wrote {K W bf bH H F FD E bz bA mv bl i m}(bj:SW K W F E bA mv bl i m)b(cH:∀ t∈b.ids,t<nR K.cs)(cE:1<=b.ids.length/\b.ids.length<=64)(bD:Ju F W bf)(cF:Zb bf FD K.d bz)(cj:∀ k,FD k->F k\/W.heap.size<=k)(cu:∀ k,FD k->k<bf.heap.size)(bV:Jjo E bz (Qu (Kr6 K.ts (Jba b.ids K.cs) K.ts.length)) b.l)(cJ:b.l.length<=1000000)(cL:Jo bf W.heap.size 3 (.slice b.la K.ts.length b.lc) ((Ktd K.ts (Jba b.ids K.cs) K.ts.length).map nv))(cM:∀ g,(Value.slice b.la K.ts.length b.lc).ownBlock=some g->¬ FD g)(cN:Jo bf W.heap.size 3 (.slice b.pa b.l.length b.pc) (b.l.map nv))(cO:∀ g,(Value.slice b.pa b.l.length b.pc).ownBlock=some g->¬ FD g)(bB:Below bf.heap.size bf bH){a2 y}(bS:Kvu H K.w0.heap.size K.ts.length (.slice a2 (m.R.bs.length+1) y) (m.R.bs++[b]))(bK:bH.grownBy H (Value.slice m.ba m.R.bs.length m.bc).ownBlock)(M:(Value.slice a2 (m.R.bs.length+1) y).ownBlock=(Value.slice m.ba m.R.bs.length m.bc).ownBlock\/(Value.slice a2 (m.R.bs.length+1) y).ownBlock=some bH.heap.size):
  ∃ bR,SW K (H.setCell ⟨m.rb,1,none⟩ (.slice a2 (m.R.bs.length+1) y)) FD bz (bA.set i ⟨m.rb,⟨m.R.place,m.R.bs++[b],[]⟩,bR,a2,y,.slice none 0 0⟩) mv bl i ⟨m.rb,⟨m.R.place,m.R.bs++[b],[]⟩,bR,a2,y,.slice none 0 0⟩/\Ju (fun k=>F k\/k=m.rb\/(Value.slice m.ba m.R.bs.length m.bc).ownBlock=some k) W (H.setCell ⟨m.rb,1,none⟩ (.slice a2 (m.R.bs.length+1) y))/\∀ k,bR k->m.N k\/W.heap.size<=k:=by
 have h:=bj.si;have hi:=bj.at_;have bY:=Of6 hi;have Y:=h.runs m bY;have ho:=h.off m bY;have cy:=Jd Y.1.cells;have dd:=bD.size;have de:=bB.size;have df:=bK.size;have bC:∀ g,(Value.slice m.ba m.R.bs.length m.bc).ownBlock=some g->m.N g/\g<W.heap.size:=fun g I=>by
  have cK:=(Je bj.own I).2;obtain⟨a,cap,db,_,_,ca⟩:=bj.own.slice;cases hba:m.ba with
  |none=>rw[hba]at I;simp[Value.ownBlock]at I
  |some cY=>
   rcases bj.own with⟨_,⟨h0,_⟩|⟨cC,cZ,da,h0,_⟩⟩
   ·rw[hba]at h0;simp at h0
   simp at h0;have cb:=h0.1;rw[cb]at I;simp[Value.ownBlock]at I;subst I;exact⟨Y.1.an cC 0 cb,cK⟩
 have dg:(H.setCell ⟨m.rb,1,none⟩ (.slice a2 (m.R.bs.length+1) y)).heap.size=H.heap.size:=zS;have bW:∀ k,k≠m.rb->(H.setCell ⟨m.rb,1,none⟩ (.slice a2 (m.R.bs.length+1) y)).heap[k]?=H.heap[k]?:=fun k U=>Oa4 _ _ _ _ U;have bU:∀ k,k<bH.heap.size->(Value.slice m.ba m.R.bs.length m.bc).ownBlock≠some k->H.heap[k]?=bH.heap[k]?:=fun k U bJ=>bK.block k U fun e=>bJ e.symm;have bT:∀ k,k<bf.heap.size->(Value.slice m.ba m.R.bs.length m.bc).ownBlock≠some k->k≠m.rb->(H.setCell ⟨m.rb,1,none⟩ (.slice a2 (m.R.bs.length+1) y)).heap[k]?=bf.heap[k]?:=fun k U bJ hr=>by
  rw[bW k hr,bU k zo bJ,bB.block k U]
 have cP:H.heap[m.rb]?=some (.cells #[.int .i64 (m.R.place:Nat),.slice m.ba m.R.bs.length m.bc,.slice none 0 0] 359 (0,0)):=by
  rw[bU _ zo (fun e=>Y.1.nr (bC _ e).1),bB.block _ zo,bD.block _ cy Y.2.1];have:=Y.1.cells;rw[bj.held.2]at this;exact this
 obtain⟨cA,di,bE⟩:=Kv0 cL;obtain⟨cp,np,bG⟩:=Kv0 cN;have cn:Ju (fun k=>F k\/k=m.rb\/(Value.slice m.ba m.R.bs.length m.bc).ownBlock=some k) W (H.setCell ⟨m.rb,1,none⟩ (.slice a2 (m.R.bs.length+1) y)):=by
  refine Ju.set (b:=m.rb) ?_ (.inr (.inl rfl)) 1 _;exact⟨bK.os.trans (bB.os.trans bD.os),bK.tape.trans (bB.tape.trans bD.tape),bK.output.trans (bB.output.trans bD.output),zo,fun k U bJ=>by
   rw[bU k zo (fun e=>bJ (.inr (.inr e))),bB.block k zo,bD.block k U (fun e=>bJ (.inl e))]⟩
 have bZ:∀ k,k<W.heap.size->¬ F k->¬ FD k:=fun k dc bx bi=>(cj k bi).elim bx fun Z=>by omega
 have cx:∀ g,(Value.slice a2 (m.R.bs.length+1) y).ownBlock=some g->(m.N g/\g<W.heap.size)\/g=bH.heap.size:=fun g I=>by
  rcases M with M|M
  ·exact .inl (bC g (M.symm.trans I))
  rw[M]at I;simp at I;exact .inr I.symm
 have cI:∀ g,(Value.slice a2 (m.R.bs.length+1) y).ownBlock=some g->g<H.heap.size:=fun g I=>(Je bS I).2;obtain⟨cz,cB,es,ci,cf,bO⟩:=bS.slice;have cc:cz=a2/\cB=y:=by simp at es;exact⟨es.1.symm,es.2.symm⟩
 rw[cc.1]at ci bO;rw[cc.2]at cf;have cv:∀ g,(Value.slice a2 (m.R.bs.length+1) y).ownBlock=some g->g≠m.rb:=fun g I e=>by
  rcases cx g I with Z|Z
  ·exact Y.1.nr (e▸Z.1)
  omega
 refine⟨fun k=>m.N k\/(W.heap.size<=k/\k<H.heap.size/\¬ FD k),?_,cn,fun k U=>U.imp id (·.1)⟩;have cQ:Kss (H.setCell ⟨m.rb,1,none⟩ (.slice a2 (m.R.bs.length+1) y)) (fun k=>m.N k\/(W.heap.size<=k/\k<H.heap.size/\¬ FD k)) K.ts K.cs m.rb ⟨m.R.place,m.R.bs++[b],[]⟩ a2 y (.slice none 0 0):=by
  refine⟨?_,ci.on zo fun x o e=>bW x (cv x (bO x o e)),fun x o e=>?_,by simpa using cf,fun bh O=>?_,.inl ⟨rfl,rfl⟩,fun hh=>?_,fun k U=>?_⟩
  ·rw[Jk cP];simp
  ·rcases cx x (bO x o e)with Z|Z
   ·exact .inl Z.1
   exact .inr ⟨zo,cI x (bO x o e),fun bi=>by have:=cu x bi;omega⟩
  ·rcases Od2.1 O with O|O
   ·have br:=Y.1.blk bh O;have bL:∀ x o,(bh.la=some ⟨x,o,none⟩\/bh.pa=some ⟨x,o,none⟩)->m.N x->(H.setCell ⟨m.rb,1,none⟩ (.slice a2 (m.R.bs.length+1) y)).heap[x]?=W.heap[x]?:=fun x o e bx=>by
     have cW:=Y.1.lt x bx;rw[bT x zo (bj.lst bh O x o e) (fun ca=>Y.1.nr (ca▸bx)),bD.block x cW (Y.2.2 x bx)]
    exact⟨br.lens.on zo fun x o e=>bL x o (.inl e) (br.ln x o e),br.pages.on zo fun x o e=>bL x o (.inr e) (br.pn x o e),fun x o e=>.inl (br.ln x o e),fun x o e=>.inl (br.pn x o e)⟩
   rw[Oc6.1 O];have bL:∀ x,W.heap.size<=x->x<bf.heap.size->(H.setCell ⟨m.rb,1,none⟩ (.slice a2 (m.R.bs.length+1) y)).heap[x]?=bf.heap[x]?:=fun x dh cV=>bT x cV (fun e=>by have:=(bC x e).2;omega) zo;exact⟨cA.on zo fun x o e=>bL x (bE x o e).1 (bE x o e).2.1,cp.on zo fun x o e=>bL x (bG x o e).1 (bG x o e).2.1,fun x o e=>.inr ⟨(bE x o e).1,by have:=(bE x o e).2.1;omega,cM x (bE x o e).2.2⟩,fun x o e=>.inr ⟨(bG x o e).1,by have:=(bG x o e).2.1;omega,cO x (bG x o e).2.2⟩⟩
  ·rcases hh with Z|Z
   ·exact Y.1.nr Z
   omega
  rcases U with Z|Z
  ·have:=Y.1.lt k Z;omega
  omega
 have cS:∀ x,(bA.set i x)[i]?=some x:=fun x=>by rw[Oh0 (Ob9.1 hi).1]
 obtain⟨dl,dj,cT,cR⟩:=Kyh bA i m hi;have cU:Top K.D0 bz ((bA.set i ⟨m.rb,⟨m.R.place,m.R.bs++[b],[]⟩,(fun k=>m.N k\/(W.heap.size<=k/\k<H.heap.size/\¬ FD k)),a2,y,.slice none 0 0⟩).flatMap Mr.ls):=by
  have cX:=h.top.laid bV;refine cX.perm ?_;rw[cR];rw[cT];simp only[Mr.ls,Oe8,Og7,Ob8,Oe4,Oi4,Od8];refine List.Perm.append_left _ (List.Perm.append_left _ ?_);exact List.perm_append_comm
 have cD:∀ x∈bA.set i ⟨m.rb,⟨m.R.place,m.R.bs++[b],[]⟩,(fun k=>m.N k\/(W.heap.size<=k/\k<H.heap.size/\¬ FD k)),a2,y,.slice none 0 0⟩,∀ bh∈x.R.bs,Qan K bz bh:=fun x bP bh O=>by
  have old:∀ bM∈bA,∀ c∈bM.R.bs,Qan K bz c:=fun bM hy c bX=>⟨h.top.held bV (Op5.2 ⟨bM,hy,Of0.2 ⟨c,bX,rfl⟩⟩) (h.blks bM hy c bX).1,(h.blks bM hy c bX).2⟩;rcases List.mem_or_eq_of_mem_set bP with bP|rfl
  ·exact old x bP bh O
  rcases Od2.1 O with O|O
  ·exact old m bY bh O
  rw[Oc6.1 O];exact⟨bV.seg,cE,cH,cJ⟩
 have cG:Zb (H.setCell ⟨m.rb,1,none⟩ (.slice a2 (m.R.bs.length+1) y)) FD K.d bz:=cF.stands fun k bi hl=>bT k hl (fun e=>bZ k (bC k e).2 (Y.2.2 k (bC k e).1) bi) (fun e=>bZ _ cy Y.2.1 (e▸bi));refine⟨h.turn2 (A:=fun k=>(Value.slice m.ba m.R.bs.length m.bc).ownBlock=some k) hi cn (fun k U=>(bC k U).1) (fun k U j bQ bI bN=>bj.arr k U j bQ bI bN) cj (fun k bi=>by have:=cu k bi;omega) rfl cQ (fun k U=>U.imp id (·.1)) (fun k U bi=>U.elim (fun Z=>bZ k (Y.1.lt k Z) (Y.2.2 k Z) bi) (fun Z=>Z.2.2 bi)) cG cU cD,cS _,?_,⟨rfl,rfl⟩,fun g I j bQ bI bN=>?_,fun bh O x o e=>?_⟩
 ·have:=bS.of_block (w':=H.setCell ⟨m.rb,1,none⟩ (.slice a2 (m.R.bs.length+1) y)) fun g I=>bW g (cv g I);simpa using this
 ·have bk:(Value.slice a2 (m.R.bs.length+1) y).ownBlock=some g:=by simpa using I
  rcases getElem?_set_cases bI with⟨e,_⟩|⟨_,bI⟩
  ·exact absurd e bN
  rcases M with M|M
  ·exact bj.arr g (M.symm.trans bk) j bQ bI bN
  rw[M]at bk;simp at bk;intro bx;have:=(h.runs bQ (Of6 bI)).1.lt g bx;omega
 intro I;have bk:(Value.slice a2 (m.R.bs.length+1) y).ownBlock=some x:=by simpa using I
 rcases Od2.1 O with O|O
 ·have br:=Y.1.blk bh O;have bx:m.N x:=e.elim (br.ln x o) (br.pn x o);rcases M with M|M
  ·exact bj.lst bh O x o e (M.symm.trans bk)
  rw[M]at bk;simp at bk;have:=Y.1.lt x bx;omega
 rw[Oc6.1 O]at e;have bP:W.heap.size<=x/\x<bf.heap.size:=e.elim (fun e=>⟨(bE x o e).1,(bE x o e).2.1⟩) (fun e=>⟨(bG x o e).1,(bG x o e).2.1⟩);rcases M with M|M
 ·have:=(bC x (M.symm.trans bk)).2;omega
 rw[M]at bk;simp at bk;omega
theorem SW.ck {y w w' F E H mv bl i m}(h:SW y w F E H mv bl i m)(I:CK w w')(ho:Ju y.F0 y.w0 w'):SW y w' F E H mv bl i m:=
 ⟨h.si.ck I ho,h.at_,Jxz h.own I,h.held,h.arr,h.lst⟩
abbrev Mr.ab (m:Mr):Option Nat:=(Value.slice m.ba m.R.bs.length m.bc).ownBlock
def Kr5 (ids:List Nat)(x:Nat×Nat):List Nat:=(ids.take (x.1+x.2)).drop x.1
theorem CK.isCells {W y}(h:CK W y){k:Nat}(K:∃ o:Obj,W.heap[k]?=some o/\o.isCells=true):∃ o:Obj,y.heap[k]?=some o/\o.isCells=true:=by
 obtain⟨o,H,I⟩:=K;cases o<;>first|exact⟨_,h.cells _ _ _ _ H,rfl⟩|(cases I)
theorem Zb.narrow {w F d D}(h:Zb w F d D):Zb w (fun k=>F k/\∃ o:Obj,w.heap[k]?=some o/\o.isCells=true) d D:=by
 obtain⟨sv,ps,h⟩:=h;refine⟨sv,ps,h.cells,h.own,fun g H=>⟨⟨(h.ownF g H).1,?_⟩,(h.ownF g H).2⟩,⟨h.dF,_,h.cells,rfl⟩,h.len,fun i b hb=>?_,h.vacant,h.inj,h.low,h.full,h.small⟩
 ·obtain⟨O,y⟩:=Ja4 h.own H;exact⟨_,y,rfl⟩
 obtain⟨a1,a2,K,p,M,I⟩:=h.page i b hb;obtain⟨c,y,_⟩:=I.2;exact⟨⟨a1,_,y,rfl⟩,a2,K,p,M,I⟩
theorem SW.narrow {I w F E K mv bl i m}(h:SW I w F E K mv bl i m):SW I w (fun k=>F k/\∃ o:Obj,w.heap[k]?=some o/\o.isCells=true) E K mv bl i m:=
 ⟨⟨h.si.st,h.si.own,h.si.msb,fun m H=>⟨(h.si.runs m H).1,fun e=>(h.si.runs m H).2.1 e.1,fun k y e=>(h.si.runs m H).2.2 k y e.1⟩,h.si.off,h.si.sep,h.si.disk.narrow,fun k y=>h.si.flt k y.1,fun e=>h.si.sF e.1,fun g M e=>h.si.mF g M e.1,fun k y=>h.si.ffr k y.1,h.si.old,h.si.top,h.si.blks⟩,h.at_,h.own,h.held,h.arr,h.lst⟩
structure WrI (K:SC) (w:World) (F:Nat->Prop) (E:DS) (Ms:List Mr) (mv:Value) (z i:Nat) (m:Mr) (ids:List Nat) (L pb:Nat) (pre:List (Nat×Nat)) (W:World) (F':Nat->Prop) (E':DS) (m':Mr):Prop where
 sw:SW K W F' E' (Ms.set i m') mv (z:Int) i m'
 rb:m'.rb=m.rb
 place:m'.R.place=m.R.place
 ids:m'.R.bs.map (·.ids)=m.R.bs.map (·.ids)++pre.map (Kr5 ids)
 ffr:∀ k,F' k->F k\/L<=k
 nfr:∀ k,m'.N k->m.N k\/L<=k
 afr:∀ g,m'.ab=some g->m.ab=some g\/L<=g
 b0:W.heap[w.heap.size]?=some (.cells #[.pointer (some ⟨K.sb,0,none⟩)] 302 (0,0))
 b1:W.heap[w.heap.size+1]?=some (.cells #[.pointer (some ⟨m.rb,0,none⟩)] 356 (0,0))
 b2:W.heap[w.heap.size+2]?=some (.cells #[.nilIface] 80 (0,0))
 keep:Ju (fun k=>F k\/k=m.rb\/m.ab=some k) w W
 size:L<=W.heap.size
 pgs:dz E'<=dz E+pb*pre.length
 fcl:∀ k,F' k->L<=k->∃ o:Obj,W.heap[k]?=some o/\o.isCells=true
theorem Kr0 {G w W H row}(h:Ju G w W)(y:W.grownBy H row)(hr:∀ r,row=some r->w.heap.size<=r):Ju G w H:=
 ⟨y.os.trans h.os,y.tape.trans h.tape,y.output.trans h.output,Ob2 h.size y.size,fun k I K=>(y.block k (Oc2 I h.size) fun e=>by have:=hr k e.symm;omega).trans (h.block k I K)⟩
theorem WrI.kept {I w F E O mv z i m ids L Z bf W U M K Y row}(h:WrI I w F E O mv z i m ids L Z bf W M K Y)(bj:w.heap.size<=L)(bi:I.w0.heap.size<=w.heap.size)(H:W.grownBy U row)(hr:∀ r,row=some r->L<=r/\∃ o:Obj,W.heap[r]?=some o/\o.isCells=false):WrI I w F E O mv z i m ids L Z bf U M K Y:=by
 have y:=CK.of_grown H fun r e=>(hr r e).2;exact⟨h.sw.ck y (Kr0 h.sw.si.old H fun r e=>by have:=(hr r e).1;omega),h.rb,h.place,h.ids,h.ffr,h.nfr,h.afr,y.cells _ _ _ _ h.b0,y.cells _ _ _ _ h.b1,y.cells _ _ _ _ h.b2,Kr0 h.keep H fun r e=>by have:=(hr r e).1;omega,Ob2 h.size H.size,h.pgs,fun k bh hl=>y.isCells (h.fcl k bh hl)⟩
theorem SW.box {M w W F K E bh O mv}{z i L:Nat}{m I}(H:SW M w F E O mv (z:Int) i m)(h:SW M W K bh (O.set i I) mv (z:Int) i I)(bx:w.heap.size+5<=L)(bz:I.rb=m.rb)(ffr:∀ k,K k->F k\/L<=k)(nfr:∀ k,I.N k->m.N k\/L<=k)(afr:∀ g,I.ab=some g->m.ab=some g\/L<=g)(b:Nat)(hb:w.heap.size<=b/\b<w.heap.size+5)v:SW M (W.setCell ⟨b,0,none⟩ v) K bh (O.set i I) mv (z:Int) i I:=by
 have bj:=Of6 H.at_;have bA:=Jd H.si.st;have bB:=H.si.old.size;have br:¬ K b:=fun U=>(ffr b U).elim (fun y=>by have:=H.si.flt b y;omega) (fun y=>zo);have bi:Ju (fun k=>k=b) W (W.setCell ⟨b,0,none⟩ v):=Ju.set (F:=fun k=>k=b) (Ju.refl _ _) rfl 0 v;have bk:=h.si.keep bi (fun k e=>zo) (fun e=>zo) (fun g Y e=>by have:=Qk H.si.own Y;omega) (fun k U e=>br (e▸U)) (fun x bf=>by
  rcases List.mem_or_eq_of_mem_set bf with bf|rfl
  ·have hr:=H.si.runs x bf;exact⟨fun e=>by have:=Jd hr.1.cells;omega,fun k Z e=>by have:=hr.1.lt k Z;omega⟩
  have hr:=H.si.runs m bj;exact⟨fun e=>by have:=Jd hr.1.cells;omega,fun k Z e=>(nfr k Z).elim (fun y=>by have:=hr.1.lt k y;omega) (fun y=>zo)⟩)
 refine⟨bk,h.at_,h.own.of_block fun g Y=>Oa4 _ _ _ _ fun e=>?_,h.held,h.arr,h.lst⟩;have e:g=b:=e;rcases afr g Y with y|y
 ·have:=(Je H.own y).2;omega
 omega
def Kw4 (H:SC)(w:World)(F:Nat->Prop)(E:DS)(M:List Mr)(mv:Value)(z i:Nat)(m:Mr)(ids:List Nat)(O:Nat)(e:Ending)(w':World):Prop:=
 Ju (fun k=>F k\/k=m.rb\/m.ab=some k) w w'/\∃ I K y,SW H w' I K (M.set i y) mv (z:Int) i y/\y.rb=m.rb/\y.R.place=m.R.place/\(∀ k,I k->F k\/w.heap.size<=k)/\(∀ k,y.N k->m.N k\/w.heap.size<=k)/\(∀ g,y.ab=some g->m.ab=some g\/w.heap.size<=g)/\dz K<=dz E+O*ckN ids.length z /\
  ((e=.returned .nilIface/\y.R.bs.flatMap (·.ids)=m.R.bs.flatMap (·.ids)++ids) \/
   (∃ x b,e=.returned (.iface 158 (.pointer (some ⟨b,0,none⟩)))/\Yu w' (.iface 158 (.pointer (some ⟨b,0,none⟩))) (if x=true then H.q else H.qw) none (some (-1))/\w.heap.size<=b/\¬ I b/\¬ y.N b/\Ks1 H.D0 x))
structure WrX (K:SC) (w:World) (F:Nat->Prop) (E:DS) (Ms:List Mr) (mv:Value) (z i:Nat) (m:Mr) (ids:List Nat) (L pb:Nat) (W:World) (F':Nat->Prop) (E':DS) (m':Mr) (x:Bool) (b:Nat):Prop where
 sw:SW K W F' E' (Ms.set i m') mv (z:Int) i m'
 rb:m'.rb=m.rb
 place:m'.R.place=m.R.place
 ffr:∀ k,F' k->F k\/L<=k
 nfr:∀ k,m'.N k->m.N k\/L<=k
 afr:∀ g,m'.ab=some g->m.ab=some g\/L<=g
 b2:W.heap[w.heap.size+2]?=some (.cells #[.iface 158 (.pointer (some ⟨b,0,none⟩))] 80 (0,0))
 ch:Yu W (.iface 158 (.pointer (some ⟨b,0,none⟩))) (if x=true then K.q else K.qw) none (some (-1))
 bn:L<=b/\¬ F' b/\¬ m'.N b
 keep:Ju (fun k=>F k\/k=m.rb\/m.ab=some k) w W
 size:L<=W.heap.size
 pgs:dz E'<=dz E+pb*ckN ids.length z
 why:Ks1 K.D0 x
theorem Kxt ids z:∀ k,((cks ids.length z k).map (Kr5 ids)).flatten=ids.take (k*z):=by
 intro k;induction k with
 |zero=>simp[cks]
 |succ k I=>
  rw[Jbj,Ob8,List.flatten_append,I];simp only[Oe4,Oi4,List.flatten_cons,List.flatten_nil,Od7];unfold Kr5 Jaa;have y:ids.take (k*z+min z (ids.length-k*z))=ids.take ((k+1)*z):=by
   rw[Nat.add_mul,Nat.one_mul];by_cases h:z<=ids.length-k*z
   ·rw[Oj1 h]
   rw[Oc8 zo,Oc8 zo]
  simp only;rw[y];have H:ids.take (k*z)=(ids.take ((k+1)*z)).take (k*z):=by rw[List.take_take,Oj1 (Om8 z (Nat.le_succ k))]
  rw[H,Ok3]
theorem Kvx ids z(y:1<=z):((cks ids.length z (ckN ids.length z)).map (Kr5 ids)).flatten=ids:=by
 rw[Kxt,Oc8 (Jcy y)]
theorem WrI.from {Z w F E bf mv z i m ids L bj bk W K I Y y}(h:WrI Z w F E bf mv z i m ids L bj bk W I Y y){b}(hb:b<L)(U:Ju (fun k=>I k\/k=y.rb\/y.ab=some k\/k=b) W K):KeepsFrom L W K:=
 ⟨U.size,fun k o bh H ho=>(U.block k (Jd H) fun e=>by
  have no:¬ ∃ o:Obj,W.heap[k]?=some o/\o.isCells=true:=fun ⟨bx,M,O⟩=>by
   rw[H]at M;cases M
   rw[ho]at O;cases O
  rcases e with e|e|e|e
  ·exact no (h.fcl k e bh)
  ·have:=(h.sw.si.runs y (Of6 h.sw.at_)).1.cells;exact no ⟨_,e▸this,rfl⟩
  ·obtain⟨br,bi⟩:=Ja4 h.sw.own e;exact no ⟨_,bi,rfl⟩
  omega).trans H⟩
theorem WrI.next {H w F E bj mv}{z i:Nat}{m ids}{L bA:Nat}{bE W M bk O bf FD bi Z y}(bh:SW H w F E bj mv (z:Int) i m)(h:WrI H w F E bj mv z i m ids L bA bE W bf bi y)(ca:w.heap.size+5<=L)b x(bM:b.ids=Kr5 ids x)(bP:∀ t∈b.ids,t<nR H.cs)(bN:1<=b.ids.length/\b.ids.length<=64)(bz:Ju bf W M)(bO:Zb M FD H.d Z)(bC:∀ k,FD k->bf k\/W.heap.size<=k)(bR:∀ k,FD k->k<M.heap.size)(bJ:Jjo bi Z (Qu (Kr6 H.ts (Jba b.ids H.cs) H.ts.length)) b.l)(bQ:b.l.length<=1000000)(bS:Jo M W.heap.size 3 (.slice b.la H.ts.length b.lc) ((Ktd H.ts (Jba b.ids H.cs) H.ts.length).map nv))(bT:∀ g,(Value.slice b.la H.ts.length b.lc).ownBlock=some g->¬ FD g)(bW:Jo M W.heap.size 3 (.slice b.pa b.l.length b.pc) (b.l.map nv))(bX:∀ g,(Value.slice b.pa b.l.length b.pc).ownBlock=some g->¬ FD g)(bB:Below M.heap.size M bk){a2}{I:Nat}(bH:Kvu O H.w0.heap.size H.ts.length (.slice a2 (y.R.bs.length+1) I) (y.R.bs++[b]))(bI:bk.grownBy O y.ab)(U:(Value.slice a2 (y.R.bs.length+1) I).ownBlock=y.ab\/(Value.slice a2 (y.R.bs.length+1) I).ownBlock=some bk.heap.size)(bV:dz Z<=dz bi+bA):
  (∃ bG bY,WrI H w F E bj mv z i m ids L bA (bE++[x]) (O.setCell ⟨y.rb,1,none⟩ (.slice a2 (y.R.bs.length+1) I)) bG Z bY)/\KeepsFrom L W (O.setCell ⟨y.rb,1,none⟩ (.slice a2 (y.R.bs.length+1) I))/\Ju (fun k=>bf k\/k=y.rb\/y.ab=some k) W (O.setCell ⟨y.rb,1,none⟩ (.slice a2 (y.R.bs.length+1) I)):=by
 obtain⟨bZ,bD,Y,bK⟩:=h.sw.wrote b bP bN bz bO bC bR bJ bQ bS bT bW bX bB bH bI U;rw[List.set_set]at bD;have cj:=h.size;have bU:=Of6 bh.at_;have cc:m.rb<w.heap.size:=Jd (bh.si.runs m bU).1.cells;have bL:∀ g,m.ab=some g->g<w.heap.size:=fun g br=>(Je bh.own br).2;have far:∀ k,w.heap.size<=k->k<w.heap.size+5->(O.setCell ⟨y.rb,1,none⟩ (.slice a2 (y.R.bs.length+1) I)).heap[k]?=W.heap[k]?:=fun k bz cb=>Y.block k zo fun e=>by
  rcases e with e|e|e
  ·rcases h.ffr k e with e|e
   ·have:=bh.si.flt k e;omega
   omega
  ·rw[h.rb]at e;omega
  rcases h.afr k e with e|e
  ·have:=bL k e;omega
  omega
 have ci:=bB.size;have cf:=bz.size;refine⟨⟨_,_,bD.narrow,h.rb,h.place,?_,fun k K=>(bC k K.1).elim (h.ffr k) (fun e=>.inr zo),fun k K=>(bK k K).elim (h.nfr k) (fun e=>.inr zo),fun g br=>?_,(far _ zo zo).trans h.b0,(far _ zo zo).trans h.b1,(far _ zo zo).trans h.b2,?_,by have:=Y.size;omega,?_,fun k K _=>K.2⟩,h.from (b:=w.heap.size) zo (Y.mono fun k _ K=>K.imp id (Or.imp id .inl)),Y⟩
 ·simp only[Ob8,Oe4,Oi4,h.ids,bM,Od8]
 ·have bx:(Value.slice a2 (y.R.bs.length+1) I).ownBlock=some g:=by simpa [Mr.ab] using br
  rcases U with U|U
  ·exact h.afr g (U.symm.trans bx)
  rw[U]at bx;simp at bx;exact .inr zo
 ·refine h.keep.trans' Y fun k K e=>?_;rcases e with e|e|e
  ·exact .inl ((h.ffr k e).resolve_right zo)
  ·exact .inr (.inl (e.trans h.rb))
  exact .inr (.inr ((h.afr k e).resolve_right zo))
 rw[Oa8,List.length_singleton,Nat.mul_add,Nat.mul_one,<-On5];exact Ob2 bV (Nat.add_le_add_right h.pgs _)
theorem Kwb {P l n id y Q S a w}M(I:P.follows .mixedOrders=true)(K:Ki4 y=true)(H:S w.drew)(h:S w.drew->Ktb P .any y (Jpf Q) S M y.size (Array.replicate y.size false) a w.drew):(Code.region id y true).wpIn (Fence.wide.inRound l) n P Q a w:=
 Code.wpIn_mono Jpf.imp (wpIn_region_any I (Ki2 K Jpf.shut _ _ _ _ (Kth _ _ _ _ (h H))))
