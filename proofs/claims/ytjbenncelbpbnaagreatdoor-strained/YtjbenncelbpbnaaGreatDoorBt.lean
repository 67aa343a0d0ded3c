/- Runs that are merged: which is ahead, by the numbers of their rows. -/
import Derived.Test.YtjbenncelbpbnaaGreatDoorAz
import Derived.Test.YtjbenncelbpbnaaGreatDoorAu
set_option maxHeartbeats 4000000
set_option maxRecDepth 100000
namespace Go.Proofs.YtjbenncelbpbnaaGreatDoor
section
open Go.RowKit Go.Shelf
def Ksc (y:List Mr)(r:Nat):Nat:=((y.find? fun m=>m.rb==r).map fun m=>m.R.held.headD 0).getD 0
theorem Ksf {y}(hs:∀ (i j:Nat) I K,y[i]?=some I->y[j]?=some K->i≠j->I.rb≠K.rb){i:Nat}{m}(hi:y[i]?=some m):Ksc y m.rb=m.R.held.headD 0:=by
 unfold Ksc;cases hf:y.find? (fun x=>x.rb==m.rb)with
 |none=>
  have:=List.find?_eq_none.1 hf m (Of6 hi);simp at this
 |some x=>
  have Y:=List.find?_some hf;have Z:=List.mem_of_find?_eq_some hf;obtain⟨j,M,e⟩:=Od5 Z;have H:y[j]?=some x:=by rw[Oa3 M,e]
  have O:j=i:=Decidable.byContradiction fun U=>hs j i x m H hi U (by simpa using Y);subst O;rw[hi]at H;cases H
  rfl
structure Ktk (Ms:List Mr) (idx:List Nat):Prop where
 nd:idx.Nodup
 ex:∀ i∈idx,∃ m,Ms[i]?=some m
 pl:∀ i j mi mj,i∈idx->j∈idx->Ms[i]?=some mi->Ms[j]?=some mj->mi.R.place<mj.R.place->∀ a∈mi.R.rem,∀ b∈mj.R.rem,a<b
 pd:∀ i j mi mj,i∈idx->j∈idx->Ms[i]?=some mi->Ms[j]?=some mj->i≠j->mi.R.place≠mj.R.place
def Kvi (y:List Mr)(idx:List Nat)(r:Nat):Prop:=∃ i m,i∈idx/\y[i]?=some m/\m.rb=r/\m.R.held≠[]
theorem Kuh {R:Rn}(h:R.held≠[]):R.held.head?=some (R.held.headD 0)/\R.held.headD 0∈R.rem:=by
 cases hh:R.held with
 |nil=>exact absurd hh h
 |cons a l=>exact⟨rfl,by simp[Rn.rem,hh]⟩
theorem SI.ahOk {y w F G E O mv bl idx}(h:SI y w F E O mv bl)(hK:SK y)(hM:Ktk O idx)(bC:∀ k,G k->y.w0.heap.size<=k)(bE:¬ G y.sb)(bD:∀ g,mv.ownBlock=some g->¬ G g)(hF:∀ k,F k->¬ G k)(bj:∀ m∈O,¬ G m.rb/\∀ k,m.N k->¬ G k):
  Kur w G y.sb (Kvi O idx) (Ksc O) (Kr5 y.ks y.cs):=by
 intro W hW r s ⟨i,H,hi,M,er,bz⟩ ⟨j,I,Y,K,es,bB⟩;have U:=h.keep hW bC bE bD hF bj;have bi:=U.env hK;have bI:=(U.runs H (Of6 M)).1;have bJ:=(U.runs I (Of6 K)).1;have bG:=Ksf (fun i j H I a b c=>(h.sep i j H I a b c).1) M;have bH:=Ksf (fun i j H I a b c=>(h.sep i j H I a b c).1) K;obtain⟨br,bf⟩:=Kuh bz;obtain⟨bx,bh⟩:=Kuh bB;subst er es;rw[bG,bH];have bk:=Kxk y.sb y.kb y.ko y.kc H.rb I.rb _ _ _ _ y.ts y.cs y.ks W hK.sg bi.so.key (bI.atRow br) (bJ.atRow bx);refine bk.mono fun e w' hp=>⟨?_,hp.2⟩;rw[hp.1];refine Qr ?_;unfold Kyw ltB;by_cases h0:Kr5 y.ks y.cs (H.R.held.headD 0) (I.R.held.headD 0)=0
 ·rw[if_neg (fun x=>x h0),h0];have bA:H.R.place<I.R.place↔H.R.held.headD 0<I.R.held.headD 0:=by
   by_cases Z:i=j
   ·subst Z;rw[M]at K;cases K;simp
   have bM:=hM.pd i j H I hi Y M K Z;constructor
   ·intro hp;exact hM.pl i j H I hi Y M K hp _ bf _ bh
   intro bL;refine Decidable.byContradiction fun hn=>?_;have:=hM.pl j i I H Y hi K M zo _ bh _ bf;omega
  simp[bA]
 rw[if_pos h0];exact decide_eq_decide.2 ⟨.inl,fun x=>x.resolve_right fun bK=>h0 bK.1⟩
end
section
open Go.RowKit Go.Shelf Tryz
theorem Kxj {ts cs ks}(M:Sg ts cs ks){ids}(bh:ids.Pairwise (·<·)){g}(h:Qb7 ks (Jba ids cs) ids.length g):(Jba ids cs).map (Yq (Ktn ids.length g))=Jba (Ksg (Kr5 ks cs) ids) cs:=by
 have y:∀ i,i<ids.length->g i<ids.length:=fun i hi=>by
  obtain⟨t,_,bi,e⟩:=h.arr.at (k:=i) ⟨Ob7 _,hi⟩;rw[e];exact bi
 rw[Kyb ids cs ids.length g y];congr 1
 have O:(List.range ids.length).map (fun i=>ids.getD (g i) 0)=((List.range ids.length).map g).map fun i=>ids.getD i 0:=by rw[Oi6];rfl
 have U:(List.range ids.length).map (fun i=>ids.getD i 0)=ids:=by
  refine Oh4 zS fun i bj Y=>?_;rw[Od9,Oo7,Oa0,Oa3 Y];rfl
 refine Kws M.ord ?_ ?_
 ·rw[O];have:=(Qbj h.arr).map fun i=>ids.getD i 0;rw[U]at this;exact this
 rw[List.pairwise_iff_getElem];intro i j hi H bf;simp only[Oa6,Op1]at hi H;simp only[Od9,Oo7];have hs:=h.srt i j (Ob7 _) bf H;have Z:Ks6 ks (Kr4 (Jba ids cs) (g i)) (Kr4 (Jba ids cs) (g j))=Kr5 ks cs (ids.getD (g i) 0) (ids.getD (g j) 0):=Qab M ids (y i hi) (y j H);unfold Lt at hs |-;simp only[Z]at hs;rcases hs with hs|⟨h0,hl⟩
 ·exact .inl hs
 refine .inr ⟨h0,?_⟩;have I:=y i hi;have K:=y j H;have:=(List.pairwise_iff_getElem.1 bh) (g i) (g j) I K hl;rw[Oa0,Oa3 I,Oa0,Oa3 K];exact this
theorem Kt3 sb kb ko kc I cp ts cs ks hs ids w(K:Sg ts cs ks)(hK:Kw7 w sb kb ko kc ks)(hC:Qd w I hs (Jba ids cs))(bh:ids.Pairwise (·<·))(bf:∀ i∈ids,i<nR cs)(bi:ids.length<=100000):
  Calls prog 154 #[.pointer (some ⟨sb,0,none⟩),.slice (some ⟨I,0,none⟩) cs.length cp] w fun e w'=>Below w.heap.size w w'/\∃ y H,e=.returned (.slice (some ⟨y,0,none⟩) cs.length cs.length)/\w.heap.size<=y/\Qd w' y H (Jba (Ksg (Kr5 ks cs) ids) cs)/\Kzr w w' H cs.length:=by
 have h:=Kvu sb kb ko kc ks I cp hs (Jba ids cs) ids.length w hK hC (K.keyC ids bi) (K.ordP ids bf);rw[Krw]at h;refine h.mono fun e w' hp=>?_;obtain⟨hb,y,g,H,Y,Z,U,M,O⟩:=hp;rw[Kxj K bh U]at M;exact⟨hb,y,H,Y,Z,M,O⟩
end
section
open Go.RowKit Go.Shelf
theorem CellsX.ck {W y a xs}(h:Uh W a xs)(hk:CK W y):Uh y a xs:=by
 rcases h with h|⟨b,o,H,I,K⟩
 ·exact .inl h
 exact .inr ⟨b,o,H,Oc2 I hk.size,fun i v hi=>hk.cell (K i v hi)⟩
theorem Jf1.ck {w w' F d D sv ps}(h:Jf1 w F d D sv ps)(hk:CK w w'):Jf1 w' F d D sv ps:=
 ⟨hk.cells _ _ _ _ h.cells,Jxz h.own hk,h.ownF,h.dF,h.len,fun i b hi=>by
  obtain⟨H,I,K,p,M,y⟩:=h.page i b hi;exact⟨H,I,K,p,M,y.1,Jq5 y.2 hk⟩,h.vacant,h.inj,h.low,h.full,h.small⟩
theorem Zb.ck {w w' F d D}(h:Zb w F d D)(hk:CK w w'):Zb w' F d D:=by
 obtain⟨sv,ps,h⟩:=h;exact⟨sv,ps,h.ck hk⟩
section
variable {w w':World} {N:Nat->Prop} {ts:List Int} {cs:Cs}
theorem Kv1.ck {b}(h:Kv1 w N ts cs b)(hk:CK w w'):Kv1 w' N ts cs b:=⟨CellsX.ck h.lens hk,CellsX.ck h.pages hk,h.ln,h.pn⟩
theorem Ktm.ck {ids hv}(h:Ktm w N cs ids hv)(hk:CK w w'):Ktm w' N cs ids hv:=by
 rcases h with h|⟨y,hb,hs,cap,H,I,K⟩
 ·exact .inl h
 exact .inr ⟨y,hb,hs,cap,H,I.ck hk,K⟩
theorem Ksp.ck {rb R ba bc hv}(h:Ksp w N ts cs rb R ba bc hv)(hk:CK w w'):Ksp w' N ts cs rb R ba bc hv:=
 ⟨hk.cells _ _ _ _ h.cells,CellsX.ck h.arr hk,h.an,h.cap,fun b hb=>(h.blk b hb).ck hk,h.held.ck hk,h.nr,fun k hn=>Oc2 (h.lt k hn) hk.size⟩
end
theorem SI.ck {y w w' F E H mv bl}(h:SI y w F E H mv bl)(hk:CK w w')(ho:Ju y.F0 y.w0 w'):SI y w' F E H mv bl:=
 ⟨hk.cells _ _ _ _ h.st,Jxz h.own hk,h.msb,fun m I=>⟨(h.runs m I).1.ck hk,(h.runs m I).2⟩,h.off,h.sep,h.disk.ck hk,fun k hf=>Oc2 (h.flt k hf) hk.size,h.sF,h.mF,h.ffr,ho,h.top,h.blks⟩
end
section
open Go.RowKit Go.Shelf Tryz
def Kvh (w:World)(B tn:Nat)(sv:Value)(bs:List Bk):Prop:=w.ownsRow B 359 3 sv bs.length (bs.flatMap (Bk.cells tn))
theorem Qcs:(prog.info? 359).map (fun i=>(i.zero,i.size,i.bytes))=some (some (.agg #[.int .i64 0,.slice none 0 0,.slice none 0 0]),3,56):=zK
theorem Kvh.slice {w B tn sv bs}(h:Kvh w B tn sv bs):∃ a cap,sv=.slice a bs.length cap/\Uh w a (bs.flatMap (Bk.cells tn))/\bs.length<=cap/\∀ x o,a=some ⟨x,o,none⟩->sv.ownBlock=some x:=by
 obtain⟨h0,⟨y,H⟩|⟨g,cap,O,y,H,I,K,U,Y,M⟩⟩:=h
 ·have:bs=[]:=List.eq_nil_of_length_eq_zero H;subst this;exact⟨none,0,y,.inl rfl,Oa2 _,fun x o e=>by cases e⟩
 refine⟨some ⟨g,0,none⟩,cap,y,.inr ⟨g,0,rfl,Jd I,fun i v hi=>?_⟩,K,fun x o e=>?_⟩
 ·rw[<-M]at hi;have hl:i<bs.length*3:=by have:=(Ob9.1 hi).1;simp at this;omega
  rw[Oh3 hl]at hi;simp only[World.cell?,I,Od0];simpa using hi
 simp at e;rw[y];simp[Value.ownBlock,e.1]
theorem Kvh.of_block {w w' B tn sv bs}(h:Kvh w B tn sv bs)(hb:∀ g,sv.ownBlock=some g->w'.heap[g]?=w.heap[g]?):Kvh w' B tn sv bs:=Jl h hb
structure SW (K:SC) (w:World) (F:Nat->Prop) (E:DS) (Ms:List Mr) (mv:Value) (bl:Int) (i:Nat) (m:Mr):Prop where
 si:SI K w F E Ms mv bl
 at_:Ms[i]?=some m
 own:Kvh w K.w0.heap.size K.ts.length (.slice m.ba m.R.bs.length m.bc) m.R.bs
 held:m.R.held=[]/\m.hv=.slice none 0 0
 arr:∀ g,(Value.slice m.ba m.R.bs.length m.bc).ownBlock=some g->∀ j mj,Ms[j]?=some mj->j≠i->¬ mj.N g
 lst:∀ b∈m.R.bs,∀ x o,(b.la=some ⟨x,o,none⟩\/b.pa=some ⟨x,o,none⟩)->(Value.slice m.ba m.R.bs.length m.bc).ownBlock≠some x
end
section
open Go.RowKit Go.Shelf
theorem SI.turn2 {M:SC}{w w'}{F Z A:Nat->Prop}{E bi:DS}{I:List Mr}{mv}{bl:Int}{i:Nat}{m y:Mr}(h:SI M w F E I mv bl)(hi:I[i]?=some m)(hk:Ju (fun k=>F k\/k=m.rb\/A k) w w')(bj:∀ k,A k->m.N k)(bM:∀ k,A k->∀ j bJ,I[j]?=some bJ->j≠i->¬ bJ.N k)(bD:∀ k,Z k->F k\/w.heap.size<=k)(bQ:∀ k,Z k->k<w'.heap.size)(U:y.rb=m.rb)(hr:Ksp w' y.N M.ts M.cs y.rb y.R y.ba y.bc y.hv)(bk:∀ k,y.N k->m.N k\/w.heap.size<=k)(bO:∀ k,y.N k->¬ Z k)(bN:Zb w' Z M.d bi)(ht:Top M.D0 bi ((I.set i y).flatMap Mr.ls))(hb:∀ x∈I.set i y,∀ b∈x.R.bs,Kzj M bi b):SI M w' Z bi (I.set i y) mv bl:=by
 have bG:=Of6 hi;have ho:=h.off m bG;have bE:=h.runs m bG;have bI:=Jd h.st;have bV:=Jd bE.1.cells;have bh:∀ k,k<w.heap.size->¬ F k->¬ Z k:=fun k bS hn hf=>(bD k hf).elim hn fun O=>by omega
 have bT:(I.set i y).map (·.rb)=I.map (·.rb):=by
  rw[Op0,U];refine Oi8 fun j=>?_;by_cases e:j=i
  ·subst e;rw[List.getElem?_set_self'];rw[Ob1,hi];rfl
  rw[Od1 (fun bK=>e bK.symm)]
 have bU:∀ x∈I.set i y,Qa3 M mv x:=fun x bf=>by
  rcases List.mem_or_eq_of_mem_set bf with bf|rfl
  ·exact h.off x bf
  exact⟨U▸ho.lo,U▸ho.sb,U▸ho.made,fun k hk=>(bk k hk).elim (ho.nlo k) (fun O=>by have:=h.old.size;omega),fun hn=>(bk _ hn).elim ho.nsb (fun O=>zo),fun g K hn=>(bk _ hn).elim (ho.nmade g K) (fun O=>by have:=Qk h.own K;omega)⟩
 refine⟨(hk.block _ bI (fun hh=>?_)).trans h.st,?_,h.msb,fun x bf=>?_,bU,fun a b bY mb H bB bA=>?_,bN,bQ,bh _ bI h.sF,fun g K=>bh g (Qk h.own K) (h.mF g K),fun k hf=>?_,?_,ht,hb⟩
 ·rcases hh with hf|e|H
  ·exact h.sF hf
  ·exact ho.sb e.symm
  exact ho.nsb (bj _ H)
 ·rw[bT];exact Yd h.own fun g K=>hk.block g (Qk h.own K) (fun hh=>by
   rcases hh with hf|e|H
   ·exact h.mF g K hf
   ·exact ho.made (e▸K)
   exact ho.nmade g K (bj _ H))
 ·obtain⟨j,bR,e⟩:=Od5 bf;rcases getElem?_set_cases (show (I.set i y)[j]?=some x by rw[Oa3 bR,e])with⟨_,rfl⟩|⟨hji,hjx⟩
  ·exact⟨hr,by rw[U];exact bh _ bV bE.2.1,bO⟩
  have Y:=h.runs x (Of6 hjx);have bH:=h.sep j i x m hjx hi hji;have bW:=h.sep i j m x hi hjx (fun e=>hji e.symm);have bX:=Jd Y.1.cells;refine⟨Y.1.keep hk (fun hh=>?_) (fun k hn hh=>?_),bh _ bX Y.2.1,fun k hn=>bh k (Y.1.lt k hn) (Y.2.2 k hn)⟩
  ·rcases hh with hf|e|H
   ·exact Y.2.1 hf
   ·exact bH.1 e
   exact bW.2 (bj _ H)
  rcases hh with hf|e|H
  ·exact Y.2.2 k hn hf
  ·exact bH.2 (e▸hn)
  exact bM k H j x hjx hji hn
 ·rcases getElem?_set_cases H with⟨bL,bx⟩|⟨bP,bz⟩
  ·rcases getElem?_set_cases bB with⟨eb,_⟩|⟨bC,br⟩
   ·exact absurd (bL.trans eb.symm) bA
   have:=h.sep i b m mb hi br (fun e=>bC e.symm);rw[bx];refine⟨U▸this.1,fun hn=>(bk _ hn).elim this.2 fun O=>?_⟩;have:=Jd (h.runs mb (Of6 br)).1.cells;omega
  rcases getElem?_set_cases bB with⟨eb,bx⟩|⟨bC,br⟩
  ·rw[bx,U];exact h.sep a i bY m bz hi bP
  exact h.sep _ _ _ _ bz br bA
 ·rcases bD k hf with O|O
  ·exact h.ffr k O
  exact .inr (by have:=h.old.size;omega)
 refine h.old.trans' hk fun k bS hh=>?_;rcases hh with hf|rfl|H
 ·exact(h.ffr k hf).resolve_right zo
 ·have:=ho.lo;omega
 have:=ho.nlo k (bj k H);omega
theorem SI.disk_same {O w w' F y E M Y mv bl}(h:SI O w F E Y mv bl)(hk:Ju F w w')(Z:∀ k,y k->F k\/w.heap.size<=k)(bi:∀ k,y k->k<w'.heap.size)(bh:Zb w' y O.d M)(hs:Kft E M):SI O w' y M Y mv bl:=by
 have bf:=Jd h.st;have K:∀ k,k<w.heap.size->¬ F k->¬ y k:=fun k bj hn hf=>(Z k hf).elim hn fun U=>by omega
 refine⟨(hk.block _ bf h.sF).trans h.st,Yd h.own fun g H=>hk.block g (Qk h.own H) (h.mF g H),h.msb,fun m I=>?_,h.off,h.sep,bh,bi,K _ bf h.sF,fun g H=>K g (Qk h.own H) (h.mF g H),fun k hf=>?_,h.old.trans' hk fun k bj hf=>(h.ffr k hf).resolve_right zo,h.top.same hs,fun m I b hb=>⟨(h.blks m I b hb).1.same hs,(h.blks m I b hb).2⟩⟩
 ·have hr:=h.runs m I;exact⟨hr.1.keep hk hr.2.1 hr.2.2,K _ (Jd hr.1.cells) hr.2.1,fun k hn=>K k (hr.1.lt k hn) (hr.2.2 k hn)⟩
 rcases Z k hf with U|U
 ·exact h.ffr k U
 exact .inr (by have:=h.old.size;omega)
theorem Kvc {w B e a n c xs}(h:Jo w B e (.slice a n c) xs):Uh w a xs/\(n=xs.length)/\∀ x o,a=some ⟨x,o,none⟩->B<=x/\x<w.heap.size/\(Value.slice a n c).ownBlock=some x:=by
 obtain⟨I,K,y,H⟩:=h.cells;cases y
 refine⟨H,rfl,fun x o e=>?_⟩;have hob:(Value.slice a xs.length c).ownBlock=some x:=by rw[e];rfl
 exact⟨(Je h hob).1,(Je h hob).2,hob⟩
theorem SW.wrote {K W Z bD H F FD E bk br mv bl i m}(bh:SW K W F E br mv bl i m)b(cD:∀ t∈b.ids,t<nR K.cs)(cA:1<=b.ids.length/\b.ids.length<=64)(bA:Ju F W Z)(cB:Zb Z FD K.d bk)(cb:∀ k,FD k->F k\/W.heap.size<=k)(cf:∀ k,FD k->k<Z.heap.size)(bR:Jjo E bk (Qu (Kr3 K.ts (Jba b.ids K.cs) K.ts.length)) b.l)(cF:b.l.length<=1000000)(cH:Jo Z W.heap.size 3 (.slice b.la K.ts.length b.lc) ((Ks8 K.ts (Jba b.ids K.cs) K.ts.length).map nv))(cI:∀ g,(Value.slice b.la K.ts.length b.lc).ownBlock=some g->¬ FD g)(cJ:Jo Z W.heap.size 3 (.slice b.pa b.l.length b.pc) (b.l.map nv))(cK:∀ g,(Value.slice b.pa b.l.length b.pc).ownBlock=some g->¬ FD g)(bx:Below Z.heap.size Z bD){a2 y}(bO:Kvh H K.w0.heap.size K.ts.length (.slice a2 (m.R.bs.length+1) y) (m.R.bs++[b]))(bH:bD.grownBy H (Value.slice m.ba m.R.bs.length m.bc).ownBlock)(M:(Value.slice a2 (m.R.bs.length+1) y).ownBlock=(Value.slice m.ba m.R.bs.length m.bc).ownBlock\/(Value.slice a2 (m.R.bs.length+1) y).ownBlock=some bD.heap.size):
  ∃ bN,SW K (H.setCell ⟨m.rb,1,none⟩ (.slice a2 (m.R.bs.length+1) y)) FD bk (br.set i ⟨m.rb,⟨m.R.place,m.R.bs++[b],[]⟩,bN,a2,y,.slice none 0 0⟩) mv bl i ⟨m.rb,⟨m.R.place,m.R.bs++[b],[]⟩,bN,a2,y,.slice none 0 0⟩/\Ju (fun k=>F k\/k=m.rb\/(Value.slice m.ba m.R.bs.length m.bc).ownBlock=some k) W (H.setCell ⟨m.rb,1,none⟩ (.slice a2 (m.R.bs.length+1) y))/\∀ k,bN k->m.N k\/W.heap.size<=k:=by
 have h:=bh.si;have hi:=bh.at_;have bU:=Of6 hi;have U:=h.runs m bU;have ho:=h.off m bU;have cn:=Jd U.1.cells;have cZ:=bA.size;have da:=bx.size;have db:=bH.size;have bz:∀ g,(Value.slice m.ba m.R.bs.length m.bc).ownBlock=some g->m.N g/\g<W.heap.size:=fun g I=>by
  have cG:=(Je bh.own I).2;obtain⟨a,cap,cX,_,_,bW⟩:=bh.own.slice;cases hba:m.ba with
  |none=>rw[hba]at I;simp[Value.ownBlock]at I
  |some cU=>
   rcases bh.own with⟨_,⟨h0,_⟩|⟨cy,cV,cW,h0,_⟩⟩
   ·rw[hba]at h0;simp at h0
   simp at h0;have bX:=h0.1;rw[bX]at I;simp[Value.ownBlock]at I;subst I;exact⟨U.1.an cy 0 bX,cG⟩
 have dc:(H.setCell ⟨m.rb,1,none⟩ (.slice a2 (m.R.bs.length+1) y)).heap.size=H.heap.size:=zS;have bS:∀ k,k≠m.rb->(H.setCell ⟨m.rb,1,none⟩ (.slice a2 (m.R.bs.length+1) y)).heap[k]?=H.heap[k]?:=fun k hk=>Oa4 _ _ _ _ hk;have bQ:∀ k,k<bD.heap.size->(Value.slice m.ba m.R.bs.length m.bc).ownBlock≠some k->H.heap[k]?=bD.heap[k]?:=fun k hk bG=>bH.block k hk fun e=>bG e.symm;have bP:∀ k,k<Z.heap.size->(Value.slice m.ba m.R.bs.length m.bc).ownBlock≠some k->k≠m.rb->(H.setCell ⟨m.rb,1,none⟩ (.slice a2 (m.R.bs.length+1) y)).heap[k]?=Z.heap[k]?:=fun k hk bG hr=>by
  rw[bS k hr,bQ k zo bG,bx.block k hk]
 have cL:H.heap[m.rb]?=some (.cells #[.int .i64 (m.R.place:Nat),.slice m.ba m.R.bs.length m.bc,.slice none 0 0] 357 (0,0)):=by
  rw[bQ _ zo (fun e=>U.1.nr (bz _ e).1),bx.block _ zo,bA.block _ cn U.2.1];have:=U.1.cells;rw[bh.held.2]at this;exact this
 obtain⟨cv,de,bB⟩:=Kvc cH;obtain⟨cp,np,bC⟩:=Kvc cJ;have cc:Ju (fun k=>F k\/k=m.rb\/(Value.slice m.ba m.R.bs.length m.bc).ownBlock=some k) W (H.setCell ⟨m.rb,1,none⟩ (.slice a2 (m.R.bs.length+1) y)):=by
  refine Ju.set (b:=m.rb) ?_ (.inr (.inl rfl)) 1 _;exact⟨bH.os.trans (bx.os.trans bA.os),bH.tape.trans (bx.tape.trans bA.tape),bH.output.trans (bx.output.trans bA.output),zo,fun k hk bG=>by
   rw[bQ k zo (fun e=>bG (.inr (.inr e))),bx.block k zo,bA.block k hk (fun e=>bG (.inl e))]⟩
 have bV:∀ k,k<W.heap.size->¬ F k->¬ FD k:=fun k cY hn hf=>(cb k hf).elim hn fun Y=>by omega
 have cj:∀ g,(Value.slice a2 (m.R.bs.length+1) y).ownBlock=some g->(m.N g/\g<W.heap.size)\/g=bD.heap.size:=fun g I=>by
  rcases M with M|M
  ·exact .inl (bz g (M.symm.trans I))
  rw[M]at I;simp at I;exact .inr I.symm
 have cE:∀ g,(Value.slice a2 (m.R.bs.length+1) y).ownBlock=some g->g<H.heap.size:=fun g I=>(Je bO I).2;obtain⟨cu,cx,es,ca,bZ,hob⟩:=bO.slice;have bY:cu=a2/\cx=y:=by simp at es;exact⟨es.1.symm,es.2.symm⟩
 rw[bY.1]at ca hob;rw[bY.2]at bZ;have ci:∀ g,(Value.slice a2 (m.R.bs.length+1) y).ownBlock=some g->g≠m.rb:=fun g I e=>by
  rcases cj g I with Y|Y
  ·exact U.1.nr (e▸Y.1)
  omega
 refine⟨fun k=>m.N k\/(W.heap.size<=k/\k<H.heap.size/\¬ FD k),?_,cc,fun k hk=>hk.imp id (·.1)⟩;have cM:Ksp (H.setCell ⟨m.rb,1,none⟩ (.slice a2 (m.R.bs.length+1) y)) (fun k=>m.N k\/(W.heap.size<=k/\k<H.heap.size/\¬ FD k)) K.ts K.cs m.rb ⟨m.R.place,m.R.bs++[b],[]⟩ a2 y (.slice none 0 0):=by
  refine⟨?_,ca.on zo fun x o e=>bS x (ci x (hob x o e)),fun x o e=>?_,by simpa using bZ,fun bf O=>?_,.inl ⟨rfl,rfl⟩,fun hh=>?_,fun k hk=>?_⟩
  ·rw[Jk cL];simp
  ·rcases cj x (hob x o e)with Y|Y
   ·exact .inl Y.1
   exact .inr ⟨zo,cE x (hob x o e),fun hf=>by have:=cf x hf;omega⟩
  ·rcases Od2.1 O with O|O
   ·have bj:=U.1.blk bf O;have bI:∀ x o,(bf.la=some ⟨x,o,none⟩\/bf.pa=some ⟨x,o,none⟩)->m.N x->(H.setCell ⟨m.rb,1,none⟩ (.slice a2 (m.R.bs.length+1) y)).heap[x]?=W.heap[x]?:=fun x o e hn=>by
     have cS:=U.1.lt x hn;rw[bP x zo (bh.lst bf O x o e) (fun bW=>U.1.nr (bW▸hn)),bA.block x cS (U.2.2 x hn)]
    exact⟨bj.lens.on zo fun x o e=>bI x o (.inl e) (bj.ln x o e),bj.pages.on zo fun x o e=>bI x o (.inr e) (bj.pn x o e),fun x o e=>.inl (bj.ln x o e),fun x o e=>.inl (bj.pn x o e)⟩
   rw[Oc6.1 O];have bI:∀ x,W.heap.size<=x->x<Z.heap.size->(H.setCell ⟨m.rb,1,none⟩ (.slice a2 (m.R.bs.length+1) y)).heap[x]?=Z.heap[x]?:=fun x dd cR=>bP x cR (fun e=>by have:=(bz x e).2;omega) zo;exact⟨cv.on zo fun x o e=>bI x (bB x o e).1 (bB x o e).2.1,cp.on zo fun x o e=>bI x (bC x o e).1 (bC x o e).2.1,fun x o e=>.inr ⟨(bB x o e).1,by have:=(bB x o e).2.1;omega,cI x (bB x o e).2.2⟩,fun x o e=>.inr ⟨(bC x o e).1,by have:=(bC x o e).2.1;omega,cK x (bC x o e).2.2⟩⟩
  ·rcases hh with Y|Y
   ·exact U.1.nr Y
   omega
  rcases hk with Y|Y
  ·have:=U.1.lt k Y;omega
  omega
 have cO:∀ x,(br.set i x)[i]?=some x:=fun x=>by rw[Oh0 (Ob9.1 hi).1]
 obtain⟨dg,df,cP,cN⟩:=Kx4 br i m hi;have cQ:Top K.D0 bk ((br.set i ⟨m.rb,⟨m.R.place,m.R.bs++[b],[]⟩,(fun k=>m.N k\/(W.heap.size<=k/\k<H.heap.size/\¬ FD k)),a2,y,.slice none 0 0⟩).flatMap Mr.ls):=by
  have cT:=h.top.laid bR;refine cT.perm ?_;rw[cN];rw[cP];simp only[Mr.ls,Oe8,Og7,Ob8,Oe4,Oi4,Od8];refine List.Perm.append_left _ (List.Perm.append_left _ ?_);exact List.perm_append_comm
 have cz:∀ x∈br.set i ⟨m.rb,⟨m.R.place,m.R.bs++[b],[]⟩,(fun k=>m.N k\/(W.heap.size<=k/\k<H.heap.size/\¬ FD k)),a2,y,.slice none 0 0⟩,∀ bf∈x.R.bs,Kzj K bk bf:=fun x bL bf O=>by
  have old:∀ bJ∈br,∀ c∈bJ.R.bs,Kzj K bk c:=fun bJ hy c bT=>⟨h.top.held bR (Op5.2 ⟨bJ,hy,Of0.2 ⟨c,bT,rfl⟩⟩) (h.blks bJ hy c bT).1,(h.blks bJ hy c bT).2⟩;rcases List.mem_or_eq_of_mem_set bL with bL|rfl
  ·exact old x bL bf O
  rcases Od2.1 O with O|O
  ·exact old m bU bf O
  rw[Oc6.1 O];exact⟨bR.seg,cA,cD,cF⟩
 have cC:Zb (H.setCell ⟨m.rb,1,none⟩ (.slice a2 (m.R.bs.length+1) y)) FD K.d bk:=cB.stands fun k hf hl=>bP k hl (fun e=>bV k (bz k e).2 (U.2.2 k (bz k e).1) hf) (fun e=>bV _ cn U.2.1 (e▸hf));refine⟨h.turn2 (A:=fun k=>(Value.slice m.ba m.R.bs.length m.bc).ownBlock=some k) hi cc (fun k hk=>(bz k hk).1) (fun k hk j bM bE bK=>bh.arr k hk j bM bE bK) cb (fun k hf=>by have:=cf k hf;omega) rfl cM (fun k hk=>hk.imp id (·.1)) (fun k hk hf=>hk.elim (fun Y=>bV k (U.1.lt k Y) (U.2.2 k Y) hf) (fun Y=>Y.2.2 hf)) cC cQ cz,cO _,?_,⟨rfl,rfl⟩,fun g I j bM bE bK=>?_,fun bf O x o e=>?_⟩
 ·have:=bO.of_block (w':=H.setCell ⟨m.rb,1,none⟩ (.slice a2 (m.R.bs.length+1) y)) fun g I=>bS g (ci g I);simpa using this
 ·have bi:(Value.slice a2 (m.R.bs.length+1) y).ownBlock=some g:=by simpa using I
  rcases getElem?_set_cases bE with⟨e,_⟩|⟨_,bE⟩
  ·exact absurd e bK
  rcases M with M|M
  ·exact bh.arr g (M.symm.trans bi) j bM bE bK
  rw[M]at bi;simp at bi;intro hn;have:=(h.runs bM (Of6 bE)).1.lt g hn;omega
 intro I;have bi:(Value.slice a2 (m.R.bs.length+1) y).ownBlock=some x:=by simpa using I
 rcases Od2.1 O with O|O
 ·have bj:=U.1.blk bf O;have hn:m.N x:=e.elim (bj.ln x o) (bj.pn x o);rcases M with M|M
  ·exact bh.lst bf O x o e (M.symm.trans bi)
  rw[M]at bi;simp at bi;have:=U.1.lt x hn;omega
 rw[Oc6.1 O]at e;have bL:W.heap.size<=x/\x<Z.heap.size:=e.elim (fun e=>⟨(bB x o e).1,(bB x o e).2.1⟩) (fun e=>⟨(bC x o e).1,(bC x o e).2.1⟩);rcases M with M|M
 ·have:=(bz x (M.symm.trans bi)).2;omega
 rw[M]at bi;simp at bi;omega
theorem SW.ck {y w w' F E H mv bl i m}(h:SW y w F E H mv bl i m)(hk:CK w w')(ho:Ju y.F0 y.w0 w'):SW y w' F E H mv bl i m:=
 ⟨h.si.ck hk ho,h.at_,Jxz h.own hk,h.held,h.arr,h.lst⟩
abbrev Mr.ab (m:Mr):Option Nat:=(Value.slice m.ba m.R.bs.length m.bc).ownBlock
def Kr2 (ids:List Nat)(x:Nat×Nat):List Nat:=(ids.take (x.1+x.2)).drop x.1
theorem CK.isCells {W y}(h:CK W y){k:Nat}(hk:∃ o:Obj,W.heap[k]?=some o/\o.isCells=true):∃ o:Obj,y.heap[k]?=some o/\o.isCells=true:=by
 obtain⟨o,H,I⟩:=hk;cases o<;>first|exact⟨_,h.cells _ _ _ _ H,rfl⟩|(cases I)
theorem Zb.narrow {w F d D}(h:Zb w F d D):Zb w (fun k=>F k/\∃ o:Obj,w.heap[k]?=some o/\o.isCells=true) d D:=by
 obtain⟨sv,ps,h⟩:=h;refine⟨sv,ps,h.cells,h.own,fun g H=>⟨⟨(h.ownF g H).1,?_⟩,(h.ownF g H).2⟩,⟨h.dF,_,h.cells,rfl⟩,h.len,fun i b hb=>?_,h.vacant,h.inj,h.low,h.full,h.small⟩
 ·obtain⟨O,y⟩:=Ja4 h.own H;exact⟨_,y,rfl⟩
 obtain⟨a1,a2,K,p,M,I⟩:=h.page i b hb;obtain⟨c,y,_⟩:=I.2;exact⟨⟨a1,_,y,rfl⟩,a2,K,p,M,I⟩
theorem SW.narrow {H w F E I mv bl i m}(h:SW H w F E I mv bl i m):SW H w (fun k=>F k/\∃ o:Obj,w.heap[k]?=some o/\o.isCells=true) E I mv bl i m:=
 ⟨⟨h.si.st,h.si.own,h.si.msb,fun m y=>⟨(h.si.runs m y).1,fun e=>(h.si.runs m y).2.1 e.1,fun k hk e=>(h.si.runs m y).2.2 k hk e.1⟩,h.si.off,h.si.sep,h.si.disk.narrow,fun k hk=>h.si.flt k hk.1,fun e=>h.si.sF e.1,fun g K e=>h.si.mF g K e.1,fun k hk=>h.si.ffr k hk.1,h.si.old,h.si.top,h.si.blks⟩,h.at_,h.own,h.held,h.arr,h.lst⟩
structure WrI (K:SC) (w:World) (F:Nat->Prop) (E:DS) (Ms:List Mr) (mv:Value) (z i:Nat) (m:Mr) (ids:List Nat) (L pb:Nat) (pre:List (Nat×Nat)) (W:World) (F':Nat->Prop) (E':DS) (m':Mr):Prop where
 sw:SW K W F' E' (Ms.set i m') mv (z:Int) i m'
 rb:m'.rb=m.rb
 place:m'.R.place=m.R.place
 ids:m'.R.bs.map (·.ids)=m.R.bs.map (·.ids)++pre.map (Kr2 ids)
 ffr:∀ k,F' k->F k\/L<=k
 nfr:∀ k,m'.N k->m.N k\/L<=k
 afr:∀ g,m'.ab=some g->m.ab=some g\/L<=g
 b0:W.heap[w.heap.size]?=some (.cells #[.pointer (some ⟨K.sb,0,none⟩)] 300 (0,0))
 b1:W.heap[w.heap.size+1]?=some (.cells #[.pointer (some ⟨m.rb,0,none⟩)] 354 (0,0))
 b2:W.heap[w.heap.size+2]?=some (.cells #[.nilIface] 78 (0,0))
 keep:Ju (fun k=>F k\/k=m.rb\/m.ab=some k) w W
 size:L<=W.heap.size
 pgs:dz E'<=dz E+pb*pre.length
 fcl:∀ k,F' k->L<=k->∃ o:Obj,W.heap[k]?=some o/\o.isCells=true
theorem Krz {G w W H row}(h:Ju G w W)(y:W.grownBy H row)(hr:∀ r,row=some r->w.heap.size<=r):Ju G w H:=
 ⟨y.os.trans h.os,y.tape.trans h.tape,y.output.trans h.output,Ob2 h.size y.size,fun k hk hn=>(y.block k (Oc2 hk h.size) fun e=>by have:=hr k e.symm;omega).trans (h.block k hk hn)⟩
theorem WrI.kept {I w F E O mv z i m ids L Z bf W U M K Y row}(h:WrI I w F E O mv z i m ids L Z bf W M K Y)(bi:w.heap.size<=L)(bh:I.w0.heap.size<=w.heap.size)(H:W.grownBy U row)(hr:∀ r,row=some r->L<=r/\∃ o:Obj,W.heap[r]?=some o/\o.isCells=false):WrI I w F E O mv z i m ids L Z bf U M K Y:=by
 have y:=CK.of_grown H fun r e=>(hr r e).2;exact⟨h.sw.ck y (Krz h.sw.si.old H fun r e=>by have:=(hr r e).1;omega),h.rb,h.place,h.ids,h.ffr,h.nfr,h.afr,y.cells _ _ _ _ h.b0,y.cells _ _ _ _ h.b1,y.cells _ _ _ _ h.b2,Krz h.keep H fun r e=>by have:=(hr r e).1;omega,Ob2 h.size H.size,h.pgs,fun k hk hl=>y.isCells (h.fcl k hk hl)⟩
theorem SW.box {M w W F K E Z O mv}{z i L:Nat}{m I}(H:SW M w F E O mv (z:Int) i m)(h:SW M W K Z (O.set i I) mv (z:Int) i I)(bj:w.heap.size+5<=L)(bk:I.rb=m.rb)(ffr:∀ k,K k->F k\/L<=k)(nfr:∀ k,I.N k->m.N k\/L<=k)(afr:∀ g,I.ab=some g->m.ab=some g\/L<=g)(b:Nat)(hb:w.heap.size<=b/\b<w.heap.size+5)v:SW M (W.setCell ⟨b,0,none⟩ v) K Z (O.set i I) mv (z:Int) i I:=by
 have bf:=Of6 H.at_;have br:=Jd H.si.st;have bx:=H.si.old.size;have bi:¬ K b:=fun hf=>(ffr b hf).elim (fun y=>by have:=H.si.flt b y;omega) (fun y=>zo);have hk:Ju (fun k=>k=b) W (W.setCell ⟨b,0,none⟩ v):=Ju.set (F:=fun k=>k=b) (Ju.refl _ _) rfl 0 v;have bh:=h.si.keep hk (fun k e=>zo) (fun e=>zo) (fun g U e=>by have:=Qk H.si.own U;omega) (fun k hf e=>bi (e▸hf)) (fun x Y=>by
  rcases List.mem_or_eq_of_mem_set Y with Y|rfl
  ·have hr:=H.si.runs x Y;exact⟨fun e=>by have:=Jd hr.1.cells;omega,fun k hn e=>by have:=hr.1.lt k hn;omega⟩
  have hr:=H.si.runs m bf;exact⟨fun e=>by have:=Jd hr.1.cells;omega,fun k hn e=>(nfr k hn).elim (fun y=>by have:=hr.1.lt k y;omega) (fun y=>zo)⟩)
 refine⟨bh,h.at_,h.own.of_block fun g U=>Oa4 _ _ _ _ fun e=>?_,h.held,h.arr,h.lst⟩;have e:g=b:=e;rcases afr g U with y|y
 ·have:=(Je H.own y).2;omega
 omega
def Kwu (H:SC)(w:World)(F:Nat->Prop)(E:DS)(M:List Mr)(mv:Value)(z i:Nat)(m:Mr)(ids:List Nat)(O:Nat)(e:Ending)(w':World):Prop:=
 Ju (fun k=>F k\/k=m.rb\/m.ab=some k) w w'/\∃ I K y,SW H w' I K (M.set i y) mv (z:Int) i y/\y.rb=m.rb/\y.R.place=m.R.place/\(∀ k,I k->F k\/w.heap.size<=k)/\(∀ k,y.N k->m.N k\/w.heap.size<=k)/\(∀ g,y.ab=some g->m.ab=some g\/w.heap.size<=g)/\dz K<=dz E+O*ckN ids.length z /\
  ((e=.returned .nilIface/\y.R.bs.flatMap (·.ids)=m.R.bs.flatMap (·.ids)++ids) \/
   (∃ x b,e=.returned (.iface 156 (.pointer (some ⟨b,0,none⟩)))/\Yu w' (.iface 156 (.pointer (some ⟨b,0,none⟩))) (if x=true then H.q else H.qw) none (some (-1))/\w.heap.size<=b/\¬ I b/\¬ y.N b/\Kso H.D0 x))
structure WrX (K:SC) (w:World) (F:Nat->Prop) (E:DS) (Ms:List Mr) (mv:Value) (z i:Nat) (m:Mr) (ids:List Nat) (L pb:Nat) (W:World) (F':Nat->Prop) (E':DS) (m':Mr) (x:Bool) (b:Nat):Prop where
 sw:SW K W F' E' (Ms.set i m') mv (z:Int) i m'
 rb:m'.rb=m.rb
 place:m'.R.place=m.R.place
 ffr:∀ k,F' k->F k\/L<=k
 nfr:∀ k,m'.N k->m.N k\/L<=k
 afr:∀ g,m'.ab=some g->m.ab=some g\/L<=g
 b2:W.heap[w.heap.size+2]?=some (.cells #[.iface 156 (.pointer (some ⟨b,0,none⟩))] 78 (0,0))
 ch:Yu W (.iface 156 (.pointer (some ⟨b,0,none⟩))) (if x=true then K.q else K.qw) none (some (-1))
 bn:L<=b/\¬ F' b/\¬ m'.N b
 keep:Ju (fun k=>F k\/k=m.rb\/m.ab=some k) w W
 size:L<=W.heap.size
 pgs:dz E'<=dz E+pb*ckN ids.length z
 why:Kso K.D0 x
theorem Kxn ids z:∀ k,((cks ids.length z k).map (Kr2 ids)).flatten=ids.take (k*z):=by
 intro k;induction k with
 |zero=>simp[cks]
 |succ k I=>
  rw[Jbj,Ob8,List.flatten_append,I];simp only[Oe4,Oi4,List.flatten_cons,List.flatten_nil,Od7];unfold Kr2 Jaa;have y:ids.take (k*z+min z (ids.length-k*z))=ids.take ((k+1)*z):=by
   rw[Nat.add_mul,Nat.one_mul];by_cases h:z<=ids.length-k*z
   ·rw[Oj1 h]
   rw[Oc8 zo,Oc8 zo]
  simp only;rw[y];have H:ids.take (k*z)=(ids.take ((k+1)*z)).take (k*z):=by rw[List.take_take,Oj1 (Om8 z (Nat.le_succ k))]
  rw[H,Ok3]
theorem Kva ids z(y:1<=z):((cks ids.length z (ckN ids.length z)).map (Kr2 ids)).flatten=ids:=by
 rw[Kxn,Oc8 (Jcy y)]
theorem WrI.from {Y w F E Z mv z i m ids L bi bj W K I U y}(h:WrI Y w F E Z mv z i m ids L bi bj W I U y){b}(hb:b<L)(hk:Ju (fun k=>I k\/k=y.rb\/y.ab=some k\/k=b) W K):KeepsFrom L W K:=
 ⟨hk.size,fun k o bf H ho=>(hk.block k (Jd H) fun e=>by
  have no:¬ ∃ o:Obj,W.heap[k]?=some o/\o.isCells=true:=fun ⟨br,M,O⟩=>by
   rw[H]at M;cases M
   rw[ho]at O;cases O
  rcases e with e|e|e|e
  ·exact no (h.fcl k e bf)
  ·have:=(h.sw.si.runs y (Of6 h.sw.at_)).1.cells;exact no ⟨_,e▸this,rfl⟩
  ·obtain⟨bk,bh⟩:=Ja4 h.sw.own e;exact no ⟨_,bh,rfl⟩
  omega).trans H⟩
theorem WrI.next {H w F E bi mv}{z i:Nat}{m ids}{L bz:Nat}{bC W K bj M Z FD bh Y y}(bf:SW H w F E bi mv (z:Int) i m)(h:WrI H w F E bi mv z i m ids L bz bC W Z bh y)(bY:w.heap.size+5<=L)b x(bK:b.ids=Kr2 ids x)(bN:∀ t∈b.ids,t<nR H.cs)(bL:1<=b.ids.length/\b.ids.length<=64)(bx:Ju Z W K)(bM:Zb K FD H.d Y)(bB:∀ k,FD k->Z k\/W.heap.size<=k)(bP:∀ k,FD k->k<K.heap.size)(bH:Jjo bh Y (Qu (Kr3 H.ts (Jba b.ids H.cs) H.ts.length)) b.l)(bO:b.l.length<=1000000)(bQ:Jo K W.heap.size 3 (.slice b.la H.ts.length b.lc) ((Ks8 H.ts (Jba b.ids H.cs) H.ts.length).map nv))(bR:∀ g,(Value.slice b.la H.ts.length b.lc).ownBlock=some g->¬ FD g)(bU:Jo K W.heap.size 3 (.slice b.pa b.l.length b.pc) (b.l.map nv))(bV:∀ g,(Value.slice b.pa b.l.length b.pc).ownBlock=some g->¬ FD g)(bA:Below K.heap.size K bj){a2}{I:Nat}(bE:Kvh M H.w0.heap.size H.ts.length (.slice a2 (y.R.bs.length+1) I) (y.R.bs++[b]))(bG:bj.grownBy M y.ab)(O:(Value.slice a2 (y.R.bs.length+1) I).ownBlock=y.ab\/(Value.slice a2 (y.R.bs.length+1) I).ownBlock=some bj.heap.size)(bT:dz Y<=dz bh+bz):
  (∃ bD bW,WrI H w F E bi mv z i m ids L bz (bC++[x]) (M.setCell ⟨y.rb,1,none⟩ (.slice a2 (y.R.bs.length+1) I)) bD Y bW)/\KeepsFrom L W (M.setCell ⟨y.rb,1,none⟩ (.slice a2 (y.R.bs.length+1) I))/\Ju (fun k=>Z k\/k=y.rb\/y.ab=some k) W (M.setCell ⟨y.rb,1,none⟩ (.slice a2 (y.R.bs.length+1) I)):=by
 obtain⟨bX,hw,U,bI⟩:=h.sw.wrote b bN bL bx bM bB bP bH bO bQ bR bU bV bA bE bG O;rw[List.set_set]at hw;have cf:=h.size;have bS:=Of6 bf.at_;have ca:m.rb<w.heap.size:=Jd (bf.si.runs m bS).1.cells;have bJ:∀ g,m.ab=some g->g<w.heap.size:=fun g bk=>(Je bf.own bk).2;have far:∀ k,w.heap.size<=k->k<w.heap.size+5->(M.setCell ⟨y.rb,1,none⟩ (.slice a2 (y.R.bs.length+1) I)).heap[k]?=W.heap[k]?:=fun k bx bZ=>U.block k zo fun e=>by
  rcases e with e|e|e
  ·rcases h.ffr k e with e|e
   ·have:=bf.si.flt k e;omega
   omega
  ·rw[h.rb]at e;omega
  rcases h.afr k e with e|e
  ·have:=bJ k e;omega
  omega
 have cc:=bA.size;have cb:=bx.size;refine⟨⟨_,_,hw.narrow,h.rb,h.place,?_,fun k hk=>(bB k hk.1).elim (h.ffr k) (fun e=>.inr zo),fun k hk=>(bI k hk).elim (h.nfr k) (fun e=>.inr zo),fun g bk=>?_,(far _ zo zo).trans h.b0,(far _ zo zo).trans h.b1,(far _ zo zo).trans h.b2,?_,by have:=U.size;omega,?_,fun k hk _=>hk.2⟩,h.from (b:=w.heap.size) zo (U.mono fun k _ hk=>hk.imp id (Or.imp id .inl)),U⟩
 ·simp only[Ob8,Oe4,Oi4,h.ids,bK,Od8]
 ·have br:(Value.slice a2 (y.R.bs.length+1) I).ownBlock=some g:=by simpa [Mr.ab] using bk
  rcases O with O|O
  ·exact h.afr g (O.symm.trans br)
  rw[O]at br;simp at br;exact .inr zo
 ·refine h.keep.trans' U fun k hk e=>?_;rcases e with e|e|e
  ·exact .inl ((h.ffr k e).resolve_right zo)
  ·exact .inr (.inl (e.trans h.rb))
  exact .inr (.inr ((h.afr k e).resolve_right zo))
 rw[Oa8,List.length_singleton,Nat.mul_add,Nat.mul_one,<-On5];exact Ob2 bT (Nat.add_le_add_right h.pgs _)
theorem Kvv {P l n M y Q S a w}O(I:P.follows .mixedOrders=true)(K:Ki4 y=true)(H:S w.drew)(h:S w.drew->Ks5 P .any y (Jpf Q) S O y.size (Array.replicate y.size false) a w.drew):(Code.region M y true).wpIn (Fence.wide.inRound l) n P Q a w:=
 Code.wpIn_mono Jpf.imp (wpIn_region_any I (Ki2 K Jpf.shut _ _ _ _ (Ktb _ _ _ _ (h H))))
end
section
open Go.RowKit Go.Shelf Tryz
attribute [local go_sem] Oc0
theorem SW.abN {K W F E M mv bl i m}(H:SW K W F E M mv bl i m){g}(y:m.ab=some g):m.N g/\g<W.heap.size:=by
 have Y:=H.si.runs m (Of6 H.at_);have U:=(Je H.own y).2;rcases H.own with⟨_,⟨h0,_⟩|⟨O,Z,bf,h0,_⟩⟩
 ·unfold Mr.ab at y;rw[h0]at y;cases y
 simp at h0;have I:=h0.1;unfold Mr.ab at y;rw[I]at y;simp[Value.ownBlock]at y;subst y;exact⟨Y.1.an O 0 I,U⟩
theorem zav {p:Prop}(h:p:=by exact⟨zS,fun k hk=>World.putObj_heap_other zo⟩):p:=h
theorem Kux y(hK:SK y)w F E br mv(z i:Nat)m(bi cp:Nat)hs ids(h:SW y w F E br mv (z:Int) i m)(dq:1<=z)(gy:z<=64)(hC:Qd w bi hs (Jba ids y.cs))(dI:Jbo bi hs y.cs.length (fun b=>b<w.heap.size/\¬ (F b\/b=m.rb\/m.ab=some b)))(fK:∀ t∈ids,t<nR y.cs)(gq:1<=ids.length)(hn:ids.length<=50000)(gm:m.R.bs.length<=100000)(bC:Nat)(fO:∀ ch:List Nat,(∀ t∈ch,t<nR y.cs)->1<=ch.length->ch.length<=z->ch.length<=ids.length->(Qu (Kr3 y.ts (Jba ch y.cs) y.ts.length)).length<=bC)(gr:dz E+bC*ckN ids.length z<=930000):
  Calls prog 241 #[.pointer (some ⟨y.sb,0,none⟩),.pointer (some ⟨m.rb,0,none⟩),.slice (some ⟨bi,0,none⟩) y.cs.length cp] w (Kwu y w F E br mv z i m ids bC):=by
 have hlen:(Jba ids y.cs).length=y.cs.length:=Krw _ _;have fN:=hK.sg.good.one;have fJ:=hK.sg.good.few;have gp:=h.si.runs m (Of6 h.at_);obtain⟨_,_,s4,_,_⟩:=h.si.st.field;have gw:=Jd h.si.st;have bh:=zh h;have cX:Hid (Qd w bi hs (Jba ids y.cs)/\Jbo bi hs y.cs.length (fun b=>b<w.heap.size/\¬ (F b\/b=m.rb\/m.ab=some b))):=⟨hC,dI⟩;clear hC dI h;refine(callsIn_wide (n:=3)).1 ?_;refine callsIn_of_wp_marks func241 rfl trivial ?_ rfl;simp only[ntmps241,Om3,List.length_cons,List.length_nil,Nat.reduceAdd,Nat.reduceSub,Ok9,Array.replicate_zero,Om4,Ol2,List.nil_append,List.cons_append];refine wpIn_wide.2 ?_;go_upto_region 1 with fail
 generalize dL:((w.alloc _).alloc _).alloc _=bN;obtain⟨cA,cG,bZ,ca,dc⟩:=Jur w _ _ _ bN dL;clear dL;have c0:=zc 0 cG;have c4:=Ja dc s4;have dN:=fun X=>Jh4 (.slice (some ⟨bi,0,none⟩) y.cs.length cp) (z:Int) (some ⟨bi,0,none⟩) y.cs.length cp rfl X;go_wp2_with (go_at_call 106;refine(dN _).mono ?_;rintro e bA ⟨rfl,bS⟩)
 have bD:bA.heap.size=w.heap.size+5:=by rw[bS,Oa7,Oa7,cA]
 have cf:Below bN.heap.size bN bA:=by rw[bS];exact Jc (Jc (Oa5 _ _) _) _
 have dB:bA.heap[w.heap.size+3]?=some (.cells #[.slice (some ⟨bi,0,none⟩) y.cs.length cp] 76 (0,0)):=by
  rw[bS,Oa9 _ _ _ (by rw[Oa7,cA];omega),<-cA];exact heap_alloc_new bN _
 have dA:bA.heap[w.heap.size+3+1]?=some (.cells #[.int .i64 (z:Int)] 3 (0,0)):=by
  have:=heap_alloc_new (bN.alloc (.cells #[.slice (some ⟨bi,0,none⟩) y.cs.length cp] 76)) (.cells #[.int .i64 (z:Int)] 3);rw[Oa7,cA]at this;rw[bS];exact this
 have ci:=Jb dc cf;have dC:=(cf.block _ (Jd cG)).trans cG;have dD:=(cf.block _ (Jd bZ)).trans bZ;have dE:=(cf.block _ (Jd ca)).trans ca;have fc:br.set i m=br:=by
  refine Oi8 fun j=>?_;by_cases e:j=i
  ·subst e;rw[Oh0 (Ob9.1 bh.out.at_).1,bh.out.at_]
  rw[Od1 (fun fz=>e fz.symm)]
 have cC:SW y bA F E br mv (z:Int) i m:=by
  have:=bh.out;have bQ:=fun (x:Mr) (fV:x∈br)=>this.si.runs x fV;exact⟨this.si.keep (G:=fun _=>False) (Ju.of_below ci) (fun k hk=>hk.elim) id (fun _ _=>id) (fun _ _=>id) (fun _ _=>⟨id,fun _ _=>id⟩),this.at_,Jaw this.own ci,this.held,this.arr,this.lst⟩
 have dJ:WrI y w F E br mv z i m ids (w.heap.size+5) bC [] bA F E m:=
  ⟨by rw[fc];exact cC,rfl,rfl,zS,fun k hk=>.inl hk,fun k hk=>.inl hk,fun g O=>.inl O,dC,dD,dE,Ju.of_below ci,zo,zS,fun k hk hl=>by have:=bh.out.si.flt k hk;omega⟩
 have fv:=zh dJ;have dH:Qd bA bi hs (Jba ids y.cs):=cX.out.1.below ci;have bI:y.w0.heap.size<=w.heap.size:=bh.out.si.old.size;have hseq:=Jjx 2 zo (w.heap.size+3) (w.heap.size+3+1) bi cp hs (Jba ids y.cs) ids.length z dq zo zo (by rw[hlen];exact fN) (by rw[hlen];exact fJ) bA dH (fun j cu=>Kr0 ids (by rw[hlen]at cu;exact cu)) (by rw[hlen];simp[World.cell?,dB]) (by simp[World.cell?,dA]) (fun k=>k=w.heap.size+3\/k=w.heap.size+3+1\/(k<w.heap.size/\¬ (F k\/k=m.rb\/m.ab=some k))) ⟨.inl rfl,.inr (.inl rfl),.inr (.inr cX.out.2.1),fun j cu b o e=>.inr (.inr (cX.out.2.2 j (by rw[hlen]at cu;exact cu) b o e))⟩ (fun k hk=>zo);simp only[hlen]at hseq;clear dJ cC fc dC dD dE cf ci cG bZ ca dc c0 c4 s4 dN dH dB dA;rw[<-bS];clear bS cA bN;refine(wpIn_wide (n:=3)).1 ?_;refine Jg8 rfl zo (gf:=140) (lb:=#[.pointer (some ⟨w.heap.size+3,0,none⟩),.pointer (some ⟨w.heap.size+3+1,0,none⟩)]) rfl trivial (enters_of func140 zK rfl)
  hseq (fun h k=>h.trans k) ?hKb (Oa5 _ _) (fun _=>rfl)
  (fun bU W=>∃ U K H,WrI y w F E br mv z i m ids (w.heap.size+5) bC (bU.map fun x=>(x.1,x.2.1)) W U K H)
  (fun c bU W=>c=.ret/\∃ U K H x b,WrX y w F E br mv z i m ids (w.heap.size+5) bC W U K H x b)
  ?hI ?hIx ?hR ⟨F,E,m,fv.out⟩ (fun x=>{tmps:=#[.pointer (some ⟨y.sb,0,none⟩),.pointer (some ⟨m.rb,0,none⟩),.slice (some ⟨bi,0,none⟩) y.cs.length cp,.pointer (some ⟨w.heap.size,0,none⟩),.pointer (some ⟨w.heap.size+1,0,none⟩),undef,.pointer (some ⟨w.heap.size+1+1,0,none⟩),undef,.slice (some ⟨x.2.2,0,none⟩) y.cs.length y.cs.length,undef,undef,.slice (some ⟨bi,0,none⟩) y.cs.length cp,.pointer (some ⟨y.sb,0,none⟩),.pointer (some ⟨y.sb,0,none⟩),.pointer (some ⟨y.sb,4,none⟩),.int .i64 (z:Nat),.func (.func 140) #[] #[.pointer (some ⟨w.heap.size+3,0,none⟩),.pointer (some ⟨w.heap.size+3+1,0,none⟩)],.int .i64 (x.1:Int),.slice (some ⟨x.2.2,0,none⟩) y.cs.length y.cs.length,undef,undef,undef,undef,undef,undef,undef,undef,undef,undef,undef,undef,undef,undef,undef,undef,undef,undef,undef],defers:=[]}) ?assign ?body ?done ?stop
 case hKb=>
  intro W l o gA hl ho _ _;exact zav
 case hI=>
  rintro s W dy row ⟨U,K,H,h⟩ O hr;exact⟨U,K,H,h.kept zo bI O fun r e=>⟨by have:=(hr r e).1;omega,(hr r e).2⟩⟩
 case hIx=>
  rintro c s W dy row ⟨cL,U,K,H,x,b,h⟩ O hr;have bB:=CK.of_grown O fun r e=>(hr r e).2;obtain⟨bV,bJ⟩:=h.ch.disk_at;exact⟨cL,U,K,H,x,b,h.sw.ck bB (Krz h.sw.si.old O fun r e=>by have:=(hr r e).1;omega),h.rb,h.place,h.ffr,h.nfr,h.afr,bB.cells _ _ _ _ h.b2,.disk b _ _ (bB.cell bV) (bB.cell bJ),h.bn,Krz h.keep O fun r e=>by have:=(hr r e).1;omega,Ob2 h.size O.size,h.pgs,h.why⟩
 case hR=>
  rintro x W dy row ⟨cI,dG,fB,fC⟩ O hr;exact⟨cI,dG,fB,fC.ck (CK.of_grown O fun r e=>(hr r e).2)⟩
 case assign=>
  clear bD bI;intro l x W gg fE;gi_wp2
  exact fE
 case stop=>
  rintro D c bU W fD ⟨k,hk,cT⟩ ⟨rfl,U,K,H,x,b,bR⟩ cJ;have bO:W.heap[w.heap.size+1+1]?=some (.cells #[.iface 156 (.pointer (some ⟨b,0,none⟩))] 78 (0,0)):=bR.b2;have c3:=zc 0 bO;have da:=zh bR;have bY:Hid (y.w0.heap.size<=w.heap.size/\bA.heap.size=w.heap.size+5):=⟨bI,bD⟩;clear bR bO cT bI bD;gi_wp2
  have bI:=bY.out.1;have bD:=bY.out.2;have cz:∀ r,some D=some r->∃ o:Obj,W.heap[r]?=some o/\o.isCells=false:=fun r e=>by cases e;exact⟨_,cJ,rfl⟩
  refine⟨zS,.inl ⟨_,_,rfl,run_takeDeferred cJ,?_⟩⟩;have ds:=cell_kept c3 (grownBy_putObj' _ D (.deferred none)) cz;have bB:=CK.of_grown (grownBy_putObj' W D (.deferred none)) cz;have bM:=grownBy_putObj' W D (.deferred none);refine⟨.iface 156 (.pointer (some ⟨b,0,none⟩)),by simp[results,Tryz.f241,go_sem,ds],?_⟩;have h:=da.out;obtain⟨bV,bJ⟩:=h.ch.disk_at;refine⟨Krz h.keep bM (fun r e=>by cases e;omega),U,K,H,h.sw.ck bB (Krz h.sw.si.old bM fun r e=>by cases e;omega),h.rb,h.place,fun k hk=>(h.ffr k hk).imp id zo,fun k hk=>(h.nfr k hk).imp id zo,fun g O=>(h.afr g O).imp id zo,h.pgs,.inr ⟨x,b,rfl,.disk b _ _ (bB.cell bV) (bB.cell bJ),by have:=h.bn.1;omega,h.bn.2.1,h.bn.2.2,h.why⟩⟩
 case done=>
  rintro D gE W fD fh ⟨U,K,H,hI⟩ cJ;rw[fh]at hI;have bO:W.heap[w.heap.size+1+1]?=some (.cells #[.nilIface] 78 (0,0)):=hI.b2;have c3:=zc 0 bO;have gh:W.frozen? ⟨w.heap.size+1+1,0,none⟩=false:=by simp[World.frozen?,bO]
  have da:=zh hI;have bY:Hid (y.w0.heap.size<=w.heap.size/\bA.heap.size=w.heap.size+5):=⟨bI,bD⟩;clear hI bO fh bI bD;go_wp2_with fail
  have bI:=bY.out.1;have bD:=bY.out.2;have h:=da.out;have dK:=(KeepsOthers.setCell W ⟨w.heap.size+1+1,0,none⟩ .nilIface).same D _ cJ rfl;have cC:=SW.box bh.out h.sw (Oa2 _) h.rb h.ffr h.nfr h.afr (w.heap.size+1+1) zo .nilIface;have gb:Ju (fun k=>F k\/k=m.rb\/m.ab=some k) w (W.setCell ⟨w.heap.size+1+1,0,none⟩ .nilIface):=h.keep.trans' (Ju.set (F:=fun k=>k=w.heap.size+1+1) (Ju.refl _ _) rfl 0 _) fun k hk e=>by omega
  have ds:(W.setCell ⟨w.heap.size+1+1,0,none⟩ .nilIface).cell? ⟨w.heap.size+1+1,0,none⟩=some .nilIface:=World.cell?_setCell_same _ _ _ c3;generalize W.setCell ⟨w.heap.size+1+1,0,none⟩ .nilIface=X at *;have cz:∀ r,some D=some r->∃ o:Obj,X.heap[r]?=some o/\o.isCells=false:=fun r e=>by cases e;exact⟨_,dK,rfl⟩
  refine⟨zS,.inl ⟨_,_,rfl,run_takeDeferred dK,?_⟩⟩;have bM:=grownBy_putObj' X D (.deferred none);have ga:=cell_kept ds bM cz;have bB:=CK.of_grown bM cz;refine⟨.nilIface,by simp[results,Tryz.f241,go_sem,ga],?_⟩;have fF:=Kva ids z dq;have fP:=h.pgs;rw[Jbp]at fP;refine⟨Krz gb bM (fun r e=>by cases e;omega),U,K,H,cC.ck bB (Krz cC.si.old bM fun r e=>by cases e;omega),h.rb,h.place,fun k hk=>(h.ffr k hk).imp id zo,fun k hk=>(h.nfr k hk).imp id zo,fun g O=>(h.afr g O).imp id zo,zo,.inl ⟨rfl,?_⟩⟩;rw[List.flatMap_def,h.ids,List.flatten_append,fF,List.flatMap_def]
 case body=>
  rintro fm bU ⟨f,Y,gx⟩ W ⟨U,K,H,hI⟩ ⟨ff,⟨dm,dp⟩,fg,cW⟩ cT;simp only at ff dm dp fg cW;rw[Kte]at cW;have dP:(Kr2 ids (f,Y)).length=Y:=by unfold Kr2;simp;omega
  have cM:∀ t∈Kr2 ids (f,Y),t<nR y.cs:=fun t ht=>fK t (Om9 (Oh7 ht));have bT:=hI.sw.si.env hK;have cv:=hK.sg.lay cM zo;have dZ:=hI.pgs;rw[Oa6]at dZ;have dU:=Nat.mul_le_mul_left bC (show bU.length+1<=ckN ids.length z from cT);rw[Nat.mul_add,Nat.mul_one]at dU;have dY:=fO (Kr2 ids (f,Y)) cM zo zo (by unfold Kr2;rw[Of7,Oc7];omega);have fI:ckN ids.length z<=ids.length:=Kg4 _ _ dq;have dg:∀ k,k<y.w0.heap.size->¬ y.F0 k->¬ U k:=fun k hk hn hf=>(hI.sw.si.ffr k hf).elim hn (fun bP=>zo);have fZ:=Kxu (E:=K) zo;have cy:=Kza y.sb y.tb y.to_ y.tc y.ts gx y.cs.length _ (Jba (Kr2 ids (f,Y)) y.cs) (Kr2 ids (f,Y)).length W U y.d K y.q y.qw bT.so.c0 bT.so.c3 bT.so.ty cW cv.1 hI.sw.si.disk hI.sw.si.flt bT.cq bT.cw (dg _ hK.gl.2.2.1 hK.gl.1) (dg _ hK.gl.2.2.2 hK.gl.2.1) (by have:=cv.2.2;omega);rw[Krw]at cy;have c0:W.cell? ⟨w.heap.size,0,none⟩=some (.pointer (some ⟨y.sb,0,none⟩)):=by simp[World.cell?,hI.b0]
  have cE:=zh hI;have cY:Hid ((Kr2 ids (f,Y)).length=Y/\(∀ t∈Kr2 ids (f,Y),t<nR y.cs)/\1<=Y/\Y<=z/\bU.length<ids.length/\dz K+bC<=dz E+bC*ckN ids.length z):=⟨dP,cM,dm,dp,zo,zo⟩;have dv:Hid (Kyh y.ts (Jba (Kr2 ids (f,Y)) y.cs) (Kr2 ids (f,Y)).length/\(Qu (Kr3 y.ts (Jba (Kr2 ids (f,Y)) y.cs) y.ts.length)).length<=11000/\(Qu (Kr3 y.ts (Jba (Kr2 ids (f,Y)) y.cs) y.ts.length)).length<=bC/\dz K+(Qu (Kr3 y.ts (Jba (Kr2 ids (f,Y)) y.cs) y.ts.length)).length<=950000):=⟨cv.1,cv.2.2,dY,zo⟩;clear hI ff dm dp fg cW dP cM bT cv dZ fI dg cT dU dY fZ;have dx:=zh bD;clear bD;generalize dO:Kr2 ids (f,Y)=ch at *;have ft:=zh dO;clear dO;obtain⟨du,dl⟩:∃ du,Uy K (Qu (Kr3 y.ts (Jba ch y.cs) y.ts.length))=du:=⟨_,rfl⟩;rw[dl]at cy;have cZ:=zh dl;clear dl;obtain⟨bX,l,x⟩:=du;have cD:Hid (∀ X,Ju U W X->X.cell? ⟨w.heap.size+1,0,none⟩=some (.pointer (some ⟨m.rb,0,none⟩))/\X.heap[w.heap.size+1+1]?=some (.cells #[.nilIface] 78 (0,0))/\X.heap[m.rb]?=some (.cells #[.int .i64 (H.R.place:Nat),.slice H.ba H.R.bs.length H.bc,.slice none 0 0] 357 (0,0))):=fun X hk=>by
   have hI:=cE.out;have bz:=hI.sw.si.runs H (Of6 hI.sw.at_);have nb:∀ k,w.heap.size<=k->k<w.heap.size+5->¬ U k:=fun k cI dG hf=>(hI.ffr _ hf).elim (fun bP=>by have:=bh.out.si.flt _ bP;omega) (fun bP=>zo);have bZ:=(hk.block _ (Jd hI.b1) (nb _ zo zo)).trans hI.b1;have ca:=(hk.block _ (Jd hI.b2) (nb _ zo zo)).trans hI.b2;have er:=(hk.block _ (Jd bz.1.cells) bz.2.1).trans bz.1.cells;rw[hI.sw.held.2,hI.rb]at er;exact⟨by simp[World.cell?,bZ],ca,er⟩
  cases x with
  |none=>
   gi_wp2_with (first|(refine⟨trivial,?_⟩;gi_at_call 280;refine(CallsIn.inRound fm (callsIn_wide.2 cy)).mono ?_;rintro e I ⟨bf,FD,cN,cj,cP,gz,gB,rfl,⟨cO,de⟩,cS,dh⟩;obtain⟨la,lc,rfl,_⟩:=cO.cells;obtain⟨pa,pc,rfl,_⟩:=cS.cells))
   rw[Oa6,Ktg]at cO de;rw[Oa6]at cS dh;rw[Ktg];obtain⟨bJ,bK,dt⟩:=cD.out I bf;have qr:=zc 1 dt;have dw:Hid (Ju U W I/\Zb I FD y.d bX/\(∀ k,FD k->U k\/W.heap.size<=k)/\(∀ k,FD k->k<I.heap.size)/\Jo I W.heap.size 3 (.slice la y.ts.length lc) ((Ks8 y.ts (Jba ch y.cs) y.ts.length).map nv)/\(∀ g,(Value.slice la y.ts.length lc).ownBlock=some g->¬ FD g)/\Jo I W.heap.size 3 (.slice pa l.length pc) (l.map nv)/\∀ g,(Value.slice pa l.length pc).ownBlock=some g->¬ FD g):=⟨bf,cN,cj,cP,cO,de,cS,dh⟩;have fw:=zh dt;clear bf cN cj cP cO de cS dh cy bK dt cD;have bj:Below I.heap.size I (I.alloc (.cells #[.int .i64 (ch.length:Nat),.slice la y.ts.length lc,.slice pa l.length pc] 359)):=Jc (Oa5 _ _) _;have cR:=heap_alloc_new I (.cells #[.int .i64 (ch.length:Nat),.slice la y.ts.length lc,.slice pa l.length pc] 359);generalize I.alloc (.cells #[.int .i64 (ch.length:Nat),.slice la y.ts.length lc,.slice pa l.length pc] 359)=Z at bj cR |-;obtain⟨fp,fq,fr,_⟩:=Ksm cR;have fx:Hid (Below I.heap.size I Z/\Z.heap[I.heap.size]?=some (.cells #[.int .i64 (ch.length:Nat),.slice la y.ts.length lc,.slice pa l.length pc] 359 (0,0))):=⟨bj,cR⟩;have fo:=Ja bj bJ;have pr:=Ja bj qr;clear bj cR bJ qr;refine Kvv 10 (S:=fun X=>X.cell? ⟨w.heap.size+1,0,none⟩=some (.pointer (some ⟨m.rb,0,none⟩))/\X.cell? ⟨m.rb,1,none⟩=some (.slice H.ba H.R.bs.length H.bc)/\X.cell? ⟨I.heap.size,0,none⟩=some (.int .i64 (ch.length:Nat))/\X.cell? ⟨I.heap.size,1,none⟩=some (.slice la y.ts.length lc)/\X.cell? ⟨I.heap.size,2,none⟩=some (.slice pa l.length pc)) zK zK ⟨Jh fo,Jh pr,Jh fp,Jh fq,Jh fr⟩ (fun M=>?_);clear fo pr fp fq fr;refine tkm 0 rfl M ?_;refine tkm 1 rfl M ?_;refine tkm 2 rfl M ?_;refine tkn ?_;refine tkm 3 rfl M ?_;refine tkm 4 rfl M ?_;refine tkm 5 rfl M ?_;refine tkn ?_;refine Kr1 6 rfl (fun bL bx=>?_);go_simp;have bH:Below Z.heap.size Z (Z.alloc (.cells #[.int .i64 (ch.length:Nat),.slice la y.ts.length lc,.slice pa l.length pc] 359)).drew:=Jj (Jc (Oa5 _ _) _);have df:(Z.alloc (.cells #[.int .i64 (ch.length:Nat),.slice la y.ts.length lc,.slice pa l.length pc] 359)).drew.heap[Z.heap.size]?=some (.cells #[.int .i64 (ch.length:Nat),.slice la y.ts.length lc,.slice pa l.length pc] 359 (0,0)):=heap_alloc_new Z _;have cU:(Z.alloc (.cells #[.int .i64 (ch.length:Nat),.slice la y.ts.length lc,.slice pa l.length pc] 359)).drew.heap.size=Z.heap.size+1:=Oa7 _ _;generalize (Z.alloc (.cells #[.int .i64 (ch.length:Nat),.slice la y.ts.length lc,.slice pa l.length pc] 359)).drew=bE at bH df cU |-;refine bx.out _ _ ⟨Ja bH M.1,Ja bH M.2.1,Ja bH M.2.2.1,Ja bH M.2.2.2.1,Ja bH M.2.2.2.2⟩ (fun M=>?_);clear bx bL;have bk:=cE.out;have fH:H.R.bs.length<=200000:=by
    have cI:=congrArg List.length bk.ids;simp only[Oa6,Oa8]at cI;have:=cY.out.2.2.2.2.1;omega
   have cc:Below I.heap.size I bE:=Jb fx.out.1 bH;have bz:=bk.sw.si.runs H (Of6 bk.sw.at_);have bf:=dw.out.1;have fY:=cc.size;have fW:=bf.size;have fX:=bk.size;have dX:Kvh bE y.w0.heap.size y.ts.length (.slice H.ba H.R.bs.length H.bc) H.R.bs:=bk.sw.own.of_block fun g O=>by
    have bQ:=bk.sw.abN O;rw[cc.block g zo,bf.block g bQ.2 (bz.2.2 g bQ.1)]
   have cK:∀ g,H.ab=some g->g<W.heap.size/\g≠w.heap.size+1/\g≠m.rb:=fun g O=>by
    have bQ:=bk.sw.abN O;refine⟨bQ.2,fun e=>?_,fun e=>bz.1.nr (by rw[bk.rb];exact e▸bQ.1)⟩;rcases bk.afr g O with bP|bP
    ·have:=(bh.out.abN bP).2;omega
    omega
   have fS:m.rb<W.heap.size:=by rw[<-bk.rb];exact Jd bz.1.cells
   obtain⟨fl,dR,fi,fj,fk⟩:=info_parts Qcs;refine Kr1 7 rfl (fun bL bx=>?_);refine step_append_lies bE rfl (.tmp 32) (.tmp 34) 355 rfl y.w0.heap.size 359 fl (.agg #[.int .i64 0,.slice none 0 0,.slice none 0 0]) 3 56 zK dR fi fj fk rfl zd (.slice H.ba H.R.bs.length H.bc) H.R.bs.length (H.R.bs.flatMap (Bk.cells y.ts.length)) rfl dX ⟨Z.heap.size,0,none⟩ 1 1 [.int .i64 (ch.length:Nat),.slice la y.ts.length lc,.slice pa l.length pc] rfl rfl (fun j u cV=>World.news_of_block (w:=bE) df j u (by simpa using cV)) (fun u cV=>by simp at cV;rcases cV with rfl|rfl|rfl<;>rfl) zd (by unfold maxLen;omega) zo zo (Z.heap.size+1) cU (fun db fy cF dW cn dM fM=>?_);have dj:=(cn.block m.rb zo fun e=>(cK _ e.symm).2.2 rfl).trans ((cc.block _ zo).trans fw.out);have cw:=zc 1 dj;have fA:cF.frozen? ⟨m.rb,1,none⟩=false:=by simp[World.frozen?,dj]
   have cH:∀ o u,bE.cell? ⟨I.heap.size,o,none⟩=some u->cF.cell? ⟨I.heap.size,o,none⟩=some u:=fun o u cL=>(cn.cell_far ⟨I.heap.size,o,none⟩ (by have:=Jb0 cL;exact this) fun e=>by have gi:I.heap.size<W.heap.size:=(cK _ e.symm).1;omega).trans cL;refine bx.out _ _ ⟨(cn.cell_far ⟨w.heap.size+1,0,none⟩ (Jb0 M.1) fun e=>(cK _ e.symm).2.1 rfl).trans M.1,cw,cH _ _ M.2.2.1,cH _ _ M.2.2.2.1,cH _ _ M.2.2.2.2⟩ (fun M=>?_);have fu:Hid (bE.grownBy cF H.ab/\(H.ab=some db\/db=Z.heap.size+1)/\Kvh cF y.w0.heap.size y.ts.length (.slice (some ⟨db,0,none⟩) (H.R.bs.length+1) fy) (H.R.bs++[⟨ch,l,la,lc,pa,pc⟩])/\Below I.heap.size I bE/\bE.heap.size=Z.heap.size+1):=⟨cn,dM,by
    unfold Kvh;rw[Oa8,List.length_singleton];simpa [Bk.cells] using dW,cc,cU⟩
   clear bx bL cn dM dW bH df cU cc dX dj cH fH fY fW fX fM bk bz bf cK dR fi fj fk fl;simp only[Act.put,List.getElem_toArray,List.getElem_cons_zero,List.getElem_cons_succ,Oa1,List.set_cons_zero,List.set_cons_succ];refine Kr1 8 rfl (fun bL bx=>?_);go_simp;refine bx.out _ _ M (fun M=>?_);clear bx bL;refine tkm 9 rfl M ?_;refine tkn ?_;refine Ktt rfl (fun bL bx=>?_);go_simp;refine bx.out _ _ ?_;clear bx bL M cw fA;have hI:=cE.out;have bG:=dw.out;have cb:=fu.out;have dd:=cY.out;have cx:=Jrh (Qu (Kr3 y.ts (Jba ch y.cs) y.ts.length)) K;have dT:=(Jc1 (Qu (Kr3 y.ts (Jba ch y.cs) y.ts.length)) K).1;obtain⟨_,fQ,fR,di⟩:=dv.out;have dQ:=(Qbi (Qu (Kr3 y.ts (Jba ch y.cs) y.ts.length)) K di).1;rw[cZ.out]at cx dT dQ;have dV:=WrI.next bh.out hI (Oa2 _) ⟨ch,l,la,lc,pa,pc⟩ (f,Y) ft.out.symm dd.2.1 (by show 1<=ch.length/\ch.length<=64;omega) bG.1 bG.2.1 bG.2.2.1 bG.2.2.2.1 (dT rfl) (by show l.length<=1000000;have:=cx.2;dsimp only at this;omega) bG.2.2.2.2.1 bG.2.2.2.2.2.1 bG.2.2.2.2.2.2.1 bG.2.2.2.2.2.2.2 cb.2.2.2.1 cb.2.2.1 cb.1 (cb.2.1.imp (fun e=>e.symm) fun e=>by rw[e,cb.2.2.2.2];rfl) (by dsimp only at dQ;omega);rw[hI.rb]at dV;obtain⟨⟨fs,m2,fU⟩,fL,dS⟩:=dV;have cQ:=bh.out;have gs:m.rb<w.heap.size:=Jd (cQ.si.runs m (Of6 cQ.at_)).1.cells;have fT:=hI.size;refine⟨by rw[dx.out];exact fL,⟨dS.size,fun k hk=>dS.block k zo fun e=>?_⟩,fs,bX,m2,by rw[Ob8];exact fU⟩;rcases e with e|e|e
   ·rcases hI.ffr k e with e|e
    ·have:=cQ.si.flt k e;rcases hk with hk|hk|hk
     ·omega
     ·omega
     exact hk.2 (.inl e)
    omega
   ·rcases hk with hk|hk|hk
    ·omega
    ·omega
    exact hk.2 (.inr (.inl e))
   rcases hI.afr k e with e|e
   ·have:=(cQ.abN e).2;rcases hk with hk|hk|hk
    ·omega
    ·omega
    exact hk.2 (.inr (.inr e))
   omega
  |some x=>
   gi_wp2_with (first|(refine⟨trivial,?_⟩;gi_at_call 280;refine(CallsIn.inRound fm (callsIn_wide.2 cy)).mono ?_;rintro e I ⟨bf,FD,cN,cj,cP,bb,rfl,gj,dd,fG⟩;obtain⟨_,bK,_⟩:=cD.out I bf;have cB:=((Jc (Oa5 _ I) (.cells #[.int .i64 0,.slice none 0 0,.slice none 0 0] 359)).block _ (Jd bK)).trans bK;have gC:(I.alloc (.cells #[.int .i64 0,.slice none 0 0,.slice none 0 0] 359)).cell? ⟨w.heap.size+1+1,0,none⟩=some .nilIface:=(by simp[World.cell?,cB]);have gD:(I.alloc (.cells #[.int .i64 0,.slice none 0 0,.slice none 0 0] 359)).frozen? ⟨w.heap.size+1+1,0,none⟩=false:=(by simp[World.frozen?,cB]);clear bK cB))
   have hI:=cE.out;have bj:Below I.heap.size I (I.alloc (.cells #[.int .i64 0,.slice none 0 0,.slice none 0 0] 359)):=Jc (Oa5 _ I) _;obtain⟨_,bK,_⟩:=cD.out I bf;have cB:=(bj.block _ (Jd bK)).trans bK;have bz:=hI.sw.si.runs H (Of6 hI.sw.at_);have fS:m.rb<w.heap.size:=Jd (bh.out.si.runs m (Of6 bh.out.at_)).1.cells;have fT:=hI.size;have gt:=bf.size;have gu:=bj.size;have fd:=Jso (D:=K) (ps:=Qu (Kr3 y.ts (Jba ch y.cs) y.ts.length)) (x:=x) (by rw[cZ.out]);obtain⟨_,fQ,fR,di⟩:=dv.out;obtain⟨cx,fe⟩:=Qbi (Qu (Kr3 y.ts (Jba ch y.cs) y.ts.length)) K di;rw[cZ.out]at fd cx fe;have gn:=cY.out;have bW:SW y I FD (Jf4 bX l) (br.set i H) mv (z:Int) i H:=⟨hI.sw.si.disk_same bf cj cP cN fd.1,hI.sw.at_,hI.sw.own.of_block fun g O=>bf.block g (hI.sw.abN O).2 (bz.2.2 g (hI.sw.abN O).1),hI.sw.held,hI.sw.arr,hI.sw.lst⟩;have gd:SW y (I.alloc (.cells #[.int .i64 0,.slice none 0 0,.slice none 0 0] 359)) FD (Jf4 bX l) (br.set i H) mv (z:Int) i H:=⟨bW.si.keep (G:=fun _=>False) (Ju.of_below bj) (fun k hk=>hk.elim) id (fun _ _=>id) (fun _ _=>id) (fun _ _=>⟨id,fun _ _=>id⟩),bW.at_,Jaw bW.own bj,bW.held,bW.arr,bW.lst⟩;have ffr:∀ k,FD k->F k\/w.heap.size+5<=k:=fun k hk=>(cj k hk).elim (hI.ffr k) fun e=>.inr zo;have ge:=SW.box bh.out gd (Oa2 _) hI.rb ffr hI.nfr hI.afr (w.heap.size+1+1) zo (.iface 156 (.pointer (some ⟨bb,0,none⟩)));have dr:Ju (fun k=>U k\/k=w.heap.size+1+1) W ((I.alloc (.cells #[.int .i64 0,.slice none 0 0,.slice none 0 0] 359)).setCell ⟨w.heap.size+1+1,0,none⟩ (.iface 156 (.pointer (some ⟨bb,0,none⟩)))):=Ju.set (F:=fun k=>U k\/k=w.heap.size+1+1) ((bf.trans (Ju.of_below bj)).mono fun k _ hk=>.inl hk) (.inr rfl) 0 _;obtain⟨bV,bJ⟩:=dd.disk_at;have bR:((I.alloc (.cells #[.int .i64 0,.slice none 0 0,.slice none 0 0] 359)).setCell ⟨w.heap.size+1+1,0,none⟩ (.iface 156 (.pointer (some ⟨bb,0,none⟩)))).heap[bb]?=I.heap[bb]?:=(Oa4 _ _ _ _ (show bb≠w.heap.size+1+1 by omega)).trans (bj.block bb (Jb0 bV));refine⟨by rw[dx.out];exact hI.from (b:=w.heap.size+1+1) zo (dr.mono fun k _ hk=>hk.imp id fun e=>.inr (.inr e)),rfl,FD,Jf4 bX l,H,x,bb,ge,hI.rb,hI.place,ffr,hI.nfr,hI.afr,by rw[Jk cB];simp,.disk bb _ _ ((Oc3 bR).trans bV) ((Oc3 bR).trans bJ),⟨zo,fG,fun hn=>by have:=bz.1.lt _ hn;omega⟩,hI.keep.trans' dr fun k hk e=>?_,by have:=dr.size;omega,?_,(fe x rfl).of hI.sw.si.top.quota hI.sw.si.top.fail⟩
   ·rcases e with e|e
    ·exact .inl ((hI.ffr k e).resolve_right zo)
    omega
   rw[Kx9];dsimp only at cx;omega
theorem SW.next {K w w' F E O H mv bl i j m U I b}(h:SW K w F E H mv bl j I)(hn:Kst K w F E H mv bl i m U b O w')(hi:H[i]?=some m)(M:i≠j):SW K w' F O (H.set i U) mv bl j I:=by
 have bh:=h.si.runs I (Of6 h.at_);refine⟨hn.si,by rw[Od1 M];exact h.at_,h.own.of_block fun g y=>hn.keep.block g (h.abN y).2 fun e=>?_,h.held,fun g y k mk hk bf=>?_,h.lst⟩
 ·rcases e with e|e
  ·exact bh.2.2 g (h.abN y).1 e
  exact(h.si.sep j i I m h.at_ hi fun Y=>M Y.symm).2 (e▸(h.abN y).1)
 rcases getElem?_set_cases hk with⟨_,rfl⟩|⟨_,hk⟩
 ·intro Z;rcases hn.new g Z with e|e
  ·exact h.arr g y i m hi M e
  have:=(h.abN y).2;omega
 exact h.arr g y k mk hk bf
theorem SW.keep {y w w' F G E H mv bl i m}(h:SW y w F E H mv bl i m)(hk:Ju G w w')(K:∀ k,G k->y.w0.heap.size<=k)(O:¬ G y.sb)(M:∀ g,mv.ownBlock=some g->¬ G g)(hF:∀ k,F k->¬ G k)(hM:∀ m∈H,¬ G m.rb/\∀ k,m.N k->¬ G k):SW y w' F E H mv bl i m:=
 ⟨h.si.keep hk K O M hF hM,h.at_,h.own.of_block fun g I=>hk.block g (h.abN I).2 ((hM m (Of6 h.at_)).2 g (h.abN I).1),h.held,h.arr,h.lst⟩
theorem Kwu.ret {y w w' F E H mv z i m ids I}{e:Ending}(h:Kwu y w F E H mv z i m ids I e w'):∃ v,e=.returned v:=by
 obtain⟨_,_,_,_,_,_,_,_,_,_,_,hv|⟨_,_,hv,_⟩⟩:=h
 ·exact⟨_,hv.1⟩
 exact⟨_,hv⟩
theorem Kvx y(hK:SK y)w F E K mv(z i:Nat)m(H cp:Nat)hs ids(h:SW y w F E K mv (z:Int) i m)(bi:1<=z)(bj:z<=64)(hC:Qd w H hs (Jba ids y.cs))(M:Jbo H hs y.cs.length (fun b=>b<w.heap.size/\¬ (F b\/b=m.rb\/m.ab=some b)))(O:∀ t∈ids,t<nR y.cs)(bf:1<=ids.length)(hn:ids.length<=50000)(Z:m.R.bs.length<=100000)(I:Nat)(U:∀ ch:List Nat,(∀ t∈ch,t<nR y.cs)->1<=ch.length->ch.length<=z->ch.length<=ids.length->(Qu (Kr3 y.ts (Jba ch y.cs) y.ts.length)).length<=I)(Y:dz E+I*ckN ids.length z<=930000)(b1 b2:Nat)(br:w.cell? ⟨b1,0,none⟩=some (.pointer (some ⟨y.sb,0,none⟩)))(bx:w.cell? ⟨b2,0,none⟩=some (.pointer (some ⟨m.rb,0,none⟩))):
  Calls prog 243 #[.slice (some ⟨H,0,none⟩) y.cs.length cp,.pointer (some ⟨b1,0,none⟩),.pointer (some ⟨b2,0,none⟩)] w (Kwu y w F E K mv z i m ids I):=by
 have bh:=Kux y hK w F E K mv z i m H cp hs ids h bi bj hC M O bf hn Z I U Y;clear h hC M O U Y;go_enter func243,ntmps243
 go_wp2_with (go_at_call 241;refine bh.mono ?_;intro e bk hp;obtain⟨v,hv⟩:∃ v,e=.returned v:=hp.ret;subst hv)
 go_ret
 exact hp
theorem Qad cs l H:Jdi (Jba l cs) (Jba H cs) cs.length=Jba (l++H) cs:=by
 refine Oh4 (by rw[Jf9,Krw,Krw]) fun j M K=>?_;have y:j<cs.length:=by rw[Krw]at K;exact K
 have I:=Jlm (Jba l cs) (Jba H cs) cs.length j (by rw[Krw];exact y);rw[if_pos y,Kr6 l y,Kr6 H y,<-Ob8,<-Kr6 (l++H) y]at I;rw[Oa0,Oa3 M,Oa0,Oa3 K]at I;exact I
theorem Kxi (y:SC)w(B g cap:Nat)(I:List Value)(l ids:List Nat)(g2 O ob:Nat)(hs:List (Option Addr×Nat))(hob:w.cell? ⟨ob,0,none⟩=some (.slice (some ⟨g,0,none⟩) y.cs.length cap))(Y:Jar w B g I (Jba l y.cs))(U:Qd w g2 hs (Jba ids y.cs))(hw:y.cs.length<=1000)(bh:l.length+ids.length<=1000000)(bk:B<=w.heap.size)(bf:∀ j b,j<y.cs.length->(Uq I j).ownBlock=some b->b≠g2/\∀ k H M,k<y.cs.length->(Yo hs k).1=some ⟨H,M,none⟩->b≠H)(bi:g≠g2/\∀ k H M,k<y.cs.length->(Yo hs k).1=some ⟨H,M,none⟩->g≠H):
  Calls prog 158 #[.slice (some ⟨g2,0,none⟩) y.cs.length O,.pointer (some ⟨ob,0,none⟩)] w fun e w'=>e=.returned .nilIface/\(∃ bj,Jar w' B g bj (Jba (l++ids) y.cs)/\∀ j b,j<y.cs.length->(Uq bj j).ownBlock=some b->(Uq I j).ownBlock=some b\/w.heap.size<=b)/\Below B w w'/\w.heap.size<=w'.heap.size/\∀ x,x<w.heap.size->x≠g->(∀ j,j<y.cs.length->(Uq I j).ownBlock≠some x)->w'.heap[x]?=w.heap[x]?:=by
 have Z:=Kb4 B g cap I (Jba l y.cs) g2 O hs (Jba ids y.cs) w Y U.loose (by rw[Krw,Krw]) (fun j K=>by rw[Krw]at K;rw[Kr0 l K,Kr0 ids K];exact bh) bk (by rw[Krw];exact hw) (by rw[Krw,Krw];exact bf) (by rw[Krw];exact bi);rw[Krw,Krw,Qad]at Z;clear Y U bf bi bh;go_enter func158,ntmps158
 go_wp2_with (go_at_call 109;refine Z.mono ?_;rintro e br ⟨rfl,hp⟩)
 go_ret
 exact⟨rfl,hp⟩
end
section
open Go.RowKit Go.Shelf
def Kry (y:List Mr)(idx:List Nat):List (List Nat):=idx.map fun i=>((y[i]?).map fun m=>m.R.rem).getD []
theorem Ksn {y idx}{j i:Nat}{m}(H:idx[j]?=some i)(hi:y[i]?=some m):(Kry y idx)[j]?=some m.R.rem:=by
 unfold Kry;rw[Ob1,H];simp[hi]
theorem Kti {y idx}(Y:idx.Nodup){j i m K}(H:idx[j]?=some i)(hi:y[i]?=some m):Kry (y.set i K) idx=(Kry y idx).set j K.R.rem:=by
 have I:=(Ob9.1 H).1;have U:=(Ob9.1 hi).1;refine Oi8 fun k=>?_;by_cases e:k=j
 ·subst e;rw[Ksn H (Oh0 U),Oh0 (by unfold Kry;rw[Oa6];exact I)]
 rw[Od1 (fun M=>e M.symm)];unfold Kry;rw[Ob1,Ob1];cases hk:idx[k]? with
 |none=>rfl
 |some bf=>
  have Z:i≠bf:=fun O=>e ((List.getElem?_inj I Y).1 (by rw[H,hk,O])).symm;simp only[Option.map_some];rw[Od1 Z]
theorem Kst.tail {I w w' F E H K mv bl i m y b}(h:Kst I w F E K mv bl i m y b H w')(hh:m.R.held≠[]):m.R.rem=m.R.held.headD 0::y.R.rem:=by
 rw[h.rem];unfold Rn.rem;cases hl:m.R.held with
 |nil=>exact absurd hl hh
 |cons a l=>rfl
theorem Kst.whole {I w w' F E H K mv bl i m y b}(h:Kst I w F E K mv bl i m y b H w')(hh:m.R.held=[]):y.R.rem=m.R.rem:=by
 rw[h.rem];unfold Rn.rem;rw[hh];rfl
theorem Kst.sub {K w w' F E I M mv bl i m H b}(h:Kst K w F E M mv bl i m H b I w'):∀ a∈H.R.rem,a∈m.R.rem:=fun a y=>by
 by_cases hh:m.R.held=[]
 ·exact h.whole hh▸y
 rw[h.tail hh];exact Og1 _ y
theorem Ktk.next {bi w w' F E bh H mv bl idx i m I b}(hM:Ktk H idx)(h:Kst bi w F E H mv bl i m I b bh w')(hi:H[i]?=some m):Ktk (H.set i I) idx:=by
 have old:∀ (k:Nat) (mk:Mr),(H.set i I)[k]?=some mk->∃ y,H[k]?=some y/\mk.R.place=y.R.place/\∀ a∈mk.R.rem,a∈y.R.rem:=fun k mk hk=>by
  rcases getElem?_set_cases hk with⟨e,rfl⟩|⟨_,hk⟩
  ·exact⟨m,e▸hi,h.place,h.sub⟩
  exact⟨mk,hk,rfl,fun a O=>O⟩
 refine⟨hM.nd,fun k hk=>?_,fun k l mk ml hk hl K M hp a O bf hb=>?_,fun k l mk ml hk hl K M bk=>?_⟩
 ·obtain⟨y,bj⟩:=hM.ex k hk;by_cases e:i=k
  ·exact⟨I,by rw[<-e,Oh0 (Ob9.1 hi).1]⟩
  exact⟨y,by rw[Od1 e];exact bj⟩
 ·obtain⟨y,ho,Y,s1⟩:=old k mk K;obtain⟨no,U,Z,s2⟩:=old l ml M;exact hM.pl k l y no hk hl ho U (by rw[<-Y,<-Z];exact hp) a (s1 a O) bf (s2 bf hb)
 obtain⟨y,ho,Y,_⟩:=old k mk K;obtain⟨no,U,Z,_⟩:=old l ml M;rw[Y,Z];exact hM.pd k l y no hk hl ho U bk
structure Std (Ms:List Mr) (idx:List Nat) (n:Nat) (f:Nat->Nat):Prop where
 mg:Ktk Ms idx
 sep:∀ (i j:Nat) mi mj,Ms[i]?=some mi->Ms[j]?=some mj->i≠j->mi.rb≠mj.rb
 at_:∀ j,j<n->Kvi Ms idx (f j)
 cov:∀ (i:Nat) m,i∈idx->Ms[i]?=some m->m.R.rem≠[]->m.R.held≠[]/\∃ j,j<n/\f j=m.rb
 inj:Inj n f
structure Mgg (c:Nat->Nat->Int) (all taken:List Nat) (Ms:List Mr) (idx:List Nat) (n:Nat) (f:Nat->Nat):Prop extends Std Ms idx n f where
 mrg:Mrg c all taken (Kry Ms idx)
 hp:Hp c n (fun j=>Ksc Ms (f j))
theorem Mgg.top {c}(ho:Kse c){all bi H idx n f}(h:Mgg c all bi H idx n f)(hn:1<=n):
  ∃ k i m,idx[k]?=some i/\H[i]?=some m/\m.rb=f 0/\m.R.held≠[]/\∀ r,m.R.rem=m.R.held.headD 0::r->Mrg c all (bi++[m.R.held.headD 0]) ((Kry H idx).set k r):=by
 obtain⟨i,m,hi,M,hr,hh⟩:=h.at_ 0 hn;obtain⟨k,hk,br⟩:=Od5 hi;have U:idx[k]?=some i:=by rw[Oa3 hk,br]
 refine⟨k,i,m,U,M,hr,hh,fun r bB=>h.mrg.take ho (by rw[Ksn U M,bB]) fun j bj s bf bx=>?_⟩;have I:j<idx.length:=by have:=(Ob9.1 bf).1;unfold Kry at this;rw[Oa6]at this;exact this
 have bh:idx[j]?=some (idx[j]'(I)):=Oa3 I;obtain⟨K,O⟩:=h.mg.ex _ (Ob3 I);have y:=Ksn bh O;rw[bf]at y;have y:bj::s=K.R.rem:=Oj6 y;obtain⟨bk,q,hq,Z⟩:=h.cov _ K (Ob3 I) O (by rw[<-y];simp);have bz:i≠idx[j]'(I):=fun e=>bx ((List.getElem?_inj hk h.mg.nd).1 (by rw[U,bh,e])).symm;have bA:0<q:=by
  rcases Oj2 q with e|e
  ·subst e;exact absurd (hr.trans Z) (h.sep i _ m K M O bz)
  exact e
 have Y:Lt c (Ksc H (f 0)) (Ksc H (f q)):=h.hp.min ho q bA hq;rw[<-hr,Z,Ksf h.sep M,Ksf h.sep O]at Y;have hy:K.R.held.headD 0=bj:=by
  unfold Rn.rem at y;cases hl:K.R.held with
  |nil=>exact absurd hl bk
  |cons a l=>rw[hl]at y;simp at y;exact y.1.symm
 rw[hy]at Y;exact Y
theorem Mgg.done {c}(ho:Kse c){all H I idx f}(h:Mgg c all H I idx 0 f):H=Ksg c all:=by
 refine h.mrg.done ho fun r hr=>?_;unfold Kry at hr;obtain⟨i,hi,rfl⟩:=Of0.1 hr;obtain⟨m,y⟩:=h.mg.ex i hi;rw[y];simp only[Option.map_some,Option.getD_some];by_cases e:m.R.rem=[]
 ·exact e
 obtain⟨_,j,K,_⟩:=h.cov i m hi y e;exact absurd K (Oe0 _)
theorem Arr.lt {n f g}(h:Arr 0 n f g):∃ p q:Nat->Nat,(∀ k,q (p k)=k)/\(∀ k,p (q k)=k)/\(∀ k,k<n->p k<n)/\(∀ k,k<n->q k<n)/\∀ k,g k=f (p k):=by
 obtain⟨p,q,H,I,K,O⟩:=h;have hp:∀ k,k<n->p k<n:=fun k hk=>by
  rcases Oc1 (p k) n with e|e
  ·exact e
  have y:=K (p k) (.inr e);have M:=congrArg q y;rw[H,H]at M;omega
 refine⟨p,q,H,I,hp,fun k hk=>?_,O⟩;rcases Oc1 (q k) n with e|e
 ·exact e
 have y:=K (q k) (.inr e);rw[I]at y;omega
theorem Std.arr {K idx n f M}(h:Std K idx n f)(H:Arr 0 n f M):Std K idx n M:=by
 obtain⟨p,q,O,U,hp,hq,y⟩:=H.lt;refine⟨h.mg,h.sep,fun j I=>by rw[y];exact h.at_ _ (hp j I),fun i m hi Y hr=>?_,fun a b H hb e=>?_⟩
 ·obtain⟨hh,j,I,e⟩:=h.cov i m hi Y hr;exact⟨hh,q j,hq j I,by rw[y,U];exact e⟩
 rw[y,y]at e;have:=congrArg q (h.inj _ _ (hp a H) (hp b hb) e);rw[O,O]at this;exact this
theorem Ktk.apart {I idx}(h:Ktk I idx){i j y H}(hi:i∈idx)(O:j∈idx)(K:I[i]?=some y)(M:I[j]?=some H)(Y:i≠j){a}(U:a∈y.R.rem)(hb:a∈H.R.rem):False:=by
 have hp:=h.pd i j y H hi O K M Y;rcases Nat.lt_or_gt_of_ne hp with e|e
 ·exact absurd (h.pl i j y H hi O K M e a U a hb) (Oe3 _)
 exact absurd (h.pl j i H y O hi M K e a hb a U) (Oe3 _)
theorem Std.keys {y idx n f}(h:Std y idx n f):Inj n (fun j=>Ksc y (f j)):=fun a b M hb e=>by
 obtain⟨i,m,hi,I,er,hh⟩:=h.at_ a M;obtain⟨Z,m2,Y,H,K,U⟩:=h.at_ b hb;have e:Ksc y (f a)=Ksc y (f b):=e;rw[<-er,<-K,Ksf h.sep I,Ksf h.sep H]at e;by_cases O:i=Z
 ·subst O;rw[I]at H;cases H
  exact h.inj a b M hb (er.symm.trans K)
 exact(h.mg.apart hi Y I H O (Kuh hh).2 (e▸(Kuh U).2)).elim
theorem Kuc {y:List Mr}{i:Nat}{m I:Mr}(hs:∀ (i j:Nat) K H,y[i]?=some K->y[j]?=some H->i≠j->K.rb≠H.rb)(hi:y[i]?=some m)(bi:I.rb=m.rb):∀ (k j:Nat) mk H,(y.set i I)[k]?=some mk->(y.set i I)[j]?=some H->k≠j->mk.rb≠H.rb:=by
 have old:∀ (k:Nat) (mk:Mr),(y.set i I)[k]?=some mk->∃ M,y[k]?=some M/\mk.rb=M.rb:=fun k mk hk=>by
  rcases getElem?_set_cases hk with⟨e,rfl⟩|⟨_,hk⟩
  ·exact⟨m,e▸hi,bi⟩
  exact⟨mk,hk,rfl⟩
 intro k j mk H Y Z bh;obtain⟨a,bf,O⟩:=old k mk Y;obtain⟨b,hb,U⟩:=old j H Z;rw[O,U];exact hs k j a b bf hb bh
section
variable {K:SC} {w w':World} {F:Nat->Prop} {E E':DS} {Ms:List Mr} {mv:Value} {bl:Int} {idx:List Nat} {n i:Nat} {f:Nat->Nat} {m m':Mr}
theorem Std.next_yes (h:Std Ms idx n f)(hn:Kst K w F E Ms mv bl i m m' true E' w')(hi:Ms[i]?=some m)(O:i∈idx)(Y:1<=n)(h0:m.rb=f 0):Std (Ms.set i m') idx n f:=by
 have Z:(Ms.set i m')[i]?=some m':=Oh0 (Ob9.1 hi).1;refine⟨h.mg.next hn hi,Kuc h.sep hi hn.rb,fun j U=>?_,fun k mk hk H hr=>?_,h.inj⟩
 ·obtain⟨I,m2,M,y,er,hh⟩:=h.at_ j U;by_cases e:i=I
  ·subst e;rw[hi]at y;cases y
   exact⟨i,m',O,Z,hn.rb.trans er,hn.yes rfl⟩
  exact⟨I,m2,M,by rw[Od1 e];exact y,er,hh⟩
 rcases getElem?_set_cases H with⟨_,rfl⟩|⟨_,H⟩
 ·exact⟨hn.yes rfl,0,Y,(hn.rb.trans h0).symm⟩
 exact h.cov k mk hk H hr
theorem Std.next_no (h:Std Ms idx (n+1) f)(hn:Kst K w F E Ms mv bl i m m' false E' w')(hi:Ms[i]?=some m)(h0:m.rb=f 0):Std (Ms.set i m') idx n (fun j=>if j=0 then f n else f j):=by
 have oth:∀ j,j<n+1->j≠0->Kvi (Ms.set i m') idx (f j):=fun j H y=>by
  obtain⟨U,m2,bf,O,er,hh⟩:=h.at_ j H;by_cases e:i=U
  ·subst e;rw[hi]at O;cases O
   exact absurd (h.inj j 0 H zo (er.symm.trans h0)) y
  exact⟨U,m2,bf,by rw[Od1 e];exact O,er,hh⟩
 refine⟨h.mg.next hn hi,Kuc h.sep hi hn.rb,fun j H=>?_,fun k mk hk I hr=>?_,fun a b bj hb e=>?_⟩
 ·show Kvi _ _ (if j=0 then f n else f j);split
  ·exact oth n zo zo
  rename_i y
  exact oth j zo y
 ·rcases getElem?_set_cases I with⟨_,rfl⟩|⟨bi,I⟩
  ·exact absurd (hn.no rfl) hr
  obtain⟨hh,j,H,e⟩:=h.cov k mk hk I hr;have y:j≠0:=fun Z=>by
   subst Z;exact h.sep i k m mk hi I (fun Y=>bi Y.symm) (h0.trans e)
  refine⟨hh,?_⟩;by_cases bh:j=n
  ·exact⟨0,zo,by rw[if_pos rfl,<-bh];exact e⟩
  exact⟨j,zo,by rw[if_neg y];exact e⟩
 have e:(if a=0 then f n else f a)=(if b=0 then f n else f b):=e;by_cases M:a=0
 ·by_cases eb:b=0
  ·omega
  rw[if_pos M,if_neg eb]at e;have:=h.inj n b zo zo e;omega
 by_cases eb:b=0
 ·rw[if_neg M,if_pos eb]at e;have:=h.inj a n zo zo e;omega
 rw[if_neg M,if_neg eb]at e;exact h.inj a b zo zo e
theorem Std.key_far (h:Std Ms idx n f)(hn:m'.rb=m.rb)(hi:Ms[i]?=some m)(h0:m.rb=f 0){j}(O:0<j)(H:j<n):Ksc (Ms.set i m') (f j)=Ksc Ms (f j):=by
 obtain⟨K,m2,M,y,er,hh⟩:=h.at_ j H;have I:i≠K:=fun e=>by
  subst e;rw[hi]at y;cases y
  have:=h.inj j 0 H zo (er.symm.trans h0);omega
 rw[<-er,Ksf h.sep y,Ksf (Kuc h.sep hi hn) (by rw[Od1 I];exact y)]
end
theorem Ktk.sub {K idx M}(h:Ktk K idx)(hs:M.Sublist idx):Ktk K M:=
 ⟨h.nd.sublist hs,fun i hi=>h.ex i (hs.subset hi),fun i j H I hi y=>h.pl i j H I (hs.subset hi) (hs.subset y),fun i j H I hi y=>h.pd i j H I (hs.subset hi) (hs.subset y)⟩
theorem Kst.stands {I w w' F E H K mv bl i m y b}(hn:Kst I w F E K mv bl i m y b H w')(hh:m.R.held=[])(hr:m.R.rem≠[]):y.R.held≠[]:=by
 cases b with
 |true=>exact hn.yes rfl
 |false=>exact absurd ((hn.whole hh).symm.trans (hn.no rfl)) hr
section
variable {K:SC} {w w':World} {F:Nat->Prop} {E E':DS} {Ms:List Mr} {mv:Value} {bl:Int} {idx:List Nat} {k i:Nat} {f:Nat->Nat} {m m':Mr} {b:Bool}
theorem Kz8 (K:idx.Nodup)(y:idx[k]?=some i):i∉idx.take k:=fun hi=>by
 obtain⟨j,H,e⟩:=Od5 hi;have M:j<k:=by rw[Oc7]at H;omega
 have I:=(Ob9.1 y).1;rw[List.getElem_take]at e;have:=(List.getElem?_inj I K).1 (show idx[k]?=idx[j]? by rw[y,Oa3 zo,e]);omega
theorem Std.oth (h:Std Ms (idx.take k) k f)(O:idx.Nodup)(I:idx[k]?=some i){j}(K:j<k):∃ y m2,y∈idx.take k/\i≠y/\Ms[y]?=some m2/\m2.rb=f j/\m2.R.held≠[]:=by
 obtain⟨y,m2,H,M,er,hh⟩:=h.at_ j K;exact⟨y,m2,H,fun e=>Kz8 O I (e▸H),M,er,hh⟩
theorem Std.push (h:Std Ms (idx.take k) k f)(hM:Ktk Ms idx)(hn:Kst K w F E Ms mv bl i m m' b E' w')(y:idx[k]?=some i)(hi:Ms[i]?=some m)(hh:m.R.held=[])(hr:m.R.rem≠[]):Std (Ms.set i m') (idx.take (k+1)) (k+1) (fun j=>if j=k then m.rb else f j):=by
 have bz:(Ms.set i m')[i]?=some m':=Oh0 (Ob9.1 hi).1;have bE:=(Ob9.1 y).1;have bj:i∈idx.take (k+1):=Of6 (i:=k) (by rw[Oh3 zo];exact y);have bk:∀ x,x∈idx.take k->x∈idx.take (k+1):=fun x bA=>by rw[Oi7];exact List.mem_append_left _ bA
 refine⟨(hM.next hn hi).sub (List.take_sublist _ _),Kuc h.sep hi hn.rb,fun j U=>?_,fun q bB hq Z bx=>?_,fun a c bC bD e=>?_⟩
 ·show Kvi _ _ (if j=k then m.rb else f j);split
  ·exact⟨i,m',bj,bz,hn.rb,hn.stands hh hr⟩
  obtain⟨M,m2,bi,H,Y,er,bf⟩:=h.oth hM.nd y (j:=j) zo;exact⟨M,m2,bk M bi,by rw[Od1 H];exact Y,er,bf⟩
 ·rcases getElem?_set_cases Z with⟨_,rfl⟩|⟨H,Z⟩
  ·exact⟨hn.stands hh hr,k,zo,by rw[if_pos rfl];exact hn.rb.symm⟩
  have br:q∈idx.take k:=by
   rw[Oi7,y]at hq;rcases Od2.1 hq with hq|hq
   ·exact hq
   ·simp at hq;exact absurd hq H
  obtain⟨bh,j,U,e⟩:=h.cov q bB br Z bx;exact⟨bh,j,zo,by rw[if_neg zo];exact e⟩
 have far:∀ j,j<k->m.rb≠f j:=fun j U e=>by
  obtain⟨M,m2,_,H,Y,er,_⟩:=h.oth hM.nd y U;exact h.sep i M m m2 hi Y H (e.trans er.symm)
 have e:(if a=k then m.rb else f a)=(if c=k then m.rb else f c):=e;by_cases O:a=k
 ·by_cases I:c=k
  ·omega
  rw[if_pos O,if_neg I]at e;exact absurd e (far c zo)
 by_cases I:c=k
 ·rw[if_neg O,if_pos I]at e;exact absurd e.symm (far a zo)
 rw[if_neg O,if_neg I]at e;exact h.inj a c zo zo e
theorem Std.key_old (h:Std Ms (idx.take k) k f)(K:idx.Nodup)(O:m'.rb=m.rb)(H:idx[k]?=some i)(hi:Ms[i]?=some m){j}(I:j<k):Ksc (Ms.set i m') (f j)=Ksc Ms (f j):=by
 obtain⟨U,m2,_,M,y,er,_⟩:=h.oth K H I;rw[<-er,Ksf h.sep y,Ksf (Kuc h.sep hi O) (by rw[Od1 M];exact y)]
end
theorem Std.nil {y idx f}(hM:Ktk y idx)(hs:∀ (i j:Nat) H I,y[i]?=some H->y[j]?=some I->i≠j->H.rb≠I.rb):Std y (idx.take 0) 0 f:=
 ⟨hM.sub (List.take_sublist _ _),hs,fun j M=>absurd M (Oe0 _),fun i m hi=>by simp at hi,fun a _ K=>absurd K (Oe0 _)⟩
section
variable {Ms Ms':List Mr} {idx:List Nat}
theorem Ktk.same (h:Ktk Ms idx)(hs:∀ i∈idx,Ms'[i]?=Ms[i]?):Ktk Ms' idx:=
 ⟨h.nd,fun i hi=>by rw[hs i hi];exact h.ex i hi,fun i j K M hi y H I=>h.pl i j K M hi y (by rw[<-hs i hi];exact H) (by rw[<-hs j y];exact I),fun i j K M hi y H I=>h.pd i j K M hi y (by rw[<-hs i hi];exact H) (by rw[<-hs j y];exact I)⟩
theorem Kuu (hs:∀ i∈idx,Ms'[i]?=Ms[i]?):Kry Ms' idx=Kry Ms idx:=by
 unfold Kry;exact Oj9 fun i hi=>by rw[hs i hi]
theorem Kvn (hs:∀ i∈idx,Ms'[i]?=Ms[i]?)(K:∀ (i j:Nat) y H,Ms[i]?=some y->Ms[j]?=some H->i≠j->y.rb≠H.rb)(M:∀ (i j:Nat) y H,Ms'[i]?=some y->Ms'[j]?=some H->i≠j->y.rb≠H.rb){r}(hr:Kvi Ms idx r):Ksc Ms' r=Ksc Ms r:=by
 obtain⟨i,m,hi,I,rfl,_⟩:=hr;rw[Ksf K I,Ksf M (by rw[hs i hi];exact I)]
theorem Std.same {n f}(h:Std Ms idx n f)(hs:∀ i∈idx,Ms'[i]?=Ms[i]?)(K:∀ (i j:Nat) H I,Ms'[i]?=some H->Ms'[j]?=some I->i≠j->H.rb≠I.rb):Std Ms' idx n f:=
 ⟨h.mg.same hs,K,fun j M=>by
  obtain⟨i,m,hi,y,e⟩:=h.at_ j M;exact⟨i,m,hi,by rw[hs i hi];exact y,e⟩,fun i m hi y=>h.cov i m hi (by rw[<-hs i hi];exact y),h.inj⟩
theorem Mgg.same {c all M n f}(h:Mgg c all M Ms idx n f)(hs:∀ i∈idx,Ms'[i]?=Ms[i]?)(y:∀ (i j:Nat) I K,Ms'[i]?=some I->Ms'[j]?=some K->i≠j->I.rb≠K.rb):Mgg c all M Ms' idx n f:=
 ⟨h.toStd.same hs y,by rw[Kuu hs];exact h.mrg,fun j h0 H=>by
  show Lt c (Ksc Ms' (f ((j-1) / 2))) (Ksc Ms' (f j));rw[Kvn hs h.sep y (h.at_ j H),Kvn hs h.sep y (h.at_ _ zo)];exact h.hp j h0 H⟩
end
theorem Mgg.start {c all y idx f}(h:Std y (idx.take idx.length) idx.length f)(hp:Hp c idx.length (fun j=>Ksc y (f j)))(H:(Kry y idx).flatten.Perm all)(hr:∀ r∈Kry y idx,r.Pairwise (Lt c)):Mgg c all [] y idx idx.length f:=by
 rw[Of2]at h;exact⟨h,Mrg.start H hr,hp⟩
section
variable {c:Nat->Nat->Int} {K:SC} {w w':World} {F:Nat->Prop} {E E':DS} {Ms:List Mr} {mv:Value} {bl:Int} {idx all taken:List Nat} {n k i:Nat} {f f':Nat->Nat} {m m':Mr}
theorem Mgg.yes (h:Mgg c all taken Ms idx n f)(I:1<=n)(y:idx[k]?=some i)(hi:Ms[i]?=some m)(h0:m.rb=f 0)(hh:m.R.held≠[])(hn:Kst K w F E Ms mv bl i m m' true E' w')(ht:∀ r,m.R.rem=m.R.held.headD 0::r->Mrg c all (taken++[m.R.held.headD 0]) ((Kry Ms idx).set k r))(H:Arr 0 n f f')(hp:Hp c n (fun j=>Ksc (Ms.set i m') (f' j))):Mgg c all (taken++[m.R.held.headD 0]) (Ms.set i m') idx n f':=
 ⟨(h.toStd.next_yes hn hi (Of6 y) I h0).arr H,by rw[Kti h.mg.nd y hi];exact ht _ (hn.tail hh),hp⟩
theorem Mgg.no (h:Mgg c all taken Ms idx (n+1) f)(H:idx[k]?=some i)(hi:Ms[i]?=some m)(h0:m.rb=f 0)(hh:m.R.held≠[])(hn:Kst K w F E Ms mv bl i m m' false E' w')(ht:∀ r,m.R.rem=m.R.held.headD 0::r->Mrg c all (taken++[m.R.held.headD 0]) ((Kry Ms idx).set k r))(y:Arr 0 n (fun j=>if j=0 then f n else f j) f')(hp:Hp c n (fun j=>Ksc (Ms.set i m') (f' j))):Mgg c all (taken++[m.R.held.headD 0]) (Ms.set i m') idx n f':=
 ⟨(h.toStd.next_no hn hi h0).arr y,by rw[Kti h.mg.nd H hi];exact ht _ (hn.tail hh),hp⟩
end
end
section
open Go.RowKit Go.Shelf Tryz
abbrev TkQ:=List Nat->(Nat->Prop)->World->(Nat->Prop)->DS->List Mr->Prop
structure Kyf (K:SC) (mv:Value) (bl:Int) (idx:List Nat) (T:Nat->Prop) (W:World) (F:Nat->Prop) (Ms:List Mr) (T':Nat->Prop) (W':World) (F':Nat->Prop) (E':DS) (Ms':List Mr):Prop where
 keep:Ju (fun k=>F k\/T k) W W'
 si:SI K W' F' E' Ms' mv bl
 ffr:∀ k,F' k->F k\/W.heap.size<=k
 tfr:∀ k,T' k->T k\/W.heap.size<=k
 same:∀ i∈idx,Ms'[i]?=Ms[i]?
 rbs:Ms'.map (·.rb)=Ms.map (·.rb)
 new:∀ (i:Nat) m',Ms'[i]?=some m'->∃ m,Ms[i]?=some m/\∀ k,m'.N k->m.N k\/W.heap.size<=k
structure Qbp (K:SC) (mv:Value) (bl:Int) (idx:List Nat) (fn tot lim:Nat) (caps:Array Value) (Q:TkQ):Prop where
 si:∀ {t T W F E Ms},Q t T W F E Ms->SI K W F E Ms mv bl
 lt:∀ {t T W F E Ms},Q t T W F E Ms->∀ k,T k->k<W.heap.size
 off:∀ {t T W F E Ms},Q t T W F E Ms->¬ T K.sb/\(∀ g,mv.ownBlock=some g->¬ T g)/\(∀ k,F k->¬ T k)/\∀ i m,i∈idx->Ms[i]?=some m->¬ T m.rb/\∀ k,m.N k->¬ T k
 next:∀ {t T W F E Ms i m m' b E' W'},Q t T W F E Ms->i∈idx->Ms[i]?=some m->Kst K W F E Ms mv bl i m m' b E' W'->Q t T W' F E' (Ms.set i m')
 keep:∀ {t T W F E Ms G W'},Q t T W F E Ms->Ju G W W'->(∀ k,G k->K.w0.heap.size<=k)->¬ G K.sb->(∀ g,mv.ownBlock=some g->¬ G g)->(∀ k,F k->¬ G k)->(∀ m∈Ms,¬ G m.rb/\∀ k,m.N k->¬ G k)->(∀ k,T k->¬ G k)->Q t T W' F E Ms
 take:∀ {t T W F E Ms x cb cp hs},Q t T W F E Ms->t.length<tot->x<nR K.cs->Qd W cb hs (Jba [x] K.cs)->Jbo cb hs K.cs.length (fun b=>b<W.heap.size/\¬ (F b\/T b)) ->
  Calls prog fn (#[.slice (some ⟨cb,0,none⟩) K.cs.length cp]++caps) W fun e W'=>∃ T' F' E' Ms',Kyf K mv bl idx T W F Ms T' W' F' E' Ms' /\
   ((e=.returned .nilIface/\Q (t++[x]) T' W' F' E' Ms')\/∃ y b,e=.returned (.iface 156 (.pointer (some ⟨b,0,none⟩)))/\Yu W' (.iface 156 (.pointer (some ⟨b,0,none⟩))) (if y=true then K.q else K.qw) none (some (-1))/\W.heap.size<=b/\¬ F' b/\Kso K.D0 y/\dz E'<=lim)
theorem Kvm {y:List Mr}{i:Nat}{m H:Mr}(hi:y[i]?=some m)(I:H.rb=m.rb):(y.set i H).map (·.rb)=y.map (·.rb):=by
 refine Oi8 fun k=>?_;rw[Ob1,Ob1];by_cases e:i=k
 ·subst e;rw[Oh0 (Ob9.1 hi).1,hi];simp[I]
 rw[Od1 e]
end
open Go.RowKit Go.Shelf
theorem Kx1:∀ (bs:List Bk),(∀ b∈bs,1<=b.ids.length)->bs.length<=(bs.flatMap (·.ids)).length
 |[],_=>Oa2 _
 |b::bs,h=>by
  have H:=Kx1 bs fun x y=>h x (Og1 _ y);have I:=h b Of4;rw[Og7,Oa8,List.length_cons];omega
structure Bx (K:SC) (W:World) (F:Nat->Prop) (Ms:List Mr) (mv:Value) (b:Nat) (v:Value):Prop where
 cell:W.cell? ⟨b,0,none⟩=some v
 sb:b≠K.sb
 mv:mv.ownBlock≠some b
 nf:¬ F b
 ms:∀ m∈Ms,m.rb≠b/\¬ m.N b
def NrT (b1 b2:Nat)(m:Mr):Nat->Prop:=fun k=>k=b1\/k=b2\/k=m.rb\/m.ab=some k
structure NrI (K:SC) (mv:Value) (z j rb0 b1 b2 pb tot lim:Nat) (idx:List Nat) (Ms0:List Mr) (p0:Nat) (t:List Nat) (T:Nat->Prop) (W:World) (F:Nat->Prop) (E:DS) (Ms:List Mr) (m:Mr):Prop where
 sw:SW K W F E Ms mv (z:Int) j m
 rb:m.rb=rb0
 pl:m.R.place=p0
 ids:m.R.bs.flatMap (·.ids)=t
 own:T=NrT b1 b2 m
 x1:Bx K W F Ms mv b1 (.pointer (some ⟨K.sb,0,none⟩))
 x2:Bx K W F Ms mv b2 (.pointer (some ⟨rb0,0,none⟩))
 pgs:dz E+pb*(tot-t.length)<=lim
 oth:∀ i,i∉idx->i≠j->Ms[i]?=Ms0[i]?
def NrQ (y:SC)(mv:Value)(z j O b1 b2 M U lim:Nat)(idx:List Nat)(I:List Mr)(K:Nat):TkQ:=fun t T W F E H=>∃ m,NrI y mv z j O b1 b2 M U lim idx I K t T W F E H m
theorem Ktv {y:List Mr}{i:Nat}{m I x:Mr}(hi:y[i]?=some m)(O:I.rb=m.rb){S:Nat}(M:∀ k,I.N k->m.N k\/S<=k)(H:x∈y.set i I):∃ K∈y,x.rb=K.rb/\∀ k,x.N k->K.N k\/S<=k:=by
 rcases List.mem_or_eq_of_mem_set H with H|rfl
 ·exact⟨x,H,rfl,fun k hk=>.inl hk⟩
 exact⟨m,Of6 hi,O,M⟩
theorem Bx.turn {I W O F H G K M mv v b}(h:Bx I W F K mv b v)(hk:Ju G W O)(U:¬ G b)(hF:∀ k,H k->F k\/W.heap.size<=k)(hM:∀ x∈M,∃ y∈K,x.rb=y.rb/\∀ k,x.N k->y.N k\/W.heap.size<=k):Bx I O H M mv b v:=by
 have hl:b<W.heap.size:=Jb0 h.cell;refine⟨(Oc3 (hk.block b hl U)).trans h.cell,h.sb,h.mv,fun hf=>(hF b hf).elim h.nf fun e=>zo,fun x Z=>?_⟩;obtain⟨y,hy,e,Y⟩:=hM x Z;exact⟨by rw[e];exact(h.ms y hy).1,fun hn=>(Y b hn).elim (h.ms y hy).2 fun e=>zo⟩
theorem NrQ.ok M(hK:SK M)mv(z j cx b1 b2 H U lim:Nat)(cB:lim<=930000)idx bP(cv:Nat)(bN:1<=z)(cn:z<=64)(Y:j∉idx)(htot:U<=100000)(cf:∀ x,x<nR M.cs->(Qu (Kr3 M.ts (Jba [x] M.cs) M.ts.length)).length<=H):Qbp M mv (z:Int) idx 243 U lim #[.pointer (some ⟨b1,0,none⟩),.pointer (some ⟨b2,0,none⟩)] (NrQ M mv z j cx b1 b2 H U lim idx bP cv):=by
 refine⟨fun ⟨m,h⟩=>h.sw.si,fun ⟨m,h⟩ k hk=>?_,fun ⟨m,h⟩=>?_,fun ⟨cu,h⟩ hi O hn=>?_,fun ⟨m,h⟩ hk g1 g2 bR bS bT bG=>?_,fun {t T W F E bx x bQ cp hs} ⟨m,h⟩ ht y hC bI=>?_⟩
 ·rw[h.own]at hk;rcases hk with rfl|rfl|rfl|hk
  ·exact Jb0 h.x1.cell
  ·exact Jb0 h.x2.cell
  ·exact Jd (h.sw.si.runs m (Of6 h.sw.at_)).1.cells
  exact(h.sw.abN hk).2
 ·have O:=h.sw.si.runs m (Of6 h.sw.at_);have ho:=h.sw.si.off m (Of6 h.sw.at_);rw[h.own];refine⟨?_,fun g bk=>?_,fun k hf=>?_,fun i K hi I=>⟨?_,fun k hn=>?_⟩⟩
  ·rintro(e|e|e|e)
   ·exact h.x1.sb e.symm
   ·exact h.x2.sb e.symm
   ·exact ho.sb e.symm
   exact ho.nsb (h.sw.abN e).1
  ·rintro(e|e|e|e)
   ·exact h.x1.mv (e▸bk)
   ·exact h.x2.mv (e▸bk)
   ·exact ho.made (e▸bk)
   exact ho.nmade g bk (h.sw.abN e).1
  ·rintro(e|e|e|e)
   ·exact h.x1.nf (e▸hf)
   ·exact h.x2.nf (e▸hf)
   ·exact O.2.1 (e▸hf)
   exact O.2.2 k (h.sw.abN e).1 hf
  ·have bh:j≠i:=fun e=>Y (e▸hi);have bf:=Of6 I;rintro(e|e|e|e)
   ·exact(h.x1.ms K bf).1 e
   ·exact(h.x2.ms K bf).1 e
   ·exact(h.sw.si.sep j i m K h.sw.at_ I bh).1 e.symm
   exact(h.sw.si.sep j i m K h.sw.at_ I bh).2 (h.sw.abN e).1
  have bh:j≠i:=fun e=>Y (e▸hi);have bf:=Of6 I;rintro(e|e|e|e)
  ·exact(h.x1.ms K bf).2 (e▸hn)
  ·exact(h.x2.ms K bf).2 (e▸hn)
  ·exact(h.sw.si.sep i j K m I h.sw.at_ fun bz=>bh bz.symm).2 (e▸hn)
  exact h.sw.arr k e i K I (fun bz=>bh bz.symm) hn
 ·have Z:=Of6 O;exact⟨cu,h.sw.next hn O (fun e=>Y (e▸hi)),h.rb,h.pl,h.ids,h.own,h.x1.turn hn.keep (fun e=>e.elim h.x1.nf fun e=>(h.x1.ms _ Z).1 e.symm) (fun k hk=>.inl hk) (fun x y=>Ktv O hn.rb hn.new y),h.x2.turn hn.keep (fun e=>e.elim h.x2.nf fun e=>(h.x2.ms _ Z).1 e.symm) (fun k hk=>.inl hk) (fun x y=>Ktv O hn.rb hn.new y),by rw[hn.pgs];exact h.pgs,fun a bi bj=>(Od1 (fun e=>bi (by rw[<-e];exact hi))).trans (h.oth a bi bj)⟩
 ·exact⟨m,h.sw.keep hk g1 g2 bR bS bT,h.rb,h.pl,h.ids,h.own,h.x1.turn hk (bG b1 (by rw[h.own];exact .inl rfl)) (fun k hk=>.inl hk) (fun x y=>⟨x,y,rfl,fun k hk=>.inl hk⟩),h.x2.turn hk (bG b2 (by rw[h.own];exact .inr (.inl rfl))) (fun k hk=>.inl hk) (fun x y=>⟨x,y,rfl,fun k hk=>.inl hk⟩),h.pgs,h.oth⟩
 have Z:=Of6 h.sw.at_;have bZ:ckN 1 z<=1:=Kg4 _ _ bN;have cC:H*ckN 1 z<=H:=Ob2 (Nat.mul_le_mul_left H bZ) (Nat.le_of_eq (Nat.mul_one _));have cE:H*(U-t.length)=H*(U-(t.length+1))+H:=by
  rw[show U-t.length=(U-(t.length+1))+1 by omega,Nat.mul_add,Nat.mul_one]
 have cD:=h.pgs;have bV:m.R.bs.length<=100000:=by
  have:=Kx1 m.R.bs fun b hb=>(h.sw.si.blks m Z b hb).2.1.1;rw[h.ids]at this;omega
 have mono:∀ b,(b<W.heap.size/\¬ (F b\/T b))->b<W.heap.size/\¬ (F b\/b=m.rb\/m.ab=some b):=fun b hb=>⟨hb.1,fun e=>hb.2 (e.imp id fun e=>by rw[h.own];exact .inr (.inr e))⟩;have bX:=Kvx M hK W F E bx mv z j m bQ cp hs [x] h.sw bN cn hC ⟨mono _ bI.1,fun j Y b o e=>mono b (bI.2 j Y b o e)⟩ (fun t ht=>by rw[Oc6.1 ht];exact y) (Oa2 _) zS bV H (fun ch bW cA _ bH=>by
  obtain⟨a,rfl⟩:∃ a,ch=[a]:=List.length_eq_one_iff.1 (by have bH:ch.length<=1:=bH;omega);exact cf a (bW a (Oc6.2 rfl))) (by show dz E+H*ckN 1 z<=930000;omega) b1 b2 h.x1.cell (by rw[h.rb];exact h.x2.cell)
 refine Calls.mono bX fun e cz hp=>?_;obtain⟨bC,bO,bE,bD,bM,br,ci,bB,bK,bU,bL,ca⟩:=hp;have bL:dz bE<=dz E+H*ckN 1 z:=bL;have bJ:=fun x y=>Ktv (S:=W.heap.size) (x:=x) h.sw.at_ br bK y;have nb:∀ b v,Bx M W F bx mv b v->¬ (F b\/b=m.rb\/m.ab=some b):=fun b v hb e=>by
  rcases e with e|e|e
  ·exact hb.nf e
  ·exact(hb.ms m Z).1 e.symm
  exact(hb.ms m Z).2 (h.sw.abN e).1
 refine⟨NrT b1 b2 bD,bO,bE,bx.set j bD,⟨bC.mono fun k _ hk=>hk.imp id fun e=>by rw[h.own];exact .inr (.inr e),bM.si,bB,fun k hk=>?_,fun i hi=>Od1 (fun e:j=i=>Y (e▸hi)),Kvm h.sw.at_ br,fun i K I=>?_⟩,?_⟩
 ·rw[h.own];rcases hk with e|e|e|e
  ·exact .inl (.inl e)
  ·exact .inl (.inr (.inl e))
  ·exact .inl (.inr (.inr (.inl (e.trans br))))
  exact(bU k e).imp (fun e=>.inr (.inr (.inr e))) id
 ·rcases getElem?_set_cases I with⟨e,rfl⟩|⟨_,I⟩
  ·exact⟨m,e▸h.sw.at_,bK⟩
  exact⟨K,I,fun k hk=>.inl hk⟩
 rcases ca with⟨bA,cb⟩|⟨cy,b,bA,bY,hb,cc,_,cj⟩
 ·exact .inl ⟨bA,bD,bM,br.trans h.rb,ci.trans h.pl,by rw[cb,h.ids],rfl,h.x1.turn bC (nb _ _ h.x1) bB bJ,h.x2.turn bC (nb _ _ h.x2) bB bJ,by rw[Oa8,List.length_singleton];omega,fun a bi bj=>(Od1 (fun e=>bj e.symm)).trans (h.oth a bi bj)⟩
 exact .inr ⟨cy,b,bA,bY,hb,cc,cj,zo⟩
structure NoS (K:SC) (W:World) (F:Nat->Prop) (Ms:List Mr) (mv:Value) (b:Nat):Prop where
 lt:b<W.heap.size
 lo:K.w0.heap.size<=b
 sb:b≠K.sb
 mv:mv.ownBlock≠some b
 nf:¬ F b
 ms:∀ m∈Ms,m.rb≠b/\¬ m.N b
theorem NoS.turn {H W M F I K mv b}(h:NoS H W F I mv b)(hs:W.heap.size<=M.heap.size)(hM:∀ x∈K,∃ y∈I,x.rb=y.rb/\∀ k,x.N k->y.N k\/W.heap.size<=k):NoS H M F K mv b:=by
 have hl:=h.lt;refine⟨Oc2 hl hs,h.lo,h.sb,h.mv,h.nf,fun x U=>?_⟩;obtain⟨y,hy,e,O⟩:=hM x U;exact⟨by rw[e];exact(h.ms y hy).1,fun hn=>(O b hn).elim (h.ms y hy).2 fun e=>zo⟩
theorem SI.noS {y W I F E H mv bl}(h:SI y W F E H mv bl){b}(hb:W.heap.size<=b)(hl:b<I.heap.size):NoS y I F H mv b:=by
 have M:=Jd h.st;refine⟨hl,Ob2 h.old.size hb,zo,fun e=>?_,fun e=>?_,fun m K=>⟨fun e=>?_,fun e=>?_⟩⟩
 ·have:=Qk h.own e;omega
 ·have:=h.flt b e;omega
 ·have:=Jd (h.runs m K).1.cells;omega
 have:=(h.runs m K).1.lt b e;omega
def SrT (n ob g:Nat)(y:List Value):Nat->Prop:=fun k=>k=ob\/k=g\/∃ j,j<n/\(Uq y j).ownBlock=some k
structure SrI (K:SC) (mv:Value) (bl:Int) (ob g cap lim:Nat) (t:List Nat) (T:Nat->Prop) (W:World) (F:Nat->Prop) (E:DS) (Ms:List Mr) (svs:List Value):Prop where
 si:SI K W F E Ms mv bl
 col:Jar W K.w0.heap.size g svs (Jba t K.cs)
 box:W.cell? ⟨ob,0,none⟩=some (.slice (some ⟨g,0,none⟩) K.cs.length cap)
 own:T=SrT K.cs.length ob g svs
 no:∀ k,T k->NoS K W F Ms mv k
 ob:ob≠g/\∀ j,j<K.cs.length->(Uq svs j).ownBlock≠some ob
 pgs:dz E<=lim
def SrQ (y:SC)(mv:Value)(bl:Int)(ob g cap lim:Nat):TkQ:=fun t T W F E H=>∃ I,SrI y mv bl ob g cap lim t T W F E H I
theorem Jar.on {w w' B g y cs}(h:Jar w B g y cs)(hk:∀ k,(k=g\/∃ j,j<cs.length/\(Uq y j).ownBlock=some k)->w'.heap[k]?=w.heap[k]?):Jar w' B g y cs:=
 ⟨h.row.of_block (hk g (.inl rfl)),h.low,h.len,fun i hi=>Jl (h.own i hi) fun b hb=>hk b (.inr ⟨i,hi,hb⟩),h.ne,h.apart⟩
theorem SrI.on {K mv bl ob g cap lim t T W y F E I O M Y}(h:SrI K mv bl ob g cap lim t T W F E O Y)(bh:dz I<=lim)(hs:SI K y F I M mv bl){G}(hk:Ju G W y)(bf:∀ k,T k->¬ G k)(hM:∀ x∈M,∃ Z∈O,x.rb=Z.rb/\∀ k,x.N k->Z.N k\/W.heap.size<=k):SrI K mv bl ob g cap lim t T y F I M Y:=by
 have same:∀ k,T k->y.heap[k]?=W.heap[k]?:=fun k H=>hk.block k (h.no k H).lt (bf k H);refine⟨hs,h.col.on fun k bi=>same k ?_,(Oc3 (same ob ?_)).trans h.box,h.own,fun k H=>(h.no k H).turn hk.size hM,h.ob,bh⟩
 ·rw[h.own];rcases bi with e|⟨j,U,e⟩
  ·exact .inr (.inl e)
  exact .inr (.inr ⟨j,by rw[Krw]at U;exact U,e⟩)
 rw[h.own];exact .inl rfl
theorem SrQ.ok M(hK:SK M)mv bl ob g cap bE lim idx(htot:bE<=100000):Qbp M mv bl idx 158 bE lim #[.pointer (some ⟨ob,0,none⟩)] (SrQ M mv bl ob g cap lim):=by
 refine⟨fun ⟨_,h⟩=>h.si,fun ⟨_,h⟩ k hk=>(h.no k hk).lt,fun ⟨_,h⟩=>⟨fun e=>(h.no _ e).sb rfl,fun g br e=>(h.no _ e).mv br,fun k hf e=>(h.no _ e).nf hf,fun i m _ K=>⟨fun e=>((h.no _ e).ms m (Of6 K)).1 rfl,fun k hn e=>((h.no _ e).ms m (Of6 K)).2 hn⟩⟩,fun ⟨O,h⟩ _ K hn=>⟨O,h.on (by rw[hn.pgs];exact h.pgs) hn.si hn.keep (fun k y e=>e.elim (h.no k y).nf fun e=>((h.no k y).ms _ (Of6 K)).1 e.symm) fun x U=>Ktv K hn.rb hn.new U⟩,fun ⟨O,h⟩ hk g1 g2 bJ bK bL bM=>⟨O,h.on h.pgs (h.si.keep hk g1 g2 bJ bK bL) hk bM fun x U=>⟨x,U,rfl,fun k hk=>.inl hk⟩⟩,fun {t T W F E bf x bI cp hs} ⟨O,h⟩ ht _ hC Y=>?_⟩;have y:∀ k,(k=g\/∃ j,j<M.cs.length/\(Uq O j).ownBlock=some k)->T k:=fun k hk=>by rw[h.own];exact .inr hk
 have bO:=Kxi M W M.w0.heap.size g cap O t [x] bI cp ob hs h.box h.col hC hK.sg.good.few (by rw[List.length_singleton];omega) h.si.old.size (fun j b H e=>⟨fun I=>Y.1.2 (.inr (I▸y b (.inr ⟨j,H,e⟩))),fun k bh bA hk bi I=>(Y.2 k hk bh bA bi).2 (.inr (I▸y b (.inr ⟨j,H,e⟩)))⟩) ⟨fun I=>Y.1.2 (.inr (I▸y g (.inl rfl))),fun k bh bA hk bi I=>(Y.2 k hk bh bA bi).2 (.inr (I▸y g (.inl rfl)))⟩;refine Calls.mono bO fun e bH hp=>?_;obtain⟨bP,⟨bD,bB,bz⟩,bk,Z,bN⟩:=hp;have bx:Ju (fun k=>k=g\/∃ j,j<M.cs.length/\(Uq O j).ownBlock=some k) W bH:=⟨bk.os,bk.tape,bk.output,Z,fun k hk hn=>bN k hk (fun e=>hn (.inl e)) fun j H e=>hn (.inr ⟨j,H,e⟩)⟩;have bC:=h.si.keep bx (fun k hk=>(h.no k (y k hk)).lo) (fun e=>(h.no _ (y _ e)).sb rfl) (fun g br e=>(h.no _ (y _ e)).mv br) (fun k hf e=>(h.no _ (y _ e)).nf hf) (fun m K=>⟨fun e=>((h.no _ (y _ e)).ms m K).1 rfl,fun k hn e=>((h.no _ (y _ e)).ms m K).2 hn⟩);have bj:T ob:=by rw[h.own];exact .inl rfl
 have bQ:=(h.no ob bj).lt;refine⟨SrT M.cs.length ob g bD,F,E,bf,⟨bx.mono fun k _ hk=>.inr (y k hk),bC,fun k hk=>.inl hk,fun k hk=>?_,fun i _=>rfl,rfl,fun i m K=>⟨m,K,fun k hk=>.inl hk⟩⟩,.inl ⟨bP,bD,bC,bB,?_,rfl,fun k hk=>?_,⟨h.ob.1,fun j H e=>?_⟩,h.pgs⟩⟩
 ·rcases hk with e|e|⟨j,H,e⟩
  ·exact .inl (e▸bj)
  ·exact .inl (y k (.inl e))
  exact(bz j k H e).imp (fun e=>y k (.inr ⟨j,H,e⟩)) id
 ·exact(Oc3 (bx.block ob bQ fun e=>e.elim h.ob.1 fun ⟨j,H,e⟩=>h.ob.2 j H e)).trans h.box
 ·have same:=fun (x:Mr) (U:x∈bf)=>(⟨x,U,rfl,fun k hk=>.inl hk⟩:∃ bG∈bf,x.rb=bG.rb/\∀ k,x.N k->bG.N k\/W.heap.size<=k);rcases hk with e|e|⟨j,H,e⟩
  ·exact(h.no k (e▸bj)).turn Z same
  ·exact(h.no k (y k (.inl e))).turn Z same
  rcases bz j k H e with I|I
  ·exact(h.no k (y k (.inr ⟨j,H,I⟩))).turn Z same
  exact h.si.noS I (Je (bB.own j (by rw[Krw];exact H)) e).2
 rcases bz j ob H e with I|I
 ·exact h.ob.2 j H I
 omega
def HpO (y:SC)(W:World)(F:Nat->Prop)(H:List Mr)(mv:Value)(T:Nat->Prop)(hb:Nat):Prop:=∀ k,HpF W hb k->NoS y W F H mv k/\¬ T k
theorem HpF.back {W y hb k}(e:y.heap[hb]?=W.heap[hb]?)(h:HpF y hb k):HpF W hb k:=by
 unfold HpF at h |-;rw[Oc3 e]at h;exact h
theorem HpP.on {W y hb sb n f}(h:HpP W hb sb n f)(hs:W.heap.size<=y.heap.size)(hk:∀ k,HpF W hb k->y.heap[k]?=W.heap[k]?):HpP y hb sb n f:=by
 rcases h with⟨e,h⟩|⟨H,cap,h⟩
 ·exact .inl ⟨e,(hk hb (.inl rfl)).trans h⟩
 exact .inr ⟨H,cap,h.on hs (hk hb (.inl rfl)) (hk H ((h.foot H).2 (.inr rfl)))⟩
section
variable {K:SC} {W W':World} {F F' T T':Nat->Prop} {E E':DS} {Ms Ms':List Mr} {mv:Value} {bl:Int} {idx:List Nat} {hb n i:Nat} {f:Nat->Nat} {m m':Mr} {b:Bool}
theorem HpO.next (h:HpO K W F Ms mv T hb)(hp:HpP W hb K.sb n f)(hn:Kst K W F E Ms mv bl i m m' b E' W')(hi:Ms[i]?=some m):HpO K W' F (Ms.set i m') mv T hb/\HpP W' hb K.sb n f:=by
 have same:∀ k,HpF W hb k->W'.heap[k]?=W.heap[k]?:=fun k hk=>hn.keep.block k (h k hk).1.lt fun e=>e.elim (h k hk).1.nf fun e=>((h k hk).1.ms m (Of6 hi)).1 e.symm;refine⟨fun k hk=>?_,hp.on hn.keep.size same⟩;have y:=HpF.back (same hb (.inl rfl)) hk;exact⟨(h k y).1.turn hn.keep.size fun x H=>Ktv hi hn.rb hn.new H,(h k y).2⟩
theorem HpO.took (h:HpO K W F Ms mv T hb)(hp:HpP W hb K.sb n f)(hl:Kyf K mv bl idx T W F Ms T' W' F' E' Ms'):HpO K W' F' Ms' mv T' hb/\HpP W' hb K.sb n f:=by
 have same:∀ k,HpF W hb k->W'.heap[k]?=W.heap[k]?:=fun k hk=>hl.keep.block k (h k hk).1.lt fun e=>e.elim (h k hk).1.nf (h k hk).2;refine⟨fun k hk=>?_,hp.on hl.keep.size same⟩;have M:=HpF.back (same hb (.inl rfl)) hk;have y:=(h k M).1;have U:=y.lt;refine⟨⟨Oc2 U hl.keep.size,y.lo,y.sb,y.mv,fun e=>(hl.ffr k e).elim y.nf fun e=>zo,fun x Z=>?_⟩,fun e=>(hl.tfr k e).elim (h k M).2 fun e=>zo⟩;obtain⟨q,hq,e⟩:=Od5 Z;obtain⟨H,hy,O⟩:=hl.new q x (by rw[Oa3 hq,e]);have Y:x.rb=H.rb:=by
  have I:=congrArg (fun l=>l[q]?) hl.rbs;simp only[Ob1,Oa3 hq,e,hy,Option.map_some]at I;exact Oj6 I
 exact⟨by rw[Y];exact(y.ms H (Of6 hy)).1,fun hn=>(O k hn).elim (y.ms H (Of6 hy)).2 fun e=>zo⟩
theorem HpO.turn (h:HpO K W F Ms mv T hb)(hs:SI K W F E Ms mv bl)(ht:∀ k,T k->k<W.heap.size)(hk:Ju (HpF W hb) W W')(I:∀ k,HpF W' hb k->k<W'.heap.size)(hf:∀ k,HpF W' hb k->HpF W hb k\/W.heap.size<=k):HpO K W' F Ms mv T hb:=fun k y=>by
 rcases hf k y with e|e
 ·exact⟨(h k e).1.turn hk.size fun x M=>⟨x,M,rfl,fun k hk=>.inl hk⟩,(h k e).2⟩
 exact⟨hs.noS e (I k y),fun H=>by have:=ht k H;omega⟩
theorem HpO.keepQ {fn O lim H}{Q:TkQ}{t}(hQ:Qbp K mv bl idx fn O lim H Q)(h:HpO K W F Ms mv T hb)(hq:Q t T W F E Ms)(hk:Ju (HpF W hb) W W'):Q t T W' F E Ms:=
 hQ.keep hq hk (fun k hk=>(h k hk).1.lo) (fun e=>(h _ e).1.sb rfl) (fun _ M e=>(h _ e).1.mv M) (fun _ hf e=>(h _ e).1.nf hf) (fun x y=>⟨fun e=>((h _ e).1.ms x y).1 rfl,fun _ hn e=>((h _ e).1.ms x y).2 hn⟩) (fun _ I e=>(h _ e).2 I)
theorem HpO.ahOk (h:HpO K W F Ms mv T hb)(hs:SI K W F E Ms mv bl)(hK:SK K)(hM:Ktk Ms idx):Kur W (HpF W hb) K.sb (Kvi Ms idx) (Ksc Ms) (Kr5 K.ks K.cs):=
 hs.ahOk hK hM (fun k hk=>(h k hk).1.lo) (fun e=>(h _ e).1.sb rfl) (fun _ H e=>(h _ e).1.mv H) (fun _ hf e=>(h _ e).1.nf hf) (fun x y=>⟨fun e=>((h _ e).1.ms x y).1 rfl,fun _ hn e=>((h _ e).1.ms x y).2 hn⟩)
end
theorem Krx {p}(h:p):Hid p:=h
def MgB (y:List Mr)(idx:List Nat):Nat->Prop:=fun k=>∃ i m,i∈idx/\y[i]?=some m/\k=m.rb
structure MgL (w:World) (F0 T0:Nat->Prop) (Ms0:List Mr) (idx:List Nat) (W:World) (F T:Nat->Prop) (Ms:List Mr):Prop where
 keep:Ju (fun k=>F0 k\/T0 k\/MgB Ms0 idx k) w W
 ffr:∀ k,F k->F0 k\/w.heap.size<=k
 tfr:∀ k,T k->T0 k\/w.heap.size<=k
 rbs:Ms.map (·.rb)=Ms0.map (·.rb)
 new:∀ (i:Nat) m',Ms[i]?=some m'->∃ m,Ms0[i]?=some m/\∀ k,m'.N k->m.N k\/w.heap.size<=k
theorem Qbf {y H:List Mr}(h:y.map (·.rb)=H.map (·.rb)){i:Nat}{m K:Mr}(M:y[i]?=some m)(O:H[i]?=some K):m.rb=K.rb:=by
 have I:=congrArg (fun l=>l[i]?) h;simp only[Ob1,M,O,Option.map_some]at I;exact Oj6 I
section
variable {K:SC} {w W W':World} {F F' T T' F0 T0 G:Nat->Prop} {E E':DS} {Ms Ms' Ms0:List Mr} {mv:Value} {bl:Int} {idx:List Nat} {i:Nat} {m m':Mr} {b:Bool}
theorem MgL.refl:MgL w F0 T0 Ms0 idx w F0 T0 Ms0:=⟨Ju.refl _ _,fun _ h=>.inl h,fun _ h=>.inl h,rfl,fun _ m h=>⟨m,h,fun _ h=>.inl h⟩⟩
theorem MgL.next (h:MgL w F0 T0 Ms0 idx W F T Ms)(hn:Kst K W F E Ms mv bl i m m' b E' W')(hi:Ms[i]?=some m)(O:i∈idx):MgL w F0 T0 Ms0 idx W' F T (Ms.set i m'):=by
 have hs:=h.keep.size;obtain⟨I,y,M⟩:=h.new i m hi;refine⟨h.keep.trans' hn.keep fun k hk e=>?_,h.ffr,h.tfr,(Kvm hi hn.rb).trans h.rbs,fun j x H=>?_⟩
 ·rcases e with e|e
  ·exact .inl ((h.ffr k e).resolve_right zo)
  exact .inr (.inr ⟨i,I,O,y,e.trans (Qbf h.rbs hi y)⟩)
 rcases getElem?_set_cases H with⟨e,rfl⟩|⟨_,H⟩
 ·subst e;exact⟨I,y,fun k hk=>(hn.new k hk).elim (M k) fun e=>.inr zo⟩
 exact h.new j x H
theorem MgL.took (h:MgL w F0 T0 Ms0 idx W F T Ms)(hl:Kyf K mv bl idx T W F Ms T' W' F' E' Ms'):MgL w F0 T0 Ms0 idx W' F' T' Ms':=by
 have hs:=h.keep.size;refine⟨h.keep.trans' hl.keep fun k hk e=>?_,fun k hk=>(hl.ffr k hk).elim (h.ffr k) fun e=>.inr zo,fun k hk=>(hl.tfr k hk).elim (h.tfr k) fun e=>.inr zo,hl.rbs.trans h.rbs,fun j x I=>?_⟩
 ·rcases e with e|e
  ·exact .inl ((h.ffr k e).resolve_right zo)
  exact .inr (.inl ((h.tfr k e).resolve_right zo))
 obtain⟨O,hy,y⟩:=hl.new j x I;obtain⟨z,M,H⟩:=h.new j O hy;exact⟨z,M,fun k hk=>(y k hk).elim (H k) fun e=>.inr zo⟩
theorem MgL.turn (h:MgL w F0 T0 Ms0 idx W F T Ms)(hk:Ju G W W')(y:∀ k,G k->w.heap.size<=k):MgL w F0 T0 Ms0 idx W' F T Ms:=
 ⟨h.keep.trans' hk fun k H e=>absurd (y k e) zo,h.ffr,h.tfr,h.rbs,h.new⟩
end
