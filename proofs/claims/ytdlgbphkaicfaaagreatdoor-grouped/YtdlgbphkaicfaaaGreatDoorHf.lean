/- A store in memory; New; what Load does round the set's Load. -/
import Derived.Test.YtdlgbphkaicfaaaGreatDoorSb
import Derived.Test.YtdlgbphkaicfaaaGreatDoorKm
import Derived.Test.YtdlgbphkaicfaaaGreatDoorHc
import Derived.Deep.CutRange
import Derived.Deep.RegionHeld3
set_option maxHeartbeats 1000000
set_option maxRecDepth 100000
namespace Go.Proofs.YtdlgbphkaicfaaaGreatDoor
open Go.RowKit Go.Shelf Tryz
structure Sto (M:Nat→Prop) (w:World) (st:Nat) (D:DS) (Ts:List TS):Prop where
 ex:∃ (d s:Nat) (F G:Nat→Prop) (sv:Value) (bs:List Nat),Jdu w st d s∧Jfl w G s d Ts sv bs∧Zb w F d D∧(∀ k,G k→¬ F k)∧¬ F s∧(∀ g,sv.ownBlock=some g→¬ F g)∧¬ F st∧¬ G st∧st≠s∧sv.ownBlock≠some st∧(∀ k,F k∨G k∨Jnr s sv k∨k=st→M k)
 lt:∀ k,M k→k<w.heap.size
theorem Sto.stands {A:Nat→Prop}{w w':World}{st:Nat}{H:DS}{Ts:List TS}(h:Sto A w st H Ts)(hs:w.heap.size≤w'.heap.size)(D:∀ k,A k→w'.heap[k]?=w.heap[k]?):Sto A w' st H Ts:=by
 obtain⟨⟨d,s,F,G,sv,bs,h1,h2,M,O,R,U,X,Z,ba,K,y⟩,bb⟩:=h
 refine⟨⟨d,s,F,G,sv,bs,?_,h2.stands hs fun k E _=>D k (y k (E.elim (fun a=>.inr (.inl a)) (fun a=>.inr (.inr (.inl a))))),M.stands fun k hf _=>D k (y k (.inl hf)),O,R,U,X,Z,ba,K,y⟩,fun k E=>Oc2 (bb k E) hs⟩
 unfold Jdu at h1 ⊢
 rw[D st (y st (.inr (.inr (.inr rfl))))]
 exact h1
theorem Sto.below {A:Nat→Prop}{w w':World}{st:Nat}{y:DS}{Ts:List TS}(h:Sto A w st y Ts)(D:Below w.heap.size w w'):Sto A w' st y Ts:=h.stands D.size fun k E=>D.block k (h.lt k E)
theorem Ke2 (d:Nat)(w:World):Calls prog 28 #[.pointer (some ⟨d,0,none⟩)] w fun e w'=>e=.returned (.pointer (some ⟨w.heap.size,0,none⟩))∧w'=w.alloc (.cells #[.pointer (some ⟨d,0,none⟩),.slice none 0 0] 116):=by
 go_enter func28,ntmps28
 go_wp2
 go_ret
 exact⟨rfl,rfl⟩
theorem Kfq (q f:Int)(w:World) :
  Calls prog 20 #[.agg #[.int .i64 q,.int .i64 f]] w fun e w'=>Below w.heap.size w w'∧∃ (st:Nat) (A:Nat→Prop),e=.returned (.pointer (some ⟨st,0,none⟩))∧Sto A w' st (Ku q f) []∧(∀ k,A k→w.heap.size≤k):=by
 have O:Below w.heap.size w (w.alloc (.cells #[.int .i64 q,.int .i64 f] 33)):=(Oa5 _ w).alloc (Oa2 _) _
 have M:=Kcn q f (w.alloc (.cells #[.int .i64 q,.int .i64 f] 33))
 go_enter func20,ntmps20
 go_wp2_with (first|(go_at_call 27;refine M.mono ?_;rintro e y ⟨d,rfl,U,H,R⟩;have D:=Jb O R)|(go_at_call 28;refine(Ke2 d y).mono ?_;rintro e Z ⟨rfl,rfl⟩))
 go_ret
 have E:Below y.heap.size y ((y.alloc (.cells #[.pointer (some ⟨d,0,none⟩),.slice none 0 0] 116)).alloc (.cells #[.pointer (some ⟨d,0,none⟩),.pointer (some ⟨y.heap.size,0,none⟩)] 82)):=((Oa5 _ _).alloc (Oa2 _) _).alloc (by simp) _
 have bb:=D.size
 have ba:d<y.heap.size:=by
  obtain⟨sv,ps,X⟩:=H
  exact Jd X.cells
 rw[Oa7]at U
 have K:=heap_alloc_new (y.alloc (.cells #[.pointer (some ⟨d,0,none⟩),.slice none 0 0] 116)) (.cells #[.pointer (some ⟨d,0,none⟩),.pointer (some ⟨y.heap.size,0,none⟩)] 82)
 rw[Oa7]at K
 refine⟨Jb D E,y.heap.size+1,fun k=>k=d∨k=y.heap.size∨k=y.heap.size+1,rfl,⟨⟨d,y.heap.size,fun k=>k=d,fun _=>False,.slice none 0 0,[],K,?_,H.below E,by simp,by omega,by simp[Value.ownBlock],by omega,by simp,by omega,by simp[Value.ownBlock],?_⟩,?_⟩,?_⟩
 ·refine⟨?_,Jo.nil _ _ _,by simp,by simp[Value.ownBlock],rfl,by simp,by simp⟩
  rw[Oa9 _ _ _ (by simp),heap_alloc_new]
 ·rintro k (h|h|h|h)
  ·exact .inl h
  ·exact h.elim
  ·rcases h with h|h
   ·exact .inr (.inl h)
   simp[Value.ownBlock]at h
  exact .inr (.inr h)
 ·rintro k (h|h|h)<;>subst h<;>simp<;>omega
 rintro k (h|h|h)<;>subst h<;>omega
abbrev Ka:Obj:=.cells #[.int .i64 0,.int .i64 0,.int .i64 0,.int .i64 0,.int .i64 0] 42
theorem Ju9 (st s:Nat)(name:ByteArray)(bc bf:Value)(M O bu:Option Addr)(X R Z c2 bB c3:Nat)(bT:bc=.slice M X R)(bU:bf=.slice O Z c2)(g:Int)(w:World)(ba:Nat→Prop)(bl:∀ k,ba k→k<w.heap.size)(bS:¬ ba st)(c1:w.cell? ⟨st,1,none⟩=some (.pointer (some ⟨s,0,none⟩)))
  (c nd col pg:Int) (P:World→Prop)
  (hL:Calls prog 30 #[.pointer (some ⟨s,0,none⟩),.agg #[.string name,bc,bf],.slice bu bB c3,.int .i64 g] ((w.alloc (.cells #[.string name,bc,bf] 25)).alloc Ka).drew fun e w'=>∃ ev,e=.returned ev∧Ju ba ((w.alloc (.cells #[.string name,bc,bf] 25)).alloc Ka) w'∧P w'∧Calls prog 29 #[ev] w' (fun e br=>e=.returned (Jjp c nd col pg)∧Below w'.heap.size w' br)) :
  Calls prog 21 #[.pointer (some ⟨st,0,none⟩),.agg #[.string name,bc,bf],.slice bu bB c3,.int .i64 g] w fun e w'=>e=.returned (Jjp c nd col pg)∧∃ D,P D∧Ju ba ((w.alloc (.cells #[.string name,bc,bf] 25)).alloc Ka) D∧Ju (fun k=>k=w.heap.size+1) D w':=by
 subst bT bU
 have bx:Below w.heap.size w ((w.alloc (.cells #[.string name,.slice M X R,.slice O Z c2] 25)).alloc Ka):=((Oa5 _ w).alloc (Oa2 _) _).alloc (by simp) _
 have bk:=Ja bx c1
 have cc:st<w.heap.size:=Jm c1
 have bn:¬ ba w.heap.size:=fun h=>Oe3 _ (bl _ h)
 have ca:¬ ba (w.heap.size+1):=fun h=>by have:=bl _ h;omega
 obtain⟨W,hW⟩:∃ W,W=(w.alloc (.cells #[.string name,.slice M X R,.slice O Z c2] 25)).alloc Ka:=⟨_,rfl⟩
 have bC:W.cell? ⟨w.heap.size,0,none⟩=some (.string name):=by rw[hW,Oe5 _ _ _ (by simp)];simp
 have bD:W.cell? ⟨w.heap.size,1,none⟩=some (.slice M X R):=by rw[hW,Oe5 _ _ _ (by simp)];simp
 have bE:W.cell? ⟨w.heap.size,2,none⟩=some (.slice O Z c2):=by rw[hW,Oe5 _ _ _ (by simp)];simp
 have bR:W.heap[w.heap.size+1]?=some (.cells #[.int .i64 0,.int .i64 0,.int .i64 0,.int .i64 0,.int .i64 0] 42 (0,0)):=by
  rw[hW]
  have:=heap_alloc_new (w.alloc (.cells #[.string name,.slice M X R,.slice O Z c2] 25)) Ka
  rwa [Oa7]at this
 have cb:W.heap.size=w.heap.size+2:=by rw[hW];simp
 rw[←hW]at hL bx bk
 clear bl
 go_enter func21,ntmps21
 go_wp2_with fail
 rw[←hW]
 have bI:Hid (W=(w.alloc (.cells #[.string name,.slice M X R,.slice O Z c2] 25)).alloc Ka):=hW
 clear hW
 refine wp_region_held_drew (S:=fun bj=>bj.cell? ⟨st,1,none⟩=some (.pointer (some ⟨s,0,none⟩))∧bj.cell? ⟨w.heap.size,0,none⟩=some (.string name)∧bj.cell? ⟨w.heap.size,1,none⟩=some (.slice M X R)∧bj.cell? ⟨w.heap.size,2,none⟩=some (.slice O Z c2)) (by kernel_rfl) ⟨bk,bC,bD,bE⟩ (fun y=>?_)
 refine tk 0 ?_ rfl y ?_ (tk 1 ?_ rfl y ?_ (tk 2 ?_ rfl y ?_ (tk 3 ?_ rfl y ?_ (tk 4 ?_ rfl y ?_ (tk 5 ?_ rfl y ?_ (tk 6 ?_ rfl y ?_ ?_))))))
 iterate 7
  rotate_left 1
  ·intro w bO;(try dsimp only at bO);go_simp;try rfl
 simp only[Act.put,List.getElem_toArray,List.getElem_cons_zero,List.getElem_cons_succ,Oa1,List.set_cons_zero,List.set_cons_succ]
 refine wpAnyH_ready (rs:=[7]) (by kernel_rfl) (by simp) (AllReadyH.cons rfl (fun bh H=>?_) AllReadyH.nil)
 go_simp
 refine hL.mono ?_
 rintro e D ⟨ev,rfl,U,bA,hf⟩
 have bH:Hid (P D):=bA
 have bG:Hid (Calls prog 29 #[ev] D (fun e br=>e=.returned (Jjp c nd col pg)∧Below D.heap.size D br)):=hf
 clear bA hf hL
 go_simp
 refine H.out _ _ ⟨U.cell bk bS,U.cell bC bn,U.cell bD bn,U.cell bE bn⟩ (fun y=>?_)
 clear H bh
 refine wpAnyH_ready (rs:=[8]) (by kernel_rfl) (by simp) (AllReadyH.cons rfl (fun bh H=>?_) AllReadyH.nil)
 go_simp
 refine bG.out.mono ?_
 rintro e E ⟨rfl,A⟩
 go_simp
 refine H.out _ _ ⟨Ja A y.1,Ja A y.2.1,Ja A y.2.2.1,Ja A y.2.2.2⟩ (fun y=>?_)
 clear H bh
 have cf:=U.size
 have K:E.heap[w.heap.size+1]?=some (.cells #[.int .i64 0,.int .i64 0,.int .i64 0,.int .i64 0,.int .i64 0] 42 (0,0)):=
  (A.block _ (by omega)).trans ((U.block _ (by omega) ca).trans bR)
 have bV:E.cell? ⟨w.heap.size+1,0,none⟩=some (.int .i64 0):=by simp[World.cell?,K]
 have bW:E.cell? ⟨w.heap.size+1,1,none⟩=some (.int .i64 0):=by simp[World.cell?,K]
 have bX:E.cell? ⟨w.heap.size+1,2,none⟩=some (.int .i64 0):=by simp[World.cell?,K]
 have bY:E.cell? ⟨w.heap.size+1,3,none⟩=some (.int .i64 0):=by simp[World.cell?,K]
 have bZ:E.cell? ⟨w.heap.size+1,4,none⟩=some (.int .i64 0):=by simp[World.cell?,K]
 have bb:∀ o:Nat,E.frozen? ⟨w.heap.size+1,o,none⟩=false:=fun o=>by simp[World.frozen?,K]
 have bJ:=bb 0
 have bK:=bb 1
 have bL:=bb 2
 have bM:=bb 3
 have bN:=bb 4
 have bz:=Jk (Jk (Jk (Jk (Jk K 0 (.int .i64 c)) 1 (.int .i64 nd)) 2 (.int .i64 (-1))) 3 (.int .i64 col)) 4 (.int .i64 pg)
 simp only[Oa1,List.set_cons_zero,List.set_cons_succ]at bz
 clear K bb
 refine wpAnyH_ready (rs:=[9]) (by kernel_rfl) (by simp) (AllReadyH.cons rfl (fun bh H=>?_) AllReadyH.nil)
 go_simp
 have bi:∀ (b o:Nat),b≠w.heap.size+1→(((((E.setCell ⟨w.heap.size+1,0,none⟩ (.int .i64 c)).setCell ⟨w.heap.size+1,1,none⟩ (.int .i64 nd)).setCell ⟨w.heap.size+1,2,none⟩ (.int .i64 (-1))).setCell ⟨w.heap.size+1,3,none⟩ (.int .i64 col)).setCell ⟨w.heap.size+1,4,none⟩ (.int .i64 pg)).cell? ⟨b,o,none⟩=E.cell? ⟨b,o,none⟩:=fun b o bP=>by
  simp only[World.cell?,Zh _ _ _ _ _ _ _ b bP]
 refine H.out _ _ ⟨(bi _ _ (by omega)).trans y.1,(bi _ _ (by omega)).trans y.2.1,(bi _ _ (by omega)).trans y.2.2.1,(bi _ _ (by omega)).trans y.2.2.2⟩ (fun y=>?_)
 clear H bh bi y bV bW bX bY bZ bJ bK bL bM bN
 refine wpAnyH_done (by kernel_rfl) ?_ _
 go_wp2
 refine bodyPost_ret (v:=Jjp c nd col pg) (by simp[results,results21,go_sem,Jjp,World.cell?,bz]) rfl ⟨rfl,D,bH.out,by rw[←bI.out];exact U,?_⟩
 exact⟨A.os,A.tape,A.output,by rw[Jg2];exact A.size,fun k bQ hn=>(Zh _ _ _ _ _ _ _ k hn).trans (A.block k bQ)⟩
end Go.Proofs.YtdlgbphkaicfaaaGreatDoor
namespace Go.Proofs.YtdlgbphkaicfaaaGreatDoor
open Go.RowKit Go.Shelf Tryz
structure Jax (w:World) (a0 a1 a2 tt q wr pg pl ex ta:Addr):Prop where
 e:Jf0 w a0 a1 a2
 m:Jkn w a0 a1 a2 tt q wr pg
 m2:Jhy w [a0,a1,a2,tt,q,wr,pg] pl ex
 c:w.cell? ⟨1,0,none⟩=some (.iface 435 (.pointer (some ta)))
 b:∃ c t,w.heap[ta.block]?=some (.cells c t (0,0))
 n:ta∉[a0,a1,a2,tt,q,wr,pg,pl,ex]
 m3:∃ dv ov gv mn,Jig w [ex,pl,a0,a1,a2,tt,q,wr,pg] dv ov gv mn∧ta∉[dv,ov,gv,mn]
theorem Jax.below {w w':World}{A D E M q wr pg H ex K:Addr}(h:Jax w A D E M q wr pg H ex K)(y:Below w.heap.size w w'):Jax w' A D E M q wr pg H ex K:=
 ⟨h.e.below y,h.m.below y,h.m2.below y,Ja y h.c,Kg y h.b,h.n,by obtain⟨O,ba,R,Z,U,X⟩:=h.m3;exact⟨O,ba,R,Z,U.below y,X⟩⟩
abbrev Ja0:Type:=Unit⊕(Unit⊕(Nat⊕((Bool×DS)⊕(DS×TS))))
abbrev Ja0.arg:Ja0:=.inl ()
abbrev Ja0.table:Ja0:=.inr (.inl ())
abbrev Ja0.dict (c:Nat):Ja0:=.inr (.inr (.inl c))
abbrev Ja0.disk (x:Bool)(y:DS):Ja0:=.inr (.inr (.inr (.inl (x,y))))
abbrev Ja0.ok (y:DS)(T:TS):Ja0:=.inr (.inr (.inr (.inr (y,T))))
def Ja0.fault:Ja0→Value
 |.inl _=>Jbz 1 (-1) (-1)
 |.inr (.inl _)=>Jbz 4 (-1) (-1)
 |.inr (.inr (.inl c))=>Jbz 2 (c:Int) (-1)
 |.inr (.inr (.inr (.inl x)))=>Jbz (if x.1 then 5 else 6) (-1) (-1)
 |.inr (.inr (.inr (.inr _)))=>Jbz 0 (-1) (-1)
def Ja0.d (y:DS):Ja0→DS
 |.inr (.inr (.inr (.inl x)))=>x.2
 |.inr (.inr (.inr (.inr x)))=>x.1
 |_=>y
def Ja0.ts (Ts:List TS):Ja0→List TS
 |.inr (.inr (.inr (.inr x)))=>Ts++[x.2]
 |_=>Ts
def Khs (name:ByteArray)(y hs:List Int)(rs:List (List V))(g:Int):Decidable (Jel name y rs∧Je3 y hs∧1≤g∧g≤64):=by
 unfold Jel Je3
 infer_instance
def Jbd (y:DS)(Ts:List TS)(name:ByteArray)(A hs:List Int)(rs:List (List V))(g:Int):Ja0:=
 @ite _ (Jel name A rs∧Je3 A hs∧1≤g∧g≤64) (Khs name A hs rs g)
  (if Ub Ts name<Ts.length∨6≤Ts.length then .table
  else match Jfg rs A hs (cks rs.length g.toNat (ckN rs.length g.toNat))with
   |.inr c=>.dict c
   |.inl T=>match (Jq y T).2.2 with
    |some x=>.disk x (Jcg (Jq y T).1 (Jq y T).2.1)
    |none=>.ok (Jq y T).1 ⟨name,A,rs.length,g.toNat,(Jq y T).2.1⟩)
  .arg
theorem Jn8 {E H:Nat→Prop}{w W K w':World}{j:Nat}(y:Below w.heap.size w W)(A:Ju H W K)(D:Ju (fun k=>k=j) K w')(O:w.heap.size≤j)(h1:∀ k,H k→E k):Ju E w w':=by
 have R:=y.size
 have U:=A.size
 have X:=D.size
 refine⟨(D.os.trans A.os).trans y.os,(D.tape.trans A.tape).trans y.tape,(D.output.trans A.output).trans y.output,by omega,fun k M hn=>?_⟩
 exact(D.block k (by omega) (by omega)).trans ((A.block k (by omega) fun h=>hn (h1 k h)).trans (y.block k M))
def Jy0 (y:Nat→Prop)(w:World)(st:Nat)(D:DS)(Ts:List TS)(r:Ja0)(e:Ending)(w':World):Prop:=
 e=.returned r.fault∧Ju y w w'∧∃ A:Nat→Prop,Sto A w' st (r.d D) (r.ts Ts)∧(∀ k,y k→A k)∧(∀ k,A k→y k∨w.heap.size≤k)
theorem Jyt (M:Nat→Prop)(st:Nat)(H:DS)(Ts:List TS)(name:ByteArray)(K O bc:Option Addr)(ct R bu:Nat)(y hs:List Int)(xs:List (Option Addr×Nat))(rs:List (List V))(g:Int)(w:World)(h:Sto M w st H Ts)(ch:Kct w name K O bc R y hs xs rs)(ci:∀ b o,K=some ⟨b,o,none⟩→¬ M b)(cN:H.pages.length≤200000)
  (bL bM bN da q wr pg cX ex cY:Addr) (bk:World) (bx:Jax bk bL bM bN da q wr pg cX ex cY) (cF:Below bk.heap.size bk w) (bS:∀ k,M k→bk.heap.size≤k) (cB:∀ x∈hs,Kjk x) (E:∃ bK T,Jbd H Ts name y hs rs g=.ok bK T) :
  Calls prog 21 #[.pointer (some ⟨st,0,none⟩),Jvc name K O ct R y rs,.slice bc hs.length bu,.int .i64 g] w fun e w'=>Jy0 M w st H Ts (Jbd H Ts name y hs rs g) e w':=by
 have dc:=h
 have bT:=bx.below cF
 have cy:¬ M 6:=fun bG=>by have h1:=bS _ bG;have h2:=Jm bx.m.cq;simp only at h2;omega
 have cz:¬ M 7:=fun bG=>by have h1:=bS _ bG;have h2:=Jm bx.m.cw;simp only at h2;omega
 obtain⟨⟨d,s,F,G,sv,bs,h1,h2,bZ,ca,cb,cc,bQ,cf,bR,bP,D⟩,Z⟩:=h
 obtain⟨W,hW⟩:∃ W,W=(w.alloc (Jln name K O ct R y rs)).alloc Ka:=⟨_,rfl⟩
 have U:Below w.heap.size w W:=by rw[hW];exact((Oa5 _ w).alloc (Oa2 _) _).alloc (by simp) _
 have bf:Below w.heap.size w W.drew:=⟨U.os,U.tape,U.output,U.size,U.block⟩
 have bU:W.heap.size=w.heap.size+2:=by rw[hW];simp
 have bz:=bT.below bf
 have cj:=ch.below bf
 obtain⟨de,df,dg,dh,di,dj,dk⟩:=Jim bT.m
 have bO:=fun (br:Nat→Prop) (bj:∀ k,br k→k<w.heap.size) (cO:¬ br st) (c nd col cW:Int) (P:World→Prop) hL=>Ju9 st s name (.slice K y.length ct) (.slice O rs.length R) K O bc y.length ct rs.length R hs.length bu rfl rfl g w br bj cO h1.field.2 c nd col cW P hL
 have cA:(w.alloc (.cells #[.string name,.slice K y.length ct,.slice O rs.length R] 25)).alloc Ka=W:=hW.symm
 rw[cA]at bO
 obtain⟨X,bb,T,bh,bi⟩:(Jel name y rs∧Je3 y hs∧1≤g∧g≤64)∧¬ (Ub Ts name<Ts.length∨6≤Ts.length)∧∃ T,Jfg rs y hs (cks rs.length g.toNat (ckN rs.length g.toNat))=.inl T∧(Jq H T).2.2=none:=by
  obtain⟨bK,db,E⟩:=E
  unfold Jbd at E
  by_cases X:Jel name y rs∧Je3 y hs∧1≤g∧g≤64
  ·rw[if_pos X]at E
   by_cases bb:Ub Ts name<Ts.length∨6≤Ts.length
   ·rw[if_pos bb]at E
    cases E
   rw[if_neg bb]at E
   rcases bh:Jfg rs y hs (cks rs.length g.toNat (ckN rs.length g.toNat))with T|c
   ·rw[bh]at E
    cases bi:(Jq H T).2.2 with
    |some x=>
     simp only[bi]at E
     cases E
    |none=>exact⟨X,bb,T,rfl,bi⟩
   rw[bh]at E
   cases E
  rw[if_neg X]at E
  cases E
 have cH:((g.toNat:Nat):Int)=g:=by omega
 have cI:Jqy W.drew s d F G H Ts sv bs name K O bc R y hs xs rs g.toNat:=
  ⟨cj,X.1,X.2.1,by omega,by omega,h2.below bf,fun hf=>bb (.inl hf),by omega,bZ.below bf,fun k A=>Oc2 (Z k (D k (A.elim .inl fun a=>.inr (.inl a)))) bf.size,ca,cb,cc,fun b o cE hf=>ci b o cE (D b (.inl hf)),cN,cB⟩
 have cv:=bz.m.cq
 have cx:=bz.m.cw
 have cn:¬ F 6:=fun hf=>cy (D _ (.inl hf))
 have cr:¬ F 7:=fun hf=>cz (D _ (.inl hf))
 have cK:Jbd H Ts name y hs rs g=.ok (Jq H T).1 ⟨name,y,rs.length,g.toNat,(Jq H T).2.1⟩:=by unfold Jbd;rw[if_pos X,if_neg bb,bh];simp only;rw[bi]
 rw[cK]
 have hL:=Ked s d F G H Ts sv bs name K O bc ct R bu y hs xs rs g.toNat W.drew cI bL bM bN bz.e T bh q wr cv cx cn cr bi
 rw[cH]at hL
 have dd:=U.size
 have bj:∀ k,F k∨Jnr s sv k→M k:=fun k A=>A.elim (fun a=>D k (.inl a)) fun a=>D k (.inr (.inr (.inl a)))
 have bY:¬ (F st∨Jnr s sv st):=fun h=>h.elim bQ fun a=>a.elim bR bP
 refine(bO (fun k=>F k∨Jnr s sv k) (fun k A=>Z k (bj k A)) bY 0 (-1) (-1) (-1) (fun bl=>Jdl W.drew s d F G H Ts sv bs name y rs g.toNat T bl) (hL.mono fun e bl ⟨bA,A⟩=>⟨_,bA,⟨A.1.os,A.1.tape,A.1.output,A.1.size,A.1.block⟩,A,Jjq bl⟩)).mono fun e w' ⟨bA,bl,⟨_,FD,bn,sv',cZ,cG,bX,bB,bD,bW,cD,cM,cS,bJ⟩,A,ba⟩=>⟨bA,Jn8 U A ba (by omega) bj,fun k=>M k∨FD k∨bn k∨Jnr s sv' k,?_,fun k A=>.inl A,?_⟩
 ·have bV:Ju (fun k=>F k∨Jnr s sv k) w w':=Jn8 U A ba (by omega) (fun _ h=>h)
  have cP:st<w.heap.size:=Z st (D st (.inr (.inr (.inr rfl))))
  have cu:∀ k,G k→k<w.heap.size:=fun k bC=>Z k (D k (.inr (.inl bC)))
  have bI:∀ k,Jnr s sv k→k<w.heap.size:=fun k bH=>Z k (D k (.inr (.inr (.inl bH))))
  have cl:∀ k,F k→k<w.heap.size:=fun k hf=>Z k (D k (.inl hf))
  have cC:W.drew.heap.size=w.heap.size+2:=bU
  have cT:∀ k,FD k→k≠w.heap.size+1:=fun k hf e=>by
   rcases bB k hf with a|a
   ·have:=cl k a;omega
   omega
  have cU:∀ k,bn k→k≠w.heap.size+1:=fun k hf e=>by
   rcases bD k hf with a|a
   ·have:=cu k a;omega
   omega
  have cV:∀ k,Jnr s sv' k→k≠w.heap.size+1:=fun k bH e=>by
   rcases bH with a|a
   ·have:=bI s (.inl rfl);omega
   rcases bJ k a with b|b
   ·have:=bI k (.inr b);omega
   omega
  refine⟨⟨d,s,FD,bn,sv',bs++[cZ],?_,bX.stands ba.size fun k cJ bE=>ba.block k bE (cJ.elim (cU k) (cV k)),cG.stands fun k hf bE=>ba.block k bE (cT k hf),cD,cM,cS,fun hf=>?_,fun bC=>?_,bR,fun cQ=>?_,?_⟩,?_⟩
  ·unfold Jdu at h1 ⊢
   rw[bV.block st cP bY]
   exact h1
  ·rcases bB st hf with a|a
   ·exact bQ a
   omega
  ·rcases bD st bC with a|a
   ·exact cf a
   omega
  ·rcases bJ st cQ with a|a
   ·exact bP a
   omega
  ·rintro k (a|a|a|a)
   ·exact .inr (.inl a)
   ·exact .inr (.inr (.inl a))
   ·exact .inr (.inr (.inr a))
   exact .inl (D k (.inr (.inr (.inr a))))
  have dm:=ba.size
  have dp:=bV.size
  rintro k (a|a|a|a)
  ·have:=Z k a;omega
  ·have:=bW k (.inl a);omega
  ·have:=bW k (.inr a);omega
  rcases a with a|a
  ·have:=bI s (.inl rfl);omega
  have:=Qk bX.own a;omega
 have cC:W.drew.heap.size=w.heap.size+2:=bU
 rintro k (a|a|a|a)
 ·exact .inl a
 ·rcases bB k a with b|b
  ·exact .inl (D k (.inl b))
  exact .inr (by omega)
 ·rcases bD k a with b|b
  ·exact .inl (D k (.inr (.inl b)))
  exact .inr (by omega)
 rcases a with a|a
 ·exact .inl (D k (.inr (.inr (.inl (.inl a)))))
 rcases bJ k a with b|b
 ·exact .inl (D k (.inr (.inr (.inl (.inr b)))))
 exact .inr (by omega)
end Go.Proofs.YtdlgbphkaicfaaaGreatDoor
namespace Go.Proofs.YtdlgbphkaicfaaaGreatDoor
open Go.RowKit Go.Shelf Tryz
theorem Kcc (M:Nat→Prop)(st:Nat)(y:DS)(Ts:List TS)(n:ByteArray)(w:World)(h:Sto M w st y Ts)(R:∀ T∈Ts,Jid y T)(A D E K q wr pg U ex X:Addr)(H:Jax w A D E K q wr pg U ex X) :
  Calls prog 26 #[.pointer (some ⟨st,0,none⟩),.string n] w fun e w'=>Jr7 w (Jf8 y Ts n) e w':=by
 obtain⟨⟨d,s,F,G,sv,bs,h1,h2,O,ba,bb,bc,bf,bh,bi,Z,bj⟩,bk⟩:=h
 exact Kej st n w F G s d y Ts sv bs h1 h2 O R A D E K q wr pg H.e H.m
end Go.Proofs.YtdlgbphkaicfaaaGreatDoor
namespace Go.Proofs.YtdlgbphkaicfaaaGreatDoor
open Go.RowKit
def Jex (rs:List (List V))(m o p k:Nat):List (List V):=rs.mapIdx fun i r=>if i<o then r else if i<o+p then r.take k++List.replicate (m-k) Jf else List.replicate m Jf
theorem Jv4 (rs:List (List V))(m p:Nat):Jex rs m 0 p 0=List.replicate rs.length (List.replicate m Jf):=by
 apply Oi8
 intro i
 rw[Jex,Oh8,Of3]
 by_cases hi:i<rs.length
 ·rw[if_pos hi,Oa3 hi]
  simp
 rw[if_neg hi,Ob4 (by omega)]
 rfl
theorem Kac (rs:List (List V))(m o p y E:Nat)(D:∀ r∈rs,r.length=m)(h:∀ i,i<rs.length→(i<o+p↔i<y)):Jex rs m o p m=Jex rs m y E 0:=by
 apply Oi8
 intro i
 rw[Jex,Jex,Oh8,Oh8]
 by_cases hi:i<rs.length
 ·rw[Oa3 hi]
  simp only[Option.map_some]
  have A:=D _ (Ob3 hi)
  have:=h i hi
  by_cases h1:i<o
  ·rw[if_pos h1,if_pos (by omega)]
  rw[if_neg h1]
  by_cases h2:i<o+p
  ·rw[if_pos h2,if_pos (by omega)]
   simp[←A]
  rw[if_neg h2,if_neg (by omega)]
  simp
 rw[Ob4 (by omega)]
 rfl
theorem Kb8 (rs:List (List V))(m o p:Nat)(h:rs.length≤o):Jex rs m o p 0=rs:=by
 apply Oi8
 intro i
 rw[Jex,Oh8]
 by_cases hi:i<rs.length
 ·rw[Oa3 hi]
  simp only[Option.map_some]
  rw[if_pos (by omega)]
 rw[Ob4 (by omega)]
 rfl
theorem Kh7 (L:List V)(c n:Nat)(u:V)(hL:L.length=c)(D:c<n):(L++List.replicate (n-c) Jf).set c u=L++[u]++List.replicate (n-(c+1)) Jf:=by
 obtain⟨d,y⟩:∃ d,n-c=d+1:=⟨n-c-1,by omega⟩
 have A:n-(c+1)=d:=by omega
 rw[y,A,List.replicate_succ,Ok4 _ _ (by omega),hL,Oe1,List.set_cons_zero]
 simp
theorem Kam (rs:List (List V))(m o p k:Nat)(E:∀ r∈rs,r.length=m)(y:k<m)(O:o+p≤rs.length):Ji6 (Jex rs m o p k) o k (Jaj (Uk rs (o,p)) k)=Jex rs m o p (k+1):=by
 have K:(Jaj (Uk rs (o,p)) k).length=p:=by simp[Jaj,Uk];omega
 apply Oi8
 intro i
 rw[Ji6,Oh8,Jex,Jex,Oh8,Oh8,K]
 by_cases hi:i<rs.length
 ·rw[Oa3 hi]
  simp only[Option.map_some]
  have D:=E _ (Ob3 hi)
  by_cases h1:i<o
  ·rw[if_pos h1,if_neg (by omega),if_pos h1]
  rw[if_neg h1,if_neg h1]
  by_cases h2:i<o+p
  ·rw[if_pos h2,if_pos ⟨by omega,h2⟩,if_pos h2]
   have H:(Jaj (Uk rs (o,p)) k).getD (i-o) Jf=rs[i][k]:=by
    have M:(Uk rs (o,p))[i-o]?=some rs[i]:=by
     simp only[Uk]
     rw[Oh3 (by omega),Oh9,show o+(i-o)=i by omega,Oa3 hi]
    have A:(Jaj (Uk rs (o,p)) k)[i-o]?=some (rs[i].getD k Jf):=by
     simp only[Jaj,Ob1,M,Option.map_some]
    rw[Oa0,A]
    simp[D,y]
   rw[H,Kh7 _ k m _ (by simp;omega) y,Oc4 (by omega)]
  rw[if_neg h2,if_neg (by omega),if_neg h2]
 rw[Ob4 (by omega)]
 rfl
theorem Joo (y:DS)(rs:List (List V))(m:Nat)(A:List (List Nat))(D:List Int)(x:Nat×Nat)(H:∀ r∈rs,r.length=m)(E:x.1+x.2≤rs.length)(K:∀ c,c<m→Us y (A.getD c []) (D.getD c 0) x.2=.inl (Jaj (Uk rs x) c)) :
  ∀ k,k≤m→Jil y A D x (Jex rs m x.1 x.2 0) k=.inl (Jex rs m x.1 x.2 k)
 |0,_=>rfl
 |k+1,M=>by
  simp only[Jil,Joo y rs m A D x H E K k (by omega),K k (by omega)]
  exact congrArg _ (Kam rs m x.1 x.2 k H (by omega) E)
theorem Jjr (len g j:Nat)(D:1≤g)(y:j<ckN len g):(Jaa len g j).1+(Jaa len g j).2≤len∧1≤(Jaa len g j).2∧∀ i,i<len→(i<(Jaa len g j).1+(Jaa len g j).2↔i<(Jaa len g (j+1)).1):=by
 have h1:j*g<len:=by
  unfold ckN at y
  have h2:(j+1)*g≤(len+g-1) / g*g:=Om8 g y
  have A:=Nat.div_mul_le_self (len+g-1) g
  rw[Of5]at h2
  omega
 simp only[Jaa]
 rw[Of5]
 exact⟨by omega,by omega,fun i hi=>by omega⟩
theorem Jxu (len g:Nat)(A:1≤g):len≤(Jaa len g (ckN len g)).1:=by
 simp only[Jaa,ckN]
 have h:=Nat.div_add_mod (len+g-1) g
 have h2:=Ol0 (len+g-1) (show g>0 by omega)
 have y:g*((len+g-1) / g)=(len+g-1) / g*g:=Nat.mul_comm _ _
 omega
theorem Joa (A:DS)(rs:List (List V))(y:List Int)(E:List (List Nat))(g:Nat)(H:1≤g)(D:∀ r∈rs,r.length=y.length)
  (K:∀ j c,j<ckN rs.length g→c<y.length→Us A (E.getD (j*y.length+c) []) (y.getD c 0) (Jaa rs.length g j).2=.inl (Jaj (Uk rs (Jaa rs.length g j)) c)) :
  ∀ k,k≤ckN rs.length g→∃ p,(Jkh A y E (List.replicate rs.length (List.replicate y.length Jf)) (cks rs.length g k)).1=.inl (Jex rs y.length (Jaa rs.length g k).1 p 0)
 |0,_=>⟨0,by
  show Sum.inl _=Sum.inl _
  rw[←Jv4 rs y.length 0]
  simp[Jaa]⟩
 |k+1,X=>by
  obtain⟨p,U⟩:=Joa A rs y E g H D K k (by omega)
  obtain⟨h1,h2,M⟩:=Jjr rs.length g k H (by omega)
  rw[Jbj,Jm6]
  simp only[Jox]
  rw[U,Jme,Jbp]
  have R:Jex rs y.length (Jaa rs.length g k).1 p 0=Jex rs y.length (Jaa rs.length g k).1 (Jaa rs.length g k).2 0:=by
   apply Oi8
   intro i
   rw[Jex,Jex,Oh8,Oh8]
   cases rs[i]? with
   |none=>rfl
   |some r=>simp
  refine⟨0,?_⟩
  simp only
  rw[R,Joo A rs y.length _ y _ D h1 (fun c O=>?_) y.length (Oa2 _)]
  ·exact congrArg _ (Kac rs y.length _ _ _ 0 D M)
  rw[←K k c (by omega) O]
  congr 1
  simp[List.getD_eq_getElem?_getD,List.getElem?_drop]
theorem Jov (rows:List (List V))(y hs:List Int):∀ (k:Nat) (l:List (List UInt8)),Jeo rows y hs k=.inl l→∀ c,c<k→l[c]?=some (Uo rows y hs c).1∧(Uo rows y hs c).2=0
 |0,l,h,c,E=>by omega
 |k+1,l,h,c,E=>by
  simp only[Jeo]at h
  split at h
  ·simp at h
  rename_i D A
  split at h
  ·rename_i h0
   simp at h
   subst h
   have H:=Jjc rows y hs k D A
   by_cases e:c=k
   ·subst e
    rw[Ob6 (by omega)]
    simp[H,h0]
   rw[Ob0 (by omega)]
   exact Jov rows y hs k D A c (by omega)
  simp at h
theorem Jpd (rs:List (List V))(y hs:List Int)(len g:Nat):∀ (n:Nat) (T:List (List UInt8)),Jfg rs y hs (cks len g n)=.inl T→∀ j c,j<n→c<y.length→T[j*y.length+c]?=some (Uo (Uk rs (Jaa len g j)) y hs c).1∧(Uo (Uk rs (Jaa len g j)) y hs c).2=0
 |0,T,h,j,c,K,_=>by omega
 |n+1,T,h,j,c,K,E=>by
  rw[Jbj,Juv]at h
  simp only[Jiu]at h
  split at h
  ·simp at h
  rename_i A D
  split at h
  ·rename_i l M
   simp at h
   subst h
   have H:=(Jte rs y hs _ A D).1
   rw[Jbp]at H
   by_cases e:j=n
   ·subst e
    rw[Ob6 (by omega),H,Nat.add_sub_cancel_left]
    exact Jov _ y hs _ l M c E
   have h2:(j+1)*y.length≤n*y.length:=Om8 _ (by omega)
   rw[Of5]at h2
   rw[Ob0 (by omega)]
   exact Jpd rs y hs len g n A D j c (by omega) E
  simp at h
theorem Kjs {l:List Int}{c:Nat}(h:c<l.length):l.getD c 0∈l:=by
 rw[show l.getD c 0=l[c] by simp[h]]
 exact Ob3 _
theorem Kkg {name:ByteArray}{y hs:List Int}{rs:List (List V)}{g:Nat}{T:List (List UInt8)}(X:Jel name y rs)(ba:hs.length=y.length)(hW:∀ x∈hs,Kjk x)(D:Jfg rs y hs (cks rs.length g (ckN rs.length g))=.inl T):∀ t∈T,Kje t:=by
 intro t U t' bb bc bf A
 obtain⟨i,hi,rfl⟩:=Od5 U
 have h1:=(Jte rs y hs _ T D).1
 rw[Jbp]at h1
 have h0:0<y.length:=X.2.1.1.1
 have M:=Nat.div_add_mod i y.length
 have O:=Ol0 i h0
 have R:i / y.length<ckN rs.length g:=(Nat.div_lt_iff_lt_mul h0).2 (by omega)
 obtain⟨E,Z⟩:=Jpd rs y hs rs.length g _ T D _ _ R O
 rw[Nat.mul_comm,M,Oa3 hi,Oc9]at E
 have H:Jev (y.getD (i % y.length) 0) (hs.getD (i % y.length) 0) (Jaj (Uk rs (Jaa rs.length g (i / y.length))) (i % y.length))=(T[i],0):=Prod.ext E.symm Z
 obtain⟨_,_,_,_,e,K⟩:=Kja H
 rw[K]at A
 simp only[Oc9,Oj3]at A
 rw[←A.1.2.1,e]
 exact hW _ (Kjs (by omega))
theorem Jqv (D:DS)(name:ByteArray)(y hs:List Int)(rs:List (List V))(g:Nat)(T:List (List UInt8))(A:List (List Nat))(Z:Jel name y rs)(K:1≤g)(bj:∀ r∈rs,∀ v∈r,Jg v.n)(bb:∀ x∈hs,Kkn x)(bx:hs.length=y.length)
  (bl:Jfg rs y hs (cks rs.length g (ckN rs.length g))=.inl T) (bz:A.length=T.length) (bi:∀ (i:Nat) (h1:i<A.length) (h2:i<T.length),Jan D A[i] T[i]) :
  Jgp D ⟨name,y,rs.length,g,A⟩=.inl rs:=by
 have H:∀ r∈rs,r.length=y.length:=fun r H=>by
  obtain⟨i,hi,rfl⟩:=Od5 H
  exact(Z.2.2.2 i hi).1
 have M:∀ j c,j<ckN rs.length g→c<y.length→Us D (A.getD (j*y.length+c) []) (y.getD c 0) (Jaa rs.length g j).2=.inl (Jaj (Uk rs (Jaa rs.length g j)) c):=by
  intro j c O E
  obtain⟨bc,h0⟩:=Jpd rs y hs rs.length g _ T bl j c O E
  obtain⟨bh,bf⟩:=Ob9.1 bc
  have R:j*y.length+c<A.length:=by omega
  have X:=(bi _ R bh).read
  rw[bf]at X
  obtain⟨h1,_,_⟩:=Jjr rs.length g j K O
  have bu:(Uk rs (Jaa rs.length g j)).length=(Jaa rs.length g j).2:=by simp[Uk];omega
  have bn:=Ki9 (y.getD c 0) (hs.getD c 0) (bb _ (Kjs (by omega))) (Jaj (Uk rs (Jaa rs.length g j)) c) (Uo (Uk rs (Jaa rs.length g j)) y hs c).1 (by
   unfold Uo at h0 ⊢
   exact Prod.ext rfl h0) (fun v M=>by
    obtain⟨r,br,rfl⟩:=Of0.1 M
    have U:r∈rs:=Oh7 (Om9 br)
    have bk:=H r U
    have:r.getD c Jf=r[c]:=by simp[bk,E]
    rw[this]
    exact bj r U _ (Ob3 _))
  unfold Us
  rw[show A.getD (j*y.length+c) []=A[j*y.length+c] by simp[R],X]
  simp only[bn]
  have ba:Jnd (y.getD c 0)=true:=by
   have:=Z.2.1.2 c E
   simpa [E] using this
  unfold Jnd at ba
  simp only[decide_eq_true_iff]at ba
  rw[if_pos ⟨by omega,by rw[←bu];simp[Jaj]⟩]
 obtain⟨p,h⟩:=Joa D rs y A g K H M (ckN rs.length g) (Oa2 _)
 unfold Jgp
 simp only
 rw[h,Kb8 rs y.length _ _ (Jxu rs.length g K)]
end Go.Proofs.YtdlgbphkaicfaaaGreatDoor
namespace Go.Proofs.YtdlgbphkaicfaaaGreatDoor
open Go.RowKit
theorem Jmw:∀ (ps:List (List UInt8))(y:DS),((Js y.pages:Nat):Int)≤y.quota→(Uy y ps).2.2=none→((Js (Uy y ps).1.pages:Nat):Int)≤y.quota
 |[],y,h,_=>by simpa [Uy] using h
 |p::ps,y,h,hn=>by
  unfold Uy at hn ⊢
  by_cases h1:y.quota≤((Js y.pages:Nat):Int)
  ·rw[if_pos h1]at hn;simp at hn
  rw[if_neg h1]at hn ⊢
  by_cases h2:wrap64 (y.writes+1)=y.fail
  ·rw[if_pos h2]at hn;simp at hn
  rw[if_neg h2]at hn ⊢
  have:=Jmw ps (Zn y p) (by rw[Jm8];show _≤y.quota;omega) hn
  exact this
theorem Jh1:∀ (A:List (List UInt8))(y:DS),((Js y.pages:Nat):Int)≤y.quota→(Jq y A).2.2=none→((Js (Jq y A).1.pages:Nat):Int)≤y.quota
 |[],y,h,_=>by simpa [Jq] using h
 |t::A,y,h,hn=>by
  have h1:=Jmw (Qu t) y h
  have h2:=(Jc1 (Qu t) y).1
  unfold Jq at hn ⊢
  rcases hr:Uy y (Qu t)with⟨E,l,r⟩
  rw[hr]at hn h1 h2
  cases r with
  |none=>
   have D:E.quota=y.quota:=(h2 rfl).quota
   have:=Jh1 A E (by rw[D];exact h1 rfl) hn
   rw[D]at this
   exact this
  |some x=>simp at hn
theorem Jhk:∀ (A:List (List UInt8))(y:DS),(Jq y A).1.pages.length≤y.pages.length+Jch A
 |[],y=>by simp[Jq,Jch]
 |t::A,y=>by
  have h1:=(Jrh (Qu t) y).1
  unfold Jq
  rcases hr:Uy y (Qu t)with⟨E,l,r⟩
  rw[hr]at h1
  rw[Ja1]
  cases r with
  |none=>
   have:=Jhk A E
   simp only at h1 this ⊢
   omega
  |some x=>
   simp only at h1 ⊢
   rw[Jrz]
   omega
structure Jer (D:DS) (T:TS) (rs:List (List V)):Prop where
 cols:1≤T.types.length∧T.types.length≤6
 rows:T.rows≤200
 group:1≤T.group∧T.group≤64
 count:T.segs.length=ckN T.rows T.group*T.types.length
 texts:∃ X:List (List UInt8),X.length=T.segs.length∧(∀ t∈X,t≠[]∧t.length≤6100∧Kje t)∧(∀ (i:Nat) (h1:i<T.segs.length) (h2:i<X.length),Jan D T.segs[i] X[i])∧(∀ E:DS,(∀ (i:Nat) (h1:i<T.segs.length) (h2:i<X.length),Jan E T.segs[i] X[i])→Jgp E T=.inl rs)
theorem Jer.read {y:DS}{T:TS}{rs:List (List V)}(h:Jer y T rs):Jgp y T=.inl rs:=by
 obtain⟨E,_,_,A,D⟩:=h.texts
 exact D y A
theorem Jer.keep {y A:DS}{T:TS}{rs:List (List V)}(h:Jer y T rs)(M:∀ i∈T.segs.flatten,pg A i=pg y i):Jer A T rs:=by
 obtain⟨D,h1,h2,E,H⟩:=h.texts
 exact⟨h.cols,h.rows,h.group,h.count,D,h1,h2,fun i hi K=>(E i hi K).keep fun k O=>M k (List.mem_flatten.2 ⟨_,Ob3 hi,O⟩),H⟩
theorem Jer.seg {A:DS}{T:TS}{rs:List (List V)}(h:Jer A T rs):∀ l∈T.segs,∃ t,t≠[]∧t.length≤6100∧Jan A l t∧Kje t:=by
 intro l H
 obtain⟨D,h1,h2,E,K⟩:=h.texts
 obtain⟨i,hi,rfl⟩:=Od5 H
 have y:=h2 _ (Ob3 (show i<D.length by omega))
 exact⟨_,y.1,y.2.1,E i hi (by omega),y.2.2⟩
theorem Jx9 {y:DS}{l:List Nat}{t:List UInt8}(h:Jan y l t)(D:t≠[])(E:t.length≤6100):l≠[]∧l.length≤1000:=by
 have h1:=Jio t
 have h2:=h.1
 have A:=Jy1 D
 refine⟨fun e=>A (Od3.1 ?_),by omega⟩
 rw[←h2,e];rfl
theorem Jer.inuse {y:DS}{T:TS}{rs:List (List V)}(h:Jer y T rs):∀ i∈T.segs.flatten,∃ p,pg y i=some p:=by
 intro i hi
 obtain⟨l,E,A⟩:=List.mem_flatten.1 hi
 obtain⟨t,_,_,⟨h1,h2⟩,_⟩:=h.seg l E
 obtain⟨k,D,rfl⟩:=Od5 A
 exact⟨_,h2 k D (by omega)⟩
theorem Jer.ok {E:DS}{T:TS}{rs:List (List V)}(h:Jer E T rs):Jid E T:=by
 refine⟨h.cols,h.rows,h.group,h.count,fun l A=>?_,fun l A t D=>?_⟩
 ·obtain⟨t,h1,h2,y,_⟩:=h.seg l A
  exact Jx9 y h1 h2
 obtain⟨t',h1,h2,y,H⟩:=h.seg l A
 rw[y.read]at D
 simp at D
 rw[←D]
 exact⟨h1,H⟩
structure Jbc (D:DS) (L:List (TS×List (List V))):Prop where
 tab:∀ x∈L,Jer D x.1 x.2
 nodup:(L.flatMap fun x=>x.1.segs.flatten).Nodup
 all:∀ i p,pg D i=some p→i∈L.flatMap fun x=>x.1.segs.flatten
 used:Js D.pages=(L.flatMap fun x=>x.1.segs.flatten).length
 writes:0≤D.writes
theorem Jbc.empty (q f:Int):Jbc (Ku q f) []:=
 ⟨by simp,by simp,fun i p h=>by simp[pg,Ku]at h,by simp[Ku,Js],by simp[Ku]⟩
theorem Jbc.same {A y:DS}{L:List (TS×List (List V))}(h:Jbc A L)(hs:Kft A y)(E:0≤y.writes):Jbc y L:=
 ⟨fun x H=>(h.tab x H).keep fun i _=>hs.pages i,h.nodup,fun i p D=>h.all i p (by rw[←hs.pages];exact D),hs.used.trans h.used,E⟩
theorem Kg4 (n g:Nat)(A:1≤g):ckN n g≤n:=by
 unfold ckN
 exact Nat.le_of_lt_succ ((Nat.div_lt_iff_lt_mul (by omega)).2 (by
  have:n+1≤(n+1)*g:=On4 _ (by omega)
  rw[Of5]at this ⊢
  have y:n≤n*g:=On4 _ (by omega)
  omega))
theorem Jtr {name:ByteArray}{y hs:List Int}{rs:List (List V)}{g:Int}{T:List (List UInt8)}(A:Jel name y rs∧Je3 y hs∧1≤g∧g≤64)(H:Jfg rs y hs (cks rs.length g.toNat (ckN rs.length g.toNat))=.inl T) :
  T.length=ckN rs.length g.toNat*y.length∧(∀ t∈T,t.length≤6100∧t≠[])∧Jch T≤660*rs.length∧(T=[]↔rs=[]):=by
 obtain⟨h1,h2⟩:=Jte rs y hs _ T H
 rw[Jbp]at h1
 have M:=Joc T fun t K=>(h2 t K).1
 have D:=Kg4 rs.length g.toNat (by omega)
 have E:y.length≤6:=A.1.2.1.1.2
 have R:1≤y.length:=A.1.2.1.1.1
 have O:ckN rs.length g.toNat*y.length≤rs.length*6:=Ol5 D E
 refine⟨h1,h2,by omega,⟨fun e=>?_,fun e=>?_⟩⟩
 ·subst e
  have h0:ckN rs.length g.toNat=0:=by
   rcases Nat.mul_eq_zero.1 h1.symm with h|h
   ·exact h
   omega
  have:=Jxu rs.length g.toNat (by omega)
  simp only[Jaa,h0]at this
  exact Od3.1 (by omega)
 subst e
 have h0:ckN ([]:List (List V)).length g.toNat=0:=by unfold ckN;exact Nat.div_eq_of_lt (by simp;omega)
 rw[h0]at h1
 exact Od3.1 (by omega)
theorem Kjy {y H:DS}{L:List (TS×List (List V))}{Ts:List TS}{name:ByteArray}{bj hs:List Int}{rs:List (List V)}{g:Int}{T:TS}(hW:∀ x∈hs,Kjk x∧Kkn x)(M:Jbc y L)(bA:∀ r∈rs,∀ v∈r,Jg v.n)(bM:y.writes≤1000000000)(h:Jbd y Ts name bj hs rs g=.ok H T) :
  Jbc H (L++[(T,rs)])∧T.name=name∧Js H.pages=Js y.pages+T.segs.flatten.length∧(T.segs.flatten=[]↔rs=[])∧H.quota=y.quota∧H.fail=y.fail∧H.pages.length≤y.pages.length+660*rs.length∧H.writes≤y.writes+660*rs.length∧(((Js y.pages:Nat):Int)≤y.quota→((Js H.pages:Nat):Int)≤y.quota)∧y.writes≤H.writes∧(Ub Ts name=Ts.length):=by
 unfold Jbd at h
 split at h
 ·rename_i O
  split at h
  ·simp at h
  rename_i bL
  split at h
  ·simp at h
  rename_i E X
  split at h
  ·simp at h
  rename_i hn
  simp only[Sum.inr.injEq,Oj3]at h
  obtain⟨rfl,rfl⟩:=h
  obtain⟨bH,bb,bO,bi⟩:=Jtr O X
  have A:=Jjv E y hn
  have bC:=Jh1 E y
  have bK:=Jhk E y
  have bD:rs.length≤200:=O.1.2.2.1
  have bG:=Jd9 E y M.writes (by omega)
  generalize bI:(Jq y E).1=H at *
  generalize hR:(Jq y E).2.1=K at *
  have bJ:=Kdk Ts name
  have bN:=M.writes
  refine⟨⟨?_,?_,?_,?_,by omega⟩,rfl,A.used,⟨fun e=>?_,fun e=>?_⟩,A.quota,A.fail,by omega,by omega,fun bz=>bC bz hn,bG.1.1,by omega⟩
  ·intro x D
   rcases Od2.1 D with D|D
   ·refine(M.tab x D).keep fun i hi=>A.other i fun U=>?_
    obtain⟨p,R⟩:=(M.tab x D).inuse i hi
    rw[A.free i U]at R
    simp at R
   simp at D
   subst D
   refine⟨⟨O.1.2.1.1.1,O.1.2.1.1.2⟩,bD,⟨by show 1≤g.toNat;omega,by show g.toNat≤64;omega⟩,by show K.length=_;rw[A.len,bH],E,A.len.symm,fun t ba=>⟨(bb t ba).2,(bb t ba).1,Kkg O.1 O.2.1.1 (fun x D=>(hW x D).1) X t ba⟩,fun i h1 h2=>A.segs i h1,fun bk bl=>Jqv bk name bj hs rs g.toNat E K O.1 (by omega) bA (fun x D=>(hW x D).2) O.2.1.1 X A.len bl⟩
  ·rw[Oe8]
   refine Op3.2 ⟨M.nodup,by simpa using A.nodup,fun a bn b bc e=>?_⟩
   subst e
   simp at bc
   obtain⟨x,D,bu⟩:=Op5.1 bn
   obtain⟨p,R⟩:=(M.tab x D).inuse a bu
   have bx:a∈K.flatten:=by
    obtain⟨l,bB,br⟩:=bc
    exact List.mem_flatten.2 ⟨l,bB,br⟩
   rw[A.free a bx]at R
   simp at R
  ·intro i p R
   rw[Oe8]
   by_cases U:i∈K.flatten
   ·exact Od2.2 (.inr (by simpa using U))
   rw[A.other i U]at R
   exact Od2.2 (.inl (M.all i p R))
  ·rw[A.used,M.used,Oe8,Oa8]
   simp
  ·have Z:E=[]:=by
    rcases E with _|⟨t,E⟩
    ·rfl
    ·exfalso
     rcases K with _|⟨l,K⟩
     ·have:=A.len;simp at this
     have bE:=A.segs 0 (by simp)
     have bh:=bb t (by simp)
     have:=(Jx9 bE bh.2 bh.1).1
     simp at e
     exact this (by simpa using e.1)
   exact bi.1 Z
  have Z:=bi.2 e
  have bf:=A.len
  rw[Z]at bf
  have:K=[]:=Od3.1 (by simpa using bf)
  show K.flatten=[]
  rw[this];rfl
 simp at h
theorem Jz8 {y A:DS}{L:List (TS×List (List V))}{Ts:List TS}{name:ByteArray}{X hs:List Int}{rs:List (List V)}{g:Int}{x:Bool}(H:Jbc y L)(bc:y.writes≤1000000000)(h:Jbd y Ts name X hs rs g=.disk x A) :
  Jbc A L∧Kft y A∧rs≠[]∧(x=true→y.quota≤((Js y.pages+660*rs.length:Nat):Int))∧(x=false→A.writes=y.fail∧y.writes<A.writes)∧A.pages.length≤y.pages.length+660*rs.length∧A.writes≤y.writes+660*rs.length∧y.writes≤A.writes:=by
 unfold Jbd at h
 split at h
 ·rename_i K
  split at h
  ·simp at h
  split at h
  ·simp at h
  rename_i D R
  split at h
  ·rename_i Z hn
   simp only[Sum.inr.injEq,Sum.inl.injEq,Oj3]at h
   obtain⟨rfl,rfl⟩:=h
   obtain⟨bh,bi,bj,U⟩:=Jtr K R
   obtain⟨h1,h2,O⟩:=Jj4 D y Z hn
   have bb:rs.length≤200:=K.1.2.2.1
   have M:=Jd9 D y H.writes (by omega)
   have E:=(Jdn (Jq y D).2.1 (Jq y D).1).2.2
   have ba:=Jhk D y
   have bf:=H.writes
   refine⟨H.same h1 (by rw[E];omega),h1,fun e=>h2 (U.2 e),fun e=>?_,fun e=>?_,by rw[Jt4];omega,by rw[E];omega,by rw[E];exact M.1.1⟩
   ·have:=O e;omega
   subst e
   rw[E]
   exact M.2.1 hn
  simp at h
 simp at h
theorem Jla (rows:List (List V))(y hs:List Int)(c:Nat):∀ (k:Nat),Jeo rows y hs k=.inr c→c<k∧(Uo rows y hs c).2≠0
 |0,h=>by simp[Jeo]at h
 |k+1,h=>by
  simp only[Jeo]at h
  split at h
  ·rename_i A D
   simp at h
   subst h
   have:=Jla rows y hs A k D
   exact⟨by omega,this.2⟩
  split at h
  ·simp at h
  rename_i h0
  simp at h
  subst h
  exact⟨by omega,h0⟩
theorem Ju4 (rs:List (List V))(y hs:List Int)(c:Nat):∀ (xs:List (Nat×Nat)),Jfg rs y hs xs=.inr c→∃ x∈xs,c<y.length∧(Uo (Uk rs x) y hs c).2≠0:=by
 intro xs
 have R:∀ (xs:List (Nat×Nat)) (T:List (List UInt8)),xs.foldl (Jiu rs y hs) (.inl T)=.inr c→∃ x∈xs,c<y.length∧(Uo (Uk rs x) y hs c).2≠0:=by
  intro xs
  induction xs with
  |nil=>intro T h;simp at h
  |cons x xs E=>
   intro T h
   rw[List.foldl_cons]at h
   simp only[Jiu]at h
   split at h
   ·obtain⟨H,O,h1⟩:=E _ h
    exact⟨H,by simp[O],h1⟩
   rename_i D M
   have K:∀ A:List (Nat×Nat),A.foldl (Jiu rs y hs) (.inr D)=.inr D:=by
    intro A
    induction A with
    |nil=>rfl
    |cons H A E=>exact E
   rw[K]at h
   simp at h
   subst h
   exact⟨x,by simp,Jla _ y hs D _ M⟩
 exact R xs []
theorem Jy3 {M:DS}{Ts:List TS}{name:ByteArray}{K hs:List Int}{rs:List (List V)}{g:Int}{c:Nat}(h:Jbd M Ts name K hs rs g=.dict c):c<hs.length∧hs.getD c 0=1∧16<rs.length:=by
 unfold Jbd at h
 split at h
 ·rename_i D
  split at h
  ·simp at h
  split at h
  ·rename_i y O
   simp only[Sum.inr.injEq,Sum.inl.injEq]at h
   subst h
   obtain⟨x,Z,h1,h2⟩:=Ju4 rs K hs y _ O
   obtain⟨j,H,rfl⟩:=Of0.1 Z
   rw[Oj4]at H
   obtain⟨ba,bb,_⟩:=Jjr rs.length g.toNat j (by omega) H
   have X:=D.2.1.1
   refine⟨by omega,?_⟩
   have A:=Jqm D.1 (rows:=Uk rs (Jaa rs.length g.toNat j)) (hs:=hs) (fun r U=>Oh7 (Om9 U)) (by simp only[Uk,Oc7,Of7,Jaa];omega) y h1 X D.2.1.2
   have bc:(Jaj (Uk rs (Jaa rs.length g.toNat j)) y).length≤rs.length:=by simp[Jaj,Uk];omega
   unfold Uo Jev at h2 A
   split at h2
   ·rename_i E
    rw[if_pos E]at A
    split at h2
    ·rename_i R
     have u1:=Jk0 (Jz (Jaj (Uk rs (Jaa rs.length g.toNat j)) y)) []
     have u2:=Zy (Jaj (Uk rs (Jaa rs.length g.toNat j)) y)
     simp only[List.length_nil,Od0]at u1
     exact⟨R.1,by omega⟩
    exact absurd rfl h2
   rename_i E
   rw[if_neg E]at A
   simp at A
  split at h<;>simp at h
 simp at h
end Go.Proofs.YtdlgbphkaicfaaaGreatDoor
namespace Go.Proofs.YtdlgbphkaicfaaaGreatDoor
open Go.RowKit Go.Shelf Tryz
theorem Jen (w:World):Calls prog 7 #[] w fun e w'=>e=.returned (.agg #[.int .i64 1048576,.int .i64 0])∧Below w.heap.size w w':=by
 go_enter func7,ntmps7
 go_wp2
 exact bodyPost_ret (v:=.agg #[.int .i64 1048576,.int .i64 0]) (by simp[results,results7,go_sem]) rfl ⟨rfl,(Oa5 _ w).alloc (Oa2 _) _⟩
structure Uw (w:World) (name:ByteArray) (at_ ar:Option Addr) (cr:Nat) (ts:List Int) (xs:List (Option Addr×Nat)) (rs:List (List V)):Prop where
 tab:Jel name ts rs
 tok:∀ t∈ts,tOk t
 vals:∀ r∈rs,∀ v∈r,Jg v.n
 types:Kc w at_ ts
 rows:Zd w ar xs rs
 cap:rs.length≤cr
theorem Uw.below {w w':World}{name:ByteArray}{A y:Option Addr}{D:Nat}{H:List Int}{xs:List (Option Addr×Nat)}{rs:List (List V)}(h:Uw w name A y D H xs rs)(E:Below w.heap.size w w'):Uw w' name A y D H xs rs:=
 ⟨h.tab,h.tok,h.vals,h.types.below E,h.rows.below E,h.cap⟩
theorem Uw.arg {w:World}{name:ByteArray}{D A:Option Addr}{E:Nat}{H:List Int}{xs:List (Option Addr×Nat)}{rs:List (List V)}(h:Uw w name D A E H xs rs){y:Option Addr}{hs:List Int}(K:Kc w y hs)(R:hs.length≤6):Kct w name D A y E H hs xs rs:=by
 have h1:=h.tab.1.2
 have h2:=h.tab.2.1.1.2
 have O:=h.tab.2.2.1
 refine⟨by unfold maxLen;omega,by unfold maxLen;omega,by unfold maxLen;omega,fun r M=>?_,by unfold maxLen;omega,h.cap,h.types,K,h.rows⟩
 obtain⟨i,hi,rfl⟩:=Od5 M
 have:=(h.tab.2.2.2 i hi).1
 unfold maxLen
 omega
theorem Kck {y:DS}{L:List (TS×List (List V))}{Ts:List TS}{name:ByteArray}{A hs:List Int}{rs:List (List V)}{g:Int}(H:Jbc y L)(E:Jel name A rs)(M:Je3 A hs)(K:1≤g∧g≤64)(U:Ub Ts name=Ts.length)(R:Ts.length<6)(X:y.quota=1048576)(hf:y.fail=0)(ba:Js y.pages≤200000)(O:y.writes≤1000000000) :
  (∃ c,Jbd y Ts name A hs rs g=.dict c)∨∃ D T,Jbd y Ts name A hs rs g=.ok D T:=by
 have Z:rs.length≤200:=E.2.2.1
 rcases hr:Jbd y Ts name A hs rs g with _|_|c|⟨x,D⟩|⟨D,T⟩
 ·unfold Jbd at hr
  rw[if_pos ⟨E,M,K⟩]at hr
  split at hr
  ·simp at hr
  split at hr
  ·simp at hr
  split at hr<;>simp at hr
 ·unfold Jbd at hr
  rw[if_pos ⟨E,M,K⟩,if_neg (by omega)]at hr
  split at hr
  ·simp at hr
  split at hr<;>simp at hr
 ·exact .inl ⟨c,rfl⟩
 ·exfalso
  obtain⟨_,_,_,h1,h2,_⟩:=Jz8 H O hr
  have:=H.writes
  cases x with
  |true=>have:=h1 rfl;omega
  |false=>have:=h2 rfl;omega
 exact .inr ⟨D,T,rfl⟩
theorem Jvv {A hs:List Int}(h:Jfz A [] hs A.length):Je3 A hs∧∀ c,hs.getD c 0=0:=by
 refine⟨⟨h.len,h.ok⟩,fun c=>?_⟩
 by_cases y:c<hs.length
 ·have:=h.plain c y (by simp)
  simpa [y] using this
 simp[List.getD_eq_getElem?_getD,List.getElem?_eq_none (Nat.le_of_not_lt y)]
theorem Jtl {A D:DS}{Ts:List TS}{name:ByteArray}{y hs:List Int}{rs:List (List V)}{g:Int}{T:TS}(h:Jbd A Ts name y hs rs g=.ok D T):T.types=y:=by
 unfold Jbd at h
 split at h
 ·split at h
  ·simp at h
  split at h
  ·simp at h
  split at h
  ·simp at h
  cases h
  rfl
 simp at h
def Kj (E:Nat→Prop)(w:World)(st:Nat)(A:DS)(L:List (TS×List (List V)))(name:ByteArray)(H:List Int)(rs:List (List V))(w':World):Prop:=
 ∃ (D:Nat→Prop) (y:DS) (T:TS),Sto D w' st y ((L++[(T,rs)]).map Prod.fst)∧Jbc y (L++[(T,rs)])∧(T.name=name∧T.types=H)∧y.quota=A.quota∧y.fail=A.fail∧y.pages.length≤A.pages.length+660*rs.length∧y.writes≤A.writes+660*rs.length∧Js y.pages=Js A.pages+T.segs.flatten.length∧(T.segs.flatten=[]↔rs=[])∧(∀ k,E k→D k)∧(∀ k,D k→E k∨w.heap.size≤k)
theorem Jxk (D:Nat→Prop)(st:Nat)(y:DS)(L:List (TS×List (List V)))(name:ByteArray)(M U R:Option Addr)(ct X bc:Nat)(A hs:List Int)(xs:List (Option Addr×Nat))(rs:List (List V))(g:Int)(w:World)(bL:Sto D w st y (L.map Prod.fst))(bf:Jbc y L)(hR:Uw w name M U X A xs rs)(bQ:Kc w R hs)(hI:Jfz A [] hs A.length)(bP:1≤g∧g≤64)(bV:Ub (L.map Prod.fst) name=L.length)(bO:L.length<6)
  (bX:y.quota=1048576) (hf:y.fail=0) (bi:y.pages.length≤200000) (bl:y.writes≤1000000000) (bI:∀ b o,M=some ⟨b,o,none⟩→¬ D b) (Z ba bb bz q wr pg bu ex bx:Addr) (H:World) (bK:Jax H Z ba bb bz q wr pg bu ex bx) (bM:Below H.heap.size H w) (bJ:∀ k,D k→H.heap.size≤k) :
  Calls prog 21 #[.pointer (some ⟨st,0,none⟩),Jvc name M U ct X A rs,.slice R hs.length bc,.int .i64 g] w fun e w'=>e=.returned (Jb6 0)∧Ju D w w'∧Kj D w st y L name A rs w':=by
 obtain⟨bk,bn⟩:=Jvv hI
 have br:∀ x∈hs,x=0:=fun x E=>by
  obtain⟨i,hi,rfl⟩:=Od5 E
  have:=bn i
  simpa [hi] using this
 have bS:hs.length≤6:=by rw[bk.1];exact hR.tab.2.1.1.2
 have bW:∃ K T,Jbd y (L.map Prod.fst) name A hs rs g=.ok K T:=by
  rcases Kck bf hR.tab bk bP (Ts:=L.map Prod.fst) (by rw[bV];simp) (by simpa using bO) bX hf (Ob2 (Kad _) bi) bl with⟨c,bN⟩|h
  ·have:=(Jy3 bN).2.1
   rw[bn c]at this
   simp at this
  exact h
 obtain⟨K,T,O⟩:=bW
 refine(Jyt D st y (L.map Prod.fst) name M U R ct X bc A hs xs rs g w bL (hR.arg bQ bS) bI bi Z ba bb bz q wr pg bu ex bx H bK bM bJ (fun x E=>by rw[br x E];exact Ki5) ⟨K,T,O⟩).mono fun e w' ⟨bh,bR,bA,bj,bT,bU⟩=>?_
 rw[O]at bh bj
 obtain⟨h1,h2,bB,bC,bD,bE,bG,bH,_⟩:=Kjy (fun x E=>by rw[br x E];exact⟨Ki5,Kj4⟩) bf hR.vals bl O
 exact⟨bh,bR,bA,K,T,by simpa [Ja0.ts,Ja0.d] using bj,h1,⟨h2,Jtl O⟩,bD,bE,bG,bH,bB,bC,bT,bU⟩
theorem Jpj {A:Nat→Prop}{w w1 E:World}{st:Nat}{y:DS}{L:List (TS×List (List V))}{name:ByteArray}{D:List Int}{rs:List (List V)}(h:Kj A w st y L name D rs w1)(M:Below w1.heap.size w1 E):Kj A w st y L name D rs E:=by
 obtain⟨K,H,T,h1,h⟩:=h
 exact⟨K,H,T,h1.below M,h⟩
theorem Jfn {D:Nat→Prop}{w E y H:World}{st:Nat}{K:DS}{L:List (TS×List (List V))}{name:ByteArray}{O:List Int}{rs:List (List V)}{fa:Nat}(h:Kj D E st K L name O rs y)(bl:w.heap.size≤E.heap.size)(hs:y.heap.size≤H.heap.size)(bj:∀ k,k<y.heap.size→k≠fa→H.heap[k]?=y.heap[k]?)(hn:¬ D fa)(bk:fa<E.heap.size∨y.heap.size≤fa):Kj D w st K L name O rs H:=by
 obtain⟨U,R,T,h1,h2,Z,ba,bb,bc,bf,bh,bi,X,M⟩:=h
 refine⟨U,R,T,h1.stands hs fun k A=>bj k (h1.lt k A) fun e=>?_,h2,Z,ba,bb,bc,bf,bh,bi,X,fun k A=>(M k A).imp_right fun a=>by omega⟩
 subst e
 have:=h1.lt k A
 rcases M k A with a|a
 ·exact hn a
 omega
theorem Jl3 (b:Nat)(name:ByteArray)(bH bG:Option Addr)(ct bI:Nat)(M:List Int)(xs:List (Option Addr×Nat))(rs:List (List V))(w:World)(h:Uw w name bH bG bI M xs rs)(c0:w.cell? ⟨b,0,none⟩=some (.string name))(c1:w.cell? ⟨b,1,none⟩=some (.slice bH M.length ct))(c2:w.cell? ⟨b,2,none⟩=some (.slice bG rs.length bI))
  (cC cD cE cK q wr pg cI ex cJ:Addr) (cU:Jax w cC cD cE cK q wr pg cI ex cJ) :
  Calls prog 6 #[.agg #[.int .i64 1048576,.int .i64 0],.slice (some ⟨b,0,none⟩) 1 1] w fun e w'=>Below w.heap.size w w'∧∃ (st:Nat) (O:Nat→Prop),e=.returned (.pointer (some ⟨st,0,none⟩))∧Kj O w st (Ku 1048576 0) [] name M rs w'∧(∀ k,O k→w.heap.size≤k):=by
 have di:Below w.heap.size w (w.alloc (.cells #[.int .i64 1048576,.int .i64 0] 33)):=(Oa5 _ w).alloc (Oa2 _) _
 have cW:=Kfq 1048576 0 (w.alloc (.cells #[.int .i64 1048576,.int .i64 0] 33))
 have bO:Hid (Uw w name bH bG bI M xs rs):=h
 have db:Hid (Jax w cC cD cE cK q wr pg cI ex cJ):=cU
 clear h cU
 go_enter func6,ntmps6
 go_wp2_with (first|(go_at_call 20;refine cW.mono ?_;rintro e y ⟨dj,st,O,rfl,cY,cT⟩;have bj:=Jb di dj;have dd:=Ja bj c0;have de:=Ja bj c1;have df:=Ja bj c2;have cy:Hid (Sto O y st (Ku 1048576 0) []):=cY;clear cY))
 have bC:Hid (∀ k,O k→w.heap.size≤k):=fun k bJ=>by have:=cT k bJ;simp at this;omega
 clear cT cW
 have cN:Hid (∀ K,Below y.heap.size y K→Calls prog 22 #[.agg #[.string name,.slice bH M.length ct,.slice bG rs.length bI],.slice none 0 0] K fun e bP=>Below K.heap.size K bP∧∃ (bf:Option Addr) (bz:Nat) (hs:List Int),e=.returned (.slice bf hs.length bz)∧Kc bP bf hs∧Jfz M [] hs M.length):=fun K bY=>by
  have:=Jzt (.string name) (.slice bG rs.length bI) bH none ct 0 M [] K bO.out.tab.2.1.1.2 bO.out.tok (by simp) (bO.out.types.below (Jb bj bY)) (.inl rfl)
  refine this.mono fun e bP ⟨hs,sv,dq,dt,hI,cz⟩=>?_
  obtain⟨a,c,cZ,dp⟩:=dt.cells
  rw[Oa6]at cZ
  subst cZ
  exact⟨cz,a,c,hs,dq,dp,hI⟩
 have cA:Hid (∀ K bf bz hs,Below y.heap.size y K→Kc K bf hs→Jfz M [] hs M.length→Calls prog 21 #[.pointer (some ⟨st,0,none⟩),.agg #[.string name,.slice bH M.length ct,.slice bG rs.length bI],.slice bf hs.length bz,.int .i64 64] K fun e bP=>e=.returned (Jb6 0)∧Ju O K bP∧Kj O K st (Ku 1048576 0) [] name M rs bP):=fun K bf bz hs bY hI bN=>
  Jxk O st (Ku 1048576 0) [] name bH bG bf ct bI bz M hs xs rs 64 K (cy.out.below bY) (Jbc.empty _ _) (bO.out.below (Jb bj bY)) hI bN (by decide) rfl (by decide) rfl rfl (by simp[Ku]) (by simp[Ku]) (fun dc o dh bc=>by
   have h1:=bC.out dc bc
   rcases bO.out.types with h0|⟨b2,dC,cV,dB,_⟩
   ·have:=bO.out.tab.2.1.1.1;simp at h0;rw[h0]at this;simp at this
   rw[dh]at cV;simp at cV;try omega) cC cD cE cK q wr pg cI ex cJ w db.out (Jb bj bY) bC.out
 refine wp_loop_rounds 2 ?_
 rw[rounds_succ]
 go_upto_region 5 with fail
 go_cut [7] from 20 to 30 (fun f cM=>∃ fa:Nat,f=.pointer (some ⟨fa,0,none⟩)∧cM.heap[fa]?=some (.cells #[.int .i64 0,.int .i64 (-1),.int .i64 (-1),.int .i64 (-1),.int .i64 (-1)] 42 (0,0))∧Below w.heap.size w cM∧Kj O w st (Ku 1048576 0) [] name M rs cM)
 case first=>
  refine wp_region_held_drew (S:=fun K=>K.cell? ⟨b,0,none⟩=some (.string name)∧K.cell? ⟨b,1,none⟩=some (.slice bH M.length ct)∧K.cell? ⟨b,2,none⟩=some (.slice bG rs.length bI)) (by kernel_rfl) ⟨dd,de,df⟩ (fun D=>?_)
  refine tk 0 ?_ rfl D ?_ (tk 1 ?_ rfl D ?_ (tk 2 ?_ rfl D ?_ (tk 3 ?_ rfl D ?_ (tk 4 ?_ rfl D ?_ (tk 5 ?_ rfl D ?_ (tk 6 ?_ rfl D ?_ (tk 7 ?_ rfl D ?_ (tk 8 ?_ rfl D ?_ ?_))))))))
  iterate 9
   rotate_left 1
   ·intro w dg;(try dsimp only at dg);go_simp;try rfl
  simp only[Act.put,List.getElem_toArray,List.getElem_cons_zero,List.getElem_cons_succ,Oa1,List.set_cons_zero,List.set_cons_succ]
  have cb:Below y.heap.size y y.drew:=⟨rfl,rfl,rfl,Oa2 _,fun _ _=>rfl⟩
  refine wpAnyH_ready (rs:=[9,11]) (by kernel_rfl) (by simp) (AllReadyH.cons rfl (fun X H=>?_) (AllReadyH.cons rfl (fun X H=>?_) AllReadyH.nil))
  ·go_simp
   refine(cN.out y.drew cb).mono ?_
   rintro e E ⟨bB,bf,bz,hs,rfl,bX,bN⟩
   have bA:Below y.heap.size y E:=Jb cb bB
   have cx:Hid (Kc E bf hs):=bX
   have cv:Hid (Jfz M [] hs M.length):=bN
   clear bX bN
   go_simp
   refine H.out _ _ ⟨Ja bB D.1,Ja bB D.2.1,Ja bB D.2.2⟩ (fun D=>?_)
   clear H X
   refine wpAnyH_ready (rs:=[10,11]) (by kernel_rfl) (by simp) (AllReadyH.cons rfl (fun X H=>?_) (AllReadyH.cons rfl (fun X H=>?_) AllReadyH.nil))
   ·go_simp
    refine(cA.out E bf bz hs bA cx.out cv.out).mono ?_
    rintro e A ⟨rfl,bb,bL⟩
    have bM:Hid (Kj O E st (Ku 1048576 0) [] name M rs A):=bL
    clear bL
    obtain⟨bl,bi⟩:∃ K,Hid (K=E):=⟨_,rfl⟩
    have bD:Below y.heap.size y bl:=by rw[bi.out];exact bA
    have bu:=bb
    rw[←bi.out]at bb
    have bx:¬ O b:=fun bc=>by have h1:=bC.out b bc;have h2:=Jm c0;simp only at h2;omega
    go_simp
    refine H.out _ _ ⟨bu.cell D.1 bx,bu.cell D.2.1 bx,bu.cell D.2.2 bx⟩ (fun D=>?_)
    clear H X
    refine wpAnyH_ready (rs:=[11]) (by kernel_rfl) (by simp) (AllReadyH.cons rfl (fun X H=>?_) AllReadyH.nil)
    go_simp
    have Z:Below A.heap.size A (A.alloc Ka):=(Oa5 _ A).alloc (Oa2 _) Ka
    have br:(A.alloc Ka).heap[A.heap.size]?=some (.cells #[.int .i64 0,.int .i64 0,.int .i64 0,.int .i64 0,.int .i64 0] 42 (0,0)):=heap_alloc_new A Ka
    refine H.out _ _ ⟨Ja Z D.1,Ja Z D.2.1,Ja Z D.2.2⟩ (fun D=>?_)
    clear H X
    obtain⟨U,bn⟩:∃ Y,Y=A.alloc Ka:=⟨_,rfl⟩
    rw[←bn]at Z br D ⊢
    have cO:Hid (U=A.alloc Ka):=bn
    clear bn
    have R:U.heap[A.heap.size]?=some (.cells #[.int .i64 0,.int .i64 0,.int .i64 0,.int .i64 0,.int .i64 0] 42 (0,0)):=br
    have dA:Ju O bl U:=bb.trans (Ju.of_below Z)
    have bE:∀ (cB:Nat→Prop),(∀ j,cB j→j<A.heap.size)→∀ j,cB j→j≠A.heap.size:=fun cB h1 j ds e=>by have:=h1 j ds;omega
    have ch:U.cell? ⟨A.heap.size,0,none⟩=some (.int .i64 0):=by simp[World.cell?,R]
    have ci:U.cell? ⟨A.heap.size,1,none⟩=some (.int .i64 0):=by simp[World.cell?,R]
    have cj:U.cell? ⟨A.heap.size,2,none⟩=some (.int .i64 0):=by simp[World.cell?,R]
    have cl:U.cell? ⟨A.heap.size,3,none⟩=some (.int .i64 0):=by simp[World.cell?,R]
    have cn:U.cell? ⟨A.heap.size,4,none⟩=some (.int .i64 0):=by simp[World.cell?,R]
    have ba:∀ o:Nat,U.frozen? ⟨A.heap.size,o,none⟩=false:=fun o=>by simp[World.frozen?,R]
    have bR:=ba 0
    have bS:=ba 1
    have bT:=ba 2
    have bU:=ba 3
    have bV:=ba 4
    have bK:=Jk (Jk (Jk (Jk (Jk R 0 (.int .i64 0)) 1 (.int .i64 (-1))) 2 (.int .i64 (-1))) 3 (.int .i64 (-1))) 4 (.int .i64 (-1))
    simp only[Oa1,List.set_cons_zero,List.set_cons_succ]at bK
    have da:b<w.heap.size:=by have h2:=Jm c0;simpa using h2
    have cu:w.heap.size≤A.heap.size:=by have h2:=bj.size;have bW:y.drew.heap.size=y.heap.size:=rfl;have cP:=bA.size;have cQ:=bb.size;have cS:=bD.size;omega
    have bh:∀ o:Nat,(((((U.setCell ⟨A.heap.size,0,none⟩ (.int .i64 0)).setCell ⟨A.heap.size,1,none⟩ (.int .i64 (-1))).setCell ⟨A.heap.size,2,none⟩ (.int .i64 (-1))).setCell ⟨A.heap.size,3,none⟩ (.int .i64 (-1))).setCell ⟨A.heap.size,4,none⟩ (.int .i64 (-1))).cell? ⟨b,o,none⟩=U.cell? ⟨b,o,none⟩:=fun o=>by simp only[World.cell?,Zh _ _ _ _ _ _ _ b (by omega:b≠A.heap.size)]
    have bk:Below w.heap.size w bl:=Jb bj bD
    have bZ:Below w.heap.size w U:=bk.trans ((bb.below (fun k bJ bc=>by have:=bC.out k bc;omega) bk.size).trans (Z.mono (Ob2 bk.size bb.size)))
    have bE:Kj O w st (Ku 1048576 0) [] name M rs (((((U.setCell ⟨A.heap.size,0,none⟩ (.int .i64 0)).setCell ⟨A.heap.size,1,none⟩ (.int .i64 (-1))).setCell ⟨A.heap.size,2,none⟩ (.int .i64 (-1))).setCell ⟨A.heap.size,3,none⟩ (.int .i64 (-1))).setCell ⟨A.heap.size,4,none⟩ (.int .i64 (-1))):=by
     refine Jfn (fa:=A.heap.size) (bi.out▸bM.out) bk.size (by rw[Jg2];exact Z.size) (fun k bJ cf=>(Zh _ _ _ _ _ _ _ k cf).trans (Z.block k bJ)) (fun bc=>by have h1:=cy.out.lt _ bc;have h2:=bD.size;have bW:=bb.size;omega) (.inr (Oa2 _))
    have bQ:Hid (Kj O w st (Ku 1048576 0) [] name M rs (((((U.setCell ⟨A.heap.size,0,none⟩ (.int .i64 0)).setCell ⟨A.heap.size,1,none⟩ (.int .i64 (-1))).setCell ⟨A.heap.size,2,none⟩ (.int .i64 (-1))).setCell ⟨A.heap.size,3,none⟩ (.int .i64 (-1))).setCell ⟨A.heap.size,4,none⟩ (.int .i64 (-1)))):=bE
    clear bE ba R
    refine wpAnyH_ready (rs:=[12]) (by kernel_rfl) (by simp) (AllReadyH.cons rfl (fun X H=>?_) AllReadyH.nil)
    go_simp
    refine H.out _ _ ⟨(bh 0).trans D.1,(bh 1).trans D.2.1,(bh 2).trans D.2.2⟩ (fun D=>?_)
    clear H X bh ch ci cj cl cn bR bS bT bU bV
    refine wpAnyH_done (by kernel_rfl) ?_ _
    have ca:=Um bZ cu (.int .i64 0) (.int .i64 (-1)) (.int .i64 (-1)) (.int .i64 (-1)) (.int .i64 (-1))
    go_wp2_with fail
    go_meet
    case rel=>exact⟨A.heap.size,rfl,bK,ca,bQ.out⟩
   go_simp
   have Z:Below E.heap.size E (E.alloc Ka):=(Oa5 _ E).alloc (Oa2 _) Ka
   have br:(E.alloc Ka).heap[E.heap.size]?=some (.cells #[.int .i64 0,.int .i64 0,.int .i64 0,.int .i64 0,.int .i64 0] 42 (0,0)):=heap_alloc_new E Ka
   refine H.out _ _ ⟨Ja Z D.1,Ja Z D.2.1,Ja Z D.2.2⟩ (fun D=>?_)
   clear H X
   obtain⟨U,bn⟩:∃ Y,Y=E.alloc Ka:=⟨_,rfl⟩
   rw[←bn]at Z br D ⊢
   have cO:Hid (U=E.alloc Ka):=bn
   clear bn
   have cc:Below y.heap.size y U:=Jb bA Z
   refine wpAnyH_ready (rs:=[10]) (by kernel_rfl) (by simp) (AllReadyH.cons rfl (fun X H=>?_) AllReadyH.nil)
   go_simp
   refine(cA.out U bf bz hs cc (cx.out.below Z) cv.out).mono ?_
   rintro e A ⟨rfl,bb,bL⟩
   have bM:Hid (Kj O U st (Ku 1048576 0) [] name M rs A):=bL
   clear bL
   obtain⟨bl,bi⟩:∃ K,Hid (K=U):=⟨_,rfl⟩
   have bD:Below y.heap.size y bl:=by rw[bi.out];exact cc
   have cr:¬ O E.heap.size:=fun bc=>by have h1:=cy.out.lt _ bc;have h2:=cb.size;have bW:=bA.size;omega
   have R:A.heap[E.heap.size]?=some (.cells #[.int .i64 0,.int .i64 0,.int .i64 0,.int .i64 0,.int .i64 0] 42 (0,0)):=(bb.block _ (Jd br) cr).trans br
   have cH:E.heap.size<bl.heap.size:=by rw[bi.out];exact Jd br
   have bu:=bb
   rw[←bi.out]at bb
   have bx:¬ O b:=fun bc=>by have h1:=bC.out b bc;have h2:=Jm c0;simp only at h2;omega
   go_simp
   refine H.out _ _ ⟨bu.cell D.1 bx,bu.cell D.2.1 bx,bu.cell D.2.2 bx⟩ (fun D=>?_)
   clear H X
   have ch:A.cell? ⟨E.heap.size,0,none⟩=some (.int .i64 0):=by simp[World.cell?,R]
   have ci:A.cell? ⟨E.heap.size,1,none⟩=some (.int .i64 0):=by simp[World.cell?,R]
   have cj:A.cell? ⟨E.heap.size,2,none⟩=some (.int .i64 0):=by simp[World.cell?,R]
   have cl:A.cell? ⟨E.heap.size,3,none⟩=some (.int .i64 0):=by simp[World.cell?,R]
   have cn:A.cell? ⟨E.heap.size,4,none⟩=some (.int .i64 0):=by simp[World.cell?,R]
   have ba:∀ o:Nat,A.frozen? ⟨E.heap.size,o,none⟩=false:=fun o=>by simp[World.frozen?,R]
   have bR:=ba 0
   have bS:=ba 1
   have bT:=ba 2
   have bU:=ba 3
   have bV:=ba 4
   have bK:=Jk (Jk (Jk (Jk (Jk R 0 (.int .i64 0)) 1 (.int .i64 (-1))) 2 (.int .i64 (-1))) 3 (.int .i64 (-1))) 4 (.int .i64 (-1))
   simp only[Oa1,List.set_cons_zero,List.set_cons_succ]at bK
   have da:b<w.heap.size:=by have h2:=Jm c0;simpa using h2
   have cu:w.heap.size≤E.heap.size:=by have h2:=bj.size;have bW:y.drew.heap.size=y.heap.size:=rfl;have cP:=bA.size;have cQ:=bb.size;have cS:=bD.size;omega
   have bh:∀ o:Nat,(((((A.setCell ⟨E.heap.size,0,none⟩ (.int .i64 0)).setCell ⟨E.heap.size,1,none⟩ (.int .i64 (-1))).setCell ⟨E.heap.size,2,none⟩ (.int .i64 (-1))).setCell ⟨E.heap.size,3,none⟩ (.int .i64 (-1))).setCell ⟨E.heap.size,4,none⟩ (.int .i64 (-1))).cell? ⟨b,o,none⟩=A.cell? ⟨b,o,none⟩:=fun o=>by simp only[World.cell?,Zh _ _ _ _ _ _ _ b (by omega:b≠E.heap.size)]
   have bk:Below w.heap.size w bl:=Jb bj bD
   have bZ:Below w.heap.size w A:=bk.trans (bb.below (fun k bJ bc=>by have:=bC.out k bc;omega) bk.size)
   have bE:Kj O w st (Ku 1048576 0) [] name M rs (((((A.setCell ⟨E.heap.size,0,none⟩ (.int .i64 0)).setCell ⟨E.heap.size,1,none⟩ (.int .i64 (-1))).setCell ⟨E.heap.size,2,none⟩ (.int .i64 (-1))).setCell ⟨E.heap.size,3,none⟩ (.int .i64 (-1))).setCell ⟨E.heap.size,4,none⟩ (.int .i64 (-1))):=by
    refine Jfn (fa:=E.heap.size) (bi.out▸bM.out) bk.size (by rw[Jg2];exact Oa2 _) (fun k bJ cf=>(Zh _ _ _ _ _ _ _ k cf).trans (rfl)) cr (.inl cH)
   have bQ:Hid (Kj O w st (Ku 1048576 0) [] name M rs (((((A.setCell ⟨E.heap.size,0,none⟩ (.int .i64 0)).setCell ⟨E.heap.size,1,none⟩ (.int .i64 (-1))).setCell ⟨E.heap.size,2,none⟩ (.int .i64 (-1))).setCell ⟨E.heap.size,3,none⟩ (.int .i64 (-1))).setCell ⟨E.heap.size,4,none⟩ (.int .i64 (-1)))):=bE
   clear bE ba R
   refine wpAnyH_ready (rs:=[12]) (by kernel_rfl) (by simp) (AllReadyH.cons rfl (fun X H=>?_) AllReadyH.nil)
   go_simp
   refine H.out _ _ ⟨(bh 0).trans D.1,(bh 1).trans D.2.1,(bh 2).trans D.2.2⟩ (fun D=>?_)
   clear H X bh ch ci cj cl cn bR bS bT bU bV
   refine wpAnyH_done (by kernel_rfl) ?_ _
   have ca:=Um bZ cu (.int .i64 0) (.int .i64 (-1)) (.int .i64 (-1)) (.int .i64 (-1)) (.int .i64 (-1))
   go_wp2_with fail
   go_meet
   case rel=>exact⟨E.heap.size,rfl,bK,ca,bQ.out⟩
  go_simp
  have Z:Below y.drew.heap.size y.drew ((y.alloc Ka).drew):=(Oa5 _ y.drew).alloc (Oa2 _) Ka
  have br:((y.alloc Ka).drew).heap[y.heap.size]?=some (.cells #[.int .i64 0,.int .i64 0,.int .i64 0,.int .i64 0,.int .i64 0] 42 (0,0)):=heap_alloc_new y.drew Ka
  refine H.out _ _ ⟨Ja Z D.1,Ja Z D.2.1,Ja Z D.2.2⟩ (fun D=>?_)
  clear H X
  obtain⟨U,bn⟩:∃ Y,Y=(y.alloc Ka).drew:=⟨_,rfl⟩
  rw[←bn]at Z br D ⊢
  have cO:Hid (U=(y.alloc Ka).drew):=bn
  clear bn
  have cc:Below y.heap.size y U:=Jb cb Z
  refine wpAnyH_ready (rs:=[9]) (by kernel_rfl) (by simp) (AllReadyH.cons rfl (fun X H=>?_) AllReadyH.nil)
  go_simp
  refine(cN.out U cc).mono ?_
  rintro e E ⟨bB,bf,bz,hs,rfl,bX,bN⟩
  have bA:Below y.heap.size y E:=Jb cc bB
  have cG:E.heap[y.heap.size]?=_:=(bB.block _ (Jd br)).trans br
  have cx:Hid (Kc E bf hs):=bX
  have cv:Hid (Jfz M [] hs M.length):=bN
  clear bX bN
  go_simp
  refine H.out _ _ ⟨Ja bB D.1,Ja bB D.2.1,Ja bB D.2.2⟩ (fun D=>?_)
  clear H X
  refine wpAnyH_ready (rs:=[10]) (by kernel_rfl) (by simp) (AllReadyH.cons rfl (fun X H=>?_) AllReadyH.nil)
  go_simp
  refine(cA.out E bf bz hs bA cx.out cv.out).mono ?_
  rintro e A ⟨rfl,bb,bL⟩
  have bM:Hid (Kj O E st (Ku 1048576 0) [] name M rs A):=bL
  clear bL
  obtain⟨bl,bi⟩:∃ K,Hid (K=E):=⟨_,rfl⟩
  have bD:Below y.heap.size y bl:=by rw[bi.out];exact bA
  have cr:¬ O y.heap.size:=fun bc=>by have h1:=cy.out.lt _ bc;have h2:=cb.size;have bW:y.drew.heap.size=y.heap.size:=rfl;omega
  have R:A.heap[y.heap.size]?=some (.cells #[.int .i64 0,.int .i64 0,.int .i64 0,.int .i64 0,.int .i64 0] 42 (0,0)):=(bb.block _ (Jd cG) cr).trans cG
  have cH:y.heap.size<bl.heap.size:=by rw[bi.out];exact Jd cG
  have bu:=bb
  rw[←bi.out]at bb
  have bx:¬ O b:=fun bc=>by have h1:=bC.out b bc;have h2:=Jm c0;simp only at h2;omega
  go_simp
  refine H.out _ _ ⟨bu.cell D.1 bx,bu.cell D.2.1 bx,bu.cell D.2.2 bx⟩ (fun D=>?_)
  clear H X
  have ch:A.cell? ⟨y.heap.size,0,none⟩=some (.int .i64 0):=by simp[World.cell?,R]
  have ci:A.cell? ⟨y.heap.size,1,none⟩=some (.int .i64 0):=by simp[World.cell?,R]
  have cj:A.cell? ⟨y.heap.size,2,none⟩=some (.int .i64 0):=by simp[World.cell?,R]
  have cl:A.cell? ⟨y.heap.size,3,none⟩=some (.int .i64 0):=by simp[World.cell?,R]
  have cn:A.cell? ⟨y.heap.size,4,none⟩=some (.int .i64 0):=by simp[World.cell?,R]
  have ba:∀ o:Nat,A.frozen? ⟨y.heap.size,o,none⟩=false:=fun o=>by simp[World.frozen?,R]
  have bR:=ba 0
  have bS:=ba 1
  have bT:=ba 2
  have bU:=ba 3
  have bV:=ba 4
  have bK:=Jk (Jk (Jk (Jk (Jk R 0 (.int .i64 0)) 1 (.int .i64 (-1))) 2 (.int .i64 (-1))) 3 (.int .i64 (-1))) 4 (.int .i64 (-1))
  simp only[Oa1,List.set_cons_zero,List.set_cons_succ]at bK
  have da:b<w.heap.size:=by have h2:=Jm c0;simpa using h2
  have cu:w.heap.size≤y.heap.size:=by have h2:=bj.size;have bW:y.drew.heap.size=y.heap.size:=rfl;have cP:=bA.size;have cQ:=bb.size;have cS:=bD.size;omega
  have bh:∀ o:Nat,(((((A.setCell ⟨y.heap.size,0,none⟩ (.int .i64 0)).setCell ⟨y.heap.size,1,none⟩ (.int .i64 (-1))).setCell ⟨y.heap.size,2,none⟩ (.int .i64 (-1))).setCell ⟨y.heap.size,3,none⟩ (.int .i64 (-1))).setCell ⟨y.heap.size,4,none⟩ (.int .i64 (-1))).cell? ⟨b,o,none⟩=A.cell? ⟨b,o,none⟩:=fun o=>by simp only[World.cell?,Zh _ _ _ _ _ _ _ b (by omega:b≠y.heap.size)]
  have bk:Below w.heap.size w bl:=Jb bj bD
  have bZ:Below w.heap.size w A:=bk.trans (bb.below (fun k bJ bc=>by have:=bC.out k bc;omega) bk.size)
  have bE:Kj O w st (Ku 1048576 0) [] name M rs (((((A.setCell ⟨y.heap.size,0,none⟩ (.int .i64 0)).setCell ⟨y.heap.size,1,none⟩ (.int .i64 (-1))).setCell ⟨y.heap.size,2,none⟩ (.int .i64 (-1))).setCell ⟨y.heap.size,3,none⟩ (.int .i64 (-1))).setCell ⟨y.heap.size,4,none⟩ (.int .i64 (-1))):=by
   refine Jfn (fa:=y.heap.size) (bi.out▸bM.out) bk.size (by rw[Jg2];exact Oa2 _) (fun k bJ cf=>(Zh _ _ _ _ _ _ _ k cf).trans (rfl)) cr (.inl cH)
  have bQ:Hid (Kj O w st (Ku 1048576 0) [] name M rs (((((A.setCell ⟨y.heap.size,0,none⟩ (.int .i64 0)).setCell ⟨y.heap.size,1,none⟩ (.int .i64 (-1))).setCell ⟨y.heap.size,2,none⟩ (.int .i64 (-1))).setCell ⟨y.heap.size,3,none⟩ (.int .i64 (-1))).setCell ⟨y.heap.size,4,none⟩ (.int .i64 (-1)))):=bE
  clear bE ba R
  refine wpAnyH_ready (rs:=[12]) (by kernel_rfl) (by simp) (AllReadyH.cons rfl (fun X H=>?_) AllReadyH.nil)
  go_simp
  refine H.out _ _ ⟨(bh 0).trans D.1,(bh 1).trans D.2.1,(bh 2).trans D.2.2⟩ (fun D=>?_)
  clear H X bh ch ci cj cl cn bR bS bT bU bV
  refine wpAnyH_done (by kernel_rfl) ?_ _
  have ca:=Um bZ cu (.int .i64 0) (.int .i64 (-1)) (.int .i64 (-1)) (.int .i64 (-1)) (.int .i64 (-1))
  go_wp2_with fail
  go_meet
  case rel=>exact⟨y.heap.size,rfl,bK,ca,bQ.out⟩
 case rest=>
  obtain⟨fa,rfl,hf,dm,cX⟩:=hcut
  have bM:Hid (Kj O w st (Ku 1048576 0) [] name M rs wc):=cX
  have du:wc.cell? ⟨fa,0,none⟩=some (.int .i64 0):=by simp[World.cell?,hf]
  have dv:wc.cell? ⟨fa,1,none⟩=some (.int .i64 (-1)):=by simp[World.cell?,hf]
  have dw:wc.cell? ⟨fa,2,none⟩=some (.int .i64 (-1)):=by simp[World.cell?,hf]
  have dx:wc.cell? ⟨fa,3,none⟩=some (.int .i64 (-1)):=by simp[World.cell?,hf]
  have dy:wc.cell? ⟨fa,4,none⟩=some (.int .i64 (-1)):=by simp[World.cell?,hf]
  have dr:fa<wc.heap.size:=Jd hf
  clear cX hf
  go_wp2_with fail
  go_region_held3 (fun K=>K.cell? ⟨fa,0,none⟩=some (.int .i64 0)∧K.cell? ⟨fa,1,none⟩=some (.int .i64 (-1))∧K.cell? ⟨fa,2,none⟩=some (.int .i64 (-1))∧K.cell? ⟨fa,3,none⟩=some (.int .i64 (-1))∧K.cell? ⟨fa,4,none⟩=some (.int .i64 (-1)))
   (first|go_keep|(go_split_ands;refine⟨?_,?_,?_,?_,?_⟩<;>(rw[(Kx cF).1 _ _ (by first|exact dr|assumption)];assumption)))
   (first|(go_at_call 14;refine(Jfu _).mono ?_;rintro e dz ⟨rfl,cF⟩;have cz:Below wc.heap.size wc dz:=(by first|exact Jw cF|exact cF)))
  clear du dv dw dx dy
  go_wp2_with fail
  rw[rounds_succ]
  go_wp2_with fail
  go_ret
  have dk:=Jb dm cz
  exact⟨dk,st,O,rfl,Jpj bM.out cz,bC.out⟩
end Go.Proofs.YtdlgbphkaicfaaaGreatDoor
namespace Go.Proofs.YtdlgbphkaicfaaaGreatDoor
open Go.RowKit Go.Shelf Tryz
theorem Jxy {W:World}{K D M:Nat}{name:ByteArray}{t:Int}{v:V}(h0:W.heap[K]?=some (.cells #[.int .i64 t] 3 (0,0)))(h1:W.heap[D]?=some (.cells #[.int .i64 v.k,.int .i64 v.n,.string v.s] 63 (0,0)))(h2:W.heap[M]?=some (.cells #[.slice (some ⟨D,0,none⟩) 1 1] 55 (0,0)))
  (O:1≤t∧t≤3) (hn:1≤name.size∧name.size≤20) (R:okB t v.k v.n v.s=true) (hi:Jg v.n):Uw W name (some ⟨K,0,none⟩) (some ⟨M,0,none⟩) 1 [t] [(some ⟨D,0,none⟩,1)] [[v]]:=by
 refine⟨⟨hn,⟨⟨by simp,by simp⟩,fun j E=>?_⟩,by simp,fun i hi=>?_⟩,fun u y=>?_,fun r A u y=>?_,.inr ⟨K,0,rfl,Jd h0,fun i u y=>?_⟩,⟨rfl,.inr ⟨M,0,rfl,Jd h2,fun i u y=>?_⟩,fun i x r H A=>?_⟩,by simp⟩
 ·have:j=0:=by simp at E;omega
  subst this
  simp[Jnd,O.1,O.2]
 ·have:i=0:=by simp at hi;omega
  subst this
  refine⟨rfl,fun j E=>?_⟩
  have:j=0:=by simp at E;omega
  subst this
  simpa using R
 ·simp at y;subst y;unfold tOk;omega
 ·simp at A;subst A;simp at y;subst y;exact hi
 ·rcases i with _|i
  ·simp at y;subst y;simp[World.cell?,h0,iv]
  simp at y
 ·rcases i with _|i
  ·simp at y;subst y;simp[World.cell?,h2,Je1]
  simp at y
 rcases i with _|i
 ·simp at H A
  subst H A
  refine .inr ⟨D,0,rfl,Jd h1,fun j u y=>?_⟩
  rcases j with _|j
  ·simp at y;subst y
   exact⟨by simp[World.cell?,h1],by simp[World.cell?,h1],by simp[World.cell?,h1]⟩
  simp at y
 simp at H
def Jqc (w D:World)(st:Nat)(name:ByteArray)(rs:List (List V)):Prop:=Below w.heap.size w D∧∃ (A:Nat→Prop) (y:DS) (T:TS),Sto A D st y [T]∧Jbc y [(T,rs)]∧T.name=name∧y.quota=1048576∧y.fail=0∧y.pages.length≤660*rs.length∧y.writes≤660*rs.length∧(∀ k,A k→w.heap.size≤k)
theorem Jwr {D:Nat→Prop}{w y A:World}{st:Nat}{name:ByteArray}{bf:List Int}{rs:List (List V)}(h:Kj D y st (Ku 1048576 0) [] name bf rs A)(E:Below w.heap.size w y)(bb:Below y.heap.size y A)(ba:∀ k,D k→y.heap.size≤k):Jqc w A st name rs:=by
 obtain⟨K,H,T,h1,h2,O,R,U,X,Z,_,_,_,M⟩:=h
 have z:=E.size
 refine⟨Jb E bb,K,H,T,h1,h2,O.1,R,U,by simpa [Ku] using X,by simpa [Ku] using Z,fun k bc=>?_⟩
 rcases M k bc with a|a
 ·have:=ba k a;omega
 omega
def Jhr (w A:World)(st:Nat)(name:ByteArray)(E:List Int)(rs:List (List V)):Prop:=Below w.heap.size w A∧∃ (D:Nat→Prop) (y:DS) (T:TS),Sto D A st y [T]∧Jbc y [(T,rs)]∧T.name=name∧T.types=E
theorem Jlx {K:Nat→Prop}{w y A:World}{st:Nat}{name:ByteArray}{E:List Int}{rs:List (List V)}(h:Kj K y st (Ku 1048576 0) [] name E rs A)(O:Below w.heap.size w y)(R:Below y.heap.size y A):Jhr w A st name E rs:=by
 obtain⟨M,H,T,h1,h2,D,_⟩:=h
 exact⟨Jb O R,M,H,T,h1,h2,D.1,D.2⟩
theorem Jrp {y:DS}{T:TS}{name:ByteArray}{rs:List (List V)}(h:Jbc y [(T,rs)])(hn:T.name=name):Jf8 y [T] name=some (.inl rs)∧∀ A∈[T],Jid y A:=by
 have E:=h.tab (T,rs) (by simp)
 refine⟨?_,fun A D=>by simp at D;subst D;exact E.ok⟩
 unfold Jf8
 simp[Ub,hn,E.read]
abbrev Yh:ByteArray:=⟨#[111,110,101]⟩
abbrev Za:V:=⟨1,41,⟨#[]⟩⟩
theorem Kev (w:World)(ba bb bc bk q wr pg bi ex bj:Addr)(bI:Jax w ba bb bc bk q wr pg bi ex bj) :
  Calls prog 16 #[] w fun e w'=>e=.returned (.bool true)∧Below w.heap.size w w':=by
 have bB:Hid (Jax w ba bb bc bk q wr pg bi ex bj):=bI
 clear bI
 go_enter func16,ntmps16
 go_upto_region 2 with fail
 obtain⟨W,hW⟩:∃ W,W=((((w.alloc (.cells #[.int .i64 1] 3)).alloc (.cells #[.int .i64 1,.int .i64 41,.string ⟨#[]⟩] 63)).alloc (.cells #[.slice (some ⟨w.heap.size+1,0,none⟩) 1 1] 55)).alloc (.cells #[.string ⟨#[111,110,101]⟩,.slice (some ⟨w.heap.size,0,none⟩) 1 1,.slice (some ⟨w.heap.size+1+1,0,none⟩) 1 1] 25)):=⟨_,rfl⟩
 rw[←hW]
 have bK:Below w.heap.size w W:=by rw[hW];exact((((Oa5 _ w).alloc (Oa2 _) _).alloc (by simp) _).alloc (by simp;omega) _).alloc (by simp;omega) _
 have bf:W.heap[w.heap.size+1+1+1]?=some (.cells #[.string ⟨#[111,110,101]⟩,.slice (some ⟨w.heap.size,0,none⟩) 1 1,.slice (some ⟨w.heap.size+1+1,0,none⟩) 1 1] 25 (0,0)):=by rw[hW];exact Jb4 _ _ _ (by simp)
 have bG:W.heap[w.heap.size+1+1]?=some (.cells #[.slice (some ⟨w.heap.size+1,0,none⟩) 1 1] 55 (0,0)):=by rw[hW,Oa9 _ _ _ (by simp)];exact Jb4 _ _ _ (by simp)
 have bE:W.heap[w.heap.size+1]?=some (.cells #[.int .i64 1,.int .i64 41,.string ⟨#[]⟩] 63 (0,0)):=by rw[hW,Oa9 _ _ _ (by simp),Oa9 _ _ _ (by simp)];exact Jb4 _ _ _ (by simp)
 have bD:W.heap[w.heap.size]?=some (.cells #[.int .i64 1] 3 (0,0)):=by rw[hW,Oa9 _ _ _ (by simp;omega),Oa9 _ _ _ (by simp;omega),Oa9 _ _ _ (by simp)];exact Jb4 _ _ _ rfl
 have cb:Hid (Uw W Yh (some ⟨w.heap.size,0,none⟩) (some ⟨w.heap.size+1+1,0,none⟩) 1 [1] [(some ⟨w.heap.size+1,0,none⟩,1)] [[Za]]):=Jxy (v:=Za) bD bE bG (by decide) (by decide) (by simp[okB,okK]) (by simp[Jg])
 have bV:W.cell? ⟨w.heap.size+1+1+1,0,none⟩=some (.string ⟨#[111,110,101]⟩):=by simp[World.cell?,bf]
 have bW:W.cell? ⟨w.heap.size+1+1+1,1,none⟩=some (.slice (some ⟨w.heap.size,0,none⟩) 1 1):=by simp[World.cell?,bf]
 have bX:W.cell? ⟨w.heap.size+1+1+1,2,none⟩=some (.slice (some ⟨w.heap.size+1+1,0,none⟩) 1 1):=by simp[World.cell?,bf]
 clear hW bD bE bG bf
 have bA:Hid (∀ D b,Below W.heap.size W D→D.heap[b]?=some (.cells #[.string ⟨#[111,110,101]⟩,.slice (some ⟨w.heap.size,0,none⟩) 1 1,.slice (some ⟨w.heap.size+1+1,0,none⟩) 1 1] 25 (0,0))→Calls prog 6 #[.agg #[.int .i64 1048576,.int .i64 0],.slice (some ⟨b,0,none⟩) 1 1] D fun e bl=>∃ st,e=.returned (.pointer (some ⟨st,0,none⟩))∧Jqc w bl st Yh [[Za]]∧Below D.heap.size D bl):=fun D b bn br=>
  (Jl3 b Yh (some ⟨w.heap.size,0,none⟩) (some ⟨w.heap.size+1+1,0,none⟩) 1 1 [1] [(some ⟨w.heap.size+1,0,none⟩,1)] [[Za]] D (cb.out.below bn) (by simp[World.cell?,br]) (by simp[World.cell?,br]) (by simp[World.cell?,br]) ba bb bc bk q wr pg bi ex bj (bB.out.below (Jb bK bn))).mono fun e bl ⟨bM,st,bC,ch,ci,cj⟩=>⟨st,ch,Jwr ci (Jb bK bn) bM cj,bM⟩
 go_cut [2] from 10 to 13 (fun s cA=>∃ st:Nat,s=.pointer (some ⟨st,0,none⟩)∧Jqc w cA st Yh [[Za]])
 case first=>
  refine wp_region_held_drew (S:=fun D=>D.cell? ⟨w.heap.size+1+1+1,0,none⟩=some (.string ⟨#[111,110,101]⟩)∧D.cell? ⟨w.heap.size+1+1+1,1,none⟩=some (.slice (some ⟨w.heap.size,0,none⟩) 1 1)∧D.cell? ⟨w.heap.size+1+1+1,2,none⟩=some (.slice (some ⟨w.heap.size+1+1,0,none⟩) 1 1)) (by kernel_rfl) ⟨bV,bW,bX⟩ (fun y=>?_)
  refine tk 1 ?_ rfl y ?_ ?_
  rotate_left 1
  ·intro w H;(try dsimp only at H);go_simp;try rfl
  simp only[Act.put,List.getElem_toArray,List.getElem_cons_zero,List.getElem_cons_succ,Oa1,List.set_cons_zero,List.set_cons_succ]
  have bN:Below W.heap.size W W.drew:=⟨rfl,rfl,rfl,Oa2 _,fun _ _=>rfl⟩
  refine wpAnyH_ready (rs:=[0,2]) (by kernel_rfl) (by simp) (AllReadyH.cons rfl (fun K E=>?_) (AllReadyH.cons rfl (fun K E=>?_) AllReadyH.nil))
  focus
   go_simp
   refine(Jen _).mono ?_
   rintro e A ⟨rfl,M⟩
   have bx:Below W.heap.size W A:=Jb bN M
   go_simp
   refine E.out _ _ ⟨Ja M y.1,Ja M y.2.1,Ja M y.2.2⟩ (fun y=>?_)
   clear E K
   refine wpAnyH_ready (rs:=[2]) (by kernel_rfl) (by simp) (AllReadyH.cons rfl (fun K E=>?_) AllReadyH.nil)
   go_simp
   have O:Below A.heap.size A (A.alloc (.cells #[.string ⟨#[111,110,101]⟩,.slice (some ⟨w.heap.size,0,none⟩) 1 1,.slice (some ⟨w.heap.size+1+1,0,none⟩) 1 1] 25)):=(Oa5 _ _).alloc (Oa2 _) _
   have bh:=heap_alloc_new A (.cells #[.string ⟨#[111,110,101]⟩,.slice (some ⟨w.heap.size,0,none⟩) 1 1,.slice (some ⟨w.heap.size+1+1,0,none⟩) 1 1] 25)
   refine E.out _ _ ⟨Ja O y.1,Ja O y.2.1,Ja O y.2.2⟩ (fun y=>?_)
   clear E K
   refine wpAnyH_ready (rs:=[3]) (by kernel_rfl) (by simp) (AllReadyH.cons rfl (fun K E=>?_) AllReadyH.nil)
   go_simp
   refine(bA.out _ _ (Jb bx O) bh).mono ?_
  rotate_left 1
  focus
   go_simp
   have O:Below W.heap.size W ((W.alloc (.cells #[.string ⟨#[111,110,101]⟩,.slice (some ⟨w.heap.size,0,none⟩) 1 1,.slice (some ⟨w.heap.size+1+1,0,none⟩) 1 1] 25)).drew):=Jb bN ((Oa5 _ W.drew).alloc (Oa2 _) (.cells #[.string ⟨#[111,110,101]⟩,.slice (some ⟨w.heap.size,0,none⟩) 1 1,.slice (some ⟨w.heap.size+1+1,0,none⟩) 1 1] 25))
   have bh:((W.alloc (.cells #[.string ⟨#[111,110,101]⟩,.slice (some ⟨w.heap.size,0,none⟩) 1 1,.slice (some ⟨w.heap.size+1+1,0,none⟩) 1 1] 25)).drew).heap[W.heap.size]?=_:=heap_alloc_new W (.cells #[.string ⟨#[111,110,101]⟩,.slice (some ⟨w.heap.size,0,none⟩) 1 1,.slice (some ⟨w.heap.size+1+1,0,none⟩) 1 1] 25)
   refine E.out _ _ ⟨Ja O bV,Ja O bW,Ja O bX⟩ (fun y=>?_)
   clear E K
   refine wpAnyH_ready (rs:=[0]) (by kernel_rfl) (by simp) (AllReadyH.cons rfl (fun K E=>?_) AllReadyH.nil)
   go_simp
   refine(Jen _).mono ?_
   rintro e A ⟨rfl,M⟩
   have bx:Below W.heap.size W A:=Jb O M
   have cf:A.heap[W.heap.size]?=_:=(M.block _ (Jd bh)).trans bh
   go_simp
   refine E.out _ _ ⟨Ja M y.1,Ja M y.2.1,Ja M y.2.2⟩ (fun y=>?_)
   clear E K
   refine wpAnyH_ready (rs:=[3]) (by kernel_rfl) (by simp) (AllReadyH.cons rfl (fun K E=>?_) AllReadyH.nil)
   go_simp
   refine(bA.out _ _ bx cf).mono ?_
  all_goals
   rintro e U ⟨st,rfl,bS,bz⟩
   have ca:Hid (Jqc w U st Yh [[Za]]):=bS
   clear bS
   go_simp
   refine E.out _ _ ⟨Ja bz y.1,Ja bz y.2.1,Ja bz y.2.2⟩ (fun y=>?_)
   clear E K
   refine tk 4 ?_ rfl y ?_ ?_
   rotate_left 1
   ·intro w H;(try dsimp only at H);go_simp;try rfl
   simp only[Act.put,List.getElem_toArray,List.getElem_cons_zero,List.getElem_cons_succ,Oa1,List.set_cons_zero,List.set_cons_succ]
   refine wpAnyH_done (by kernel_rfl) ?_ _
   go_wp2_with fail
   go_meet
   case rel=>exact⟨st,rfl,ca.out⟩
 case rest=>
  obtain⟨st,rfl,bL,bC,bZ,T,bU,bT,cl,_⟩:=hcut
  obtain⟨bQ,bP⟩:=Jrp bT cl
  have bR:=Kcc bC st bZ [T] Yh wc bU bP ba bb bc bk q wr pg bi ex bj (bB.out.below bL)
  rw[bQ]at bR
  clear bU bT bQ bP
  go_wp2_with (first|(go_at_call 26;refine bR.mono ?_;rintro e A ⟨M,g,bs,rfl,bO⟩;have Z:Hid (Jcu A wc.heap.size g bs [[Za]]):=bO;clear bO))
  obtain⟨b1,rfl⟩:∃ b1,bs=[b1]:=by
   have:=Z.out.len
   match bs,this with
   |[x],_=>exact⟨x,rfl⟩
  have bH:A.cell? ⟨g,0,none⟩=some (.slice (some ⟨b1,0,none⟩) 1 1):=Z.out.outer.cell (i:=0) (by simp)
  have bY:A.cell? ⟨b1,1,none⟩=some (.int .i64 41):=by
   rcases(Z.out.rows 0 b1 [Za] rfl rfl).vals with h|⟨cC,cE,bJ,_,cn⟩
   ·simp at h
   simp at bJ
   obtain⟨rfl,rfl⟩:=bJ
   have:=(cn 0 Za rfl).2.1
   simpa using this
  have cD:=Jjl 0
  have bu:Below A.heap.size A (A.alloc (.cells #[.int .i64 0,.int .i64 (-1),.int .i64 (-1),.int .i64 (-1),.int .i64 (-1)] 42)):=(Oa5 _ _).alloc (Oa2 _) _
  have X:=heap_alloc_new A (.cells #[.int .i64 0,.int .i64 (-1),.int .i64 (-1),.int .i64 (-1),.int .i64 (-1)] 42)
  have cc:=Ja bu bH
  have cz:=Ja bu bY
  generalize A.alloc (.cells #[.int .i64 0,.int .i64 (-1),.int .i64 (-1),.int .i64 (-1),.int .i64 (-1)] 42)=U at *
  have cr:U.cell? ⟨A.heap.size,0,none⟩=some (.int .i64 0):=by simp[World.cell?,X]
  have cu:U.cell? ⟨A.heap.size,1,none⟩=some (.int .i64 (-1)):=by simp[World.cell?,X]
  have cv:U.cell? ⟨A.heap.size,2,none⟩=some (.int .i64 (-1)):=by simp[World.cell?,X]
  have cx:U.cell? ⟨A.heap.size,3,none⟩=some (.int .i64 (-1)):=by simp[World.cell?,X]
  have cy:U.cell? ⟨A.heap.size,4,none⟩=some (.int .i64 (-1)):=by simp[World.cell?,X]
  clear bH bY X Z
  refine wp_region_held_drew (S:=fun D=>D.cell? ⟨A.heap.size,0,none⟩=some (.int .i64 0)∧D.cell? ⟨A.heap.size,1,none⟩=some (.int .i64 (-1))∧D.cell? ⟨A.heap.size,2,none⟩=some (.int .i64 (-1))∧D.cell? ⟨A.heap.size,3,none⟩=some (.int .i64 (-1))∧D.cell? ⟨A.heap.size,4,none⟩=some (.int .i64 (-1))∧D.cell? ⟨g,0,none⟩=some (.slice (some ⟨b1,0,none⟩) 1 1)∧D.cell? ⟨b1,1,none⟩=some (.int .i64 41)) (by kernel_rfl) ⟨cr,cu,cv,cx,cy,cc,cz⟩ (fun y=>?_)
  refine tk 0 ?_ rfl y ?_ ?_
  rotate_left 1
  ·intro w H;(try dsimp only at H);go_simp;try rfl
  simp only[Act.put,List.getElem_toArray,List.getElem_cons_zero,Oa1,List.set_cons_zero,List.set_cons_succ]
  refine wpAnyH_ready (rs:=[1]) (by kernel_rfl) (by simp) (AllReadyH.cons rfl (fun K E=>?_) AllReadyH.nil)
  go_simp
  refine(Jfu _).mono ?_
  rintro e cB ⟨rfl,R⟩
  go_simp
  refine E.out _ _ ⟨Ja R y.1,Ja R y.2.1,Ja R y.2.2.1,Ja R y.2.2.2.1,Ja R y.2.2.2.2.1,Ja R y.2.2.2.2.2.1,Ja R y.2.2.2.2.2.2⟩ (fun y=>?_)
  clear E K
  refine tk 2 ?_ rfl y ?_ (tk 3 ?_ rfl y ?_ ?_)
  iterate 2
   rotate_left 1
   ·intro w H;(try dsimp only at H);go_simp;try rfl
  simp only[Act.put,List.getElem_toArray,List.getElem_cons_zero,List.getElem_cons_succ,Oa1,List.set_cons_zero,List.set_cons_succ]
  refine tk 4 ?_ rfl y ?_ (tk 5 ?_ rfl y ?_ (tk 6 ?_ rfl y ?_ (tk 7 ?_ rfl y ?_ (tk 8 ?_ rfl y ?_ ?_))))
  iterate 5
   rotate_left 1
   ·intro w H;(try dsimp only at H);go_simp;try rfl
  simp only[Act.put,List.getElem_toArray,List.getElem_cons_zero,List.getElem_cons_succ,Oa1,List.set_cons_zero,List.set_cons_succ]
  refine tk 9 ?_ rfl y ?_ (tk 10 ?_ rfl y ?_ (tk 11 ?_ rfl y ?_ (tk 12 ?_ rfl y ?_ (tk 13 ?_ rfl y ?_ (tk 14 ?_ rfl y ?_ (tk 15 ?_ rfl y ?_ ?_))))))
  iterate 7
   rotate_left 1
   ·intro w H;(try dsimp only at H);go_simp;try rfl
  simp only[Act.put,List.getElem_toArray,List.getElem_cons_zero,List.getElem_cons_succ,Oa1,List.set_cons_zero,List.set_cons_succ]
  refine tk 16 ?_ rfl y ?_ (tk 17 ?_ rfl y ?_ (tk 18 ?_ rfl y ?_ (tk 19 ?_ rfl y ?_ (tk 20 ?_ rfl y ?_ (tk 21 ?_ rfl y ?_ (tk 22 ?_ rfl y ?_ (tk 23 ?_ rfl y ?_ (tk 24 ?_ rfl y ?_ ?_))))))))
  iterate 9
   rotate_left 1
   ·intro w H;(try dsimp only at H);go_simp;try rfl
  simp only[Act.put,List.getElem_toArray,List.getElem_cons_zero,List.getElem_cons_succ,Oa1,List.set_cons_zero,List.set_cons_succ]
  refine wpAnyH_done (by kernel_rfl) ?_ _
  go_wp2
  go_ret
  exact⟨rfl,Jb (Jb bL (Jb M bu)) (Jw R)⟩
theorem Jug.right {w w':World}{name:ByteArray}{H:List Int}{rs:List (List V)}{v:Value}(h:Jug w w' name H rs v)(O:rs.length≤200)(hn:1≤name.size∧name.size≤20):∃ E K A D xs,v=.agg #[.string name,.slice E H.length K,.slice A rs.length D]∧Uw w' name E A D H xs rs:=by
 obtain⟨E,K,A,D,bs,X,h1,h2,M,_⟩:=h.val
 refine⟨E,K,A,D,_,X,⟨hn,⟨h.types.1,fun j y=>?_⟩,O,fun i hi=>?_⟩,h.types.2,fun r R u U=>?_,h1,h2,M⟩
 ·have:=h.types.2 _ (Ob3 y)
  unfold tOk at this
  unfold Jnd
  simp only[decide_eq_true_iff]
  omega
 ·have:=h.rows _ (Ob3 hi)
  exact⟨this.1,fun j y=>(this.2 j y).1⟩
 have:=h.rows r R
 obtain⟨j,y,rfl⟩:=Od5 U
 exact(this.2 j y).2
end Go.Proofs.YtdlgbphkaicfaaaGreatDoor
