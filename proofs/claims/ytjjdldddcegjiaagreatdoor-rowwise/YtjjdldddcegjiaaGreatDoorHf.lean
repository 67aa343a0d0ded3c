/- A store in memory; New; what Load does round the set's Load. -/
import Derived.Test.YtjjdldddcegjiaaGreatDoorHc
import Derived.Test.YtjjdldddcegjiaaGreatDoorKl
import Derived.Test.YtjjdldddcegjiaaGreatDoorKm
import Derived.Deep.CutRange
import Derived.Deep.RegionHeld3
set_option maxHeartbeats 1000000
set_option maxRecDepth 100000
namespace Go.Proofs.YtjjdldddcegjiaaGreatDoor
open Go.RowKit Go.Shelf Tryz
structure Sto (M:Nat→Prop) (w:World) (st:Nat) (D:DS) (Ts:List TS):Prop where
 ex:∃ (d s:Nat) (F G:Nat→Prop) (sv:Value) (bs:List Nat),Jdu w st d s∧Jfl w G s d Ts sv bs∧Zb w F d D∧(∀ k,G k→¬ F k)∧¬ F s∧(∀ g,sv.ownBlock=some g→¬ F g)∧¬ F st∧¬ G st∧st≠s∧sv.ownBlock≠some st∧(∀ k,F k∨G k∨Jnr s sv k∨k=st→M k)
 lt:∀ k,M k→k<w.heap.size
theorem Sto.stands {z:Nat→Prop}{w w':World}{st:Nat}{D:DS}{Ts:List TS}(h:Sto z w st D Ts)(hs:w.heap.size≤w'.heap.size)(A:∀ k,z k→w'.heap[k]?=w.heap[k]?):Sto z w' st D Ts:=by
 obtain⟨⟨d,s,F,G,sv,bs,E,K,M,O,R,U,X,Z,bc,H,y⟩,bf⟩:=h
 refine⟨⟨d,s,F,G,sv,bs,?_,K.stands hs fun k C _=>A k (y k (C.elim (fun a=>.inr (.inl a)) (fun a=>.inr (.inr (.inl a))))),M.stands fun k hf _=>A k (y k (.inl hf)),O,R,U,X,Z,bc,H,y⟩,fun k C=>Oc2 (bf k C) hs⟩
 unfold Jdu at E ⊢
 rw[A st (y st (.inr (.inr (.inr rfl))))]
 exact E
theorem Sto.below {z:Nat→Prop}{w w':World}{st:Nat}{y:DS}{Ts:List TS}(h:Sto z w st y Ts)(A:Below w.heap.size w w'):Sto z w' st y Ts:=h.stands A.size fun k C=>A.block k (h.lt k C)
theorem Ke2 (d:Nat)(w:World):Calls prog 37 #[.pointer (some ⟨d,0,none⟩)] w fun e w'=>e=.returned (.pointer (some ⟨w.heap.size,0,none⟩))∧w'=w.alloc (.cells #[.pointer (some ⟨d,0,none⟩),.slice none 0 0] 123):=by
 go_enter func37,ntmps37
 go_wp2
 go_ret
 exact⟨rfl,rfl⟩
theorem Kfq (q f:Int)(w:World) :
  Calls prog 22 #[.agg #[.int .i64 q,.int .i64 f]] w fun e w'=>Below w.heap.size w w'∧∃ (st:Nat) (z:Nat→Prop),e=.returned (.pointer (some ⟨st,0,none⟩))∧Sto z w' st (Ku q f) []∧(∀ k,z k→w.heap.size≤k):=by
 have K:Below w.heap.size w (w.alloc (.cells #[.int .i64 q,.int .i64 f] 34)):=(Oa5 _ w).alloc (Oa2 _) _
 have H:=Kcn q f (w.alloc (.cells #[.int .i64 q,.int .i64 f] 34))
 go_enter func22,ntmps22
 go_wp2_with (first|(go_at_call 36;refine H.mono ?_;rintro e y ⟨d,rfl,O,D,M⟩;have A:=Jb K M)|(go_at_call 37;refine(Ke2 d y).mono ?_;rintro e U ⟨rfl,rfl⟩))
 go_ret
 have C:Below y.heap.size y ((y.alloc (.cells #[.pointer (some ⟨d,0,none⟩),.slice none 0 0] 123)).alloc (.cells #[.pointer (some ⟨d,0,none⟩),.pointer (some ⟨y.heap.size,0,none⟩)] 83)):=((Oa5 _ _).alloc (Oa2 _) _).alloc (by simp) _
 have Z:=A.size
 have X:d<y.heap.size:=by
  obtain⟨sv,ps,R⟩:=D
  exact Jd R.cells
 rw[Oa7]at O
 have E:=heap_alloc_new (y.alloc (.cells #[.pointer (some ⟨d,0,none⟩),.slice none 0 0] 123)) (.cells #[.pointer (some ⟨d,0,none⟩),.pointer (some ⟨y.heap.size,0,none⟩)] 83)
 rw[Oa7]at E
 refine⟨Jb A C,y.heap.size+1,fun k=>k=d∨k=y.heap.size∨k=y.heap.size+1,rfl,⟨⟨d,y.heap.size,fun k=>k=d,fun _=>False,.slice none 0 0,[],E,?_,D.below C,by simp,by omega,by simp[Value.ownBlock],by omega,by simp,by omega,by simp[Value.ownBlock],?_⟩,?_⟩,?_⟩
 ·refine⟨?_,Jo.nil _ _ _,by simp,by simp[Value.ownBlock],rfl,by simp,by simp⟩
  rw[Oa9 _ _ _ (by simp),heap_alloc_new]
 ·rintro k (h|h|h|h)
  ·exact .inl h
  ·exact h.elim
  ·rcases h with h|h
   ·exact .inr (.inl h)
   simp[Value.ownBlock]at h
  exact .inr (.inr h)
 ·rintro k (h|h|h)<;>subst h<;>simp<;>omega
 rintro k (h|h|h)<;>subst h<;>omega
abbrev Ka:Obj:=.cells #[.int .i64 0,.int .i64 0,.int .i64 0,.int .i64 0,.int .i64 0] 40
theorem Ju9 (st s:Nat)(name:ByteArray)(bc bf:Value)(H K bx:Option Addr)(R M U c2 bC c3:Nat)(bU:bc=.slice H R M)(bV:bf=.slice K U c2)(g:Int)(w:World)(X:Nat→Prop)(bn:∀ k,X k→k<w.heap.size)(bT:¬ X st)(c1:w.cell? ⟨st,1,none⟩=some (.pointer (some ⟨s,0,none⟩)))
  (c nd col pg:Int) (P:World→Prop)
  (hL:Calls prog 39 #[.pointer (some ⟨s,0,none⟩),.agg #[.string name,bc,bf],.slice bx bC c3,.int .i64 g] ((w.alloc (.cells #[.string name,bc,bf] 25)).alloc Ka).drew fun e w'=>∃ ev,e=.returned ev∧Ju X ((w.alloc (.cells #[.string name,bc,bf] 25)).alloc Ka) w'∧P w'∧Calls prog 38 #[ev] w' (fun e bu=>e=.returned (Jjp c nd col pg)∧Below w'.heap.size w' bu)) :
  Calls prog 23 #[.pointer (some ⟨st,0,none⟩),.agg #[.string name,bc,bf],.slice bx bC c3,.int .i64 g] w fun e w'=>e=.returned (Jjp c nd col pg)∧∃ A,P A∧Ju X ((w.alloc (.cells #[.string name,bc,bf] 25)).alloc Ka) A∧Ju (fun k=>k=w.heap.size+1) A w':=by
 subst bU bV
 have bz:Below w.heap.size w ((w.alloc (.cells #[.string name,.slice H R M,.slice K U c2] 25)).alloc Ka):=((Oa5 _ w).alloc (Oa2 _) _).alloc (by simp) _
 have bl:=Ja bz c1
 have cf:st<w.heap.size:=Jm c1
 have br:¬ X w.heap.size:=fun h=>Oe3 _ (bn _ h)
 have cb:¬ X (w.heap.size+1):=fun h=>by have:=bn _ h;omega
 obtain⟨W,hW⟩:∃ W,W=(w.alloc (.cells #[.string name,.slice H R M,.slice K U c2] 25)).alloc Ka:=⟨_,rfl⟩
 have bD:W.cell? ⟨w.heap.size,0,none⟩=some (.string name):=by rw[hW,Oe5 _ _ _ (by simp)];simp
 have bE:W.cell? ⟨w.heap.size,1,none⟩=some (.slice H R M):=by rw[hW,Oe5 _ _ _ (by simp)];simp
 have bG:W.cell? ⟨w.heap.size,2,none⟩=some (.slice K U c2):=by rw[hW,Oe5 _ _ _ (by simp)];simp
 have bS:W.heap[w.heap.size+1]?=some (.cells #[.int .i64 0,.int .i64 0,.int .i64 0,.int .i64 0,.int .i64 0] 40 (0,0)):=by
  rw[hW]
  have:=heap_alloc_new (w.alloc (.cells #[.string name,.slice H R M,.slice K U c2] 25)) Ka
  rwa [Oa7]at this
 have cc:W.heap.size=w.heap.size+2:=by rw[hW];simp
 rw[←hW]at hL bz bl
 clear bn
 go_enter func23,ntmps23
 go_wp2_with fail
 rw[←hW]
 have bJ:Hid (W=(w.alloc (.cells #[.string name,.slice H R M,.slice K U c2] 25)).alloc Ka):=hW
 clear hW
 refine wp_region_held_drew (S:=fun bj=>bj.cell? ⟨st,1,none⟩=some (.pointer (some ⟨s,0,none⟩))∧bj.cell? ⟨w.heap.size,0,none⟩=some (.string name)∧bj.cell? ⟨w.heap.size,1,none⟩=some (.slice H R M)∧bj.cell? ⟨w.heap.size,2,none⟩=some (.slice K U c2)) (by kernel_rfl) ⟨bl,bD,bE,bG⟩ (fun y=>?_)
 refine tk 0 ?_ rfl y ?_ (tk 1 ?_ rfl y ?_ (tk 2 ?_ rfl y ?_ (tk 3 ?_ rfl y ?_ (tk 4 ?_ rfl y ?_ (tk 5 ?_ rfl y ?_ (tk 6 ?_ rfl y ?_ ?_))))))
 iterate 7
  rotate_left 1
  ·intro w bP;(try dsimp only at bP);go_simp;try rfl
 simp only[Act.put,List.getElem_toArray,List.getElem_cons_zero,List.getElem_cons_succ,Oa1,List.set_cons_zero,List.set_cons_succ]
 refine wpAnyH_ready (rs:=[7]) (by kernel_rfl) (by simp) (AllReadyH.cons rfl (fun bh D=>?_) AllReadyH.nil)
 go_simp
 refine hL.mono ?_
 rintro e A ⟨ev,rfl,O,bB,hf⟩
 have bI:Hid (P A):=bB
 have bH:Hid (Calls prog 38 #[ev] A (fun e bu=>e=.returned (Jjp c nd col pg)∧Below A.heap.size A bu)):=hf
 clear bB hf hL
 go_simp
 refine D.out _ _ ⟨O.cell bl bT,O.cell bD br,O.cell bE br,O.cell bG br⟩ (fun y=>?_)
 clear D bh
 refine wpAnyH_ready (rs:=[8]) (by kernel_rfl) (by simp) (AllReadyH.cons rfl (fun bh D=>?_) AllReadyH.nil)
 go_simp
 refine bH.out.mono ?_
 rintro e C ⟨rfl,z⟩
 go_simp
 refine D.out _ _ ⟨Ja z y.1,Ja z y.2.1,Ja z y.2.2.1,Ja z y.2.2.2⟩ (fun y=>?_)
 clear D bh
 have ch:=O.size
 have E:C.heap[w.heap.size+1]?=some (.cells #[.int .i64 0,.int .i64 0,.int .i64 0,.int .i64 0,.int .i64 0] 40 (0,0)):=
  (z.block _ (by omega)).trans ((O.block _ (by omega) cb).trans bS)
 have bW:C.cell? ⟨w.heap.size+1,0,none⟩=some (.int .i64 0):=by simp[World.cell?,E]
 have bX:C.cell? ⟨w.heap.size+1,1,none⟩=some (.int .i64 0):=by simp[World.cell?,E]
 have bY:C.cell? ⟨w.heap.size+1,2,none⟩=some (.int .i64 0):=by simp[World.cell?,E]
 have bZ:C.cell? ⟨w.heap.size+1,3,none⟩=some (.int .i64 0):=by simp[World.cell?,E]
 have ca:C.cell? ⟨w.heap.size+1,4,none⟩=some (.int .i64 0):=by simp[World.cell?,E]
 have Z:∀ o:Nat,C.frozen? ⟨w.heap.size+1,o,none⟩=false:=fun o=>by simp[World.frozen?,E]
 have bK:=Z 0
 have bL:=Z 1
 have bM:=Z 2
 have bN:=Z 3
 have bO:=Z 4
 have bA:=Jk (Jk (Jk (Jk (Jk E 0 (.int .i64 c)) 1 (.int .i64 nd)) 2 (.int .i64 (-1))) 3 (.int .i64 col)) 4 (.int .i64 pg)
 simp only[Oa1,List.set_cons_zero,List.set_cons_succ]at bA
 clear E Z
 refine wpAnyH_ready (rs:=[9]) (by kernel_rfl) (by simp) (AllReadyH.cons rfl (fun bh D=>?_) AllReadyH.nil)
 go_simp
 have bi:∀ (b o:Nat),b≠w.heap.size+1→(((((C.setCell ⟨w.heap.size+1,0,none⟩ (.int .i64 c)).setCell ⟨w.heap.size+1,1,none⟩ (.int .i64 nd)).setCell ⟨w.heap.size+1,2,none⟩ (.int .i64 (-1))).setCell ⟨w.heap.size+1,3,none⟩ (.int .i64 col)).setCell ⟨w.heap.size+1,4,none⟩ (.int .i64 pg)).cell? ⟨b,o,none⟩=C.cell? ⟨b,o,none⟩:=fun b o bQ=>by
  simp only[World.cell?,Zh _ _ _ _ _ _ _ b bQ]
 refine D.out _ _ ⟨(bi _ _ (by omega)).trans y.1,(bi _ _ (by omega)).trans y.2.1,(bi _ _ (by omega)).trans y.2.2.1,(bi _ _ (by omega)).trans y.2.2.2⟩ (fun y=>?_)
 clear D bh bi y bW bX bY bZ ca bK bL bM bN bO
 refine wpAnyH_done (by kernel_rfl) ?_ _
 go_wp2
 refine bodyPost_ret (v:=Jjp c nd col pg) (by simp[results,results23,go_sem,Jjp,World.cell?,bA]) rfl ⟨rfl,A,bI.out,by rw[←bJ.out];exact O,?_⟩
 exact⟨z.os,z.tape,z.output,by rw[Jg2];exact z.size,fun k bR hn=>(Zh _ _ _ _ _ _ _ k hn).trans (z.block k bR)⟩
end Go.Proofs.YtjjdldddcegjiaaGreatDoor
namespace Go.Proofs.YtjjdldddcegjiaaGreatDoor
open Go.RowKit Go.Shelf Tryz
structure Jax (w:World) (a0 a1 a2 tt q wr pg pl ex ta:Addr):Prop where
 e:Jf0 w a0 a1 a2
 m:Jkn w a0 a1 a2 tt q wr pg
 m2:Jhy w [a0,a1,a2,tt,q,wr,pg] pl ex
 c:w.cell? ⟨1,0,none⟩=some (.iface 443 (.pointer (some ta)))
 b:∃ c t,w.heap[ta.block]?=some (.cells c t (0,0))
 n:ta∉[a0,a1,a2,tt,q,wr,pg,pl,ex]
 m3:∃ dv ov gv mn,Jig w [ex,pl,a0,a1,a2,tt,q,wr,pg] dv ov gv mn∧ta∉[dv,ov,gv,mn]
theorem Jax.below {w w':World}{z A C H q wr pg D ex E:Addr}(h:Jax w z A C H q wr pg D ex E)(y:Below w.heap.size w w'):Jax w' z A C H q wr pg D ex E:=
 ⟨h.e.below y,h.m.below y,h.m2.below y,Ja y h.c,Kg y h.b,h.n,by obtain⟨K,X,M,U,O,R⟩:=h.m3;exact⟨K,X,M,U,O.below y,R⟩⟩
abbrev Ja0:Type:=Unit⊕(Unit⊕(Nat⊕((Bool×DS)⊕(DS×TS))))
abbrev Ja0.arg:Ja0:=.inl ()
abbrev Ja0.table:Ja0:=.inr (.inl ())
abbrev Ja0.dict (c:Nat):Ja0:=.inr (.inr (.inl c))
abbrev Ja0.disk (x:Bool)(y:DS):Ja0:=.inr (.inr (.inr (.inl (x,y))))
abbrev Ja0.ok (y:DS)(T:TS):Ja0:=.inr (.inr (.inr (.inr (y,T))))
def Ja0.fault:Ja0→Value
 |.inl _=>Jbz 1 (-1) (-1)
 |.inr (.inl _)=>Jbz 4 (-1) (-1)
 |.inr (.inr (.inl c))=>Jbz 2 (c:Int) (-1)
 |.inr (.inr (.inr (.inl x)))=>Jbz (if x.1 then 5 else 6) (-1) (-1)
 |.inr (.inr (.inr (.inr _)))=>Jbz 0 (-1) (-1)
def Ja0.d (y:DS):Ja0→DS
 |.inr (.inr (.inr (.inl x)))=>x.2
 |.inr (.inr (.inr (.inr x)))=>x.1
 |_=>y
def Ja0.ts (Ts:List TS):Ja0→List TS
 |.inr (.inr (.inr (.inr x)))=>Ts++[x.2]
 |_=>Ts
def Khs (name:ByteArray)(y hs:List Int)(rs:List (List V))(g:Int):Decidable (Jel name y rs∧Je3 y hs∧1≤g∧g≤64):=by
 unfold Jel Je3
 infer_instance
def Jbd (y:DS)(Ts:List TS)(name:ByteArray)(z hs:List Int)(rs:List (List V))(g:Int):Ja0:=
 @ite _ (Jel name z rs∧Je3 z hs∧1≤g∧g≤64) (Khs name z hs rs g)
  (if Ub Ts name<Ts.length∨6≤Ts.length then .table
  else match Jfg rs z hs (cks rs.length g.toNat (ckN rs.length g.toNat))with
   |.inr c=>.dict c
   |.inl T=>match (Jq y T).2.2 with
    |some x=>.disk x (Jcg (Jq y T).1 (Jq y T).2.1)
    |none=>.ok (Jq y T).1 ⟨name,z,rs.length,g.toNat,(Jq y T).2.1⟩)
  .arg
theorem Jn8 {C D:Nat→Prop}{w W E w':World}{j:Nat}(y:Below w.heap.size w W)(z:Ju D W E)(A:Ju (fun k=>k=j) E w')(M:w.heap.size≤j)(H:∀ k,D k→C k):Ju C w w':=by
 have O:=y.size
 have R:=z.size
 have U:=A.size
 refine⟨(A.os.trans z.os).trans y.os,(A.tape.trans z.tape).trans y.tape,(A.output.trans z.output).trans y.output,by omega,fun k K hn=>?_⟩
 exact(A.block k (by omega) (by omega)).trans ((z.block k (by omega) fun h=>hn (H k h)).trans (y.block k K))
def Jy0 (y:Nat→Prop)(w:World)(st:Nat)(A:DS)(Ts:List TS)(r:Ja0)(e:Ending)(w':World):Prop:=
 e=.returned r.fault∧Ju y w w'∧∃ z:Nat→Prop,Sto z w' st (r.d A) (r.ts Ts)∧(∀ k,y k→z k)∧(∀ k,z k→y k∨w.heap.size≤k)
theorem Jyt (H:Nat→Prop)(st:Nat)(D:DS)(Ts:List TS)(name:ByteArray)(E K bc:Option Addr)(ct M bA:Nat)(y hs:List Int)(xs:List (Option Addr×Nat))(rs:List (List V))(g:Int)(w:World)(h:Sto H w st D Ts)(cl:Kct w name E K bc M y hs xs rs)(cn:∀ b o,E=some ⟨b,o,none⟩→¬ H b)(cQ:D.pages.length≤200000)
  (bO bP bQ dd q wr pg da ex db:Addr) (br:World) (bB:Jax br bO bP bQ dd q wr pg da ex db) (cI:Below br.heap.size br w) (bV:∀ k,H k→br.heap.size≤k) (cE:∀ x∈hs,Kjk x) (C:∃ bN T,Jbd D Ts name y hs rs g=.ok bN T) :
  Calls prog 23 #[.pointer (some ⟨st,0,none⟩),Jvc name E K ct M y rs,.slice bc hs.length bA,.int .i64 g] w fun e w'=>Jy0 H w st D Ts (Jbd D Ts name y hs rs g) e w':=by
 have df:=h
 have bW:=bB.below cI
 have cB:¬ H 6:=fun bJ=>by have bf:=bV _ bJ;have bh:=Jm bB.m.cq;simp only at bh;omega
 have cC:¬ H 7:=fun bJ=>by have bf:=bV _ bJ;have bh:=Jm bB.m.cw;simp only at bh;omega
 obtain⟨⟨d,s,F,G,sv,bs,bf,bh,cc,cf,ch,ci,bT,cj,bU,bS,A⟩,U⟩:=h
 obtain⟨W,hW⟩:∃ W,W=(w.alloc (Jln name E K ct M y rs)).alloc Ka:=⟨_,rfl⟩
 have O:Below w.heap.size w W:=by rw[hW];exact((Oa5 _ w).alloc (Oa2 _) _).alloc (by simp) _
 have bi:Below w.heap.size w W.drew:=⟨O.os,O.tape,O.output,O.size,O.block⟩
 have bX:W.heap.size=w.heap.size+2:=by rw[hW];simp
 have bC:=bW.below bi
 have cr:=cl.below bi
 obtain⟨dh,di,dj,dk,dm,dp,dq⟩:=Jim bW.m
 have bR:=fun (bz:Nat→Prop) (bn:∀ k,bz k→k<w.heap.size) (cS:¬ bz st) (c nd col cZ:Int) (P:World→Prop) hL=>Ju9 st s name (.slice E y.length ct) (.slice K rs.length M) E K bc y.length ct rs.length M hs.length bA rfl rfl g w bz bn cS bf.field.2 c nd col cZ P hL
 have cD:(w.alloc (.cells #[.string name,.slice E y.length ct,.slice K rs.length M] 25)).alloc Ka=W:=hW.symm
 rw[cD]at bR
 obtain⟨R,Z,T,bj,bl⟩:(Jel name y rs∧Je3 y hs∧1≤g∧g≤64)∧¬ (Ub Ts name<Ts.length∨6≤Ts.length)∧∃ T,Jfg rs y hs (cks rs.length g.toNat (ckN rs.length g.toNat))=.inl T∧(Jq D T).2.2=none:=by
  obtain⟨bN,de,C⟩:=C
  unfold Jbd at C
  by_cases R:Jel name y rs∧Je3 y hs∧1≤g∧g≤64
  ·rw[if_pos R]at C
   by_cases Z:Ub Ts name<Ts.length∨6≤Ts.length
   ·rw[if_pos Z]at C
    cases C
   rw[if_neg Z]at C
   rcases bj:Jfg rs y hs (cks rs.length g.toNat (ckN rs.length g.toNat))with T|c
   ·rw[bj]at C
    cases bl:(Jq D T).2.2 with
    |some x=>
     simp only[bl]at C
     cases C
    |none=>exact⟨R,Z,T,rfl,bl⟩
   rw[bj]at C
   cases C
  rw[if_neg R]at C
  cases C
 have cK:((g.toNat:Nat):Int)=g:=by omega
 have cM:Jqy W.drew s d F G D Ts sv bs name E K bc M y hs xs rs g.toNat:=
  ⟨cr,R.1,R.2.1,by omega,by omega,bh.below bi,fun hf=>Z (.inl hf),by omega,cc.below bi,fun k z=>Oc2 (U k (A k (z.elim .inl fun a=>.inr (.inl a)))) bi.size,cf,ch,ci,fun b o cH hf=>cn b o cH (A b (.inl hf)),cQ,cE⟩
 have cz:=bC.m.cq
 have cA:=bC.m.cw
 have cv:¬ F 6:=fun hf=>cB (A _ (.inl hf))
 have cx:¬ F 7:=fun hf=>cC (A _ (.inl hf))
 have cO:Jbd D Ts name y hs rs g=.ok (Jq D T).1 ⟨name,y,rs.length,g.toNat,(Jq D T).2.1⟩:=by unfold Jbd;rw[if_pos R,if_neg Z,bj];simp only;rw[bl]
 rw[cO]
 have hL:=Ked s d F G D Ts sv bs name E K bc ct M bA y hs xs rs g.toNat W.drew cM bO bP bQ bC.e T bj q wr cz cA cv cx bl
 rw[cK]at hL
 have dg:=O.size
 have bn:∀ k,F k∨Jnr s sv k→H k:=fun k z=>z.elim (fun a=>A k (.inl a)) fun a=>A k (.inr (.inr (.inl a)))
 have cb:¬ (F st∨Jnr s sv st):=fun h=>h.elim bT fun a=>a.elim bU bS
 refine(bR (fun k=>F k∨Jnr s sv k) (fun k z=>U k (bn k z)) cb 0 (-1) (-1) (-1) (fun bu=>Jdl W.drew s d F G D Ts sv bs name y rs g.toNat T bu) (hL.mono fun e bu ⟨bD,z⟩=>⟨_,bD,⟨z.1.os,z.1.tape,z.1.output,z.1.size,z.1.block⟩,z,Jjq bu⟩)).mono fun e w' ⟨bD,bu,⟨_,FD,bx,sv',dc,cJ,ca,bE,bH,bZ,cG,cP,cV,bM⟩,z,X⟩=>⟨bD,Jn8 O z X (by omega) bn,fun k=>H k∨FD k∨bx k∨Jnr s sv' k,?_,fun k z=>.inl z,?_⟩
 ·have bY:Ju (fun k=>F k∨Jnr s sv k) w w':=Jn8 O z X (by omega) (fun _ h=>h)
  have cT:st<w.heap.size:=U st (A st (.inr (.inr (.inr rfl))))
  have cy:∀ k,G k→k<w.heap.size:=fun k bG=>U k (A k (.inr (.inl bG)))
  have bL:∀ k,Jnr s sv k→k<w.heap.size:=fun k bK=>U k (A k (.inr (.inr (.inl bK))))
  have cu:∀ k,F k→k<w.heap.size:=fun k hf=>U k (A k (.inl hf))
  have cF:W.drew.heap.size=w.heap.size+2:=bX
  have cW:∀ k,FD k→k≠w.heap.size+1:=fun k hf e=>by
   rcases bE k hf with a|a
   ·have:=cu k a;omega
   omega
  have cX:∀ k,bx k→k≠w.heap.size+1:=fun k hf e=>by
   rcases bH k hf with a|a
   ·have:=cy k a;omega
   omega
  have cY:∀ k,Jnr s sv' k→k≠w.heap.size+1:=fun k bK e=>by
   rcases bK with a|a
   ·have:=bL s (.inl rfl);omega
   rcases bM k a with b|b
   ·have:=bL k (.inr b);omega
   omega
  refine⟨⟨d,s,FD,bx,sv',bs++[dc],?_,ca.stands X.size fun k cN bI=>X.block k bI (cN.elim (cX k) (cY k)),cJ.stands fun k hf bI=>X.block k bI (cW k hf),cG,cP,cV,fun hf=>?_,fun bG=>?_,bU,fun cU=>?_,?_⟩,?_⟩
  ·unfold Jdu at bf ⊢
   rw[bY.block st cT cb]
   exact bf
  ·rcases bE st hf with a|a
   ·exact bT a
   omega
  ·rcases bH st bG with a|a
   ·exact cj a
   omega
  ·rcases bM st cU with a|a
   ·exact bS a
   omega
  ·rintro k (a|a|a|a)
   ·exact .inr (.inl a)
   ·exact .inr (.inr (.inl a))
   ·exact .inr (.inr (.inr a))
   exact .inl (A k (.inr (.inr (.inr a))))
  have dr:=X.size
  have ds:=bY.size
  rintro k (a|a|a|a)
  ·have:=U k a;omega
  ·have:=bZ k (.inl a);omega
  ·have:=bZ k (.inr a);omega
  rcases a with a|a
  ·have:=bL s (.inl rfl);omega
  have:=Qk ca.own a;omega
 have cF:W.drew.heap.size=w.heap.size+2:=bX
 rintro k (a|a|a|a)
 ·exact .inl a
 ·rcases bE k a with b|b
  ·exact .inl (A k (.inl b))
  exact .inr (by omega)
 ·rcases bH k a with b|b
  ·exact .inl (A k (.inr (.inl b)))
  exact .inr (by omega)
 rcases a with a|a
 ·exact .inl (A k (.inr (.inr (.inl (.inl a)))))
 rcases bM k a with b|b
 ·exact .inl (A k (.inr (.inr (.inl (.inr b)))))
 exact .inr (by omega)
end Go.Proofs.YtjjdldddcegjiaaGreatDoor
namespace Go.Proofs.YtjjdldddcegjiaaGreatDoor
open Go.RowKit Go.Shelf Tryz
theorem Kcc (H:Nat→Prop)(st:Nat)(y:DS)(Ts:List TS)(n:ByteArray)(w:World)(h:Sto H w st y Ts)(R:∀ T∈Ts,Jid y T)(z A C E q wr pg U ex X:Addr)(D:Jax w z A C E q wr pg U ex X) :
  Calls prog 35 #[.pointer (some ⟨st,0,none⟩),.string n] w fun e w'=>Jr7 w (Jf8 y Ts n) e w':=by
 obtain⟨⟨d,s,F,G,sv,bs,K,M,O,bc,bf,bh,bi,bj,bl,Z,bn⟩,br⟩:=h
 exact Kej st n w F G s d y Ts sv bs K M O R z A C E q wr pg D.e D.m
end Go.Proofs.YtjjdldddcegjiaaGreatDoor
namespace Go.Proofs.YtjjdldddcegjiaaGreatDoor
open Go.RowKit
def Jex (rs:List (List V))(m o p k:Nat):List (List V):=rs.mapIdx fun i r=>if i<o then r else if i<o+p then r.take k++List.replicate (m-k) Jf else List.replicate m Jf
theorem Jv4 (rs:List (List V))(m p:Nat):Jex rs m 0 p 0=List.replicate rs.length (List.replicate m Jf):=by
 apply Oi8
 intro i
 rw[Jex,Oh8,Of3]
 by_cases hi:i<rs.length
 ·rw[if_pos hi,Oa3 hi]
  simp
 rw[if_neg hi,Ob4 (by omega)]
 rfl
theorem Kac (rs:List (List V))(m o p A E:Nat)(D:∀ r∈rs,r.length=m)(h:∀ i,i<rs.length→(i<o+p↔i<A)):Jex rs m o p m=Jex rs m A E 0:=by
 apply Oi8
 intro i
 rw[Jex,Jex,Oh8,Oh8]
 by_cases hi:i<rs.length
 ·rw[Oa3 hi]
  simp only[Option.map_some]
  have C:=D _ (Ob3 hi)
  have:=h i hi
  by_cases y:i<o
  ·rw[if_pos y,if_pos (by omega)]
  rw[if_neg y]
  by_cases z:i<o+p
  ·rw[if_pos z,if_pos (by omega)]
   simp[←C]
  rw[if_neg z,if_neg (by omega)]
  simp
 rw[Ob4 (by omega)]
 rfl
theorem Kb8 (rs:List (List V))(m o p:Nat)(h:rs.length≤o):Jex rs m o p 0=rs:=by
 apply Oi8
 intro i
 rw[Jex,Oh8]
 by_cases hi:i<rs.length
 ·rw[Oa3 hi]
  simp only[Option.map_some]
  rw[if_pos (by omega)]
 rw[Ob4 (by omega)]
 rfl
theorem Kh7 (L:List V)(c n:Nat)(u:V)(hL:L.length=c)(A:c<n):(L++List.replicate (n-c) Jf).set c u=L++[u]++List.replicate (n-(c+1)) Jf:=by
 obtain⟨d,y⟩:∃ d,n-c=d+1:=⟨n-c-1,by omega⟩
 have z:n-(c+1)=d:=by omega
 rw[y,z,List.replicate_succ,Ok4 _ _ (by omega),hL,Oe1,List.set_cons_zero]
 simp
theorem Kam (rs:List (List V))(m o p k:Nat)(E:∀ r∈rs,r.length=m)(A:k<m)(O:o+p≤rs.length):Ji6 (Jex rs m o p k) o k (Jaj (Uk rs (o,p)) k)=Jex rs m o p (k+1):=by
 have K:(Jaj (Uk rs (o,p)) k).length=p:=by simp[Jaj,Uk];omega
 apply Oi8
 intro i
 rw[Ji6,Oh8,Jex,Jex,Oh8,Oh8,K]
 by_cases hi:i<rs.length
 ·rw[Oa3 hi]
  simp only[Option.map_some]
  have D:=E _ (Ob3 hi)
  by_cases z:i<o
  ·rw[if_pos z,if_neg (by omega),if_pos z]
  rw[if_neg z,if_neg z]
  by_cases y:i<o+p
  ·rw[if_pos y,if_pos ⟨by omega,y⟩,if_pos y]
   have H:(Jaj (Uk rs (o,p)) k).getD (i-o) Jf=rs[i][k]:=by
    have M:(Uk rs (o,p))[i-o]?=some rs[i]:=by
     simp only[Uk]
     rw[Oh3 (by omega),Oh9,show o+(i-o)=i by omega,Oa3 hi]
    have C:(Jaj (Uk rs (o,p)) k)[i-o]?=some (rs[i].getD k Jf):=by
     simp only[Jaj,Ob1,M,Option.map_some]
    rw[Oa0,C]
    simp[D,A]
   rw[H,Kh7 _ k m _ (by simp;omega) A,Oc4 (by omega)]
  rw[if_neg y,if_neg (by omega),if_neg y]
 rw[Ob4 (by omega)]
 rfl
theorem Joo (y:DS)(rs:List (List V))(m:Nat)(z:List (List Nat))(A:List Int)(x:Nat×Nat)(D:∀ r∈rs,r.length=m)(C:x.1+x.2≤rs.length)(E:∀ c,c<m→Us y (z.getD c []) (A.getD c 0) x.2=.inl (Jaj (Uk rs x) c)) :
  ∀ k,k≤m→Jil y z A x (Jex rs m x.1 x.2 0) k=.inl (Jex rs m x.1 x.2 k)
 |0,_=>rfl
 |k+1,H=>by
  simp only[Jil,Joo y rs m z A x D C E k (by omega),E k (by omega)]
  exact congrArg _ (Kam rs m x.1 x.2 k D (by omega) C)
theorem Jjr (len g j:Nat)(D:1≤g)(y:j<ckN len g):(Jaa len g j).1+(Jaa len g j).2≤len∧1≤(Jaa len g j).2∧∀ i,i<len→(i<(Jaa len g j).1+(Jaa len g j).2↔i<(Jaa len g (j+1)).1):=by
 have A:j*g<len:=by
  unfold ckN at y
  have z:(j+1)*g≤(len+g-1) / g*g:=Om8 g y
  have C:=Nat.div_mul_le_self (len+g-1) g
  rw[Of5]at z
  omega
 simp only[Jaa]
 rw[Of5]
 exact⟨by omega,by omega,fun i hi=>by omega⟩
theorem Jxu (len g:Nat)(A:1≤g):len≤(Jaa len g (ckN len g)).1:=by
 simp only[Jaa,ckN]
 have h:=Nat.div_add_mod (len+g-1) g
 have y:=Ol0 (len+g-1) (show g>0 by omega)
 have z:g*((len+g-1) / g)=(len+g-1) / g*g:=Nat.mul_comm _ _
 omega
theorem Joa (z:DS)(rs:List (List V))(y:List Int)(C:List (List Nat))(g:Nat)(D:1≤g)(A:∀ r∈rs,r.length=y.length)
  (E:∀ j c,j<ckN rs.length g→c<y.length→Us z (C.getD (j*y.length+c) []) (y.getD c 0) (Jaa rs.length g j).2=.inl (Jaj (Uk rs (Jaa rs.length g j)) c)) :
  ∀ k,k≤ckN rs.length g→∃ p,(Jkh z y C (List.replicate rs.length (List.replicate y.length Jf)) (cks rs.length g k)).1=.inl (Jex rs y.length (Jaa rs.length g k).1 p 0)
 |0,_=>⟨0,by
  show Sum.inl _=Sum.inl _
  rw[←Jv4 rs y.length 0]
  simp[Jaa]⟩
 |k+1,X=>by
  obtain⟨p,R⟩:=Joa z rs y C g D A E k (by omega)
  obtain⟨H,U,K⟩:=Jjr rs.length g k D (by omega)
  rw[Jbj,Jm6]
  simp only[Jox]
  rw[R,Jme,Jbp]
  have O:Jex rs y.length (Jaa rs.length g k).1 p 0=Jex rs y.length (Jaa rs.length g k).1 (Jaa rs.length g k).2 0:=by
   apply Oi8
   intro i
   rw[Jex,Jex,Oh8,Oh8]
   cases rs[i]? with
   |none=>rfl
   |some r=>simp
  refine⟨0,?_⟩
  simp only
  rw[O,Joo z rs y.length _ y _ A H (fun c M=>?_) y.length (Oa2 _)]
  ·exact congrArg _ (Kac rs y.length _ _ _ 0 A K)
  rw[←E k c (by omega) M]
  congr 1
  simp[List.getD_eq_getElem?_getD,List.getElem?_drop]
theorem Jov (rows:List (List V))(y hs:List Int):∀ (k:Nat) (l:List (List UInt8)),Jeo rows y hs k=.inl l→∀ c,c<k→l[c]?=some (Uo rows y hs c).1∧(Uo rows y hs c).2=0
 |0,l,h,c,C=>by omega
 |k+1,l,h,c,C=>by
  simp only[Jeo]at h
  split at h
  ·simp at h
  rename_i A z
  split at h
  ·rename_i h0
   simp at h
   subst h
   have D:=Jjc rows y hs k A z
   by_cases e:c=k
   ·subst e
    rw[Ob6 (by omega)]
    simp[D,h0]
   rw[Ob0 (by omega)]
   exact Jov rows y hs k A z c (by omega)
  simp at h
theorem Jpd (rs:List (List V))(y hs:List Int)(len g:Nat):∀ (n:Nat) (T:List (List UInt8)),Jfg rs y hs (cks len g n)=.inl T→∀ j c,j<n→c<y.length→T[j*y.length+c]?=some (Uo (Uk rs (Jaa len g j)) y hs c).1∧(Uo (Uk rs (Jaa len g j)) y hs c).2=0
 |0,T,h,j,c,H,_=>by omega
 |n+1,T,h,j,c,H,C=>by
  rw[Jbj,Juv]at h
  simp only[Jiu]at h
  split at h
  ·simp at h
  rename_i z A
  split at h
  ·rename_i l K
   simp at h
   subst h
   have D:=(Jte rs y hs _ z A).1
   rw[Jbp]at D
   by_cases e:j=n
   ·subst e
    rw[Ob6 (by omega),D,Nat.add_sub_cancel_left]
    exact Jov _ y hs _ l K c C
   have E:(j+1)*y.length≤n*y.length:=Om8 _ (by omega)
   rw[Of5]at E
   rw[Ob0 (by omega)]
   exact Jpd rs y hs len g n z A j c (by omega) C
  simp at h
theorem Kjs {l:List Int}{c:Nat}(h:c<l.length):l.getD c 0∈l:=by
 rw[show l.getD c 0=l[c] by simp[h]]
 exact Ob3 _
theorem Kkg {name:ByteArray}{y hs:List Int}{rs:List (List V)}{g:Nat}{T:List (List UInt8)}(U:Jel name y rs)(Z:hs.length=y.length)(hW:∀ x∈hs,Kjk x)(A:Jfg rs y hs (cks rs.length g (ckN rs.length g))=.inl T):∀ t∈T,Kje t:=by
 intro t R t' bc bf bh z
 obtain⟨i,hi,rfl⟩:=Od5 R
 have D:=(Jte rs y hs _ T A).1
 rw[Jbp]at D
 have h0:0<y.length:=U.2.1.1.1
 have K:=Nat.div_add_mod i y.length
 have M:=Ol0 i h0
 have O:i / y.length<ckN rs.length g:=(Nat.div_lt_iff_lt_mul h0).2 (by omega)
 obtain⟨C,X⟩:=Jpd rs y hs rs.length g _ T A _ _ O M
 rw[Nat.mul_comm,K,Oa3 hi,Oc9]at C
 have E:Jev (y.getD (i % y.length) 0) (hs.getD (i % y.length) 0) (Jaj (Uk rs (Jaa rs.length g (i / y.length))) (i % y.length))=(T[i],0):=Prod.ext C.symm X
 obtain⟨_,_,_,_,e,H⟩:=Kja E
 rw[H]at z
 simp only[Oc9,Oj3]at z
 rw[←z.1.2.1,e]
 exact hW _ (Kjs (by omega))
theorem Jqv (A:DS)(name:ByteArray)(y hs:List Int)(rs:List (List V))(g:Nat)(T:List (List UInt8))(z:List (List Nat))(U:Jel name y rs)(E:1≤g)(bl:∀ r∈rs,∀ v∈r,Jg v.n)(bc:∀ x∈hs,Kkn x)(bB:hs.length=y.length)
  (br:Jfg rs y hs (cks rs.length g (ckN rs.length g))=.inl T) (bC:z.length=T.length) (bj:∀ (i:Nat) (Z:i<z.length) (bA:i<T.length),Jan A z[i] T[i]) :
  Jgp A ⟨name,y,rs.length,g,z⟩=.inl rs:=by
 have D:∀ r∈rs,r.length=y.length:=fun r D=>by
  obtain⟨i,hi,rfl⟩:=Od5 D
  exact(U.2.2.2 i hi).1
 have H:∀ j c,j<ckN rs.length g→c<y.length→Us A (z.getD (j*y.length+c) []) (y.getD c 0) (Jaa rs.length g j).2=.inl (Jaj (Uk rs (Jaa rs.length g j)) c):=by
  intro j c K C
  obtain⟨bf,h0⟩:=Jpd rs y hs rs.length g _ T br j c K C
  obtain⟨bi,bh⟩:=Ob9.1 bf
  have M:j*y.length+c<z.length:=by omega
  have R:=(bj _ M bi).read
  rw[bh]at R
  obtain⟨Z,_,_⟩:=Jjr rs.length g j E K
  have bz:(Uk rs (Jaa rs.length g j)).length=(Jaa rs.length g j).2:=by simp[Uk];omega
  have bu:=Ki9 (y.getD c 0) (hs.getD c 0) (bc _ (Kjs (by omega))) (Jaj (Uk rs (Jaa rs.length g j)) c) (Uo (Uk rs (Jaa rs.length g j)) y hs c).1 (by
   unfold Uo at h0 ⊢
   exact Prod.ext rfl h0) (fun v H=>by
    obtain⟨r,bx,rfl⟩:=Of0.1 H
    have O:r∈rs:=Oh7 (Om9 bx)
    have bn:=D r O
    have:r.getD c Jf=r[c]:=by simp[bn,C]
    rw[this]
    exact bl r O _ (Ob3 _))
  unfold Us
  rw[show z.getD (j*y.length+c) []=z[j*y.length+c] by simp[M],R]
  simp only[bu]
  have X:Jnd (y.getD c 0)=true:=by
   have:=U.2.1.2 c C
   simpa [C] using this
  unfold Jnd at X
  simp only[decide_eq_true_iff]at X
  rw[if_pos ⟨by omega,by rw[←bz];simp[Jaj]⟩]
 obtain⟨p,h⟩:=Joa A rs y z g E D H (ckN rs.length g) (Oa2 _)
 unfold Jgp
 simp only
 rw[h,Kb8 rs y.length _ _ (Jxu rs.length g E)]
end Go.Proofs.YtjjdldddcegjiaaGreatDoor
namespace Go.Proofs.YtjjdldddcegjiaaGreatDoor
open Go.RowKit
theorem Jmw:∀ (ps:List (List UInt8))(y:DS),((Js y.pages:Nat):Int)≤y.quota→(Uy y ps).2.2=none→((Js (Uy y ps).1.pages:Nat):Int)≤y.quota
 |[],y,h,_=>by simpa [Uy] using h
 |p::ps,y,h,hn=>by
  unfold Uy at hn ⊢
  by_cases z:y.quota≤((Js y.pages:Nat):Int)
  ·rw[if_pos z]at hn;simp at hn
  rw[if_neg z]at hn ⊢
  by_cases A:wrap64 (y.writes+1)=y.fail
  ·rw[if_pos A]at hn;simp at hn
  rw[if_neg A]at hn ⊢
  have:=Jmw ps (Zn y p) (by rw[Jm8];show _≤y.quota;omega) hn
  exact this
theorem Jh1:∀ (z:List (List UInt8))(y:DS),((Js y.pages:Nat):Int)≤y.quota→(Jq y z).2.2=none→((Js (Jq y z).1.pages:Nat):Int)≤y.quota
 |[],y,h,_=>by simpa [Jq] using h
 |t::z,y,h,hn=>by
  have A:=Jmw (Qu t) y h
  have C:=(Jc1 (Qu t) y).1
  unfold Jq at hn ⊢
  rcases hr:Uy y (Qu t)with⟨E,l,r⟩
  rw[hr]at hn A C
  cases r with
  |none=>
   have D:E.quota=y.quota:=(C rfl).quota
   have:=Jh1 z E (by rw[D];exact A rfl) hn
   rw[D]at this
   exact this
  |some x=>simp at hn
theorem Jhk:∀ (z:List (List UInt8))(y:DS),(Jq y z).1.pages.length≤y.pages.length+Jch z
 |[],y=>by simp[Jq,Jch]
 |t::z,y=>by
  have A:=(Jrh (Qu t) y).1
  unfold Jq
  rcases hr:Uy y (Qu t)with⟨E,l,r⟩
  rw[hr]at A
  rw[Ja1]
  cases r with
  |none=>
   have:=Jhk z E
   simp only at A this ⊢
   omega
  |some x=>
   simp only at A ⊢
   rw[Jrz]
   omega
structure Jer (D:DS) (T:TS) (rs:List (List V)):Prop where
 cols:1≤T.types.length∧T.types.length≤6
 rows:T.rows≤200
 group:1≤T.group∧T.group≤64
 count:T.segs.length=ckN T.rows T.group*T.types.length
 texts:∃ X:List (List UInt8),X.length=T.segs.length∧(∀ t∈X,t≠[]∧t.length≤6100∧Kje t)∧(∀ (i:Nat) (h1:i<T.segs.length) (h2:i<X.length),Jan D T.segs[i] X[i])∧(∀ E:DS,(∀ (i:Nat) (h1:i<T.segs.length) (h2:i<X.length),Jan E T.segs[i] X[i])→Jgp E T=.inl rs)
theorem Jer.read {y:DS}{T:TS}{rs:List (List V)}(h:Jer y T rs):Jgp y T=.inl rs:=by
 obtain⟨C,_,_,z,A⟩:=h.texts
 exact A y z
theorem Jer.keep {y z:DS}{T:TS}{rs:List (List V)}(h:Jer y T rs)(M:∀ i∈T.segs.flatten,pg z i=pg y i):Jer z T rs:=by
 obtain⟨A,C,D,E,H⟩:=h.texts
 exact⟨h.cols,h.rows,h.group,h.count,A,C,D,fun i hi K=>(E i hi K).keep fun k O=>M k (List.mem_flatten.2 ⟨_,Ob3 hi,O⟩),H⟩
theorem Jer.seg {z:DS}{T:TS}{rs:List (List V)}(h:Jer z T rs):∀ l∈T.segs,∃ t,t≠[]∧t.length≤6100∧Jan z l t∧Kje t:=by
 intro l E
 obtain⟨A,H,C,D,K⟩:=h.texts
 obtain⟨i,hi,rfl⟩:=Od5 E
 have y:=C _ (Ob3 (show i<A.length by omega))
 exact⟨_,y.1,y.2.1,D i hi (by omega),y.2.2⟩
theorem Jx9 {y:DS}{l:List Nat}{t:List UInt8}(h:Jan y l t)(C:t≠[])(E:t.length≤6100):l≠[]∧l.length≤1000:=by
 have D:=Jio t
 have z:=h.1
 have A:=Jy1 C
 refine⟨fun e=>A (Od3.1 ?_),by omega⟩
 rw[←z,e];rfl
theorem Jer.inuse {y:DS}{T:TS}{rs:List (List V)}(h:Jer y T rs):∀ i∈T.segs.flatten,∃ p,pg y i=some p:=by
 intro i hi
 obtain⟨l,D,A⟩:=List.mem_flatten.1 hi
 obtain⟨t,_,_,⟨E,z⟩,_⟩:=h.seg l D
 obtain⟨k,C,rfl⟩:=Od5 A
 exact⟨_,z k C (by omega)⟩
theorem Jer.ok {D:DS}{T:TS}{rs:List (List V)}(h:Jer D T rs):Jid D T:=by
 refine⟨h.cols,h.rows,h.group,h.count,fun l A=>?_,fun l A t C=>?_⟩
 ·obtain⟨t,y,E,z,_⟩:=h.seg l A
  exact Jx9 z y E
 obtain⟨t',y,E,z,H⟩:=h.seg l A
 rw[z.read]at C
 simp at C
 rw[←C]
 exact⟨y,H⟩
structure Jbc (D:DS) (L:List (TS×List (List V))):Prop where
 tab:∀ x∈L,Jer D x.1 x.2
 nodup:(L.flatMap fun x=>x.1.segs.flatten).Nodup
 all:∀ i p,pg D i=some p→i∈L.flatMap fun x=>x.1.segs.flatten
 used:Js D.pages=(L.flatMap fun x=>x.1.segs.flatten).length
 writes:0≤D.writes
theorem Jbc.empty (q f:Int):Jbc (Ku q f) []:=
 ⟨by simp,by simp,fun i p h=>by simp[pg,Ku]at h,by simp[Ku,Js],by simp[Ku]⟩
theorem Jbc.same {z y:DS}{L:List (TS×List (List V))}(h:Jbc z L)(hs:Kft z y)(C:0≤y.writes):Jbc y L:=
 ⟨fun x D=>(h.tab x D).keep fun i _=>hs.pages i,h.nodup,fun i p A=>h.all i p (by rw[←hs.pages];exact A),hs.used.trans h.used,C⟩
theorem Kg4 (n g:Nat)(z:1≤g):ckN n g≤n:=by
 unfold ckN
 exact Nat.le_of_lt_succ ((Nat.div_lt_iff_lt_mul (by omega)).2 (by
  have:n+1≤(n+1)*g:=On4 _ (by omega)
  rw[Of5]at this ⊢
  have y:n≤n*g:=On4 _ (by omega)
  omega))
theorem Jtr {name:ByteArray}{y hs:List Int}{rs:List (List V)}{g:Int}{T:List (List UInt8)}(C:Jel name y rs∧Je3 y hs∧1≤g∧g≤64)(H:Jfg rs y hs (cks rs.length g.toNat (ckN rs.length g.toNat))=.inl T) :
  T.length=ckN rs.length g.toNat*y.length∧(∀ t∈T,t.length≤6100∧t≠[])∧Jch T≤660*rs.length∧(T=[]↔rs=[]):=by
 obtain⟨z,A⟩:=Jte rs y hs _ T H
 rw[Jbp]at z
 have M:=Joc T fun t K=>(A t K).1
 have D:=Kg4 rs.length g.toNat (by omega)
 have E:y.length≤6:=C.1.2.1.1.2
 have R:1≤y.length:=C.1.2.1.1.1
 have O:ckN rs.length g.toNat*y.length≤rs.length*6:=Ol5 D E
 refine⟨z,A,by omega,⟨fun e=>?_,fun e=>?_⟩⟩
 ·subst e
  have h0:ckN rs.length g.toNat=0:=by
   rcases Nat.mul_eq_zero.1 z.symm with h|h
   ·exact h
   omega
  have:=Jxu rs.length g.toNat (by omega)
  simp only[Jaa,h0]at this
  exact Od3.1 (by omega)
 subst e
 have h0:ckN ([]:List (List V)).length g.toNat=0:=by unfold ckN;exact Op6 (by simp;omega)
 rw[h0]at z
 exact Od3.1 (by omega)
theorem Kjy {y D:DS}{L:List (TS×List (List V))}{Ts:List TS}{name:ByteArray}{bj hs:List Int}{rs:List (List V)}{g:Int}{T:TS}(hW:∀ x∈hs,Kjk x∧Kkn x)(H:Jbc y L)(bC:∀ r∈rs,∀ v∈r,Jg v.n)(bP:y.writes≤1000000000)(h:Jbd y Ts name bj hs rs g=.ok D T) :
  Jbc D (L++[(T,rs)])∧T.name=name∧Js D.pages=Js y.pages+T.segs.flatten.length∧(T.segs.flatten=[]↔rs=[])∧D.quota=y.quota∧D.fail=y.fail∧D.pages.length≤y.pages.length+660*rs.length∧D.writes≤y.writes+660*rs.length∧(((Js y.pages:Nat):Int)≤y.quota→((Js D.pages:Nat):Int)≤y.quota)∧y.writes≤D.writes∧(Ub Ts name=Ts.length):=by
 unfold Jbd at h
 split at h
 ·rename_i K
  split at h
  ·simp at h
  rename_i bO
  split at h
  ·simp at h
  rename_i C R
  split at h
  ·simp at h
  rename_i hn
  simp only[Sum.inr.injEq,Oj3]at h
  obtain⟨rfl,rfl⟩:=h
  obtain⟨bJ,Z,bR,bi⟩:=Jtr K R
  have z:=Jjv C y hn
  have bE:=Jh1 C y
  have bN:=Jhk C y
  have bG:rs.length≤200:=K.1.2.2.1
  have bI:=Jd9 C y H.writes (by omega)
  generalize bL:(Jq y C).1=D at *
  generalize hR:(Jq y C).2.1=E at *
  have bM:=Kdk Ts name
  have bQ:=H.writes
  refine⟨⟨?_,?_,?_,?_,by omega⟩,rfl,z.used,⟨fun e=>?_,fun e=>?_⟩,z.quota,z.fail,by omega,by omega,fun bB=>bE bB hn,bI.1.1,by omega⟩
  ·intro x A
   rcases Od2.1 A with A|A
   ·refine(H.tab x A).keep fun i hi=>z.other i fun O=>?_
    obtain⟨p,M⟩:=(H.tab x A).inuse i hi
    rw[z.free i O]at M
    simp at M
   simp at A
   subst A
   refine⟨⟨K.1.2.1.1.1,K.1.2.1.1.2⟩,bG,⟨by show 1≤g.toNat;omega,by show g.toNat≤64;omega⟩,by show E.length=_;rw[z.len,bJ],C,z.len.symm,fun t X=>⟨(Z t X).2,(Z t X).1,Kkg K.1 K.2.1.1 (fun x A=>(hW x A).1) R t X⟩,fun i bn bK=>z.segs i bn,fun bl br=>Jqv bl name bj hs rs g.toNat C E K.1 (by omega) bC (fun x A=>(hW x A).2) K.2.1.1 R z.len br⟩
  ·rw[Oe8]
   refine Op3.2 ⟨H.nodup,by simpa using z.nodup,fun a bu b bc e=>?_⟩
   subst e
   simp at bc
   obtain⟨x,A,bz⟩:=Op5.1 bu
   obtain⟨p,M⟩:=(H.tab x A).inuse a bz
   have bA:a∈E.flatten:=by
    obtain⟨l,bD,bx⟩:=bc
    exact List.mem_flatten.2 ⟨l,bD,bx⟩
   rw[z.free a bA]at M
   simp at M
  ·intro i p M
   rw[Oe8]
   by_cases O:i∈E.flatten
   ·exact Od2.2 (.inr (by simpa using O))
   rw[z.other i O]at M
   exact Od2.2 (.inl (H.all i p M))
  ·rw[z.used,H.used,Oe8,Oa8]
   simp
  ·have U:C=[]:=by
    rcases C with _|⟨t,C⟩
    ·rfl
    ·exfalso
     rcases E with _|⟨l,E⟩
     ·have:=z.len;simp at this
     have bH:=z.segs 0 (by simp)
     have bh:=Z t (by simp)
     have:=(Jx9 bH bh.2 bh.1).1
     simp at e
     exact this (by simpa using e.1)
   exact bi.1 U
  have U:=bi.2 e
  have bf:=z.len
  rw[U]at bf
  have:E=[]:=Od3.1 (by simpa using bf)
  show E.flatten=[]
  rw[this];rfl
 simp at h
theorem Jz8 {y z:DS}{L:List (TS×List (List V))}{Ts:List TS}{name:ByteArray}{X hs:List Int}{rs:List (List V)}{g:Int}{x:Bool}(D:Jbc y L)(bh:y.writes≤1000000000)(h:Jbd y Ts name X hs rs g=.disk x z) :
  Jbc z L∧Kft y z∧rs≠[]∧(x=true→y.quota≤((Js y.pages+660*rs.length:Nat):Int))∧(x=false→z.writes=y.fail∧y.writes<z.writes)∧z.pages.length≤y.pages.length+660*rs.length∧z.writes≤y.writes+660*rs.length∧y.writes≤z.writes:=by
 unfold Jbd at h
 split at h
 ·rename_i H
  split at h
  ·simp at h
  split at h
  ·simp at h
  rename_i A R
  split at h
  ·rename_i Z hn
   simp only[Sum.inr.injEq,Sum.inl.injEq,Oj3]at h
   obtain⟨rfl,rfl⟩:=h
   obtain⟨bj,bl,bn,U⟩:=Jtr H R
   obtain⟨E,M,O⟩:=Jj4 A y Z hn
   have bf:rs.length≤200:=H.1.2.2.1
   have K:=Jd9 A y D.writes (by omega)
   have C:=(Jdn (Jq y A).2.1 (Jq y A).1).2.2
   have bc:=Jhk A y
   have bi:=D.writes
   refine⟨D.same E (by rw[C];omega),E,fun e=>M (U.2 e),fun e=>?_,fun e=>?_,by rw[Jt4];omega,by rw[C];omega,by rw[C];exact K.1.1⟩
   ·have:=O e;omega
   subst e
   rw[C]
   exact K.2.1 hn
  simp at h
 simp at h
theorem Jla (rows:List (List V))(y hs:List Int)(c:Nat):∀ (k:Nat),Jeo rows y hs k=.inr c→c<k∧(Uo rows y hs c).2≠0
 |0,h=>by simp[Jeo]at h
 |k+1,h=>by
  simp only[Jeo]at h
  split at h
  ·rename_i z A
   simp at h
   subst h
   have:=Jla rows y hs z k A
   exact⟨by omega,this.2⟩
  split at h
  ·simp at h
  rename_i h0
  simp at h
  subst h
  exact⟨by omega,h0⟩
theorem Ju4 (rs:List (List V))(y hs:List Int)(c:Nat):∀ (xs:List (Nat×Nat)),Jfg rs y hs xs=.inr c→∃ x∈xs,c<y.length∧(Uo (Uk rs x) y hs c).2≠0:=by
 intro xs
 have O:∀ (xs:List (Nat×Nat)) (T:List (List UInt8)),xs.foldl (Jiu rs y hs) (.inl T)=.inr c→∃ x∈xs,c<y.length∧(Uo (Uk rs x) y hs c).2≠0:=by
  intro xs
  induction xs with
  |nil=>intro T h;simp at h
  |cons x xs C=>
   intro T h
   rw[List.foldl_cons]at h
   simp only[Jiu]at h
   split at h
   ·obtain⟨D,M,E⟩:=C _ h
    exact⟨D,by simp[M],E⟩
   rename_i A K
   have H:∀ z:List (Nat×Nat),z.foldl (Jiu rs y hs) (.inr A)=.inr A:=by
    intro z
    induction z with
    |nil=>rfl
    |cons D z C=>exact C
   rw[H]at h
   simp at h
   subst h
   exact⟨x,by simp,Jla _ y hs A _ K⟩
 exact O xs []
theorem Jy3 {K:DS}{Ts:List TS}{name:ByteArray}{H hs:List Int}{rs:List (List V)}{g:Int}{c:Nat}(h:Jbd K Ts name H hs rs g=.dict c):c<hs.length∧hs.getD c 0=1∧16<rs.length:=by
 unfold Jbd at h
 split at h
 ·rename_i C
  split at h
  ·simp at h
  split at h
  ·rename_i y O
   simp only[Sum.inr.injEq,Sum.inl.injEq]at h
   subst h
   obtain⟨x,Z,M,z⟩:=Ju4 rs H hs y _ O
   obtain⟨j,E,rfl⟩:=Of0.1 Z
   rw[Oj4]at E
   obtain⟨bc,bf,_⟩:=Jjr rs.length g.toNat j (by omega) E
   have X:=C.2.1.1
   refine⟨by omega,?_⟩
   have A:=Jqm C.1 (rows:=Uk rs (Jaa rs.length g.toNat j)) (hs:=hs) (fun r U=>Oh7 (Om9 U)) (by simp only[Uk,Oc7,Of7,Jaa];omega) y M X C.2.1.2
   have bh:(Jaj (Uk rs (Jaa rs.length g.toNat j)) y).length≤rs.length:=by simp[Jaj,Uk];omega
   unfold Uo Jev at z A
   split at z
   ·rename_i D
    rw[if_pos D]at A
    split at z
    ·rename_i R
     have u1:=Jk0 (Jz (Jaj (Uk rs (Jaa rs.length g.toNat j)) y)) []
     have u2:=Zy (Jaj (Uk rs (Jaa rs.length g.toNat j)) y)
     simp only[List.length_nil,Od0]at u1
     exact⟨R.1,by omega⟩
    exact absurd rfl z
   rename_i D
   rw[if_neg D]at A
   simp at A
  split at h<;>simp at h
 simp at h
end Go.Proofs.YtjjdldddcegjiaaGreatDoor
namespace Go.Proofs.YtjjdldddcegjiaaGreatDoor
open Go.RowKit Go.Shelf Tryz
theorem Jen (w:World):Calls prog 7 #[] w fun e w'=>e=.returned (.agg #[.int .i64 1048576,.int .i64 0])∧Below w.heap.size w w':=by
 go_enter func7,ntmps7
 go_wp2
 exact bodyPost_ret (v:=.agg #[.int .i64 1048576,.int .i64 0]) (by simp[results,results7,go_sem]) rfl ⟨rfl,(Oa5 _ w).alloc (Oa2 _) _⟩
structure Uw (w:World) (name:ByteArray) (at_ ar:Option Addr) (cr:Nat) (ts:List Int) (xs:List (Option Addr×Nat)) (rs:List (List V)):Prop where
 tab:Jel name ts rs
 tok:∀ t∈ts,tOk t
 vals:∀ r∈rs,∀ v∈r,Jg v.n
 types:Kc w at_ ts
 rows:Zd w ar xs rs
 cap:rs.length≤cr
theorem Uw.below {w w':World}{name:ByteArray}{z y:Option Addr}{A:Nat}{D:List Int}{xs:List (Option Addr×Nat)}{rs:List (List V)}(h:Uw w name z y A D xs rs)(C:Below w.heap.size w w'):Uw w' name z y A D xs rs:=
 ⟨h.tab,h.tok,h.vals,h.types.below C,h.rows.below C,h.cap⟩
theorem Uw.arg {w:World}{name:ByteArray}{A z:Option Addr}{C:Nat}{D:List Int}{xs:List (Option Addr×Nat)}{rs:List (List V)}(h:Uw w name A z C D xs rs){y:Option Addr}{hs:List Int}(E:Kc w y hs)(R:hs.length≤6):Kct w name A z y C D hs xs rs:=by
 have K:=h.tab.1.2
 have M:=h.tab.2.1.1.2
 have O:=h.tab.2.2.1
 refine⟨by unfold maxLen;omega,by unfold maxLen;omega,by unfold maxLen;omega,fun r H=>?_,by unfold maxLen;omega,h.cap,h.types,E,h.rows⟩
 obtain⟨i,hi,rfl⟩:=Od5 H
 have:=(h.tab.2.2.2 i hi).1
 unfold maxLen
 omega
theorem Kck {y:DS}{L:List (TS×List (List V))}{Ts:List TS}{name:ByteArray}{z hs:List Int}{rs:List (List V)}{g:Int}(D:Jbc y L)(C:Jel name z rs)(H:Je3 z hs)(E:1≤g∧g≤64)(U:Ub Ts name=Ts.length)(R:Ts.length<6)(X:y.quota=1048576)(hf:y.fail=0)(bc:Js y.pages≤200000)(O:y.writes≤1000000000) :
  (∃ c,Jbd y Ts name z hs rs g=.dict c)∨∃ A T,Jbd y Ts name z hs rs g=.ok A T:=by
 have Z:rs.length≤200:=C.2.2.1
 rcases hr:Jbd y Ts name z hs rs g with _|_|c|⟨x,A⟩|⟨A,T⟩
 ·unfold Jbd at hr
  rw[if_pos ⟨C,H,E⟩]at hr
  split at hr
  ·simp at hr
  split at hr
  ·simp at hr
  split at hr<;>simp at hr
 ·unfold Jbd at hr
  rw[if_pos ⟨C,H,E⟩,if_neg (by omega)]at hr
  split at hr
  ·simp at hr
  split at hr<;>simp at hr
 ·exact .inl ⟨c,rfl⟩
 ·exfalso
  obtain⟨_,_,_,K,M,_⟩:=Jz8 D O hr
  have:=D.writes
  cases x with
  |true=>have:=K rfl;omega
  |false=>have:=M rfl;omega
 exact .inr ⟨A,T,rfl⟩
theorem Jvv {z hs:List Int}(h:Jfz z [] hs z.length):Je3 z hs∧∀ c,hs.getD c 0=0:=by
 refine⟨⟨h.len,h.ok⟩,fun c=>?_⟩
 by_cases y:c<hs.length
 ·have:=h.plain c y (by simp)
  simpa [y] using this
 simp[List.getD_eq_getElem?_getD,List.getElem?_eq_none (Nat.le_of_not_lt y)]
theorem Jtl {z A:DS}{Ts:List TS}{name:ByteArray}{y hs:List Int}{rs:List (List V)}{g:Int}{T:TS}(h:Jbd z Ts name y hs rs g=.ok A T):T.types=y:=by
 unfold Jbd at h
 split at h
 ·split at h
  ·simp at h
  split at h
  ·simp at h
  split at h
  ·simp at h
  cases h
  rfl
 simp at h
def Kj (C:Nat→Prop)(w:World)(st:Nat)(z:DS)(L:List (TS×List (List V)))(name:ByteArray)(D:List Int)(rs:List (List V))(w':World):Prop:=
 ∃ (A:Nat→Prop) (y:DS) (T:TS),Sto A w' st y ((L++[(T,rs)]).map Prod.fst)∧Jbc y (L++[(T,rs)])∧(T.name=name∧T.types=D)∧y.quota=z.quota∧y.fail=z.fail∧y.pages.length≤z.pages.length+660*rs.length∧y.writes≤z.writes+660*rs.length∧Js y.pages=Js z.pages+T.segs.flatten.length∧(T.segs.flatten=[]↔rs=[])∧(∀ k,C k→A k)∧(∀ k,A k→C k∨w.heap.size≤k)
theorem Jxk (A:Nat→Prop)(st:Nat)(y:DS)(L:List (TS×List (List V)))(name:ByteArray)(H O M:Option Addr)(ct R bc:Nat)(z hs:List Int)(xs:List (Option Addr×Nat))(rs:List (List V))(g:Int)(w:World)(bO:Sto A w st y (L.map Prod.fst))(bf:Jbc y L)(hR:Uw w name H O R z xs rs)(bT:Kc w M hs)(hI:Jfz z [] hs z.length)(bS:1≤g∧g≤64)(bY:Ub (L.map Prod.fst) name=L.length)(bR:L.length<6)
  (ca:y.quota=1048576) (hf:y.fail=0) (bi:y.pages.length≤200000) (bn:y.writes≤1000000000) (bL:∀ b o,H=some ⟨b,o,none⟩→¬ A b) (U X Z bA q wr pg bx ex bz:Addr) (D:World) (bN:Jax D U X Z bA q wr pg bx ex bz) (bP:Below D.heap.size D w) (bM:∀ k,A k→D.heap.size≤k) :
  Calls prog 23 #[.pointer (some ⟨st,0,none⟩),Jvc name H O ct R z rs,.slice M hs.length bc,.int .i64 g] w fun e w'=>e=.returned (Jb6 0)∧Ju A w w'∧Kj A w st y L name z rs w':=by
 obtain⟨bl,br⟩:=Jvv hI
 have bu:∀ x∈hs,x=0:=fun x C=>by
  obtain⟨i,hi,rfl⟩:=Od5 C
  have:=br i
  simpa [hi] using this
 have bV:hs.length≤6:=by rw[bl.1];exact hR.tab.2.1.1.2
 have bZ:∃ E T,Jbd y (L.map Prod.fst) name z hs rs g=.ok E T:=by
  rcases Kck bf hR.tab bl bS (Ts:=L.map Prod.fst) (by rw[bY];simp) (by simpa using bR) ca hf (Ob2 (Kad _) bi) bn with⟨c,bQ⟩|h
  ·have:=(Jy3 bQ).2.1
   rw[br c]at this
   simp at this
  exact h
 obtain⟨E,T,K⟩:=bZ
 refine(Jyt A st y (L.map Prod.fst) name H O M ct R bc z hs xs rs g w bO (hR.arg bT bV) bL bi U X Z bA q wr pg bx ex bz D bN bP bM (fun x C=>by rw[bu x C];exact Ki5) ⟨E,T,K⟩).mono fun e w' ⟨bh,bU,bB,bj,bW,bX⟩=>?_
 rw[K]at bh bj
 obtain⟨bC,bD,bE,bG,bH,bI,bJ,bK,_⟩:=Kjy (fun x C=>by rw[bu x C];exact⟨Ki5,Kj4⟩) bf hR.vals bn K
 exact⟨bh,bU,bB,E,T,by simpa [Ja0.ts,Ja0.d] using bj,bC,⟨bD,Jtl K⟩,bH,bI,bJ,bK,bE,bG,bW,bX⟩
theorem Jpj {z:Nat→Prop}{w w1 C:World}{st:Nat}{y:DS}{L:List (TS×List (List V))}{name:ByteArray}{A:List Int}{rs:List (List V)}(h:Kj z w st y L name A rs w1)(K:Below w1.heap.size w1 C):Kj z w st y L name A rs C:=by
 obtain⟨E,D,T,H,h⟩:=h
 exact⟨E,D,T,H.below K,h⟩
theorem Jfn {A:Nat→Prop}{w C y E:World}{st:Nat}{H:DS}{L:List (TS×List (List V))}{name:ByteArray}{M:List Int}{rs:List (List V)}{fa:Nat}(h:Kj A C st H L name M rs y)(bu:w.heap.size≤C.heap.size)(hs:y.heap.size≤E.heap.size)(bn:∀ k,k<y.heap.size→k≠fa→E.heap[k]?=y.heap[k]?)(hn:¬ A fa)(br:fa<C.heap.size∨y.heap.size≤fa):Kj A w st H L name M rs E:=by
 obtain⟨R,O,T,D,X,Z,bc,bf,bh,bi,bj,bl,U,K⟩:=h
 refine⟨R,O,T,D.stands hs fun k z=>bn k (D.lt k z) fun e=>?_,X,Z,bc,bf,bh,bi,bj,bl,U,fun k z=>(K k z).imp_right fun a=>by omega⟩
 subst e
 have:=D.lt k z
 rcases K k z with a|a
 ·exact hn a
 omega
theorem Jl3 (b:Nat)(name:ByteArray)(bJ bI:Option Addr)(ct bK:Nat)(H:List Int)(xs:List (Option Addr×Nat))(rs:List (List V))(w:World)(h:Uw w name bJ bI bK H xs rs)(c0:w.cell? ⟨b,0,none⟩=some (.string name))(c1:w.cell? ⟨b,1,none⟩=some (.slice bJ H.length ct))(c2:w.cell? ⟨b,2,none⟩=some (.slice bI rs.length bK))
  (cF cG cH cO q wr pg cM ex cN:Addr) (cX:Jax w cF cG cH cO q wr pg cM ex cN) :
  Calls prog 6 #[.agg #[.int .i64 1048576,.int .i64 0],.slice (some ⟨b,0,none⟩) 1 1] w fun e w'=>Below w.heap.size w w'∧∃ (st:Nat) (K:Nat→Prop),e=.returned (.pointer (some ⟨st,0,none⟩))∧Kj K w st (Ku 1048576 0) [] name H rs w'∧(∀ k,K k→w.heap.size≤k):=by
 have dm:Below w.heap.size w (w.alloc (.cells #[.int .i64 1048576,.int .i64 0] 34)):=(Oa5 _ w).alloc (Oa2 _) _
 have cZ:=Kfq 1048576 0 (w.alloc (.cells #[.int .i64 1048576,.int .i64 0] 34))
 have bR:Hid (Uw w name bJ bI bK H xs rs):=h
 have de:Hid (Jax w cF cG cH cO q wr pg cM ex cN):=cX
 clear h cX
 go_enter func6,ntmps6
 go_wp2_with (first|(go_at_call 22;refine cZ.mono ?_;rintro e y ⟨dp,st,K,rfl,db,cW⟩;have bl:=Jb dm dp;have dg:=Ja bl c0;have dh:=Ja bl c1;have di:=Ja bl c2;have cB:Hid (Sto K y st (Ku 1048576 0) []):=db;clear db))
 have bE:Hid (∀ k,K k→w.heap.size≤k):=fun k bM=>by have:=cW k bM;simp at this;omega
 clear cW cZ
 have cQ:Hid (∀ E,Below y.heap.size y E→Calls prog 24 #[.agg #[.string name,.slice bJ H.length ct,.slice bI rs.length bK],.slice none 0 0] E fun e bS=>Below E.heap.size E bS∧∃ (bh:Option Addr) (bB:Nat) (hs:List Int),e=.returned (.slice bh hs.length bB)∧Kc bS bh hs∧Jfz H [] hs H.length):=fun E cb=>by
  have:=Jzt (.string name) (.slice bI rs.length bK) bJ none ct 0 H [] E bR.out.tab.2.1.1.2 bR.out.tok (by simp) (bR.out.types.below (Jb bl cb)) (.inl rfl)
  refine this.mono fun e bS ⟨hs,sv,dt,dw,hI,cC⟩=>?_
  obtain⟨a,c,dc,ds⟩:=dw.cells
  rw[Oa6]at dc
  subst dc
  exact⟨cC,a,c,hs,dt,ds,hI⟩
 have cD:Hid (∀ E bh bB hs,Below y.heap.size y E→Kc E bh hs→Jfz H [] hs H.length→Calls prog 23 #[.pointer (some ⟨st,0,none⟩),.agg #[.string name,.slice bJ H.length ct,.slice bI rs.length bK],.slice bh hs.length bB,.int .i64 64] E fun e bS=>e=.returned (Jb6 0)∧Ju K E bS∧Kj K E st (Ku 1048576 0) [] name H rs bS):=fun E bh bB hs cb hI bQ=>
  Jxk K st (Ku 1048576 0) [] name bJ bI bh ct bK bB H hs xs rs 64 E (cB.out.below cb) (Jbc.empty _ _) (bR.out.below (Jb bl cb)) hI bQ (by decide) rfl (by decide) rfl rfl (by simp[Ku]) (by simp[Ku]) (fun df o dk bc=>by
   have bL:=bE.out df bc
   rcases bR.out.types with h0|⟨b2,dG,cY,dE,_⟩
   ·have:=bR.out.tab.2.1.1.1;simp at h0;rw[h0]at this;simp at this
   rw[dk]at cY;simp at cY;try omega) cF cG cH cO q wr pg cM ex cN w de.out (Jb bl cb) bE.out
 refine wp_loop_rounds 2 ?_
 rw[rounds_succ]
 go_upto_region 5 with fail
 go_cut [7] from 20 to 30 (fun f cP=>∃ fa:Nat,f=.pointer (some ⟨fa,0,none⟩)∧cP.heap[fa]?=some (.cells #[.int .i64 0,.int .i64 (-1),.int .i64 (-1),.int .i64 (-1),.int .i64 (-1)] 40 (0,0))∧Below w.heap.size w cP∧Kj K w st (Ku 1048576 0) [] name H rs cP)
 case first=>
  refine wp_region_held_drew (S:=fun E=>E.cell? ⟨b,0,none⟩=some (.string name)∧E.cell? ⟨b,1,none⟩=some (.slice bJ H.length ct)∧E.cell? ⟨b,2,none⟩=some (.slice bI rs.length bK)) (by kernel_rfl) ⟨dg,dh,di⟩ (fun A=>?_)
  refine tk 0 ?_ rfl A ?_ (tk 1 ?_ rfl A ?_ (tk 2 ?_ rfl A ?_ (tk 3 ?_ rfl A ?_ (tk 4 ?_ rfl A ?_ (tk 5 ?_ rfl A ?_ (tk 6 ?_ rfl A ?_ (tk 7 ?_ rfl A ?_ (tk 8 ?_ rfl A ?_ ?_))))))))
  iterate 9
   rotate_left 1
   ·intro w dj;(try dsimp only at dj);go_simp;try rfl
  simp only[Act.put,List.getElem_toArray,List.getElem_cons_zero,List.getElem_cons_succ,Oa1,List.set_cons_zero,List.set_cons_succ]
  have ch:Below y.heap.size y y.drew:=⟨rfl,rfl,rfl,Oa2 _,fun _ _=>rfl⟩
  refine wpAnyH_ready (rs:=[9,11]) (by kernel_rfl) (by simp) (AllReadyH.cons rfl (fun R D=>?_) (AllReadyH.cons rfl (fun R D=>?_) AllReadyH.nil))
  ·go_simp
   refine(cQ.out y.drew ch).mono ?_
   rintro e C ⟨bD,bh,bB,hs,rfl,ca,bQ⟩
   have bC:Below y.heap.size y C:=Jb ch bD
   have cA:Hid (Kc C bh hs):=ca
   have cz:Hid (Jfz H [] hs H.length):=bQ
   clear ca bQ
   go_simp
   refine D.out _ _ ⟨Ja bD A.1,Ja bD A.2.1,Ja bD A.2.2⟩ (fun A=>?_)
   clear D R
   refine wpAnyH_ready (rs:=[10,11]) (by kernel_rfl) (by simp) (AllReadyH.cons rfl (fun R D=>?_) (AllReadyH.cons rfl (fun R D=>?_) AllReadyH.nil))
   ·go_simp
    refine(cD.out C bh bB hs bC cA.out cz.out).mono ?_
    rintro e z ⟨rfl,Z,bO⟩
    have bP:Hid (Kj K C st (Ku 1048576 0) [] name H rs z):=bO
    clear bO
    obtain⟨br,bj⟩:∃ E,Hid (E=C):=⟨_,rfl⟩
    have bG:Below y.heap.size y br:=by rw[bj.out];exact bC
    have bz:=Z
    rw[←bj.out]at Z
    have bA:¬ K b:=fun bc=>by have bL:=bE.out b bc;have bf:=Jm c0;simp only at bf;omega
    go_simp
    refine D.out _ _ ⟨bz.cell A.1 bA,bz.cell A.2.1 bA,bz.cell A.2.2 bA⟩ (fun A=>?_)
    clear D R
    refine wpAnyH_ready (rs:=[11]) (by kernel_rfl) (by simp) (AllReadyH.cons rfl (fun R D=>?_) AllReadyH.nil)
    go_simp
    have U:Below z.heap.size z (z.alloc Ka):=(Oa5 _ z).alloc (Oa2 _) Ka
    have bx:(z.alloc Ka).heap[z.heap.size]?=some (.cells #[.int .i64 0,.int .i64 0,.int .i64 0,.int .i64 0,.int .i64 0] 40 (0,0)):=heap_alloc_new z Ka
    refine D.out _ _ ⟨Ja U A.1,Ja U A.2.1,Ja U A.2.2⟩ (fun A=>?_)
    clear D R
    obtain⟨O,bu⟩:∃ Y,Y=z.alloc Ka:=⟨_,rfl⟩
    rw[←bu]at U bx A ⊢
    have cS:Hid (O=z.alloc Ka):=bu
    clear bu
    have M:O.heap[z.heap.size]?=some (.cells #[.int .i64 0,.int .i64 0,.int .i64 0,.int .i64 0,.int .i64 0] 40 (0,0)):=bx
    have dD:Ju K br O:=Z.trans (Ju.of_below U)
    have bH:∀ (cE:Nat→Prop),(∀ j,cE j→j<z.heap.size)→∀ j,cE j→j≠z.heap.size:=fun cE bL j dv e=>by have:=bL j dv;omega
    have cl:O.cell? ⟨z.heap.size,0,none⟩=some (.int .i64 0):=by simp[World.cell?,M]
    have cn:O.cell? ⟨z.heap.size,1,none⟩=some (.int .i64 0):=by simp[World.cell?,M]
    have cr:O.cell? ⟨z.heap.size,2,none⟩=some (.int .i64 0):=by simp[World.cell?,M]
    have cu:O.cell? ⟨z.heap.size,3,none⟩=some (.int .i64 0):=by simp[World.cell?,M]
    have cv:O.cell? ⟨z.heap.size,4,none⟩=some (.int .i64 0):=by simp[World.cell?,M]
    have X:∀ o:Nat,O.frozen? ⟨z.heap.size,o,none⟩=false:=fun o=>by simp[World.frozen?,M]
    have bU:=X 0
    have bV:=X 1
    have bW:=X 2
    have bX:=X 3
    have bY:=X 4
    have bN:=Jk (Jk (Jk (Jk (Jk M 0 (.int .i64 0)) 1 (.int .i64 (-1))) 2 (.int .i64 (-1))) 3 (.int .i64 (-1))) 4 (.int .i64 (-1))
    simp only[Oa1,List.set_cons_zero,List.set_cons_succ]at bN
    have dd:b<w.heap.size:=by have bf:=Jm c0;simpa using bf
    have cy:w.heap.size≤z.heap.size:=by have bf:=bl.size;have bZ:y.drew.heap.size=y.heap.size:=rfl;have cT:=bC.size;have cU:=Z.size;have cV:=bG.size;omega
    have bi:∀ o:Nat,(((((O.setCell ⟨z.heap.size,0,none⟩ (.int .i64 0)).setCell ⟨z.heap.size,1,none⟩ (.int .i64 (-1))).setCell ⟨z.heap.size,2,none⟩ (.int .i64 (-1))).setCell ⟨z.heap.size,3,none⟩ (.int .i64 (-1))).setCell ⟨z.heap.size,4,none⟩ (.int .i64 (-1))).cell? ⟨b,o,none⟩=O.cell? ⟨b,o,none⟩:=fun o=>by simp only[World.cell?,Zh _ _ _ _ _ _ _ b (by omega:b≠z.heap.size)]
    have bn:Below w.heap.size w br:=Jb bl bG
    have cc:Below w.heap.size w O:=bn.trans ((Z.below (fun k bM bc=>by have:=bE.out k bc;omega) bn.size).trans (U.mono (Ob2 bn.size Z.size)))
    have bH:Kj K w st (Ku 1048576 0) [] name H rs (((((O.setCell ⟨z.heap.size,0,none⟩ (.int .i64 0)).setCell ⟨z.heap.size,1,none⟩ (.int .i64 (-1))).setCell ⟨z.heap.size,2,none⟩ (.int .i64 (-1))).setCell ⟨z.heap.size,3,none⟩ (.int .i64 (-1))).setCell ⟨z.heap.size,4,none⟩ (.int .i64 (-1))):=by
     refine Jfn (fa:=z.heap.size) (bj.out▸bP.out) bn.size (by rw[Jg2];exact U.size) (fun k bM cj=>(Zh _ _ _ _ _ _ _ k cj).trans (U.block k bM)) (fun bc=>by have bL:=cB.out.lt _ bc;have bf:=bG.size;have bZ:=Z.size;omega) (.inr (Oa2 _))
    have bT:Hid (Kj K w st (Ku 1048576 0) [] name H rs (((((O.setCell ⟨z.heap.size,0,none⟩ (.int .i64 0)).setCell ⟨z.heap.size,1,none⟩ (.int .i64 (-1))).setCell ⟨z.heap.size,2,none⟩ (.int .i64 (-1))).setCell ⟨z.heap.size,3,none⟩ (.int .i64 (-1))).setCell ⟨z.heap.size,4,none⟩ (.int .i64 (-1)))):=bH
    clear bH X M
    refine wpAnyH_ready (rs:=[12]) (by kernel_rfl) (by simp) (AllReadyH.cons rfl (fun R D=>?_) AllReadyH.nil)
    go_simp
    refine D.out _ _ ⟨(bi 0).trans A.1,(bi 1).trans A.2.1,(bi 2).trans A.2.2⟩ (fun A=>?_)
    clear D R bi cl cn cr cu cv bU bV bW bX bY
    refine wpAnyH_done (by kernel_rfl) ?_ _
    have cf:=Um cc cy (.int .i64 0) (.int .i64 (-1)) (.int .i64 (-1)) (.int .i64 (-1)) (.int .i64 (-1))
    go_wp2_with fail
    go_meet
    case rel=>exact⟨z.heap.size,rfl,bN,cf,bT.out⟩
   go_simp
   have U:Below C.heap.size C (C.alloc Ka):=(Oa5 _ C).alloc (Oa2 _) Ka
   have bx:(C.alloc Ka).heap[C.heap.size]?=some (.cells #[.int .i64 0,.int .i64 0,.int .i64 0,.int .i64 0,.int .i64 0] 40 (0,0)):=heap_alloc_new C Ka
   refine D.out _ _ ⟨Ja U A.1,Ja U A.2.1,Ja U A.2.2⟩ (fun A=>?_)
   clear D R
   obtain⟨O,bu⟩:∃ Y,Y=C.alloc Ka:=⟨_,rfl⟩
   rw[←bu]at U bx A ⊢
   have cS:Hid (O=C.alloc Ka):=bu
   clear bu
   have ci:Below y.heap.size y O:=Jb bC U
   refine wpAnyH_ready (rs:=[10]) (by kernel_rfl) (by simp) (AllReadyH.cons rfl (fun R D=>?_) AllReadyH.nil)
   go_simp
   refine(cD.out O bh bB hs ci (cA.out.below U) cz.out).mono ?_
   rintro e z ⟨rfl,Z,bO⟩
   have bP:Hid (Kj K O st (Ku 1048576 0) [] name H rs z):=bO
   clear bO
   obtain⟨br,bj⟩:∃ E,Hid (E=O):=⟨_,rfl⟩
   have bG:Below y.heap.size y br:=by rw[bj.out];exact ci
   have cx:¬ K C.heap.size:=fun bc=>by have bL:=cB.out.lt _ bc;have bf:=ch.size;have bZ:=bC.size;omega
   have M:z.heap[C.heap.size]?=some (.cells #[.int .i64 0,.int .i64 0,.int .i64 0,.int .i64 0,.int .i64 0] 40 (0,0)):=(Z.block _ (Jd bx) cx).trans bx
   have cK:C.heap.size<br.heap.size:=by rw[bj.out];exact Jd bx
   have bz:=Z
   rw[←bj.out]at Z
   have bA:¬ K b:=fun bc=>by have bL:=bE.out b bc;have bf:=Jm c0;simp only at bf;omega
   go_simp
   refine D.out _ _ ⟨bz.cell A.1 bA,bz.cell A.2.1 bA,bz.cell A.2.2 bA⟩ (fun A=>?_)
   clear D R
   have cl:z.cell? ⟨C.heap.size,0,none⟩=some (.int .i64 0):=by simp[World.cell?,M]
   have cn:z.cell? ⟨C.heap.size,1,none⟩=some (.int .i64 0):=by simp[World.cell?,M]
   have cr:z.cell? ⟨C.heap.size,2,none⟩=some (.int .i64 0):=by simp[World.cell?,M]
   have cu:z.cell? ⟨C.heap.size,3,none⟩=some (.int .i64 0):=by simp[World.cell?,M]
   have cv:z.cell? ⟨C.heap.size,4,none⟩=some (.int .i64 0):=by simp[World.cell?,M]
   have X:∀ o:Nat,z.frozen? ⟨C.heap.size,o,none⟩=false:=fun o=>by simp[World.frozen?,M]
   have bU:=X 0
   have bV:=X 1
   have bW:=X 2
   have bX:=X 3
   have bY:=X 4
   have bN:=Jk (Jk (Jk (Jk (Jk M 0 (.int .i64 0)) 1 (.int .i64 (-1))) 2 (.int .i64 (-1))) 3 (.int .i64 (-1))) 4 (.int .i64 (-1))
   simp only[Oa1,List.set_cons_zero,List.set_cons_succ]at bN
   have dd:b<w.heap.size:=by have bf:=Jm c0;simpa using bf
   have cy:w.heap.size≤C.heap.size:=by have bf:=bl.size;have bZ:y.drew.heap.size=y.heap.size:=rfl;have cT:=bC.size;have cU:=Z.size;have cV:=bG.size;omega
   have bi:∀ o:Nat,(((((z.setCell ⟨C.heap.size,0,none⟩ (.int .i64 0)).setCell ⟨C.heap.size,1,none⟩ (.int .i64 (-1))).setCell ⟨C.heap.size,2,none⟩ (.int .i64 (-1))).setCell ⟨C.heap.size,3,none⟩ (.int .i64 (-1))).setCell ⟨C.heap.size,4,none⟩ (.int .i64 (-1))).cell? ⟨b,o,none⟩=z.cell? ⟨b,o,none⟩:=fun o=>by simp only[World.cell?,Zh _ _ _ _ _ _ _ b (by omega:b≠C.heap.size)]
   have bn:Below w.heap.size w br:=Jb bl bG
   have cc:Below w.heap.size w z:=bn.trans (Z.below (fun k bM bc=>by have:=bE.out k bc;omega) bn.size)
   have bH:Kj K w st (Ku 1048576 0) [] name H rs (((((z.setCell ⟨C.heap.size,0,none⟩ (.int .i64 0)).setCell ⟨C.heap.size,1,none⟩ (.int .i64 (-1))).setCell ⟨C.heap.size,2,none⟩ (.int .i64 (-1))).setCell ⟨C.heap.size,3,none⟩ (.int .i64 (-1))).setCell ⟨C.heap.size,4,none⟩ (.int .i64 (-1))):=by
    refine Jfn (fa:=C.heap.size) (bj.out▸bP.out) bn.size (by rw[Jg2];exact Oa2 _) (fun k bM cj=>(Zh _ _ _ _ _ _ _ k cj).trans (rfl)) cx (.inl cK)
   have bT:Hid (Kj K w st (Ku 1048576 0) [] name H rs (((((z.setCell ⟨C.heap.size,0,none⟩ (.int .i64 0)).setCell ⟨C.heap.size,1,none⟩ (.int .i64 (-1))).setCell ⟨C.heap.size,2,none⟩ (.int .i64 (-1))).setCell ⟨C.heap.size,3,none⟩ (.int .i64 (-1))).setCell ⟨C.heap.size,4,none⟩ (.int .i64 (-1)))):=bH
   clear bH X M
   refine wpAnyH_ready (rs:=[12]) (by kernel_rfl) (by simp) (AllReadyH.cons rfl (fun R D=>?_) AllReadyH.nil)
   go_simp
   refine D.out _ _ ⟨(bi 0).trans A.1,(bi 1).trans A.2.1,(bi 2).trans A.2.2⟩ (fun A=>?_)
   clear D R bi cl cn cr cu cv bU bV bW bX bY
   refine wpAnyH_done (by kernel_rfl) ?_ _
   have cf:=Um cc cy (.int .i64 0) (.int .i64 (-1)) (.int .i64 (-1)) (.int .i64 (-1)) (.int .i64 (-1))
   go_wp2_with fail
   go_meet
   case rel=>exact⟨C.heap.size,rfl,bN,cf,bT.out⟩
  go_simp
  have U:Below y.drew.heap.size y.drew ((y.alloc Ka).drew):=(Oa5 _ y.drew).alloc (Oa2 _) Ka
  have bx:((y.alloc Ka).drew).heap[y.heap.size]?=some (.cells #[.int .i64 0,.int .i64 0,.int .i64 0,.int .i64 0,.int .i64 0] 40 (0,0)):=heap_alloc_new y.drew Ka
  refine D.out _ _ ⟨Ja U A.1,Ja U A.2.1,Ja U A.2.2⟩ (fun A=>?_)
  clear D R
  obtain⟨O,bu⟩:∃ Y,Y=(y.alloc Ka).drew:=⟨_,rfl⟩
  rw[←bu]at U bx A ⊢
  have cS:Hid (O=(y.alloc Ka).drew):=bu
  clear bu
  have ci:Below y.heap.size y O:=Jb ch U
  refine wpAnyH_ready (rs:=[9]) (by kernel_rfl) (by simp) (AllReadyH.cons rfl (fun R D=>?_) AllReadyH.nil)
  go_simp
  refine(cQ.out O ci).mono ?_
  rintro e C ⟨bD,bh,bB,hs,rfl,ca,bQ⟩
  have bC:Below y.heap.size y C:=Jb ci bD
  have cJ:C.heap[y.heap.size]?=_:=(bD.block _ (Jd bx)).trans bx
  have cA:Hid (Kc C bh hs):=ca
  have cz:Hid (Jfz H [] hs H.length):=bQ
  clear ca bQ
  go_simp
  refine D.out _ _ ⟨Ja bD A.1,Ja bD A.2.1,Ja bD A.2.2⟩ (fun A=>?_)
  clear D R
  refine wpAnyH_ready (rs:=[10]) (by kernel_rfl) (by simp) (AllReadyH.cons rfl (fun R D=>?_) AllReadyH.nil)
  go_simp
  refine(cD.out C bh bB hs bC cA.out cz.out).mono ?_
  rintro e z ⟨rfl,Z,bO⟩
  have bP:Hid (Kj K C st (Ku 1048576 0) [] name H rs z):=bO
  clear bO
  obtain⟨br,bj⟩:∃ E,Hid (E=C):=⟨_,rfl⟩
  have bG:Below y.heap.size y br:=by rw[bj.out];exact bC
  have cx:¬ K y.heap.size:=fun bc=>by have bL:=cB.out.lt _ bc;have bf:=ch.size;have bZ:y.drew.heap.size=y.heap.size:=rfl;omega
  have M:z.heap[y.heap.size]?=some (.cells #[.int .i64 0,.int .i64 0,.int .i64 0,.int .i64 0,.int .i64 0] 40 (0,0)):=(Z.block _ (Jd cJ) cx).trans cJ
  have cK:y.heap.size<br.heap.size:=by rw[bj.out];exact Jd cJ
  have bz:=Z
  rw[←bj.out]at Z
  have bA:¬ K b:=fun bc=>by have bL:=bE.out b bc;have bf:=Jm c0;simp only at bf;omega
  go_simp
  refine D.out _ _ ⟨bz.cell A.1 bA,bz.cell A.2.1 bA,bz.cell A.2.2 bA⟩ (fun A=>?_)
  clear D R
  have cl:z.cell? ⟨y.heap.size,0,none⟩=some (.int .i64 0):=by simp[World.cell?,M]
  have cn:z.cell? ⟨y.heap.size,1,none⟩=some (.int .i64 0):=by simp[World.cell?,M]
  have cr:z.cell? ⟨y.heap.size,2,none⟩=some (.int .i64 0):=by simp[World.cell?,M]
  have cu:z.cell? ⟨y.heap.size,3,none⟩=some (.int .i64 0):=by simp[World.cell?,M]
  have cv:z.cell? ⟨y.heap.size,4,none⟩=some (.int .i64 0):=by simp[World.cell?,M]
  have X:∀ o:Nat,z.frozen? ⟨y.heap.size,o,none⟩=false:=fun o=>by simp[World.frozen?,M]
  have bU:=X 0
  have bV:=X 1
  have bW:=X 2
  have bX:=X 3
  have bY:=X 4
  have bN:=Jk (Jk (Jk (Jk (Jk M 0 (.int .i64 0)) 1 (.int .i64 (-1))) 2 (.int .i64 (-1))) 3 (.int .i64 (-1))) 4 (.int .i64 (-1))
  simp only[Oa1,List.set_cons_zero,List.set_cons_succ]at bN
  have dd:b<w.heap.size:=by have bf:=Jm c0;simpa using bf
  have cy:w.heap.size≤y.heap.size:=by have bf:=bl.size;have bZ:y.drew.heap.size=y.heap.size:=rfl;have cT:=bC.size;have cU:=Z.size;have cV:=bG.size;omega
  have bi:∀ o:Nat,(((((z.setCell ⟨y.heap.size,0,none⟩ (.int .i64 0)).setCell ⟨y.heap.size,1,none⟩ (.int .i64 (-1))).setCell ⟨y.heap.size,2,none⟩ (.int .i64 (-1))).setCell ⟨y.heap.size,3,none⟩ (.int .i64 (-1))).setCell ⟨y.heap.size,4,none⟩ (.int .i64 (-1))).cell? ⟨b,o,none⟩=z.cell? ⟨b,o,none⟩:=fun o=>by simp only[World.cell?,Zh _ _ _ _ _ _ _ b (by omega:b≠y.heap.size)]
  have bn:Below w.heap.size w br:=Jb bl bG
  have cc:Below w.heap.size w z:=bn.trans (Z.below (fun k bM bc=>by have:=bE.out k bc;omega) bn.size)
  have bH:Kj K w st (Ku 1048576 0) [] name H rs (((((z.setCell ⟨y.heap.size,0,none⟩ (.int .i64 0)).setCell ⟨y.heap.size,1,none⟩ (.int .i64 (-1))).setCell ⟨y.heap.size,2,none⟩ (.int .i64 (-1))).setCell ⟨y.heap.size,3,none⟩ (.int .i64 (-1))).setCell ⟨y.heap.size,4,none⟩ (.int .i64 (-1))):=by
   refine Jfn (fa:=y.heap.size) (bj.out▸bP.out) bn.size (by rw[Jg2];exact Oa2 _) (fun k bM cj=>(Zh _ _ _ _ _ _ _ k cj).trans (rfl)) cx (.inl cK)
  have bT:Hid (Kj K w st (Ku 1048576 0) [] name H rs (((((z.setCell ⟨y.heap.size,0,none⟩ (.int .i64 0)).setCell ⟨y.heap.size,1,none⟩ (.int .i64 (-1))).setCell ⟨y.heap.size,2,none⟩ (.int .i64 (-1))).setCell ⟨y.heap.size,3,none⟩ (.int .i64 (-1))).setCell ⟨y.heap.size,4,none⟩ (.int .i64 (-1)))):=bH
  clear bH X M
  refine wpAnyH_ready (rs:=[12]) (by kernel_rfl) (by simp) (AllReadyH.cons rfl (fun R D=>?_) AllReadyH.nil)
  go_simp
  refine D.out _ _ ⟨(bi 0).trans A.1,(bi 1).trans A.2.1,(bi 2).trans A.2.2⟩ (fun A=>?_)
  clear D R bi cl cn cr cu cv bU bV bW bX bY
  refine wpAnyH_done (by kernel_rfl) ?_ _
  have cf:=Um cc cy (.int .i64 0) (.int .i64 (-1)) (.int .i64 (-1)) (.int .i64 (-1)) (.int .i64 (-1))
  go_wp2_with fail
  go_meet
  case rel=>exact⟨y.heap.size,rfl,bN,cf,bT.out⟩
 case rest=>
  obtain⟨fa,rfl,hf,dr,da⟩:=hcut
  have bP:Hid (Kj K w st (Ku 1048576 0) [] name H rs wc):=da
  have dx:wc.cell? ⟨fa,0,none⟩=some (.int .i64 0):=by simp[World.cell?,hf]
  have dy:wc.cell? ⟨fa,1,none⟩=some (.int .i64 (-1)):=by simp[World.cell?,hf]
  have dz:wc.cell? ⟨fa,2,none⟩=some (.int .i64 (-1)):=by simp[World.cell?,hf]
  have dA:wc.cell? ⟨fa,3,none⟩=some (.int .i64 (-1)):=by simp[World.cell?,hf]
  have dB:wc.cell? ⟨fa,4,none⟩=some (.int .i64 (-1)):=by simp[World.cell?,hf]
  have du:fa<wc.heap.size:=Jd hf
  clear da hf
  go_wp2_with fail
  go_region_held3 (fun E=>E.cell? ⟨fa,0,none⟩=some (.int .i64 0)∧E.cell? ⟨fa,1,none⟩=some (.int .i64 (-1))∧E.cell? ⟨fa,2,none⟩=some (.int .i64 (-1))∧E.cell? ⟨fa,3,none⟩=some (.int .i64 (-1))∧E.cell? ⟨fa,4,none⟩=some (.int .i64 (-1)))
   (first|go_keep|(go_split_ands;refine⟨?_,?_,?_,?_,?_⟩<;>(rw[(Kx cI).1 _ _ (by first|exact du|assumption)];assumption)))
   (first|(go_at_call 17;refine(Jfu _).mono ?_;rintro e dC ⟨rfl,cI⟩;have cC:Below wc.heap.size wc dC:=(by first|exact Jw cI|exact cI)))
  clear dx dy dz dA dB
  go_wp2_with fail
  rw[rounds_succ]
  go_wp2_with fail
  go_ret
  have dq:=Jb dr cC
  exact⟨dq,st,K,rfl,Jpj bP.out cC,bE.out⟩
end Go.Proofs.YtjjdldddcegjiaaGreatDoor
namespace Go.Proofs.YtjjdldddcegjiaaGreatDoor
open Go.RowKit Go.Shelf Tryz
theorem Jxy {W:World}{H C K:Nat}{name:ByteArray}{t:Int}{v:V}(h0:W.heap[H]?=some (.cells #[.int .i64 t] 3 (0,0)))(A:W.heap[C]?=some (.cells #[.int .i64 v.k,.int .i64 v.n,.string v.s] 49 (0,0)))(M:W.heap[K]?=some (.cells #[.slice (some ⟨C,0,none⟩) 1 1] 59 (0,0)))
  (O:1≤t∧t≤3) (hn:1≤name.size∧name.size≤20) (R:okB t v.k v.n v.s=true) (hi:Jg v.n):Uw W name (some ⟨H,0,none⟩) (some ⟨K,0,none⟩) 1 [t] [(some ⟨C,0,none⟩,1)] [[v]]:=by
 refine⟨⟨hn,⟨⟨by simp,by simp⟩,fun j D=>?_⟩,by simp,fun i hi=>?_⟩,fun u y=>?_,fun r z u y=>?_,.inr ⟨H,0,rfl,Jd h0,fun i u y=>?_⟩,⟨rfl,.inr ⟨K,0,rfl,Jd M,fun i u y=>?_⟩,fun i x r E z=>?_⟩,by simp⟩
 ·have:j=0:=by simp at D;omega
  subst this
  simp[Jnd,O.1,O.2]
 ·have:i=0:=by simp at hi;omega
  subst this
  refine⟨rfl,fun j D=>?_⟩
  have:j=0:=by simp at D;omega
  subst this
  simpa using R
 ·simp at y;subst y;unfold tOk;omega
 ·simp at z;subst z;simp at y;subst y;exact hi
 ·rcases i with _|i
  ·simp at y;subst y;simp[World.cell?,h0,iv]
  simp at y
 ·rcases i with _|i
  ·simp at y;subst y;simp[World.cell?,M,Je1]
  simp at y
 rcases i with _|i
 ·simp at E z
  subst E z
  refine .inr ⟨C,0,rfl,Jd A,fun j u y=>?_⟩
  rcases j with _|j
  ·simp at y;subst y
   exact⟨by simp[World.cell?,A],by simp[World.cell?,A],by simp[World.cell?,A]⟩
  simp at y
 simp at E
def Jqc (w A:World)(st:Nat)(name:ByteArray)(rs:List (List V)):Prop:=Below w.heap.size w A∧∃ (z:Nat→Prop) (y:DS) (T:TS),Sto z A st y [T]∧Jbc y [(T,rs)]∧T.name=name∧y.quota=1048576∧y.fail=0∧y.pages.length≤660*rs.length∧y.writes≤660*rs.length∧(∀ k,z k→w.heap.size≤k)
theorem Jwr {A:Nat→Prop}{w y z:World}{st:Nat}{name:ByteArray}{bi:List Int}{rs:List (List V)}(h:Kj A y st (Ku 1048576 0) [] name bi rs z)(C:Below w.heap.size w y)(bf:Below y.heap.size y z)(bc:∀ k,A k→y.heap.size≤k):Jqc w z st name rs:=by
 obtain⟨E,D,T,H,M,O,R,U,X,Z,_,_,_,K⟩:=h
 have bj:=C.size
 refine⟨Jb C bf,E,D,T,H,M,O.1,R,U,by simpa [Ku] using X,by simpa [Ku] using Z,fun k bh=>?_⟩
 rcases K k bh with a|a
 ·have:=bc k a;omega
 omega
def Jhr (w z:World)(st:Nat)(name:ByteArray)(C:List Int)(rs:List (List V)):Prop:=Below w.heap.size w z∧∃ (A:Nat→Prop) (y:DS) (T:TS),Sto A z st y [T]∧Jbc y [(T,rs)]∧T.name=name∧T.types=C
theorem Jlx {E:Nat→Prop}{w y z:World}{st:Nat}{name:ByteArray}{C:List Int}{rs:List (List V)}(h:Kj E y st (Ku 1048576 0) [] name C rs z)(O:Below w.heap.size w y)(R:Below y.heap.size y z):Jhr w z st name C rs:=by
 obtain⟨H,D,T,K,M,A,_⟩:=h
 exact⟨Jb O R,H,D,T,K,M,A.1,A.2⟩
theorem Jrp {y:DS}{T:TS}{name:ByteArray}{rs:List (List V)}(h:Jbc y [(T,rs)])(hn:T.name=name):Jf8 y [T] name=some (.inl rs)∧∀ z∈[T],Jid y z:=by
 have C:=h.tab (T,rs) (by simp)
 refine⟨?_,fun z A=>by simp at A;subst A;exact C.ok⟩
 unfold Jf8
 simp[Ub,hn,C.read]
abbrev Yh:ByteArray:=⟨#[111,110,101]⟩
abbrev Za:V:=⟨1,41,⟨#[]⟩⟩
theorem Kev (w:World)(X Z bc bl q wr pg bi ex bj:Addr)(bJ:Jax w X Z bc bl q wr pg bi ex bj) :
  Calls prog 18 #[] w fun e w'=>e=.returned (.bool true)∧Below w.heap.size w w':=by
 have bC:Hid (Jax w X Z bc bl q wr pg bi ex bj):=bJ
 clear bJ
 go_enter func18,ntmps18
 go_upto_region 2 with fail
 obtain⟨W,hW⟩:∃ W,W=((((w.alloc (.cells #[.int .i64 1] 3)).alloc (.cells #[.int .i64 1,.int .i64 41,.string ⟨#[]⟩] 49)).alloc (.cells #[.slice (some ⟨w.heap.size+1,0,none⟩) 1 1] 59)).alloc (.cells #[.string ⟨#[111,110,101]⟩,.slice (some ⟨w.heap.size,0,none⟩) 1 1,.slice (some ⟨w.heap.size+1+1,0,none⟩) 1 1] 25)):=⟨_,rfl⟩
 rw[←hW]
 have bL:Below w.heap.size w W:=by rw[hW];exact((((Oa5 _ w).alloc (Oa2 _) _).alloc (by simp) _).alloc (by simp;omega) _).alloc (by simp;omega) _
 have bf:W.heap[w.heap.size+1+1+1]?=some (.cells #[.string ⟨#[111,110,101]⟩,.slice (some ⟨w.heap.size,0,none⟩) 1 1,.slice (some ⟨w.heap.size+1+1,0,none⟩) 1 1] 25 (0,0)):=by rw[hW];exact Jb4 _ _ _ (by simp)
 have bH:W.heap[w.heap.size+1+1]?=some (.cells #[.slice (some ⟨w.heap.size+1,0,none⟩) 1 1] 59 (0,0)):=by rw[hW,Oa9 _ _ _ (by simp)];exact Jb4 _ _ _ (by simp)
 have bG:W.heap[w.heap.size+1]?=some (.cells #[.int .i64 1,.int .i64 41,.string ⟨#[]⟩] 49 (0,0)):=by rw[hW,Oa9 _ _ _ (by simp),Oa9 _ _ _ (by simp)];exact Jb4 _ _ _ (by simp)
 have bE:W.heap[w.heap.size]?=some (.cells #[.int .i64 1] 3 (0,0)):=by rw[hW,Oa9 _ _ _ (by simp;omega),Oa9 _ _ _ (by simp;omega),Oa9 _ _ _ (by simp)];exact Jb4 _ _ _ rfl
 have cc:Hid (Uw W Yh (some ⟨w.heap.size,0,none⟩) (some ⟨w.heap.size+1+1,0,none⟩) 1 [1] [(some ⟨w.heap.size+1,0,none⟩,1)] [[Za]]):=Jxy (v:=Za) bE bG bH (by decide) (by decide) (by simp[okB,okK]) (by simp[Jg])
 have bW:W.cell? ⟨w.heap.size+1+1+1,0,none⟩=some (.string ⟨#[111,110,101]⟩):=by simp[World.cell?,bf]
 have bX:W.cell? ⟨w.heap.size+1+1+1,1,none⟩=some (.slice (some ⟨w.heap.size,0,none⟩) 1 1):=by simp[World.cell?,bf]
 have bY:W.cell? ⟨w.heap.size+1+1+1,2,none⟩=some (.slice (some ⟨w.heap.size+1+1,0,none⟩) 1 1):=by simp[World.cell?,bf]
 clear hW bE bG bH bf
 have bB:Hid (∀ A b,Below W.heap.size W A→A.heap[b]?=some (.cells #[.string ⟨#[111,110,101]⟩,.slice (some ⟨w.heap.size,0,none⟩) 1 1,.slice (some ⟨w.heap.size+1+1,0,none⟩) 1 1] 25 (0,0))→Calls prog 6 #[.agg #[.int .i64 1048576,.int .i64 0],.slice (some ⟨b,0,none⟩) 1 1] A fun e bn=>∃ st,e=.returned (.pointer (some ⟨st,0,none⟩))∧Jqc w bn st Yh [[Za]]∧Below A.heap.size A bn):=fun A b br bu=>
  (Jl3 b Yh (some ⟨w.heap.size,0,none⟩) (some ⟨w.heap.size+1+1,0,none⟩) 1 1 [1] [(some ⟨w.heap.size+1,0,none⟩,1)] [[Za]] A (cc.out.below br) (by simp[World.cell?,bu]) (by simp[World.cell?,bu]) (by simp[World.cell?,bu]) X Z bc bl q wr pg bi ex bj (bC.out.below (Jb bL br))).mono fun e bn ⟨bN,st,bD,ci,cj,cl⟩=>⟨st,ci,Jwr cj (Jb bL br) bN cl,bN⟩
 go_cut [2] from 10 to 13 (fun s cB=>∃ st:Nat,s=.pointer (some ⟨st,0,none⟩)∧Jqc w cB st Yh [[Za]])
 case first=>
  refine wp_region_held_drew (S:=fun A=>A.cell? ⟨w.heap.size+1+1+1,0,none⟩=some (.string ⟨#[111,110,101]⟩)∧A.cell? ⟨w.heap.size+1+1+1,1,none⟩=some (.slice (some ⟨w.heap.size,0,none⟩) 1 1)∧A.cell? ⟨w.heap.size+1+1+1,2,none⟩=some (.slice (some ⟨w.heap.size+1+1,0,none⟩) 1 1)) (by kernel_rfl) ⟨bW,bX,bY⟩ (fun y=>?_)
  refine tk 1 ?_ rfl y ?_ ?_
  rotate_left 1
  ·intro w D;(try dsimp only at D);go_simp;try rfl
  simp only[Act.put,List.getElem_toArray,List.getElem_cons_zero,List.getElem_cons_succ,Oa1,List.set_cons_zero,List.set_cons_succ]
  have bO:Below W.heap.size W W.drew:=⟨rfl,rfl,rfl,Oa2 _,fun _ _=>rfl⟩
  refine wpAnyH_ready (rs:=[0,2]) (by kernel_rfl) (by simp) (AllReadyH.cons rfl (fun E C=>?_) (AllReadyH.cons rfl (fun E C=>?_) AllReadyH.nil))
  focus
   go_simp
   refine(Jen _).mono ?_
   rintro e z ⟨rfl,H⟩
   have bz:Below W.heap.size W z:=Jb bO H
   go_simp
   refine C.out _ _ ⟨Ja H y.1,Ja H y.2.1,Ja H y.2.2⟩ (fun y=>?_)
   clear C E
   refine wpAnyH_ready (rs:=[2]) (by kernel_rfl) (by simp) (AllReadyH.cons rfl (fun E C=>?_) AllReadyH.nil)
   go_simp
   have K:Below z.heap.size z (z.alloc (.cells #[.string ⟨#[111,110,101]⟩,.slice (some ⟨w.heap.size,0,none⟩) 1 1,.slice (some ⟨w.heap.size+1+1,0,none⟩) 1 1] 25)):=(Oa5 _ _).alloc (Oa2 _) _
   have bh:=heap_alloc_new z (.cells #[.string ⟨#[111,110,101]⟩,.slice (some ⟨w.heap.size,0,none⟩) 1 1,.slice (some ⟨w.heap.size+1+1,0,none⟩) 1 1] 25)
   refine C.out _ _ ⟨Ja K y.1,Ja K y.2.1,Ja K y.2.2⟩ (fun y=>?_)
   clear C E
   refine wpAnyH_ready (rs:=[3]) (by kernel_rfl) (by simp) (AllReadyH.cons rfl (fun E C=>?_) AllReadyH.nil)
   go_simp
   refine(bB.out _ _ (Jb bz K) bh).mono ?_
  rotate_left 1
  focus
   go_simp
   have K:Below W.heap.size W ((W.alloc (.cells #[.string ⟨#[111,110,101]⟩,.slice (some ⟨w.heap.size,0,none⟩) 1 1,.slice (some ⟨w.heap.size+1+1,0,none⟩) 1 1] 25)).drew):=Jb bO ((Oa5 _ W.drew).alloc (Oa2 _) (.cells #[.string ⟨#[111,110,101]⟩,.slice (some ⟨w.heap.size,0,none⟩) 1 1,.slice (some ⟨w.heap.size+1+1,0,none⟩) 1 1] 25))
   have bh:((W.alloc (.cells #[.string ⟨#[111,110,101]⟩,.slice (some ⟨w.heap.size,0,none⟩) 1 1,.slice (some ⟨w.heap.size+1+1,0,none⟩) 1 1] 25)).drew).heap[W.heap.size]?=_:=heap_alloc_new W (.cells #[.string ⟨#[111,110,101]⟩,.slice (some ⟨w.heap.size,0,none⟩) 1 1,.slice (some ⟨w.heap.size+1+1,0,none⟩) 1 1] 25)
   refine C.out _ _ ⟨Ja K bW,Ja K bX,Ja K bY⟩ (fun y=>?_)
   clear C E
   refine wpAnyH_ready (rs:=[0]) (by kernel_rfl) (by simp) (AllReadyH.cons rfl (fun E C=>?_) AllReadyH.nil)
   go_simp
   refine(Jen _).mono ?_
   rintro e z ⟨rfl,H⟩
   have bz:Below W.heap.size W z:=Jb K H
   have ch:z.heap[W.heap.size]?=_:=(H.block _ (Jd bh)).trans bh
   go_simp
   refine C.out _ _ ⟨Ja H y.1,Ja H y.2.1,Ja H y.2.2⟩ (fun y=>?_)
   clear C E
   refine wpAnyH_ready (rs:=[3]) (by kernel_rfl) (by simp) (AllReadyH.cons rfl (fun E C=>?_) AllReadyH.nil)
   go_simp
   refine(bB.out _ _ bz ch).mono ?_
  all_goals
   rintro e O ⟨st,rfl,bT,bA⟩
   have cb:Hid (Jqc w O st Yh [[Za]]):=bT
   clear bT
   go_simp
   refine C.out _ _ ⟨Ja bA y.1,Ja bA y.2.1,Ja bA y.2.2⟩ (fun y=>?_)
   clear C E
   refine tk 4 ?_ rfl y ?_ ?_
   rotate_left 1
   ·intro w D;(try dsimp only at D);go_simp;try rfl
   simp only[Act.put,List.getElem_toArray,List.getElem_cons_zero,List.getElem_cons_succ,Oa1,List.set_cons_zero,List.set_cons_succ]
   refine wpAnyH_done (by kernel_rfl) ?_ _
   go_wp2_with fail
   go_meet
   case rel=>exact⟨st,rfl,cb.out⟩
 case rest=>
  obtain⟨st,rfl,bM,bD,ca,T,bV,bU,cn,_⟩:=hcut
  obtain⟨bR,bQ⟩:=Jrp bU cn
  have bS:=Kcc bD st ca [T] Yh wc bV bQ X Z bc bl q wr pg bi ex bj (bC.out.below bM)
  rw[bR]at bS
  clear bV bU bR bQ
  go_wp2_with (first|(go_at_call 35;refine bS.mono ?_;rintro e z ⟨H,g,bs,rfl,bP⟩;have U:Hid (Jcu z wc.heap.size g bs [[Za]]):=bP;clear bP))
  obtain⟨b1,rfl⟩:∃ b1,bs=[b1]:=by
   have:=U.out.len
   match bs,this with
   |[x],_=>exact⟨x,rfl⟩
  have bI:z.cell? ⟨g,0,none⟩=some (.slice (some ⟨b1,0,none⟩) 1 1):=U.out.outer.cell (i:=0) (by simp)
  have bZ:z.cell? ⟨b1,1,none⟩=some (.int .i64 41):=by
   rcases(U.out.rows 0 b1 [Za] rfl rfl).vals with h|⟨cD,cF,bK,_,cr⟩
   ·simp at h
   simp at bK
   obtain⟨rfl,rfl⟩:=bK
   have:=(cr 0 Za rfl).2.1
   simpa using this
  have cE:=Jjl 0
  have bx:Below z.heap.size z (z.alloc (.cells #[.int .i64 0,.int .i64 (-1),.int .i64 (-1),.int .i64 (-1),.int .i64 (-1)] 40)):=(Oa5 _ _).alloc (Oa2 _) _
  have R:=heap_alloc_new z (.cells #[.int .i64 0,.int .i64 (-1),.int .i64 (-1),.int .i64 (-1),.int .i64 (-1)] 40)
  have cf:=Ja bx bI
  have cA:=Ja bx bZ
  generalize z.alloc (.cells #[.int .i64 0,.int .i64 (-1),.int .i64 (-1),.int .i64 (-1),.int .i64 (-1)] 40)=O at *
  have cu:O.cell? ⟨z.heap.size,0,none⟩=some (.int .i64 0):=by simp[World.cell?,R]
  have cv:O.cell? ⟨z.heap.size,1,none⟩=some (.int .i64 (-1)):=by simp[World.cell?,R]
  have cx:O.cell? ⟨z.heap.size,2,none⟩=some (.int .i64 (-1)):=by simp[World.cell?,R]
  have cy:O.cell? ⟨z.heap.size,3,none⟩=some (.int .i64 (-1)):=by simp[World.cell?,R]
  have cz:O.cell? ⟨z.heap.size,4,none⟩=some (.int .i64 (-1)):=by simp[World.cell?,R]
  clear bI bZ R U
  refine wp_region_held_drew (S:=fun A=>A.cell? ⟨z.heap.size,0,none⟩=some (.int .i64 0)∧A.cell? ⟨z.heap.size,1,none⟩=some (.int .i64 (-1))∧A.cell? ⟨z.heap.size,2,none⟩=some (.int .i64 (-1))∧A.cell? ⟨z.heap.size,3,none⟩=some (.int .i64 (-1))∧A.cell? ⟨z.heap.size,4,none⟩=some (.int .i64 (-1))∧A.cell? ⟨g,0,none⟩=some (.slice (some ⟨b1,0,none⟩) 1 1)∧A.cell? ⟨b1,1,none⟩=some (.int .i64 41)) (by kernel_rfl) ⟨cu,cv,cx,cy,cz,cf,cA⟩ (fun y=>?_)
  refine tk 0 ?_ rfl y ?_ ?_
  rotate_left 1
  ·intro w D;(try dsimp only at D);go_simp;try rfl
  simp only[Act.put,List.getElem_toArray,List.getElem_cons_zero,Oa1,List.set_cons_zero,List.set_cons_succ]
  refine wpAnyH_ready (rs:=[1]) (by kernel_rfl) (by simp) (AllReadyH.cons rfl (fun E C=>?_) AllReadyH.nil)
  go_simp
  refine(Jfu _).mono ?_
  rintro e cC ⟨rfl,M⟩
  go_simp
  refine C.out _ _ ⟨Ja M y.1,Ja M y.2.1,Ja M y.2.2.1,Ja M y.2.2.2.1,Ja M y.2.2.2.2.1,Ja M y.2.2.2.2.2.1,Ja M y.2.2.2.2.2.2⟩ (fun y=>?_)
  clear C E
  refine tk 2 ?_ rfl y ?_ (tk 3 ?_ rfl y ?_ ?_)
  iterate 2
   rotate_left 1
   ·intro w D;(try dsimp only at D);go_simp;try rfl
  simp only[Act.put,List.getElem_toArray,List.getElem_cons_zero,List.getElem_cons_succ,Oa1,List.set_cons_zero,List.set_cons_succ]
  refine tk 4 ?_ rfl y ?_ (tk 5 ?_ rfl y ?_ (tk 6 ?_ rfl y ?_ (tk 7 ?_ rfl y ?_ (tk 8 ?_ rfl y ?_ ?_))))
  iterate 5
   rotate_left 1
   ·intro w D;(try dsimp only at D);go_simp;try rfl
  simp only[Act.put,List.getElem_toArray,List.getElem_cons_zero,List.getElem_cons_succ,Oa1,List.set_cons_zero,List.set_cons_succ]
  refine tk 9 ?_ rfl y ?_ (tk 10 ?_ rfl y ?_ (tk 11 ?_ rfl y ?_ (tk 12 ?_ rfl y ?_ (tk 13 ?_ rfl y ?_ (tk 14 ?_ rfl y ?_ (tk 15 ?_ rfl y ?_ ?_))))))
  iterate 7
   rotate_left 1
   ·intro w D;(try dsimp only at D);go_simp;try rfl
  simp only[Act.put,List.getElem_toArray,List.getElem_cons_zero,List.getElem_cons_succ,Oa1,List.set_cons_zero,List.set_cons_succ]
  refine tk 16 ?_ rfl y ?_ (tk 17 ?_ rfl y ?_ (tk 18 ?_ rfl y ?_ (tk 19 ?_ rfl y ?_ (tk 20 ?_ rfl y ?_ (tk 21 ?_ rfl y ?_ (tk 22 ?_ rfl y ?_ (tk 23 ?_ rfl y ?_ (tk 24 ?_ rfl y ?_ ?_))))))))
  iterate 9
   rotate_left 1
   ·intro w D;(try dsimp only at D);go_simp;try rfl
  simp only[Act.put,List.getElem_toArray,List.getElem_cons_zero,List.getElem_cons_succ,Oa1,List.set_cons_zero,List.set_cons_succ]
  refine wpAnyH_done (by kernel_rfl) ?_ _
  go_wp2
  go_ret
  exact⟨rfl,Jb (Jb bM (Jb H bx)) (Jw M)⟩
theorem Jug.right {w w':World}{name:ByteArray}{D:List Int}{rs:List (List V)}{v:Value}(h:Jug w w' name D rs v)(O:rs.length≤200)(hn:1≤name.size∧name.size≤20):∃ C E z A xs,v=.agg #[.string name,.slice C D.length E,.slice z rs.length A]∧Uw w' name C z A D xs rs:=by
 obtain⟨C,E,z,A,bs,X,H,K,M,_⟩:=h.val
 refine⟨C,E,z,A,_,X,⟨hn,⟨h.types.1,fun j y=>?_⟩,O,fun i hi=>?_⟩,h.types.2,fun r R u U=>?_,H,K,M⟩
 ·have:=h.types.2 _ (Ob3 y)
  unfold tOk at this
  unfold Jnd
  simp only[decide_eq_true_iff]
  omega
 ·have:=h.rows _ (Ob3 hi)
  exact⟨this.1,fun j y=>(this.2 j y).1⟩
 have:=h.rows r R
 obtain⟨j,y,rfl⟩:=Od5 U
 exact(this.2 j y).2
def Kkz (y:World)(f:Nat)(c p:Int):Prop:=y.heap[f]?=some (.cells #[.int .i64 c,.int .i64 (-1),.int .i64 (-1),.int .i64 (-1),.int .i64 p] 40 (0,0))
theorem Kkz.cells {y:World}{f:Nat}{c p:Int}(h:Kkz y f c p):y.cell? ⟨f,0,none⟩=some (.int .i64 c)∧y.cell? ⟨f,1,none⟩=some (.int .i64 (-1))∧y.cell? ⟨f,2,none⟩=some (.int .i64 (-1))∧y.cell? ⟨f,3,none⟩=some (.int .i64 (-1))∧y.cell? ⟨f,4,none⟩=some (.int .i64 p):=by
 unfold Kkz at h
 refine⟨?_,?_,?_,?_,?_⟩<;>simp[World.cell?,h]
theorem Kkz.frozen {y:World}{f:Nat}{c p:Int}(h:Kkz y f c p)(o:Nat):y.frozen? ⟨f,o,none⟩=false:=by
 unfold Kkz at h
 simp[World.frozen?,h]
theorem Kkz.lt {y:World}{f:Nat}{c p:Int}(h:Kkz y f c p):f<y.heap.size:=Jd h
theorem Kkz.below {y Y:World}{f:Nat}{c p:Int}(h:Kkz y f c p)(z:Below y.heap.size y Y):Kkz Y f c p:=(z.block f h.lt).trans h
end Go.Proofs.YtjjdldddcegjiaaGreatDoor
