/- A store in memory; New; what Load does round the set's Load. -/
import Derived.Test.YtcaocabmioafcaaGreatDoorTu
import Derived.Test.YtcaocabmioafcaaGreatDoorKm
set_option maxHeartbeats 1000000
set_option maxRecDepth 100000
namespace Go.Proofs.YtcaocabmioafcaaGreatDoor
section
open Go.RowKit Go.Shelf Tryz
structure Sto (M:Nat→Prop) (w:World) (st:Nat) (D:DS) (Ts:List TS):Prop where
 ex:∃ (d s:Nat) (F G:Nat→Prop) (sv:Value) (bs:List Nat),Jdu w st d s∧Jfl w G s d Ts sv bs∧Zb w F d D∧(∀ k,G k→¬ F k)∧¬ F s∧(∀ g,sv.ownBlock=some g→¬ F g)∧¬ F st∧¬ G st∧st≠s∧sv.ownBlock≠some st∧(∀ k,F k∨G k∨Jnr s sv k∨k=st→M k)
 lt:∀ k,M k→k<w.heap.size
theorem Sto.stands {H:Nat→Prop}{w w':World}{st:Nat}{D:DS}{J:List TS}(h:Sto H w st D J)(hs:w.heap.size≤w'.heap.size)(hk:∀ k,H k→w'.heap[k]?=w.heap[k]?):Sto H w' st D J:=by
 obtain⟨⟨d,s,F,G,sv,bs,K,M,N,O,R,U,X,Y,Z,L,A⟩,bb⟩:=h
 refine⟨⟨d,s,F,G,sv,bs,?_,M.stands hs fun k I _=>hk k (A k (I.elim (fun a=>.inr (.inl a)) (fun a=>.inr (.inr (.inl a))))),N.stands fun k ba _=>hk k (A k (.inl ba)),O,R,U,X,Y,Z,L,A⟩,fun k I=>Oc2 (bb k I) hs⟩
 unfold Jdu at K ⊢
 rw[hk st (A st (.inr (.inr (.inr rfl))))]
 exact K
theorem Sto.below {A:Nat→Prop}{w w':World}{st:Nat}{D:DS}{H:List TS}(h:Sto A w st D H)(I:Below w.heap.size w w'):Sto A w' st D H:=h.stands I.size fun k hk=>I.block k (h.lt k hk)
theorem Ke2 (d:Nat)(w:World):Calls prog 34 #[.pointer (some ⟨d,0,none⟩)] w fun e w'=>e=.returned (.pointer (some ⟨w.heap.size,0,none⟩))∧w'=w.alloc (.cells #[.pointer (some ⟨d,0,none⟩),.slice none 0 0] 143):=by
 go_enter func34,ntmps34
 go_wp2
 go_ret
 exact⟨rfl,rfl⟩
theorem Kfq (q f:Int)(w:World) :
  Calls prog 10 #[.agg #[.int .i64 q,.int .i64 f]] w fun e w'=>Below w.heap.size w w'∧∃ (st:Nat) (H:Nat→Prop),e=.returned (.pointer (some ⟨st,0,none⟩))∧Sto H w' st (Ku q f) []∧(∀ k,H k→w.heap.size≤k):=by
 have N:Below w.heap.size w (w.alloc (.cells #[.int .i64 q,.int .i64 f] 23)):=(Oa5 _ w).alloc (Oa2 _) _
 have M:=Kcn q f (w.alloc (.cells #[.int .i64 q,.int .i64 f] 23))
 go_enter func10,ntmps10
 go_wp2_with (first|(go_at_call 33;refine M.mono ?_;rintro e A ⟨d,rfl,R,K,O⟩;have I:=Jb N O)|(go_at_call 34;refine(Ke2 d A).mono ?_;rintro e X ⟨rfl,rfl⟩))
 go_ret
 have J:Below A.heap.size A ((A.alloc (.cells #[.pointer (some ⟨d,0,none⟩),.slice none 0 0] 143)).alloc (.cells #[.pointer (some ⟨d,0,none⟩),.pointer (some ⟨A.heap.size,0,none⟩)] 102)):=((Oa5 _ _).alloc (Oa2 _) _).alloc (by simp) _
 have Z:=I.size
 have Y:d<A.heap.size:=by
  obtain⟨sv,ba,U⟩:=K
  exact Jd U.cells
 rw[Oa7]at R
 have L:=heap_alloc_new (A.alloc (.cells #[.pointer (some ⟨d,0,none⟩),.slice none 0 0] 143)) (.cells #[.pointer (some ⟨d,0,none⟩),.pointer (some ⟨A.heap.size,0,none⟩)] 102)
 rw[Oa7]at L
 refine⟨Jb I J,A.heap.size+1,fun k=>k=d∨k=A.heap.size∨k=A.heap.size+1,rfl,⟨⟨d,A.heap.size,fun k=>k=d,fun _=>False,.slice none 0 0,[],L,?_,K.below J,by simp,by omega,by simp[Value.ownBlock],by omega,by simp,by omega,by simp[Value.ownBlock],?_⟩,?_⟩,?_⟩
 ·refine⟨?_,Jo.nil _ _ _,by simp,by simp[Value.ownBlock],rfl,by simp,by simp⟩
  rw[Oa9 _ _ _ (by simp),heap_alloc_new]
 ·rintro k (h|h|h|h)
  ·exact .inl h
  ·exact h.elim
  ·rcases h with h|h
   ·exact .inr (.inl h)
   simp[Value.ownBlock]at h
  exact .inr (.inr h)
 ·rintro k (h|h|h)<;>subst h<;>simp<;>omega
 rintro k (h|h|h)<;>subst h<;>omega
abbrev Ka:Obj:=.cells #[.int .i64 0,.int .i64 0,.int .i64 0,.int .i64 0,.int .i64 0] 68
theorem Ju9 (st s:Nat)(name:ByteArray)(Z ba:Value)(M N bl:Option Addr)(n1 O R c2 bz c3:Nat)(bR:Z=.slice M n1 O)(bS:ba=.slice N R c2)(g:Int)(w:World)(U:Nat→Prop)(bj:∀ k,U k→k<w.heap.size)(bQ:¬ U st)(c1:w.cell? ⟨st,1,none⟩=some (.pointer (some ⟨s,0,none⟩)))
  (c nd X pg:Int) (P:World→Prop)
  (bi:Calls prog 62 #[.pointer (some ⟨s,0,none⟩),.agg #[.string name,Z,ba],.slice bl bz c3,.int .i64 g] ((w.alloc (.cells #[.string name,Z,ba] 30)).alloc Ka).drew fun e w'=>∃ ev,e=.returned ev∧Ju U ((w.alloc (.cells #[.string name,Z,ba] 30)).alloc Ka) w'∧P w'∧Calls prog 39 #[ev] w' (fun e bk=>e=.returned (Jjp c nd X pg)∧Below w'.heap.size w' bk)) :
  Calls prog 36 #[.pointer (some ⟨st,0,none⟩),.agg #[.string name,Z,ba],.slice bl bz c3,.int .i64 g] w fun e w'=>e=.returned (Jjp c nd X pg)∧∃ I,P I∧Ju U ((w.alloc (.cells #[.string name,Z,ba] 30)).alloc Ka) I∧Ju (fun k=>k=w.heap.size+1) I w':=by
 subst bR bS
 have bn:Below w.heap.size w ((w.alloc (.cells #[.string name,.slice M n1 O,.slice N R c2] 30)).alloc Ka):=((Oa5 _ w).alloc (Oa2 _) _).alloc (by simp) _
 have bh:=Ja bn c1
 have bY:st<w.heap.size:=Jm c1
 have n0:¬ U w.heap.size:=fun h=>Oe3 _ (bj _ h)
 have bW:¬ U (w.heap.size+1):=fun h=>by have:=bj _ h;omega
 obtain⟨W,hW⟩:∃ W,W=(w.alloc (.cells #[.string name,.slice M n1 O,.slice N R c2] 30)).alloc Ka:=⟨_,rfl⟩
 have bA:W.cell? ⟨w.heap.size,0,none⟩=some (.string name):=by rw[hW,Oe5 _ _ _ (by simp)];simp
 have bB:W.cell? ⟨w.heap.size,1,none⟩=some (.slice M n1 O):=by rw[hW,Oe5 _ _ _ (by simp)];simp
 have bC:W.cell? ⟨w.heap.size,2,none⟩=some (.slice N R c2):=by rw[hW,Oe5 _ _ _ (by simp)];simp
 have bO:W.heap[w.heap.size+1]?=some (.cells #[.int .i64 0,.int .i64 0,.int .i64 0,.int .i64 0,.int .i64 0] 68 (0,0)):=by
  rw[hW]
  have:=heap_alloc_new (w.alloc (.cells #[.string name,.slice M n1 O,.slice N R c2] 30)) Ka
  rwa [Oa7]at this
 have bX:W.heap.size=w.heap.size+2:=by rw[hW];simp
 rw[←hW]at bi bn bh
 clear bj
 go_enter func36,ntmps36
 go_wp2_with fail
 rw[←hW]
 have bG:Hid (W=(w.alloc (.cells #[.string name,.slice M n1 O,.slice N R c2] 30)).alloc Ka):=hW
 clear hW
 refine wp_region_held_drew (S:=fun bf=>bf.cell? ⟨st,1,none⟩=some (.pointer (some ⟨s,0,none⟩))∧bf.cell? ⟨w.heap.size,0,none⟩=some (.string name)∧bf.cell? ⟨w.heap.size,1,none⟩=some (.slice M n1 O)∧bf.cell? ⟨w.heap.size,2,none⟩=some (.slice N R c2)) (by kernel_rfl) ⟨bh,bA,bB,bC⟩ (fun A=>?_)
 refine Kn 0 rfl A ?_
 refine Kn 1 rfl A ?_
 refine Kn 2 rfl A ?_
 refine Kn 3 rfl A ?_
 refine Kn 4 rfl A ?_
 refine Kn 5 rfl A ?_
 refine Kn 6 rfl A ?_
 refine tkn ?_
 refine tkr 7 rfl fun bb K=>?_
 go_simp
 refine bi.mono ?_
 rintro e I ⟨ev,rfl,hk,bx,br⟩
 have bE:Hid (P I):=bx
 have bD:Hid (Calls prog 39 #[ev] I (fun e bk=>e=.returned (Jjp c nd X pg)∧Below I.heap.size I bk)):=br
 clear bx br bi
 go_simp
 refine K.out _ _ ⟨hk.cell bh bQ,hk.cell bA n0,hk.cell bB n0,hk.cell bC n0⟩ (fun A=>?_)
 clear K bb
 refine tkr 8 rfl fun bb K=>?_
 go_simp
 refine bD.out.mono ?_
 rintro e J ⟨rfl,H⟩
 go_simp
 refine K.out _ _ ⟨Ja H A.1,Ja H A.2.1,Ja H A.2.2.1,Ja H A.2.2.2⟩ (fun A=>?_)
 clear K bb
 have bZ:=hk.size
 have L:J.heap[w.heap.size+1]?=some (.cells #[.int .i64 0,.int .i64 0,.int .i64 0,.int .i64 0,.int .i64 0] 68 (0,0)):=
  (H.block _ (by omega)).trans ((hk.block _ (by omega) bW).trans bO)
 have k0:J.cell? ⟨w.heap.size+1,0,none⟩=some (.int .i64 0):=by simp[World.cell?,L]
 have k1:J.cell? ⟨w.heap.size+1,1,none⟩=some (.int .i64 0):=by simp[World.cell?,L]
 have bT:J.cell? ⟨w.heap.size+1,2,none⟩=some (.int .i64 0):=by simp[World.cell?,L]
 have bU:J.cell? ⟨w.heap.size+1,3,none⟩=some (.int .i64 0):=by simp[World.cell?,L]
 have bV:J.cell? ⟨w.heap.size+1,4,none⟩=some (.int .i64 0):=by simp[World.cell?,L]
 have Y:∀ o:Nat,J.frozen? ⟨w.heap.size+1,o,none⟩=false:=fun o=>by simp[World.frozen?,L]
 have bH:=Y 0
 have bI:=Y 1
 have bJ:=Y 2
 have bK:=Y 3
 have bL:=Y 4
 have bu:=Jk (Jk (Jk (Jk (Jk L 0 (.int .i64 c)) 1 (.int .i64 nd)) 2 (.int .i64 (-1))) 3 (.int .i64 X)) 4 (.int .i64 pg)
 simp only[Oa1,List.set_cons_zero,List.set_cons_succ]at bu
 clear L Y
 refine tkr 9 rfl fun bb K=>?_
 go_simp
 have bc:∀ (b o:Nat),b≠w.heap.size+1→(((((J.setCell ⟨w.heap.size+1,0,none⟩ (.int .i64 c)).setCell ⟨w.heap.size+1,1,none⟩ (.int .i64 nd)).setCell ⟨w.heap.size+1,2,none⟩ (.int .i64 (-1))).setCell ⟨w.heap.size+1,3,none⟩ (.int .i64 X)).setCell ⟨w.heap.size+1,4,none⟩ (.int .i64 pg)).cell? ⟨b,o,none⟩=J.cell? ⟨b,o,none⟩:=fun b o bM=>by
  simp only[World.cell?,Zh _ _ _ _ _ _ _ b bM]
 refine K.out _ _ ⟨(bc _ _ (by omega)).trans A.1,(bc _ _ (by omega)).trans A.2.1,(bc _ _ (by omega)).trans A.2.2.1,(bc _ _ (by omega)).trans A.2.2.2⟩ (fun A=>?_)
 clear K bb bc A k0 k1 bT bU bV bH bI bJ bK bL
 refine wpAnyH_done (by kernel_rfl) ?_ _
 go_wp2
 refine bodyPost_ret (v:=Jjp c nd X pg) (by simp[results,results36,go_sem,Jjp,World.cell?,bu]) rfl ⟨rfl,I,bE.out,by rw[←bG.out];exact hk,?_⟩
 exact⟨H.os,H.tape,H.output,by rw[Jg2];exact H.size,fun k bN bP=>(Zh _ _ _ _ _ _ _ k bP).trans (H.block k bN)⟩
end
section
open Go.RowKit Go.Shelf Tryz
structure Jax (w:World) (a0 a1 a2 tt q wr pg pl ex ta:Addr):Prop where
 e:Jf0 w a0 a1 a2
 m:Jkn w a0 a1 a2 tt q wr pg
 m2:Jhy w [a0,a1,a2,tt,q,wr,pg] pl ex
 c:w.cell? ⟨1,0,none⟩=some (.iface 528 (.pointer (some ta)))
 b:∃ c t,w.heap[ta.block]?=some (.cells c t (0,0))
 n:ta∉[a0,a1,a2,tt,q,wr,pg,pl,ex]
 m3:∃ dv ov gv mn,Jig w [ex,pl,a0,a1,a2,tt,q,wr,pg] dv ov gv mn∧ta∉[dv,ov,gv,mn]
theorem Jax.below {w w':World}{H I J L q wr pg pl ex K:Addr}(h:Jax w H I J L q wr pg pl ex K)(A:Below w.heap.size w w'):Jax w' H I J L q wr pg pl ex K:=
 ⟨h.e.below A,h.m.below A,h.m2.below A,Ja A h.c,Kg A h.b,h.n,by obtain⟨M,X,N,U,O,R⟩:=h.m3;exact⟨M,X,N,U,O.below A,R⟩⟩
abbrev Ja0:Type:=Unit⊕(Unit⊕(Nat⊕((Bool×DS)⊕(DS×TS))))
abbrev Ja0.arg:Ja0:=.inl ()
abbrev Ja0.table:Ja0:=.inr (.inl ())
abbrev Ja0.dict (c:Nat):Ja0:=.inr (.inr (.inl c))
abbrev Ja0.disk (x:Bool)(D:DS):Ja0:=.inr (.inr (.inr (.inl (x,D))))
abbrev Ja0.ok (D:DS)(T:TS):Ja0:=.inr (.inr (.inr (.inr (D,T))))
def Ja0.fault:Ja0→Value
 |.inl _=>Jbz 1 (-1) (-1)
 |.inr (.inl _)=>Jbz 4 (-1) (-1)
 |.inr (.inr (.inl c))=>Jbz 2 (c:Int) (-1)
 |.inr (.inr (.inr (.inl x)))=>Jbz (if x.1 then 5 else 6) (-1) (-1)
 |.inr (.inr (.inr (.inr _)))=>Jbz 0 (-1) (-1)
def Ja0.d (D:DS):Ja0→DS
 |.inr (.inr (.inr (.inl x)))=>x.2
 |.inr (.inr (.inr (.inr x)))=>x.1
 |_=>D
def Ja0.ts (A:List TS):Ja0→List TS
 |.inr (.inr (.inr (.inr x)))=>A++[x.2]
 |_=>A
def Khs (name:ByteArray)(ts hs:List Int)(rs:List (List V))(g:Int):Decidable (Jel name ts rs∧Je3 ts hs∧1≤g∧g≤64):=by
 unfold Jel Je3
 infer_instance
def Jbd (D:DS)(A:List TS)(name:ByteArray)(ts hs:List Int)(rs:List (List V))(g:Int):Ja0:=
 @ite _ (Jel name ts rs∧Je3 ts hs∧1≤g∧g≤64) (Khs name ts hs rs g)
  (if Ub A name<A.length∨6≤A.length then .table
  else match Jfg rs ts hs (cks rs.length g.toNat (ckN rs.length g.toNat))with
   |.inr c=>.dict c
   |.inl T=>match (Jq D T).2.2 with
    |some x=>.disk x (Jcg (Jq D T).1 (Jq D T).2.1)
    |none=>.ok (Jq D T).1 ⟨name,ts,rs.length,g.toNat,(Jq D T).2.1⟩)
  .arg
theorem Jn8 {I J:Nat→Prop}{w W K w':World}{j:Nat}(A:Below w.heap.size w W)(hk:Ju J W K)(H:Ju (fun k=>k=j) K w')(O:w.heap.size≤j)(L:∀ k,J k→I k):Ju I w w':=by
 have R:=A.size
 have U:=hk.size
 have X:=H.size
 refine⟨(H.os.trans hk.os).trans A.os,(H.tape.trans hk.tape).trans A.tape,(H.output.trans hk.output).trans A.output,by omega,fun k M N=>?_⟩
 exact(H.block k (by omega) (by omega)).trans ((hk.block k (by omega) fun h=>N (L k h)).trans (A.block k M))
def Jy0 (A:Nat→Prop)(w:World)(st:Nat)(D:DS)(I:List TS)(r:Ja0)(e:Ending)(w':World):Prop:=
 e=.returned r.fault∧Ju A w w'∧∃ H:Nat→Prop,Sto H w' st (r.d D) (r.ts I)∧(∀ k,A k→H k)∧(∀ k,H k→A k∨w.heap.size≤k)
theorem Kt2 {H:Nat→Prop}{w W L w':World}{st:Nat}{D:DS}{A:List TS}(h:Sto H w st D A)(I:Below w.heap.size w W)(J:Below W.heap.size W L)(K:Ju (fun k=>k=w.heap.size+1) L w')(r:Ja0)(M:r.d D=D)(O:r.ts A=A)(e:Ending)(N:e=.returned r.fault):Jy0 H w st D A r e w':=by
 have R:=I.size
 have U:=J.size
 have X:=K.size
 refine⟨N,Jn8 I (Ju.of_below (F:=fun _=>False) J) K (by omega) (fun _ h=>h.elim),H,?_,fun k hk=>hk,fun k hk=>.inl hk⟩
 rw[M,O]
 refine h.stands (by omega) fun k hk=>?_
 have:=h.lt k hk
 exact(K.block k (by omega) (by omega)).trans ((J.block k (by omega)).trans (I.block k this))
theorem Jyt (K:Nat→Prop)(st:Nat)(D:DS)(I:List TS)(name:ByteArray)(at_ ar ah:Option Addr)(ct cr ch:Nat)(ts hs:List Int)(xs:List (Option Addr×Nat))(rs:List (List V))(g:Int)(w:World)(h:Sto K w st D I)(bZ:Kct w name at_ ar ah cr ts hs xs rs)(ca:∀ b o,at_=some ⟨b,o,none⟩→¬ K b)(cI:D.pages.length≤800000)
  (bE bG bH cT q wr pg pl ex cR:Addr) (bf:World) (bk:Jax bf bE bG bH cT q wr pg pl ex cR) (cB:Below bf.heap.size bf w) (bM:∀ k,K k→bf.heap.size≤k) (cx:∀ x∈hs,Qba x) (J:∃ E T,Jbd D I name ts hs rs g=.ok E T) :
  Calls prog 36 #[.pointer (some ⟨st,0,none⟩),Jvc name at_ ar ct cr ts rs,.slice ah hs.length ch,.int .i64 g] w fun e w'=>Jy0 K w st D I (Jbd D I name ts hs rs g) e w':=by
 have cV:=h
 have bN:=bk.below cB
 have cn:¬ K 4:=fun bA=>by have U:=bM _ bA;have X:=Jm bk.m.cq;simp only at X;omega
 have cu:¬ K 5:=fun bA=>by have U:=bM _ bA;have X:=Jm bk.m.cw;simp only at X;omega
 obtain⟨⟨d,s,F,G,sv,bs,U,X,bU,bV,bW,bX,bK,bY,bL,bJ,H⟩,N⟩:=h
 obtain⟨W,hW⟩:∃ W,W=(w.alloc (Jln name at_ ar ct cr ts rs)).alloc Ka:=⟨_,rfl⟩
 have L:Below w.heap.size w W:=by rw[hW];exact((Oa5 _ w).alloc (Oa2 _) _).alloc (by simp) _
 have Y:Below w.heap.size w W.drew:=⟨L.os,L.tape,L.output,L.size,L.block⟩
 have bO:W.heap.size=w.heap.size+2:=by rw[hW];simp
 have bl:=bN.below Y
 have cb:=bZ.below Y
 obtain⟨n1,cX,cY,cZ,da,db,dc⟩:=Jim bN.m
 have bI:=fun (bj:Nat→Prop) (bc:∀ k,bj k→k<w.heap.size) (cJ:¬ bj st) (c nd bT cQ:Int) (P:World→Prop) bb=>Ju9 st s name (.slice at_ ts.length ct) (.slice ar rs.length cr) at_ ar ah ts.length ct rs.length cr hs.length ch rfl rfl g w bj bc cJ U.field.2 c nd bT cQ P bb
 have cv:(w.alloc (.cells #[.string name,.slice at_ ts.length ct,.slice ar rs.length cr] 30)).alloc Ka=W:=hW.symm
 rw[cv]at bI
 obtain⟨M,R,T,Z,ba⟩:(Jel name ts rs∧Je3 ts hs∧1≤g∧g≤64)∧¬ (Ub I name<I.length∨6≤I.length)∧∃ T,Jfg rs ts hs (cks rs.length g.toNat (ckN rs.length g.toNat))=.inl T∧(Jq D T).2.2=none:=by
  obtain⟨E,cU,J⟩:=J
  unfold Jbd at J
  by_cases M:Jel name ts rs∧Je3 ts hs∧1≤g∧g≤64
  ·rw[if_pos M]at J
   by_cases R:Ub I name<I.length∨6≤I.length
   ·rw[if_pos R]at J
    cases J
   rw[if_neg R]at J
   rcases Z:Jfg rs ts hs (cks rs.length g.toNat (ckN rs.length g.toNat))with T|c
   ·rw[Z]at J
    cases ba:(Jq D T).2.2 with
    |some x=>
     simp only[ba]at J
     cases J
    |none=>exact⟨M,R,T,rfl,ba⟩
   rw[Z]at J
   cases J
  rw[if_neg M]at J
  cases J
 have cD:((g.toNat:Nat):Int)=g:=by omega
 have cE:Jqy W.drew s d F G D I sv bs name at_ ar ah cr ts hs xs rs g.toNat:=
  ⟨cb,M.1,M.2.1,by omega,by omega,X.below Y,fun A=>R (.inl A),by omega,bU.below Y,fun k hk=>Oc2 (N k (H k (hk.elim .inl fun a=>.inr (.inl a)))) Y.size,bV,bW,bX,fun b o cA A=>ca b o cA (H b (.inl A)),cI,cx⟩
 have ck:=bl.m.cq
 have cl:=bl.m.cw
 have cf:¬ F 4:=fun A=>cn (H _ (.inl A))
 have ci:¬ F 5:=fun A=>cu (H _ (.inl A))
 have cG:Jbd D I name ts hs rs g=.ok (Jq D T).1 ⟨name,ts,rs.length,g.toNat,(Jq D T).2.1⟩:=by unfold Jbd;rw[if_pos M,if_neg R,Z];simp only;rw[ba]
 rw[cG]
 have bb:=Ked s d F G D I sv bs name at_ ar ah ct cr ch ts hs xs rs g.toNat W.drew cE bE bG bH bl.e T Z q wr ck cl cf ci ba
 rw[cD]at bb
 have cW:=L.size
 have bc:∀ k,F k∨Jnr s sv k→K k:=fun k hk=>hk.elim (fun a=>H k (.inl a)) fun a=>H k (.inr (.inr (.inl a)))
 have bS:¬ (F st∨Jnr s sv st):=fun h=>h.elim bK fun a=>a.elim bL bJ
 refine(bI (fun k=>F k∨Jnr s sv k) (fun k hk=>N k (bc k hk)) bS 0 (-1) (-1) (-1) (fun bh=>Jdl W.drew s d F G D I sv bs name ts rs g.toNat T bh) (bb.mono fun e bh ⟨bn,hk⟩=>⟨_,bn,⟨hk.1.os,hk.1.tape,hk.1.output,hk.1.size,hk.1.block⟩,hk,Jjq bh⟩)).mono fun e w' ⟨bn,bh,⟨_,FD,bi,sv',cS,cC,bR,br,bx,bQ,cz,cH,cM,bD⟩,hk,O⟩=>⟨bn,Jn8 L hk O (by omega) bc,fun k=>K k∨FD k∨bi k∨Jnr s sv' k,?_,fun k hk=>.inl hk,?_⟩
 ·have bP:Ju (fun k=>F k∨Jnr s sv k) w w':=Jn8 L hk O (by omega) (fun _ h=>h)
  have cK:st<w.heap.size:=N st (H st (.inr (.inr (.inr rfl))))
  have cj:∀ k,G k→k<w.heap.size:=fun k bu=>N k (H k (.inr (.inl bu)))
  have bC:∀ k,Jnr s sv k→k<w.heap.size:=fun k bB=>N k (H k (.inr (.inr (.inl bB))))
  have cc:∀ k,F k→k<w.heap.size:=fun k A=>N k (H k (.inl A))
  have cy:W.drew.heap.size=w.heap.size+2:=bO
  have cN:∀ k,FD k→k≠w.heap.size+1:=fun k A e=>by
   rcases br k A with a|a
   ·have:=cc k a;omega
   omega
  have cO:∀ k,bi k→k≠w.heap.size+1:=fun k A e=>by
   rcases bx k A with a|a
   ·have:=cj k a;omega
   omega
  have cP:∀ k,Jnr s sv' k→k≠w.heap.size+1:=fun k bB e=>by
   rcases bB with a|a
   ·have:=bC s (.inl rfl);omega
   rcases bD k a with b|b
   ·have:=bC k (.inr b);omega
   omega
  refine⟨⟨d,s,FD,bi,sv',bs++[cS],?_,bR.stands O.size fun k cF bz=>O.block k bz (cF.elim (cO k) (cP k)),cC.stands fun k A bz=>O.block k bz (cN k A),cz,cH,cM,fun A=>?_,fun bu=>?_,bL,fun cL=>?_,?_⟩,?_⟩
  ·unfold Jdu at U ⊢
   rw[bP.block st cK bS]
   exact U
  ·rcases br st A with a|a
   ·exact bK a
   omega
  ·rcases bx st bu with a|a
   ·exact bY a
   omega
  ·rcases bD st cL with a|a
   ·exact bJ a
   omega
  ·rintro k (a|a|a|a)
   ·exact .inr (.inl a)
   ·exact .inr (.inr (.inl a))
   ·exact .inr (.inr (.inr a))
   exact .inl (H k (.inr (.inr (.inr a))))
  have de:=O.size
  have df:=bP.size
  rintro k (a|a|a|a)
  ·have:=N k a;omega
  ·have:=bQ k (.inl a);omega
  ·have:=bQ k (.inr a);omega
  rcases a with a|a
  ·have:=bC s (.inl rfl);omega
  have:=Qk bR.own a;omega
 have cy:W.drew.heap.size=w.heap.size+2:=bO
 rintro k (a|a|a|a)
 ·exact .inl a
 ·rcases br k a with b|b
  ·exact .inl (H k (.inl b))
  exact .inr (by omega)
 ·rcases bx k a with b|b
  ·exact .inl (H k (.inr (.inl b)))
  exact .inr (by omega)
 rcases a with a|a
 ·exact .inl (H k (.inr (.inr (.inl (.inl a)))))
 rcases bD k a with b|b
 ·exact .inl (H k (.inr (.inr (.inl (.inr b)))))
 exact .inr (by omega)
theorem Qan (bf:Nat→Prop)(st:Nat)(D:DS)(J:List TS)(name:ByteArray)(at_ ar ah:Option Addr)(ct cr ch:Nat)(ts hs:List Int)(xs:List (Option Addr×Nat))(rs:List (List V))(g:Int)(w:World)(h:Sto bf w st D J)(bY:Kct w name at_ ar ah cr ts hs xs rs)(bZ:∀ b o,at_=some ⟨b,o,none⟩→¬ bf b)(ci:J.length<6→D.pages.length≤800000)
  (ba M Y X q wr pg pl ex br:Addr) (bD:World) (bA:Jax bD ba M Y X q wr pg pl ex br) (bB:Below bD.heap.size bD w) (bG:∀ k,bf k→bD.heap.size≤k) :
  Calls prog 36 #[.pointer (some ⟨st,0,none⟩),Jvc name at_ ar ct cr ts rs,.slice ah hs.length ch,.int .i64 g] w fun e w'=>Jy0 bf w st D J (Jbd D J name ts hs rs g) e w':=by
 have bH:=h
 have ca:=bA.below bB
 have cE:¬ bf 4:=fun bW=>by have bx:=bG _ bW;have bi:=Jm bA.m.cq;simp only at bi;omega
 have cF:¬ bf 5:=fun bW=>by have bx:=bG _ bW;have bi:=Jm bA.m.cw;simp only at bi;omega
 obtain⟨⟨d,s,F,G,sv,bs,bx,bi,bL,bz,bM,bN,bO,cv,cx,cu,K⟩,bk⟩:=h
 obtain⟨W,hW⟩:∃ W,W=(w.alloc (Jln name at_ ar ct cr ts rs)).alloc Ka:=⟨_,rfl⟩
 have O:Below w.heap.size w W:=by rw[hW];exact((Oa5 _ w).alloc (Oa2 _) _).alloc (by simp) _
 have bh:Below w.heap.size w W.drew:=⟨O.os,O.tape,O.output,O.size,O.block⟩
 have cS:W.heap.size=w.heap.size+2:=by rw[hW];simp
 have bb:=ca.below bh
 have bP:=bY.below bh
 obtain⟨n1,cM,cU,cN,cO,cP,cV⟩:=Jim ca.m
 have bu:=fun (bJ:Nat→Prop) (cD:∀ k,bJ k→k<w.heap.size) (cK:¬ bJ st) (c nd ck cR:Int) (P:World→Prop) N=>Ju9 st s name (.slice at_ ts.length ct) (.slice ar rs.length cr) at_ ar ah ts.length ct rs.length cr hs.length ch rfl rfl g w bJ cD cK bx.field.2 c nd ck cR P N
 have cG:(w.alloc (.cells #[.string name,.slice at_ ts.length ct,.slice ar rs.length cr] 30)).alloc Ka=W:=hW.symm
 rw[cG]at bu
 by_cases bc:Jel name ts rs∧Je3 ts hs∧1≤g∧g≤64
 ·by_cases bn:Ub J name<J.length∨6≤J.length
  ·have bl:Jbd D J name ts hs rs g=.table:=by unfold Jbd;rw[if_pos bc,if_pos bn]
   rw[bl]
   have N:=Kw6 s d name at_ ar ah ct cr ch ts hs xs rs g W.drew bP bc G J sv bs (bi.below bh) X bb.m.ct bn
   refine(bu (fun _=>False) (fun _ h=>h.elim) id 4 (-1) (-1) (-1) (fun A=>Below W.heap.size W A) (N.mono fun e A ⟨L,R⟩=>⟨_,L,Ju.of_below (Jw R),Jw R,?_⟩)).mono fun e w' ⟨L,A,U,_,Z⟩=>Kt2 bH O U Z _ rfl rfl e L
   have I:=bb.below R
   have:=Jj9 _ X none none A (.root X) I.m.bt ba M Y X q wr pg (by simp) I.e I.m
   rw[cN]at this
   exact this
  have cb:((g.toNat:Nat):Int)=g:=by omega
  have cc:Jqy W.drew s d F G D J sv bs name at_ ar ah cr ts hs xs rs g.toNat:=
   ⟨bP,bc.1,bc.2.1,by omega,by omega,bi.below bh,fun H=>bn (.inl H),by omega,bL.below bh,fun k hk=>Oc2 (bk k (K k (hk.elim .inl fun a=>.inr (.inl a)))) bh.size,bz,bM,bN,fun b o bQ H=>bZ b o bQ (K b (.inl H)),ci (by omega),fun x _=>Ku8 x⟩
  rcases U:Jfg rs ts hs (cks rs.length g.toNat (ckN rs.length g.toNat))with T|c
  ·have cB:=bb.m.cq
   have cC:=bb.m.cw
   have cy:¬ F 4:=fun H=>cE (K _ (.inl H))
   have cz:¬ F 5:=fun H=>cF (K _ (.inl H))
   cases hx:(Jq D T).2.2 with
   |some x=>
    have bl:Jbd D J name ts hs rs g=.disk x (Jcg (Jq D T).1 (Jq D T).2.1):=by unfold Jbd;rw[if_pos bc,if_neg bn,U];simp only;rw[hx]
    rw[bl]
    have N:=Kyk s d F G D J sv bs name at_ ar ah ct cr ch ts hs xs rs g.toNat W.drew cc ba M Y bb.e T U q wr cB cC cy cz x hx
    rw[cb]at N
    have cT:=O.size
    have cJ:∀ A,Ju F W.drew A→Jax A ba M Y X q wr pg pl ex br:=fun A hk=>bA.below (bB.trans ((bh.mono bB.size).trans (hk.below (fun k bT H=>by have:=bG k (K k (.inl H));omega) (Ob2 bB.size bh.size))))
    refine(bu F (fun k hk=>bk k (K k (.inl hk))) bO (if x then 5 else 6) (-1) (-1) (-1) (fun A=>∃ FD:Nat→Prop,Zb A FD d (Jcg (Jq D T).1 (Jq D T).2.1)∧(∀ k,FD k→F k∨W.heap.size≤k)∧(∀ k,FD k→k<A.heap.size)) (N.mono fun e A ⟨hk,FD,bS,bC,bV,b,L,bR⟩=>⟨_,L,⟨hk.os,hk.tape,hk.output,hk.size,hk.block⟩,⟨FD,bS,bC,bV⟩,?_⟩)).mono fun e w' ⟨L,A,⟨FD,bS,bC,bV⟩,hk,Z⟩=>⟨L,Jn8 O hk Z (by omega) (fun k hk=>K k (.inl hk)),fun k=>bf k∨FD k,?_,fun k hk=>.inl hk,fun k hk=>hk.elim .inl fun H=>(bC k H).elim (fun a=>.inl (K k (.inl a))) fun a=>.inr (by omega)⟩
    ·have I:=cJ A hk
     have bQ:∃ c t,A.heap[(if x then q else wr).block]?=some (.cells c t (0,0)):=by cases x with
      |true=>exact I.m.bq
      |false=>exact I.m.bw
     have:=Jj9 _ (if x then q else wr) (some (-1)) (some (-1)) A bR bQ ba M Y X q wr pg (by cases x<;>simp) I.e I.m
     have cH:Jdh M Y X q wr pg (if x then q else wr)=if x then 5 else 6:=by cases x with
      |true=>exact cO
      |false=>exact cP
     rw[cH]at this
     exact this
    have bI:Ju F w w':=Jn8 O hk Z (by omega) (fun _ h=>h)
    have cj:st<w.heap.size:=bk st (K st (.inr (.inr (.inr rfl))))
    have bE:∀ k,k<w.heap.size→FD k→F k:=fun k bT H=>(bC k H).resolve_right (by omega)
    have cA:∀ k,G k→k<w.heap.size:=fun k bj=>bk k (K k (.inr (.inl bj)))
    have cf:∀ k,Jnr s sv k→k<w.heap.size:=fun k bX=>bk k (K k (.inr (.inr (.inl bX))))
    have cI:∀ k,Jnr s sv k→¬ F k:=fun k bX=>bX.elim (fun a=>by rw[a];exact bM) fun a=>bN k a
    refine⟨⟨d,s,FD,G,sv,bs,?_,bi.stands bI.size fun k bT bU=>bI.block k bU (bT.elim (bz k) (cI k)),bS.stands fun k H bU=>Z.block k bU fun e=>?_,fun k bj H=>bz k bj (bE k (cA k bj) H),fun H=>bM (bE s (cf s (.inl rfl)) H),fun bK bj H=>bN bK bj (bE bK (cf bK (.inr bj)) H),fun H=>bO (bE st cj H),cv,cx,cu,?_⟩,?_⟩
    ·unfold Jdu at bx ⊢
     rw[bI.block st cj bO]
     exact bx
    ·rcases bC k H with a|a
     ·have:=bk k (K k (.inl a));omega
     omega
    ·rintro k (a|a|a|a)
     ·exact .inr a
     ·exact .inl (K k (.inr (.inl a)))
     ·exact .inl (K k (.inr (.inr (.inl a))))
     exact .inl (K k (.inr (.inr (.inr a))))
    have cW:=Z.size
    have cX:=bI.size
    rintro k (a|a)
    ·have:=bk k a;omega
    have:=bV k a;omega
   |none=>
    exact Jyt bf st D J name at_ ar ah ct cr ch ts hs xs rs g w bH bY bZ (ci (by omega)) ba M Y X q wr pg pl ex br bD bA bB bG (fun x _=>Ku8 x) ⟨_,_,by unfold Jbd;rw[if_pos bc,if_neg bn,U];simp only;rw[hx]⟩
  have bl:Jbd D J name ts hs rs g=.dict c:=by unfold Jbd;rw[if_pos bc,if_neg bn,U]
  rw[bl]
  have N:=Kys s d F G D J sv bs name at_ ar ah ct cr ch ts hs xs rs g.toNat W.drew cc ba M Y bb.e c U
  rw[cb]at N
  refine(bu (fun _=>False) (fun _ h=>h.elim) id 2 (-1) (c:Int) (-1) (fun A=>Below W.heap.size W A) (N.mono fun e A ⟨R,b,L,bR⟩=>⟨_,L,Ju.of_below (Jw R),Jw R,?_⟩)).mono fun e w' ⟨L,A,U,_,Z⟩=>Kt2 bH O U Z _ rfl rfl e L
  have I:=bb.below R
  have:=Jj9 _ M (some (c:Int)) none A bR I.e.b1 ba M Y X q wr pg (by simp) I.e I.m
  rw[cM]at this
  exact this
 have bl:Jbd D J name ts hs rs g=.arg:=by unfold Jbd;rw[if_neg bc]
 rw[bl]
 have N:=Kzy s name at_ ar ah ct cr ch ts hs xs rs g W.drew bP br bb.c bc
 refine(bu (fun _=>False) (fun _ h=>h.elim) id 1 (-1) (-1) (-1) (fun A=>Below W.heap.size W A) (N.mono fun e A ⟨L,R⟩=>⟨_,L,Ju.of_below (Jw R),Jw R,?_⟩)).mono fun e w' ⟨L,A,U,_,Z⟩=>Kt2 bH O U Z _ rfl rfl e L
 have I:=bb.below R
 obtain⟨cl,cQ,cn,cL,bL,bz⟩:=I.m3
 exact Kvu _ br none none A (.root br) I.b ba M Y X q wr pg pl ex cl cQ cn cL I.n bz I.e I.m I.m2 bL
end
section
open Go.RowKit Go.Shelf Tryz
theorem Kyt (H:Nat→Prop)(st:Nat)(D:DS)(A:List TS)(w:World)(h:Sto H w st D A) :
  Calls prog 15 #[.pointer (some ⟨st,0,none⟩)] w fun e w'=>e=.returned (.slice (some ⟨w.heap.size,0,none⟩) A.length A.length)∧w'.rowIs w.heap.size 9 A.length (Kty A)∧Below w.heap.size w w':=by
 obtain⟨⟨d,s,F,G,sv,bs,I,J,L,M,N,O,R,U,X,K,Y⟩,Z⟩:=h
 exact Kx4 st w G s d A sv bs I J
theorem Qaw (A:Nat→Prop)(st:Nat)(D:DS)(H:List TS)(w:World)(h:Sto A w st D H) :
  Calls prog 19 #[.pointer (some ⟨st,0,none⟩)] w fun e w'=>e=.returned (.int .i64 ((Js D.pages:Nat):Int))∧w'=w:=by
 obtain⟨⟨d,s,F,G,sv,bs,I,L,J,M,N,O,R,U,X,K,Y⟩,Z⟩:=h
 exact Qar st w F s d D I J
theorem Kcc (M:Nat→Prop)(st:Nat)(D:DS)(A:List TS)(n:ByteArray)(w:World)(h:Sto M w st D A)(U:∀ T∈A,Jid D T)(H I J L q wr pg pl ex X:Addr)(K:Jax w H I J L q wr pg pl ex X) :
  Calls prog 47 #[.pointer (some ⟨st,0,none⟩),.string n] w fun e w'=>Jr7 w (Jf8 D A n) e w':=by
 obtain⟨⟨d,s,F,G,sv,bs,N,O,R,Z,ba,bb,bc,bf,bh,Y,bi⟩,bj⟩:=h
 exact Kej st n w F G s d D A sv bs N O R U H I J L q wr pg K.e K.m
def Kuv (H:Nat→Prop)(w:World)(st:Nat)(D:DS)(A:List TS)(n:ByteArray)(e:Ending)(w':World):Prop:=
 match A[Ub A n]? with
  |none=>e=.returned (Jbz 4 (-1) (-1))∧Below w.heap.size w w'
  |some T=>e=.returned (fault 0)∧Ju H w w'∧Sto H w' st (Jcg D T.segs) (A.eraseIdx (Ub A n))
theorem Qa1 (N:Nat→Prop)(st:Nat)(D:DS)(A:List TS)(n:ByteArray)(w:World)(h:Sto N w st D A)(bu:∀ T∈A,T.segs.length≤1000000∧∀ l∈T.segs,l.length≤1000000)(O R U bh q wr pg pl ex bA:Addr)(bf:Jax w O R U bh q wr pg pl ex bA) :
  Calls prog 13 #[.pointer (some ⟨st,0,none⟩),.string n] w fun e w'=>Kuv N w st D A n e w':=by
 obtain⟨⟨d,s,F,G,sv,bs,J,bi,bj,Y,Z,ba,bb,bk,bc,X,H⟩,L⟩:=h
 refine(Qaj st n w F G s d D A sv bs J bi bj Y Z ba (fun k hk=>L k (H k (hk.elim .inl fun a=>.inr (.inl a)))) bu O R U bh q wr pg bf.e bf.m).mono fun e w' ⟨hk,I⟩=>?_
 unfold Kuv
 cases hr:A[Ub A n]? with
 |none=>rw[hr]at I;exact I
 |some T=>
  rw[hr]at I
  obtain⟨bn,bl,sv',M,hs⟩:=I
  have bx:st<w.heap.size:=L st (H st (.inr (.inr (.inr rfl))))
  have bz:=hk.size
  refine⟨bn,hk.mono fun k _ h=>H k (h.elim .inl fun a=>.inr (.inr (.inl a))),⟨d,s,F,G,sv',_,?_,hs,bl,Y,Z,fun g br=>ba g (M▸br),bb,bk,bc,by rw[M];exact X,fun k K=>H k ?_⟩,fun k K=>Oc2 (L k K) bz⟩
  ·unfold Jdu at J ⊢
   rw[hk.block st bx (fun h=>h.elim bb fun a=>a.elim bc X)]
   exact J
  rcases K with a|a|a|a
  ·exact .inl a
  ·exact .inr (.inl a)
  ·refine .inr (.inr (.inl ?_))
   rcases a with a|a
   ·exact .inl a
   exact .inr (M▸a)
  exact .inr (.inr (.inr a))
theorem Qaa (K:Nat→Prop)(st:Nat)(D:DS)(L:List TS)(page at_ A:Int)(w:World)(h:Sto K w st D L)(J:Kue D page at_ A=false) :
  Calls prog 22 #[.pointer (some ⟨st,0,none⟩),.int .i64 page,.int .i64 at_,.int .i64 A] w fun e w'=>e=.returned (.bool false)∧w'=w:=by
 obtain⟨⟨d,s,F,G,sv,bs,H,M,I,N,ba,O,bb,bc,bf,Z,R⟩,U⟩:=h
 obtain⟨c0,_⟩:=H.field
 have X:=Kzj d page at_ A w F D I J
 clear H M I J R U N O
 go_enter func22,ntmps22
 go_wp2_with (go_at_call 50;refine X.mono ?_;rintro e Y ⟨rfl,rfl⟩)
 go_ret
 exact⟨rfl,rfl⟩
theorem Kzn (A:Nat→Prop)(st:Nat)(D:DS)(J:List TS)(pg at_ n:Nat)(w:World)(h:Sto A w st D J)(p:List UInt8)(Z:D.pages[pg]?=some (some p))(bj:at_<64)(br:1≤n)(bl:n≤255) :
  Calls prog 22 #[.pointer (some ⟨st,0,none⟩),.int .i64 (pg:Int),.int .i64 (at_:Int),.int .i64 (n:Int)] w fun e w'=>e=.returned (.bool true)∧Ju A w w'∧Sto A w' st ⟨D.quota,D.fail,D.writes,D.lowest,D.pages.set pg (some (Ksf p at_ n))⟩ J:=by
 obtain⟨⟨d,s,F,G,sv,bs,H,R,U,K,X,L,Y,bh,bi,bf,I⟩,O⟩:=h
 obtain⟨c0,_⟩:=H.field
 have bn:=Kyd d pg at_ n w F D U p Z bj br bl
 have bb:Hid (∀ w',Zb w' F d ⟨D.quota,D.fail,D.writes,D.lowest,D.pages.set pg (some (Ksf p at_ n))⟩→Ju F w w'→Ju A w w'∧Sto A w' st ⟨D.quota,D.fail,D.writes,D.lowest,D.pages.set pg (some (Ksf p at_ n))⟩ J):=fun w' M hk=>by
  have ba:=hk.size
  have bu:st<w.heap.size:=O st (I st (.inr (.inr (.inr rfl))))
  refine⟨hk.mono fun k _ h=>I k (.inl h),⟨d,s,F,G,sv,bs,?_,R.stands ba fun k N bk=>hk.block k bk (N.elim (K k) fun a=>a.elim (fun b=>by rw[b];exact X) fun b=>L k b),M,K,X,L,Y,bh,bi,bf,I⟩,fun k N=>Oc2 (O k N) ba⟩
  unfold Jdu at H ⊢
  rw[hk.block st bu Y]
  exact H
 clear H R U I O K L Z
 go_enter func22,ntmps22
 go_wp2_with (go_at_call 50;refine bn.mono ?_;rintro e bc ⟨rfl,M,hk⟩)
 go_ret
 exact⟨rfl,bb.out bc M hk⟩
end
end Go.Proofs.YtcaocabmioafcaaGreatDoor
