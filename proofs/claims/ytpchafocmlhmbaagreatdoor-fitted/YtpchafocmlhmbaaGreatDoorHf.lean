/- A store in memory; New; what Load does round the set's Load. -/
import Derived.Test.YtpchafocmlhmbaaGreatDoorHc
set_option maxHeartbeats 1000000
set_option maxRecDepth 100000
namespace Go.Proofs.YtpchafocmlhmbaaGreatDoor
section
open Go.RowKit Go.Shelf Tryz
structure Sto (M:Nat→Prop) (w:World) (st:Nat) (D:DS) (Ts:List TS):Prop where
 ex:∃ (d s:Nat) (F G:Nat→Prop) (sv:Value) (bs:List Nat),Jdu w st d s∧Jfl w G s d Ts sv bs∧Zb w F d D∧(∀ k,G k→¬ F k)∧¬ F s∧(∀ g,sv.ownBlock=some g→¬ F g)∧¬ F st∧¬ G st∧st≠s∧sv.ownBlock≠some st∧(∀ k,F k∨G k∨Jnr s sv k∨k=st→M k)
 lt:∀ k,M k→k<w.heap.size
theorem Sto.stands {M:Nat→Prop}{w w':World}{st:Nat}{H:DS}{Ts:List TS}(h:Sto M w st H Ts)(hs:w.heap.size≤w'.heap.size)(D:∀ k,M k→w'.heap[k]?=w.heap[k]?):Sto M w' st H Ts:=by
 obtain⟨⟨d,s,F,G,sv,bs,K,R,U,X,Y,Z,ba,bc,bf,O,y⟩,hl⟩:=h;refine⟨⟨d,s,F,G,sv,bs,?_,R.stands hs fun k E _=>D k (y k (E.elim (fun a=>.inr (.inl a)) (fun a=>.inr (.inr (.inl a))))),U.stands fun k hf _=>D k (y k (.inl hf)),X,Y,Z,ba,bc,bf,O,y⟩,fun k E=>Oc2 (hl k E) hs⟩;unfold Jdu at K ⊢;rw[D st (y st (.inr (.inr (.inr rfl))))];exact K
theorem Sto.below {M:Nat→Prop}{w w':World}{st:Nat}{y:DS}{Ts:List TS}(h:Sto M w st y Ts)(D:Below w.heap.size w w'):Sto M w' st y Ts:=h.stands D.size fun k E=>D.block k (h.lt k E)
theorem Ke2 (d:Nat)(w:World):Calls prog 27 #[.pointer (some ⟨d,0,none⟩)] w fun e w'=>e=.returned (.pointer (some ⟨w.heap.size,0,none⟩))∧w'=w.alloc (.cells #[.pointer (some ⟨d,0,none⟩),.slice none 0 0] 113):=by
 go_enter func27,ntmps27
 go_wp2;go_ret
 exact⟨rfl,rfl⟩
theorem Kfq (q f:Int)(w:World) :
  Calls prog 19 #[.agg #[.int .i64 q,.int .i64 f]] w fun e w'=>Below w.heap.size w w'∧∃ (st:Nat) (M:Nat→Prop),e=.returned (.pointer (some ⟨st,0,none⟩))∧Sto M w' st (Ku q f) []∧(∀ k,M k→w.heap.size≤k):=by
 have R:Below w.heap.size w (w.alloc (.cells #[.int .i64 q,.int .i64 f] 33)):=(Oa5 _ w).alloc (Oa2 _) _;have O:=Kcn q f (w.alloc (.cells #[.int .i64 q,.int .i64 f] 33));go_enter func19,ntmps19
 go_wp2_with (first|(go_at_call 26;refine O.mono ?_;rintro e y ⟨d,rfl,X,H,U⟩;have D:=Jb R U)|(go_at_call 27;refine(Ke2 d y).mono ?_;rintro e Z ⟨rfl,rfl⟩))
 go_ret
 have E:Below y.heap.size y ((y.alloc (.cells #[.pointer (some ⟨d,0,none⟩),.slice none 0 0] 113)).alloc (.cells #[.pointer (some ⟨d,0,none⟩),.pointer (some ⟨y.heap.size,0,none⟩)] 80)):=((Oa5 _ _).alloc (Oa2 _) _).alloc (by simp) _;have bc:=D.size;have ba:d<y.heap.size:=by
  obtain⟨sv,ps,Y⟩:=H;exact Jd Y.cells
 rw[Oa7]at X;have K:=heap_alloc_new (y.alloc (.cells #[.pointer (some ⟨d,0,none⟩),.slice none 0 0] 113)) (.cells #[.pointer (some ⟨d,0,none⟩),.pointer (some ⟨y.heap.size,0,none⟩)] 80);rw[Oa7]at K;refine⟨Jb D E,y.heap.size+1,fun k=>k=d∨k=y.heap.size∨k=y.heap.size+1,rfl,⟨⟨d,y.heap.size,fun k=>k=d,fun _=>False,.slice none 0 0,[],K,?_,H.below E,by simp,by omega,by simp[Value.ownBlock],by omega,by simp,by omega,by simp[Value.ownBlock],?_⟩,?_⟩,?_⟩
 ·refine⟨?_,Jo.nil _ _ _,by simp,by simp[Value.ownBlock],rfl,by simp,by simp⟩;rw[Oa9 _ _ _ (by simp),heap_alloc_new]
 ·rintro k (h|h|h|h)
  ·exact .inl h
  ·exact h.elim
  ·rcases h with h|h
   ·exact .inr (.inl h)
   simp[Value.ownBlock]at h
  exact .inr (.inr h)
 ·rintro k (h|h|h)<;>subst h<;>simp<;>omega
 rintro k (h|h|h)<;>subst h<;>omega
abbrev Ka:Obj:=.cells #[.int .i64 0,.int .i64 0,.int .i64 0,.int .i64 0,.int .i64 0] 45
theorem Ju9 (st s:Nat)(name:ByteArray)(bi bj:Value)(U X bD:Option Addr)(ba Y bc c2 bH c3:Nat)(bX:bi=.slice U ba Y)(bY:bj=.slice X bc c2)(g:Int)(w:World)(bf:Nat→Prop)(bA:∀ k,bf k→k<w.heap.size)(bW:¬ bf st)(c1:w.cell? ⟨st,1,none⟩=some (.pointer (some ⟨s,0,none⟩)))
  (c nd col pg:Int) (P:World→Prop)
  (hL:Calls prog 29 #[.pointer (some ⟨s,0,none⟩),.agg #[.string name,bi,bj],.slice bD bH c3,.int .i64 g] ((w.alloc (.cells #[.string name,bi,bj] 25)).alloc Ka).drew fun e w'=>∃ ev,e=.returned ev∧Ju bf ((w.alloc (.cells #[.string name,bi,bj] 25)).alloc Ka) w'∧P w'∧Calls prog 28 #[ev] w' (fun e bC=>e=.returned (Jjp c nd col pg)∧Below w'.heap.size w' bC)) :
  Calls prog 20 #[.pointer (some ⟨st,0,none⟩),.agg #[.string name,bi,bj],.slice bD bH c3,.int .i64 g] w fun e w'=>e=.returned (Jjp c nd col pg)∧∃ H,P H∧Ju bf ((w.alloc (.cells #[.string name,bi,bj] 25)).alloc Ka) H∧Ju (fun k=>k=w.heap.size+1) H w':=by
 subst bX bY;have bE:Below w.heap.size w ((w.alloc (.cells #[.string name,.slice U ba Y,.slice X bc c2] 25)).alloc Ka):=((Oa5 _ w).alloc (Oa2 _) _).alloc (by simp) _;have bz:=Ja bE c1;have cj:st<w.heap.size:=Jm c1;have bB:¬ bf w.heap.size:=fun h=>Oe3 _ (bA _ h);have ch:¬ bf (w.heap.size+1):=fun h=>by have:=bA _ h;omega
 obtain⟨W,E⟩:∃ W,W=(w.alloc (.cells #[.string name,.slice U ba Y,.slice X bc c2] 25)).alloc Ka:=⟨_,rfl⟩;have bI:W.cell? ⟨w.heap.size,0,none⟩=some (.string name):=by rw[E,Oe5 _ _ _ (by simp)];simp
 have bJ:W.cell? ⟨w.heap.size,1,none⟩=some (.slice U ba Y):=by rw[E,Oe5 _ _ _ (by simp)];simp
 have bK:W.cell? ⟨w.heap.size,2,none⟩=some (.slice X bc c2):=by rw[E,Oe5 _ _ _ (by simp)];simp
 have bV:W.heap[w.heap.size+1]?=some (.cells #[.int .i64 0,.int .i64 0,.int .i64 0,.int .i64 0,.int .i64 0] 45 (0,0)):=by
  rw[E];have:=heap_alloc_new (w.alloc (.cells #[.string name,.slice U ba Y,.slice X bc c2] 25)) Ka;rwa [Oa7]at this
 have ci:W.heap.size=w.heap.size+2:=by rw[E];simp
 rw[←E]at hL bE bz;clear bA;go_enter func20,ntmps20
 go_wp2_with fail
 rw[←E];have bN:Hid (W=(w.alloc (.cells #[.string name,.slice U ba Y,.slice X bc c2] 25)).alloc Ka):=E;clear E;refine wp_region_held_drew (S:=fun bx=>bx.cell? ⟨st,1,none⟩=some (.pointer (some ⟨s,0,none⟩))∧bx.cell? ⟨w.heap.size,0,none⟩=some (.string name)∧bx.cell? ⟨w.heap.size,1,none⟩=some (.slice U ba Y)∧bx.cell? ⟨w.heap.size,2,none⟩=some (.slice X bc c2)) (by kernel_rfl) ⟨bz,bI,bJ,bK⟩ (fun y=>?_);refine tkj 0 rfl y ?_;refine tkj 1 rfl y ?_;refine tkj 2 rfl y ?_;refine tkj 3 rfl y ?_;refine tkj 4 rfl y ?_;refine tkj 5 rfl y ?_;refine tkj 6 rfl y ?_;refine tkn ?_;refine tkr 7 rfl fun bn O=>?_;go_simp;refine hL.mono ?_;rintro e H ⟨ev,rfl,Z,hp,hf⟩;have bM:Hid (P H):=hp;have bL:Hid (Calls prog 28 #[ev] H (fun e bC=>e=.returned (Jjp c nd col pg)∧Below H.heap.size H bC)):=hf;clear hp hf hL;go_simp;refine O.out _ _ ⟨Z.cell bz bW,Z.cell bI bB,Z.cell bJ bB,Z.cell bK bB⟩ (fun y=>?_);clear O bn;refine tkr 8 rfl fun bn O=>?_;go_simp;refine bL.out.mono ?_;rintro e K ⟨rfl,D⟩;go_simp;refine O.out _ _ ⟨Ja D y.1,Ja D y.2.1,Ja D y.2.2.1,Ja D y.2.2.2⟩ (fun y=>?_);clear O bn;have cn:=Z.size;have R:K.heap[w.heap.size+1]?=some (.cells #[.int .i64 0,.int .i64 0,.int .i64 0,.int .i64 0,.int .i64 0] 45 (0,0)):=
  (D.block _ (by omega)).trans ((Z.block _ (by omega) ch).trans bV)
 have bZ:K.cell? ⟨w.heap.size+1,0,none⟩=some (.int .i64 0):=by simp[World.cell?,R]
 have ca:K.cell? ⟨w.heap.size+1,1,none⟩=some (.int .i64 0):=by simp[World.cell?,R]
 have cb:K.cell? ⟨w.heap.size+1,2,none⟩=some (.int .i64 0):=by simp[World.cell?,R]
 have cc:K.cell? ⟨w.heap.size+1,3,none⟩=some (.int .i64 0):=by simp[World.cell?,R]
 have cf:K.cell? ⟨w.heap.size+1,4,none⟩=some (.int .i64 0):=by simp[World.cell?,R]
 have bh:∀ o:Nat,K.frozen? ⟨w.heap.size+1,o,none⟩=false:=fun o=>by simp[World.frozen?,R]
 have bO:=bh 0;have bP:=bh 1;have bQ:=bh 2;have bR:=bh 3;have bS:=bh 4;have bG:=Jk (Jk (Jk (Jk (Jk R 0 (.int .i64 c)) 1 (.int .i64 nd)) 2 (.int .i64 (-1))) 3 (.int .i64 col)) 4 (.int .i64 pg);simp only[Oa1,List.set_cons_zero,List.set_cons_succ]at bG;clear R bh;refine tkr 9 rfl fun bn O=>?_;go_simp;have br:∀ (b o:Nat),b≠w.heap.size+1→(((((K.setCell ⟨w.heap.size+1,0,none⟩ (.int .i64 c)).setCell ⟨w.heap.size+1,1,none⟩ (.int .i64 nd)).setCell ⟨w.heap.size+1,2,none⟩ (.int .i64 (-1))).setCell ⟨w.heap.size+1,3,none⟩ (.int .i64 col)).setCell ⟨w.heap.size+1,4,none⟩ (.int .i64 pg)).cell? ⟨b,o,none⟩=K.cell? ⟨b,o,none⟩:=fun b o bT=>by
  simp only[World.cell?,Zh _ _ _ _ _ _ _ b bT]
 refine O.out _ _ ⟨(br _ _ (by omega)).trans y.1,(br _ _ (by omega)).trans y.2.1,(br _ _ (by omega)).trans y.2.2.1,(br _ _ (by omega)).trans y.2.2.2⟩ (fun y=>?_);clear O bn br y bZ ca cb cc cf bO bP bQ bR bS;refine wpAnyH_done (by kernel_rfl) ?_ _;go_wp2;refine bodyPost_ret (v:=Jjp c nd col pg) (by simp[results,results20,go_sem,Jjp,World.cell?,bG]) rfl ⟨rfl,H,bM.out,by rw[←bN.out];exact Z,?_⟩;exact⟨D.os,D.tape,D.output,by rw[Jg2];exact D.size,fun k bU hn=>(Zh _ _ _ _ _ _ _ k hn).trans (D.block k bU)⟩
end
section
open Go.RowKit Go.Shelf Tryz
structure Jax (w:World) (a0 a1 a2 tt q wr pg pl ex ta:Addr):Prop where
 e:Jf0 w a0 a1 a2
 m:Jkn w a0 a1 a2 tt q wr pg
 m2:Jhy w [a0,a1,a2,tt,q,wr,pg] pl ex
 c:w.cell? ⟨1,0,none⟩=some (.iface 433 (.pointer (some ta)))
 b:∃ c t,w.heap[ta.block]?=some (.cells c t (0,0))
 n:ta∉[a0,a1,a2,tt,q,wr,pg,pl,ex]
 m3:∃ dv ov gv mn,Jig w [ex,pl,a0,a1,a2,tt,q,wr,pg] dv ov gv mn∧ta∉[dv,ov,gv,mn]
theorem Jax.below {w w':World}{D E H R q wr pg K ex O:Addr}(h:Jax w D E H R q wr pg K ex O)(y:Below w.heap.size w w'):Jax w' D E H R q wr pg K ex O:=
 ⟨h.e.below y,h.m.below y,h.m2.below y,Ja y h.c,Kg y h.b,h.n,by obtain⟨U,Z,gv,mn,X,Y⟩:=h.m3;exact⟨U,Z,gv,mn,X.below y,Y⟩⟩
abbrev Ja0:Type:=Unit⊕(Unit⊕(Nat⊕((Bool×DS)⊕(DS×TS))))
abbrev Ja0.arg:Ja0:=.inl ()
abbrev Ja0.table:Ja0:=.inr (.inl ())
abbrev Ja0.dict (c:Nat):Ja0:=.inr (.inr (.inl c))
abbrev Ja0.disk (x:Bool)(y:DS):Ja0:=.inr (.inr (.inr (.inl (x,y))))
abbrev Ja0.ok (y:DS)(T:TS):Ja0:=.inr (.inr (.inr (.inr (y,T))))
def Ja0.fault:Ja0→Value
 |.inl _=>Jbz 1 (-1) (-1)
 |.inr (.inl _)=>Jbz 4 (-1) (-1)
 |.inr (.inr (.inl c))=>Jbz 2 (c:Int) (-1)
 |.inr (.inr (.inr (.inl x)))=>Jbz (if x.1 then 5 else 6) (-1) (-1)
 |.inr (.inr (.inr (.inr _)))=>Jbz 0 (-1) (-1)
def Ja0.d (y:DS):Ja0→DS
 |.inr (.inr (.inr (.inl x)))=>x.2
 |.inr (.inr (.inr (.inr x)))=>x.1
 |_=>y
def Ja0.ts (Ts:List TS):Ja0→List TS
 |.inr (.inr (.inr (.inr x)))=>Ts++[x.2]
 |_=>Ts
def Khs (name:ByteArray)(ts hs:List Int)(rs:List (List V))(g:Int):Decidable (Jel name ts rs∧Je3 ts hs∧1≤g∧g≤64):=by
 unfold Jel Je3;infer_instance
def Jbd (y:DS)(Ts:List TS)(name:ByteArray)(ts hs:List Int)(rs:List (List V))(g:Int):Ja0:=
 @ite _ (Jel name ts rs∧Je3 ts hs∧1≤g∧g≤64) (Khs name ts hs rs g)
  (if Ub Ts name<Ts.length∨6≤Ts.length then .table
  else match Jfg rs ts hs (cks rs.length g.toNat (ckN rs.length g.toNat))with
   |.inr c=>.dict c
   |.inl T=>match (Jq y T).2.2 with
    |some x=>.disk x (Jcg (Jq y T).1 (Jq y T).2.1)
    |none=>.ok (Jq y T).1 ⟨name,ts,rs.length,g.toNat,(Jq y T).2.1⟩)
  .arg
theorem Jn8 {M H:Nat→Prop}{w W K w':World}{j:Nat}(y:Below w.heap.size w W)(D:Ju H W K)(E:Ju (fun k=>k=j) K w')(U:w.heap.size≤j)(O:∀ k,H k→M k):Ju M w w':=by
 have z1:=y.size;have z2:=D.size;have X:=E.size;refine⟨(E.os.trans D.os).trans y.os,(E.tape.trans D.tape).trans y.tape,(E.output.trans D.output).trans y.output,by omega,fun k R hn=>?_⟩;exact(E.block k (by omega) (by omega)).trans ((D.block k (by omega) fun h=>hn (O k h)).trans (y.block k R))
def Jy0 (M:Nat→Prop)(w:World)(st:Nat)(y:DS)(Ts:List TS)(r:Ja0)(e:Ending)(w':World):Prop:=
 e=.returned r.fault∧Ju M w w'∧∃ M':Nat→Prop,Sto M' w' st (r.d y) (r.ts Ts)∧(∀ k,M k→M' k)∧(∀ k,M' k→M k∨w.heap.size≤k)
theorem Jyt (M:Nat→Prop)(st:Nat)(H:DS)(Ts:List TS)(name:ByteArray)(at_ ar Y:Option Addr)(ct cr bx:Nat)(ts hs:List Int)(xs:List (Option Addr×Nat))(rs:List (List V))(g:Int)(w:World)(h:Sto M w st H Ts)(ci:Kct w name at_ ar Y cr ts hs xs rs)(cj:∀ b o,at_=some ⟨b,o,none⟩→¬ M b)(cP:H.pages.length≤200000)
  (bM bN bO dc q wr pg cZ ex da:Addr) (bi:World) (bz:Jax bi bM bN bO dc q wr pg cZ ex da) (cI:Below bi.heap.size bi w) (bT:∀ k,M k→bi.heap.size≤k) (cE:∀ x∈hs,Kjk x) (E:∃ bL T,Jbd H Ts name ts hs rs g=.ok bL T) :
  Calls prog 20 #[.pointer (some ⟨st,0,none⟩),Jvc name at_ ar ct cr ts rs,.slice Y hs.length bx,.int .i64 g] w fun e w'=>Jy0 M w st H Ts (Jbd H Ts name ts hs rs g) e w':=by
 have de:=h;have bU:=bz.below cI;have cB:¬ M 6:=fun bH=>by have Z:=bT _ bH;have ba:=Jm bz.m.cq;simp only at ba;omega
 have cC:¬ M 7:=fun bH=>by have Z:=bT _ bH;have ba:=Jm bz.m.cw;simp only at ba;omega
 obtain⟨⟨d,s,F,G,sv,bs,Z,ba,ca,cb,cc,cf,bR,ch,bS,bQ,D⟩,R⟩:=h;obtain⟨W,bB⟩:∃ W,W=(w.alloc (Jln name at_ ar ct cr ts rs)).alloc Ka:=⟨_,rfl⟩;have K:Below w.heap.size w W:=by rw[bB];exact((Oa5 _ w).alloc (Oa2 _) _).alloc (by simp) _
 have bc:Below w.heap.size w W.drew:=⟨K.os,K.tape,K.output,K.size,K.block⟩;have bV:W.heap.size=w.heap.size+2:=by rw[bB];simp
 have bA:=bU.below bc;have cn:=ci.below bc;obtain⟨dg,dh,di,dj,dk,dm,dp⟩:=Jim bU.m;have bP:=fun (br:Nat→Prop) (bh:∀ k,br k→k<w.heap.size) (cQ:¬ br st) (c nd col cY:Int) (P:World→Prop) hL=>Ju9 st s name (.slice at_ ts.length ct) (.slice ar rs.length cr) at_ ar Y ts.length ct rs.length cr hs.length bx rfl rfl g w br bh cQ Z.field.2 c nd col cY P hL;have cD:(w.alloc (.cells #[.string name,.slice at_ ts.length ct,.slice ar rs.length cr] 25)).alloc Ka=W:=bB.symm;rw[cD]at bP;obtain⟨O,X,T,hp,bf⟩:(Jel name ts rs∧Je3 ts hs∧1≤g∧g≤64)∧¬ (Ub Ts name<Ts.length∨6≤Ts.length)∧∃ T,Jfg rs ts hs (cks rs.length g.toNat (ckN rs.length g.toNat))=.inl T∧(Jq H T).2.2=none:=by
  obtain⟨bL,dd,E⟩:=E;unfold Jbd at E;by_cases O:Jel name ts rs∧Je3 ts hs∧1≤g∧g≤64
  ·rw[if_pos O]at E;by_cases X:Ub Ts name<Ts.length∨6≤Ts.length
   ·rw[if_pos X]at E;cases E
   rw[if_neg X]at E;rcases hp:Jfg rs ts hs (cks rs.length g.toNat (ckN rs.length g.toNat))with T|c
   ·rw[hp]at E;cases bf:(Jq H T).2.2 with
    |some x=>
     simp only[bf]at E;cases E
    |none=>exact⟨O,X,T,rfl,bf⟩
   rw[hp]at E;cases E
  rw[if_neg O]at E;cases E
 have cK:((g.toNat:Nat):Int)=g:=by omega
 have cM:Jqy W.drew s d F G H Ts sv bs name at_ ar Y cr ts hs xs rs g.toNat:=
  ⟨cn,O.1,O.2.1,by omega,by omega,ba.below bc,fun hf=>X (.inl hf),by omega,ca.below bc,fun k y=>Oc2 (R k (D k (y.elim .inl fun a=>.inr (.inl a)))) bc.size,cb,cc,cf,fun b o cH hf=>cj b o cH (D b (.inl hf)),cP,cE⟩
 have cz:=bA.m.cq;have cA:=bA.m.cw;have cv:¬ F 6:=fun hf=>cB (D _ (.inl hf));have cx:¬ F 7:=fun hf=>cC (D _ (.inl hf));have hr:Jbd H Ts name ts hs rs g=.ok (Jq H T).1 ⟨name,ts,rs.length,g.toNat,(Jq H T).2.1⟩:=by unfold Jbd;rw[if_pos O,if_neg X,hp];simp only;rw[bf]
 rw[hr];have hL:=Ked s d F G H Ts sv bs name at_ ar Y ct cr bx ts hs xs rs g.toNat W.drew cM bM bN bO bA.e T hp q wr cz cA cv cx bf;rw[cK]at hL;have df:=K.size;have bh:∀ k,F k∨Jnr s sv k→M k:=fun k y=>y.elim (fun a=>D k (.inl a)) fun a=>D k (.inr (.inr (.inl a)));have bZ:¬ (F st∨Jnr s sv st):=fun h=>h.elim bR fun a=>a.elim bS bQ;refine(bP (fun k=>F k∨Jnr s sv k) (fun k y=>R k (bh k y)) bZ 0 (-1) (-1) (-1) (fun bj=>Jdl W.drew s d F G H Ts sv bs name ts rs g.toNat T bj) (hL.mono fun e bj ⟨bC,y⟩=>⟨_,bC,⟨y.1.os,y.1.tape,y.1.output,y.1.size,y.1.block⟩,y,Jjq bj⟩)).mono fun e w' ⟨bC,bj,⟨_,FD,bn,sv',db,cJ,bY,bD,bG,bX,cG,cO,cU,bK⟩,y,U⟩=>⟨bC,Jn8 K y U (by omega) bh,fun k=>M k∨FD k∨bn k∨Jnr s sv' k,?_,fun k y=>.inl y,?_⟩
 ·have bW:Ju (fun k=>F k∨Jnr s sv k) w w':=Jn8 K y U (by omega) (fun _ h=>h);have cS:st<w.heap.size:=R st (D st (.inr (.inr (.inr rfl))));have cy:∀ k,G k→k<w.heap.size:=fun k bE=>R k (D k (.inr (.inl bE)));have bJ:∀ k,Jnr s sv k→k<w.heap.size:=fun k bI=>R k (D k (.inr (.inr (.inl bI))));have cu:∀ k,F k→k<w.heap.size:=fun k hf=>R k (D k (.inl hf));have cF:W.drew.heap.size=w.heap.size+2:=bV;have cV:∀ k,FD k→k≠w.heap.size+1:=fun k hf e=>by
   rcases bD k hf with a|a
   ·have:=cu k a;omega
   omega
  have cW:∀ k,bn k→k≠w.heap.size+1:=fun k hf e=>by
   rcases bG k hf with a|a
   ·have:=cy k a;omega
   omega
  have cX:∀ k,Jnr s sv' k→k≠w.heap.size+1:=fun k bI e=>by
   rcases bI with a|a
   ·have:=bJ s (.inl rfl);omega
   rcases bK k a with b|b
   ·have:=bJ k (.inr b);omega
   omega
  refine⟨⟨d,s,FD,bn,sv',bs++[db],?_,bY.stands U.size fun k cN hl=>U.block k hl (cN.elim (cW k) (cX k)),cJ.stands fun k hf hl=>U.block k hl (cV k hf),cG,cO,cU,fun hf=>?_,fun bE=>?_,bS,fun cT=>?_,?_⟩,?_⟩
  ·unfold Jdu at Z ⊢;rw[bW.block st cS bZ];exact Z
  ·rcases bD st hf with a|a
   ·exact bR a
   omega
  ·rcases bG st bE with a|a
   ·exact ch a
   omega
  ·rcases bK st cT with a|a
   ·exact bQ a
   omega
  ·rintro k (a|a|a|a)
   ·exact .inr (.inl a)
   ·exact .inr (.inr (.inl a))
   ·exact .inr (.inr (.inr a))
   exact .inl (D k (.inr (.inr (.inr a))))
  have dq:=U.size;have dr:=bW.size;rintro k (a|a|a|a)
  ·have:=R k a;omega
  ·have:=bX k (.inl a);omega
  ·have:=bX k (.inr a);omega
  rcases a with a|a
  ·have:=bJ s (.inl rfl);omega
  have:=Qk bY.own a;omega
 have cF:W.drew.heap.size=w.heap.size+2:=bV;rintro k (a|a|a|a)
 ·exact .inl a
 ·rcases bD k a with b|b
  ·exact .inl (D k (.inl b))
  exact .inr (by omega)
 ·rcases bG k a with b|b
  ·exact .inl (D k (.inr (.inl b)))
  exact .inr (by omega)
 rcases a with a|a
 ·exact .inl (D k (.inr (.inr (.inl (.inl a)))))
 rcases bK k a with b|b
 ·exact .inl (D k (.inr (.inr (.inl (.inr b)))))
 exact .inr (by omega)
end
section
open Go.RowKit Go.Shelf Tryz
theorem Kwx (M:Nat→Prop)(st:Nat)(y:DS)(Ts:List TS)(n:ByteArray)(w:World)(h:Sto M w st y Ts)(Y:∀ T∈Ts,Jid y T)(D E H O q wr pg ba ex bc:Addr)(K:Jax w D E H O q wr pg ba ex bc){x:List (List V)}(Z:Jf8 y Ts n=some (.inl x)) :
  Calls prog 25 #[.pointer (some ⟨st,0,none⟩),.string n] w fun e w'=>Jr7 w (Jf8 y Ts n) e w':=by
 obtain⟨⟨d,s,F,G,sv,bs,R,U,X,bh,bi,bj,bn,br,bx,bf,bz⟩,bA⟩:=h;exact Kws st n w F G s d y Ts sv bs R U X Y D E H O q wr pg K.e K.m Z
end
section
open Go.RowKit
def Jex (rs:List (List V))(m o p k:Nat):List (List V):=rs.mapIdx fun i r=>if i<o then r else if i<o+p then r.take k++List.replicate (m-k) Jf else List.replicate m Jf
theorem Jv4 (rs:List (List V))(m p:Nat):Jex rs m 0 p 0=List.replicate rs.length (List.replicate m Jf):=by
 apply Oi8;intro i;rw[Jex,Oh8,Of3];by_cases hi:i<rs.length
 ·rw[if_pos hi,Oa3 hi];simp
 rw[if_neg hi,Ob4 (by omega)];rfl
theorem Kac (rs:List (List V))(m o p E H:Nat)(hr:∀ r∈rs,r.length=m)(h:∀ i,i<rs.length→(i<o+p↔i<E)):Jex rs m o p m=Jex rs m E H 0:=by
 apply Oi8;intro i;rw[Jex,Jex,Oh8,Oh8];by_cases hi:i<rs.length
 ·rw[Oa3 hi];simp only[Option.map_some];have hl:=hr _ (Ob3 hi);have:=h i hi;by_cases y:i<o
  ·rw[if_pos y,if_pos (by omega)]
  rw[if_neg y];by_cases D:i<o+p
  ·rw[if_pos D,if_pos (by omega)];simp[←hl]
  rw[if_neg D,if_neg (by omega)];simp
 rw[Ob4 (by omega)];rfl
theorem Kb8 (rs:List (List V))(m o p:Nat)(h:rs.length≤o):Jex rs m o p 0=rs:=by
 apply Oi8;intro i;rw[Jex,Oh8];by_cases hi:i<rs.length
 ·rw[Oa3 hi];simp only[Option.map_some];rw[if_pos (by omega)]
 rw[Ob4 (by omega)];rfl
theorem Kh7 (L:List V)(c n:Nat)(u:V)(hL:L.length=c)(E:c<n):(L++List.replicate (n-c) Jf).set c u=L++[u]++List.replicate (n-(c+1)) Jf:=by
 obtain⟨d,y⟩:∃ d,n-c=d+1:=⟨n-c-1,by omega⟩;have D:n-(c+1)=d:=by omega
 rw[y,D,List.replicate_succ,Ok4 _ _ (by omega),hL,Oe1,List.set_cons_zero];simp
theorem Kam (rs:List (List V))(m o p k:Nat)(hr:∀ r∈rs,r.length=m)(E:k<m)(U:o+p≤rs.length):Ji6 (Jex rs m o p k) o k (Jaj (Uk rs (o,p)) k)=Jex rs m o p (k+1):=by
 have O:(Jaj (Uk rs (o,p)) k).length=p:=by simp[Jaj,Uk];omega
 apply Oi8;intro i;rw[Ji6,Oh8,Jex,Jex,Oh8,Oh8,O];by_cases hi:i<rs.length
 ·rw[Oa3 hi];simp only[Option.map_some];have hl:=hr _ (Ob3 hi);by_cases D:i<o
  ·rw[if_pos D,if_neg (by omega),if_pos D]
  rw[if_neg D,if_neg D];by_cases y:i<o+p
  ·rw[if_pos y,if_pos ⟨by omega,y⟩,if_pos y];have K:(Jaj (Uk rs (o,p)) k).getD (i-o) Jf=rs[i][k]:=by
    have R:(Uk rs (o,p))[i-o]?=some rs[i]:=by
     simp only[Uk];rw[Oh3 (by omega),Oh9,show o+(i-o)=i by omega,Oa3 hi]
    have H:(Jaj (Uk rs (o,p)) k)[i-o]?=some (rs[i].getD k Jf):=by
     simp only[Jaj,Ob1,R,Option.map_some]
    rw[Oa0,H];simp[hl,E]
   rw[K,Kh7 _ k m _ (by simp;omega) E,Oc4 (by omega)]
  rw[if_neg y,if_neg (by omega),if_neg y]
 rw[Ob4 (by omega)];rfl
theorem Joo (y:DS)(rs:List (List V))(m:Nat)(D:List (List Nat))(ts:List Int)(x:Nat×Nat)(hr:∀ r∈rs,r.length=m)(E:x.1+x.2≤rs.length)(H:∀ c,c<m→Us y (D.getD c []) (ts.getD c 0) x.2=.inl (Jaj (Uk rs x) c)) :
  ∀ k,k≤m→Jil y D ts x (Jex rs m x.1 x.2 0) k=.inl (Jex rs m x.1 x.2 k)
 |0,_=>rfl
 |k+1,K=>by
  simp only[Jil,Joo y rs m D ts x hr E H k (by omega),H k (by omega)];exact congrArg _ (Kam rs m x.1 x.2 k hr (by omega) E)
theorem Jjr (len g j:Nat)(K:1≤g)(y:j<ckN len g):(Jaa len g j).1+(Jaa len g j).2≤len∧1≤(Jaa len g j).2∧∀ i,i<len→(i<(Jaa len g j).1+(Jaa len g j).2↔i<(Jaa len g (j+1)).1):=by
 have E:j*g<len:=by
  unfold ckN at y;have D:(j+1)*g≤(len+g-1) / g*g:=Om8 g y;have H:=Nat.div_mul_le_self (len+g-1) g;rw[Of5]at D;omega
 simp only[Jaa];rw[Of5];exact⟨by omega,by omega,fun i hi=>by omega⟩
theorem Jxu (len g:Nat)(E:1≤g):len≤(Jaa len g (ckN len g)).1:=by
 simp only[Jaa,ckN];have h:=Nat.div_add_mod (len+g-1) g;have y:=Ol0 (len+g-1) (show g>0 by omega);have D:g*((len+g-1) / g)=(len+g-1) / g*g:=Nat.mul_comm _ _;omega
theorem Joa (y:DS)(rs:List (List V))(ts:List Int)(D:List (List Nat))(g:Nat)(E:1≤g)(hr:∀ r∈rs,r.length=ts.length)
  (H:∀ j c,j<ckN rs.length g→c<ts.length→Us y (D.getD (j*ts.length+c) []) (ts.getD c 0) (Jaa rs.length g j).2=.inl (Jaj (Uk rs (Jaa rs.length g j)) c)) :
  ∀ k,k≤ckN rs.length g→∃ p,(Jkh y ts D (List.replicate rs.length (List.replicate ts.length Jf)) (cks rs.length g k)).1=.inl (Jex rs ts.length (Jaa rs.length g k).1 p 0)
 |0,_=>⟨0,by
  show Sum.inl _=Sum.inl _;rw[←Jv4 rs ts.length 0];simp[Jaa]⟩
 |k+1,Z=>by
  obtain⟨p,X⟩:=Joa y rs ts D g E hr H k (by omega);obtain⟨K,Y,O⟩:=Jjr rs.length g k E (by omega);rw[Jbj,Jm6];simp only[Jox];rw[X,Jme,Jbp];have U:Jex rs ts.length (Jaa rs.length g k).1 p 0=Jex rs ts.length (Jaa rs.length g k).1 (Jaa rs.length g k).2 0:=by
   apply Oi8;intro i;rw[Jex,Jex,Oh8,Oh8];cases rs[i]? with
   |none=>rfl
   |some r=>simp
  refine⟨0,?_⟩;simp only;rw[U,Joo y rs ts.length _ ts _ hr K (fun c R=>?_) ts.length (Oa2 _)]
  ·exact congrArg _ (Kac rs ts.length _ _ _ 0 hr O)
  rw[←H k c (by omega) R];congr 1
  simp[List.getD_eq_getElem?_getD,List.getElem?_drop]
theorem Jov (rows:List (List V))(ts hs:List Int):∀ (k:Nat) (l:List (List UInt8)),Jeo rows ts hs k=.inl l→∀ c,c<k→l[c]?=some (Uo rows ts hs c).1∧(Uo rows ts hs c).2=0
 |0,l,h,c,E=>by omega
 |k+1,l,h,c,E=>by
  simp only[Jeo]at h;split at h
  ·simp at h
  rename_i D y
  split at h
  ·rename_i h0
   simp at h;subst h;have H:=Jjc rows ts hs k D y;by_cases e:c=k
   ·subst e;rw[Ob6 (by omega)];simp[H,h0]
   rw[Ob0 (by omega)];exact Jov rows ts hs k D y c (by omega)
  simp at h
theorem Jpd (rs:List (List V))(ts hs:List Int)(len g:Nat):∀ (n:Nat) (T:List (List UInt8)),Jfg rs ts hs (cks len g n)=.inl T→∀ j c,j<n→c<ts.length→T[j*ts.length+c]?=some (Uo (Uk rs (Jaa len g j)) ts hs c).1∧(Uo (Uk rs (Jaa len g j)) ts hs c).2=0
 |0,T,h,j,c,O,_=>by omega
 |n+1,T,h,j,c,O,E=>by
  rw[Jbj,Juv]at h;simp only[Jiu]at h;split at h
  ·simp at h
  rename_i y D
  split at h
  ·rename_i l hl
   simp at h;subst h;have H:=(Jte rs ts hs _ y D).1;rw[Jbp]at H;by_cases e:j=n
   ·subst e;rw[Ob6 (by omega),H,Nat.add_sub_cancel_left];exact Jov _ ts hs _ l hl c E
   have K:(j+1)*ts.length≤n*ts.length:=Om8 _ (by omega);rw[Of5]at K;rw[Ob0 (by omega)];exact Jpd rs ts hs len g n y D j c (by omega) E
  simp at h
theorem Kjs {l:List Int}{c:Nat}(h:c<l.length):l.getD c 0∈l:=by
 rw[show l.getD c 0=l[c] by simp[h]];exact Ob3 _
theorem Kkg {name:ByteArray}{ts hs:List Int}{rs:List (List V)}{g:Nat}{T:List (List UInt8)}(Z:Jel name ts rs)(bc:hs.length=ts.length)(H:∀ x∈hs,Kjk x)(hp:Jfg rs ts hs (cks rs.length g (ckN rs.length g))=.inl T):∀ t∈T,Kje t:=by
 intro t Y t' bf bh bi y;obtain⟨i,hi,rfl⟩:=Od5 Y;have E:=(Jte rs ts hs _ T hp).1;rw[Jbp]at E;have h0:0<ts.length:=Z.2.1.1.1;have R:=Nat.div_add_mod i ts.length;have U:=Ol0 i h0;have X:i / ts.length<ckN rs.length g:=(Nat.div_lt_iff_lt_mul h0).2 (by omega);obtain⟨D,ba⟩:=Jpd rs ts hs rs.length g _ T hp _ _ X U;rw[Nat.mul_comm,R,Oa3 hi,Oc9]at D;have K:Jev (ts.getD (i % ts.length) 0) (hs.getD (i % ts.length) 0) (Jaj (Uk rs (Jaa rs.length g (i / ts.length))) (i % ts.length))=(T[i],0):=Prod.ext D.symm ba;obtain⟨_,_,_,_,e,O⟩:=Kja K;rw[O]at y;simp only[Oc9,Oj3]at y;rw[←y.1.2.1,e];exact H _ (Kjs (by omega))
theorem Jqv (D:DS)(name:ByteArray)(ts hs:List Int)(rs:List (List V))(g:Nat)(T:List (List UInt8))(y:List (List Nat))(Y:Jel name ts rs)(H:1≤g)(bn:∀ r∈rs,∀ v∈r,Jg v.n)(bc:∀ x∈hs,Kkn x)(bC:hs.length=ts.length)
  (hp:Jfg rs ts hs (cks rs.length g (ckN rs.length g))=.inl T) (hl:y.length=T.length) (bj:∀ (i:Nat) (ba:i<y.length) (bB:i<T.length),Jan D y[i] T[i]) :
  Jgp D ⟨name,ts,rs.length,g,y⟩=.inl rs:=by
 have hr:∀ r∈rs,r.length=ts.length:=fun r hr=>by
  obtain⟨i,hi,rfl⟩:=Od5 hr;exact(Y.2.2.2 i hi).1
 have K:∀ j c,j<ckN rs.length g→c<ts.length→Us D (y.getD (j*ts.length+c) []) (ts.getD c 0) (Jaa rs.length g j).2=.inl (Jaj (Uk rs (Jaa rs.length g j)) c):=by
  intro j c O E;obtain⟨bf,h0⟩:=Jpd rs ts hs rs.length g _ T hp j c O E;obtain⟨bi,bh⟩:=Ob9.1 bf;have R:j*ts.length+c<y.length:=by omega
  have X:=(bj _ R bi).read;rw[bh]at X;obtain⟨ba,_,_⟩:=Jjr rs.length g j H O;have bA:(Uk rs (Jaa rs.length g j)).length=(Jaa rs.length g j).2:=by simp[Uk];omega
  have bx:=Ki9 (ts.getD c 0) (hs.getD c 0) (bc _ (Kjs (by omega))) (Jaj (Uk rs (Jaa rs.length g j)) c) (Uo (Uk rs (Jaa rs.length g j)) ts hs c).1 (by
   unfold Uo at h0 ⊢;exact Prod.ext rfl h0) (fun v K=>by
    obtain⟨r,bz,rfl⟩:=Of0.1 K;have U:r∈rs:=Oh7 (Om9 bz);have br:=hr r U;have:r.getD c Jf=r[c]:=(by simp[br,E]);rw[this];exact bn r U _ (Ob3 _))
  unfold Us;rw[show y.getD (j*ts.length+c) []=y[j*ts.length+c] by simp[R],X];simp only[bx];have Z:Jnd (ts.getD c 0)=true:=by
   have:=Y.2.1.2 c E;simpa [E] using this
  unfold Jnd at Z;simp only[decide_eq_true_iff]at Z;rw[if_pos ⟨by omega,by rw[←bA];simp[Jaj]⟩]
 obtain⟨p,h⟩:=Joa D rs ts y g H hr K (ckN rs.length g) (Oa2 _);unfold Jgp;simp only;rw[h,Kb8 rs ts.length _ _ (Jxu rs.length g H)]
end
section
open Go.RowKit
theorem Jmw:∀ (ps:List (List UInt8))(y:DS),((Js y.pages:Nat):Int)≤y.quota→(Uy y ps).2.2=none→((Js (Uy y ps).1.pages:Nat):Int)≤y.quota
 |[],y,h,_=>by simpa [Uy] using h
 |p::ps,y,h,hn=>by
  unfold Uy at hn ⊢;by_cases D:y.quota≤((Js y.pages:Nat):Int)
  ·rw[if_pos D]at hn;simp at hn
  rw[if_neg D]at hn ⊢;by_cases E:wrap64 (y.writes+1)=y.fail
  ·rw[if_pos E]at hn;simp at hn
  rw[if_neg E]at hn ⊢;have:=Jmw ps (Zn y p) (by rw[Jm8];show _≤y.quota;omega) hn;exact this
theorem Jh1:∀ (ts:List (List UInt8))(y:DS),((Js y.pages:Nat):Int)≤y.quota→(Jq y ts).2.2=none→((Js (Jq y ts).1.pages:Nat):Int)≤y.quota
 |[],y,h,_=>by simpa [Jq] using h
 |t::ts,y,h,hn=>by
  have D:=Jmw (Qu t) y h;have H:=(Jc1 (Qu t) y).1;unfold Jq at hn ⊢;rcases hr:Uy y (Qu t)with⟨E,l,r⟩;rw[hr]at hn D H;cases r with
  |none=>
   have K:E.quota=y.quota:=(H rfl).quota;have:=Jh1 ts E (by rw[K];exact D rfl) hn;rw[K]at this;exact this
  |some x=>simp at hn
theorem Jhk:∀ (ts:List (List UInt8))(y:DS),(Jq y ts).1.pages.length≤y.pages.length+Jch ts
 |[],y=>by simp[Jq,Jch]
 |t::ts,y=>by
  have D:=(Jrh (Qu t) y).1;unfold Jq;rcases hr:Uy y (Qu t)with⟨E,l,r⟩;rw[hr]at D;rw[Ja1];cases r with
  |none=>
   have:=Jhk ts E;simp only at D this ⊢;omega
  |some x=>
   simp only at D ⊢;rw[Jrz];omega
structure Jer (D:DS) (T:TS) (rs:List (List V)):Prop where
 cols:1≤T.types.length∧T.types.length≤6
 rows:T.rows≤200
 group:1≤T.group∧T.group≤64
 count:T.segs.length=ckN T.rows T.group*T.types.length
 texts:∃ X:List (List UInt8),X.length=T.segs.length∧(∀ t∈X,t≠[]∧t.length≤6100∧Kje t)∧(∀ (i:Nat) (h1:i<T.segs.length) (h2:i<X.length),Jan D T.segs[i] X[i])∧(∀ E:DS,(∀ (i:Nat) (h1:i<T.segs.length) (h2:i<X.length),Jan E T.segs[i] X[i])→Jgp E T=.inl rs)
theorem Jer.read {y:DS}{T:TS}{rs:List (List V)}(h:Jer y T rs):Jgp y T=.inl rs:=by
 obtain⟨H,_,_,D,E⟩:=h.texts;exact E y D
theorem Jer.keep {y D:DS}{T:TS}{rs:List (List V)}(h:Jer y T rs)(X:∀ i∈T.segs.flatten,pg D i=pg y i):Jer D T rs:=by
 obtain⟨E,H,K,O,R⟩:=h.texts;exact⟨h.cols,h.rows,h.group,h.count,E,H,K,fun i hi U=>(O i hi U).keep fun k Y=>X k (List.mem_flatten.2 ⟨_,Ob3 hi,Y⟩),R⟩
theorem Jer.seg {D:DS}{T:TS}{rs:List (List V)}(h:Jer D T rs):∀ l∈T.segs,∃ t,t≠[]∧t.length≤6100∧Jan D l t∧Kje t:=by
 intro l hl;obtain⟨E,O,H,K,R⟩:=h.texts;obtain⟨i,hi,rfl⟩:=Od5 hl;have y:=H _ (Ob3 (show i<E.length by omega));exact⟨_,y.1,y.2.1,K i hi (by omega),y.2.2⟩
theorem Jx9 {y:DS}{l:List Nat}{t:List UInt8}(h:Jan y l t)(H:t≠[])(hl:t.length≤6100):l≠[]∧l.length≤1000:=by
 have K:=Jio t;have D:=h.1;have E:=Jy1 H;refine⟨fun e=>E (Od3.1 ?_),by omega⟩;rw[←D,e];rfl
theorem Jer.inuse {y:DS}{T:TS}{rs:List (List V)}(h:Jer y T rs):∀ i∈T.segs.flatten,∃ p,pg y i=some p:=by
 intro i hi;obtain⟨l,hl,E⟩:=List.mem_flatten.1 hi;obtain⟨t,_,_,⟨K,D⟩,_⟩:=h.seg l hl;obtain⟨k,H,rfl⟩:=Od5 E;exact⟨_,D k H (by omega)⟩
theorem Jer.ok {H:DS}{T:TS}{rs:List (List V)}(h:Jer H T rs):Jid H T:=by
 refine⟨h.cols,h.rows,h.group,h.count,fun l hl=>?_,fun l hl t E=>?_⟩
 ·obtain⟨t,y,K,D,_⟩:=h.seg l hl;exact Jx9 D y K
 obtain⟨t',y,K,D,O⟩:=h.seg l hl;rw[D.read]at E;simp at E;rw[←E];exact⟨y,O⟩
structure Jbc (D:DS) (L:List (TS×List (List V))):Prop where
 tab:∀ x∈L,Jer D x.1 x.2
 nodup:(L.flatMap fun x=>x.1.segs.flatten).Nodup
 all:∀ i p,pg D i=some p→i∈L.flatMap fun x=>x.1.segs.flatten
 used:Js D.pages=(L.flatMap fun x=>x.1.segs.flatten).length
 writes:0≤D.writes
theorem Jbc.empty (q f:Int):Jbc (Ku q f) []:=
 ⟨by simp,by simp,fun i p h=>by simp[pg,Ku]at h,by simp[Ku,Js],by simp[Ku]⟩
theorem Jbc.same {D y:DS}{L:List (TS×List (List V))}(h:Jbc D L)(hs:Kft D y)(E:0≤y.writes):Jbc y L:=
 ⟨fun x H=>(h.tab x H).keep fun i _=>hs.pages i,h.nodup,fun i p hp=>h.all i p (by rw[←hs.pages];exact hp),hs.used.trans h.used,E⟩
theorem Kg4 (n g:Nat)(D:1≤g):ckN n g≤n:=by
 unfold ckN;exact Nat.le_of_lt_succ ((Nat.div_lt_iff_lt_mul (by omega)).2 (by
  have:n+1≤(n+1)*g:=On4 _ (by omega);rw[Of5]at this ⊢;have y:n≤n*g:=On4 _ (by omega);omega))
theorem Jtr {name:ByteArray}{ts hs:List Int}{rs:List (List V)}{g:Int}{T:List (List UInt8)}(E:Jel name ts rs∧Je3 ts hs∧1≤g∧g≤64)(hp:Jfg rs ts hs (cks rs.length g.toNat (ckN rs.length g.toNat))=.inl T) :
  T.length=ckN rs.length g.toNat*ts.length∧(∀ t∈T,t.length≤6100∧t≠[])∧Jch T≤660*rs.length∧(T=[]↔rs=[]):=by
 obtain⟨y,D⟩:=Jte rs ts hs _ T hp;rw[Jbp]at y;have R:=Joc T fun t O=>(D t O).1;have H:=Kg4 rs.length g.toNat (by omega);have K:ts.length≤6:=E.1.2.1.1.2;have X:1≤ts.length:=E.1.2.1.1.1;have U:ckN rs.length g.toNat*ts.length≤rs.length*6:=Ol5 H K;refine⟨y,D,by omega,⟨fun e=>?_,fun e=>?_⟩⟩
 ·subst e;have h0:ckN rs.length g.toNat=0:=by
   rcases Nat.mul_eq_zero.1 y.symm with h|h
   ·exact h
   omega
  have:=Jxu rs.length g.toNat (by omega);simp only[Jaa,h0]at this;exact Od3.1 (by omega)
 subst e;have h0:ckN ([]:List (List V)).length g.toNat=0:=by unfold ckN;exact Nat.div_eq_of_lt (by simp;omega)
 rw[h0]at y;exact Od3.1 (by omega)
theorem Kjy {y H:DS}{L:List (TS×List (List V))}{Ts:List TS}{name:ByteArray}{ts hs:List Int}{rs:List (List V)}{g:Int}{T:TS}(bc:∀ x∈hs,Kjk x∧Kkn x)(O:Jbc y L)(bE:∀ r∈rs,∀ v∈r,Jg v.n)(bR:y.writes≤1000000000)(h:Jbd y Ts name ts hs rs g=.ok H T) :
  Jbc H (L++[(T,rs)])∧T.name=name∧Js H.pages=Js y.pages+T.segs.flatten.length∧(T.segs.flatten=[]↔rs=[])∧H.quota=y.quota∧H.fail=y.fail∧H.pages.length≤y.pages.length+660*rs.length∧H.writes≤y.writes+660*rs.length∧(((Js y.pages:Nat):Int)≤y.quota→((Js H.pages:Nat):Int)≤y.quota)∧y.writes≤H.writes∧(Ub Ts name=Ts.length):=by
 unfold Jbd at h;split at h
 ·rename_i R
  split at h
  ·simp at h
  rename_i bQ
  split at h
  ·simp at h
  rename_i E X
  split at h
  ·simp at h
  rename_i hn
  simp only[Sum.inr.injEq,Oj3]at h;obtain⟨rfl,rfl⟩:=h;obtain⟨bL,ba,bT,bj⟩:=Jtr R X;have hl:=Jjv E y hn;have bH:=Jh1 E y;have bP:=Jhk E y;have bI:rs.length≤200:=R.1.2.2.1;have bK:=Jd9 E y O.writes (by omega);generalize bN:(Jq y E).1=H at *;generalize hR:(Jq y E).2.1=K at *;have bO:=Kdk Ts name;have bS:=O.writes;refine⟨⟨?_,?_,?_,?_,by omega⟩,rfl,hl.used,⟨fun e=>?_,fun e=>?_⟩,hl.quota,hl.fail,by omega,by omega,fun bD=>bH bD hn,bK.1.1,by omega⟩
  ·intro x D;rcases Od2.1 D with D|D
   ·refine(O.tab x D).keep fun i hi=>hl.other i fun U=>?_;obtain⟨p,hp⟩:=(O.tab x D).inuse i hi;rw[hl.free i U]at hp;simp at hp
   simp at D;subst D;refine⟨⟨R.1.2.1.1.1,R.1.2.1.1.2⟩,bI,⟨by show 1≤g.toNat;omega,by show g.toNat≤64;omega⟩,by show K.length=_;rw[hl.len,bL],E,hl.len.symm,fun t Z=>⟨(ba t Z).2,(ba t Z).1,Kkg R.1 R.2.1.1 (fun x D=>(bc x D).1) X t Z⟩,fun i br bM=>hl.segs i br,fun bn bx=>Jqv bn name ts hs rs g.toNat E K R.1 (by omega) bE (fun x D=>(bc x D).2) R.2.1.1 X hl.len bx⟩
  ·rw[Oe8];refine Op3.2 ⟨O.nodup,by simpa using hl.nodup,fun a bz b bf e=>?_⟩;subst e;simp at bf;obtain⟨x,D,bB⟩:=Op5.1 bz;obtain⟨p,hp⟩:=(O.tab x D).inuse a bB;have bC:a∈K.flatten:=by
    obtain⟨l,bG,bA⟩:=bf;exact List.mem_flatten.2 ⟨l,bG,bA⟩
   rw[hl.free a bC]at hp;simp at hp
  ·intro i p hp;rw[Oe8];by_cases U:i∈K.flatten
   ·exact Od2.2 (.inr (by simpa using U))
   rw[hl.other i U]at hp;exact Od2.2 (.inl (O.all i p hp))
  ·rw[hl.used,O.used,Oe8,Oa8];simp
  ·have Y:E=[]:=by
    rcases E with _|⟨t,E⟩
    ·rfl
    ·exfalso;rcases K with _|⟨l,K⟩
     ·have:=hl.len;simp at this
     have bJ:=hl.segs 0 (by simp);have bi:=ba t (by simp);have:=(Jx9 bJ bi.2 bi.1).1;simp at e;exact this (by simpa using e.1)
   exact bj.1 Y
  have Y:=bj.2 e;have bh:=hl.len;rw[Y]at bh;have:K=[]:=Od3.1 (by simpa using bh);show K.flatten=[];rw[this];rfl
 simp at h
theorem Jz8 {y D:DS}{L:List (TS×List (List V))}{Ts:List TS}{name:ByteArray}{ts hs:List Int}{rs:List (List V)}{g:Int}{x:Bool}(K:Jbc y L)(bi:y.writes≤1000000000)(h:Jbd y Ts name ts hs rs g=.disk x D) :
  Jbc D L∧Kft y D∧rs≠[]∧(x=true→y.quota≤((Js y.pages+660*rs.length:Nat):Int))∧(x=false→D.writes=y.fail∧y.writes<D.writes)∧D.pages.length≤y.pages.length+660*rs.length∧D.writes≤y.writes+660*rs.length∧y.writes≤D.writes:=by
 unfold Jbd at h;split at h
 ·rename_i R
  split at h
  ·simp at h
  split at h
  ·simp at h
  rename_i E Z
  split at h
  ·rename_i bc hn
   simp only[Sum.inr.injEq,Sum.inl.injEq,Oj3]at h;obtain⟨rfl,rfl⟩:=h;obtain⟨bn,br,bx,ba⟩:=Jtr R Z;obtain⟨O,X,Y⟩:=Jj4 E y bc hn;have bh:rs.length≤200:=R.1.2.2.1;have U:=Jd9 E y K.writes (by omega);have H:=(Jdn (Jq y E).2.1 (Jq y E).1).2.2;have bf:=Jhk E y;have bj:=K.writes;refine⟨K.same O (by rw[H];omega),O,fun e=>X (ba.2 e),fun e=>?_,fun e=>?_,by rw[Jt4];omega,by rw[H];omega,by rw[H];exact U.1.1⟩
   ·have:=Y e;omega
   subst e;rw[H];exact U.2.1 hn
  simp at h
 simp at h
theorem Jla (rows:List (List V))(ts hs:List Int)(c:Nat):∀ (k:Nat),Jeo rows ts hs k=.inr c→c<k∧(Uo rows ts hs c).2≠0
 |0,h=>by simp[Jeo]at h
 |k+1,h=>by
  simp only[Jeo]at h;split at h
  ·rename_i y D
   simp at h;subst h;have:=Jla rows ts hs y k D;exact⟨by omega,this.2⟩
  split at h
  ·simp at h
  rename_i h0
  simp at h;subst h;exact⟨by omega,h0⟩
theorem Ju4 (rs:List (List V))(ts hs:List Int)(c:Nat):∀ (xs:List (Nat×Nat)),Jfg rs ts hs xs=.inr c→∃ x∈xs,c<ts.length∧(Uo (Uk rs x) ts hs c).2≠0:=by
 intro xs;have X:∀ (xs:List (Nat×Nat)) (T:List (List UInt8)),xs.foldl (Jiu rs ts hs) (.inl T)=.inr c→∃ x∈xs,c<ts.length∧(Uo (Uk rs x) ts hs c).2≠0:=by
  intro xs;induction xs with
  |nil=>intro T h;simp at h
  |cons x xs E=>
   intro T h;rw[List.foldl_cons]at h;simp only[Jiu]at h;split at h
   ·obtain⟨H,U,K⟩:=E _ h;exact⟨H,by simp[U],K⟩
   rename_i D R
   have O:∀ y:List (Nat×Nat),y.foldl (Jiu rs ts hs) (.inr D)=.inr D:=by
    intro y;induction y with
    |nil=>rfl
    |cons H y E=>exact E
   rw[O]at h;simp at h;subst h;exact⟨x,by simp,Jla _ ts hs D _ R⟩
 exact X xs []
theorem Jy3 {R:DS}{Ts:List TS}{name:ByteArray}{ts hs:List Int}{rs:List (List V)}{g:Int}{c:Nat}(h:Jbd R Ts name ts hs rs g=.dict c):c<hs.length∧hs.getD c 0=1∧16<rs.length:=by
 unfold Jbd at h;split at h
 ·rename_i H
  split at h
  ·simp at h
  split at h
  ·rename_i y X
   simp only[Sum.inr.injEq,Sum.inl.injEq]at h;subst h;obtain⟨x,ba,U,D⟩:=Ju4 rs ts hs y _ X;obtain⟨j,O,rfl⟩:=Of0.1 ba;rw[Oj4]at O;obtain⟨bc,bf,_⟩:=Jjr rs.length g.toNat j (by omega) O;have Z:=H.2.1.1;refine⟨by omega,?_⟩;have E:=Jqm H.1 (rows:=Uk rs (Jaa rs.length g.toNat j)) (hs:=hs) (fun r hr=>Oh7 (Om9 hr)) (by simp only[Uk,Oc7,Of7,Jaa];omega) y U Z H.2.1.2;have bh:(Jaj (Uk rs (Jaa rs.length g.toNat j)) y).length≤rs.length:=by simp[Jaj,Uk];omega
   unfold Uo Jev at D E;split at D
   ·rename_i K
    rw[if_pos K]at E;split at D
    ·rename_i Y
     have u1:=Jk0 (Jz (Jaj (Uk rs (Jaa rs.length g.toNat j)) y)) [];have u2:=Zy (Jaj (Uk rs (Jaa rs.length g.toNat j)) y);simp only[List.length_nil,Od0]at u1;exact⟨Y.1,by omega⟩
    exact absurd rfl D
   rename_i K
   rw[if_neg K]at E;simp at E
  split at h<;>simp at h
 simp at h
end
section
open Go.RowKit Go.Shelf Tryz
theorem Jen (w:World):Calls prog 7 #[] w fun e w'=>e=.returned (.agg #[.int .i64 1048576,.int .i64 0])∧Below w.heap.size w w':=by
 go_enter func7,ntmps7
 go_wp2;exact bodyPost_ret (v:=.agg #[.int .i64 1048576,.int .i64 0]) (by simp[results,results7,go_sem]) rfl ⟨rfl,(Oa5 _ w).alloc (Oa2 _) _⟩
structure Uw (w:World) (name:ByteArray) (at_ ar:Option Addr) (cr:Nat) (ts:List Int) (xs:List (Option Addr×Nat)) (rs:List (List V)):Prop where
 tab:Jel name ts rs
 tok:∀ t∈ts,tOk t
 vals:∀ r∈rs,∀ v∈r,Jg v.n
 types:Kc w at_ ts
 rows:Zd w ar xs rs
 cap:rs.length≤cr
theorem Uw.below {w w':World}{name:ByteArray}{at_ ar:Option Addr}{cr:Nat}{ts:List Int}{xs:List (Option Addr×Nat)}{rs:List (List V)}(h:Uw w name at_ ar cr ts xs rs)(y:Below w.heap.size w w'):Uw w' name at_ ar cr ts xs rs:=
 ⟨h.tab,h.tok,h.vals,h.types.below y,h.rows.below y,h.cap⟩
theorem Uw.arg {w:World}{name:ByteArray}{at_ ar:Option Addr}{cr:Nat}{ts:List Int}{xs:List (Option Addr×Nat)}{rs:List (List V)}(h:Uw w name at_ ar cr ts xs rs){y:Option Addr}{hs:List Int}(D:Kc w y hs)(hl:hs.length≤6):Kct w name at_ ar y cr ts hs xs rs:=by
 have E:=h.tab.1.2;have H:=h.tab.2.1.1.2;have K:=h.tab.2.2.1;refine⟨by unfold maxLen;omega,by unfold maxLen;omega,by unfold maxLen;omega,fun r hr=>?_,by unfold maxLen;omega,h.cap,h.types,D,h.rows⟩;obtain⟨i,hi,rfl⟩:=Od5 hr;have:=(h.tab.2.2.2 i hi).1;unfold maxLen;omega
theorem Kck {y:DS}{L:List (TS×List (List V))}{Ts:List TS}{name:ByteArray}{ts hs:List Int}{rs:List (List V)}{g:Int}(H:Jbc y L)(E:Jel name ts rs)(O:Je3 ts hs)(K:1≤g∧g≤64)(Z:Ub Ts name=Ts.length)(Y:Ts.length<6)(ba:y.quota=1048576)(hf:y.fail=0)(bf:Js y.pages≤200000)(X:y.writes≤1000000000) :
  (∃ c,Jbd y Ts name ts hs rs g=.dict c)∨∃ D T,Jbd y Ts name ts hs rs g=.ok D T:=by
 have bc:rs.length≤200:=E.2.2.1;rcases hr:Jbd y Ts name ts hs rs g with _|_|c|⟨x,D⟩|⟨D,T⟩
 ·unfold Jbd at hr;rw[if_pos ⟨E,O,K⟩]at hr;split at hr
  ·simp at hr
  split at hr
  ·simp at hr
  split at hr<;>simp at hr
 ·unfold Jbd at hr;rw[if_pos ⟨E,O,K⟩,if_neg (by omega)]at hr;split at hr
  ·simp at hr
  split at hr<;>simp at hr
 ·exact .inl ⟨c,rfl⟩
 ·exfalso;obtain⟨_,_,_,R,U,_⟩:=Jz8 H X hr;have:=H.writes;cases x with
  |true=>have:=R rfl;omega
  |false=>have:=U rfl;omega
 exact .inr ⟨D,T,rfl⟩
theorem Jvv {ts hs:List Int}(h:Jfz ts [] hs ts.length):Je3 ts hs∧∀ c,hs.getD c 0=0:=by
 refine⟨⟨h.len,h.ok⟩,fun c=>?_⟩;by_cases y:c<hs.length
 ·have:=h.plain c y (by simp);simpa [y] using this
 simp[List.getD_eq_getElem?_getD,List.getElem?_eq_none (Nat.le_of_not_lt y)]
theorem Jtl {y D:DS}{Ts:List TS}{name:ByteArray}{ts hs:List Int}{rs:List (List V)}{g:Int}{T:TS}(h:Jbd y Ts name ts hs rs g=.ok D T):T.types=ts:=by
 unfold Jbd at h;split at h
 ·split at h
  ·simp at h
  split at h
  ·simp at h
  split at h
  ·simp at h
  cases h
  rfl
 simp at h
def Kj (M:Nat→Prop)(w:World)(st:Nat)(D:DS)(L:List (TS×List (List V)))(name:ByteArray)(ts:List Int)(rs:List (List V))(w':World):Prop:=
 ∃ (M':Nat→Prop) (y:DS) (T:TS),Sto M' w' st y ((L++[(T,rs)]).map Prod.fst)∧Jbc y (L++[(T,rs)])∧(T.name=name∧T.types=ts)∧y.quota=D.quota∧y.fail=D.fail∧y.pages.length≤D.pages.length+660*rs.length∧y.writes≤D.writes+660*rs.length∧Js y.pages=Js D.pages+T.segs.flatten.length∧(T.segs.flatten=[]↔rs=[])∧(∀ k,M k→M' k)∧(∀ k,M' k→M k∨w.heap.size≤k)
theorem Jxk (M:Nat→Prop)(st:Nat)(y:DS)(L:List (TS×List (List V)))(name:ByteArray)(at_ ar K:Option Addr)(ct cr X:Nat)(ts hs:List Int)(xs:List (Option Addr×Nat))(rs:List (List V))(g:Int)(w:World)(bK:Sto M w st y (L.map Prod.fst))(Y:Jbc y L)(hR:Uw w name at_ ar cr ts xs rs)(bP:Kc w K hs)(hI:Jfz ts [] hs ts.length)(bO:1≤g∧g≤64)(bU:Ub (L.map Prod.fst) name=L.length)(bN:L.length<6)
  (bW:y.quota=1048576) (hf:y.fail=0) (hp:y.pages.length≤200000) (bf:y.writes≤1000000000) (bH:∀ b o,at_=some ⟨b,o,none⟩→¬ M b) (O R U br q wr pg bj ex bn:Addr) (E:World) (bJ:Jax E O R U br q wr pg bj ex bn) (bL:Below E.heap.size E w) (bI:∀ k,M k→E.heap.size≤k) :
  Calls prog 20 #[.pointer (some ⟨st,0,none⟩),Jvc name at_ ar ct cr ts rs,.slice K hs.length X,.int .i64 g] w fun e w'=>e=.returned (Jb6 0)∧Ju M w w'∧Kj M w st y L name ts rs w':=by
 obtain⟨bc,bh⟩:=Jvv hI;have bi:∀ x∈hs,x=0:=fun x D=>by
  obtain⟨i,hi,rfl⟩:=Od5 D;have:=bh i;simpa [hi] using this
 have bR:hs.length≤6:=by rw[bc.1];exact hR.tab.2.1.1.2
 have bV:∃ H T,Jbd y (L.map Prod.fst) name ts hs rs g=.ok H T:=by
  rcases Kck Y hR.tab bc bO (Ts:=L.map Prod.fst) (by rw[bU];simp) (by simpa using bN) bW hf (Ob2 (Kad _) hp) bf with⟨c,bM⟩|h
  ·have:=(Jy3 bM).2.1;rw[bh c]at this;simp at this
  exact h
 obtain⟨H,T,hr⟩:=bV;refine(Jyt M st y (L.map Prod.fst) name at_ ar K ct cr X ts hs xs rs g w bK (hR.arg bP bR) bH hp O R U br q wr pg bj ex bn E bJ bL bI (fun x D=>by rw[bi x D];exact Ki5) ⟨H,T,hr⟩).mono fun e w' ⟨Z,bQ,M',ba,bS,bT⟩=>?_;rw[hr]at Z ba;obtain⟨bx,bz,bA,bB,bC,bD,bE,bG,_⟩:=Kjy (fun x D=>by rw[bi x D];exact⟨Ki5,Kj4⟩) Y hR.vals bf hr;exact⟨Z,bQ,M',H,T,by simpa [Ja0.ts,Ja0.d] using ba,bx,⟨bz,Jtl hr⟩,bC,bD,bE,bG,bA,bB,bS,bT⟩
theorem Jfn {M:Nat→Prop}{w E y K:World}{st:Nat}{O:DS}{L:List (TS×List (List V))}{name:ByteArray}{ts:List Int}{rs:List (List V)}{fa:Nat}(h:Kj M E st O L name ts rs y)(bx:w.heap.size≤E.heap.size)(hs:y.heap.size≤K.heap.size)(bn:∀ k,k<y.heap.size→k≠fa→K.heap[k]?=y.heap[k]?)(hn:¬ M fa)(br:fa<E.heap.size∨y.heap.size≤fa):Kj M w st O L name ts rs K:=by
 obtain⟨M',U,T,H,Y,Z,ba,bc,bf,bh,bi,bj,X,R⟩:=h;refine⟨M',U,T,H.stands hs fun k D=>bn k (H.lt k D) fun e=>?_,Y,Z,ba,bc,bf,bh,bi,bj,X,fun k D=>(R k D).imp_right fun a=>by omega⟩;subst e;have:=H.lt k D;rcases R k D with a|a
 ·exact hn a
 omega
theorem Kwp {P:Program}{E:Region.Mode}{H:Array Oper}{Q:Exit→Act→World→Prop}{S:World→Prop}{fuel n:Nat}{K:Array Bool}{a:Act}{w:World}(T:Act→Array Bool→Act→World→Prop)(O:∀ l D y,T a l D y→wpAnyH P E H Q S n l D y)(h:(∀ l D y,T a l D y→wpAnyH P E H Q S n l D y)→wpAnyH P E H Q S fuel K a w):wpAnyH P E H Q S fuel K a w:=h O
structure Kyj (w:World) (fa:Nat) (G:World→Prop) (X:World):Prop where
 z:X.heap[fa]?=some (.cells #[.int .i64 0,.int .i64 0,.int .i64 0,.int .i64 0,.int .i64 0] 45 (0,0))
 low:Below w.heap.size w X
 new:w.heap.size≤fa
 fin:∀ wx,X.heap.size≤wx.heap.size→(∀ k,k<X.heap.size→k≠fa→wx.heap[k]?=X.heap[k]?)→G wx
theorem Kyj.store {w:World}{fa:Nat}{G:World→Prop}{y:World}(h:Kyj w fa G y)(a b c d e:Int):(((((y.setCell ⟨fa,0,none⟩ (.int .i64 a)).setCell ⟨fa,1,none⟩ (.int .i64 b)).setCell ⟨fa,2,none⟩ (.int .i64 c)).setCell ⟨fa,3,none⟩ (.int .i64 d)).setCell ⟨fa,4,none⟩ (.int .i64 e)).heap[fa]?=some (.cells #[.int .i64 a,.int .i64 b,.int .i64 c,.int .i64 d,.int .i64 e] 45 (0,0))∧Below w.heap.size w (((((y.setCell ⟨fa,0,none⟩ (.int .i64 a)).setCell ⟨fa,1,none⟩ (.int .i64 b)).setCell ⟨fa,2,none⟩ (.int .i64 c)).setCell ⟨fa,3,none⟩ (.int .i64 d)).setCell ⟨fa,4,none⟩ (.int .i64 e))∧G (((((y.setCell ⟨fa,0,none⟩ (.int .i64 a)).setCell ⟨fa,1,none⟩ (.int .i64 b)).setCell ⟨fa,2,none⟩ (.int .i64 c)).setCell ⟨fa,3,none⟩ (.int .i64 d)).setCell ⟨fa,4,none⟩ (.int .i64 e)):=by
 have D:=Jk (Jk (Jk (Jk (Jk h.z 0 (.int .i64 a)) 1 (.int .i64 b)) 2 (.int .i64 c)) 3 (.int .i64 d)) 4 (.int .i64 e);simp only[Oa1,List.set_cons_zero,List.set_cons_succ]at D;exact⟨D,Um h.low h.new _ _ _ _ _,h.fin _ (by rw[Jg2];exact Oa2 _) fun k _ E=>Zh _ _ _ _ _ _ _ k E⟩
structure TbX where
 name:ByteArray
 at_:Option Addr
 ct:Nat
 ar:Option Addr
 cr:Nat
 ts:List Int
 xs:List (Option Addr×Nat)
 rs:List (List V)
def Kxw (w:World)(b:Nat)(L:List TbX):Prop:=∀ (i:Nat) (t:TbX),L[i]?=some t→w.cell? ⟨b,i*3,none⟩=some (.string t.name)∧w.cell? ⟨b,i*3+1,none⟩=some (.slice t.at_ t.ts.length t.ct)∧w.cell? ⟨b,i*3+2,none⟩=some (.slice t.ar t.rs.length t.cr)
def Kr9 (L:List TbX)(i:Nat):Nat:=((L.take i).map fun t=>t.rs.length).sum
theorem Ku8 {L:List TbX}{i:Nat}{t:TbX}(h:L[i]?=some t):Kr9 L (i+1)=Kr9 L i+t.rs.length:=by
 unfold Kr9;rw[Oi7,h];simp
theorem Kwz (L:List TbX)(i:Nat):Kr9 L i≤Kr9 L L.length:=by
 have h:Kr9 L L.length=Kr9 L i+((L.drop i).map fun t=>t.rs.length).sum:=by
  unfold Kr9;rw[Of2,←List.sum_append,←Ob8,Ok3]
 omega
def Ksm (w:World)(st:Nat)(L:List TbX)(i:Nat)(D:World):Prop:=∃ (M:Nat→Prop) (y:DS) (S:List (TS×List (List V))),Sto M D st y (S.map Prod.fst)∧Jbc y S∧S.length=i∧(∀ (j:Nat) t s,L[j]?=some t→S[j]?=some s→s.1.name=t.name∧s.1.types=t.ts∧s.2=t.rs)∧y.quota=1048576∧y.fail=0∧y.pages.length≤660*Kr9 L i∧y.writes≤660*Kr9 L i∧(∀ k,M k→w.heap.size≤k)
theorem Ksm.below {w:World}{st:Nat}{L:List TbX}{i:Nat}{y D:World}(h:Ksm w st L i y)(O:Below y.heap.size y D):Ksm w st L i D:=by
 obtain⟨M,E,S,H,K⟩:=h;exact⟨M,E,S,H.below O,K⟩
theorem Ksm.next {M:Nat→Prop}{w w':World}{st:Nat}{L:List TbX}{i:Nat}{t:TbX}{y:DS}{S:List (TS×List (List V))}(E:L[i]?=some t)(hl:S.length=i)(hn:∀ (j:Nat) t s,L[j]?=some t→S[j]?=some s→s.1.name=t.name∧s.1.types=t.ts∧s.2=t.rs)(bi:y.quota=1048576)(hf:y.fail=0)(hp:y.pages.length≤660*Kr9 L i)(br:y.writes≤660*Kr9 L i)(ba:∀ k,M k→w.heap.size≤k)(h:Kj M w st y S t.name t.ts t.rs w'):Ksm w st L (i+1) w':=by
 obtain⟨M',H,T,K,R,⟨U,X⟩,Y,Z,bj,bn,_,_,_,O⟩:=h;have hr:=Ku8 E;refine⟨M',H,S++[(T,t.rs)],K,R,by rw[Oa8,hl];rfl,fun j u s D hs=>?_,Y.trans bi,Z.trans hf,by rw[hr];omega,by rw[hr];omega,fun k bh=>(O k bh).elim (ba k) id⟩;by_cases bc:j<S.length
 ·rw[Ob0 bc]at hs;exact hn j u s D hs
 have bf:j=i:=by
  have:=(Ob9.1 hs).1;rw[Oa8]at this;have:j<S.length+1:=this;omega
 subst bf;rw[E]at D;cases D
 rw[Ob6 (by omega),hl,Oe1]at hs;cases hs
 exact⟨U,X,rfl⟩
theorem Kvl (b cap:Nat)(L:List TbX)(w:World)(hR:∀ t∈L,Uw w t.name t.at_ t.ar t.cr t.ts t.xs t.rs)(bI:Kxw w b L)(dY:b<w.heap.size)(cc:(L.map TbX.name).Nodup)(cZ:L.length≤6)(de:Kr9 L L.length≤300)
  (cn cu cv cH q cI pg cF ex cG:Addr) (cQ:Jax w cn cu cv cH q cI pg cF ex cG) :
  Calls prog 6 #[.agg #[.int .i64 1048576,.int .i64 0],.slice (some ⟨b,0,none⟩) L.length cap] w fun e w'=>Below w.heap.size w w'∧∃ st,e=.returned (.pointer (some ⟨st,0,none⟩))∧Ksm w st L L.length w':=by
 have cV:Below w.heap.size w (w.alloc (.cells #[.int .i64 1048576,.int .i64 0] 33)):=(Oa5 _ w).alloc (Oa2 _) _;have dc:=Kfq 1048576 0 (w.alloc (.cells #[.int .i64 1048576,.int .i64 0] 33));have bM:Hid ((∀ t∈L,Uw w t.name t.at_ t.ar t.cr t.ts t.xs t.rs)∧Kxw w b L∧(L.map TbX.name).Nodup∧L.length≤6∧Kr9 L L.length≤300):=⟨hR,bI,cc,cZ,de⟩;have dp:Hid (Jax w cn cu cv cH q cI pg cF ex cG):=cQ;clear hR bI cc cZ de cQ;go_enter func6,ntmps6
 go_upto_region 3 with(first|(go_at_call 19;refine dc.mono ?_;rintro e cj ⟨cW,st,M,rfl,bV,bP⟩))
 have cP:Ksm w st L 0 cj:=⟨M,_,[],bV,Jbc.empty _ _,rfl,fun j t s _ hs=>by simp at hs,rfl,rfl,by simp[Ku],by simp[Ku,Kr9],fun k br=>by have:=bP k br;simp at this;omega⟩;have ch:Hid (Below w.heap.size w cj∧Ksm w st L 0 cj):=⟨Jb cV cW,cP⟩;obtain⟨dR,dr⟩:∃ p:Addr,Hid (p=⟨st,0,none⟩):=⟨_,rfl⟩;clear bV bP dc cP cW cV dr dR;go_loopw [6] (fun i wr=>∃ j:Nat,j≤L.length∧i=.int .i64 (j:Int)∧Below w.heap.size w wr∧Ksm w st L j wr) (fun i _=>L.length-(intOf i).toNat)
 case atStart=>exact⟨0,Ob7 _,rfl,ch.out⟩
 case round=>
  obtain⟨j,dZ,rfl,bh,hI⟩:=hrel;by_cases bK:j<L.length
  ·obtain⟨M,Y,S,bV,df,dg,cE,cD,hf,hp,dj,bP⟩:=hI;obtain⟨t,bL⟩:∃ t,L[j]?=some t:=⟨_,Oa3 bK⟩;have bD:Hid (Uw w t.name t.at_ t.ar t.cr t.ts t.xs t.rs):=bM.out.1 t (Of6 bL);obtain⟨c0,c1,c2⟩:=bM.out.2.1 j t bL;have cK:Hid (j<L.length∧L[j]?=some t):=⟨bK,bL⟩;have cN:Hid (wrap64 ((j:Int)+1)=((j+1:Nat):Int)):=by show _=_;have:=bM.out.2.2.2.1;unfold wrap64;omega
   have dL:=Kwz L j;have dK:=bM.out.2.2.2.2;have da:Ub (S.map Prod.fst) t.name=S.length:=by
    have:=Jvr (S.map Prod.fst) t.name (fun i hi e=>by
     rw[Oa6]at hi;have cC:i<L.length:=(by omega);have dt:=(cE i _ _ (Oa3 cC) (Oa3 hi)).1;rw[Od9]at e;have cc:=bM.out.2.2.1;have du:(L.map TbX.name)[i]'(by rw[Oa6];exact cC)=(L.map TbX.name)[j]'(by rw[Oa6];exact bK):=by
      rw[Od9,Od9,←dt,e];rw[Oa3 bK]at bL;rw[Oj6 bL]
     exact(List.pairwise_iff_getElem.1 cc) i j (by rw[Oa6];exact cC) (by rw[Oa6];exact bK) (by omega) du)
    rwa [Oa6]at this
   have bB:Hid (Jbc Y S∧Ub (S.map Prod.fst) t.name=S.length∧S.length<6∧Y.quota=1048576∧Y.fail=0∧Y.pages.length≤200000∧Y.writes≤1000000000):=⟨df,da,by have:=bM.out.2.2.2.1;omega,cD,hf,by omega,by omega⟩;have cM:Hid (∀ w',Kj M w st Y S t.name t.ts t.rs w'→Ksm w st L (j+1) w'):=fun w' h=>Ksm.next bL dg cE cD hf hp dj bP h;have bY:Hid (Sto M wr st Y (S.map Prod.fst)):=bV;have bN:Hid (∀ k,M k→w.heap.size≤k):=bP;have cx:=Ja bh c0;have cy:=Ja bh c1;have cz:=Ja bh c2;obtain⟨name,at_,ct,ar,cr,ts,xs,rs⟩:=t;simp only at bD bB cM cx cy cz;have j1:(0:Int)≤(j:Int):=(by omega);have j2:(j:Int)<(L.length:Int):=(by omega);clear bL bK bV df dg cE cD hf hp dj bP da dL dK c0 c1 c2 ch;have cf:Hid (∀ D,Below wr.heap.size wr D→Calls prog 21 #[.agg #[.string name,.slice at_ ts.length ct,.slice ar rs.length cr],.slice none 0 0] D fun e bO=>Below D.heap.size D bO∧∃ (R:Option Addr) (bf:Nat) (hs:List Int),e=.returned (.slice R hs.length bf)∧Kc bO R hs∧Jfz ts [] hs ts.length):=fun D bT=>by
    have:=Jzt (.string name) (.slice ar rs.length cr) at_ none ct 0 ts [] D bD.out.tab.2.1.1.2 bD.out.tok (by simp) (bD.out.types.below (Jb bh bT)) (.inl rfl);refine this.mono fun e bO ⟨hs,sv,dE,dJ,hI,bj⟩=>?_;obtain⟨a,c,dh,dD⟩:=dJ.cells;rw[Oa6]at dh;subst dh;exact⟨bj,a,c,hs,dE,dD,hI⟩
   have bX:Hid (∀ D R bf hs,Below wr.heap.size wr D→Kc D R hs→Jfz ts [] hs ts.length→Calls prog 20 #[.pointer (some ⟨st,0,none⟩),.agg #[.string name,.slice at_ ts.length ct,.slice ar rs.length cr],.slice R hs.length bf,.int .i64 64] D fun e bO=>e=.returned (Jb6 0)∧Ju M D bO∧Kj M D st Y S name ts rs bO):=fun D R bf hs bT hI bH=>
    Jxk M st Y S name at_ ar R ct cr bf ts hs xs rs 64 D (bY.out.below bT) bB.out.1 (bD.out.below (Jb bh bT)) hI bH (by decide) bB.out.2.1 bB.out.2.2.1 bB.out.2.2.2.1 bB.out.2.2.2.2.1 bB.out.2.2.2.2.2.1 bB.out.2.2.2.2.2.2 (fun ds o dC ba=>by
     have bZ:=bN.out ds ba;rcases bD.out.types with h0|⟨b2,fc,cX,bK,_⟩
     ·have:=bD.out.tab.2.1.1.1;simp at h0;rw[h0]at this;simp at this
     rw[dC]at cX;simp at cX;try omega) cn cu cv cH q cI pg cF ex cG w dp.out (Jb bh bT) bN.out
   go_upto_region 5 with fail
   go_cut [7] from 20 to 30 (fun f bQ=>∃ fa:Nat,f=.pointer (some ⟨fa,0,none⟩)∧bQ.heap[fa]?=some (.cells #[.int .i64 0,.int .i64 (-1),.int .i64 (-1),.int .i64 (-1),.int .i64 (-1)] 45 (0,0))∧Below w.heap.size w bQ∧Kj M w st Y S name ts rs bQ)
   case first=>
    have bA:¬ M b:=fun ba=>by have bZ:=bN.out b ba;omega
    refine wp_region_held_drew (S:=fun D=>D.cell? ⟨b,j*3,none⟩=some (.string name)∧D.cell? ⟨b,j*3+1,none⟩=some (.slice at_ ts.length ct)∧D.cell? ⟨b,j*3+2,none⟩=some (.slice ar rs.length cr)) (by kernel_rfl) ⟨cx,cy,cz⟩ (fun y=>?_);refine tkj 0 rfl y ?_;refine tkj 1 rfl y ?_;refine tkj 2 rfl y ?_;refine tkj 3 rfl y ?_;refine tkj 4 rfl y ?_;refine tkj 5 rfl y ?_;refine tkj 6 rfl y ?_;refine tkj 7 rfl y ?_;refine tkj 8 rfl y ?_;refine tkn ?_;have ca:Below wr.heap.size wr wr.drew:=⟨rfl,rfl,rfl,Oa2 _,fun _ _=>rfl⟩;refine Kwp (n:=1) (fun a l cO D=>l=#[true,true,true,true,true,true,true,true,true,true,true,true,false]∧∃ fa di,cO=((a.put (some 7) (.pointer (some ⟨fa,0,none⟩))).put (some 29) di).put (some 30) (Jb6 0)∧Kyj w fa (Kj M w st Y S name ts rs) D∧D.cell? ⟨b,j*3,none⟩=some (.string name)∧D.cell? ⟨b,j*3+1,none⟩=some (.slice at_ ts.length ct)∧D.cell? ⟨b,j*3+2,none⟩=some (.slice ar rs.length cr)) ?tail (fun ci=>?go)
    case tail=>
     rintro l cO D ⟨rfl,fa,di,rfl,bI,cS,cT,cU⟩;simp only[Act.put,Oa1,List.set_cons_zero,List.set_cons_succ];have X:=bI.z;have dM:D.cell? ⟨fa,0,none⟩=some (.int .i64 0):=by simp[World.cell?,X]
     have dN:D.cell? ⟨fa,1,none⟩=some (.int .i64 0):=by simp[World.cell?,X]
     have dO:D.cell? ⟨fa,2,none⟩=some (.int .i64 0):=by simp[World.cell?,X]
     have dP:D.cell? ⟨fa,3,none⟩=some (.int .i64 0):=by simp[World.cell?,X]
     have dQ:D.cell? ⟨fa,4,none⟩=some (.int .i64 0):=by simp[World.cell?,X]
     have dv:=Lib.frozen_of_heap X 0;have dw:=Lib.frozen_of_heap X 1;have dx:=Lib.frozen_of_heap X 2;have dy:=Lib.frozen_of_heap X 3;have dz:=Lib.frozen_of_heap X 4;have dq:Hid _:=bI.store 0 (-1) (-1) (-1) (-1);have dI:b≠fa:=by have:=bI.new;omega
     have cb:∀ o u,D.cell? ⟨b,o,none⟩=some u→(((((D.setCell ⟨fa,0,none⟩ (.int .i64 0)).setCell ⟨fa,1,none⟩ (.int .i64 (-1))).setCell ⟨fa,2,none⟩ (.int .i64 (-1))).setCell ⟨fa,3,none⟩ (.int .i64 (-1))).setCell ⟨fa,4,none⟩ (.int .i64 (-1))).cell? ⟨b,o,none⟩=some u:=fun o u h=>by rw[←h];simp only[World.cell?,Zh _ _ _ _ _ _ _ b dI]
     have dm:Hid _:=And.intro (cb _ _ cS) (And.intro (cb _ _ cT) (cb _ _ cU));clear X bI cS cT cU cb cf bX y;refine tkr 12 rfl fun O E=>?_;go_simp;refine E.out _ _ dm.out (fun _=>?_);clear E O dM dN dO dP dQ dv dw dx dy dz;refine wpAnyH_done (by kernel_rfl) ?_ _;go_wp2_with fail
     go_meet
     case rel=>exact⟨fa,rfl,dq.out⟩
    case go=>
     refine wpAnyH_ready (rs:=[9,11]) (by kernel_rfl) (by simp) (AllReadyH.cons rfl (fun O E=>?_) (AllReadyH.cons rfl (fun O E=>?_) AllReadyH.nil))
     ·go_simp;refine(cf.out wr.drew ca).mono ?_;rintro e H ⟨bx,R,bf,hs,rfl,bS,bH⟩;have bz:Below wr.heap.size wr H:=Jb ca bx;have bE:Hid (Kc H R hs∧Jfz ts [] hs ts.length):=⟨bS,bH⟩;clear bS bH;go_simp;refine E.out _ _ ⟨Ja bx y.1,Ja bx y.2.1,Ja bx y.2.2⟩ (fun y=>?_);clear E O;refine wpAnyH_ready (rs:=[10,11]) (by kernel_rfl) (by simp) (AllReadyH.cons rfl (fun O E=>?_) (AllReadyH.cons rfl (fun O E=>?_) AllReadyH.nil))
      ·go_simp;refine(bX.out H R bf hs bz bE.out.1 bE.out.2).mono ?_;rintro e Z ⟨rfl,U,bC⟩;have bc:Hid (Kj M H st Y S name ts rs Z∧Ju M H Z):=⟨bC,U⟩;clear bC;go_simp;refine E.out _ _ ⟨U.cell y.1 bA,U.cell y.2.1 bA,U.cell y.2.2 bA⟩ (fun y=>?_);clear E O U;refine tkr 11 rfl fun O E=>?_;go_simp;have K:Below Z.heap.size Z (Z.alloc Ka):=(Oa5 _ Z).alloc (Oa2 _) Ka;refine E.out _ _ ⟨Ja K y.1,Ja K y.2.1,Ja K y.2.2⟩ (fun y=>?_);clear E O;have bi:=Jb bh bz;have bj:=bi.trans (bc.out.2.below (fun k br ba=>by have:=bN.out k ba;omega) bi.size);exact ci _ _ _ ⟨by kernel_rfl,Z.heap.size,.slice R hs.length bf,by kernel_rfl,⟨heap_alloc_new Z Ka,Jb bj K,bj.size,fun bQ X br=>Jfn (fa:=Z.heap.size) bc.out.1 bi.size (Ob2 K.size X) (fun k db dH=>(br k (Oc2 db K.size) dH).trans (K.block k db)) (fun ba=>by have bZ:=bY.out.lt _ ba;have dA:=bz.size;have dB:=bc.out.2.size;omega) (.inr (Oa2 _))⟩,y⟩
      go_simp;have K:Below H.heap.size H (H.alloc Ka):=(Oa5 _ H).alloc (Oa2 _) Ka;have bn:(H.alloc Ka).heap[H.heap.size]?=some (.cells #[.int .i64 0,.int .i64 0,.int .i64 0,.int .i64 0,.int .i64 0] 45 (0,0)):=heap_alloc_new H Ka;refine E.out _ _ ⟨Ja K y.1,Ja K y.2.1,Ja K y.2.2⟩ (fun y=>?_);clear E O;obtain⟨fa,bJ⟩:∃ fa,fa=H.heap.size:=⟨_,rfl⟩;rw[←bJ]at bn ⊢;have bR:Hid (fa=H.heap.size):=bJ;clear bJ;generalize H.alloc Ka=bG at K bn y ⊢;have bU:Below wr.heap.size wr bG:=Jb bz K;refine tkr 10 rfl fun O E=>?_;go_simp;refine(bX.out bG R bf hs bU (bE.out.1.below K) bE.out.2).mono ?_;rintro e Z ⟨rfl,U,bC⟩;have bc:Hid (Kj M bG st Y S name ts rs Z∧Ju M bG Z):=⟨bC,U⟩;clear bC;go_simp;refine E.out _ _ ⟨U.cell y.1 bA,U.cell y.2.1 bA,U.cell y.2.2 bA⟩ (fun y=>?_);clear E O U;have bW:¬ M fa:=fun ba=>by have bZ:=bY.out.lt _ ba;have dA:=ca.size;have dB:=bz.size;have:=bR.out;omega
      have bi:=Jb bh bU;have bj:=bi.trans (bc.out.2.below (fun k br ba=>by have:=bN.out k ba;omega) bi.size);exact ci _ _ _ ⟨by kernel_rfl,fa,.slice R hs.length bf,by kernel_rfl,⟨(bc.out.2.block _ (Jd bn) bW).trans bn,bj,by have:=bh.size;have:=bz.size;have:=bR.out;omega,fun bQ X br=>Jfn (fa:=fa) bc.out.1 bi.size X br bW (.inl (Jd bn))⟩,y⟩
     go_simp;have K:Below wr.drew.heap.size wr.drew ((wr.alloc Ka).drew):=(Oa5 _ wr.drew).alloc (Oa2 _) Ka;have bn:((wr.alloc Ka).drew).heap[wr.heap.size]?=some (.cells #[.int .i64 0,.int .i64 0,.int .i64 0,.int .i64 0,.int .i64 0] 45 (0,0)):=heap_alloc_new wr.drew Ka;refine E.out _ _ ⟨Ja K y.1,Ja K y.2.1,Ja K y.2.2⟩ (fun y=>?_);clear E O;obtain⟨fa,bJ⟩:∃ fa,fa=wr.heap.size:=⟨_,rfl⟩;rw[←bJ]at bn ⊢;have bR:Hid (fa=wr.heap.size):=bJ;clear bJ;generalize (wr.alloc Ka).drew=bG at K bn y ⊢;have bU:Below wr.heap.size wr bG:=Jb ca K;refine tkr 9 rfl fun O E=>?_;go_simp;refine(cf.out bG bU).mono ?_;rintro e H ⟨bx,R,bf,hs,rfl,bS,bH⟩;have bz:Below wr.heap.size wr H:=Jb bU bx;have cB:=(bx.block _ (Jd bn)).trans bn;have bE:Hid (Kc H R hs∧Jfz ts [] hs ts.length):=⟨bS,bH⟩;clear bS bH;go_simp;refine E.out _ _ ⟨Ja bx y.1,Ja bx y.2.1,Ja bx y.2.2⟩ (fun y=>?_);clear E O;refine tkr 10 rfl fun O E=>?_;go_simp;refine(bX.out H R bf hs bz bE.out.1 bE.out.2).mono ?_;rintro e Z ⟨rfl,U,bC⟩;have bc:Hid (Kj M H st Y S name ts rs Z∧Ju M H Z):=⟨bC,U⟩;clear bC;go_simp;refine E.out _ _ ⟨U.cell y.1 bA,U.cell y.2.1 bA,U.cell y.2.2 bA⟩ (fun y=>?_);clear E O U;have bW:¬ M fa:=fun ba=>by have bZ:=bY.out.lt _ ba;have:=bR.out;omega
     have bi:=Jb bh bz;have bj:=bi.trans (bc.out.2.below (fun k br ba=>by have:=bN.out k ba;omega) bi.size);exact ci _ _ _ ⟨by kernel_rfl,fa,.slice R hs.length bf,by kernel_rfl,⟨(bc.out.2.block _ (Jd cB) bW).trans cB,bj,by have:=bh.size;have:=bR.out;omega,fun bQ X br=>Jfn (fa:=fa) bc.out.1 bi.size X br bW (.inl (Jd cB))⟩,y⟩
   case rest=>
    obtain⟨fa,rfl,hf,cY,dd⟩:=hcut;have bc:Hid (Kj M w st Y S name ts rs wc):=dd;have dS:wc.cell? ⟨fa,0,none⟩=some (.int .i64 0):=by simp[World.cell?,hf]
    have dT:wc.cell? ⟨fa,1,none⟩=some (.int .i64 (-1)):=by simp[World.cell?,hf]
    have dU:wc.cell? ⟨fa,2,none⟩=some (.int .i64 (-1)):=by simp[World.cell?,hf]
    have dV:wc.cell? ⟨fa,3,none⟩=some (.int .i64 (-1)):=by simp[World.cell?,hf]
    have dW:wc.cell? ⟨fa,4,none⟩=some (.int .i64 (-1)):=by simp[World.cell?,hf]
    have dG:fa<wc.heap.size:=Jd hf;have dk:Hid (Below w.heap.size w wc):=cY;clear dd hf cY cx cy cz;go_wp2_with fail
    go_region_held3 (fun D=>D.cell? ⟨fa,0,none⟩=some (.int .i64 0)∧D.cell? ⟨fa,1,none⟩=some (.int .i64 (-1))∧D.cell? ⟨fa,2,none⟩=some (.int .i64 (-1))∧D.cell? ⟨fa,3,none⟩=some (.int .i64 (-1))∧D.cell? ⟨fa,4,none⟩=some (.int .i64 (-1)))
     (first|go_keep|(go_split_ands;refine⟨?_,?_,?_,?_,?_⟩<;>(rw[(Kx cA).1 _ _ (by first|exact dG|assumption)];assumption)))
     (first|(go_at_call 14;refine(Jfu _).mono ?_;rintro e dX ⟨rfl,cA⟩;have bj:Below wc.heap.size wc dX:=(by first|exact Jw cA|exact cA)))
    clear dS dT dU dV dW;go_wp2_with fail
    go_roundw
    case rel=>exact⟨j+1,cK.out.1,by rw[cN.out],Jb dk.out bj,(cM.out _ bc.out).below bj⟩
    case measure=>have:=cK.out.1;rw[cN.out];simp[intOf];omega
  obtain rfl:j=L.length:=by omega
  have cJ:Hid (Below w.heap.size w wr∧Ksm w st L L.length wr):=⟨bh,hI⟩;clear hI bh ch;go_wp2_with fail
  go_ret
  exact⟨cJ.out.1,st,rfl,cJ.out.2⟩
theorem Jl3 (b:Nat)(name:ByteArray)(at_ ar:Option Addr)(ct cr:Nat)(ts:List Int)(xs:List (Option Addr×Nat))(rs:List (List V))(w:World)(h:Uw w name at_ ar cr ts xs rs)(c0:w.cell? ⟨b,0,none⟩=some (.string name))(c1:w.cell? ⟨b,1,none⟩=some (.slice at_ ts.length ct))(c2:w.cell? ⟨b,2,none⟩=some (.slice ar rs.length cr))
  (y D E R q wr pg K ex O:Addr) (U:Jax w y D E R q wr pg K ex O) :
  Calls prog 6 #[.agg #[.int .i64 1048576,.int .i64 0],.slice (some ⟨b,0,none⟩) 1 1] w fun e w'=>Below w.heap.size w w'∧∃ (st:Nat),e=.returned (.pointer (some ⟨st,0,none⟩))∧Ksm w st [⟨name,at_,ct,ar,cr,ts,xs,rs⟩] 1 w':=by
 have X:=h.tab.2.2.1;refine Kvl b 1 [⟨name,at_,ct,ar,cr,ts,xs,rs⟩] w (fun t H=>?_) (fun i t hi=>?_) (Jm c0) (by simp) (by simp) (by simp[Kr9];omega) y D E R q wr pg K ex O U
 ·rw[Oc6]at H;subst H;exact h
 match i,hi with
 |0,hi=>
  cases hi
  exact⟨c0,c1,c2⟩
end
section
open Go.RowKit Go.Shelf Tryz
theorem Jxy {W:World}{O E R:Nat}{name:ByteArray}{t:Int}{v:V}(h0:W.heap[O]?=some (.cells #[.int .i64 t] 3 (0,0)))(D:W.heap[E]?=some (.cells #[.int .i64 v.k,.int .i64 v.n,.string v.s] 39 (0,0)))(U:W.heap[R]?=some (.cells #[.slice (some ⟨E,0,none⟩) 1 1] 41 (0,0)))
  (X:1≤t∧t≤3) (hn:1≤name.size∧name.size≤20) (Y:okB t v.k v.n v.s=true) (hi:Jg v.n):Uw W name (some ⟨O,0,none⟩) (some ⟨R,0,none⟩) 1 [t] [(some ⟨E,0,none⟩,1)] [[v]]:=by
 refine⟨⟨hn,⟨⟨by simp,by simp⟩,fun j H=>?_⟩,by simp,fun i hi=>?_⟩,fun u y=>?_,fun r hr u y=>?_,.inr ⟨O,0,rfl,Jd h0,fun i u y=>?_⟩,⟨rfl,.inr ⟨R,0,rfl,Jd U,fun i u y=>?_⟩,fun i x r K hr=>?_⟩,by simp⟩
 ·have:j=0:=by simp at H;omega
  subst this;simp[Jnd,X.1,X.2]
 ·have:i=0:=by simp at hi;omega
  subst this;refine⟨rfl,fun j H=>?_⟩;have:j=0:=by simp at H;omega
  subst this;simpa using Y
 ·simp at y;subst y;unfold tOk;omega
 ·simp at hr;subst hr;simp at y;subst y;exact hi
 ·rcases i with _|i
  ·simp at y;subst y;simp[World.cell?,h0,iv]
  simp at y
 ·rcases i with _|i
  ·simp at y;subst y;simp[World.cell?,U,Je1]
  simp at y
 rcases i with _|i
 ·simp at K hr;subst K hr;refine .inr ⟨E,0,rfl,Jd D,fun j u y=>?_⟩;rcases j with _|j
  ·simp at y;subst y;exact⟨by simp[World.cell?,D],by simp[World.cell?,D],by simp[World.cell?,D]⟩
  simp at y
 simp at K
def Jqc (w D:World)(st:Nat)(name:ByteArray)(rs:List (List V)):Prop:=Below w.heap.size w D∧∃ (M:Nat→Prop) (y:DS) (T:TS),Sto M D st y [T]∧Jbc y [(T,rs)]∧T.name=name∧y.quota=1048576∧y.fail=0∧y.pages.length≤660*rs.length∧y.writes≤660*rs.length∧(∀ k,M k→w.heap.size≤k)
theorem Ksm.one {w R:World}{st:Nat}{t:TbX}(h:Ksm w st [t] 1 R):∃ (M:Nat→Prop) (y:DS) (T:TS),Sto M R st y [T]∧Jbc y [(T,t.rs)]∧(T.name=t.name∧T.types=t.ts)∧y.quota=1048576∧y.fail=0∧y.pages.length≤660*t.rs.length∧y.writes≤660*t.rs.length∧(∀ k,M k→w.heap.size≤k):=by
 obtain⟨M,y,S,U,X,Y,Z,ba,bc,K,O,bf⟩:=h;match S,Y with
 |[(T,r)],_=>
  obtain⟨D,E,H⟩:=Z 0 t (T,r) rfl rfl;simp only at D E H;subst H;have hr:Kr9 [t] 1=t.rs.length:=by simp[Kr9]
  rw[hr]at K O;exact⟨M,y,T,U,X,⟨D,E⟩,ba,bc,K,O,bf⟩
theorem Jwr {w y D:World}{st:Nat}{t:TbX}(h:Ksm y st [t] 1 D)(E:Below w.heap.size w y)(bc:Below y.heap.size y D):Jqc w D st t.name t.rs:=by
 obtain⟨M',H,T,K,O,R,U,X,Y,Z,ba⟩:=h.one;exact⟨Jb E bc,M',H,T,K,O,R.1,U,X,Y,Z,fun k bf=>Ob2 E.size (ba k bf)⟩
def Jhr (w D:World)(st:Nat)(name:ByteArray)(ts:List Int)(rs:List (List V)):Prop:=Below w.heap.size w D∧∃ (M:Nat→Prop) (y:DS) (T:TS),Sto M D st y [T]∧Jbc y [(T,rs)]∧T.name=name∧T.types=ts
theorem Jlx {w y D:World}{st:Nat}{t:TbX}(h:Ksm y st [t] 1 D)(R:Below w.heap.size w y)(U:Below y.heap.size y D):Jhr w D st t.name t.ts t.rs:=by
 obtain⟨M',H,T,K,O,E,_⟩:=h.one;exact⟨Jb R U,M',H,T,K,O,E.1,E.2⟩
theorem Jrp {y:DS}{T:TS}{name:ByteArray}{rs:List (List V)}(h:Jbc y [(T,rs)])(hn:T.name=name):Jf8 y [T] name=some (.inl rs)∧∀ D∈[T],Jid y D:=by
 have H:=h.tab (T,rs) (by simp);refine⟨?_,fun D E=>by simp at E;subst E;exact H.ok⟩;unfold Jf8;simp[Ub,hn,H.read]
abbrev Yh:ByteArray:=⟨#[111,110,101]⟩
abbrev Za:V:=⟨1,41,⟨#[]⟩⟩
theorem Kev (w:World)(bc bf bh bx q wr pg bn ex br:Addr)(bN:Jax w bc bf bh bx q wr pg bn ex br) :
  Calls prog 15 #[] w fun e w'=>e=.returned (.bool true)∧Below w.heap.size w w':=by
 have bI:Hid (Jax w bc bf bh bx q wr pg bn ex br):=bN;clear bN;go_enter func15,ntmps15
 go_upto_region 2 with fail
 obtain⟨W,Y⟩:∃ W,W=((((w.alloc (.cells #[.int .i64 1] 3)).alloc (.cells #[.int .i64 1,.int .i64 41,.string ⟨#[]⟩] 39)).alloc (.cells #[.slice (some ⟨w.heap.size+1,0,none⟩) 1 1] 41)).alloc (.cells #[.string ⟨#[111,110,101]⟩,.slice (some ⟨w.heap.size,0,none⟩) 1 1,.slice (some ⟨w.heap.size+1+1,0,none⟩) 1 1] 25)):=⟨_,rfl⟩;rw[←Y];have bP:Below w.heap.size w W:=by rw[Y];exact((((Oa5 _ w).alloc (Oa2 _) _).alloc (by simp) _).alloc (by simp;omega) _).alloc (by simp;omega) _
 have bi:W.heap[w.heap.size+1+1+1]?=some (.cells #[.string ⟨#[111,110,101]⟩,.slice (some ⟨w.heap.size,0,none⟩) 1 1,.slice (some ⟨w.heap.size+1+1,0,none⟩) 1 1] 25 (0,0)):=by rw[Y];exact Jb4 _ _ _ (by simp)
 have bL:W.heap[w.heap.size+1+1]?=some (.cells #[.slice (some ⟨w.heap.size+1,0,none⟩) 1 1] 41 (0,0)):=by rw[Y,Oa9 _ _ _ (by simp)];exact Jb4 _ _ _ (by simp)
 have bK:W.heap[w.heap.size+1]?=some (.cells #[.int .i64 1,.int .i64 41,.string ⟨#[]⟩] 39 (0,0)):=by rw[Y,Oa9 _ _ _ (by simp),Oa9 _ _ _ (by simp)];exact Jb4 _ _ _ (by simp)
 have bJ:W.heap[w.heap.size]?=some (.cells #[.int .i64 1] 3 (0,0)):=by rw[Y,Oa9 _ _ _ (by simp;omega),Oa9 _ _ _ (by simp;omega),Oa9 _ _ _ (by simp)];exact Jb4 _ _ _ rfl
 have ci:Hid (Uw W Yh (some ⟨w.heap.size,0,none⟩) (some ⟨w.heap.size+1+1,0,none⟩) 1 [1] [(some ⟨w.heap.size+1,0,none⟩,1)] [[Za]]):=Jxy (v:=Za) bJ bK bL (by decide) (by decide) (by simp[okB,okK]) (by simp[Jg]);have bZ:W.cell? ⟨w.heap.size+1+1+1,0,none⟩=some (.string ⟨#[111,110,101]⟩):=by simp[World.cell?,bi]
 have ca:W.cell? ⟨w.heap.size+1+1+1,1,none⟩=some (.slice (some ⟨w.heap.size,0,none⟩) 1 1):=by simp[World.cell?,bi]
 have cb:W.cell? ⟨w.heap.size+1+1+1,2,none⟩=some (.slice (some ⟨w.heap.size+1+1,0,none⟩) 1 1):=by simp[World.cell?,bi]
 clear Y bJ bK bL bi;have bH:Hid (∀ E b,Below W.heap.size W E→E.heap[b]?=some (.cells #[.string ⟨#[111,110,101]⟩,.slice (some ⟨w.heap.size,0,none⟩) 1 1,.slice (some ⟨w.heap.size+1+1,0,none⟩) 1 1] 25 (0,0))→Calls prog 6 #[.agg #[.int .i64 1048576,.int .i64 0],.slice (some ⟨b,0,none⟩) 1 1] E fun e bz=>∃ st,e=.returned (.pointer (some ⟨st,0,none⟩))∧Jqc w bz st Yh [[Za]]∧Below E.heap.size E bz):=fun E b bA bB=>
  (Jl3 b Yh (some ⟨w.heap.size,0,none⟩) (some ⟨w.heap.size+1+1,0,none⟩) 1 1 [1] [(some ⟨w.heap.size+1,0,none⟩,1)] [[Za]] E (ci.out.below bA) (by simp[World.cell?,bB]) (by simp[World.cell?,bB]) (by simp[World.cell?,bB]) bc bf bh bx q wr pg bn ex br (bI.out.below (Jb bP bA))).mono fun e bz ⟨bR,st,cu,hl⟩=>⟨st,cu,Jwr hl (Jb bP bA) bR,bR⟩
 go_cut [2] from 10 to 13 (fun s cE=>∃ st:Nat,s=.pointer (some ⟨st,0,none⟩)∧Jqc w cE st Yh [[Za]])
 case first=>
  refine wp_region_held_drew (S:=fun E=>E.cell? ⟨w.heap.size+1+1+1,0,none⟩=some (.string ⟨#[111,110,101]⟩)∧E.cell? ⟨w.heap.size+1+1+1,1,none⟩=some (.slice (some ⟨w.heap.size,0,none⟩) 1 1)∧E.cell? ⟨w.heap.size+1+1+1,2,none⟩=some (.slice (some ⟨w.heap.size+1+1,0,none⟩) 1 1)) (by kernel_rfl) ⟨bZ,ca,cb⟩ (fun y=>?_);refine tkj 1 rfl y ?_;refine tkn ?_;have bS:Below W.heap.size W W.drew:=⟨rfl,rfl,rfl,Oa2 _,fun _ _=>rfl⟩;refine wpAnyH_ready (rs:=[0,2]) (by kernel_rfl) (by simp) (AllReadyH.cons rfl (fun K H=>?_) (AllReadyH.cons rfl (fun K H=>?_) AllReadyH.nil));focus
   go_simp;refine(Jen _).mono ?_;rintro e D ⟨rfl,O⟩;have bD:Below W.heap.size W D:=Jb bS O;go_simp;refine H.out _ _ ⟨Ja O y.1,Ja O y.2.1,Ja O y.2.2⟩ (fun y=>?_);clear H K;refine tkr 2 rfl fun K H=>?_;go_simp;have R:Below D.heap.size D (D.alloc (.cells #[.string ⟨#[111,110,101]⟩,.slice (some ⟨w.heap.size,0,none⟩) 1 1,.slice (some ⟨w.heap.size+1+1,0,none⟩) 1 1] 25)):=(Oa5 _ _).alloc (Oa2 _) _;have bj:=heap_alloc_new D (.cells #[.string ⟨#[111,110,101]⟩,.slice (some ⟨w.heap.size,0,none⟩) 1 1,.slice (some ⟨w.heap.size+1+1,0,none⟩) 1 1] 25);refine H.out _ _ ⟨Ja R y.1,Ja R y.2.1,Ja R y.2.2⟩ (fun y=>?_);clear H K;refine tkr 3 rfl fun K H=>?_;go_simp;refine(bH.out _ _ (Jb bD R) bj).mono ?_
  rotate_left 1;focus
   go_simp;have R:Below W.heap.size W ((W.alloc (.cells #[.string ⟨#[111,110,101]⟩,.slice (some ⟨w.heap.size,0,none⟩) 1 1,.slice (some ⟨w.heap.size+1+1,0,none⟩) 1 1] 25)).drew):=Jb bS ((Oa5 _ W.drew).alloc (Oa2 _) (.cells #[.string ⟨#[111,110,101]⟩,.slice (some ⟨w.heap.size,0,none⟩) 1 1,.slice (some ⟨w.heap.size+1+1,0,none⟩) 1 1] 25));have bj:((W.alloc (.cells #[.string ⟨#[111,110,101]⟩,.slice (some ⟨w.heap.size,0,none⟩) 1 1,.slice (some ⟨w.heap.size+1+1,0,none⟩) 1 1] 25)).drew).heap[W.heap.size]?=_:=heap_alloc_new W (.cells #[.string ⟨#[111,110,101]⟩,.slice (some ⟨w.heap.size,0,none⟩) 1 1,.slice (some ⟨w.heap.size+1+1,0,none⟩) 1 1] 25);refine H.out _ _ ⟨Ja R bZ,Ja R ca,Ja R cb⟩ (fun y=>?_);clear H K;refine tkr 0 rfl fun K H=>?_;go_simp;refine(Jen _).mono ?_;rintro e D ⟨rfl,O⟩;have bD:Below W.heap.size W D:=Jb R O;have cn:D.heap[W.heap.size]?=_:=(O.block _ (Jd bj)).trans bj;go_simp;refine H.out _ _ ⟨Ja O y.1,Ja O y.2.1,Ja O y.2.2⟩ (fun y=>?_);clear H K;refine tkr 3 rfl fun K H=>?_;go_simp;refine(bH.out _ _ bD cn).mono ?_
  all_goals
   rintro e X ⟨st,rfl,bW,bG⟩;have ch:Hid (Jqc w X st Yh [[Za]]):=bW;clear bW;go_simp;refine H.out _ _ ⟨Ja bG y.1,Ja bG y.2.1,Ja bG y.2.2⟩ (fun y=>?_);clear H K;refine tkj 4 rfl y ?_;refine tkn ?_;refine wpAnyH_done (by kernel_rfl) ?_ _;go_wp2_with fail
   go_meet
   case rel=>exact⟨st,rfl,ch.out⟩
 case rest=>
  obtain⟨st,rfl,bQ,M,cf,T,bY,bX,cv,_⟩:=hcut;obtain⟨bE,bU⟩:=Jrp bX cv;have bV:=Kwx M st cf [T] Yh wc bY bU bc bf bh bx q wr pg bn ex br (bI.out.below bQ) bE;rw[bE]at bV;clear bY bX bE bU;go_wp2_with (first|(go_at_call 25;refine bV.mono ?_;rintro e D ⟨O,g,bs,rfl,bT⟩;have ba:Hid (Jcu D wc.heap.size g bs [[Za]]):=bT;clear bT))
  obtain⟨b1,rfl⟩:∃ b1,bs=[b1]:=by
   have:=ba.out.len;match bs,this with
   |[x],_=>exact⟨x,rfl⟩
  have bM:D.cell? ⟨g,0,none⟩=some (.slice (some ⟨b1,0,none⟩) 1 1):=ba.out.outer.cell (i:=0) (by simp);have cc:D.cell? ⟨b1,1,none⟩=some (.int .i64 41):=by
   rcases(ba.out.rows 0 b1 [Za] rfl rfl).vals with h|⟨cG,cI,bO,_,cx⟩
   ·simp at h
   simp at bO;obtain⟨rfl,rfl⟩:=bO;have:=(cx 0 Za rfl).2.1;simpa using this
  have cH:=Jjl 0;have bC:Below D.heap.size D (D.alloc (.cells #[.int .i64 0,.int .i64 (-1),.int .i64 (-1),.int .i64 (-1),.int .i64 (-1)] 45)):=(Oa5 _ _).alloc (Oa2 _) _;have Z:=heap_alloc_new D (.cells #[.int .i64 0,.int .i64 (-1),.int .i64 (-1),.int .i64 (-1),.int .i64 (-1)] 45);have cj:=Ja bC bM;have cD:=Ja bC cc;generalize D.alloc (.cells #[.int .i64 0,.int .i64 (-1),.int .i64 (-1),.int .i64 (-1),.int .i64 (-1)] 45)=X at *;have cy:X.cell? ⟨D.heap.size,0,none⟩=some (.int .i64 0):=by simp[World.cell?,Z]
  have cz:X.cell? ⟨D.heap.size,1,none⟩=some (.int .i64 (-1)):=by simp[World.cell?,Z]
  have cA:X.cell? ⟨D.heap.size,2,none⟩=some (.int .i64 (-1)):=by simp[World.cell?,Z]
  have cB:X.cell? ⟨D.heap.size,3,none⟩=some (.int .i64 (-1)):=by simp[World.cell?,Z]
  have cC:X.cell? ⟨D.heap.size,4,none⟩=some (.int .i64 (-1)):=by simp[World.cell?,Z]
  clear bM cc Z ba;refine wp_region_held_drew (S:=fun E=>E.cell? ⟨D.heap.size,0,none⟩=some (.int .i64 0)∧E.cell? ⟨D.heap.size,1,none⟩=some (.int .i64 (-1))∧E.cell? ⟨D.heap.size,2,none⟩=some (.int .i64 (-1))∧E.cell? ⟨D.heap.size,3,none⟩=some (.int .i64 (-1))∧E.cell? ⟨D.heap.size,4,none⟩=some (.int .i64 (-1))∧E.cell? ⟨g,0,none⟩=some (.slice (some ⟨b1,0,none⟩) 1 1)∧E.cell? ⟨b1,1,none⟩=some (.int .i64 41)) (by kernel_rfl) ⟨cy,cz,cA,cB,cC,cj,cD⟩ (fun y=>?_);refine tkj 0 rfl y ?_;refine tkn ?_;refine tkr 1 rfl fun K H=>?_;go_simp;refine(Jfu _).mono ?_;rintro e cF ⟨rfl,U⟩;go_simp;refine H.out _ _ ⟨Ja U y.1,Ja U y.2.1,Ja U y.2.2.1,Ja U y.2.2.2.1,Ja U y.2.2.2.2.1,Ja U y.2.2.2.2.2.1,Ja U y.2.2.2.2.2.2⟩ (fun y=>?_);clear H K;refine tkj 2 rfl y ?_;refine tkj 3 rfl y ?_;refine tkn ?_;refine tkj 4 rfl y ?_;refine tkj 5 rfl y ?_;refine tkj 6 rfl y ?_;refine tkj 7 rfl y ?_;refine tkj 8 rfl y ?_;refine tkn ?_;refine tkj 9 rfl y ?_;refine tkj 10 rfl y ?_;refine tkj 11 rfl y ?_;refine tkj 12 rfl y ?_;refine tkj 13 rfl y ?_;refine tkj 14 rfl y ?_;refine tkj 15 rfl y ?_;refine tkn ?_;refine tkj 16 rfl y ?_;refine tkj 17 rfl y ?_;refine tkj 18 rfl y ?_;refine tkj 19 rfl y ?_;refine tkj 20 rfl y ?_;refine tkj 21 rfl y ?_;refine tkj 22 rfl y ?_;refine tkj 23 rfl y ?_;refine tkj 24 rfl y ?_;refine tkn ?_;refine wpAnyH_done (by kernel_rfl) ?_ _;go_wp2;go_ret
  exact⟨rfl,Jb (Jb bQ (Jb O bC)) (Jw U)⟩
theorem Jug.right {w w':World}{name:ByteArray}{ts:List Int}{rs:List (List V)}{v:Value}(h:Jug w w' name ts rs v)(hl:rs.length≤200)(hn:1≤name.size∧name.size≤20):∃ E H D rc xs,v=.agg #[.string name,.slice E ts.length H,.slice D rs.length rc]∧Uw w' name E D rc ts xs rs:=by
 obtain⟨E,H,D,rc,bs,X,K,O,R,_⟩:=h.val;refine⟨E,H,D,rc,_,X,⟨hn,⟨h.types.1,fun j y=>?_⟩,hl,fun i hi=>?_⟩,h.types.2,fun r hr u U=>?_,K,O,R⟩
 ·have:=h.types.2 _ (Ob3 y);unfold tOk at this;unfold Jnd;simp only[decide_eq_true_iff];omega
 ·have:=h.rows _ (Ob3 hi);exact⟨this.1,fun j y=>(this.2 j y).1⟩
 have:=h.rows r hr;obtain⟨j,y,rfl⟩:=Od5 U;exact(this.2 j y).2
end
end Go.Proofs.YtpchafocmlhmbaaGreatDoor
