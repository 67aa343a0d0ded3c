/- A store in memory; New; what Load does round the set's Load. -/
import Derived.Test.YtkdojacdolidfaaGreatDoorTu
import Derived.Test.YtkdojacdolidfaaGreatDoorCb
import Derived.Shelf.Bits.Mul64
import Derived.Lib.Bytealg
set_option maxHeartbeats 1000000
set_option maxRecDepth 100000
namespace Go.Proofs.YtkdojacdolidfaaGreatDoor
section
open Go.RowKit Go.Shelf Tryz
structure Sto (M:Nat->Prop) (w:World) (st:Nat) (D:DS) (Ts:List TS):Prop where
 ex:∃ (d s:Nat) (F G:Nat->Prop) (sv:Value) (bs:List Nat),Jdu w st d s/\Jfl w G s d Ts sv bs/\Zb w F d D/\(∀ k,G k->¬ F k)/\¬ F s/\(∀ g,sv.ownBlock=some g->¬ F g)/\¬ F st/\¬ G st/\st≠s/\sv.ownBlock≠some st/\(∀ k,F k\/G k\/Jnr s sv k\/k=st->M k)
 lt:∀ k,M k->k<w.heap.size
theorem Sto.stands {y w w' st D Ts}(h:Sto y w st D Ts)(hs:w.heap.size<=w'.heap.size)(H:∀ k,y k->w'.heap[k]?=w.heap[k]?):Sto y w' st D Ts:=by
 obtain⟨⟨d,s,F,G,sv,bs,K,O,U,Y,Z,bf,bh,bi,bj,M,hM⟩,hl⟩:=h;refine⟨⟨d,s,F,G,sv,bs,?_,O.stands hs fun k I _=>H k (hM k (I.elim (fun a=>.inr (.inl a)) (fun a=>.inr (.inr (.inl a))))),U.stands fun k bk _=>H k (hM k (.inl bk)),Y,Z,bf,bh,bi,bj,M,hM⟩,fun k I=>Oc2 (hl k I) hs⟩;unfold Jdu at K |-;rw[H st (hM st (.inr (.inr (.inr rfl))))];exact K
theorem Sto.below {y w w' st D Ts}(h:Sto y w st D Ts)(hb:Below w.heap.size w w'):Sto y w' st D Ts:=h.stands hb.size fun k H=>hb.block k (h.lt k H)
theorem Ke2 d w:Calls prog 30 #[.pointer (some ⟨d,0,none⟩)] w fun e w'=>e=.returned (.pointer (some ⟨w.heap.size,0,none⟩))/\w'=w.alloc (.cells #[.pointer (some ⟨d,0,none⟩),.slice none 0 0] 115):=by
 go_enter func30,ntmps30
 go_wp2;go_ret
 exact⟨rfl,rfl⟩
theorem Kfq q f w:
  Calls prog 21 #[.agg #[.int .i64 q,.int .i64 f]] w fun e w'=>Below w.heap.size w w'/\∃ (st:Nat) (H:Nat->Prop),e=.returned (.pointer (some ⟨st,0,none⟩))/\Sto H w' st (Ku q f) []/\(∀ k,H k->w.heap.size<=k):=by
 have Y:Below w.heap.size w (w.alloc (.cells #[.int .i64 q,.int .i64 f] 37)):=(Oa5 _ w).alloc (Oa2 _) _;have U:=Kcn q f (w.alloc (.cells #[.int .i64 q,.int .i64 f] 37));go_enter func21,ntmps21
 go_wp2_with (first|(go_at_call 29;refine U.mono ?_;rintro e y ⟨d,rfl,bf,M,Z⟩;have I:=Jb Y Z)|(go_at_call 30;refine(Ke2 d y).mono ?_;rintro e bi ⟨rfl,rfl⟩))
 go_ret
 have K:Below y.heap.size y ((y.alloc (.cells #[.pointer (some ⟨d,0,none⟩),.slice none 0 0] 115)).alloc (.cells #[.pointer (some ⟨d,0,none⟩),.pointer (some ⟨y.heap.size,0,none⟩)] 76)):=((Oa5 _ _).alloc (Oa2 _) _).alloc zS _;have bk:=I.size;have bj:d<y.heap.size:=by
  obtain⟨sv,ps,bh⟩:=M;exact Jd bh.cells
 rw[Oa7]at bf;have O:=heap_alloc_new (y.alloc (.cells #[.pointer (some ⟨d,0,none⟩),.slice none 0 0] 115)) (.cells #[.pointer (some ⟨d,0,none⟩),.pointer (some ⟨y.heap.size,0,none⟩)] 76);rw[Oa7]at O;refine⟨Jb I K,y.heap.size+1,fun k=>k=d\/k=y.heap.size\/k=y.heap.size+1,rfl,⟨⟨d,y.heap.size,fun k=>k=d,fun _=>False,.slice none 0 0,[],O,?_,M.below K,zS,zo,by simp[Value.ownBlock],zo,zS,zo,by simp[Value.ownBlock],?_⟩,?_⟩,?_⟩
 ·refine⟨?_,Jo.nil _ _ _,zS,by simp[Value.ownBlock],rfl,zS,zS⟩;rw[Oa9 _ _ _ zS,heap_alloc_new]
 ·rintro k (h|h|h|h)
  ·exact .inl h
  ·exact h.elim
  ·rcases h with h|h
   ·exact .inr (.inl h)
   simp[Value.ownBlock]at h
  exact .inr (.inr h)
 ·rintro k (h|h|h)<;>subst h<;>simp<;>omega
 rintro k (h|h|h)<;>subst h<;>omega
abbrev Ka:Obj:=.cells #[.int .i64 0,.int .i64 0,.int .i64 0,.int .i64 0,.int .i64 0] 51
theorem Ju9 (st s:Nat)(name:ByteArray)bf bh a1 a2 bB(Y O Z c2 n3 c3:Nat)(bT:bf=.slice a1 Y O)(bU:bh=.slice a2 Z c2)(g:Int)w(M1:Nat->Prop)(hM:∀ k,M1 k->k<w.heap.size)(bS:¬ M1 st)(c1:w.cell? ⟨st,1,none⟩=some (.pointer (some ⟨s,0,none⟩)))(c nd col pg:Int)(P:World->Prop)(bz:Calls prog 32 #[.pointer (some ⟨s,0,none⟩),.agg #[.string name,bf,bh],.slice bB n3 c3,.int .i64 g] ((w.alloc (.cells #[.string name,bf,bh] 25)).alloc Ka).drew fun e w'=>∃ ev,e=.returned ev/\Ju M1 ((w.alloc (.cells #[.string name,bf,bh] 25)).alloc Ka) w'/\P w'/\Calls prog 31 #[ev] w' (fun e cb=>e=.returned (Jjp c nd col pg)/\Below w'.heap.size w' cb)):
  Calls prog 22 #[.pointer (some ⟨st,0,none⟩),.agg #[.string name,bf,bh],.slice bB n3 c3,.int .i64 g] w fun e w'=>e=.returned (Jjp c nd col pg)/\∃ bk,P bk/\Ju M1 ((w.alloc (.cells #[.string name,bf,bh] 25)).alloc Ka) bk/\Ju (fun k=>k=w.heap.size+1) bk w':=by
 subst bT bU;have bC:Below w.heap.size w ((w.alloc (.cells #[.string name,.slice a1 Y O,.slice a2 Z c2] 25)).alloc Ka):=((Oa5 _ w).alloc (Oa2 _) _).alloc zS _;have bx:=Ja bC c1;have cf:st<w.heap.size:=Jm c1;have bA:¬ M1 w.heap.size:=fun h=>Oe3 _ (hM _ h);have ca:¬ M1 (w.heap.size+1):=fun h=>by have:=hM _ h;omega
 obtain⟨W,I⟩:∃ W,W=(w.alloc (.cells #[.string name,.slice a1 Y O,.slice a2 Z c2] 25)).alloc Ka:=⟨_,rfl⟩;have bG:W.cell? ⟨w.heap.size,0,none⟩=some (.string name):=by rw[I,Oe5 _ _ _ zS];simp
 have q1:W.cell? ⟨w.heap.size,1,none⟩=some (.slice a1 Y O):=by rw[I,Oe5 _ _ _ zS];simp
 have q2:W.cell? ⟨w.heap.size,2,none⟩=some (.slice a2 Z c2):=by rw[I,Oe5 _ _ _ zS];simp
 have bQ:W.heap[w.heap.size+1]?=some (.cells #[.int .i64 0,.int .i64 0,.int .i64 0,.int .i64 0,.int .i64 0] 51 (0,0)):=by
  rw[I];have:=heap_alloc_new (w.alloc (.cells #[.string name,.slice a1 Y O,.slice a2 Z c2] 25)) Ka;rwa [Oa7]at this
 have cc:W.heap.size=w.heap.size+2:=by rw[I];simp
 rw[<-I]at bz bC bx;clear hM;go_enter func22,ntmps22
 go_wp2_with fail
 rw[<-I];have bJ:=zh I;clear I;refine wp_region_held_drew (S:=fun X=>X.cell? ⟨st,1,none⟩=some (.pointer (some ⟨s,0,none⟩))/\X.cell? ⟨w.heap.size,0,none⟩=some (.string name)/\X.cell? ⟨w.heap.size,1,none⟩=some (.slice a1 Y O)/\X.cell? ⟨w.heap.size,2,none⟩=some (.slice a2 Z c2)) zK ⟨bx,bG,q1,q2⟩ (fun y=>?_);refine tkj 0 rfl y ?_;refine tkj 1 rfl y ?_;refine tkj 2 rfl y ?_;refine tkj 3 rfl y ?_;refine tkj 4 rfl y ?_;refine tkj 5 rfl y ?_;refine tkj 6 rfl y ?_;refine tkn ?_;refine tkr 7 rfl fun bi hK=>?_;go_simp;refine bz.mono ?_;rintro e bk ⟨ev,rfl,M,hp,bD⟩;have bI:=zh hp;have bH:=zh bD;clear hp bD bz;go_simp;refine hK.out _ _ ⟨M.cell bx bS,M.cell bG bA,M.cell q1 bA,M.cell q2 bA⟩ (fun y=>?_);clear hK bi;refine tkr 8 rfl fun bi hK=>?_;go_simp;refine bH.out.mono ?_;rintro e br ⟨rfl,H⟩;go_simp;refine hK.out _ _ ⟨Ja H y.1,Ja H y.2.1,Ja H y.2.2.1,Ja H y.2.2.2⟩ (fun y=>?_);clear hK bi;have ci:=M.size;have K:br.heap[w.heap.size+1]?=some (.cells #[.int .i64 0,.int .i64 0,.int .i64 0,.int .i64 0,.int .i64 0] 51 (0,0)):=
  (H.block _ zo).trans ((M.block _ zo ca).trans bQ)
 have bV:=zc 0 K;have bW:=zc 1 K;have bX:=zc 2 K;have bY:=zc 3 K;have bZ:=zc 4 K;have U:∀ o:Nat,br.frozen? ⟨w.heap.size+1,o,none⟩=false:=fun o=>by simp[World.frozen?,K]
 have bK:=U 0;have bL:=U 1;have bM:=U 2;have bN:=U 3;have bO:=U 4;have bE:=Jk (Jk (Jk (Jk (Jk K 0 (.int .i64 c)) 1 (.int .i64 nd)) 2 (.int .i64 (-1))) 3 (.int .i64 col)) 4 (.int .i64 pg);simp only[Oa1,List.set_cons_zero,List.set_cons_succ]at bE;clear K U;refine tkr 9 rfl fun bi hK=>?_;go_simp;have bj:∀ (b o:Nat),b≠w.heap.size+1->(((((br.setCell ⟨w.heap.size+1,0,none⟩ (.int .i64 c)).setCell ⟨w.heap.size+1,1,none⟩ (.int .i64 nd)).setCell ⟨w.heap.size+1,2,none⟩ (.int .i64 (-1))).setCell ⟨w.heap.size+1,3,none⟩ (.int .i64 col)).setCell ⟨w.heap.size+1,4,none⟩ (.int .i64 pg)).cell? ⟨b,o,none⟩=br.cell? ⟨b,o,none⟩:=fun b o hb=>by
  simp only[World.cell?,Zh _ _ _ _ _ _ _ b hb]
 refine hK.out _ _ ⟨(bj _ _ zo).trans y.1,(bj _ _ zo).trans y.2.1,(bj _ _ zo).trans y.2.2.1,(bj _ _ zo).trans y.2.2.2⟩ (fun y=>?_);clear hK bi bj y bV bW bX bY bZ bK bL bM bN bO;refine wpAnyH_done zK ?_ _;go_wp2;refine bodyPost_ret (v:=Jjp c nd col pg) (by simp[results,results22,go_sem,Jjp,World.cell?,bE]) rfl ⟨rfl,bk,bI.out,by rw[<-bJ.out];exact M,?_⟩;exact⟨H.os,H.tape,H.output,by rw[Jg2];exact H.size,fun k bP bR=>(Zh _ _ _ _ _ _ _ k bR).trans (H.block k bP)⟩
structure Jax (w:World) (a0 a1 a2 tt q wr pg pl ex ta:Addr):Prop where
 e:Jf0 w a0 a1 a2
 m:Jkn w a0 a1 a2 tt q wr pg
 m2:Jhy w [a0,a1,a2,tt,q,wr,pg] pl ex
 c:w.cell? ⟨1,0,none⟩=some (.iface 434 (.pointer (some ta)))
 b:∃ c t,w.heap[ta.block]?=some (.cells c t (0,0))
 n:ta∉[a0,a1,a2,tt,q,wr,pg,pl,ex]
 m3:∃ dv ov gv mn,Jig w [ex,pl,a0,a1,a2,tt,q,wr,pg] dv ov gv mn/\ta∉[dv,ov,gv,mn]
theorem Jax.below {w w' a0 a1 a2 H q wr pg pl ex y}(h:Jax w a0 a1 a2 H q wr pg pl ex y)(hb:Below w.heap.size w w'):Jax w' a0 a1 a2 H q wr pg pl ex y:=
 ⟨h.e.below hb,h.m.below hb,h.m2.below hb,Ja hb h.c,Kg hb h.b,h.n,by obtain⟨I,O,gv,mn,K,M⟩:=h.m3;exact⟨I,O,gv,mn,K.below hb,M⟩⟩
abbrev Ja0:Type:=Unit⊕(Unit⊕(Nat⊕((Bool×DS)⊕(DS×TS))))
abbrev Ja0.arg:Ja0:=.inl ()
abbrev Ja0.table:Ja0:=.inr (.inl ())
abbrev Ja0.dict (c:Nat):Ja0:=.inr (.inr (.inl c))
abbrev Ja0.disk (x:Bool)(D:DS):Ja0:=.inr (.inr (.inr (.inl (x,D))))
abbrev Ja0.ok (D:DS)(T:TS):Ja0:=.inr (.inr (.inr (.inr (D,T))))
def Ja0.fault:Ja0->Value
 |.inl _=>Jbz 1 (-1) (-1)
 |.inr (.inl _)=>Jbz 4 (-1) (-1)
 |.inr (.inr (.inl c))=>Jbz 2 (c:Int) (-1)
 |.inr (.inr (.inr (.inl x)))=>Jbz (if x.1 then 5 else 6) (-1) (-1)
 |.inr (.inr (.inr (.inr _)))=>Jbz 0 (-1) (-1)
def Ja0.d (D:DS):Ja0->DS
 |.inr (.inr (.inr (.inl x)))=>x.2
 |.inr (.inr (.inr (.inr x)))=>x.1
 |_=>D
def Ja0.ts (Ts:List TS):Ja0->List TS
 |.inr (.inr (.inr (.inr x)))=>Ts++[x.2]
 |_=>Ts
def Khs (name:ByteArray)(ts hs:List Int)(rs:List (List V))(g:Int):Decidable (Jel name ts rs/\Je3 ts hs/\1<=g/\g<=64):=by
 unfold Jel Je3;infer_instance
def Jbd (D:DS)(Ts:List TS)(name:ByteArray)(ts hs:List Int)(rs:List (List V))(g:Int):Ja0:=
 @ite _ (Jel name ts rs/\Je3 ts hs/\1<=g/\g<=64) (Khs name ts hs rs g)
  (if Ub Ts name<Ts.length\/6<=Ts.length then .table
  else match Jfg rs ts hs (cks rs.length g.toNat (ckN rs.length g.toNat))with
   |.inr c=>.dict c
   |.inl T=>match (Jq D T).2.2 with
    |some x=>.disk x (Jcg (Jq D T).1 (Jq D T).2.1)
    |none=>.ok (Jq D T).1 ⟨name,ts,rs.length,g.toNat,(Jq D T).2.1⟩)
  .arg
theorem Jn8 {I M1 w W K w' j}(hb:Below w.heap.size w W)(y:Ju M1 W K)(H:Ju (fun k=>k=j) K w')(Y:w.heap.size<=j)(M:∀ k,M1 k->I k):Ju I w w':=by
 have z1:=hb.size;have z2:=y.size;have Z:=H.size;refine⟨(H.os.trans y.os).trans hb.os,(H.tape.trans y.tape).trans hb.tape,(H.output.trans y.output).trans hb.output,zo,fun k O U=>?_⟩;exact(H.block k zo zo).trans ((y.block k zo fun h=>U (M k h)).trans (hb.block k O))
def Jy0 (y:Nat->Prop)(w:World)(st:Nat)(D:DS)(Ts:List TS)(r:Ja0)(e:Ending)(w':World):Prop:=
 e=.returned r.fault/\Ju y w w'/\∃ H:Nat->Prop,Sto H w' st (r.d D) (r.ts Ts)/\(∀ k,y k->H k)/\(∀ k,H k->y k\/w.heap.size<=k)
theorem Jyt K st D Ts name at_ ar bf ct cr ch ts hs xs rs g w(h:Sto K w st D Ts)(cf:Kct w name at_ ar bf cr ts hs xs rs)(ci:∀ b o,at_=some ⟨b,o,none⟩->¬ K b)(cM:D.pages.length<=800000)a0 a1 a2 cW q wr pg pl ex cV w0(bB:Jax w0 a0 a1 a2 cW q wr pg pl ex cV)(cG:Below w0.heap.size w0 w)(bR:∀ k,K k->w0.heap.size<=k)(cD:∀ x∈hs,Qbr x)(I:∃ E T,Jbd D Ts name ts hs rs g=.ok E T):
  Calls prog 22 #[.pointer (some ⟨st,0,none⟩),Jvc name at_ ar ct cr ts rs,.slice bf hs.length ch,.int .i64 g] w fun e w'=>Jy0 K w st D Ts (Jbd D Ts name ts hs rs g) e w':=by
 have cY:=h;have bS:=bB.below cG;have cA:¬ K 6:=fun bJ=>by have bh:=bR _ bJ;have bi:=Jm bB.m.cq;simp only at bi;omega
 have cB:¬ K 7:=fun bJ=>by have bh:=bR _ bJ;have bi:=Jm bB.m.cw;simp only at bi;omega
 obtain⟨⟨d,s,F,G,sv,bs,bh,bi,bY,bZ,ca,cb,bP,cc,bQ,bO,hM⟩,U⟩:=h;obtain⟨W,bD⟩:∃ W,W=(w.alloc (Jln name at_ ar ct cr ts rs)).alloc Ka:=⟨_,rfl⟩;have M:Below w.heap.size w W:=by rw[bD];exact((Oa5 _ w).alloc (Oa2 _) _).alloc zS _
 have bj:Below w.heap.size w W.drew:=⟨M.os,M.tape,M.output,M.size,M.block⟩;have bT:W.heap.size=w.heap.size+2:=by rw[bD];simp
 have bC:=bS.below bj;have cj:=cf.below bj;obtain⟨da,db,n3,dc,dd,de,df⟩:=Jim bS.m;have bN:=fun (M1:Nat->Prop) (bx:∀ k,M1 k->k<w.heap.size) (cN:¬ M1 st) (c nd col cU:Int) (P:World->Prop) br=>Ju9 st s name (.slice at_ ts.length ct) (.slice ar rs.length cr) at_ ar bf ts.length ct rs.length cr hs.length ch rfl rfl g w M1 bx cN bh.field.2 c nd col cU P br;have cC:(w.alloc (.cells #[.string name,.slice at_ ts.length ct,.slice ar rs.length cr] 25)).alloc Ka=W:=bD.symm;rw[cC]at bN;obtain⟨O,Z,T,hp,bk⟩:(Jel name ts rs/\Je3 ts hs/\1<=g/\g<=64)/\¬ (Ub Ts name<Ts.length\/6<=Ts.length)/\∃ T,Jfg rs ts hs (cks rs.length g.toNat (ckN rs.length g.toNat))=.inl T/\(Jq D T).2.2=none:=by
  obtain⟨E,cX,I⟩:=I;unfold Jbd at I;by_cases O:Jel name ts rs/\Je3 ts hs/\1<=g/\g<=64
  ·rw[if_pos O]at I;by_cases Z:Ub Ts name<Ts.length\/6<=Ts.length
   ·rw[if_pos Z]at I;cases I
   rw[if_neg Z]at I;rcases hp:Jfg rs ts hs (cks rs.length g.toNat (ckN rs.length g.toNat))with T|c
   ·rw[hp]at I;cases bk:(Jq D T).2.2 with
    |some x=>
     simp only[bk]at I;cases I
    |none=>exact⟨O,Z,T,rfl,bk⟩
   rw[hp]at I;cases I
  rw[if_neg O]at I;cases I
 have cI:((g.toNat:Nat):Int)=g:=zo;have cJ:Jqy W.drew s d F G D Ts sv bs name at_ ar bf cr ts hs xs rs g.toNat:=
  ⟨cj,O.1,O.2.1,zo,zo,bi.below bj,fun y=>Z (.inl y),zo,bY.below bj,fun k H=>Oc2 (U k (hM k (H.elim .inl fun a=>.inr (.inl a)))) bj.size,bZ,ca,cb,fun b o hb y=>ci b o hb (hM b (.inl y)),cM,cD⟩
 have cy:=bC.m.cq;have cz:=bC.m.cw;have cu:¬ F 6:=fun y=>cA (hM _ (.inl y));have cv:¬ F 7:=fun y=>cB (hM _ (.inl y));have hr:Jbd D Ts name ts hs rs g=.ok (Jq D T).1 ⟨name,ts,rs.length,g.toNat,(Jq D T).2.1⟩:=by unfold Jbd;rw[if_pos O,if_neg Z,hp];simp only;rw[bk]
 rw[hr];have br:=Ked s d F G D Ts sv bs name at_ ar bf ct cr ch ts hs xs rs g.toNat W.drew cJ a0 a1 a2 bC.e T hp q wr cy cz cu cv bk;rw[cI]at br;have cZ:=M.size;have bx:∀ k,F k\/Jnr s sv k->K k:=fun k H=>H.elim (fun a=>hM k (.inl a)) fun a=>hM k (.inr (.inr (.inl a)));have bX:¬ (F st\/Jnr s sv st):=fun h=>h.elim bP fun a=>a.elim bQ bO;refine(bN (fun k=>F k\/Jnr s sv k) (fun k H=>U k (bx k H)) bX 0 (-1) (-1) (-1) (fun bz=>Jdl W.drew s d F G D Ts sv bs name ts rs g.toNat T bz) (br.mono fun e bz ⟨bE,H⟩=>⟨_,bE,⟨H.1.os,H.1.tape,H.1.output,H.1.size,H.1.block⟩,H,Jjq bz⟩)).mono fun e w' ⟨bE,bz,⟨_,FD,bA,sv',tb,cH,bW,bG,bI,bV,cF,cL,cQ,bM⟩,H,Y⟩=>⟨bE,Jn8 M H Y zo bx,fun k=>K k\/FD k\/bA k\/Jnr s sv' k,?_,fun k H=>.inl H,?_⟩
 ·have bU:Ju (fun k=>F k\/Jnr s sv k) w w':=Jn8 M H Y zo (fun _ h=>h);have cO:st<w.heap.size:=U st (hM st (.inr (.inr (.inr rfl))));have cx:∀ k,G k->k<w.heap.size:=fun k bH=>U k (hM k (.inr (.inl bH)));have bL:∀ k,Jnr s sv k->k<w.heap.size:=fun k bK=>U k (hM k (.inr (.inr (.inl bK))));have cn:∀ k,F k->k<w.heap.size:=fun k y=>U k (hM k (.inl y));have cE:W.drew.heap.size=w.heap.size+2:=bT;have cR:∀ k,FD k->k≠w.heap.size+1:=fun k y e=>by
   rcases bG k y with a|a
   ·have:=cn k a;omega
   omega
  have cS:∀ k,bA k->k≠w.heap.size+1:=fun k y e=>by
   rcases bI k y with a|a
   ·have:=cx k a;omega
   omega
  have cT:∀ k,Jnr s sv' k->k≠w.heap.size+1:=fun k bK e=>by
   rcases bK with a|a
   ·have:=bL s (.inl rfl);omega
   rcases bM k a with b|b
   ·have:=bL k (.inr b);omega
   omega
  refine⟨⟨d,s,FD,bA,sv',bs++[tb],?_,bW.stands Y.size fun k cK hl=>Y.block k hl (cK.elim (cS k) (cT k)),cH.stands fun k y hl=>Y.block k hl (cR k y),cF,cL,cQ,fun y=>?_,fun bH=>?_,bQ,fun cP=>?_,?_⟩,?_⟩
  ·unfold Jdu at bh |-;rw[bU.block st cO bX];exact bh
  ·rcases bG st y with a|a
   ·exact bP a
   omega
  ·rcases bI st bH with a|a
   ·exact cc a
   omega
  ·rcases bM st cP with a|a
   ·exact bO a
   omega
  ·rintro k (a|a|a|a)
   ·exact .inr (.inl a)
   ·exact .inr (.inr (.inl a))
   ·exact .inr (.inr (.inr a))
   exact .inl (hM k (.inr (.inr (.inr a))))
  have dg:=Y.size;have dh:=bU.size;rintro k (a|a|a|a)
  ·have:=U k a;omega
  ·have:=bV k (.inl a);omega
  ·have:=bV k (.inr a);omega
  rcases a with a|a
  ·have:=bL s (.inl rfl);omega
  have:=Qk bW.own a;omega
 have cE:W.drew.heap.size=w.heap.size+2:=bT;rintro k (a|a|a|a)
 ·exact .inl a
 ·rcases bG k a with b|b
  ·exact .inl (hM k (.inl b))
  exact .inr zo
 ·rcases bI k a with b|b
  ·exact .inl (hM k (.inr (.inl b)))
  exact .inr zo
 rcases a with a|a
 ·exact .inl (hM k (.inr (.inr (.inl (.inl a)))))
 rcases bM k a with b|b
 ·exact .inl (hM k (.inr (.inr (.inl (.inr b)))))
 exact .inr zo
theorem Kxx y st D Ts w(h:Sto y w st D Ts):
  Calls prog 9 #[.pointer (some ⟨st,0,none⟩)] w fun e w'=>e=.returned (.int .i64 ((Js D.pages:Nat):Int))/\w'=w:=by
 obtain⟨⟨d,s,F,G,sv,bs,H,M,I,O,U,Y,Z,bf,bh,K,hM⟩,bi⟩:=h;exact Qaz st w F s d D H I
theorem Kz1 I st D Ts n w(h:Sto I w st D Ts)(U:∀ T∈Ts,Jid D T)a0 a1 a2 H q wr pg pl ex Z(y:Jax w a0 a1 a2 H q wr pg pl ex Z){x}(Y:Jf8 D Ts n=some (.inl x)):
  Calls prog 28 #[.pointer (some ⟨st,0,none⟩),.string n] w fun e w'=>Jr7 w (Jf8 D Ts n) e w':=by
 obtain⟨⟨d,s,F,G,sv,bs,K,M,O,bh,bi,bj,bk,br,bx,bf,hM⟩,bz⟩:=h;exact Qaf st n w F G s d D Ts sv bs K M O U a0 a1 a2 H q wr pg y.e y.m Y
end
section
open Go.RowKit Go.Shelf
attribute [local go_sem] Oc0
theorem Jj {B a w}(h:Below B a w):Below B a w.drew:=⟨h.os,h.tape,h.output,h.size,h.block⟩
theorem Jh {w:World}{a:Addr}{v:Value}(h:w.cell? a=some v):w.drew.cell? a=some v:=h
theorem Jcz {w:World}{B:Nat}{e:TypeId}{z:Nat}{sv:Value}{n:Nat}{xs:List Value}(h:w.ownsRow B e z sv n xs):∃ a c,sv=.slice a n c:=by
 rcases h with⟨_,⟨y,H⟩|⟨g,cap,_,y,_⟩⟩
 ·exact⟨none,0,by rw[y,H]⟩
 exact⟨_,_,y⟩
theorem Kt6 X fa i v:Ju (fun k=>k=fa) X (X.setCell ⟨fa,i,none⟩ v):=(Ju.refl (fun k=>k=fa) X).set (b:=fa) rfl i v
theorem Kzm X fa y H I K M:Ju (fun k=>k=fa) X (((((X.setCell ⟨fa,0,none⟩ y).setCell ⟨fa,1,none⟩ H).setCell ⟨fa,2,none⟩ I).setCell ⟨fa,3,none⟩ K).setCell ⟨fa,4,none⟩ M):=
 ((((Kt6 X fa 0 y).trans (Kt6 _ fa 1 H)).trans (Kt6 _ fa 2 I)).trans (Kt6 _ fa 3 K)).trans (Kt6 _ fa 4 M)
end
section
open Go.RowKit Go.Shelf Tryz
attribute [local go_sem] Oc0
abbrev Jbg (n:Int):V:=⟨1,n,⟨#[]⟩⟩
def Kae (b:Bool):Int:=if b then 1 else 0
abbrev Yi (b:Bool):V:=⟨2,Kae b,⟨#[]⟩⟩
structure Jdo (w:World) (dv ov:Addr):Prop where
 d:w.cell? ⟨10,0,none⟩=some (.iface 434 (.pointer (some dv)))
 o:w.cell? ⟨11,0,none⟩=some (.iface 434 (.pointer (some ov)))
def Jdb (y H:Addr)(e:Nat):Value:=if e=0 then .nilIface else if e=9 then .iface 434 (.pointer (some y))else .iface 434 (.pointer (some H))
abbrev Jak (w:World)(v:V):World:=w.alloc (.cells #[.int .i64 v.k,.int .i64 v.n,.string v.s] 33)
def Jd0 (n:Int):Bool:=decide (-9223372036854775808<=n)&&decide (n<=9223372036854775807)
theorem Qj n:Jd0 n=true↔Jg n:=by unfold Jd0 Jg;simp
def Jik (a b:V):V×Nat:=if Jd0 (a.n+b.n)then (Jbg (a.n+b.n),0)else (Jf,10)
def Jiw (a b:V):V×Nat:=if Jd0 (a.n-b.n)then (Jbg (a.n-b.n),0)else (Jf,10)
def Jkj (a b:V):V×Nat:=if Jd0 (a.n*b.n)then (Jbg (a.n*b.n),0)else (Jf,10)
def Jg4 (a b:V):V×Nat:=if b.n=0 then (Jf,9)else if Jd0 (a.n.tdiv b.n)then (Jbg (a.n.tdiv b.n),0)else (Jf,10)
theorem zag {p:Prop}(h:p:=by
 go_enter func272,ntmps272
 go_wp2_with (go_at_call 289;refine(H _ _).mono ?_;rintro e I ⟨rfl,rfl⟩)
 go_ret
 exact⟨rfl,rfl⟩):p:=h
theorem Jk7 x y w:Calls prog 272 #[.int .i64 x,.int .i64 y] w fun e w'=>e=.returned (.int .i64 (if x<y then -1 else if y<x then 1 else 0))/\w'=w:=by
 have H:∀ (z:Int) (W:World),Calls prog 289 #[.int .i64 z] W fun e w'=>e=.returned (.bool false)/\w'=W:=fun z W=>by
  have Y:(z != z)=false:=zS;go_enter func289,ntmps289
  go_wp2;go_ret
  exact⟨rfl,rfl⟩
 by_cases K:x<y
 ·rw[if_pos K];exact zag
 rw[if_neg K];have O:y<=x:=zo;by_cases M:y<x
 ·rw[if_pos M];exact zag
 rw[if_neg M];have U:x<=y:=zo;exact zag
theorem Jlb a b w:Calls prog 273 #[.string a,.string b] w fun e w'=>e=.returned (.int .i64 (Lib.compareBytes a.data.toList b.data.toList))/\w'=w:=by
 have y:∀ W,Calls prog 290 #[.string a,.string b] W fun e w'=>e=.returned (.int .i64 (Lib.compareBytes a.data.toList b.data.toList))/\w'=W:=fun W=>by
  go_enter func290,ntmps290
  go_wp2;rw[run_callFunc_extern func297 zK zK zK (e:=Extern.BytealgCompare.compare) zK,Lib.run_compareString];simp only[Result.andThen];rw[Oper.upon_value];go_wp2;go_ret
  exact⟨rfl,rfl⟩
 go_enter func273,ntmps273
 go_wp2_with (go_at_call 290;refine(y _).mono ?_;rintro e H ⟨rfl,rfl⟩)
 go_ret
 exact⟨rfl,rfl⟩
theorem Jzv g x H w(h0:w.cell? ⟨g,0,none⟩=some (.int .i64 x))(O:w.cell? ⟨g,1,none⟩=some (.int .i64 H)):Calls prog 271 #[.slice (some ⟨g,0,none⟩) 2 2] w fun e w'=>e=.returned (.int .i64 (if x=0 then H else x))/\w'=w:=by
 go_enter func271,ntmps271
 go_wp2;go_loopw [8] (fun i wr=>wr=w/\(i=.int .i64 0\/(i=.int .i64 1/\x=0)\/(i=.int .i64 2/\x=0/\H=0))) (fun i _=>2-(intOf i).toNat)
 case atStart=>exact⟨rfl,.inl rfl⟩
 case round=>
  obtain⟨rfl,(rfl|⟨rfl,y⟩|⟨rfl,y,hy⟩)⟩:=hrel
  ·by_cases y:x=0
   ·have K:(x != 0)=false:=(by simp[y]);have I:=zh y;clear y;go_wp2;go_roundw
    case rel=>exact⟨by trivial,.inr (.inl ⟨rfl,I.out⟩)⟩
    case measure=>simp[intOf]
   have K:(x != 0)=true:=(by simp[y]);go_wp2;go_ret
   exact⟨by first|rfl|rw[if_neg y],rfl⟩
  ·by_cases hy:H=0
   ·have M:(H != 0)=false:=(by simp[hy]);have I:Hid (x=0/\H=0):=⟨y,hy⟩;clear y hy;go_wp2;go_roundw
    case rel=>exact⟨by trivial,.inr (.inr ⟨rfl,I.out.1,I.out.2⟩)⟩
    case measure=>simp[intOf]
   have M:(H != 0)=true:=(by simp[hy]);go_wp2;go_ret
   exact⟨by first|rfl|rw[if_pos y],rfl⟩
  go_wp2;go_ret
  exact⟨by first|rfl|rw[if_pos y,hy],rfl⟩
attribute [local go_sem] Oc0
theorem Kf {w:World}{a:Addr}{v:Value}{o:Obj}(h:w.cell? a=some v):(w.alloc o).cell? a=some v:=(World.cell?_alloc_some w a o (by rw[h];rfl)).trans h
def Jxt (a b:V):Int:=if a.n<b.n then -1 else if b.n<a.n then 1 else Lib.compareBytes a.s.data.toList b.s.data.toList
theorem Jqx a b w:Calls prog 237 #[a.val,b.val] w fun e w'=>e=.returned (.int .i64 (Jxt a b))/\∃ x y:Int,w'=((Jak (Jak w a) b).alloc (.cells #[.int .i64 x,.int .i64 y] 3)).drew:=by
 obtain⟨x,K⟩:∃ x:Int,x=(if a.n<b.n then -1 else if b.n<a.n then 1 else 0):=⟨_,rfl⟩;obtain⟨y,hy⟩:∃ y:Int,y=Lib.compareBytes a.s.data.toList b.s.data.toList:=⟨_,rfl⟩;have H:∀ W,Calls prog 272 #[.int .i64 a.n,.int .i64 b.n] W fun e w'=>e=.returned (.int .i64 x)/\w'=W:=fun W=>by rw[K];exact Jk7 _ _ W
 have I:∀ W,Calls prog 273 #[.string a.s,.string b.s] W fun e w'=>e=.returned (.int .i64 y)/\w'=W:=fun W=>by rw[hy];exact Jlb _ _ W
 have hv:Jxt a b=if x=0 then y else x:=by
  unfold Jxt;rw[K,hy];by_cases H:a.n<b.n
  ·simp[H]
  by_cases I:b.n<a.n<;>simp[H,I]
 rw[hv];obtain⟨z,M⟩:∃ z:Int,(if x=0 then y else x)=z:=⟨_,rfl⟩;have U:∀ g W,W.cell? ⟨g,0,none⟩=some (.int .i64 x)->W.cell? ⟨g,1,none⟩=some (.int .i64 y)->Calls prog 271 #[.slice (some ⟨g,0,none⟩) 2 2] W fun e w'=>e=.returned (.int .i64 z)/\w'=W:=fun g W q1 q2=>by rw[<-M];exact Jzv g x y W q1 q2
 rw[M];clear hv K hy M;go_enter func237,ntmps237
 go_wp2;go_region_held3 (fun X=>X.cell? ⟨w.heap.size,1,none⟩=some (.int .i64 a.n)/\X.cell? ⟨w.heap.size,2,none⟩=some (.string a.s)/\X.cell? ⟨w.heap.size+1,1,none⟩=some (.int .i64 b.n)/\X.cell? ⟨w.heap.size+1,2,none⟩=some (.string b.s))
  (first|go_keep|(go_split_ands;refine⟨?_,?_,?_,?_⟩<;>assumption))
  (first|(go_at_call 272;refine(H _).mono ?_;rintro e O ⟨rfl,rfl⟩)|(go_at_call 273;refine(I _).mono ?_;rintro e O ⟨rfl,rfl⟩)|(go_at_call 271;refine(U _ _ (by go_simp) (by go_simp)).mono ?_;rintro e O ⟨rfl,rfl⟩))
 go_wp2;go_ret
 exact⟨rfl,_,_,rfl⟩
def Jsg (a b:V):V×Nat:=(Yi (a.beq b),0)
def Jkc (a b:V):V×Nat:=(Yi (decide (Jxt a b<0)),0)
def Jk6 (a b d:V):V:=if a.beq d||b.beq d then d else if a.k=0 then a else b
def Jse (a b:V):V×Nat:=(Jk6 a b (Yi false),0)
def orR (a b:V):V×Nat:=(Jk6 a b (Yi true),0)
def Ju0 (a _b:V):V×Nat:=(Yi (a.n==0),0)
def Jle (a _b:V):V×Nat:=(Yi (a.k==0),0)
def Kd (R:V->V->V×Nat)(a b:V):V×Nat:=if a.k=0\/b.k=0 then (Jf,0)else R a b
end
open Go.RowKit Go.Shelf
attribute [local go_sem] Oc0
theorem Uc {w:World}{a p:Addr}{v x:Value}(y:p≠a)(h:w.cell? a=some v):(w.setCell p x).cell? a=some v:=by rw[Ob5 _ _ _ _ y];exact h
structure Pt where
 op:Int
 l:Int
 r:Int
 c:Int
 v:V
abbrev Pt.val (p:Pt):Value:=.agg #[.int .i64 p.op,.int .i64 p.l,.int .i64 p.r,.int .i64 p.c,.int .i64 p.v.k,.int .i64 p.v.n,.string p.v.s]
def Uz (w:World)(b:Nat)(ex ba:Value)(first n:Int)(y er:Value):Prop:=w.heap[b]?=some (.cells #[ex,ba,.int .i64 first,.int .i64 n,y,er] 262 (0,0))
theorem Uz.below {w w' b ex ba first n y er}(h:Uz w b ex ba first n y er)(hb:Below w.heap.size w w'):Uz w' b ex ba first n y er:=(hb.block b (Jd h)).trans h
theorem Uz.cells {w b ex ba first n y er}(h:Uz w b ex ba first n y er):
  w.cell? ⟨b,0,none⟩=some ex/\w.cell? ⟨b,1,none⟩=some ba/\w.cell? ⟨b,2,none⟩=some (.int .i64 first)/\w.cell? ⟨b,3,none⟩=some (.int .i64 n)/\w.cell? ⟨b,4,none⟩=some y/\w.cell? ⟨b,5,none⟩=some er:=by
 unfold Uz at h;simp[World.cell?,h]
theorem Uz.thaw {w b ex ba first n y er}(h:Uz w b ex ba first n y er)o:w.frozen? ⟨b,o,none⟩=false:=by
 unfold Uz at h;simp[World.frozen?,h]
def Ja8 (w:World)(eb:Nat)(row y:Int)(why:Value):Prop:=w.heap[eb]?=some (.cells #[.int .i64 row,.int .i64 y,why] 153 (0,0))
abbrev Qv (eb:Nat):Value:=.iface 149 (.pointer (some ⟨eb,0,none⟩))
