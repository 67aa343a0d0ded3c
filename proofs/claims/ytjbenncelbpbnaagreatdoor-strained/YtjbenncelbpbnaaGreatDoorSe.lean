/- A store in memory; New; what Load does round the set's Load. -/
import Derived.Test.YtjbenncelbpbnaaGreatDoorTu
import Derived.Test.YtjbenncelbpbnaaGreatDoorSb
set_option maxHeartbeats 1000000
set_option maxRecDepth 100000
namespace Go.Proofs.YtjbenncelbpbnaaGreatDoor
open Go.RowKit Go.Shelf Tryz
structure Sto (M:Nat->Prop) (w:World) (st:Nat) (D:DS) (Ts:List TS):Prop where
 ex:∃ (d s:Nat) (F G:Nat->Prop) (sv:Value) (bs:List Nat),Jdu w st d s/\Jfl w G s d Ts sv bs/\Zb w F d D/\(∀ k,G k->¬ F k)/\¬ F s/\(∀ g,sv.ownBlock=some g->¬ F g)/\¬ F st/\¬ G st/\st≠s/\sv.ownBlock≠some st/\(∀ k,F k\/G k\/Jnr s sv k\/k=st->M k)
 lt:∀ k,M k->k<w.heap.size
theorem Sto.stands {y w w' st D Ts}(h:Sto y w st D Ts)(hs:w.heap.size<=w'.heap.size)(hk:∀ k,y k->w'.heap[k]?=w.heap[k]?):Sto y w' st D Ts:=by
 obtain⟨⟨d,s,F,G,sv,bs,I,M,O,U,Y,Z,bf,bh,bi,K,hM⟩,hl⟩:=h;refine⟨⟨d,s,F,G,sv,bs,?_,M.stands hs fun k H _=>hk k (hM k (H.elim (fun a=>.inr (.inl a)) (fun a=>.inr (.inr (.inl a))))),O.stands fun k hf _=>hk k (hM k (.inl hf)),U,Y,Z,bf,bh,bi,K,hM⟩,fun k H=>Oc2 (hl k H) hs⟩;unfold Jdu at I |-;rw[hk st (hM st (.inr (.inr (.inr rfl))))];exact I
theorem Sto.below {y w w' st D Ts}(h:Sto y w st D Ts)(hb:Below w.heap.size w w'):Sto y w' st D Ts:=h.stands hb.size fun k hk=>hb.block k (h.lt k hk)
theorem Ke2 d w:Calls prog 29 #[.pointer (some ⟨d,0,none⟩)] w fun e w'=>e=.returned (.pointer (some ⟨w.heap.size,0,none⟩))/\w'=w.alloc (.cells #[.pointer (some ⟨d,0,none⟩),.slice none 0 0] 113):=by
 go_enter func29,ntmps29
 go_wp2;go_ret
 exact⟨rfl,rfl⟩
theorem Kfq q f w:
  Calls prog 20 #[.agg #[.int .i64 q,.int .i64 f]] w fun e w'=>Below w.heap.size w w'/\∃ (st:Nat) (H:Nat->Prop),e=.returned (.pointer (some ⟨st,0,none⟩))/\Sto H w' st (Ku q f) []/\(∀ k,H k->w.heap.size<=k):=by
 have Y:Below w.heap.size w (w.alloc (.cells #[.int .i64 q,.int .i64 f] 33)):=(Oa5 _ w).alloc (Oa2 _) _;have U:=Kcn q f (w.alloc (.cells #[.int .i64 q,.int .i64 f] 33));go_enter func20,ntmps20
 go_wp2_with (first|(go_at_call 28;refine U.mono ?_;rintro e y ⟨d,rfl,bf,M,Z⟩;have I:=Jb Y Z)|(go_at_call 29;refine(Ke2 d y).mono ?_;rintro e bi ⟨rfl,rfl⟩))
 go_ret
 have K:Below y.heap.size y ((y.alloc (.cells #[.pointer (some ⟨d,0,none⟩),.slice none 0 0] 113)).alloc (.cells #[.pointer (some ⟨d,0,none⟩),.pointer (some ⟨y.heap.size,0,none⟩)] 74)):=((Oa5 _ _).alloc (Oa2 _) _).alloc zS _;have bk:=I.size;have bj:d<y.heap.size:=by
  obtain⟨sv,ps,bh⟩:=M;exact Jd bh.cells
 rw[Oa7]at bf;have O:=heap_alloc_new (y.alloc (.cells #[.pointer (some ⟨d,0,none⟩),.slice none 0 0] 113)) (.cells #[.pointer (some ⟨d,0,none⟩),.pointer (some ⟨y.heap.size,0,none⟩)] 74);rw[Oa7]at O;refine⟨Jb I K,y.heap.size+1,fun k=>k=d\/k=y.heap.size\/k=y.heap.size+1,rfl,⟨⟨d,y.heap.size,fun k=>k=d,fun _=>False,.slice none 0 0,[],O,?_,M.below K,zS,zo,by simp[Value.ownBlock],zo,zS,zo,by simp[Value.ownBlock],?_⟩,?_⟩,?_⟩
 ·refine⟨?_,Jo.nil _ _ _,zS,by simp[Value.ownBlock],rfl,zS,zS⟩;rw[Oa9 _ _ _ zS,heap_alloc_new]
 ·rintro k (h|h|h|h)
  ·exact .inl h
  ·exact h.elim
  ·rcases h with h|h
   ·exact .inr (.inl h)
   simp[Value.ownBlock]at h
  exact .inr (.inr h)
 ·rintro k (h|h|h)<;>subst h<;>simp<;>omega
 rintro k (h|h|h)<;>subst h<;>omega
abbrev Ka:Obj:=.cells #[.int .i64 0,.int .i64 0,.int .i64 0,.int .i64 0,.int .i64 0] 51
theorem Ju9 (st s:Nat)(name:ByteArray)Y Z a1 a2 bz(O K U c2 n3 c3:Nat)(bR:Y=.slice a1 O K)(bS:Z=.slice a2 U c2)(g:Int)w(M1:Nat->Prop)(hM:∀ k,M1 k->k<w.heap.size)(bQ:¬ M1 st)(c1:w.cell? ⟨st,1,none⟩=some (.pointer (some ⟨s,0,none⟩)))(c nd col pg:Int)(P:World->Prop)(br:Calls prog 31 #[.pointer (some ⟨s,0,none⟩),.agg #[.string name,Y,Z],.slice bz n3 c3,.int .i64 g] ((w.alloc (.cells #[.string name,Y,Z] 25)).alloc Ka).drew fun e w'=>∃ ev,e=.returned ev/\Ju M1 ((w.alloc (.cells #[.string name,Y,Z] 25)).alloc Ka) w'/\P w'/\Calls prog 30 #[ev] w' (fun e bZ=>e=.returned (Jjp c nd col pg)/\Below w'.heap.size w' bZ)):
  Calls prog 21 #[.pointer (some ⟨st,0,none⟩),.agg #[.string name,Y,Z],.slice bz n3 c3,.int .i64 g] w fun e w'=>e=.returned (Jjp c nd col pg)/\∃ bi,P bi/\Ju M1 ((w.alloc (.cells #[.string name,Y,Z] 25)).alloc Ka) bi/\Ju (fun k=>k=w.heap.size+1) bi w':=by
 subst bR bS;have bA:Below w.heap.size w ((w.alloc (.cells #[.string name,.slice a1 O K,.slice a2 U c2] 25)).alloc Ka):=((Oa5 _ w).alloc (Oa2 _) _).alloc zS _;have bk:=Ja bA c1;have cb:st<w.heap.size:=Jm c1;have bx:¬ M1 w.heap.size:=fun h=>Oe3 _ (hM _ h);have bY:¬ M1 (w.heap.size+1):=fun h=>by have:=hM _ h;omega
 obtain⟨W,hW⟩:∃ W,W=(w.alloc (.cells #[.string name,.slice a1 O K,.slice a2 U c2] 25)).alloc Ka:=⟨_,rfl⟩;have bC:W.cell? ⟨w.heap.size,0,none⟩=some (.string name):=by rw[hW,Oe5 _ _ _ zS];simp
 have bD:W.cell? ⟨w.heap.size,1,none⟩=some (.slice a1 O K):=by rw[hW,Oe5 _ _ _ zS];simp
 have bE:W.cell? ⟨w.heap.size,2,none⟩=some (.slice a2 U c2):=by rw[hW,Oe5 _ _ _ zS];simp
 have bP:W.heap[w.heap.size+1]?=some (.cells #[.int .i64 0,.int .i64 0,.int .i64 0,.int .i64 0,.int .i64 0] 51 (0,0)):=by
  rw[hW];have:=heap_alloc_new (w.alloc (.cells #[.string name,.slice a1 O K,.slice a2 U c2] 25)) Ka;rwa [Oa7]at this
 have ca:W.heap.size=w.heap.size+2:=by rw[hW];simp
 rw[<-hW]at br bA bk;clear hM;go_enter func21,ntmps21
 go_wp2_with fail
 rw[<-hW];have bI:=zh hW;clear hW;refine wp_region_held_drew (S:=fun X=>X.cell? ⟨st,1,none⟩=some (.pointer (some ⟨s,0,none⟩))/\X.cell? ⟨w.heap.size,0,none⟩=some (.string name)/\X.cell? ⟨w.heap.size,1,none⟩=some (.slice a1 O K)/\X.cell? ⟨w.heap.size,2,none⟩=some (.slice a2 U c2)) zK ⟨bk,bC,bD,bE⟩ (fun y=>?_);refine tkj 0 rfl y ?_;refine tkj 1 rfl y ?_;refine tkj 2 rfl y ?_;refine tkj 3 rfl y ?_;refine tkj 4 rfl y ?_;refine tkj 5 rfl y ?_;refine tkj 6 rfl y ?_;refine tkn ?_;refine tkr 7 rfl fun bf hK=>?_;go_simp;refine br.mono ?_;rintro e bi ⟨ev,rfl,hk,hp,hf⟩;have bH:=zh hp;have bG:=zh hf;clear hp hf br;go_simp;refine hK.out _ _ ⟨hk.cell bk bQ,hk.cell bC bx,hk.cell bD bx,hk.cell bE bx⟩ (fun y=>?_);clear hK bf;refine tkr 8 rfl fun bf hK=>?_;go_simp;refine bG.out.mono ?_;rintro e bj ⟨rfl,H⟩;go_simp;refine hK.out _ _ ⟨Ja H y.1,Ja H y.2.1,Ja H y.2.2.1,Ja H y.2.2.2⟩ (fun y=>?_);clear hK bf;have cc:=hk.size;have I:bj.heap[w.heap.size+1]?=some (.cells #[.int .i64 0,.int .i64 0,.int .i64 0,.int .i64 0,.int .i64 0] 51 (0,0)):=
  (H.block _ zo).trans ((hk.block _ zo bY).trans bP)
 have bT:=zc 0 I;have bU:=zc 1 I;have bV:=zc 2 I;have bW:=zc 3 I;have bX:=zc 4 I;have M:∀ o:Nat,bj.frozen? ⟨w.heap.size+1,o,none⟩=false:=fun o=>by simp[World.frozen?,I]
 have bJ:=M 0;have bK:=M 1;have bL:=M 2;have bM:=M 3;have bN:=M 4;have bB:=Jk (Jk (Jk (Jk (Jk I 0 (.int .i64 c)) 1 (.int .i64 nd)) 2 (.int .i64 (-1))) 3 (.int .i64 col)) 4 (.int .i64 pg);simp only[Oa1,List.set_cons_zero,List.set_cons_succ]at bB;clear I M;refine tkr 9 rfl fun bf hK=>?_;go_simp;have bh:∀ (b o:Nat),b≠w.heap.size+1->(((((bj.setCell ⟨w.heap.size+1,0,none⟩ (.int .i64 c)).setCell ⟨w.heap.size+1,1,none⟩ (.int .i64 nd)).setCell ⟨w.heap.size+1,2,none⟩ (.int .i64 (-1))).setCell ⟨w.heap.size+1,3,none⟩ (.int .i64 col)).setCell ⟨w.heap.size+1,4,none⟩ (.int .i64 pg)).cell? ⟨b,o,none⟩=bj.cell? ⟨b,o,none⟩:=fun b o hb=>by
  simp only[World.cell?,Zh _ _ _ _ _ _ _ b hb]
 refine hK.out _ _ ⟨(bh _ _ zo).trans y.1,(bh _ _ zo).trans y.2.1,(bh _ _ zo).trans y.2.2.1,(bh _ _ zo).trans y.2.2.2⟩ (fun y=>?_);clear hK bf bh y bT bU bV bW bX bJ bK bL bM bN;refine wpAnyH_done zK ?_ _;go_wp2;refine bodyPost_ret (v:=Jjp c nd col pg) (by simp[results,results21,go_sem,Jjp,World.cell?,bB]) rfl ⟨rfl,bi,bH.out,by rw[<-bI.out];exact hk,?_⟩;exact⟨H.os,H.tape,H.output,by rw[Jg2];exact H.size,fun k bO hn=>(Zh _ _ _ _ _ _ _ k hn).trans (H.block k bO)⟩
structure Jax (w:World) (a0 a1 a2 tt q wr pg pl ex ta:Addr):Prop where
 e:Jf0 w a0 a1 a2
 m:Jkn w a0 a1 a2 tt q wr pg
 m2:Jhy w [a0,a1,a2,tt,q,wr,pg] pl ex
 c:w.cell? ⟨1,0,none⟩=some (.iface 432 (.pointer (some ta)))
 b:∃ c t,w.heap[ta.block]?=some (.cells c t (0,0))
 n:ta∉[a0,a1,a2,tt,q,wr,pg,pl,ex]
 m3:∃ dv ov gv mn,Jig w [ex,pl,a0,a1,a2,tt,q,wr,pg] dv ov gv mn/\ta∉[dv,ov,gv,mn]
theorem Jax.below {w w' a0 a1 a2 H q wr pg pl ex y}(h:Jax w a0 a1 a2 H q wr pg pl ex y)(hb:Below w.heap.size w w'):Jax w' a0 a1 a2 H q wr pg pl ex y:=
 ⟨h.e.below hb,h.m.below hb,h.m2.below hb,Ja hb h.c,Kg hb h.b,h.n,by obtain⟨I,O,gv,mn,K,M⟩:=h.m3;exact⟨I,O,gv,mn,K.below hb,M⟩⟩
abbrev Ja0:Type:=Unit⊕(Unit⊕(Nat⊕((Bool×DS)⊕(DS×TS))))
abbrev Ja0.arg:Ja0:=.inl ()
abbrev Ja0.table:Ja0:=.inr (.inl ())
abbrev Ja0.dict (c:Nat):Ja0:=.inr (.inr (.inl c))
abbrev Ja0.disk (x:Bool)(D:DS):Ja0:=.inr (.inr (.inr (.inl (x,D))))
abbrev Ja0.ok (D:DS)(T:TS):Ja0:=.inr (.inr (.inr (.inr (D,T))))
def Ja0.fault:Ja0->Value
 |.inl _=>Jbz 1 (-1) (-1)
 |.inr (.inl _)=>Jbz 4 (-1) (-1)
 |.inr (.inr (.inl c))=>Jbz 2 (c:Int) (-1)
 |.inr (.inr (.inr (.inl x)))=>Jbz (if x.1 then 5 else 6) (-1) (-1)
 |.inr (.inr (.inr (.inr _)))=>Jbz 0 (-1) (-1)
def Ja0.d (D:DS):Ja0->DS
 |.inr (.inr (.inr (.inl x)))=>x.2
 |.inr (.inr (.inr (.inr x)))=>x.1
 |_=>D
def Ja0.ts (Ts:List TS):Ja0->List TS
 |.inr (.inr (.inr (.inr x)))=>Ts++[x.2]
 |_=>Ts
def Khs (name:ByteArray)(ts hs:List Int)(rs:List (List V))(g:Int):Decidable (Jel name ts rs/\Je3 ts hs/\1<=g/\g<=64):=by
 unfold Jel Je3;infer_instance
def Jbd (D:DS)(Ts:List TS)(name:ByteArray)(ts hs:List Int)(rs:List (List V))(g:Int):Ja0:=
 @ite _ (Jel name ts rs/\Je3 ts hs/\1<=g/\g<=64) (Khs name ts hs rs g)
  (if Ub Ts name<Ts.length\/6<=Ts.length then .table
  else match Jfg rs ts hs (cks rs.length g.toNat (ckN rs.length g.toNat))with
   |.inr c=>.dict c
   |.inl T=>match (Jq D T).2.2 with
    |some x=>.disk x (Jcg (Jq D T).1 (Jq D T).2.1)
    |none=>.ok (Jq D T).1 ⟨name,ts,rs.length,g.toNat,(Jq D T).2.1⟩)
  .arg
theorem Jn8 {H M1 w W I w' j}(hb:Below w.heap.size w W)(hk:Ju M1 W I)(y:Ju (fun k=>k=j) I w')(O:w.heap.size<=j)(K:∀ k,M1 k->H k):Ju H w w':=by
 have z1:=hb.size;have z2:=hk.size;have U:=y.size;refine⟨(y.os.trans hk.os).trans hb.os,(y.tape.trans hk.tape).trans hb.tape,(y.output.trans hk.output).trans hb.output,zo,fun k M hn=>?_⟩;exact(y.block k zo zo).trans ((hk.block k zo fun h=>hn (K k h)).trans (hb.block k M))
def Jy0 (y:Nat->Prop)(w:World)(st:Nat)(D:DS)(Ts:List TS)(r:Ja0)(e:Ending)(w':World):Prop:=
 e=.returned r.fault/\Ju y w w'/\∃ H:Nat->Prop,Sto H w' st (r.d D) (r.ts Ts)/\(∀ k,y k->H k)/\(∀ k,H k->y k\/w.heap.size<=k)
theorem Jyt H st D Ts name at_ ar Y ct cr ch ts hs xs rs g w(h:Sto H w st D Ts)(ca:Kct w name at_ ar Y cr ts hs xs rs)(cb:∀ b o,at_=some ⟨b,o,none⟩->¬ H b)(cJ:D.pages.length<=800000)a0 a1 a2 cT q wr pg pl ex cS w0(bz:Jax w0 a0 a1 a2 cT q wr pg pl ex cS)(cD:Below w0.heap.size w0 w)(bO:∀ k,H k->w0.heap.size<=k)(cA:∀ x∈hs,Qak x)(y:∃ E T,Jbd D Ts name ts hs rs g=.ok E T):
  Calls prog 21 #[.pointer (some ⟨st,0,none⟩),Jvc name at_ ar ct cr ts rs,.slice Y hs.length ch,.int .i64 g] w fun e w'=>Jy0 H w st D Ts (Jbd D Ts name ts hs rs g) e w':=by
 have cV:=h;have bP:=bz.below cD;have cx:¬ H 6:=fun bG=>by have Z:=bO _ bG;have bf:=Jm bz.m.cq;simp only at bf;omega
 have cy:¬ H 7:=fun bG=>by have Z:=bO _ bG;have bf:=Jm bz.m.cw;simp only at bf;omega
 obtain⟨⟨d,s,F,G,sv,bs,Z,bf,bV,bW,bX,bY,bM,bZ,bN,bL,hM⟩,M⟩:=h;obtain⟨W,hW⟩:∃ W,W=(w.alloc (Jln name at_ ar ct cr ts rs)).alloc Ka:=⟨_,rfl⟩;have I:Below w.heap.size w W:=by rw[hW];exact((Oa5 _ w).alloc (Oa2 _) _).alloc zS _
 have bh:Below w.heap.size w W.drew:=⟨I.os,I.tape,I.output,I.size,I.block⟩;have bQ:W.heap.size=w.heap.size+2:=by rw[hW];simp
 have bA:=bP.below bh;have cc:=ca.below bh;obtain⟨cX,cY,n3,cZ,da,db,dc⟩:=Jim bP.m;have bK:=fun (M1:Nat->Prop) (bk:∀ k,M1 k->k<w.heap.size) (cK:¬ M1 st) (c nd col cR:Int) (P:World->Prop) bj=>Ju9 st s name (.slice at_ ts.length ct) (.slice ar rs.length cr) at_ ar Y ts.length ct rs.length cr hs.length ch rfl rfl g w M1 bk cK Z.field.2 c nd col cR P bj;have cz:(w.alloc (.cells #[.string name,.slice at_ ts.length ct,.slice ar rs.length cr] 25)).alloc Ka=W:=hW.symm;rw[cz]at bK;obtain⟨K,U,T,hp,bi⟩:(Jel name ts rs/\Je3 ts hs/\1<=g/\g<=64)/\¬ (Ub Ts name<Ts.length\/6<=Ts.length)/\∃ T,Jfg rs ts hs (cks rs.length g.toNat (ckN rs.length g.toNat))=.inl T/\(Jq D T).2.2=none:=by
  obtain⟨E,cU,y⟩:=y;unfold Jbd at y;by_cases K:Jel name ts rs/\Je3 ts hs/\1<=g/\g<=64
  ·rw[if_pos K]at y;by_cases U:Ub Ts name<Ts.length\/6<=Ts.length
   ·rw[if_pos U]at y;cases y
   rw[if_neg U]at y;rcases hp:Jfg rs ts hs (cks rs.length g.toNat (ckN rs.length g.toNat))with T|c
   ·rw[hp]at y;cases bi:(Jq D T).2.2 with
    |some x=>
     simp only[bi]at y;cases y
    |none=>exact⟨K,U,T,rfl,bi⟩
   rw[hp]at y;cases y
  rw[if_neg K]at y;cases y
 have cF:((g.toNat:Nat):Int)=g:=zo;have cG:Jqy W.drew s d F G D Ts sv bs name at_ ar Y cr ts hs xs rs g.toNat:=
  ⟨cc,K.1,K.2.1,zo,zo,bf.below bh,fun hf=>U (.inl hf),zo,bV.below bh,fun k hk=>Oc2 (M k (hM k (hk.elim .inl fun a=>.inr (.inl a)))) bh.size,bW,bX,bY,fun b o hb hf=>cb b o hb (hM b (.inl hf)),cJ,cA⟩
 have cu:=bA.m.cq;have cv:=bA.m.cw;have ci:¬ F 6:=fun hf=>cx (hM _ (.inl hf));have cj:¬ F 7:=fun hf=>cy (hM _ (.inl hf));have hr:Jbd D Ts name ts hs rs g=.ok (Jq D T).1 ⟨name,ts,rs.length,g.toNat,(Jq D T).2.1⟩:=by unfold Jbd;rw[if_pos K,if_neg U,hp];simp only;rw[bi]
 rw[hr];have bj:=Ked s d F G D Ts sv bs name at_ ar Y ct cr ch ts hs xs rs g.toNat W.drew cG a0 a1 a2 bA.e T hp q wr cu cv ci cj bi;rw[cF]at bj;have cW:=I.size;have bk:∀ k,F k\/Jnr s sv k->H k:=fun k hk=>hk.elim (fun a=>hM k (.inl a)) fun a=>hM k (.inr (.inr (.inl a)));have bU:¬ (F st\/Jnr s sv st):=fun h=>h.elim bM fun a=>a.elim bN bL;refine(bK (fun k=>F k\/Jnr s sv k) (fun k hk=>M k (bk k hk)) bU 0 (-1) (-1) (-1) (fun br=>Jdl W.drew s d F G D Ts sv bs name ts rs g.toNat T br) (bj.mono fun e br ⟨bB,hk⟩=>⟨_,bB,⟨hk.1.os,hk.1.tape,hk.1.output,hk.1.size,hk.1.block⟩,hk,Jjq br⟩)).mono fun e w' ⟨bB,br,⟨_,FD,bx,sv',tb,cE,bT,bC,bE,bS,cC,cI,cN,bJ⟩,hk,O⟩=>⟨bB,Jn8 I hk O zo bk,fun k=>H k\/FD k\/bx k\/Jnr s sv' k,?_,fun k hk=>.inl hk,?_⟩
 ·have bR:Ju (fun k=>F k\/Jnr s sv k) w w':=Jn8 I hk O zo (fun _ h=>h);have cL:st<w.heap.size:=M st (hM st (.inr (.inr (.inr rfl))));have cn:∀ k,G k->k<w.heap.size:=fun k bD=>M k (hM k (.inr (.inl bD)));have bI:∀ k,Jnr s sv k->k<w.heap.size:=fun k bH=>M k (hM k (.inr (.inr (.inl bH))));have cf:∀ k,F k->k<w.heap.size:=fun k hf=>M k (hM k (.inl hf));have cB:W.drew.heap.size=w.heap.size+2:=bQ;have cO:∀ k,FD k->k≠w.heap.size+1:=fun k hf e=>by
   rcases bC k hf with a|a
   ·have:=cf k a;omega
   omega
  have cP:∀ k,bx k->k≠w.heap.size+1:=fun k hf e=>by
   rcases bE k hf with a|a
   ·have:=cn k a;omega
   omega
  have cQ:∀ k,Jnr s sv' k->k≠w.heap.size+1:=fun k bH e=>by
   rcases bH with a|a
   ·have:=bI s (.inl rfl);omega
   rcases bJ k a with b|b
   ·have:=bI k (.inr b);omega
   omega
  refine⟨⟨d,s,FD,bx,sv',bs++[tb],?_,bT.stands O.size fun k cH hl=>O.block k hl (cH.elim (cP k) (cQ k)),cE.stands fun k hf hl=>O.block k hl (cO k hf),cC,cI,cN,fun hf=>?_,fun bD=>?_,bN,fun cM=>?_,?_⟩,?_⟩
  ·unfold Jdu at Z |-;rw[bR.block st cL bU];exact Z
  ·rcases bC st hf with a|a
   ·exact bM a
   omega
  ·rcases bE st bD with a|a
   ·exact bZ a
   omega
  ·rcases bJ st cM with a|a
   ·exact bL a
   omega
  ·rintro k (a|a|a|a)
   ·exact .inr (.inl a)
   ·exact .inr (.inr (.inl a))
   ·exact .inr (.inr (.inr a))
   exact .inl (hM k (.inr (.inr (.inr a))))
  have dd:=O.size;have de:=bR.size;rintro k (a|a|a|a)
  ·have:=M k a;omega
  ·have:=bS k (.inl a);omega
  ·have:=bS k (.inr a);omega
  rcases a with a|a
  ·have:=bI s (.inl rfl);omega
  have:=Qk bT.own a;omega
 have cB:W.drew.heap.size=w.heap.size+2:=bQ;rintro k (a|a|a|a)
 ·exact .inl a
 ·rcases bC k a with b|b
  ·exact .inl (hM k (.inl b))
  exact .inr zo
 ·rcases bE k a with b|b
  ·exact .inl (hM k (.inr (.inl b)))
  exact .inr zo
 rcases a with a|a
 ·exact .inl (hM k (.inr (.inr (.inl (.inl a)))))
 rcases bJ k a with b|b
 ·exact .inl (hM k (.inr (.inr (.inl (.inr b)))))
 exact .inr zo
theorem Kvq y st D Ts w(h:Sto y w st D Ts):
  Calls prog 8 #[.pointer (some ⟨st,0,none⟩)] w fun e w'=>e=.returned (.int .i64 ((Js D.pages:Nat):Int))/\w'=w:=by
 obtain⟨⟨d,s,F,G,sv,bs,H,M,I,O,U,Y,Z,bf,bh,K,hM⟩,bi⟩:=h;exact Qbg st w F s d D H I
theorem Kzg I st D Ts n w(h:Sto I w st D Ts)(U:∀ T∈Ts,Jid D T)a0 a1 a2 H q wr pg pl ex Z(y:Jax w a0 a1 a2 H q wr pg pl ex Z){x}(Y:Jf8 D Ts n=some (.inl x)):
  Calls prog 27 #[.pointer (some ⟨st,0,none⟩),.string n] w fun e w'=>Jr7 w (Jf8 D Ts n) e w':=by
 obtain⟨⟨d,s,F,G,sv,bs,K,M,O,bh,bi,bj,bk,br,bx,bf,hM⟩,bz⟩:=h;exact Kzs st n w F G s d D Ts sv bs K M O U a0 a1 a2 H q wr pg y.e y.m Y
