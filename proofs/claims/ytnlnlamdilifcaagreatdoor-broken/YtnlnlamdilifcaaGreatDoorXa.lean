/- A store in memory; New; what Load does round the set's Load. -/
import Derived.Test.YtnlnlamdilifcaaGreatDoorTu
import Derived.Test.YtnlnlamdilifcaaGreatDoorKm
import Derived.Shelf.Bits.Mul64
import Derived.Lib.Bytealg
set_option maxHeartbeats 1000000
set_option maxRecDepth 100000
namespace Go.Proofs.YtnlnlamdilifcaaGreatDoor
section
open Go.RowKit Go.Shelf Tryz
structure Sto (M:Nat->Prop) (w:World) (st:Nat) (D:DS) (Ts:List TS):Prop where
 ex:∃ (d s:Nat) (F G:Nat->Prop) (sv:Value) (bs:List Nat),Jdu w st d s/\Jfl w G s d Ts sv bs/\Zb w F d D/\(∀ k,G k->¬ F k)/\¬ F s/\(∀ g,sv.ownBlock=some g->¬ F g)/\¬ F st/\¬ G st/\st≠s/\sv.ownBlock≠some st/\(∀ k,F k\/G k\/Jnr s sv k\/k=st->M k)
 lt:∀ k,M k->k<w.heap.size
theorem Sto.stands {y w w' st D Ts}(h:Sto y w st D Ts)(hs:w.heap.size<=w'.heap.size)(H:∀ k,y k->w'.heap[k]?=w.heap[k]?):Sto y w' st D Ts:=by
 obtain⟨⟨d,s,F,G,sv,bs,K,O,U,Y,Z,bf,bh,bi,bj,M,hM⟩,hl⟩:=h;refine⟨⟨d,s,F,G,sv,bs,?_,O.stands hs fun k I _=>H k (hM k (I.elim (fun a=>.inr (.inl a)) (fun a=>.inr (.inr (.inl a))))),U.stands fun k bk _=>H k (hM k (.inl bk)),Y,Z,bf,bh,bi,bj,M,hM⟩,fun k I=>Oc2 (hl k I) hs⟩;unfold Jdu at K |-;rw[H st (hM st (.inr (.inr (.inr rfl))))];exact K
theorem Sto.below {y w w' st D Ts}(h:Sto y w st D Ts)(hb:Bq w w'):Sto y w' st D Ts:=h.stands hb.size fun k H=>hb.block k (h.lt k H)
theorem Ke2 d w:Cq 33 #[Pq d] w fun e w'=>e=.returned (Pq w.heap.size)/\w'=w.alloc (.cells #[Pq d,Sz] 99):=by
 go_enter func33,ntmps33
 go_wp2;go_ret
 exact⟨rfl,rfl⟩
theorem Kfq q f w:
  Cq 23 #[.agg #[Iq q,Iq f]] w fun e w'=>Bq w w'/\∃ (st:Nat) (H:Nat->Prop),e=.returned (Pq st)/\Sto H w' st (Ku q f) []/\(∀ k,H k->w.heap.size<=k):=by
 have Y:Bq w (w.alloc (.cells #[Iq q,Iq f] 34)):=(Oa5 _ w).alloc (Oa2 _) _;have U:=Kcn q f (w.alloc (.cells #[Iq q,Iq f] 34));go_enter func23,ntmps23
 go_wp2_with (first|(go_at_call 32;refine U.mono ?_;rintro e y ⟨d,rfl,bf,M,Z⟩;have I:=Jb Y Z)|(go_at_call 33;refine(Ke2 d y).mono ?_;rintro e bi ⟨rfl,rfl⟩))
 go_ret
 have K:Bq y ((y.alloc (.cells #[Pq d,Sz] 99)).alloc (.cells #[Pq d,Pq y.heap.size] 81)):=((Oa5 _ _).alloc (Oa2 _) _).alloc zS _;have bk:=I.size;have bj:d<y.heap.size:=by
  obtain⟨sv,ps,bh⟩:=M;exact Jd bh.cells
 rw[Oa7]at bf;have O:=heap_alloc_new (y.alloc (.cells #[Pq d,Sz] 99)) (.cells #[Pq d,Pq y.heap.size] 81);rw[Oa7]at O;refine⟨Jb I K,y.heap.size+1,fun k=>k=d\/k=y.heap.size\/k=y.heap.size+1,rfl,⟨⟨d,y.heap.size,fun k=>k=d,fun _=>False,Sz,[],O,?_,M.below K,zS,zo,by simp[Value.ownBlock],zo,zS,zo,by simp[Value.ownBlock],?_⟩,?_⟩,?_⟩
 ·refine⟨?_,Jo.nil _ _ _,zS,by simp[Value.ownBlock],rfl,zS,zS⟩;rw[Oa9 _ _ _ zS,heap_alloc_new]
 ·rintro k (h|h|h|h)
  ·exact .inl h
  ·exact h.elim
  ·rcases h with h|h
   ·exact .inr (.inl h)
   simp[Value.ownBlock]at h
  exact .inr (.inr h)
 ·rintro k (h|h|h)<;>subst h<;>simp<;>omega
 rintro k (h|h|h)<;>subst h<;>omega
abbrev Ka:Obj:=.cells #[iZ,iZ,iZ,iZ,iZ] 39
theorem Ju9 (st s:Nat)(name:ByteArray)Z bf a1 a2 bA(U M Y c2 n3 c3:Nat)(bU:Z=.slice a1 U M)(bV:bf=.slice a2 Y c2)(g:Int)w(M1:Nat->Prop)(hM:∀ k,M1 k->k<w.heap.size)(bT:¬ M1 st)(c1:w.cell? (Ar st 1)=some (Pq s))(c nd col pg:Int)(P:World->Prop)(bx:Cq 25 #[Pq s,.agg #[.string name,Z,bf],.slice bA n3 c3,Iq g] ((w.alloc (.cells #[.string name,Z,bf] 25)).alloc Ka).drew fun e w'=>∃ ev,e=.returned ev/\Ju M1 ((w.alloc (.cells #[.string name,Z,bf] 25)).alloc Ka) w'/\P w'/\Cq 24 #[ev] w' (fun e cc=>e=.returned (Jjp c nd col pg)/\Bq w' cc)):
  Cq 8 #[Pq st,.agg #[.string name,Z,bf],.slice bA n3 c3,Iq g] w fun e w'=>e=.returned (Jjp c nd col pg)/\∃ bj,P bj/\Ju M1 ((w.alloc (.cells #[.string name,Z,bf] 25)).alloc Ka) bj/\Ju (fun k=>k=w.heap.size+1) bj w':=by
 subst bU bV;have bB:Bq w ((w.alloc (.cells #[.string name,.slice a1 U M,.slice a2 Y c2] 25)).alloc Ka):=((Oa5 _ w).alloc (Oa2 _) _).alloc zS _;have br:=Ja bB c1;have ci:st<w.heap.size:=Jm c1;have bz:¬ M1 w.heap.size:=fun h=>Oe3 _ (hM _ h);have cb:¬ M1 (w.heap.size+1):=fun h=>by have:=hM _ h;omega
 obtain⟨W,hW⟩:∃ W,W=(w.alloc (.cells #[.string name,.slice a1 U M,.slice a2 Y c2] 25)).alloc Ka:=⟨_,rfl⟩;have bE:W.cell? (Aq w.heap.size)=some (.string name):=by rw[hW,Oe5 _ _ _ zS];simp
 have bG:W.cell? (Ar w.heap.size 1)=some (.slice a1 U M):=by rw[hW,Oe5 _ _ _ zS];simp
 have bH:W.cell? (Ar w.heap.size 2)=some (.slice a2 Y c2):=by rw[hW,Oe5 _ _ _ zS];simp
 have bR:W.heap[w.heap.size+1]?=some (.cells #[iZ,iZ,iZ,iZ,iZ] 39 (0,0)):=by
  rw[hW];have:=heap_alloc_new (w.alloc (.cells #[.string name,.slice a1 U M,.slice a2 Y c2] 25)) Ka;rwa [Oa7]at this
 have cf:W.heap.size=w.heap.size+2:=by rw[hW];simp
 rw[<-hW]at bx bB br;clear hM;go_enter func8,ntmps8
 go_wp2_with fail
 rw[<-hW];have bK:=zh hW;clear hW;refine wp_region_held_drew (S:=fun X=>X.cell? (Ar st 1)=some (Pq s)/\X.cell? (Aq w.heap.size)=some (.string name)/\X.cell? (Ar w.heap.size 1)=some (.slice a1 U M)/\X.cell? (Ar w.heap.size 2)=some (.slice a2 Y c2)) zK ⟨br,bE,bG,bH⟩ (fun y=>?_);refine tkj 0 rfl y ?_;refine tkj 1 rfl y ?_;refine tkj 2 rfl y ?_;refine tkj 3 rfl y ?_;refine tkj 4 rfl y ?_;refine tkj 5 rfl y ?_;refine tkj 6 rfl y ?_;refine tkn ?_;refine tkr 7 rfl fun bh hK=>?_;go_simp;refine bx.mono ?_;rintro e bj ⟨ev,rfl,K,hp,bC⟩;have bJ:=zh hp;have bI:=zh bC;clear hp bC bx;go_simp;refine hK.out _ _ ⟨K.cell br bT,K.cell bE bz,K.cell bG bz,K.cell bH bz⟩ (fun y=>?_);clear hK bh;refine tkr 8 rfl fun bh hK=>?_;go_simp;refine bI.out.mono ?_;rintro e bk ⟨rfl,H⟩;go_simp;refine hK.out _ _ ⟨Ja H y.1,Ja H y.2.1,Ja H y.2.2.1,Ja H y.2.2.2⟩ (fun y=>?_);clear hK bh;have cj:=K.size;have I:bk.heap[w.heap.size+1]?=some (.cells #[iZ,iZ,iZ,iZ,iZ] 39 (0,0)):=
  (H.block _ zo).trans ((K.block _ zo cb).trans bR)
 have bW:=zc 0 I;have bX:=zc 1 I;have bY:=zc 2 I;have bZ:=zc 3 I;have ca:=zc 4 I;have O:∀ o:Nat,bk.frozen? ⟨w.heap.size+1,o,none⟩=false:=fun o=>by simp[World.frozen?,I]
 have bL:=O 0;have bM:=O 1;have bN:=O 2;have bO:=O 3;have bP:=O 4;have bD:=Jk (Jk (Jk (Jk (Jk I 0 (Iq c)) 1 (Iq nd)) 2 iM) 3 (Iq col)) 4 (Iq pg);simp only[Oa1,List.set_cons_zero,List.set_cons_succ]at bD;clear I O;refine tkr 9 rfl fun bh hK=>?_;go_simp;have bi:∀ (b o:Nat),b≠w.heap.size+1->(((((bk.setCell (Aq (w.heap.size+1)) (Iq c)).setCell (Ar (w.heap.size+1) 1) (Iq nd)).setCell (Ar (w.heap.size+1) 2) iM).setCell (Ar (w.heap.size+1) 3) (Iq col)).setCell (Ar (w.heap.size+1) 4) (Iq pg)).cell? (Ar b o)=bk.cell? (Ar b o):=fun b o hb=>by
  simp only[World.cell?,Zh _ _ _ _ _ _ _ b hb]
 refine hK.out _ _ ⟨(bi _ _ zo).trans y.1,(bi _ _ zo).trans y.2.1,(bi _ _ zo).trans y.2.2.1,(bi _ _ zo).trans y.2.2.2⟩ (fun y=>?_);clear hK bh bi y bW bX bY bZ ca bL bM bN bO bP;refine wpAnyH_done zK ?_ _;go_wp2;refine bodyPost_ret (v:=Jjp c nd col pg) (by simp[results,results8,go_sem,Jjp,World.cell?,bD]) rfl ⟨rfl,bj,bJ.out,by rw[<-bK.out];exact K,?_⟩;exact⟨H.os,H.tape,H.output,by rw[Jg2];exact H.size,fun k bQ bS=>(Zh _ _ _ _ _ _ _ k bS).trans (H.block k bQ)⟩
structure Jax (w:World) (a0 a1 a2 tt q wr pg pl ex ta:Addr):Prop where
 e:Jf0 w a0 a1 a2
 m:Jkn w a0 a1 a2 tt q wr pg
 m2:Jhy w [a0,a1,a2,tt,q,wr,pg] pl ex
 c:w.cell? (Aq 0)=some (Ie 435 ta)
 b:∃ c t,w.heap[ta.block]?=some (.cells c t (0,0))
 n:ta∉[a0,a1,a2,tt,q,wr,pg,pl,ex]
 m3:∃ dv ov gv mn,Jig w [ex,pl,a0,a1,a2,tt,q,wr,pg] dv ov gv mn/\ta∉[dv,ov,gv,mn]
theorem Jax.below {w w' a0 a1 a2 y q wr pg pl ex ta}(h:Jax w a0 a1 a2 y q wr pg pl ex ta)(hb:Bq w w'):Jax w' a0 a1 a2 y q wr pg pl ex ta:=
 ⟨h.e.below hb,h.m.below hb,h.m2.below hb,Ja hb h.c,Kg hb h.b,h.n,by obtain⟨H,M,gv,mn,I,K⟩:=h.m3;exact⟨H,M,gv,mn,I.below hb,K⟩⟩
abbrev Ja0:Type:=Unit⊕(Unit⊕(Nat⊕((Bool×DS)⊕(DS×TS))))
abbrev Ja0.arg:Ja0:=.inl ()
abbrev Ja0.table:Ja0:=.inr (.inl ())
abbrev Ja0.dict (c:Nat):Ja0:=.inr (.inr (.inl c))
abbrev Ja0.disk (x:Bool)(D:DS):Ja0:=.inr (.inr (.inr (.inl (x,D))))
abbrev Ja0.ok (D:DS)(T:TS):Ja0:=.inr (.inr (.inr (.inr (D,T))))
def Ja0.fault:Ja0->Value
 |.inl _=>Jbz 1 (-1) (-1)
 |.inr (.inl _)=>Jbz 4 (-1) (-1)
 |.inr (.inr (.inl c))=>Jbz 2 (c:Int) (-1)
 |.inr (.inr (.inr (.inl x)))=>Jbz (if x.1 then 5 else 6) (-1) (-1)
 |.inr (.inr (.inr (.inr _)))=>Jbz 0 (-1) (-1)
def Ja0.d (D:DS):Ja0->DS
 |.inr (.inr (.inr (.inl x)))=>x.2
 |.inr (.inr (.inr (.inr x)))=>x.1
 |_=>D
def Ja0.ts (Ts:List TS):Ja0->List TS
 |.inr (.inr (.inr (.inr x)))=>Ts++[x.2]
 |_=>Ts
def Khs (name:ByteArray)(ts hs:List Int)(rs:List (List V))(g:Int):Decidable (Jel name ts rs/\Je3 ts hs/\1<=g/\g<=64):=by
 unfold Jel Je3;infer_instance
def Jbd (D:DS)(Ts:List TS)(name:ByteArray)(ts hs:List Int)(rs:List (List V))(g:Int):Ja0:=
 @ite _ (Jel name ts rs/\Je3 ts hs/\1<=g/\g<=64) (Khs name ts hs rs g)
  (if Ub Ts name<Ts.length\/6<=Ts.length then .table
  else match Jfg rs ts hs (cks rs.length g.toNat (ckN rs.length g.toNat))with
   |.inr c=>.dict c
   |.inl T=>match (Jq D T).2.2 with
    |some x=>.disk x (Jcg (Jq D T).1 (Jq D T).2.1)
    |none=>.ok (Jq D T).1 ⟨name,ts,rs.length,g.toNat,(Jq D T).2.1⟩)
  .arg
theorem Jn8 {I M1 w W K w' j}(hb:Bq w W)(y:Ju M1 W K)(H:Ju (fun k=>k=j) K w')(Y:w.heap.size<=j)(M:∀ k,M1 k->I k):Ju I w w':=by
 have z1:=hb.size;have z2:=y.size;have Z:=H.size;refine⟨(H.os.trans y.os).trans hb.os,(H.tape.trans y.tape).trans hb.tape,(H.output.trans y.output).trans hb.output,zo,fun k O U=>?_⟩;exact(H.block k zo zo).trans ((y.block k zo fun h=>U (M k h)).trans (hb.block k O))
def Jy0 (y:Nat->Prop)(w:World)(st:Nat)(D:DS)(Ts:List TS)(r:Ja0)(e:Ending)(w':World):Prop:=
 e=.returned r.fault/\Ju y w w'/\∃ H:Nat->Prop,Sto H w' st (r.d D) (r.ts Ts)/\(∀ k,y k->H k)/\(∀ k,H k->y k\/w.heap.size<=k)
theorem Kyv {H w W M w' st D Ts}(h:Sto H w st D Ts)(hb:Bq w W)(I:Bq W M)(K:Ju (fun k=>k=w.heap.size+1) M w')(r:Ja0)(O:r.d D=D)(ht:r.ts Ts=Ts)e(U:e=.returned r.fault):Jy0 H w st D Ts r e w':=by
 have z1:=hb.size;have z2:=I.size;have Y:=K.size;refine⟨U,Jn8 hb (Ju.of_below (F:=fun _=>False) I) K zo (fun _ h=>h.elim),H,?_,fun k y=>y,fun k y=>.inl y⟩;rw[O,ht];refine h.stands zo fun k y=>?_;have:=h.lt k y;exact(K.block k zo zo).trans ((I.block k zo).trans (hb.block k this))
theorem Jyt K st D Ts name at_ ar bf ct cr ch ts hs xs rs g w(h:Sto K w st D Ts)(cc:Kct w name at_ ar bf cr ts hs xs rs)(cf:∀ b o,at_=some (Ar b o)->¬ K b)(cL:D.pages.length<=800000)a0 a1 a2 cU q wr pg pl ex ta w0(bB:Jax w0 a0 a1 a2 cU q wr pg pl ex ta)(cF:Bq w0 w)(bQ:∀ k,K k->w0.heap.size<=k)(cC:∀ x∈hs,Qaq x)(I:∃ E T,Jbd D Ts name ts hs rs g=.ok E T):
  Cq 8 #[Pq st,Jvc name at_ ar ct cr ts rs,.slice bf hs.length ch,Iq g] w fun e w'=>Jy0 K w st D Ts (Jbd D Ts name ts hs rs g) e w':=by
 have cW:=h;have bR:=bB.below cF;have cz:¬ K 5:=fun bI=>by have bh:=bQ _ bI;have bi:=Jm bB.m.cq;simp only at bi;omega
 have cA:¬ K 6:=fun bI=>by have bh:=bQ _ bI;have bi:=Jm bB.m.cw;simp only at bi;omega
 obtain⟨⟨d,s,F,G,sv,bs,bh,bi,bX,bY,bZ,ca,bO,cb,bP,bN,hM⟩,U⟩:=h;obtain⟨W,hW⟩:∃ W,W=(w.alloc (Jln name at_ ar ct cr ts rs)).alloc Ka:=⟨_,rfl⟩;have M:Bq w W:=by rw[hW];exact((Oa5 _ w).alloc (Oa2 _) _).alloc zS _
 have bj:Bq w W.drew:=⟨M.os,M.tape,M.output,M.size,M.block⟩;have bS:W.heap.size=w.heap.size+2:=by rw[hW];simp
 have bC:=bR.below bj;have ci:=cc.below bj;obtain⟨cY,cZ,n3,da,db,dc,dd⟩:=Jim bR.m;have bM:=fun (M1:Nat->Prop) (bx:∀ k,M1 k->k<w.heap.size) (cM:¬ M1 st) (c nd col cT:Int) (P:World->Prop) br=>Ju9 st s name (.slice at_ ts.length ct) (.slice ar rs.length cr) at_ ar bf ts.length ct rs.length cr hs.length ch rfl rfl g w M1 bx cM bh.field.2 c nd col cT P br;have cB:(w.alloc (.cells #[.string name,.slice at_ ts.length ct,.slice ar rs.length cr] 25)).alloc Ka=W:=hW.symm;rw[cB]at bM;obtain⟨O,Z,T,hp,bk⟩:(Jel name ts rs/\Je3 ts hs/\1<=g/\g<=64)/\¬ (Ub Ts name<Ts.length\/6<=Ts.length)/\∃ T,Jfg rs ts hs (cks rs.length g.toNat (ckN rs.length g.toNat))=.inl T/\(Jq D T).2.2=none:=by
  obtain⟨E,cV,I⟩:=I;unfold Jbd at I;by_cases O:Jel name ts rs/\Je3 ts hs/\1<=g/\g<=64
  ·rw[if_pos O]at I;by_cases Z:Ub Ts name<Ts.length\/6<=Ts.length
   ·rw[if_pos Z]at I;cases I
   rw[if_neg Z]at I;rcases hp:Jfg rs ts hs (cks rs.length g.toNat (ckN rs.length g.toNat))with T|c
   ·rw[hp]at I;cases bk:(Jq D T).2.2 with
    |some x=>
     simp only[bk]at I;cases I
    |none=>exact⟨O,Z,T,rfl,bk⟩
   rw[hp]at I;cases I
  rw[if_neg O]at I;cases I
 have cH:((g.toNat:Nat):Int)=g:=zo;have cI:Jqy W.drew s d F G D Ts sv bs name at_ ar bf cr ts hs xs rs g.toNat:=
  ⟨ci,O.1,O.2.1,zo,zo,bi.below bj,fun y=>Z (.inl y),zo,bX.below bj,fun k H=>Oc2 (U k (hM k (H.elim .inl fun a=>.inr (.inl a)))) bj.size,bY,bZ,ca,fun b o hb y=>cf b o hb (hM b (.inl y)),cL,cC⟩
 have cx:=bC.m.cq;have cy:=bC.m.cw;have cn:¬ F 5:=fun y=>cz (hM _ (.inl y));have cu:¬ F 6:=fun y=>cA (hM _ (.inl y));have hr:Jbd D Ts name ts hs rs g=.ok (Jq D T).1 ⟨name,ts,rs.length,g.toNat,(Jq D T).2.1⟩:=by unfold Jbd;rw[if_pos O,if_neg Z,hp];simp only;rw[bk]
 rw[hr];have br:=Ked s d F G D Ts sv bs name at_ ar bf ct cr ch ts hs xs rs g.toNat W.drew cI a0 a1 a2 bC.e T hp q wr cx cy cn cu bk;rw[cH]at br;have cX:=M.size;have bx:∀ k,F k\/Jnr s sv k->K k:=fun k H=>H.elim (fun a=>hM k (.inl a)) fun a=>hM k (.inr (.inr (.inl a)));have bW:¬ (F st\/Jnr s sv st):=fun h=>h.elim bO fun a=>a.elim bP bN;refine(bM (fun k=>F k\/Jnr s sv k) (fun k H=>U k (bx k H)) bW 0 (-1) (-1) (-1) (fun bz=>Jdl W.drew s d F G D Ts sv bs name ts rs g.toNat T bz) (br.mono fun e bz ⟨bD,H⟩=>⟨_,bD,⟨H.1.os,H.1.tape,H.1.output,H.1.size,H.1.block⟩,H,Jjq bz⟩)).mono fun e w' ⟨bD,bz,⟨_,FD,bA,sv',tb,cG,bV,bE,bH,bU,cE,cK,cP,bL⟩,H,Y⟩=>⟨bD,Jn8 M H Y zo bx,fun k=>K k\/FD k\/bA k\/Jnr s sv' k,?_,fun k H=>.inl H,?_⟩
 ·have bT:Ju (fun k=>F k\/Jnr s sv k) w w':=Jn8 M H Y zo (fun _ h=>h);have cN:st<w.heap.size:=U st (hM st (.inr (.inr (.inr rfl))));have cv:∀ k,G k->k<w.heap.size:=fun k bG=>U k (hM k (.inr (.inl bG)));have bK:∀ k,Jnr s sv k->k<w.heap.size:=fun k bJ=>U k (hM k (.inr (.inr (.inl bJ))));have cj:∀ k,F k->k<w.heap.size:=fun k y=>U k (hM k (.inl y));have cD:W.drew.heap.size=w.heap.size+2:=bS;have cQ:∀ k,FD k->k≠w.heap.size+1:=fun k y e=>by
   rcases bE k y with a|a
   ·have:=cj k a;omega
   omega
  have cR:∀ k,bA k->k≠w.heap.size+1:=fun k y e=>by
   rcases bH k y with a|a
   ·have:=cv k a;omega
   omega
  have cS:∀ k,Jnr s sv' k->k≠w.heap.size+1:=fun k bJ e=>by
   rcases bJ with a|a
   ·have:=bK s (.inl rfl);omega
   rcases bL k a with b|b
   ·have:=bK k (.inr b);omega
   omega
  refine⟨⟨d,s,FD,bA,sv',bs++[tb],?_,bV.stands Y.size fun k cJ hl=>Y.block k hl (cJ.elim (cR k) (cS k)),cG.stands fun k y hl=>Y.block k hl (cQ k y),cE,cK,cP,fun y=>?_,fun bG=>?_,bP,fun cO=>?_,?_⟩,?_⟩
  ·unfold Jdu at bh |-;rw[bT.block st cN bW];exact bh
  ·rcases bE st y with a|a
   ·exact bO a
   omega
  ·rcases bH st bG with a|a
   ·exact cb a
   omega
  ·rcases bL st cO with a|a
   ·exact bN a
   omega
  ·rintro k (a|a|a|a)
   ·exact .inr (.inl a)
   ·exact .inr (.inr (.inl a))
   ·exact .inr (.inr (.inr a))
   exact .inl (hM k (.inr (.inr (.inr a))))
  have de:=Y.size;have df:=bT.size;rintro k (a|a|a|a)
  ·have:=U k a;omega
  ·have:=bU k (.inl a);omega
  ·have:=bU k (.inr a);omega
  rcases a with a|a
  ·have:=bK s (.inl rfl);omega
  have:=Qk bV.own a;omega
 have cD:W.drew.heap.size=w.heap.size+2:=bS;rintro k (a|a|a|a)
 ·exact .inl a
 ·rcases bE k a with b|b
  ·exact .inl (hM k (.inl b))
  exact .inr zo
 ·rcases bH k a with b|b
  ·exact .inl (hM k (.inr (.inl b)))
  exact .inr zo
 rcases a with a|a
 ·exact .inl (hM k (.inr (.inr (.inl (.inl a)))))
 rcases bL k a with b|b
 ·exact .inl (hM k (.inr (.inr (.inl (.inr b)))))
 exact .inr zo
theorem Kvj y st D Ts w(h:Sto y w st D Ts):
  Cq 12 #[Pq st] w fun e w'=>e=.returned (Iq ((Js D.pages:Nat):Int))/\w'=w:=by
 obtain⟨⟨d,s,F,G,sv,bs,H,M,I,O,U,Y,Z,bf,bh,K,hM⟩,bi⟩:=h;exact Qbn st w F s d D H I
theorem Kcc I st D Ts n w(h:Sto I w st D Ts)(U:∀ T∈Ts,Jid D T)a0 a1 a2 H q wr pg pl ex ta(y:Jax w a0 a1 a2 H q wr pg pl ex ta):
  Cq 17 #[Pq st,.string n] w fun e w'=>Jr7 w (Jf8 D Ts n) e w':=by
 obtain⟨⟨d,s,F,G,sv,bs,K,M,O,Z,bf,bh,bi,bj,bk,Y,hM⟩,br⟩:=h;exact Kej st n w F G s d D Ts sv bs K M O U a0 a1 a2 H q wr pg y.e y.m
theorem Kz2 I st D Ts n w(h:Sto I w st D Ts)(U:∀ T∈Ts,Jid D T)a0 a1 a2 H q wr pg pl ex ta(y:Jax w a0 a1 a2 H q wr pg pl ex ta){x}(Y:Jf8 D Ts n=some (.inl x)):
  Cq 17 #[Pq st,.string n] w fun e w'=>Jr7 w (Jf8 D Ts n) e w':=by
 obtain⟨⟨d,s,F,G,sv,bs,K,M,O,bf,bh,bi,bj,bk,br,Z,hM⟩,bx⟩:=h;exact Kzz st n w F G s d D Ts sv bs K M O U a0 a1 a2 H q wr pg y.e y.m Y
theorem Qb6 M st D Ts page at_ y w(h:Sto M w st D Ts)(K:Kum D page at_ y=false):
  Cq 11 #[Pq st,Iq page,Iq at_,Iq y] w fun e w'=>e=.returned (.bool false)/\w'=w:=by
 obtain⟨⟨d,s,F,G,sv,bs,H,O,I,U,bj,Y,bk,br,bx,bi,hM⟩,Z⟩:=h;obtain⟨c0,_⟩:=H.field;have bf:=Kz6 d page at_ y w F D I K;clear H O I K hM Z U Y;go_enter func11,ntmps11
 go_wp2_with (go_at_call 26;refine bf.mono ?_;rintro e bh ⟨rfl,rfl⟩)
 go_ret
 exact⟨rfl,rfl⟩
theorem Qax H(st:Nat)D Ts(pg at_ n:Nat)w(h:Sto H w st D Ts)p(hp:D.pages[pg]?=some (some p))(bB:at_<64)(bE:1<=n)(bC:n<=255):
  Cq 11 #[Pq st,Iq (pg:Int),Iq (at_:Int),Iq (n:Int)] w fun e w'=>e=.returned (.bool true)/\Ju H w w'/\Sto H w' st ⟨D.quota,D.fail,D.writes,D.lowest,D.pages.set pg (some (Kta p at_ n))⟩ Ts:=by
 obtain⟨⟨d,s,F,G,sv,bs,I,Z,bf,K,bh,M,bi,bz,bA,bx,hM⟩,Y⟩:=h;obtain⟨c0,_⟩:=I.field;have bD:=Ky0 d pg at_ n w F D bf p hp bB bE bC;have bk:Hid (∀ w',Zb w' F d ⟨D.quota,D.fail,D.writes,D.lowest,D.pages.set pg (some (Kta p at_ n))⟩->Ju F w w'->Ju H w w'/\Sto H w' st ⟨D.quota,D.fail,D.writes,D.lowest,D.pages.set pg (some (Kta p at_ n))⟩ Ts):=fun w' O y=>by
  have bj:=y.size;have bG:st<w.heap.size:=Y st (hM st (.inr (.inr (.inr rfl))));refine⟨y.mono fun k _ h=>hM k (.inl h),⟨d,s,F,G,sv,bs,?_,Z.stands bj fun k U hl=>y.block k hl (U.elim (K k) fun a=>a.elim (fun b=>by rw[b];exact bh) fun b=>M k b),O,K,bh,M,bi,bz,bA,bx,hM⟩,fun k U=>Oc2 (Y k U) bj⟩;unfold Jdu at I |-;rw[y.block st bG bi];exact I
 clear I Z bf hM Y K M hp;go_enter func11,ntmps11
 go_wp2_with (go_at_call 26;refine bD.mono ?_;rintro e br ⟨rfl,O,y⟩)
 go_ret
 exact⟨rfl,bk.out br O y⟩
end
section
open Go.RowKit Go.Shelf
attribute [local go_sem] Oc0
theorem Jj {B a w}(h:Below B a w):Below B a w.drew:=⟨h.os,h.tape,h.output,h.size,h.block⟩
theorem Jh {w:World}{a:Addr}{v:Value}(h:w.cell? a=some v):w.drew.cell? a=some v:=h
theorem Jcz {w:World}{B:Nat}{e:TypeId}{z:Nat}{sv:Value}{n:Nat}{xs:List Value}(h:w.ownsRow B e z sv n xs):∃ a c,sv=.slice a n c:=by
 rcases h with⟨_,⟨y,H⟩|⟨g,cap,_,y,_⟩⟩
 ·exact⟨none,0,by rw[y,H]⟩
 exact⟨_,_,y⟩
theorem Kt0 X fa i v:Ju (fun k=>k=fa) X (X.setCell (Ar fa i) v):=(Ju.refl (fun k=>k=fa) X).set (b:=fa) rfl i v
theorem Kzv X fa y H I K M:Ju (fun k=>k=fa) X (((((X.setCell (Aq fa) y).setCell (Ar fa 1) H).setCell (Ar fa 2) I).setCell (Ar fa 3) K).setCell (Ar fa 4) M):=
 ((((Kt0 X fa 0 y).trans (Kt0 _ fa 1 H)).trans (Kt0 _ fa 2 I)).trans (Kt0 _ fa 3 K)).trans (Kt0 _ fa 4 M)
end
open Go.RowKit Go.Shelf Tryz
attribute [local go_sem] Oc0
abbrev Jbg (n:Int):V:=⟨1,n,⟨#[]⟩⟩
def Kae (b:Bool):Int:=if b then 1 else 0
abbrev Yi (b:Bool):V:=⟨2,Kae b,⟨#[]⟩⟩
structure Jdo (w:World) (dv ov:Addr):Prop where
 d:w.cell? (Aq 10)=some (Ie 435 dv)
 o:w.cell? (Aq 11)=some (Ie 435 ov)
def Jdb (y H:Addr)(e:Nat):Value:=if e=0 then .nilIface else if e=9 then (Ie 435 y)else (Ie 435 H)
abbrev Jak (w:World)(v:V):World:=w.alloc (.cells #[Iq v.k,Iq v.n,.string v.s] 65)
def Jd0 (n:Int):Bool:=decide (-9223372036854775808<=n)&&decide (n<=9223372036854775807)
def Jik (a b:V):V×Nat:=if Jd0 (a.n+b.n)then (Jbg (a.n+b.n),0)else (Jf,10)
def Jiw (a b:V):V×Nat:=if Jd0 (a.n-b.n)then (Jbg (a.n-b.n),0)else (Jf,10)
def Jkj (a b:V):V×Nat:=if Jd0 (a.n*b.n)then (Jbg (a.n*b.n),0)else (Jf,10)
def Jg4 (a b:V):V×Nat:=if b.n=0 then (Jf,9)else if Jd0 (a.n.tdiv b.n)then (Jbg (a.n.tdiv b.n),0)else (Jf,10)
theorem zaj {p:Prop}(h:p:=by
 go_enter func277,ntmps277
 go_wp2_with (go_at_call 292;refine(H _ _).mono ?_;rintro e I ⟨rfl,rfl⟩)
 go_ret
 exact⟨rfl,rfl⟩):p:=h
theorem Jk7 x y w:Cq 277 #[Iq x,Iq y] w fun e w'=>e=.returned (Iq (if x<y then -1 else if y<x then 1 else 0))/\w'=w:=by
 have H:∀ (z:Int) (W:World),Cq 292 #[Iq z] W fun e w'=>e=.returned (.bool false)/\w'=W:=fun z W=>by
  have Y:(z != z)=false:=zS;go_enter func292,ntmps292
  go_wp2;go_ret
  exact⟨rfl,rfl⟩
 by_cases K:x<y
 ·rw[if_pos K];exact zaj
 rw[if_neg K];have O:y<=x:=zo;by_cases M:y<x
 ·rw[if_pos M];exact zaj
 rw[if_neg M];have U:x<=y:=zo;exact zaj
theorem Jlb a b w:Cq 278 #[.string a,.string b] w fun e w'=>e=.returned (Iq (Lib.compareBytes a.data.toList b.data.toList))/\w'=w:=by
 have y:∀ W,Cq 293 #[.string a,.string b] W fun e w'=>e=.returned (Iq (Lib.compareBytes a.data.toList b.data.toList))/\w'=W:=fun W=>by
  go_enter func293,ntmps293
  go_wp2;rw[run_callFunc_extern func297 zK zK zK (e:=Extern.BytealgCompare.compare) zK,Lib.run_compareString];simp only[Result.andThen];rw[Oper.upon_value];go_wp2;go_ret
  exact⟨rfl,rfl⟩
 go_enter func278,ntmps278
 go_wp2_with (go_at_call 293;refine(y _).mono ?_;rintro e H ⟨rfl,rfl⟩)
 go_ret
 exact⟨rfl,rfl⟩
theorem Jzv g x H w(h0:w.cell? (Aq g)=some (Iq x))(O:w.cell? (Ar g 1)=some (Iq H)):Cq 276 #[Sq g 2 2] w fun e w'=>e=.returned (Iq (if x=0 then H else x))/\w'=w:=by
 go_enter func276,ntmps276
 go_wp2;go_loopw [8] (fun i wr=>wr=w/\(i=iZ\/(i=Iq 1/\x=0)\/(i=Iq 2/\x=0/\H=0))) (fun i _=>2-(intOf i).toNat)
 case atStart=>exact⟨rfl,.inl rfl⟩
 case round=>
  obtain⟨rfl,(rfl|⟨rfl,y⟩|⟨rfl,y,hy⟩)⟩:=hrel
  ·by_cases y:x=0
   ·have K:(x != 0)=false:=(by simp[y]);have I:=zh y;clear y;go_wp2;go_roundw
    case rel=>exact⟨by trivial,.inr (.inl ⟨rfl,I.out⟩)⟩
    case measure=>simp[intOf]
   have K:(x != 0)=true:=(by simp[y]);go_wp2;go_ret
   exact⟨by first|rfl|rw[if_neg y],rfl⟩
  ·by_cases hy:H=0
   ·have M:(H != 0)=false:=(by simp[hy]);have I:Hid (x=0/\H=0):=⟨y,hy⟩;clear y hy;go_wp2;go_roundw
    case rel=>exact⟨by trivial,.inr (.inr ⟨rfl,I.out.1,I.out.2⟩)⟩
    case measure=>simp[intOf]
   have M:(H != 0)=true:=(by simp[hy]);go_wp2;go_ret
   exact⟨by first|rfl|rw[if_pos y],rfl⟩
  go_wp2;go_ret
  exact⟨by first|rfl|rw[if_pos y,hy],rfl⟩
