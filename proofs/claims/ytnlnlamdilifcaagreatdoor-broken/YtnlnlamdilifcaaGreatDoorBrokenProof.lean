/- The law Broken answers true, for every four arguments, and what is handed in reads as it did; the named errors being what their initialisers lay. -/
import Derived.Test.YtnlnlamdilifcaaGreatDoorCards
import Derived.Test.YtnlnlamdilifcaaGreatDoorTie
import Derived.Test.YtnlnlamdilifcaaGreatDoorUb
import Derived.Deep.DeepHandedRow
set_option maxRecDepth 100000
namespace Go.Proofs.YtnlnlamdilifcaaGreatDoor
namespace broken
open Go.ChangeShapes Go.WideShapes Go.ChangeAt Go.RowKit
theorem own:ownKnob Tryz.prog.godebug=none:=by kernel_rfl
theorem laidOut:laidOutB Tryz.prog=true:=by kernel_rfl
theorem trodAll_four {H}{enc:TypeId×Value->H}{P w base spare held t0 t1 t2 t3 args}{ds:List (DataW H)}{ps:List MemPlace}(h:DataW.TrodAll enc P w base spare held [t0,t1,t2,t3] args.toList ds ps):
  ∃ v0 v1 v2 v3 d0 d1 d2 d3 p0 p1 p2 p3,args=#[v0,v1,v2,v3]/\ds=[d0,d1,d2,d3]/\ps=p0++p1++p2++p3/\DataW.Trod enc P w base spare held t0 v0 d0 p0/\DataW.Trod enc P w base spare held t1 v1 d1 p1/\DataW.Trod enc P w base spare held t2 v2 d2 p2/\DataW.Trod enc P w base spare held t3 v3 d3 p3:=by
 obtain⟨v0,vs0,d0,ds0,p0,q0,hargs,rfl,rfl,h0,r0⟩:=trodAll_cons h;obtain⟨v1,vs1,d1,ds1,p1,q1,rfl,rfl,rfl,h1,r1⟩:=trodAll_cons r0;obtain⟨v2,vs2,d2,ds2,p2,q2,rfl,rfl,rfl,h2,r2⟩:=trodAll_cons r1;obtain⟨v3,vs3,d3,ds3,p3,q3,rfl,rfl,rfl,h3,r3⟩:=trodAll_cons r2;obtain⟨rfl,rfl,rfl⟩:=trodAll_nil r3;exact⟨v0,v1,v2,v3,d0,d1,d2,d3,p0,p1,p2,p3,by cases args;simp_all,rfl,by simp,h0,h1,h2,h3⟩
theorem trodAll_mk4 {H}{enc:TypeId×Value->H}{P w base spare held t0 t1 t2 t3 v0 v1 v2 v3}{d0 d1 d2 d3:DataW H}{p0 p1 p2 p3:List MemPlace}(h0:DataW.Trod enc P w base spare held t0 v0 d0 p0)(h1:DataW.Trod enc P w base spare held t1 v1 d1 p1)(h2:DataW.Trod enc P w base spare held t2 v2 d2 p2)(h3:DataW.Trod enc P w base spare held t3 v3 d3 p3):
  DataW.TrodAll enc P w base spare held [t0,t1,t2,t3] [v0,v1,v2,v3] [d0,d1,d2,d3] (p0++(p1++(p2++p3))):=
 ⟨p0,_,h0,trodAll_mk3 h1 h2 h3,rfl⟩
theorem contract H(enc:TypeId×Value->H)W base args(ds gs:List (DataW H))(before:List MemPlace)(hval:∀ (j:Nat) t v,Tryz.f3.params[j]?=some t->args[j]?=some v->Value.okWide Tryz.prog W .any base t v)(hW:DataW.Whole enc Tryz.prog Tryz.f3.params.toList Rows.brokenSpec.vars false W args.toList ds gs before)(hL:laidMetH Tryz.prog Rows.brokenRow.laid W):
  Calls Tryz.prog 3 args W fun e W'=>∃ v,e=.returned v/\Rows.brokenSpec.post enc Tryz.prog Tryz.f3 false true false false W args v W':=by
 have hW':=hW;obtain⟨p,q,hA0,hV,rfl,hfz,hnd⟩:=hW;have hA:DataW.TrodAll enc Tryz.prog W 0 (fun _=>true) true Tryz.f3.params.toList args.toList ds p:=hA0;rw[Tryz.params3]at hA hval;obtain⟨v0,v1,v2,v3,d0,d1,d2,d3,p0,p1,p2,p3,rfl,rfl,rfl,h0,h1,h2,h3⟩:=trodAll_four hA;obtain⟨rfl,rfl⟩:=trodVars_none hV;have h0k:=h0;have h1k:=h1;have h2k:=h2;have h3k:=h3;obtain⟨fuel0,hf0⟩:=h0;obtain⟨fuel1,hf1⟩:=h1;obtain⟨fuel2,hf2⟩:=h2;obtain⟨fuel3,hf3⟩:=h3;clear hA0;obtain⟨a1',l1',c1',rfl⟩:=okWide_slice Tryz.underlying26 (hval 1 26 v1 rfl rfl);obtain⟨sa,sc,ss,hcs1,hsp,hsl⟩:=openSpoils hf1;simp[Value.cells]at hcs1;obtain⟨rfl,rfl,rfl⟩:=hcs1;obtain⟨a2',l2',c2',rfl⟩:=okWide_slice Tryz.underlying22 (hval 2 22 v2 rfl rfl);obtain⟨aw,cw,ws,hcs2,hw,hwi,_⟩:=openInts hf2;simp[Value.cells]at hcs2;obtain⟨rfl,rfl,rfl⟩:=hcs2;obtain⟨cs,rfl,hsz⟩:=okWide_struct Tryz.underlying25 (hval 0 25 v0 rfl rfl);obtain⟨rn,at_,ct,ar,cr,ns,xs,raws,hcs0,hx,hn,hy,hin⟩:=openTable hf0;obtain⟨lc⟩:=cs;simp[Value.cells]at hcs0;subst hcs0;obtain⟨cs3,rfl,hsz3⟩:=okWide_struct Tryz.underlying28 (hval 3 28 v3 rfl rfl);obtain⟨o0,o1,o2,o3,hcs3,g0,g1,g2,g3⟩:=openOptions hf3;obtain⟨lc3⟩:=cs3;simp[Value.cells]at hcs3;subst hcs3;obtain⟨hL1,hL2⟩:=laidMetH_iff.1 hL;obtain⟨a0,a1,a2,tt,qa,wr,pg,pl,ex,ta,he,hm,hm2,hc,hb,hni,hm3⟩:=errs_of_laid10 hL1 hL2 (List.mem_filter.2 ⟨List.mem_cons_self,rfl⟩);simp only[List.append_nil]at hW';have hlt0:∀ x∈p0,x.block<W.heap.size:=fun x hx=>hW'.lt x (by simp[hx]);have hlt1:∀ x∈p1,x.block<W.heap.size:=fun x hx=>hW'.lt x (by simp[hx]);have hlt2:∀ x∈p2,x.block<W.heap.size:=fun x hx=>hW'.lt x (by simp[hx]);have hlt3:∀ x∈p3,x.block<W.heap.size:=fun x hx=>hW'.lt x (by simp[hx]);refine(broken_any rn at_ ar ct cr ns xs raws _ _ _ _ ss ws o0 o1 o2 o3 W hn (fun r hr=>(hin r hr).1) (fun r hr=>(hin r hr).2) hx hy hsp hsl hw hwi ⟨g0,g1,g2,g3⟩ a0 a1 a2 tt qa wr pg pl ex ta ⟨he,hm,hm2,hc,hb,hni,hm3⟩).mono fun e W' ⟨he,hb⟩=>?_;subst he;exact⟨_,rfl,⟨_,_,_,[],_,[],hW',trodAll_mk1 (shut_bool Tryz.underlying4 true),trodAll_mk4 (Below.trod laidOut (by kernel_rfl) (of_decide_eq_true (by kernel_rfl)) h0k hb hlt0) (Below.trod laidOut (by kernel_rfl) (of_decide_eq_true (by kernel_rfl)) h1k hb hlt1) (Below.trod laidOut (by kernel_rfl) (of_decide_eq_true (by kernel_rfl)) h2k hb hlt2) (Below.trod laidOut (by kernel_rfl) (of_decide_eq_true (by kernel_rfl)) h3k hb hlt3),rfl,hb.frame _,fun h=>by cases h⟩⟩
theorem laid_met (os:Os):laidMetH Tryz.prog Rows.brokenRow.laid ((World.doorLaid Tryz.prog 400 os).forCall (fun _ _=>0) ⟨#[],#[.agg #[.string ⟨#[]⟩,.slice none 0 0,.slice none 0 0],.slice none 0 0,.slice none 0 0,.agg #[.int .i64 0,.int .i64 0,.int .i64 0,.int .i64 0]],[]⟩).memory:=
 laidMetH_of_parts3 (fuel:=8) (laidMet_of_run' 8 (by kernel_rfl) (by kernel_rfl)) (by kernel_rfl) (by kernel_rfl)
theorem reads (os:Os){H}(enc:TypeId×Value->H):∃ places,DataW.whole enc Tryz.prog ((World.doorLaid Tryz.prog 400 os).forCall (fun _ _=>0) ⟨#[],#[.agg #[.string ⟨#[]⟩,.slice none 0 0,.slice none 0 0],.slice none 0 0,.slice none 0 0,.agg #[.int .i64 0,.int .i64 0,.int .i64 0,.int .i64 0]],[]⟩).memory Tryz.f3.params.toList Rows.brokenSpec.vars false #[Value.agg #[.string ⟨#[]⟩,.slice none 0 0,.slice none 0 0],.slice none 0 0,.slice none 0 0,.agg #[.int .i64 0,.int .i64 0,.int .i64 0,.int .i64 0]].toList 8=some ([.agg [.lit (.string []),.nil,.nil],.nil,.nil,.agg [.lit (.int .i64 0),.lit (.int .i64 0),.lit (.int .i64 0),.lit (.int .i64 0)]],[],places):=
 ⟨[],by kernel_rfl⟩
theorem lifted (os:Os)(started:os.Started)H(enc:TypeId×Value->H)(F:Stop.Interp):
  ReturnsInHanded {} Tryz.checked os 3 .any ((OpenSpec.ofChange Rows.brokenSpec).preRow enc Tryz.prog Tryz.f3 Rows.brokenRow.domain false Rows.brokenRow.laid) (((OpenSpec.ofChange Rows.brokenSpec).at F).post enc Tryz.prog Tryz.f3 false true false false):=by
 obtain⟨places,hx⟩:=reads os enc;refine returnsInHanded_of_row (C:=Tryz.checked) (s:=OpenSpec.ofChange Rows.brokenSpec) own started (by kernel_rfl) Tryz.func3
  (witness_row_at (enc:=enc) (C:=Tryz.checked) false (World.doorLaid Tryz.prog 400 os) #[.agg #[.string ⟨#[]⟩,.slice none 0 0,.slice none 0 0],.slice none 0 0,.slice none 0 0,.agg #[.int .i64 0,.int .i64 0,.int .i64 0,.int .i64 0]] rfl (by kernel_rfl) (by kernel_rfl) (by kernel_rfl)
   (OpenSpec.preRow_of_cond 8 hx (by kernel_rfl) (fun k hk=>by cases hk) (by kernel_rfl) (laid_met os))) ?_
 intro W base args ds gs before hval hW _ _ _ hL _ _;exact contract H enc W base args ds gs before hval hW hL
section
set_option maxRecDepth 100000
theorem j1:(Rows.brokenRow.wf (OpenSpec.ofChange (OpenSpec.ofChange Rows.brokenSpec).bare)&&laidOutB Tryz.prog&&mapsRowed Tryz.prog)=true:=by kernel_rfl
theorem j2:(Tryz.f3.params.all (Tryz.prog.readableRec ·)&&namedTie Tryz.prog Rows.brokenRow.named (OpenSpec.ofChange Rows.brokenSpec).bare.vars)=true:=by kernel_rfl
theorem j4:(Rows.brokenRow.inPlace==Tryz.prog.inPlace 3)=true:=by kernel_rfl
theorem j5:(Rows.brokenRow.unfollowed==Tryz.prog.unfollowed 3)=true:=by kernel_rfl
theorem j6:(Rows.brokenRow.recurses==Tryz.prog.recurses 3)=true:=by kernel_rfl
theorem j7:(Rows.brokenRow.named==Tryz.prog.varsNamed 3)=true:=by kernel_rfl
theorem j11:Tryz.prog.stopsHeard=true:=by kernel_rfl
theorem j12:Tryz.prog.mayEnter=true:=by kernel_rfl
theorem j13:(Rows.brokenRow.lifted==Tryz.prog.liftsFinal)=true:=by kernel_rfl
theorem closed:joinedFacts Tryz.prog 3 Tryz.f3 (OpenSpec.ofChange Rows.brokenSpec).bare Rows.brokenRow=true:=
 joinedFacts_parts j1 j2 (by kernel_rfl) j4 j5 j6 j7 (by kernel_rfl) (by kernel_rfl) rfl j11 j12 j13 (by kernel_rfl) (by kernel_rfl) (by kernel_rfl) (by kernel_rfl)
end
theorem said:Rows.BrokenSaid:=
 OpenClaim.holds_of_cond 3 Tryz.f3 rfl rfl rfl rfl rfl rfl rfl ⟨rfl,rfl,rfl,rfl,rfl⟩ rfl rfl rfl rfl rfl (by kernel_rfl) Tryz.func3 closed
  (of_decide_eq_true (by kernel_rfl)) (by unfold Func.isWrapper;first|(rw[if_pos (by decide +kernel)];kernel_rfl)|(rw[if_neg (by decide +kernel)];exact⟨rfl,rfl⟩))
  (fun os started H enc _ F=>by rw[OpenClaim.pre_eq_preRow];exact lifted os started H enc F)
theorem plain (f : FuncId)(fn : Func)(hf : Tryz.pinned.checked.prog.funcNamed "colrun/colrunkeep.Broken" = some f)(hfn : Tryz.pinned.checked.prog.funcs[f]? = some fn):
  true=Tryz.pinned.checked.prog.looks []/\∀ (j:Nat) t,fn.params[j]?=some t->Tryz.pinned.checked.prog.wantsStandIn t=false:=by
 obtain rfl : f = 3 := Option.some.inj ((show Tryz.prog.funcNamed "colrun/colrunkeep.Broken" = some 3 by kernel_rfl).symm.trans hf) |>.symm
 obtain rfl:fn=Tryz.f3:=(Option.some.inj (Tryz.func3.symm.trans hfn)).symm;refine⟨by kernel_rfl,fun j t ht=>?_⟩;rw[Tryz.params3]at ht;match j,ht with
 |0,ht=>cases ht;exact(show Tryz.prog.wantsStandIn 25=false by kernel_rfl)
 |1,ht=>cases ht;exact(show Tryz.prog.wantsStandIn 26=false by kernel_rfl)
 |2,ht=>cases ht;exact(show Tryz.prog.wantsStandIn 22=false by kernel_rfl)
 |3,ht=>cases ht;exact(show Tryz.prog.wantsStandIn 28=false by kernel_rfl)
 |n+4,ht=>simp at ht
theorem card:Rows.BrokenCardSaid:=
 Claim7.holds_tied_plain_at .later [] _ _ _ _ said (fun _ h=>by cases h) (by kernel_rfl) (fun _ h=>by cases h) broken_row_tie rfl ⟨rfl,rfl⟩ (by kernel_rfl) rfl plain (by kernel_rfl)
end broken
section
theorem broken_card_holds:Rows.BrokenCardSaid:=broken.card
end
#print axioms Go.Proofs.YtnlnlamdilifcaaGreatDoor.broken_card_holds
end Go.Proofs.YtnlnlamdilifcaaGreatDoor
