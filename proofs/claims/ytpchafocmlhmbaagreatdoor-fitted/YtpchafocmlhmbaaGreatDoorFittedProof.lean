/- The law Fitted answers true, for every four arguments, and what is handed in reads as it did; the named errors being what their initialisers lay. -/
import Derived.Test.YtpchafocmlhmbaaGreatDoorCards
import Derived.Test.YtpchafocmlhmbaaGreatDoorTie
import Derived.Test.YtpchafocmlhmbaaGreatDoorFv
import Derived.Test.YtpchafocmlhmbaaGreatDoorLr
import Derived.ProofKit
import Derived.OpenShut
import Derived.Deep.DeepHandedRow
set_option maxRecDepth 100000
namespace Go.Proofs.YtpchafocmlhmbaaGreatDoor
namespace fitted
open Go.ChangeShapes Go.WideShapes Go.ChangeAt Go.RowKit
theorem own:ownKnob Tryz.prog.godebug=none:=by kernel_rfl
theorem laidOut:laidOutB Tryz.prog=true:=by kernel_rfl
theorem contract (H:Type)(enc:TypeId×Value→H)(W:World)(base:Nat)(args:Array Value)(ds gs:List (DataW H))(before:List MemPlace)
  (hval:∀ (j:Nat) t v,Tryz.f3.params[j]?=some t→args[j]?=some v→Value.okWide Tryz.prog W .any base t v)
  (hW:DataW.Whole enc Tryz.prog Tryz.f3.params.toList Rows.fittedSpec.vars false W args.toList ds gs before)
  (hL:laidMetH Tryz.prog Rows.fittedRow.laid W) :
  Calls Tryz.prog 3 args W fun e W'=>∃ v,e=.returned v∧Rows.fittedSpec.post enc Tryz.prog Tryz.f3 false true false false W args v W':=by
 have hW':=hW;obtain⟨p,q,hA0,hV,rfl,hfz,hnd⟩:=hW;have hA:DataW.TrodAll enc Tryz.prog W 0 (fun _=>true) true Tryz.f3.params.toList args.toList ds p:=hA0;rw[Tryz.params3]at hA hval;obtain⟨v0,v1,v2,v3,d0,d1,d2,d3,p0,p1,p2,p3,rfl,rfl,rfl,h0,h1,h2,h3⟩:=trodAll_four hA;obtain⟨rfl,rfl⟩:=trodVars_none hV;obtain⟨gc,rfl,rfl,rfl,gw2⟩:=open_int Tryz.underlying3 (hval 2 3 v2 rfl rfl) h2;have h0k:=h0;have h1k:=h1;have h3k:=h3;obtain⟨fuel0,hf0⟩:=h0;obtain⟨fuel1,hf1⟩:=h1;obtain⟨fuel3,hf3⟩:=h3;clear hA0;obtain⟨cs,rfl,hsz⟩:=okWide_struct Tryz.underlying25 (hval 0 25 v0 rfl rfl);obtain⟨rn,at_,ct,ar,cr,ns,xs,raws,hcs0,hx,hn,hy,hin⟩:=openTable hf0;obtain⟨lc⟩:=cs;simp[Value.cells]at hcs0;subst hcs0;obtain⟨cs1,rfl,hsz1⟩:=okWide_struct Tryz.underlying25 (hval 1 25 v1 rfl rfl);obtain⟨rn2,at2,ct2,ar2,cr2,ns2,xs2,raws2,hcs1,hx2,hn2,hy2,hin2⟩:=openTable hf1;obtain⟨lc1⟩:=cs1;simp[Value.cells]at hcs1;subst hcs1;obtain⟨cs3,rfl,hsz3⟩:=okWide_struct Tryz.underlying27 (hval 3 27 v3 rfl rfl);obtain⟨o0,o1,o2,o3,hcs3,g0,g1,g2,g3⟩:=openOptions hf3;obtain⟨lc3⟩:=cs3;simp[Value.cells]at hcs3;subst hcs3;obtain⟨hL1,hL2⟩:=laidMetH_iff.1 hL;obtain⟨a0,a1,a2,tt,qa,wr,pg,pl,ex,ta,he,hm,hm2,hc,hb,hni,hm3⟩:=errs_of_laid10 hL1 hL2 (List.mem_filter.2 ⟨List.mem_cons_self,rfl⟩);simp only[List.append_nil]at hW';have hlt0:∀ x∈p0,x.block<W.heap.size:=fun x hx=>hW'.lt x (by simp[hx]);have hlt1:∀ x∈p1,x.block<W.heap.size:=fun x hx=>hW'.lt x (by simp[hx]);have hlt3:∀ x∈p3,x.block<W.heap.size:=fun x hx=>hW'.lt x (by simp[hx]);refine(fitted_any rn rn2 at_ ar at2 ar2 ct cr ct2 cr2 ns ns2 xs xs2 raws raws2 gc o0 o1 o2 o3 W hn (fun r hr=>(hin r hr).1) (fun r hr=>(hin r hr).2) hx hy (fun r hr=>(hin2 r hr).1) (fun r hr=>(hin2 r hr).2) hy2 (wfIn gw2) g0 g1 g2 g3 a0 a1 a2 tt qa wr pg pl ex ta ⟨he,hm,hm2,hc,hb,hni,hm3⟩).mono fun e W' ⟨he,hb⟩=>?_;subst he;exact⟨_,rfl,⟨_,_,_,[],_,[],hW',trodAll_mk1 (shut_bool Tryz.underlying4 true),trodAll_mk4 (Below.trod laidOut (by kernel_rfl) (of_decide_eq_true (by kernel_rfl)) h0k hb hlt0) (Below.trod laidOut (by kernel_rfl) (of_decide_eq_true (by kernel_rfl)) h1k hb hlt1) (shut_int Tryz.underlying3 gw2) (Below.trod laidOut (by kernel_rfl) (of_decide_eq_true (by kernel_rfl)) h3k hb hlt3),rfl,hb.frame _,fun h=>by cases h⟩⟩
theorem laid_met (os:Os):laidMetH Tryz.prog Rows.fittedRow.laid ((World.doorLaid Tryz.prog 400 os).forCall (fun _ _=>0) ⟨#[],#[.agg #[.string ⟨#[]⟩,.slice none 0 0,.slice none 0 0],.agg #[.string ⟨#[]⟩,.slice none 0 0,.slice none 0 0],.int .i64 0,.agg #[.int .i64 0,.int .i64 0,.int .i64 0,.int .i64 0]],[]⟩).memory:=
 laidMetH_of_parts3 (fuel:=8) (laidMet_of_run' 8 (by kernel_rfl) (by kernel_rfl)) (by kernel_rfl) (by kernel_rfl)
theorem reads (os:Os){H:Type}(enc:TypeId×Value→H):∃ places,DataW.whole enc Tryz.prog ((World.doorLaid Tryz.prog 400 os).forCall (fun _ _=>0) ⟨#[],#[.agg #[.string ⟨#[]⟩,.slice none 0 0,.slice none 0 0],.agg #[.string ⟨#[]⟩,.slice none 0 0,.slice none 0 0],.int .i64 0,.agg #[.int .i64 0,.int .i64 0,.int .i64 0,.int .i64 0]],[]⟩).memory Tryz.f3.params.toList Rows.fittedSpec.vars false #[Value.agg #[.string ⟨#[]⟩,.slice none 0 0,.slice none 0 0],.agg #[.string ⟨#[]⟩,.slice none 0 0,.slice none 0 0],.int .i64 0,.agg #[.int .i64 0,.int .i64 0,.int .i64 0,.int .i64 0]].toList 8=some ([.agg [.lit (.string []),.nil,.nil],.agg [.lit (.string []),.nil,.nil],.lit (.int .i64 0),.agg [.lit (.int .i64 0),.lit (.int .i64 0),.lit (.int .i64 0),.lit (.int .i64 0)]],[],places):=
 ⟨[],by kernel_rfl⟩
theorem lifted (os:Os)(started:os.Started)(H:Type)(enc:TypeId×Value→H)(F:Stop.Interp) :
  ReturnsInHanded {} Tryz.checked os 3 .any ((OpenSpec.ofChange Rows.fittedSpec).preRow enc Tryz.prog Tryz.f3 Rows.fittedRow.domain false Rows.fittedRow.laid) (((OpenSpec.ofChange Rows.fittedSpec).at F).post enc Tryz.prog Tryz.f3 false true false false):=by
 obtain⟨places,hx⟩:=reads os enc;refine returnsInHanded_of_row (C:=Tryz.checked) (s:=OpenSpec.ofChange Rows.fittedSpec) own started (by kernel_rfl) Tryz.func3
  (witness_row_at (enc:=enc) (C:=Tryz.checked) false (World.doorLaid Tryz.prog 400 os) #[.agg #[.string ⟨#[]⟩,.slice none 0 0,.slice none 0 0],.agg #[.string ⟨#[]⟩,.slice none 0 0,.slice none 0 0],.int .i64 0,.agg #[.int .i64 0,.int .i64 0,.int .i64 0,.int .i64 0]] rfl (by kernel_rfl) (by kernel_rfl) (by kernel_rfl)
   (OpenSpec.preRow_of_cond 8 hx (by kernel_rfl) (fun k hk=>by cases hk) (by kernel_rfl) (laid_met os))) ?_
 intro W base args ds gs before hval hW _ _ _ hL _ _;exact contract H enc W base args ds gs before hval hW hL
section
set_option maxRecDepth 100000
theorem j1:(Rows.fittedRow.wf (OpenSpec.ofChange (OpenSpec.ofChange Rows.fittedSpec).bare)&&laidOutB Tryz.prog&&mapsRowed Tryz.prog)=true:=by kernel_rfl
theorem j2:(Tryz.f3.params.all (Tryz.prog.readableRec ·)&&namedTie Tryz.prog Rows.fittedRow.named (OpenSpec.ofChange Rows.fittedSpec).bare.vars)=true:=by kernel_rfl
theorem j4:(Rows.fittedRow.inPlace==Tryz.prog.inPlace 3)=true:=by kernel_rfl
theorem j5:(Rows.fittedRow.unfollowed==Tryz.prog.unfollowed 3)=true:=by kernel_rfl
theorem j6:(Rows.fittedRow.recurses==Tryz.prog.recurses 3)=true:=by kernel_rfl
theorem j7:(Rows.fittedRow.named==Tryz.prog.varsNamed 3)=true:=by kernel_rfl
theorem j11:Tryz.prog.stopsHeard=true:=by kernel_rfl
theorem j12:Tryz.prog.mayEnter=true:=by kernel_rfl
theorem j13:(Rows.fittedRow.lifted==Tryz.prog.liftsFinal)=true:=by kernel_rfl
theorem closed:joinedFacts Tryz.prog 3 Tryz.f3 (OpenSpec.ofChange Rows.fittedSpec).bare Rows.fittedRow=true:=
 joinedFacts_parts j1 j2 (by kernel_rfl) j4 j5 j6 j7 (by kernel_rfl) (by kernel_rfl) rfl j11 j12 j13 (by kernel_rfl) (by kernel_rfl) (by kernel_rfl) (by kernel_rfl)
end
theorem said:Rows.FittedSaid:=
 OpenClaim.holds_of_cond 3 Tryz.f3 rfl rfl rfl rfl rfl rfl rfl ⟨rfl,rfl,rfl,rfl,rfl⟩ rfl rfl rfl rfl rfl (by kernel_rfl) Tryz.func3 closed
  (of_decide_eq_true (by kernel_rfl)) (by unfold Func.isWrapper;first|(rw[if_pos (by decide +kernel)];kernel_rfl)|(rw[if_neg (by decide +kernel)];exact⟨rfl,rfl⟩))
  (fun os started H enc _ F=>by rw[OpenClaim.pre_eq_preRow];exact lifted os started H enc F)
theorem plain (f : FuncId) (fn : Func) (hf : Tryz.pinned.checked.prog.funcNamed "colrun/colrunkeep.Fitted" = some f) (hfn : Tryz.pinned.checked.prog.funcs[f]? = some fn) :
  true=Tryz.pinned.checked.prog.looks []∧∀ (j:Nat) t,fn.params[j]?=some t→Tryz.pinned.checked.prog.wantsStandIn t=false:=by
 obtain rfl : f = 3 := Option.some.inj ((show Tryz.prog.funcNamed "colrun/colrunkeep.Fitted" = some 3 by kernel_rfl).symm.trans hf) |>.symm
 obtain rfl:fn=Tryz.f3:=(Option.some.inj (Tryz.func3.symm.trans hfn)).symm;refine⟨by kernel_rfl,fun j t ht=>?_⟩;rw[Tryz.params3]at ht;have hm:=Array.mem_of_getElem? ht;simp at hm;rcases hm with rfl|rfl|rfl
 ·exact(show Tryz.prog.wantsStandIn 25=false by kernel_rfl)
 ·exact(show Tryz.prog.wantsStandIn 3=false by kernel_rfl)
 exact(show Tryz.prog.wantsStandIn 27=false by kernel_rfl)
theorem card:Rows.FittedCardSaid:=
 Claim7.holds_tied_plain_at .later [] _ _ _ _ said (fun _ h=>by cases h) (by kernel_rfl) (fun _ h=>by cases h) fitted_row_tie rfl ⟨rfl,rfl⟩ (by kernel_rfl) rfl plain (by kernel_rfl)
end fitted
section
theorem fitted_card_holds:Rows.FittedCardSaid:=fitted.card
end
#print axioms Go.Proofs.YtpchafocmlhmbaaGreatDoor.fitted_card_holds
end Go.Proofs.YtpchafocmlhmbaaGreatDoor
