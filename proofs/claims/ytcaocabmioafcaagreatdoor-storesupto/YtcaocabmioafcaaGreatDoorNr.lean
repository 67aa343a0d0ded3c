/- What the walks of the law Stores give: it answers true, for all disks and every script of bulk at most 1048576, and what is handed in reads as it did; the named errors being what their initialisers lay. -/
import Derived.Test.YtcaocabmioafcaaGreatDoorCards
import Derived.Test.YtcaocabmioafcaaGreatDoorTie
import Derived.Test.YtcaocabmioafcaaGreatDoorNq
import Derived.WalkKit
import Derived.ProofKit
import Derived.OpenShut
import Derived.Deep.DeepHandedRow
import Derived.LaidMore
import Derived.Carry
set_option maxRecDepth 100000
namespace Go.Proofs.YtcaocabmioafcaaGreatDoor.stores
open Go.ChangeShapes Go.WideShapes Go.ChangeAt Go.RowKit
theorem own:ownKnob Tryz.prog.godebug=none:=by kernel_rfl
theorem Kwp:laidOutB Tryz.prog=true:=by kernel_rfl
theorem Kwh:Tryz.prog.cellsOf 23=2:=by kernel_rfl
theorem Qbh {A:Type}(d:DataW A):1≤Rows.uptoBulk d:=by
 cases d with
 |lit l=>cases l<;>simp[Rows.uptoBulk]
 |nil=>simp[Rows.uptoBulk]
 |ptr d=>simp[Rows.uptoBulk]
 |slice H K=>simp[Rows.uptoBulk]
 |agg J=>simp[Rows.uptoBulk]
 |iface t d=>simp[Rows.uptoBulk]
 |map I=>simp[Rows.uptoBulk]
 |held h=>simp[Rows.uptoBulk]
theorem Qah {A:Type}(l:List (DataW A)):l.length≤Rows.uptoBulkAll l:=by
 induction l with
 |nil=>simp[Rows.uptoBulkAll]
 |cons x r H=>have:=Qbh x;simp only[Rows.uptoBulkAll,List.length_cons];omega
theorem Kya {H:Type}(A I:List (DataW H)):A.length≤Rows.uptoBulk (.slice A I):=by
 have:=Qah A
 simp only[Rows.uptoBulk]
 omega
theorem Qa4 (L:Type)(enc:TypeId×Value→L)(W:World)(base:Nat)(args:Array Value)(J M:List (DataW L))(br:List MemPlace)
  (K:∀ (j:Nat) t v,Tryz.f3.params[j]?=some t→args[j]?=some v→Value.okWide Tryz.prog W .any base t v)
  (hW:DataW.Whole enc Tryz.prog Tryz.f3.params.toList Rows.storesSpec.vars false W args.toList J M br)
  (bN:Rows.uptoSmall L (J++M)=true)
  (bi:(DataW.weightsEach Tryz.prog (Tryz.f3.params.toList++[]) (J++M)).all (·≤reachBytes)=true)
  (bG:laidMetH Tryz.prog Rows.storesUptoRow.laid W) :
  Calls Tryz.prog 3 args W fun e R=>∃ v,e=.returned v∧Rows.storesSpec.post enc Tryz.prog Tryz.f3 false true false false W args v R:=by
 have H:=hW
 obtain⟨p,q,bb,bL,rfl,cK,cL⟩:=hW
 have ba:DataW.TrodAll enc Tryz.prog W 0 (fun _=>true) true Tryz.f3.params.toList args.toList J p:=bb
 rw[Tryz.params3]at ba K bi
 obtain⟨cy,cz,cA,cD,cE,U,ci,cj,ck,rfl,rfl,rfl,h0,Y,Z⟩:=trodAll_three ba
 obtain⟨rfl,rfl⟩:=trodVars_none bL
 have bC:=h0
 have bD:=Y
 have bE:=Z
 obtain⟨cF,bO⟩:=h0
 obtain⟨cG,bP⟩:=Y
 obtain⟨cH,bQ⟩:=Z
 clear bb
 have cb:Ktm 24 U:=fun u ca=>of_decide_eq_true (List.all_eq_true.1 bi _ (DataW.weights_mem_each (j:=2) (t:=24) rfl rfl _ ca))
 obtain⟨bu,rfl,bf⟩:=okWide_struct Tryz.underlying23 (K 0 23 cy rfl rfl)
 obtain⟨bx,rfl,bh⟩:=okWide_struct Tryz.underlying23 (K 1 23 cz rfl rfl)
 obtain⟨cB,cO,cC,rfl⟩:=okWide_slice Tryz.underlying24 (K 2 24 cA rfl rfl)
 obtain⟨cM,cN,O,bc,bI,bK⟩:=Qbs bQ cb
 simp[Value.cells]at bc
 obtain⟨rfl,rfl,rfl⟩:=bc
 have cJ:O.length≤1048576:=bK _ fun X bj e=>by
  have h:=of_decide_eq_true bN
  simp only[Od7,Rows.uptoBulkAll]at h
  have bz:U=.slice X bj:=e
  rw[bz]at h
  have cI:=Kya X bj
  omega
 obtain⟨cc⟩:=bu
 obtain⟨cf⟩:=bx
 rw[Kwh]at bf bh
 obtain⟨cl,bA,bY⟩:=Kw8 (cs:=cc) bO (by simpa using bf)
 obtain⟨cn,bB,bZ⟩:=Kw8 (cs:=cf) bP (by simpa using bh)
 subst bY bZ
 obtain⟨bH,bJ⟩:=laidMetH_iff.1 bG
 obtain⟨bk,bl,bn,cx,cu,wr,pg,pl,ex,cv,N,bU,bV,bM,A,bX,bW⟩:=Kk1 bH bJ (Om0.2 ⟨Of4,rfl⟩)
 simp only[Od7]at H
 have bR:∀ x∈ci,x.block<W.heap.size:=fun x I=>H.lt x (by simp[I])
 have bS:∀ x∈cj,x.block<W.heap.size:=fun x I=>H.lt x (by simp[I])
 have bT:∀ x∈ck,x.block<W.heap.size:=fun x I=>H.lt x (by simp[I])
 refine(Kyg cl bA cn bB O _ _ W bI (by omega) bk bl bn cx cu wr pg pl ex cv ⟨N,bU,bV,bM,A,bX,bW⟩).mono fun e R ⟨N,A⟩=>?_
 subst N
 exact⟨_,rfl,⟨_,_,_,[],_,[],H,trodAll_mk1 (shut_bool Tryz.underlying4 true),trodAll_mk3 (Below.trod Kwp (by kernel_rfl) (of_decide_eq_true (by kernel_rfl)) bC A bR) (Below.trod Kwp (by kernel_rfl) (of_decide_eq_true (by kernel_rfl)) bD A bS) (Below.trod Kwp (by kernel_rfl) (of_decide_eq_true (by kernel_rfl)) bE A bT),rfl,A.frame _,fun h=>by cases h⟩⟩
theorem Qbk (os:Os):laidMetH Tryz.prog Rows.storesUptoRow.laid ((World.doorLaid Tryz.prog 400 os).forCall (fun _ _=>0) ⟨#[],#[.agg #[.int .i64 0,.int .i64 0],.agg #[.int .i64 0,.int .i64 0],.slice none 0 0],[]⟩).memory:=
 laidMetH_of_parts3 (fuel:=8) (laidMet_of_run' 8 (by kernel_rfl) (by kernel_rfl)) (by kernel_rfl) (by kernel_rfl)
theorem reads (os:Os){A:Type}(enc:TypeId×Value→A):∃ H,DataW.whole enc Tryz.prog ((World.doorLaid Tryz.prog 400 os).forCall (fun _ _=>0) ⟨#[],#[.agg #[.int .i64 0,.int .i64 0],.agg #[.int .i64 0,.int .i64 0],.slice none 0 0],[]⟩).memory Tryz.f3.params.toList Rows.storesSpec.vars false #[Value.agg #[.int .i64 0,.int .i64 0],.agg #[.int .i64 0,.int .i64 0],.slice none 0 0].toList 8=some ([.agg [.lit (.int .i64 0),.lit (.int .i64 0)],.agg [.lit (.int .i64 0),.lit (.int .i64 0)],.nil],[],H):=
 ⟨[],by kernel_rfl⟩
theorem lifted (os:Os)(R:os.Started)(A:Type)(enc:TypeId×Value→A)(F:Stop.Interp) :
  ReturnsInHanded {} Tryz.checked os 3 .any ((Rows.OpenSpec.upto Rows.storesSpec).preRow enc Tryz.prog Tryz.f3 Rows.storesUptoRow.domain false Rows.storesUptoRow.laid) (((Rows.OpenSpec.upto Rows.storesSpec).at F).post enc Tryz.prog Tryz.f3 false true false false):=by
 obtain⟨U,O⟩:=reads os enc
 refine returnsInHanded_of_row (C:=Tryz.checked) (s:=Rows.OpenSpec.upto Rows.storesSpec) own R (by kernel_rfl) Tryz.func3
  (witness_row_at (enc:=enc) (C:=Tryz.checked) false (World.doorLaid Tryz.prog 400 os) #[.agg #[.int .i64 0,.int .i64 0],.agg #[.int .i64 0,.int .i64 0],.slice none 0 0] rfl (by kernel_rfl) (by kernel_rfl) (by kernel_rfl)
   (OpenSpec.preRow_of_cond 8 O (by kernel_rfl) (fun k hk=>by cases hk;kernel_rfl) (by kernel_rfl) (Qbk os))) ?_
 intro W base args I J H N hW _ L M K _ _
 exact Qa4 A enc W base args I J H N hW (L _ rfl) M K
end Go.Proofs.YtcaocabmioafcaaGreatDoor.stores
