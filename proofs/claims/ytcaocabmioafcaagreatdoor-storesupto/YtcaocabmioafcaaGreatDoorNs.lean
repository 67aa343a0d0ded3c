/- The row of the law Stores, fact by fact: what stands of it in the program's text, for all disks and every script of bulk at most 1048576. -/
import Derived.Test.YtcaocabmioafcaaGreatDoorCards
import Derived.Test.YtcaocabmioafcaaGreatDoorTie
import Derived.WalkKit
import Derived.ProofKit
import Derived.OpenShut
import Derived.Deep.DeepHandedRow
import Derived.LaidMore
import Derived.Carry
namespace Go.Proofs.YtcaocabmioafcaaGreatDoor.stores
open Go.ChangeShapes Go.WideShapes Go.ChangeAt Go.RowKit
theorem and2 {a b:Bool}(A:a=true)(H:b=true):(a&&b)=true:=by rw[A,H];rfl
theorem fact0:(fun (_P:Program)(_f:FuncId)(_fn:Func)(s:ChangeSpec)(c:OpenClaim)=>(c.wf (OpenSpec.ofChange s):Bool)) Tryz.pinned.checked.prog 3 Tryz.f3 (Rows.OpenSpec.upto Rows.storesSpec).bare Rows.storesUptoRow=true:=by kernel_rfl
theorem fact1:(fun (P:Program)(_f:FuncId)(_fn:Func)(_s:ChangeSpec)(_c:OpenClaim)=>(laidOutB P:Bool)) Tryz.pinned.checked.prog 3 Tryz.f3 (Rows.OpenSpec.upto Rows.storesSpec).bare Rows.storesUptoRow=true:=by kernel_rfl
theorem fact2:(fun (P:Program)(_f:FuncId)(_fn:Func)(_s:ChangeSpec)(_c:OpenClaim)=>(mapsRowed P:Bool)) Tryz.pinned.checked.prog 3 Tryz.f3 (Rows.OpenSpec.upto Rows.storesSpec).bare Rows.storesUptoRow=true:=by kernel_rfl
theorem fact3:(fun (P:Program)(_f:FuncId)(A:Func)(_s:ChangeSpec)(_c:OpenClaim)=>(A.params.all (P.readableRec ·):Bool)) Tryz.pinned.checked.prog 3 Tryz.f3 (Rows.OpenSpec.upto Rows.storesSpec).bare Rows.storesUptoRow=true:=by kernel_rfl
theorem fact4:(fun (P:Program)(_f:FuncId)(_fn:Func)(s:ChangeSpec)(c:OpenClaim)=>(namedTie P c.named s.vars:Bool)) Tryz.pinned.checked.prog 3 Tryz.f3 (Rows.OpenSpec.upto Rows.storesSpec).bare Rows.storesUptoRow=true:=by kernel_rfl
theorem fact5:(fun (_P:Program)(_f:FuncId)(_fn:Func)(_s:ChangeSpec)(c:OpenClaim)=>((c.stops==[]):Bool)) Tryz.pinned.checked.prog 3 Tryz.f3 (Rows.OpenSpec.upto Rows.storesSpec).bare Rows.storesUptoRow=true:=by kernel_rfl
theorem fact6:(fun (P:Program)(_f:FuncId)(_fn:Func)(_s:ChangeSpec)(_c:OpenClaim)=>((P.stops==[]):Bool)) Tryz.pinned.checked.prog 3 Tryz.f3 (Rows.OpenSpec.upto Rows.storesSpec).bare Rows.storesUptoRow=true:=by kernel_rfl
theorem fact7:(fun (_P:Program)(_f:FuncId)(_fn:Func)(_s:ChangeSpec)(c:OpenClaim)=>((c.knobs==[]):Bool)) Tryz.pinned.checked.prog 3 Tryz.f3 (Rows.OpenSpec.upto Rows.storesSpec).bare Rows.storesUptoRow=true:=by kernel_rfl
theorem fact8:(fun (P:Program)(_f:FuncId)(_fn:Func)(_s:ChangeSpec)(_c:OpenClaim)=>((P.stopKnobs==[]):Bool)) Tryz.pinned.checked.prog 3 Tryz.f3 (Rows.OpenSpec.upto Rows.storesSpec).bare Rows.storesUptoRow=true:=by kernel_rfl
theorem fact9:(fun (P:Program)(f:FuncId)(_fn:Func)(_s:ChangeSpec)(c:OpenClaim)=>((c.inPlace==P.inPlace f):Bool)) Tryz.pinned.checked.prog 3 Tryz.f3 (Rows.OpenSpec.upto Rows.storesSpec).bare Rows.storesUptoRow=true:=by kernel_rfl
theorem fact10:(fun (P:Program)(f:FuncId)(_fn:Func)(_s:ChangeSpec)(c:OpenClaim)=>((c.unfollowed==P.unfollowed f):Bool)) Tryz.pinned.checked.prog 3 Tryz.f3 (Rows.OpenSpec.upto Rows.storesSpec).bare Rows.storesUptoRow=true:=by kernel_rfl
theorem fact11:(fun (P:Program)(f:FuncId)(_fn:Func)(_s:ChangeSpec)(c:OpenClaim)=>((c.recurses==P.recurses f):Bool)) Tryz.pinned.checked.prog 3 Tryz.f3 (Rows.OpenSpec.upto Rows.storesSpec).bare Rows.storesUptoRow=true:=by kernel_rfl
theorem fact12:(fun (P:Program)(f:FuncId)(_fn:Func)(_s:ChangeSpec)(c:OpenClaim)=>((c.named==P.varsNamed f):Bool)) Tryz.pinned.checked.prog 3 Tryz.f3 (Rows.OpenSpec.upto Rows.storesSpec).bare Rows.storesUptoRow=true:=by kernel_rfl
theorem fact13:(fun (P:Program)(_f:FuncId)(A:Func)(s:ChangeSpec)(c:OpenClaim)=>((c.maps==(A.params.toList++s.plain.varTypes P).any (P.mapsRec ·)):Bool)) Tryz.pinned.checked.prog 3 Tryz.f3 (Rows.OpenSpec.upto Rows.storesSpec).bare Rows.storesUptoRow=true:=by kernel_rfl
theorem fact14:(fun (P:Program)(_f:FuncId)(A:Func)(s:ChangeSpec)(c:OpenClaim)=>((c.ifaces==(A.params.toList++s.plain.varTypes P).any (P.ifacesRec ·)):Bool)) Tryz.pinned.checked.prog 3 Tryz.f3 (Rows.OpenSpec.upto Rows.storesSpec).bare Rows.storesUptoRow=true:=by kernel_rfl
theorem fact15:(fun (P:Program)(_f:FuncId)(A:Func)(_s:ChangeSpec)(c:OpenClaim)=>((c.mapsOut==P.mapsAmong A.resultTypes.toList):Bool)) Tryz.pinned.checked.prog 3 Tryz.f3 (Rows.OpenSpec.upto Rows.storesSpec).bare Rows.storesUptoRow=true:=by kernel_rfl
theorem fact16:(fun (P:Program)(_f:FuncId)(A:Func)(s:ChangeSpec)(c:OpenClaim)=>((c.loops==(A.params.toList++s.plain.varTypes P).any (P.loopsFrom ·)):Bool)) Tryz.pinned.checked.prog 3 Tryz.f3 (Rows.OpenSpec.upto Rows.storesSpec).bare Rows.storesUptoRow=true:=by kernel_rfl
theorem fact17:(fun (P:Program)(_f:FuncId)(A:Func)(s:ChangeSpec)(c:OpenClaim)=>((c.wideKeys==(A.params.toList++s.plain.varTypes P++A.resultTypes.toList).any (P.wideKeysFrom ·)):Bool)) Tryz.pinned.checked.prog 3 Tryz.f3 (Rows.OpenSpec.upto Rows.storesSpec).bare Rows.storesUptoRow=true:=by kernel_rfl
theorem fact18:(fun (P:Program)(_f:FuncId)(_fn:Func)(s:ChangeSpec)(_c:OpenClaim)=>(s.vars.all (P.varReadable ·):Bool)) Tryz.pinned.checked.prog 3 Tryz.f3 (Rows.OpenSpec.upto Rows.storesSpec).bare Rows.storesUptoRow=true:=by kernel_rfl
theorem fact19:(fun (P:Program)(_f:FuncId)(A:Func)(_s:ChangeSpec)(_c:OpenClaim)=>(A.resultTypes.all (fun t=>P.readableRec t&&decide (t<P.types.size)):Bool)) Tryz.pinned.checked.prog 3 Tryz.f3 (Rows.OpenSpec.upto Rows.storesSpec).bare Rows.storesUptoRow=true:=by kernel_rfl
theorem fact20:(fun (P:Program)(_f:FuncId)(A:Func)(_s:ChangeSpec)(c:OpenClaim)=>((c.ifacesOut==A.resultTypes.toList.any (P.ifacesRec ·)):Bool)) Tryz.pinned.checked.prog 3 Tryz.f3 (Rows.OpenSpec.upto Rows.storesSpec).bare Rows.storesUptoRow=true:=by kernel_rfl
theorem fact21:(fun (P:Program)(_f:FuncId)(A:Func)(_s:ChangeSpec)(c:OpenClaim)=>((c.loopsOut==A.resultTypes.toList.any (P.loopsFrom ·)):Bool)) Tryz.pinned.checked.prog 3 Tryz.f3 (Rows.OpenSpec.upto Rows.storesSpec).bare Rows.storesUptoRow=true:=by kernel_rfl
theorem fact22:(fun (P:Program)(_f:FuncId)(_fn:Func)(_s:ChangeSpec)(c:OpenClaim)=>((c.plainKeys==P.plainKeys):Bool)) Tryz.pinned.checked.prog 3 Tryz.f3 (Rows.OpenSpec.upto Rows.storesSpec).bare Rows.storesUptoRow=true:=by kernel_rfl
theorem fact23:(fun (_P:Program)(_f:FuncId)(_fn:Func)(_s:ChangeSpec)(c:OpenClaim)=>(c.shortTexts.isNone:Bool)) Tryz.pinned.checked.prog 3 Tryz.f3 (Rows.OpenSpec.upto Rows.storesSpec).bare Rows.storesUptoRow=true:=by kernel_rfl
theorem fact24:(fun (P:Program)(_f:FuncId)(_fn:Func)(_s:ChangeSpec)(_c:OpenClaim)=>(P.stopsHeard:Bool)) Tryz.pinned.checked.prog 3 Tryz.f3 (Rows.OpenSpec.upto Rows.storesSpec).bare Rows.storesUptoRow=true:=by kernel_rfl
theorem fact25:(fun (P:Program)(_f:FuncId)(_fn:Func)(_s:ChangeSpec)(_c:OpenClaim)=>(P.mayEnter:Bool)) Tryz.pinned.checked.prog 3 Tryz.f3 (Rows.OpenSpec.upto Rows.storesSpec).bare Rows.storesUptoRow=true:=by kernel_rfl
theorem fact26:(fun (P:Program)(_f:FuncId)(_fn:Func)(_s:ChangeSpec)(c:OpenClaim)=>((c.lifted==P.liftsFinal):Bool)) Tryz.pinned.checked.prog 3 Tryz.f3 (Rows.OpenSpec.upto Rows.storesSpec).bare Rows.storesUptoRow=true:=by kernel_rfl
theorem fact27:(fun (P:Program)(_f:FuncId)(_fn:Func)(_s:ChangeSpec)(c:OpenClaim)=>((P.make==some c.make):Bool)) Tryz.pinned.checked.prog 3 Tryz.f3 (Rows.OpenSpec.upto Rows.storesSpec).bare Rows.storesUptoRow=true:=by kernel_rfl
theorem fact28:(fun (P:Program)(_f:FuncId)(A:Func)(_s:ChangeSpec)(c:OpenClaim)=>((c.kinds==(if c.domain.isEmpty then []else A.params.toList.map fun t=>match P.underlying t with|some (.int k)=>some k|_=>none)):Bool)) Tryz.pinned.checked.prog 3 Tryz.f3 (Rows.OpenSpec.upto Rows.storesSpec).bare Rows.storesUptoRow=true:=by kernel_rfl
theorem fact29:(fun (_P:Program)(_f:FuncId)(_fn:Func)(_s:ChangeSpec)(c:OpenClaim)=>((c.pinned==c.pinnedBy):Bool)) Tryz.pinned.checked.prog 3 Tryz.f3 (Rows.OpenSpec.upto Rows.storesSpec).bare Rows.storesUptoRow=true:=by kernel_rfl
theorem fact30:(fun (P:Program)(_f:FuncId)(A:Func)(s:ChangeSpec)(c:OpenClaim)=>((c.veiled==(A.params.toList++s.plain.varTypes P++A.resultTypes.toList).any (P.veiledRec ·)):Bool)) Tryz.pinned.checked.prog 3 Tryz.f3 (Rows.OpenSpec.upto Rows.storesSpec).bare Rows.storesUptoRow=true:=by kernel_rfl
theorem fact31:(fun (P:Program)(_f:FuncId)(A:Func)(s:ChangeSpec)(c:OpenClaim)=>(c.veiledFits P A.params.toList (A.params.toList++s.plain.varTypes P++A.resultTypes.toList):Bool)) Tryz.pinned.checked.prog 3 Tryz.f3 (Rows.OpenSpec.upto Rows.storesSpec).bare Rows.storesUptoRow=true:=by kernel_rfl
end Go.Proofs.YtcaocabmioafcaaGreatDoor.stores
