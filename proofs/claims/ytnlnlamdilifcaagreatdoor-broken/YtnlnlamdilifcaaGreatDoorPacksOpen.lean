/- What the arguments and the named errors are, read off their reading: a list of values lies in its cells, and the errors are different pointers. Nothing is run. -/
import Derived.Test.YtnlnlamdilifcaaGreatDoorKd
import Derived.Test.YtnlnlamdilifcaaGreatDoorRows
import Derived.Deep.Strs
import Derived.LaidMore
import Derived.LaidSub
import Derived.Stop.LaidErr
namespace Go.Proofs.YtnlnlamdilifcaaGreatDoor
open Go.RowKit Go.Deep Go.ChangeShapes Go.WideShapes
theorem Jqt:Tryz.prog.cellsOf 65=3:=zK
theorem Jf5:Tryz.prog.cellsOf 3=1:=zK
theorem Jta:Tryz.prog.cellsOf 2=1:=zK
theorem Jh6:Tryz.prog.cellsOf 9=1:=zK
theorem Jra:Tryz.prog.cellsOf 453=1:=zK
theorem Kgy {α:Type}{l:List α}(h:l.length=3):∃ x y z,l=[x,y,z]:=by
 match l,h with
 |[x,y,z],_=>exact⟨x,y,z,rfl⟩
theorem Kh6 : "*" ++ "errors.errorString" = "*errors.errorString" := by decide
theorem Kfo u(h : Tryz.prog.typeName? 3 u = some "*errors.errorString"): u = 435 :=
 typeName_ptr_named (nm := "errors.errorString") (by rw [Kh6]; kernel_rfl) (by kernel_rfl) (by decide) u (by rw [Kh6]; exact h)
theorem Khq : Tryz.prog.globalNamed "colrun/segments.ErrArg" = some 15 := by kernel_rfl
theorem Kgv : Tryz.prog.globalNamed "colrun/segments.ErrDict" = some 3 := by kernel_rfl
theorem Kgw : Tryz.prog.globalNamed "colrun/segments.ErrForm" = some 4 := by kernel_rfl
theorem Kei : Tryz.prog.globalNamed "colrun/tables.ErrTable" = some 1 := by kernel_rfl
theorem Kcy : Tryz.prog.globalNamed "colrun/disk.ErrQuota" = some 5 := by kernel_rfl
theorem Kbs : Tryz.prog.globalNamed "colrun/disk.ErrWrite" = some 6 := by kernel_rfl
theorem Kgt : Tryz.prog.globalNamed "colrun/disk.ErrPage" = some 7 := by kernel_rfl
theorem Kgx : Tryz.prog.globalNamed "colrun/plans.ErrPlan" = some 8 := by kernel_rfl
theorem Kgq : Tryz.prog.globalNamed "colrun/exprs.ErrExpr" = some 9 := by kernel_rfl
theorem Jyg : Tryz.prog.globalNamed "colrun/exprs.ErrDivide" = some 10 := by kernel_rfl
theorem Jo5 : Tryz.prog.globalNamed "colrun/exprs.ErrOverflow" = some 11 := by kernel_rfl
theorem Jmz : Tryz.prog.globalNamed "colrun/groups.ErrOverflow" = some 12 := by kernel_rfl
theorem Kgz : Tryz.prog.globalNamed "colrun/columns.ErrMany" = some 13 := by kernel_rfl
theorem Khx : Tryz.prog.globalNamed "errors.errorType" = some 14 := by kernel_rfl
theorem Kdh : (Tryz.prog.cutTypes.find? (·.1 == "internal/reflectlite.rtype")).map (·.2) = some 216 := by kernel_rfl
theorem Khn:((List.range 465).filter fun t=>Tryz.prog.rowNamed t [101,114,114,111,114])=[77]:=zK
theorem Kfh:Tryz.prog.types.size=465:=zK
theorem Jie {α β:Type}(f:α->β):∀ l:List α,(l.map f).Nodup->l.Nodup
 |[],_=>List.nodup_nil
 |x::l,h=>by
  rw[Oe4,Og0]at h;exact Og0.2 ⟨fun y=>h.1 (List.mem_map_of_mem y),Jie f l h.2⟩
def Khu {α β:Type}(R:α->β->Prop):List α->List β->Prop
 |[],m=>m=[]
 |a::l,m=>∃ b k,m=b::k/\R a b/\Khu R l k
abbrev Khp (nm:String)(text:List UInt8):DataW Unit:=.iface nm (.ptr (.agg [.lit (.string text)]))
theorem Kah {P}{nm:String}{W Y I H ts}{ms:Array (String×TypeId)}{f:Field}(hi:P.underlying Y=some (.interface ms))(bE:∀ u,P.typeName? 3 u=some nm->u=I)(hp:P.underlying I=some (.pointer H))(bz:P.underlying H=some (.struct #[f]))(bB:f.type=ts)(bA:f.offset=0)(hs:P.underlying ts=some .string)(bk:P.cellsOf H=1)(br:P.cellsOf ts=1):
  ∀ (l:List (String×List UInt8)) (ps:List MemPlace),DataW.LaidVars P W (l.map fun x=>(x.1,Khp nm x.2)) ps->(∀ x∈l,∃ g,P.globalNamed x.1=some g/\(P.globals[g]?).map (·.type)=some Y) ->
   (∀ b off,MemPlace.cell b off∈ps->∀ u v,W.cell? (Ar b off)=some (.iface u v)->Value.okWide P W .any 0 u v) ->
   ∃ y:List Addr,Khu (fun x a=>W.var? P x.1=some #[.iface I (Po a)]) l y/\(y.map fun a=>MemPlace.cell a.block a.off).Sublist ps:=by
 intro l;induction l with
 |nil=>intro ps _ _ _;exact⟨[],rfl,zS⟩
 |cons x l bI=>
  intro ps h K O;obtain⟨bO,bR,Z,bN,bP,bL,bC,bG,U,bx,hr,bf⟩:=h;obtain⟨bh,M,bH⟩:=K x zS;obtain rfl:=Oj6 (M.symm.trans bC);obtain rfl:=Oj6 (bH.symm.trans bG);subst bf;obtain⟨y,bi,bj⟩:=bI bL hr (fun bM hy=>K bM (by simp[hy])) (fun b off bD=>O b off (by simp[bD]));obtain⟨bJ⟩:=Z;have bK:∀ u v,bJ=[.iface u v]->Value.okWide P W .any 0 u v:=fun u v e=>by
   subst e;exact O bh 0 (by simp[MemPlace.row]) u v (by simpa using Of9 M U 0)
  obtain⟨a0,bQ,rfl,_,_,_,rfl⟩:=errorString_of_trod hi bE hp bz bB bA hs bk br bx bK;refine⟨a0::y,⟨a0,y,rfl,U,bi⟩,?_⟩;simp only[Oe4];refine List.Sublist.trans (List.Sublist.append (l₁:=[MemPlace.cell a0.block a0.off]) (l₂:=_++_) ?_ bj) (List.Sublist.refl _);exact(List.singleton_sublist.2 (by simp[MemPlace.row]))
theorem Jzb {W}{hs : List (String × DataW Unit)}(h : handlesMet Tryz.prog hs W)(hm : ("errors.errorType", .iface "internal/reflectlite.rtype" (.agg [.ptr (.lit (.string [101, 114, 114, 111, 114]))])) ∈ hs):
  W.cell? (Aq 14)=some (.iface 216 (.agg #[Pr 17 77])):=by
 obtain⟨name,u,ty,e1,e2,e3,e4,e5⟩:=h _ hm;have en:name=[101,114,114,111,114]:=(Oj6 e1).symm;subst en;obtain rfl:=Oj6 (Kdh.symm.trans e2);have hm:ty∈(List.range 465).filter fun t=>Tryz.prog.rowNamed t [101,114,114,111,114]:=Om0.2 ⟨Oj4.2 (by rw[<-Kfh];exact e3),e4⟩;rw[Khn]at hm;obtain rfl:=Oc6.1 hm;have hh:typeHandle Tryz.prog 77=Pr 17 77:=zK;rw[hh]at e5;simpa using Of9 Khx e5 0
