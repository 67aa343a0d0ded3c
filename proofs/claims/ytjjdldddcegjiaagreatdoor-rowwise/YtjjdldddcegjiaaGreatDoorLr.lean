/- What the arguments and the named errors are, read off their reading: a list of values lies in its cells, and the errors are different pointers. Nothing is run. -/
import Derived.Test.YtjjdldddcegjiaaGreatDoorEw
import Derived.Test.YtjjdldddcegjiaaGreatDoorRows
import Derived.Deep.Strs
import Derived.LaidMore
import Derived.LaidSub
import Derived.LaidHandle
import Derived.Stop.LaidErr
import Derived.MakeChecks
import Derived.Test.YtjjdldddcegjiaaGreatDoorIv
import Derived.Test.YtjjdldddcegjiaaGreatDoorKm
import Derived.Test.YtjjdldddcegjiaaGreatDoorYg
import Derived.JoinedCond
set_option maxRecDepth 100000
namespace Go.Proofs.YtjjdldddcegjiaaGreatDoor
open Go.RowKit Go.Deep Go.ChangeShapes Go.WideShapes
theorem Jqt:Tryz.prog.cellsOf 49=3:=by kernel_rfl
theorem Jf5:Tryz.prog.cellsOf 3=1:=by kernel_rfl
theorem Jta:Tryz.prog.cellsOf 2=1:=by kernel_rfl
theorem Jh6:Tryz.prog.cellsOf 9=1:=by kernel_rfl
theorem Jra:Tryz.prog.cellsOf 461=1:=by kernel_rfl
theorem Kgy {α:Type}{l:List α}(h:l.length=3):∃ x y z,l=[x,y,z]:=by
 match l,h with
 |[x,y,z],_=>exact⟨x,y,z,rfl⟩
theorem Kh6 : "*" ++ "errors.errorString" = "*errors.errorString" := by decide
theorem Kfo (u : TypeId) (h : Tryz.prog.typeName? 3 u = some "*errors.errorString") : u = 443 :=
 typeName_ptr_named (nm := "errors.errorString") (by rw [Kh6]; kernel_rfl) (by kernel_rfl) (by decide) u (by rw [Kh6]; exact h)
theorem Khq : Tryz.prog.globalNamed "colrun/segments.ErrArg" = some 15 := by kernel_rfl
theorem Kgv : Tryz.prog.globalNamed "colrun/segments.ErrDict" = some 4 := by kernel_rfl
theorem Kgw : Tryz.prog.globalNamed "colrun/segments.ErrForm" = some 5 := by kernel_rfl
theorem Kei : Tryz.prog.globalNamed "colrun/tables.ErrTable" = some 2 := by kernel_rfl
theorem Kcy : Tryz.prog.globalNamed "colrun/disk.ErrQuota" = some 6 := by kernel_rfl
theorem Kbs : Tryz.prog.globalNamed "colrun/disk.ErrWrite" = some 7 := by kernel_rfl
theorem Kgt : Tryz.prog.globalNamed "colrun/disk.ErrPage" = some 8 := by kernel_rfl
theorem Kgx : Tryz.prog.globalNamed "colrun/plans.ErrPlan" = some 3 := by kernel_rfl
theorem Kgq : Tryz.prog.globalNamed "colrun/exprs.ErrExpr" = some 9 := by kernel_rfl
theorem Jyg : Tryz.prog.globalNamed "colrun/exprs.ErrDivide" = some 10 := by kernel_rfl
theorem Jo5 : Tryz.prog.globalNamed "colrun/exprs.ErrOverflow" = some 11 := by kernel_rfl
theorem Jmz : Tryz.prog.globalNamed "colrun/groups.ErrOverflow" = some 12 := by kernel_rfl
theorem Kgz : Tryz.prog.globalNamed "colrun/columns.ErrMany" = some 13 := by kernel_rfl
theorem Khx : Tryz.prog.globalNamed "errors.errorType" = some 14 := by kernel_rfl
theorem Kdh : (Tryz.prog.cutTypes.find? (·.1 == "internal/reflectlite.rtype")).map (·.2) = some 236 := by kernel_rfl
theorem Khn:((List.range 473).filter fun t=>Tryz.prog.rowNamed t [101,114,114,111,114])=[77]:=by kernel_rfl
theorem Kfh:Tryz.prog.types.size=473:=by kernel_rfl
theorem Jie {α β:Type}(f:α→β):∀ l:List α,(l.map f).Nodup→l.Nodup
 |[],_=>List.nodup_nil
 |x::l,h=>by
  rw[Oe4,Og0]at h
  exact Og0.2 ⟨fun y=>h.1 (List.mem_map_of_mem y),Jie f l h.2⟩
def Khu {α β:Type}(y:α→β→Prop):List α→List β→Prop
 |[],m=>m=[]
 |a::l,m=>∃ b k,m=b::k∧y a b∧Khu y l k
abbrev Khp (nm:String)(y:List UInt8):DataW Unit:=.iface nm (.ptr (.agg [.lit (.string y)]))
theorem Kah {P:Program}{nm:String}{W:World}{O C A D:TypeId}{bH:Array (String×TypeId)}{f:Field}
  (hi:P.underlying O=some (.interface bH)) (bA:∀ u,P.typeName? 3 u=some nm→u=C)
  (bx:P.underlying C=some (.pointer A)) (bj:P.underlying A=some (.struct #[f])) (bn:f.type=D) (bl:f.offset=0) (hs:P.underlying D=some .string) (bf:P.cellsOf A=1) (bh:P.cellsOf D=1) :
  ∀ (l:List (String×List UInt8)) (ps:List MemPlace),DataW.LaidVars P W (l.map fun x=>(x.1,Khp nm x.2)) ps→(∀ x∈l,∃ g,P.globalNamed x.1=some g∧(P.globals[g]?).map (·.type)=some O) →
   (∀ b off,MemPlace.cell b off∈ps→∀ u v,W.cell? ⟨b,off,none⟩=some (.iface u v)→Value.okWide P W .any 0 u v) →
   ∃ y:List Addr,Khu (fun x a=>W.var? P x.1=some #[.iface C (.pointer (some a))]) l y∧(y.map fun a=>MemPlace.cell a.block a.off).Sublist ps:=by
 intro l
 induction l with
 |nil=>intro ps _ _ _;exact⟨[],rfl,by simp⟩
 |cons x l bE=>
  intro ps h E K
  obtain⟨bM,bP,R,bL,bN,bJ,br,bB,M,bi,bz,U⟩:=h
  obtain⟨X,H,bC⟩:=E x (by simp)
  obtain rfl:=Oj6 (H.symm.trans br)
  obtain rfl:=Oj6 (bC.symm.trans bB)
  subst U
  obtain⟨y,Z,bc⟩:=bE bJ bz (fun bK bD=>E bK (by simp[bD])) (fun b off bu=>K b off (by simp[bu]))
  obtain⟨bG⟩:=R
  have bI:∀ u v,bG=[.iface u v]→Value.okWide P W .any 0 u v:=fun u v e=>by
   subst e
   exact K X 0 (by simp[MemPlace.row]) u v (by simpa using Of9 H M 0)
  obtain⟨z,bO,rfl,_,_,_,rfl⟩:=errorString_of_trod hi bA bx bj bn bl hs bf bh bi bI
  refine⟨z::y,⟨z,y,rfl,M,Z⟩,?_⟩
  simp only[Oe4]
  refine List.Sublist.trans (List.Sublist.append (l₁:=[MemPlace.cell z.block z.off]) (l₂:=_++_) ?_ bc) (List.Sublist.refl _)
  exact(List.singleton_sublist.2 (by simp[MemPlace.row]))
theorem Jzb {W : World} {hs : List (String × DataW Unit)} (h : handlesMet Tryz.prog hs W) (hm : ("errors.errorType", .iface "internal/reflectlite.rtype" (.agg [.ptr (.lit (.string [101, 114, 114, 111, 114]))])) ∈ hs) :
  W.cell? ⟨14,0,none⟩=some (.iface 236 (.agg #[.pointer (some ⟨17,77,none⟩)])):=by
 obtain⟨name,u,ty,e1,e2,e3,e4,e5⟩:=h _ hm
 have en:name=[101,114,114,111,114]:=(Oj6 e1).symm
 subst en
 obtain rfl:=Oj6 (Kdh.symm.trans e2)
 have hm:ty∈(List.range 473).filter fun t=>Tryz.prog.rowNamed t [101,114,114,111,114]:=Om0.2 ⟨Oj4.2 (by rw[←Kfh];exact e3),e4⟩
 rw[Khn]at hm
 obtain rfl:=Oc6.1 hm
 have hh:typeHandle Tryz.prog 77=.pointer (some ⟨17,77,none⟩):=by kernel_rfl
 rw[hh]at e5
 simpa using Of9 Khx e5 0
theorem Jyc : Tryz.prog.globalNamed "colrun/tables.ErrArg" = some 1 := by kernel_rfl
theorem Kcd : Tryz.prog.globalNamed "colrun/work.ErrArg" = some 0 := by kernel_rfl
theorem Jzs : ∀ x ∈ ["colrun/columns.ErrMany", "colrun/disk.ErrQuota", "colrun/disk.ErrWrite", "colrun/disk.ErrPage", "colrun/exprs.ErrExpr", "colrun/exprs.ErrDivide", "colrun/exprs.ErrOverflow", "colrun/groups.ErrOverflow", "colrun/plans.ErrPlan", "colrun/segments.ErrArg", "colrun/segments.ErrDict", "colrun/segments.ErrForm", "colrun/tables.ErrArg", "colrun/tables.ErrTable", "colrun/work.ErrArg"], ∃ g, Tryz.prog.globalNamed x = some g ∧ (Tryz.prog.globals[g]?).map (·.type) = some 77 := by
 intro x hx
 simp only[Of1,Oi0,or_false]at hx
 rcases hx with rfl|rfl|rfl|rfl|rfl|rfl|rfl|rfl|rfl|rfl|rfl|rfl|rfl|rfl|rfl
 ·exact⟨_,Kgz,by kernel_rfl⟩
 ·exact⟨_,Kcy,by kernel_rfl⟩
 ·exact⟨_,Kbs,by kernel_rfl⟩
 ·exact⟨_,Kgt,by kernel_rfl⟩
 ·exact⟨_,Kgq,by kernel_rfl⟩
 ·exact⟨_,Jyg,by kernel_rfl⟩
 ·exact⟨_,Jo5,by kernel_rfl⟩
 ·exact⟨_,Jmz,by kernel_rfl⟩
 ·exact⟨_,Kgx,by kernel_rfl⟩
 ·exact⟨_,Khq,by kernel_rfl⟩
 ·exact⟨_,Kgv,by kernel_rfl⟩
 ·exact⟨_,Kgw,by kernel_rfl⟩
 ·exact⟨_,Jyc,by kernel_rfl⟩
 ·exact⟨_,Kei,by kernel_rfl⟩
 exact⟨_,Kcd,by kernel_rfl⟩
theorem Kk1 {W:World}{t0 t1 t2 t3 t4 t5 t6 t7 t8 t9 t10 t11 t12 t13 t14:List UInt8}{hs:List (String×DataW Unit)}
  (h : laidMet Tryz.prog ([("colrun/columns.ErrMany", t0), ("colrun/disk.ErrQuota", t1), ("colrun/disk.ErrWrite", t2), ("colrun/disk.ErrPage", t3), ("colrun/exprs.ErrExpr", t4), ("colrun/exprs.ErrDivide", t5), ("colrun/exprs.ErrOverflow", t6), ("colrun/groups.ErrOverflow", t7), ("colrun/plans.ErrPlan", t8), ("colrun/segments.ErrArg", t9), ("colrun/segments.ErrDict", t10), ("colrun/segments.ErrForm", t11), ("colrun/tables.ErrArg", t12), ("colrun/tables.ErrTable", t13), ("colrun/work.ErrArg", t14)].map fun x => (x.1, Khp "*errors.errorString" x.2)) W)
  (hh : handlesMet Tryz.prog hs W) (hm : ("errors.errorType", .iface "internal/reflectlite.rtype" (.agg [.ptr (.lit (.string [101, 114, 114, 111, 114]))])) ∈ hs) :
  ∃ a0 a1 a2 tt q wr pg pl ex ta,Jf0 W a0 a1 a2∧Jkn W a0 a1 a2 tt q wr pg∧Jhy W [a0,a1,a2,tt,q,wr,pg] pl ex∧W.cell? ⟨1,0,none⟩=some (.iface 443 (.pointer (some ta)))∧(∃ c t,W.heap[ta.block]?=some (.cells c t (0,0)))∧ta∉[a0,a1,a2,tt,q,wr,pg,pl,ex]∧(∃ dv ov gv mn,Jig W [ex,pl,a0,a1,a2,tt,q,wr,pg] dv ov gv mn∧ta∉[dv,ov,gv,mn]):=by
 obtain⟨ps,hl,hnd,hrows⟩:=h
 obtain⟨ads,h1,h2⟩:=Kah Tryz.underlying77 Kfo Tryz.underlying443 Tryz.underlying461 rfl rfl Tryz.underlying9 Jra Jh6 _ ps hl
  (fun x hx=>Jzs x.1 (by simp only[Of1,Oi0,or_false]at hx;rcases hx with rfl|rfl|rfl|rfl|rfl|rfl|rfl|rfl|rfl|rfl|rfl|rfl|rfl|rfl|rfl<;>simp)) (fun b off hp=>(hrows b off hp).2)
 obtain⟨mn,m0,rfl,v0,h1⟩:=h1
 obtain⟨q,m1,rfl,v1,h1⟩:=h1
 obtain⟨wr,m2,rfl,v2,h1⟩:=h1
 obtain⟨pg,m3,rfl,v3,h1⟩:=h1
 obtain⟨ex,m4,rfl,v4,h1⟩:=h1
 obtain⟨dv,m5,rfl,v5,h1⟩:=h1
 obtain⟨ov,m6,rfl,v6,h1⟩:=h1
 obtain⟨gv,m7,rfl,v7,h1⟩:=h1
 obtain⟨pl,m8,rfl,v8,h1⟩:=h1
 obtain⟨a0,m9,rfl,v9,h1⟩:=h1
 obtain⟨a1,m10,rfl,v10,h1⟩:=h1
 obtain⟨a2,m11,rfl,v11,h1⟩:=h1
 obtain⟨ta,m12,rfl,v12,h1⟩:=h1
 obtain⟨tt,m13,rfl,v13,h1⟩:=h1
 obtain⟨wa,m14,rfl,v14,h1⟩:=h1
 obtain rfl:=h1
 have hn:=hnd.sublist h2
 have hb:∀ a:Addr,MemPlace.cell a.block a.off∈ps→∃ c t,W.heap[a.block]?=some (.cells c t (0,0)):=fun a ha=>(hrows _ _ ha).1
 have hin:=h2.subset
 have hn2:[mn,q,wr,pg,ex,dv,ov,gv,pl,a0,a1,a2,ta,tt,wa].Nodup:=Jie _ _ hn
 have hn3:[wa,ta,mn,gv,ov,dv,ex,pl,a0,a1,a2,tt,q,wr,pg].Nodup:=(List.Perm.nodup_iff (by
  refine(List.perm_iff_count.2 fun x=>?_)
  simp only[List.count_cons,List.count_nil]
  omega)).1 hn2
 obtain⟨n_wa,hn3⟩:=Og0.1 hn3
 obtain⟨n_ta,hn3⟩:=Og0.1 hn3
 obtain⟨n_mn,hn3⟩:=Og0.1 hn3
 obtain⟨n_gv,hn3⟩:=Og0.1 hn3
 obtain⟨n_ov,hn3⟩:=Og0.1 hn3
 obtain⟨n_dv,hn3⟩:=Og0.1 hn3
 obtain⟨n_ex,hn3⟩:=Og0.1 hn3
 obtain⟨n_pl,hn3⟩:=Og0.1 hn3
 have hm3:Jig W [ex,pl,a0,a1,a2,tt,q,wr,pg] dv ov gv mn:=⟨by simpa using Of9 Jyg v5 0,by simpa using Of9 Jo5 v6 0,by simpa using Of9 Jmz v7 0,by simpa using Of9 Kgz v0 0,hb dv (hin (by simp)),hb ov (hin (by simp)),hb gv (hin (by simp)),hb mn (hin (by simp)),n_dv,n_ov,n_gv,n_mn⟩
 have hm2:Jhy W [a0,a1,a2,tt,q,wr,pg] pl ex:=⟨by simpa using Of9 Kgx v8 0,by simpa using Of9 Kgq v4 0,hb pl (hin (by simp)),hb ex (hin (by simp)),n_pl,List.not_mem_of_not_mem_cons n_ex,dv,ov,gv,mn,hm3⟩
 have hm1:Jkn W a0 a1 a2 tt q wr pg:=⟨by simpa using Of9 Kei v13 0,by simpa using Of9 Kcy v1 0,by simpa using Of9 Kbs v2 0,by simpa using Of9 Kgt v3 0,Jzb hh hm,hb tt (hin (by simp)),hb q (hin (by simp)),hb wr (hin (by simp)),hb pg (hin (by simp)),hn3,pl,ex,hm2⟩
 have he:Jf0 W a0 a1 a2:=⟨by simpa using Of9 Khq v9 0,by simpa using Of9 Kgv v10 0,by simpa using Of9 Kgw v11 0,hb a0 (hin (by simp)),hb a1 (hin (by simp)),hb a2 (hin (by simp)),tt,q,wr,pg,hm1⟩
 simp only[Of1,Oi0,or_false,not_or]at n_ta
 exact⟨a0,a1,a2,tt,q,wr,pg,pl,ex,ta,he,hm1,hm2,by simpa using Of9 Jyc v12 0,hb ta (hin (by simp)),by simp[n_ta],dv,ov,gv,mn,hm3,by simp[n_ta]⟩
end Go.Proofs.YtjjdldddcegjiaaGreatDoor
namespace Go.Proofs.YtjjdldddcegjiaaGreatDoor
open Go.RowKit Go.Deep Go.ChangeShapes Go.WideShapes
theorem Jje {n:Int}(h:(Lit.int .i64 n).wf=true):Jg n:=by
 simp[Lit.wf,IntKind.min,IntKind.max,IntKind.signed,IntKind.bits]at h
 exact⟨h.1,h.2⟩
theorem Kht {z:Type}{enc:TypeId×Value→z}{W:World}{K M:Nat}{bj:Nat→Bool}{held:Bool}{O:Nat}{cs:List Value}{x:DataW z×List MemPlace}{a:Addr}
  (Z:W.cells? M a 3=some cs) (h:DataW.trod enc Tryz.prog W K bj held O 49 cs=some x):a.spot=none∧∃ v:V,VAt W a.block a.off v∧Jg v.k∧Jg v.n:=by
 obtain⟨br,bu,bx,bl,_,_,h0,U,X⟩:=trod_struct3 Tryz.underlying49 h
 obtain⟨_,bc,y⟩:=World.cells?_some Z
 obtain⟨c0,c1,c2,rfl⟩:=Kgy bc
 obtain⟨k,A,_,R⟩:=Og3 Tryz.underlying3 h0
 obtain⟨bf,C,_,g1⟩:=Og3 Tryz.underlying2 U
 obtain⟨s,D,_,_⟩:=Op4 Tryz.underlying9 X
 have H:=y 0 (by omega)
 have bh:=y 1 (by omega)
 have bi:=y 2 (by omega)
 have E:a.spot=none:=by simpa [Addr.add] using Oo3 H
 simp[Jf5]at A
 simp[Jta]at C
 simp[Jh6]at D
 subst A C D
 obtain⟨b,o,bn⟩:=a
 simp only at E
 subst E
 refine⟨rfl,⟨k,bf,s⟩,⟨?_,?_,?_⟩,Jje R,Jje g1⟩
 ·simpa [Addr.add] using H
 ·simpa [Addr.add] using bh
 simpa [Addr.add] using bi
theorem Kcq:Tryz.prog.cellsOf 59=1:=by kernel_rfl
theorem Kar:Tryz.prog.cellsOf 22=1:=by kernel_rfl
theorem Jzo:Tryz.prog.cellsOf 23=1:=by kernel_rfl
theorem Jw7:Tryz.prog.cellsOf 25=3:=by kernel_rfl
section
variable {H:Type} {enc:TypeId×Value→H} {W:World} {base:Nat} {spare:Nat→Bool} {held:Bool} {fuel:Nat} {cs:List Value} {x:DataW H×List MemPlace}
theorem Kgk (h:DataW.trod enc Tryz.prog W base spare held fuel 59 cs=some x) :
  ∃ a cap,∃ xs:List V,cs=[.slice a xs.length cap]∧Jv W a xs∧(∀ v∈xs,Jg v.k∧Jg v.n)∧xs.length≤maxLen:=by
 rcases open_slice Tryz.underlying59 h with⟨A,Z⟩|⟨a,len,cap,m,n,bf,bh,A,bj,bl,br,R,Z,K⟩
 ·exact⟨none,0,[],A,.inl rfl,fun v y=>by simp at y,Ob7 _⟩
 have bn:len≤m:=by rw[R];split<;>omega
 have H:∀ i,i<len→(a.add (i*3)).spot=none∧∃ v:V,VAt W (a.add (i*3)).block (a.add (i*3)).off v∧Jg v.k∧Jg v.n:=by
  intro i hi
  obtain⟨bi,C,X⟩:=K i (by omega)
  rw[Jqt]at C
  exact Kht C X
 rcases Oj2 len with h0|D
 ·subst h0
  exact⟨some a,cap,[],A,.inl rfl,fun v y=>by simp at y,Ob7 _⟩
 haveI:Inhabited V:=⟨⟨0,0,ByteArray.empty⟩⟩
 have E:=(H 0 D).1
 obtain⟨b,o,bu⟩:=a
 simp[Addr.add]at E
 subst E
 have bc:∀ i,i<len→∃ v:V,VAt W b (o+i*3) v∧Jg v.k∧Jg v.n:=by
  intro i hi
  obtain⟨v,y,M⟩:=(H i hi).2
  refine⟨v,?_,M⟩
  rcases Oj2 i with h0|h0
  ·subst h0
   simpa [Addr.add] using y
  have U:¬ i*3=0:=by omega
  simpa [Addr.add,U] using y
 obtain⟨f,hf⟩:=choose_lt bc
 have O:b<W.heap.size:=Jm (hf 0 D).1.1
 refine⟨some ⟨b,o,none⟩,cap,(List.range len).map f,by rw[A];simp,.inr ⟨b,o,rfl,O,?_⟩,?_,by simp;omega⟩
 ·intro i v hi
  rw[Ob1]at hi
  rcases Oc1 i len with z|z
  ·rw[Oh6 z]at hi
   simp at hi
   subst hi
   exact(hf i z).1
  rw[Ob4 (by simpa using z)]at hi
  simp at hi
 intro v y
 obtain⟨i,hi,rfl⟩:=Of0.1 y
 exact(hf i (Oj4.1 hi)).2
theorem Kca (h:DataW.trod enc Tryz.prog W base spare held fuel 22 cs=some x) :
  ∃ a cap,∃ ns:List Int,cs=[.slice a ns.length cap]∧Kc W a ns∧(∀ n∈ns,Jg n)∧ns.length≤maxLen:=by
 rcases open_slice1 Tryz.underlying22 Jf5 h with⟨A,X⟩|⟨a,len,cap,m,n,bh,bc,bf,A,bi,bj,bn,U,X,O⟩
 ·exact⟨none,0,[],A,.inl rfl,fun v y=>by simp at y,Ob7 _⟩
 have bl:len≤m:=by rw[U];split<;>omega
 have Z:∀ i,i<len→∃ k:Int,W.cell? (a.add i)=some (.int .i64 k)∧Jg k:=by
  intro i hi
  obtain⟨D,M⟩:=O i (by omega)
  obtain⟨k,C,_,K⟩:=Og3 Tryz.underlying3 M
  simp at C
  rw[C]at D
  exact⟨k,D,Jje K⟩
 rcases Oj2 len with h0|E
 ·subst h0
  exact⟨some a,cap,[],A,.inl rfl,fun v y=>by simp at y,Ob7 _⟩
 obtain⟨f,hf⟩:=choose_lt Z
 have H:a.spot=none:=by simpa [Addr.add] using Oo3 (hf 0 E).1
 obtain⟨b,o,br⟩:=a
 simp only at H
 subst H
 have R:b<W.heap.size:=by
  have:=Jm (hf 0 E).1
  simpa [Addr.add] using this
 refine⟨some ⟨b,o,none⟩,cap,(List.range len).map f,by rw[A];simp,.inr ⟨b,o,rfl,R,?_⟩,?_,by simp;omega⟩
 ·intro i v hi
  rw[Ob1,Ob1]at hi
  rcases Oc1 i len with z|z
  ·rw[Oh6 z]at hi
   simp at hi
   subst hi
   rw[←Op7]
   exact(hf i z).1
  rw[Ob4 (by simpa using z)]at hi
  simp at hi
 intro v y
 obtain⟨i,hi,rfl⟩:=Of0.1 y
 exact(hf i (Oj4.1 hi)).2
theorem Kd7 (h:DataW.trod enc Tryz.prog W base spare held fuel 23 cs=some x) :
  ∃ a cap,∃ (hs:List (Option Addr×Nat)) (rs:List (List V)),cs=[.slice a rs.length cap]∧Zd W a hs rs∧(∀ r∈rs,r.length≤maxLen∧∀ v∈r,Jg v.k∧Jg v.n):=by
 rcases open_slice1 Tryz.underlying23 Kcq h with⟨D,bl⟩|⟨a,len,cap,m,n,bz,bu,bx,D,bA,bB,bD,bi,bl,Z⟩
 ·exact⟨none,0,[],[],D,⟨rfl,.inl rfl,fun i O r A=>by simp at A⟩,fun r z=>by simp at z⟩
 have bC:len≤m:=by rw[bi];split<;>omega
 have bn:∀ i,i<len→∃ C:(Option Addr×Nat)×List V,W.cell? (a.add i)=some (Je1 C.1 C.2)∧Jv W C.1.1 C.2∧C.2.length≤maxLen∧∀ v∈C.2,Jg v.k∧Jg v.n:=by
  intro i hi
  obtain⟨H,X⟩:=Z i (by omega)
  obtain⟨R,U,br,E,bj,bc,bf⟩:=Kgk X
  simp at E
  rw[E]at H
  exact⟨((R,U),br),H,bj,bf,bc⟩
 rcases Oj2 len with h0|K
 ·subst h0
  exact⟨some a,cap,[],[],D,⟨rfl,.inl rfl,fun i O r A=>by simp at A⟩,fun r z=>by simp at z⟩
 haveI:Inhabited ((Option Addr×Nat)×List V):=⟨((none,0),[])⟩
 obtain⟨f,hf⟩:=choose_lt bn
 have M:a.spot=none:=by simpa [Addr.add] using Oo3 (hf 0 K).1
 obtain⟨b,o,bE⟩:=a
 simp only at M
 subst M
 have bh:b<W.heap.size:=by
  have:=Jm (hf 0 K).1
  simpa [Addr.add] using this
 refine⟨some ⟨b,o,none⟩,cap,(List.range len).map fun i=>(f i).1,(List.range len).map fun i=>(f i).2,by rw[D];simp,⟨by simp,.inr ⟨b,o,rfl,bh,?_⟩,?_⟩,?_⟩
 ·intro i v hi
  rw[Ok5]at hi
  rcases Oc1 i len with y|y
  ·simp[y]at hi
   subst hi
   rw[←Op7]
   exact(hf i y).1
  simp[Nat.not_lt.2 y]at hi
 ·intro i O r A z
  rcases Oc1 i len with y|y
  ·simp[y]at A z
   subst A z
   exact(hf i y).2.1
  simp[Nat.not_lt.2 y]at A
 intro r z
 obtain⟨i,hi,rfl⟩:=Of0.1 z
 have:=(hf i (Oj4.1 hi)).2.2
 exact⟨this.1,this.2⟩
theorem Kk5 (h:DataW.trod enc Tryz.prog W base spare held fuel 25 cs=some x) :
  ∃ bi z ct y R,∃ (ns:List Int) (hs:List (Option Addr×Nat)) (rs:List (List V)),cs=[.string bi,.slice z ns.length ct,.slice y rs.length R]∧Kc W z ns∧ns.length≤maxLen∧Zd W y hs rs∧(∀ r∈rs,r.length≤maxLen∧∀ v∈r,Jg v.k∧Jg v.n):=by
 obtain⟨bl,bn,br,bj,_,E,h0,U,X⟩:=trod_struct3 Tryz.underlying25 h
 rw[Jw7]at E
 obtain⟨c0,c1,c2,rfl⟩:=Kgy E
 obtain⟨s,A,_,_⟩:=Op4 Tryz.underlying9 h0
 obtain⟨H,M,ns,C,bf,_,Z⟩:=Kca U
 obtain⟨K,O,hs,rs,D,bh,bc⟩:=Kd7 X
 simp[Jh6]at A
 simp[Kar]at C
 simp[Jzo]at D
 subst A C D
 exact⟨s,H,M,K,O,ns,hs,rs,rfl,bf,Z,bh,bc⟩
end
theorem Jzc:Tryz.prog.cellsOf 51=7:=by kernel_rfl
theorem Kk4:Tryz.prog.cellsOf 26=1:=by kernel_rfl
theorem Jqg:Tryz.prog.cellsOf 28=4:=by kernel_rfl
section
variable {H:Type} {enc:TypeId×Value→H} {W:World} {base base':Nat} {spare:Nat→Bool} {held:Bool} {fuel:Nat} {cs:List Value} {x:DataW H×List MemPlace}
theorem Jqr {P:Program}{t:TypeId}{y z A C D:Field}(X:P.underlying t=some (.struct #[y,z,A,C,D]))(h:DataW.trod enc P W base spare held fuel t cs=some x) :
  ∃ E H K M O n,cs.length=P.cellsOf t∧DataW.trod enc P W base spare held n y.type ((cs.drop y.offset).take (P.cellsOf y.type))=some E∧DataW.trod enc P W base spare held n z.type ((cs.drop z.offset).take (P.cellsOf z.type))=some H∧DataW.trod enc P W base spare held n A.type ((cs.drop A.offset).take (P.cellsOf A.type))=some K∧DataW.trod enc P W base spare held n C.type ((cs.drop C.offset).take (P.cellsOf C.type))=some M∧DataW.trod enc P W base spare held n D.type ((cs.drop D.offset).take (P.cellsOf D.type))=some O:=by
 obtain⟨xs,n,_,rfl,R,U,hf⟩:=DataW.trod_struct X h
 match xs,U with
 |[E,H,K,M,O],_=>exact⟨E,H,K,M,O,n,R,by simpa using hf 0 y rfl,by simpa using hf 1 z rfl,by simpa using hf 2 A rfl,by simpa using hf 3 C rfl,by simpa using hf 4 D rfl⟩
theorem Jnw {P:Program}{t:TypeId}{y z A C:Field}(R:P.underlying t=some (.struct #[y,z,A,C]))(h:DataW.trod enc P W base spare held fuel t cs=some x) :
  ∃ D E H K n,x=(.agg [D.1,E.1,H.1,K.1],D.2++(E.2++(H.2++K.2)))∧cs.length=P.cellsOf t∧DataW.trod enc P W base spare held n y.type ((cs.drop y.offset).take (P.cellsOf y.type))=some D∧DataW.trod enc P W base spare held n z.type ((cs.drop z.offset).take (P.cellsOf z.type))=some E∧DataW.trod enc P W base spare held n A.type ((cs.drop A.offset).take (P.cellsOf A.type))=some H∧DataW.trod enc P W base spare held n C.type ((cs.drop C.offset).take (P.cellsOf C.type))=some K:=by
 obtain⟨xs,n,_,rfl,M,O,hf⟩:=DataW.trod_struct R h
 match xs,O with
 |[D,E,H,K],_=>exact⟨D,E,H,K,n,by simp,M,by simpa using hf 0 y rfl,by simpa using hf 1 z rfl,by simpa using hf 2 A rfl,by simpa using hf 3 C rfl⟩
theorem Kia {α:Type}{l:List α}(h:l.length=7):∃ c0 c1 c2 c3 c4 c5 y,l=[c0,c1,c2,c3,c4,c5,y]:=by
 match l,h with
 |[c0,c1,c2,c3,c4,c5,y],_=>exact⟨c0,c1,c2,c3,c4,c5,y,rfl⟩
theorem Khy {α:Type}{l:List α}(h:l.length=4):∃ c0 c1 c2 c3,l=[c0,c1,c2,c3]:=by
 match l,h with
 |[c0,c1,c2,c3],_=>exact⟨c0,c1,c2,c3,rfl⟩
theorem Kb0 {a:Addr}(br:W.cells? base' a 7=some cs)(h:DataW.trod enc Tryz.prog W base spare held fuel 51 cs=some x):a.spot=none∧∃ p:Pt,Qi W a.block a.off p∧Jko p:=by
 obtain⟨bP,bQ,bR,bS,bT,bM,_,h0,bc,bf,bh,bi⟩:=Jqr Tryz.underlying51 h
 obtain⟨_,bu,y⟩:=World.cells?_some br
 obtain⟨c0,c1,c2,c3,c4,c5,bL,rfl⟩:=Kia bu
 obtain⟨bx,z,_,R⟩:=Og3 Tryz.underlying3 h0
 obtain⟨bz,A,_,g1⟩:=Og3 Tryz.underlying3 bc
 obtain⟨bA,C,_,g2⟩:=Og3 Tryz.underlying3 bf
 obtain⟨bB,D,_,U⟩:=Og3 Tryz.underlying3 bh
 obtain⟨bU,bV,bW,bN,_,_,bj,bl,bn⟩:=trod_struct3 Tryz.underlying49 bi
 obtain⟨bC,E,_,X⟩:=Og3 Tryz.underlying3 bj
 obtain⟨bD,H,_,Z⟩:=Og3 Tryz.underlying2 bl
 obtain⟨s,K,_,_⟩:=Op4 Tryz.underlying9 bn
 have O:=y 0 (by omega)
 have bE:=y 1 (by omega)
 have bG:=y 2 (by omega)
 have bH:=y 3 (by omega)
 have bI:=y 4 (by omega)
 have bJ:=y 5 (by omega)
 have bK:=y 6 (by omega)
 have M:a.spot=none:=by simpa [Addr.add] using Oo3 O
 simp[Jf5]at z A C D
 simp[Jqt,Jf5]at E
 simp[Jqt,Jta]at H
 simp[Jqt,Jh6]at K
 subst z A C D E H K
 obtain⟨b,o,bO⟩:=a
 simp only at M
 subst M
 refine⟨rfl,⟨bx,bz,bA,bB,⟨bC,bD,s⟩⟩,⟨?_,?_,?_,?_,?_,?_,?_⟩,⟨Jje R,Jje g1,Jje g2,Jje U,Jje X,Jje Z⟩⟩
 ·simpa [Addr.add] using O
 ·simpa [Addr.add] using bE
 ·simpa [Addr.add] using bG
 ·simpa [Addr.add] using bH
 ·simpa [Addr.add] using bI
 ·simpa [Addr.add] using bJ
 simpa [Addr.add] using bK
theorem Kk6 (h:DataW.trod enc Tryz.prog W base spare held fuel 26 cs=some x) :
  ∃ a cap,∃ ps:List Pt,cs=[.slice a ps.length cap]∧Jfe W a ps∧(∀ p∈ps,Jko p)∧ps.length≤maxLen∧ps.length≤cap:=by
 rcases open_slice Tryz.underlying26 h with⟨A,bc⟩|⟨a,len,cap,m,n,bh,bi,A,bl,O,br,R,bc,K⟩
 ·exact⟨none,0,[],A,fun k p C=>by simp at C,fun v y=>by simp at y,Ob7 _,Ob7 _⟩
 have bn:len≤m:=by rw[R];split<;>omega
 have H:∀ i,i<len→(a.add (i*7)).spot=none∧∃ p:Pt,Qi W (a.add (i*7)).block (a.add (i*7)).off p∧Jko p:=by
  intro i hi
  obtain⟨bj,D,Z⟩:=K i (by omega)
  rw[Jzc]at D
  exact Kb0 D Z
 rcases Oj2 len with h0|X
 ·subst h0
  exact⟨some a,cap,[],A,fun k p C=>by simp at C,fun v y=>by simp at y,Ob7 _,Ob7 _⟩
 haveI:Inhabited Pt:=⟨⟨0,0,0,0,⟨0,0,ByteArray.empty⟩⟩⟩
 have E:=(H 0 X).1
 obtain⟨b,o,bu⟩:=a
 simp[Addr.add]at E
 subst E
 have bf:∀ i,i<len→∃ p:Pt,Qi W b (o+i*7) p∧Jko p:=by
  intro i hi
  obtain⟨v,y,M⟩:=(H i hi).2
  refine⟨v,?_,M⟩
  rcases Oj2 i with h0|h0
  ·subst h0
   simpa [Addr.add] using y
  have U:¬ i*7=0:=by omega
  simpa [Addr.add,U] using y
 obtain⟨f,hf⟩:=choose_lt bf
 refine⟨some ⟨b,o,none⟩,cap,(List.range len).map f,by rw[A];simp,?_,?_,by simp;omega,by simpa using O⟩
 ·intro i v hi
  refine⟨b,o,rfl,?_⟩
  rw[Ob1]at hi
  rcases Oc1 i len with z|z
  ·rw[Oh6 z]at hi
   simp at hi
   subst hi
   exact(hf i z).1
  rw[Ob4 (by simpa using z)]at hi
  simp at hi
 intro v y
 obtain⟨i,hi,rfl⟩:=Of0.1 y
 exact(hf i (Oj4.1 hi)).2
theorem Kk2 (h:DataW.trod enc Tryz.prog W base spare held fuel 28 cs=some x) :
  ∃ y z A C:Int,cs=[.int .i64 y,.int .i64 z,.int .i64 A,.int .i64 C]∧Jg y∧Jg z∧Jg A∧Jg C:=by
 obtain⟨bf,bh,bi,bj,bc,_,M,h0,U,X,Z⟩:=Jnw Tryz.underlying28 h
 rw[Jqg]at M
 obtain⟨c0,c1,c2,c3,rfl⟩:=Khy M
 obtain⟨y,D,_,O⟩:=Og3 Tryz.underlying3 h0
 obtain⟨z,E,_,g1⟩:=Og3 Tryz.underlying3 U
 obtain⟨A,H,_,g2⟩:=Og3 Tryz.underlying3 X
 obtain⟨C,K,_,R⟩:=Og3 Tryz.underlying3 Z
 simp[Jf5]at D E H K
 subst D E H K
 exact⟨y,z,A,C,rfl,Jje O,Jje g1,Jje g2,Jje R⟩
end
theorem Qm {a b:Bool}(y:a=true)(z:b=true):(a&&b)=true:=Og2.2 ⟨y,z⟩
theorem Kk0 {P:Program}{f:FuncId}{fn:Func}{s:ChangeSpec}{c:OpenClaim}
  (z:(c.wf (OpenSpec.ofChange s)&&laidOutB P&&mapsRowed P)=true) (bh:(fn.params.all (P.readableRec ·)&&namedTie P c.named s.vars)=true)
  (A:((c.stops==[])&&(P.stops==[])&&(c.knobs==[])&&(P.stopKnobs==[]))=true) (bx:(c.inPlace==P.inPlace f)=true) (bz:(c.unfollowed==P.unfollowed f)=true) (bA:(c.recurses==P.recurses f)=true) (bB:(c.named==P.varsNamed f)=true)
  (y:((c.maps==(fn.params.toList++s.plain.varTypes P).any (P.mapsRec ·))&&(c.ifaces==(fn.params.toList++s.plain.varTypes P).any (P.ifacesRec ·))&&(c.mapsOut==P.mapsAmong fn.resultTypes.toList)&&(c.loops==(fn.params.toList++s.plain.varTypes P).any (P.loopsFrom ·))&&(c.wideKeys==(fn.params.toList++s.plain.varTypes P++fn.resultTypes.toList).any (P.wideKeysFrom ·))&&s.vars.all (P.varReadable ·)&&fn.resultTypes.all (fun t=>P.readableRec t&&decide (t<P.types.size))&&(c.ifacesOut==fn.resultTypes.toList.any (P.ifacesRec ·))&&(c.loopsOut==fn.resultTypes.toList.any (P.loopsFrom ·)))=true)
  (bM:(c.plainKeys==P.plainKeys)=true) (C:c.shortTexts.isNone=true) (D:P.stopsHeard=true) (E:P.mayEnter=true) (H:(c.lifted==P.liftsFinal)=true) (K:(P.make==some c.make)=true)
  (M:(c.kinds==(if c.domain.isEmpty then []else fn.params.toList.map fun t=>match P.underlying t with|some (.int k)=>some k|_=>none))=true) (O:(c.pinned==c.pinnedBy)=true)
  (R:((c.veiled==(fn.params.toList++s.plain.varTypes P++fn.resultTypes.toList).any (P.veiledRec ·))&&c.veiledFits P fn.params.toList (fn.params.toList++s.plain.varTypes P++fn.resultTypes.toList))=true):joinedFacts P f fn s c=true:=by
 obtain⟨bi,bj⟩:=Og2.1 bh
 obtain⟨U,X⟩:=Og2.1 R
 simp only[Og5]at z A
 obtain⟨⟨Z,bc⟩,bf⟩:=z
 obtain⟨⟨⟨bl,bn⟩,br⟩,bu⟩:=A
 obtain⟨y,bL⟩:=Og2.1 y
 obtain⟨y,bK⟩:=Og2.1 y
 obtain⟨y,bJ⟩:=Og2.1 y
 obtain⟨y,bI⟩:=Og2.1 y
 obtain⟨y,bH⟩:=Og2.1 y
 obtain⟨y,bG⟩:=Og2.1 y
 obtain⟨y,bE⟩:=Og2.1 y
 obtain⟨bC,bD⟩:=Og2.1 y
 unfold joinedFacts
 exact Qm (Qm (Qm (Qm (Qm (Qm (Qm (Qm (Qm (Qm (Qm (Qm (Qm (Qm (Qm (Qm (Qm (Qm (Qm (Qm (Qm (Qm (Qm (Qm (Qm (Qm (Qm (Qm (Qm (Qm (Qm Z bc) bf) bi) bj) bl) bn) br) bu) bx) bz) bA) bB) bC) bD) bE) bG) bH) bI) bJ) bK) bL) bM) C) D) E) H) K) M) O) U) X
end Go.Proofs.YtjjdldddcegjiaaGreatDoor
