/- What the arguments and the named errors are, read off their reading: a list of values lies in its cells, and the errors are different pointers. Nothing is run. -/
import Derived.Test.YtcaocabmioafcaaGreatDoorEw
import Derived.Test.YtcaocabmioafcaaGreatDoorRows
import Derived.Deep.Strs
import Derived.LaidMore
import Derived.LaidSub
import Derived.LaidHandle
import Derived.Stop.LaidErr
import Derived.MakeChecks
import Derived.Test.YtcaocabmioafcaaGreatDoorKe
import Derived.Test.YtcaocabmioafcaaGreatDoorKm
import Derived.Test.YtcaocabmioafcaaGreatDoorWk
set_option maxRecDepth 100000
namespace Go.Proofs.YtcaocabmioafcaaGreatDoor
section
open Go.RowKit Go.Deep Go.ChangeShapes Go.WideShapes
theorem Jqt:Tryz.prog.cellsOf 55=3:=by kernel_rfl
theorem Jf5:Tryz.prog.cellsOf 3=1:=by kernel_rfl
theorem Jta:Tryz.prog.cellsOf 2=1:=by kernel_rfl
theorem Jh6:Tryz.prog.cellsOf 9=1:=by kernel_rfl
theorem Jra:Tryz.prog.cellsOf 546=1:=by kernel_rfl
theorem Qci:Tryz.prog.bytesOf 55=32:=by kernel_rfl
theorem Kgy {α:Type}{l:List α}(h:l.length=3):∃ x y z,l=[x,y,z]:=by
 match l,h with
 |[x,y,z],_=>exact⟨x,y,z,rfl⟩
theorem Kh6 : "*" ++ "errors.errorString" = "*errors.errorString" := by decide
theorem Kfo (u : TypeId) (h : Tryz.prog.typeName? 3 u = some "*errors.errorString") : u = 528 :=
 typeName_ptr_named (nm := "errors.errorString") (by rw [Kh6]; kernel_rfl) (by kernel_rfl) (by decide) u (by rw [Kh6]; exact h)
theorem Khq : Tryz.prog.globalNamed "colrun/segments.ErrArg" = some 15 := by kernel_rfl
theorem Kgv : Tryz.prog.globalNamed "colrun/segments.ErrDict" = some 2 := by kernel_rfl
theorem Kgw : Tryz.prog.globalNamed "colrun/segments.ErrForm" = some 3 := by kernel_rfl
theorem Kei : Tryz.prog.globalNamed "colrun/tables.ErrTable" = some 0 := by kernel_rfl
theorem Kcy : Tryz.prog.globalNamed "colrun/disk.ErrQuota" = some 4 := by kernel_rfl
theorem Kbs : Tryz.prog.globalNamed "colrun/disk.ErrWrite" = some 5 := by kernel_rfl
theorem Kgt : Tryz.prog.globalNamed "colrun/disk.ErrPage" = some 6 := by kernel_rfl
theorem Kgx : Tryz.prog.globalNamed "colrun/plans.ErrPlan" = some 7 := by kernel_rfl
theorem Kgq : Tryz.prog.globalNamed "colrun/exprs.ErrExpr" = some 8 := by kernel_rfl
theorem Jyg : Tryz.prog.globalNamed "colrun/exprs.ErrDivide" = some 9 := by kernel_rfl
theorem Jo5 : Tryz.prog.globalNamed "colrun/exprs.ErrOverflow" = some 10 := by kernel_rfl
theorem Jmz : Tryz.prog.globalNamed "colrun/groups.ErrOverflow" = some 11 := by kernel_rfl
theorem Kgz : Tryz.prog.globalNamed "colrun/columns.ErrMany" = some 12 := by kernel_rfl
theorem Khx : Tryz.prog.globalNamed "errors.errorType" = some 14 := by kernel_rfl
theorem Kdh : (Tryz.prog.cutTypes.find? (·.1 == "internal/reflectlite.rtype")).map (·.2) = some 302 := by kernel_rfl
theorem Khn:((List.range 557).filter fun t=>Tryz.prog.rowNamed t [101,114,114,111,114])=[108]:=by kernel_rfl
theorem Kfh:Tryz.prog.types.size=557:=by kernel_rfl
theorem Jie {α β:Type}(f:α→β):∀ l:List α,(l.map f).Nodup→l.Nodup
 |[],_=>List.nodup_nil
 |x::l,h=>by
  rw[Oe4,Og0]at h
  exact Og0.2 ⟨fun A=>h.1 (List.mem_map_of_mem A),Jie f l h.2⟩
def Khu {α β:Type}(A:α→β→Prop):List α→List β→Prop
 |[],m=>m=[]
 |a::l,m=>∃ b k,m=b::k∧A a b∧Khu A l k
abbrev Khp (nm:String)(A:List UInt8):DataW Unit:=.iface nm (.ptr (.agg [.lit (.string A)]))
theorem Kah {P:Program}{nm:String}{W:World}{U L K ts:TypeId}{bE:Array (String×TypeId)}{f:Field}
  (hi:P.underlying U=some (.interface bE)) (bx:∀ u,P.typeName? 3 u=some nm→u=L)
  (br:P.underlying L=some (.pointer K)) (bi:P.underlying K=some (.struct #[f])) (bk:f.type=ts) (bj:f.offset=0) (hs:P.underlying ts=some .string) (bc:P.cellsOf K=1) (bf:P.cellsOf ts=1) :
  ∀ (l:List (String×List UInt8)) (H:List MemPlace),DataW.LaidVars P W (l.map fun x=>(x.1,Khp nm x.2)) H→(∀ x∈l,∃ g,P.globalNamed x.1=some g∧(P.globals[g]?).map (·.type)=some U) →
   (∀ b J,MemPlace.cell b J∈H→∀ u v,W.cell? ⟨b,J,none⟩=some (.iface u v)→Value.okWide P W .any 0 u v) →
   ∃ A:List Addr,Khu (fun x a=>W.var? P x.1=some #[.iface L (.pointer (some a))]) l A∧(A.map fun a=>MemPlace.cell a.block a.off).Sublist H:=by
 intro l
 induction l with
 |nil=>intro H _ _ _;exact⟨[],rfl,by simp⟩
 |cons x l bC=>
  intro H h M O
  obtain⟨bJ,bM,X,bI,bK,bH,bl,bz,R,bh,bu,Y⟩:=h
  obtain⟨Z,N,bA⟩:=M x (by simp)
  obtain rfl:=Oj6 (N.symm.trans bl)
  obtain rfl:=Oj6 (bA.symm.trans bz)
  subst Y
  obtain⟨A,ba,bb⟩:=bC bH bu (fun y bB=>M y (by simp[bB])) (fun b J bn=>O b J (by simp[bn]))
  obtain⟨bD⟩:=X
  have bG:∀ u v,bD=[.iface u v]→Value.okWide P W .any 0 u v:=fun u v e=>by
   subst e
   exact O Z 0 (by simp[MemPlace.row]) u v (by simpa using Of9 N R 0)
  obtain⟨I,bL,rfl,_,_,_,rfl⟩:=errorString_of_trod hi bx br bi bk bj hs bc bf bh bG
  refine⟨I::A,⟨I,A,rfl,R,ba⟩,?_⟩
  simp only[Oe4]
  refine List.Sublist.trans (List.Sublist.append (l₁:=[MemPlace.cell I.block I.off]) (l₂:=_++_) ?_ bb) (List.Sublist.refl _)
  exact(List.singleton_sublist.2 (by simp[MemPlace.row]))
theorem Jzb {W : World} {hs : List (String × DataW Unit)} (h : handlesMet Tryz.prog hs W) (hm : ("errors.errorType", .iface "internal/reflectlite.rtype" (.agg [.ptr (.lit (.string [101, 114, 114, 111, 114]))])) ∈ hs) :
  W.cell? ⟨14,0,none⟩=some (.iface 302 (.agg #[.pointer (some ⟨17,108,none⟩)])):=by
 obtain⟨name,u,ty,e1,e2,e3,e4,e5⟩:=h _ hm
 have en:name=[101,114,114,111,114]:=(Oj6 e1).symm
 subst en
 obtain rfl:=Oj6 (Kdh.symm.trans e2)
 have hm:ty∈(List.range 557).filter fun t=>Tryz.prog.rowNamed t [101,114,114,111,114]:=Om0.2 ⟨Oj4.2 (by rw[←Kfh];exact e3),e4⟩
 rw[Khn]at hm
 obtain rfl:=Oc6.1 hm
 have hh:typeHandle Tryz.prog 108=.pointer (some ⟨17,108,none⟩):=by kernel_rfl
 rw[hh]at e5
 simpa using Of9 Khx e5 0
theorem Jyc : Tryz.prog.globalNamed "colrun/tables.ErrArg" = some 1 := by kernel_rfl
theorem Kcd : Tryz.prog.globalNamed "colrun/work.ErrArg" = some 13 := by kernel_rfl
theorem Jzs : ∀ x ∈ ["colrun/columns.ErrMany", "colrun/disk.ErrQuota", "colrun/disk.ErrWrite", "colrun/disk.ErrPage", "colrun/exprs.ErrExpr", "colrun/exprs.ErrDivide", "colrun/exprs.ErrOverflow", "colrun/groups.ErrOverflow", "colrun/plans.ErrPlan", "colrun/segments.ErrArg", "colrun/segments.ErrDict", "colrun/segments.ErrForm", "colrun/tables.ErrArg", "colrun/tables.ErrTable", "colrun/work.ErrArg"], ∃ g, Tryz.prog.globalNamed x = some g ∧ (Tryz.prog.globals[g]?).map (·.type) = some 108 := by
 intro x hx
 simp only[Of1,Oi0,or_false]at hx
 rcases hx with rfl|rfl|rfl|rfl|rfl|rfl|rfl|rfl|rfl|rfl|rfl|rfl|rfl|rfl|rfl
 ·exact⟨_,Kgz,by kernel_rfl⟩
 ·exact⟨_,Kcy,by kernel_rfl⟩
 ·exact⟨_,Kbs,by kernel_rfl⟩
 ·exact⟨_,Kgt,by kernel_rfl⟩
 ·exact⟨_,Kgq,by kernel_rfl⟩
 ·exact⟨_,Jyg,by kernel_rfl⟩
 ·exact⟨_,Jo5,by kernel_rfl⟩
 ·exact⟨_,Jmz,by kernel_rfl⟩
 ·exact⟨_,Kgx,by kernel_rfl⟩
 ·exact⟨_,Khq,by kernel_rfl⟩
 ·exact⟨_,Kgv,by kernel_rfl⟩
 ·exact⟨_,Kgw,by kernel_rfl⟩
 ·exact⟨_,Jyc,by kernel_rfl⟩
 ·exact⟨_,Kei,by kernel_rfl⟩
 exact⟨_,Kcd,by kernel_rfl⟩
theorem Kk1 {W:World}{t0 t1 t2 t3 t4 t5 t6 t7 t8 t9 t10 t11 t12 t13 t14:List UInt8}{hs:List (String×DataW Unit)}
  (h : laidMet Tryz.prog ([("colrun/columns.ErrMany", t0), ("colrun/disk.ErrQuota", t1), ("colrun/disk.ErrWrite", t2), ("colrun/disk.ErrPage", t3), ("colrun/exprs.ErrExpr", t4), ("colrun/exprs.ErrDivide", t5), ("colrun/exprs.ErrOverflow", t6), ("colrun/groups.ErrOverflow", t7), ("colrun/plans.ErrPlan", t8), ("colrun/segments.ErrArg", t9), ("colrun/segments.ErrDict", t10), ("colrun/segments.ErrForm", t11), ("colrun/tables.ErrArg", t12), ("colrun/tables.ErrTable", t13), ("colrun/work.ErrArg", t14)].map fun x => (x.1, Khp "*errors.errorString" x.2)) W)
  (hh : handlesMet Tryz.prog hs W) (hm : ("errors.errorType", .iface "internal/reflectlite.rtype" (.agg [.ptr (.lit (.string [101, 114, 114, 111, 114]))])) ∈ hs) :
  ∃ a0 a1 a2 tt q wr pg pl ex ta,Jf0 W a0 a1 a2∧Jkn W a0 a1 a2 tt q wr pg∧Jhy W [a0,a1,a2,tt,q,wr,pg] pl ex∧W.cell? ⟨1,0,none⟩=some (.iface 528 (.pointer (some ta)))∧(∃ c t,W.heap[ta.block]?=some (.cells c t (0,0)))∧ta∉[a0,a1,a2,tt,q,wr,pg,pl,ex]∧(∃ dv ov gv mn,Jig W [ex,pl,a0,a1,a2,tt,q,wr,pg] dv ov gv mn∧ta∉[dv,ov,gv,mn]):=by
 obtain⟨ps,hl,hnd,hrows⟩:=h
 obtain⟨ads,h1,h2⟩:=Kah Tryz.underlying108 Kfo Tryz.underlying528 Tryz.underlying546 rfl rfl Tryz.underlying9 Jra Jh6 _ ps hl
  (fun x hx=>Jzs x.1 (by simp only[Of1,Oi0,or_false]at hx;rcases hx with rfl|rfl|rfl|rfl|rfl|rfl|rfl|rfl|rfl|rfl|rfl|rfl|rfl|rfl|rfl<;>simp)) (fun b off hp=>(hrows b off hp).2)
 obtain⟨mn,m0,rfl,v0,h1⟩:=h1
 obtain⟨q,m1,rfl,v1,h1⟩:=h1
 obtain⟨wr,m2,rfl,v2,h1⟩:=h1
 obtain⟨pg,m3,rfl,v3,h1⟩:=h1
 obtain⟨ex,m4,rfl,v4,h1⟩:=h1
 obtain⟨dv,m5,rfl,v5,h1⟩:=h1
 obtain⟨ov,m6,rfl,v6,h1⟩:=h1
 obtain⟨gv,m7,rfl,v7,h1⟩:=h1
 obtain⟨pl,m8,rfl,v8,h1⟩:=h1
 obtain⟨a0,m9,rfl,v9,h1⟩:=h1
 obtain⟨a1,m10,rfl,v10,h1⟩:=h1
 obtain⟨a2,m11,rfl,v11,h1⟩:=h1
 obtain⟨ta,m12,rfl,v12,h1⟩:=h1
 obtain⟨tt,m13,rfl,v13,h1⟩:=h1
 obtain⟨wa,m14,rfl,v14,h1⟩:=h1
 obtain rfl:=h1
 have hn:=hnd.sublist h2
 have hb:∀ a:Addr,MemPlace.cell a.block a.off∈ps→∃ c t,W.heap[a.block]?=some (.cells c t (0,0)):=fun a ha=>(hrows _ _ ha).1
 have hin:=h2.subset
 have hn2:[mn,q,wr,pg,ex,dv,ov,gv,pl,a0,a1,a2,ta,tt,wa].Nodup:=Jie _ _ hn
 have hn3:[wa,ta,mn,gv,ov,dv,ex,pl,a0,a1,a2,tt,q,wr,pg].Nodup:=(List.Perm.nodup_iff (by
  refine(List.perm_iff_count.2 fun x=>?_)
  simp only[List.count_cons,List.count_nil]
  omega)).1 hn2
 obtain⟨n_wa,hn3⟩:=Og0.1 hn3
 obtain⟨n_ta,hn3⟩:=Og0.1 hn3
 obtain⟨n_mn,hn3⟩:=Og0.1 hn3
 obtain⟨n_gv,hn3⟩:=Og0.1 hn3
 obtain⟨n_ov,hn3⟩:=Og0.1 hn3
 obtain⟨n_dv,hn3⟩:=Og0.1 hn3
 obtain⟨n_ex,hn3⟩:=Og0.1 hn3
 obtain⟨n_pl,hn3⟩:=Og0.1 hn3
 have hm3:Jig W [ex,pl,a0,a1,a2,tt,q,wr,pg] dv ov gv mn:=⟨by simpa using Of9 Jyg v5 0,by simpa using Of9 Jo5 v6 0,by simpa using Of9 Jmz v7 0,by simpa using Of9 Kgz v0 0,hb dv (hin (by simp)),hb ov (hin (by simp)),hb gv (hin (by simp)),hb mn (hin (by simp)),n_dv,n_ov,n_gv,n_mn⟩
 have hm2:Jhy W [a0,a1,a2,tt,q,wr,pg] pl ex:=⟨by simpa using Of9 Kgx v8 0,by simpa using Of9 Kgq v4 0,hb pl (hin (by simp)),hb ex (hin (by simp)),n_pl,List.not_mem_of_not_mem_cons n_ex,dv,ov,gv,mn,hm3⟩
 have hm1:Jkn W a0 a1 a2 tt q wr pg:=⟨by simpa using Of9 Kei v13 0,by simpa using Of9 Kcy v1 0,by simpa using Of9 Kbs v2 0,by simpa using Of9 Kgt v3 0,Jzb hh hm,hb tt (hin (by simp)),hb q (hin (by simp)),hb wr (hin (by simp)),hb pg (hin (by simp)),hn3,pl,ex,hm2⟩
 have he:Jf0 W a0 a1 a2:=⟨by simpa using Of9 Khq v9 0,by simpa using Of9 Kgv v10 0,by simpa using Of9 Kgw v11 0,hb a0 (hin (by simp)),hb a1 (hin (by simp)),hb a2 (hin (by simp)),tt,q,wr,pg,hm1⟩
 simp only[Of1,Oi0,or_false,not_or]at n_ta
 exact⟨a0,a1,a2,tt,q,wr,pg,pl,ex,ta,he,hm1,hm2,by simpa using Of9 Jyc v12 0,hb ta (hin (by simp)),by simp[n_ta],dv,ov,gv,mn,hm3,by simp[n_ta]⟩
end
section
open Go.RowKit Go.Deep Go.ChangeShapes Go.WideShapes
theorem Jje {n:Int}(h:(Lit.int .i64 n).wf=true):Jg n:=by
 simp[Lit.wf,IntKind.min,IntKind.max,IntKind.signed,IntKind.bits]at h
 exact⟨h.1,h.2⟩
theorem Kht {H:Type}{enc:TypeId×Value→H}{W:World}{base N:Nat}{bc:Nat→Bool}{held:Bool}{fuel:Nat}{cs:List Value}{x:DataW H×List MemPlace}{a:Addr}
  (X:W.cells? N a 3=some cs) (h:DataW.trod enc Tryz.prog W base bc held fuel 55 cs=some x):a.spot=none∧∃ v:V,VAt W a.block a.off v∧Jg v.k∧Jg v.n:=by
 obtain⟨bi,bj,bk,bf,_,_,h0,R,U⟩:=trod_struct3 Tryz.underlying55 h
 obtain⟨_,Y,A⟩:=World.cells?_some X
 obtain⟨c0,c1,c2,rfl⟩:=Kgy Y
 obtain⟨k,I,_,O⟩:=Og3 Tryz.underlying3 h0
 obtain⟨Z,J,_,g1⟩:=Og3 Tryz.underlying2 R
 obtain⟨s,K,_,_⟩:=Op4 Tryz.underlying9 U
 have M:=A 0 (by omega)
 have ba:=A 1 (by omega)
 have bb:=A 2 (by omega)
 have L:a.spot=none:=by simpa [Addr.add] using Oo3 M
 simp[Jf5]at I
 simp[Jta]at J
 simp[Jh6]at K
 subst I J K
 obtain⟨b,o,bh⟩:=a
 simp only at L
 subst L
 refine⟨rfl,⟨k,Z,s⟩,⟨?_,?_,?_⟩,Jje O,Jje g1⟩
 ·simpa [Addr.add] using M
 ·simpa [Addr.add] using ba
 simpa [Addr.add] using bb
theorem Kcq:Tryz.prog.cellsOf 57=1:=by kernel_rfl
theorem Kar:Tryz.prog.cellsOf 27=1:=by kernel_rfl
theorem Jzo:Tryz.prog.cellsOf 28=1:=by kernel_rfl
theorem Jw7:Tryz.prog.cellsOf 30=3:=by kernel_rfl
section
variable {H:Type} {enc:TypeId×Value→H} {W:World} {base:Nat} {spare:Nat→Bool} {held:Bool} {fuel:Nat} {cs:List Value} {x:DataW H×List MemPlace}
theorem Kgk (h:DataW.trod enc Tryz.prog W base spare held fuel 57 cs=some x) :
  ∃ a cap,∃ xs:List V,cs=[.slice a xs.length cap]∧Jv W a xs∧(∀ v∈xs,Jg v.k∧Jg v.n)∧xs.length≤maxLen:=by
 rcases open_slice Tryz.underlying57 h with⟨I,ba⟩|⟨a,len,cap,m,n,D,Pl,I,bf,bh,bj,X,ba,O⟩
 ·exact⟨none,0,[],I,.inl rfl,fun v A=>by simp at A,Ob7 _⟩
 have bi:len≤m:=by rw[X];split<;>omega
 have N:∀ i,i<len→(a.add (i*3)).spot=none∧∃ v:V,VAt W (a.add (i*3)).block (a.add (i*3)).off v∧Jg v.k∧Jg v.n:=by
  intro i hi
  obtain⟨bc,K,Z⟩:=O i (by omega)
  rw[Jqt]at K
  exact Kht K Z
 rcases Oj2 len with h0|L
 ·subst h0
  exact⟨some a,cap,[],I,.inl rfl,fun v A=>by simp at A,Ob7 _⟩
 haveI:Inhabited V:=⟨⟨0,0,ByteArray.empty⟩⟩
 have M:=(N 0 L).1
 obtain⟨b,o,bk⟩:=a
 simp[Addr.add]at M
 subst M
 have bb:∀ i,i<len→∃ v:V,VAt W b (o+i*3) v∧Jg v.k∧Jg v.n:=by
  intro i hi
  obtain⟨v,A,R⟩:=(N i hi).2
  refine⟨v,?_,R⟩
  rcases Oj2 i with h0|h0
  ·subst h0
   simpa [Addr.add] using A
  have Y:¬ i*3=0:=by omega
  simpa [Addr.add,Y] using A
 obtain⟨f,J⟩:=choose_lt bb
 have U:b<W.heap.size:=Jm (J 0 L).1.1
 refine⟨some ⟨b,o,none⟩,cap,(List.range len).map f,by rw[I];simp,.inr ⟨b,o,rfl,U,?_⟩,?_,by simp;omega⟩
 ·intro i v hi
  rw[Ob1]at hi
  rcases Oc1 i len with H|H
  ·rw[Oh6 H]at hi
   simp at hi
   subst hi
   exact(J i H).1
  rw[Ob4 (by simpa using H)]at hi
  simp at hi
 intro v A
 obtain⟨i,hi,rfl⟩:=Of0.1 A
 exact(J i (Oj4.1 hi)).2
theorem Kca (h:DataW.trod enc Tryz.prog W base spare held fuel 27 cs=some x) :
  ∃ a cap,∃ K:List Int,cs=[.slice a K.length cap]∧Kc W a K∧(∀ n∈K,Jg n)∧K.length≤maxLen:=by
 rcases open_slice1 Tryz.underlying27 Jf5 h with⟨I,ba⟩|⟨a,len,cap,m,n,bc,D,Pl,I,bf,bh,bj,Z,ba,X⟩
 ·exact⟨none,0,[],I,.inl rfl,fun v A=>by simp at A,Ob7 _⟩
 have bi:len≤m:=by rw[Z];split<;>omega
 have bb:∀ i,i<len→∃ k:Int,W.cell? (a.add i)=some (.int .i64 k)∧Jg k:=by
  intro i hi
  obtain⟨M,U⟩:=X i (by omega)
  obtain⟨k,L,_,R⟩:=Og3 Tryz.underlying3 U
  simp at L
  rw[L]at M
  exact⟨k,M,Jje R⟩
 rcases Oj2 len with h0|N
 ·subst h0
  exact⟨some a,cap,[],I,.inl rfl,fun v A=>by simp at A,Ob7 _⟩
 obtain⟨f,J⟩:=choose_lt bb
 have O:a.spot=none:=by simpa [Addr.add] using Oo3 (J 0 N).1
 obtain⟨b,o,bk⟩:=a
 simp only at O
 subst O
 have Y:b<W.heap.size:=by
  have:=Jm (J 0 N).1
  simpa [Addr.add] using this
 refine⟨some ⟨b,o,none⟩,cap,(List.range len).map f,by rw[I];simp,.inr ⟨b,o,rfl,Y,?_⟩,?_,by simp;omega⟩
 ·intro i v hi
  rw[Ob1,Ob1]at hi
  rcases Oc1 i len with H|H
  ·rw[Oh6 H]at hi
   simp at hi
   subst hi
   rw[←Addr.add_lit]
   exact(J i H).1
  rw[Ob4 (by simpa using H)]at hi
  simp at hi
 intro v A
 obtain⟨i,hi,rfl⟩:=Of0.1 A
 exact(J i (Oj4.1 hi)).2
end
theorem Qav:Tryz.prog.bytesOf 3=8:=by kernel_rfl
theorem Qac:Tryz.prog.bytesOf 57=24:=by kernel_rfl
theorem Kvx:Tryz.prog.cellsOf 32=5:=by kernel_rfl
theorem Kx1:Tryz.prog.cellsOf 34=1:=by kernel_rfl
theorem Kwd:Tryz.prog.cellsOf 36=1:=by kernel_rfl
section
variable {H:Type} {enc:TypeId×Value→H} {W:World} {base:Nat} {spare:Nat→Bool} {held:Bool} {fuel:Nat} {cs:List Value} {x:DataW H×List MemPlace}
def Ktm (t:TypeId)(d:DataW H):Prop:=∀ u∈DataW.weights Tryz.prog t d,u≤reachBytes
theorem Ky8 {e:TypeId}{d:DataW H}{u:Nat}:∀ {l:List (DataW H)},d∈l→u∈DataW.weights Tryz.prog e d→u∈DataW.weightsAll Tryz.prog e l
 |y::l,h,A=>by
  rw[DataW.weightsAll]
  rcases Of1.1 h with rfl|h
  ·exact Od2.2 (.inl A)
  exact Od2.2 (.inr (Ky8 h A))
theorem Kvi {t e:TypeId}(A:Tryz.prog.underlying t=some (.slice e)){D:Nat→DataW H}{len:Nat}{J:List (DataW H)}(hw:Ktm t (.slice ((List.range len).map D) J)){i:Nat}(hi:i<len):Ktm e (D i):=fun u I=>hw u (by
 simp only[DataW.weights,A]
 exact Og1 _ (Od2.2 (.inl (Ky8 (Of0.2 ⟨i,Oj4.2 hi,rfl⟩) I))))
theorem Kv9 {t e:TypeId}(I:Tryz.prog.underlying t=some (.slice e)){D:Nat→DataW H}{len:Nat}{A:List (DataW H)}(hw:Ktm t (.slice ((List.range len).map D) A)):len*Tryz.prog.bytesOf e≤reachBytes:=by
 have:=hw ((((List.range len).map D).length+A.length)*Tryz.prog.bytesOf e) (by simp only[DataW.weights,I];exact Of4)
 refine Ob2 (Om8 _ ?_) this
 simp
theorem Kuo {t e:TypeId}(I:Tryz.prog.underlying t=some (.slice e))(h:DataW.trod enc Tryz.prog W base spare held fuel t cs=some x)(hw:Ktm t x.1){a:Option Addr}{len cap:Nat}(A:cs=[.slice a len cap]):len*Tryz.prog.bytesOf e≤reachBytes:=by
 rcases open_slice I h with⟨H,_⟩|⟨K,M,L,m,n,D,Pl,H,_,_,_,_,J,_⟩
 ·rw[H]at A
  cases A
  simp
 rw[H]at A
 cases A
 rw[J]at hw
 exact Kv9 I hw
theorem Ktb {t:TypeId}{A:Array Field}(L:Tryz.prog.underlying t=some (.struct A)){I:List (DataW H)}(hw:Ktm t (.agg I))(i:Nat){t':TypeId}{y:DataW H}(J:(A.toList.map (·.type))[i]?=some t')(K:I[i]?=some y):Ktm t' y:=fun u M=>hw u (by
 simp only[DataW.weights,L]
 exact DataW.weights_mem_each J K u M)
theorem Kxg {α:Type} [Inhabited α] (Q:Nat→Nat→α→Prop) {a:Addr} {len z:Nat} (M:0<z) (I:∀ i,i<len→(a.add (i*z)).spot=none∧∃ x,Q (a.add (i*z)).block (a.add (i*z)).off x):len=0∨∃ b o,a=⟨b,o,none⟩∧∃ f:Nat→α,∀ i,i<len→Q b (o+i*z) (f i):=by
 rcases Oj2 len with h0|L
 ·exact .inl h0
 have A:=(I 0 L).1
 obtain⟨b,o,O⟩:=a
 simp[Addr.add]at A
 subst A
 have N:∀ i,i<len→∃ x,Q b (o+i*z) x:=by
  intro i hi
  obtain⟨x,H⟩:=(I i hi).2
  refine⟨x,?_⟩
  rcases Oj2 i with h0|h0
  ·subst h0
   simpa [Addr.add] using H
  have K:¬ i*z=0:=by
   have:=Nat.mul_pos h0 M
   omega
  simpa [Addr.add,K] using H
 obtain⟨f,J⟩:=choose_lt N
 exact .inr ⟨b,o,rfl,f,J⟩
theorem Ku2 {α:Type}{f:Nat→α}{len i:Nat}{x:α}(h:((List.range len).map f)[i]?=some x):i<len∧x=f i:=by
 rw[Ob1]at h
 rcases Oc1 i len with A|A
 ·rw[Oh6 A]at h
  simp at h
  exact⟨A,h.symm⟩
 rw[Ob4 (by simpa using A)]at h
 simp at h
theorem Khy {α:Type}{l:List α}(h:l.length=4):∃ a b c d,l=[a,b,c,d]:=by
 match l,h with
 |[a,b,c,d],_=>exact⟨a,b,c,d,rfl⟩
theorem Qcj {α:Type}{l:List α}(h:l.length=5):∃ a b c d e,l=[a,b,c,d,e]:=by
 match l,h with
 |[a,b,c,d,e],_=>exact⟨a,b,c,d,e,rfl⟩
theorem Kv7 (h:DataW.trod enc Tryz.prog W base spare held fuel 27 cs=some x)(hw:Ktm 27 x.1):∃ a cap,∃ A:List Int,cs=[.slice a A.length cap]∧Kc W a A∧A.length≤17592186044415:=by
 obtain⟨a,cap,A,I,hi,_,_⟩:=Kca h
 have H:=Kuo Tryz.underlying27 h hw I
 rw[Qav]at H
 unfold reachBytes at H
 exact⟨a,cap,A,I,hi,by omega⟩
theorem Kzd (h:DataW.trod enc Tryz.prog W base spare held fuel 28 cs=some x)(hw:Ktm 28 x.1) :
  ∃ a cap,∃ (hs:List (Option Addr×Nat)) (rs:List (List V)),cs=[.slice a rs.length cap]∧Zd W a hs rs∧(∀ r∈rs,r.length≤4398046511103)∧rs.length≤5864062014805∧rs.length≤cap∧∀ r∈rs,∀ v∈r,Jg v.n:=by
 rcases open_slice Tryz.underlying28 h with⟨H,_⟩|⟨a,len,cap,m,n,D,Pl,H,_,br,_,bf,bl,bc⟩
 ·exact⟨none,0,[],[],H,⟨rfl,.inl rfl,fun i y r A=>by simp at A⟩,by simp,by simp,by simp,by simp⟩
 have bu:len≤m:=by rw[bf];split<;>omega
 rw[bl]at hw
 have N:=Kv9 Tryz.underlying28 hw
 rw[Qac]at N
 unfold reachBytes at N
 haveI:Inhabited ((Option Addr×Nat)×List V):=⟨((none,0),[])⟩
 rcases Kxg (fun b o (z:(Option Addr×Nat)×List V)=>(W.cell? ⟨b,o,none⟩=some (Je1 z.1 z.2)∧Jv W z.1.1 z.2)∧z.2.length≤4398046511103∧b<W.heap.size∧∀ v∈z.2,Jg v.n) (a:=a) (len:=len) (z:=1) (by decide) (fun i hi=>by
  obtain⟨bn,R,X⟩:=bc i (by omega)
  rw[Kcq]at R
  obtain⟨pa,pc,M,U,bi,bk,_⟩:=Kgk X
  have O:=Kuo Tryz.underlying57 X (Kvi Tryz.underlying28 hw hi) U
  rw[Qci]at O
  unfold reachBytes at O
  subst U
  obtain⟨_,_,bb⟩:=World.cells?_some R
  have L:=bb 0 (by omega)
  have K:(a.add (i*1)).spot=none:=by simpa [Addr.add] using Oo3 L
  generalize a.add (i*1)=Z at L K
  obtain⟨b,o,bx⟩:=Z
  simp only at K
  subst K
  have Y:W.cell? ⟨b,o,none⟩=some (.slice pa M.length pc):=by simpa [Addr.add] using L
  exact⟨rfl,((pa,pc),M),⟨Y,bi⟩,(show M.length≤4398046511103 from by omega),Jm Y,fun v bj=>(bk v bj).2⟩)with h0|⟨b,o,rfl,f,hf⟩
 ·subst h0
  exact⟨some a,cap,[],[],H,⟨rfl,.inl rfl,fun i y r A=>by simp at A⟩,by simp,by simp,by simp,by simp⟩
 rcases Oj2 len with h0|bh
 ·subst h0
  exact⟨some ⟨b,o,none⟩,cap,[],[],H,⟨rfl,.inl rfl,fun i y r A=>by simp at A⟩,by simp,by simp,by simp,by simp⟩
 refine⟨some ⟨b,o,none⟩,cap,(List.range len).map fun i=>(f i).1,(List.range len).map fun i=>(f i).2,by rw[H];simp,⟨by simp,.inr ⟨b,o,rfl,(hf 0 bh).2.2.1,fun i v hi=>?_⟩,fun i y r A I=>?_⟩,fun r I=>?_,by simp;omega,by simp;omega,fun r I=>?_⟩
 ·rw[Ok5]at hi
  rcases Oc1 i len with J|J
  ·simp[J]at hi
   subst hi
   have:=(hf i J).1.1
   rw[Nat.mul_one]at this
   exact this
  simp[Nat.not_lt.2 J]at hi
 ·obtain⟨ba,rfl⟩:=Ku2 A
  obtain⟨_,rfl⟩:=Ku2 I
  exact(hf i ba).1.2
 ·obtain⟨i,hi,rfl⟩:=Of0.1 I
  exact(hf i (Oj4.1 hi)).2.1
 obtain⟨i,hi,rfl⟩:=Of0.1 I
 exact(hf i (Oj4.1 hi)).2.2.2
theorem Kzm (Y:cs.length=5)(h:DataW.trod enc Tryz.prog W base spare held fuel 32 cs=some x)(hw:Ktm 32 x.1):∃ d:Dx,(Kte W d∧∀ r∈d.rs,∀ v∈r,Jg v.n)∧cs=[.string d.name,.slice d.at_ d.ts.length d.ct,.slice d.ar d.rs.length d.cr,.slice d.ah d.hs.length d.ch,.int .i64 d.g]:=by
 obtain⟨xs,n,_,rfl,_,Z,A⟩:=DataW.trod_struct Tryz.underlying32 h
 obtain⟨c0,c1,c2,c3,c4,rfl⟩:=Qcj Y
 match xs,Z with
 |[bE,bG,bH],_=>
  have I:=Ktb Tryz.underlying32 hw 0 rfl rfl
  obtain⟨bC,bD,_,bn,_,ba,H⟩:=DataW.trod_struct Tryz.underlying30 (A 0 _ rfl)
  match bC,ba with
  |[bI,bJ,bK],_=>
   rw[bn]at I
   obtain⟨bz,J,_,bb⟩:=Op4 Tryz.underlying9 (H 0 _ rfl)
   obtain⟨bA,bB,ts,K,bk,bl⟩:=Kv7 (H 1 _ rfl) (Ktb Tryz.underlying30 I 1 rfl rfl)
   obtain⟨br,bu,bx,rs,L,bc,bj,bh,bf,bi⟩:=Kzd (H 2 _ rfl) (Ktb Tryz.underlying30 I 2 rfl rfl)
   obtain⟨O,R,hs,M,U,X⟩:=Kv7 (A 1 _ rfl) (Ktb Tryz.underlying32 hw 1 rfl rfl)
   obtain⟨g,N,_,_⟩:=Og3 Tryz.underlying3 (A 2 _ rfl)
   simp[Jh6,Jw7]at J
   simp[Kar,Jw7]at K
   simp[Jzo,Jw7]at L
   simp[Kar]at M
   simp[Jf5]at N
   subst J K L M N
   exact⟨⟨bz,bA,bB,ts,br,bu,bx,rs,O,R,hs,g⟩,⟨⟨bb,bl,bh,bj,X,bf,bk,U,bc⟩,bi⟩,rfl⟩
end
end
end Go.Proofs.YtcaocabmioafcaaGreatDoor
