/- What the arguments and the named errors are, read off their reading: a list of values lies in its cells, and the errors are different pointers. Nothing is run. -/
import Derived.Test.YtkgibdjakgmmcaaGreatDoorEw
import Derived.Test.YtkgibdjakgmmcaaGreatDoorRows
import Derived.Deep.Strs
import Derived.LaidMore
import Derived.LaidSub
import Derived.LaidHandle
import Derived.Stop.LaidErr
import Derived.MakeChecks
import Derived.Test.YtkgibdjakgmmcaaGreatDoorRh
import Derived.Test.YtkgibdjakgmmcaaGreatDoorYa
set_option maxRecDepth 100000
namespace Go.Proofs.YtkgibdjakgmmcaaGreatDoor
section
open Go.RowKit Go.Deep Go.ChangeShapes Go.WideShapes
theorem cellsV:Tryz.prog.cellsOf 61=3:=by kernel_rfl
theorem cellsInt:Tryz.prog.cellsOf 3=1:=by kernel_rfl
theorem cellsI64:Tryz.prog.cellsOf 2=1:=by kernel_rfl
theorem cellsStr:Tryz.prog.cellsOf 9=1:=by kernel_rfl
theorem cellsErrstr:Tryz.prog.cellsOf 303=1:=by kernel_rfl
theorem bytesV:Tryz.prog.bytesOf 61=32:=by kernel_rfl
theorem list3 {α:Type}{l:List α}(h:l.length=3):∃ x y z,l=[x,y,z]:=by
 match l,h with
 |[x,y,z],_=>exact⟨x,y,z,rfl⟩
theorem star : "*" ++ "errors.errorString" = "*errors.errorString" := by decide
theorem rowPerr (u : TypeId) (h : Tryz.prog.typeName? 3 u = some "*errors.errorString") : u = 284 :=
 typeName_ptr_named (nm := "errors.errorString") (by rw [star]; kernel_rfl) (by kernel_rfl) (by decide) u (by rw [star]; exact h)
theorem gArg : Tryz.prog.globalNamed "colrun/segments.ErrArg" = some 14 := by kernel_rfl
theorem gDict : Tryz.prog.globalNamed "colrun/segments.ErrDict" = some 1 := by kernel_rfl
theorem gForm : Tryz.prog.globalNamed "colrun/segments.ErrForm" = some 2 := by kernel_rfl
theorem gTable : Tryz.prog.globalNamed "colrun/tables.ErrTable" = some 3 := by kernel_rfl
theorem gQuota : Tryz.prog.globalNamed "colrun/disk.ErrQuota" = some 4 := by kernel_rfl
theorem gWrite : Tryz.prog.globalNamed "colrun/disk.ErrWrite" = some 5 := by kernel_rfl
theorem gPage : Tryz.prog.globalNamed "colrun/disk.ErrPage" = some 6 := by kernel_rfl
theorem gPlan : Tryz.prog.globalNamed "colrun/plans.ErrPlan" = some 0 := by kernel_rfl
theorem gExpr : Tryz.prog.globalNamed "colrun/exprs.ErrExpr" = some 7 := by kernel_rfl
theorem gDivide : Tryz.prog.globalNamed "colrun/exprs.ErrDivide" = some 8 := by kernel_rfl
theorem gOverflow : Tryz.prog.globalNamed "colrun/exprs.ErrOverflow" = some 9 := by kernel_rfl
theorem gGOverflow : Tryz.prog.globalNamed "colrun/groups.ErrOverflow" = some 10 := by kernel_rfl
theorem gMany : Tryz.prog.globalNamed "colrun/columns.ErrMany" = some 11 := by kernel_rfl
theorem gType : Tryz.prog.globalNamed "errors.errorType" = some 13 := by kernel_rfl
theorem oneRtype : (Tryz.prog.cutTypes.find? (·.1 == "internal/reflectlite.rtype")).map (·.2) = some 216 := by kernel_rfl
theorem oneRow:((List.range 315).filter fun t=>Tryz.prog.rowNamed t [101,114,114,111,114])=[81]:=by kernel_rfl
theorem howMany:Tryz.prog.types.size=315:=by kernel_rfl
theorem nodup_of_map {α β:Type}(f:α→β):∀ l:List α,(l.map f).Nodup→l.Nodup
 |[],_=>List.nodup_nil
 |x::l,h=>by
  rw[List.map_cons,List.nodup_cons]at h
  exact List.nodup_cons.2 ⟨fun hx=>h.1 (List.mem_map_of_mem hx),nodup_of_map f l h.2⟩
def All2 {α β:Type}(R:α→β→Prop):List α→List β→Prop
 |[],m=>m=[]
 |a::l,m=>∃ b k,m=b::k∧R a b∧All2 R l k
abbrev sent (nm:String)(text:List UInt8):DataW Unit:=.iface nm (.ptr (.agg [.lit (.string text)]))
theorem laid_list {P:Program}{nm:String}{W:World}{ti tp te ts:TypeId}{ms:Array (String×TypeId)}{f:Field}
  (hi:P.underlying ti=some (.interface ms)) (hrow:∀ u,P.typeName? 3 u=some nm→u=tp)
  (hp:P.underlying tp=some (.pointer te)) (he:P.underlying te=some (.struct #[f])) (hft:f.type=ts) (hfo:f.offset=0) (hs:P.underlying ts=some .string) (hc:P.cellsOf te=1) (hcs:P.cellsOf ts=1) :
  ∀ (l:List (String×List UInt8)) (ps:List MemPlace),DataW.LaidVars P W (l.map fun x=>(x.1,sent nm x.2)) ps→(∀ x∈l,∃ g,P.globalNamed x.1=some g∧(P.globals[g]?).map (·.type)=some ti) →
   (∀ b off,MemPlace.cell b off∈ps→∀ u v,W.cell? ⟨b,off,none⟩=some (.iface u v)→Value.okWide P W .any 0 u v) →
   ∃ ads:List Addr,All2 (fun x a=>W.var? P x.1=some #[.iface tp (.pointer (some a))]) l ads∧(ads.map fun a=>MemPlace.cell a.block a.off).Sublist ps:=by
 intro l
 induction l with
 |nil=>intro ps _ _ _;exact⟨[],rfl,by simp⟩
 |cons x l ih=>
  intro ps h hg hok
  obtain⟨g0,t0,cs0,f0,p0,q0,hg0,ht0,hv0,hd0,hr,e0⟩:=h
  obtain⟨g0',hg0',ht0'⟩:=hg x (by simp)
  obtain rfl:=Option.some.inj (hg0'.symm.trans hg0)
  obtain rfl:=Option.some.inj (ht0'.symm.trans ht0)
  subst e0
  obtain⟨ads,h1,h2⟩:=ih q0 hr (fun y hy=>hg y (by simp[hy])) (fun b off hm=>hok b off (by simp[hm]))
  obtain⟨l0⟩:=cs0
  have ok0:∀ u v,l0=[.iface u v]→Value.okWide P W .any 0 u v:=fun u v e=>by
   subst e
   exact hok g0' 0 (by simp[MemPlace.row]) u v (by simpa using World.var?_cell hg0' hv0 0)
  obtain⟨a0,s0,rfl,_,_,_,rfl⟩:=errorString_of_trod hi hrow hp he hft hfo hs hc hcs hd0 ok0
  refine⟨a0::ads,⟨a0,ads,rfl,hv0,h1⟩,?_⟩
  simp only[List.map_cons]
  refine List.Sublist.trans (List.Sublist.append (l₁:=[MemPlace.cell a0.block a0.off]) (l₂:=_++_) ?_ h2) (List.Sublist.refl _)
  exact(List.singleton_sublist.2 (by simp[MemPlace.row]))
theorem handle_of {W : World} {hs : List (String × DataW Unit)} (h : handlesMet Tryz.prog hs W) (hm : ("errors.errorType", .iface "internal/reflectlite.rtype" (.agg [.ptr (.lit (.string [101, 114, 114, 111, 114]))])) ∈ hs) :
  W.cell? ⟨13,0,none⟩=some (.iface 216 (.agg #[.pointer (some ⟨15,81,none⟩)])):=by
 obtain⟨name,u,ty,e1,e2,e3,e4,e5⟩:=h _ hm
 have en:name=[101,114,114,111,114]:=(Option.some.inj e1).symm
 subst en
 obtain rfl:=Option.some.inj (oneRtype.symm.trans e2)
 have hm:ty∈(List.range 315).filter fun t=>Tryz.prog.rowNamed t [101,114,114,111,114]:=List.mem_filter.2 ⟨List.mem_range.2 (by rw[←howMany];exact e3),e4⟩
 rw[oneRow]at hm
 obtain rfl:=List.mem_singleton.1 hm
 have hh:typeHandle Tryz.prog 81=.pointer (some ⟨15,81,none⟩):=by kernel_rfl
 rw[hh]at e5
 simpa using World.var?_cell gType e5 0
theorem gTabArg : Tryz.prog.globalNamed "colrun/tables.ErrArg" = some 12 := by kernel_rfl
theorem globals10 : ∀ x ∈ ["colrun/columns.ErrMany", "colrun/disk.ErrQuota", "colrun/disk.ErrWrite", "colrun/disk.ErrPage", "colrun/exprs.ErrExpr", "colrun/exprs.ErrDivide", "colrun/exprs.ErrOverflow", "colrun/groups.ErrOverflow", "colrun/plans.ErrPlan", "colrun/segments.ErrArg", "colrun/segments.ErrDict", "colrun/segments.ErrForm", "colrun/tables.ErrArg", "colrun/tables.ErrTable"], ∃ g, Tryz.prog.globalNamed x = some g ∧ (Tryz.prog.globals[g]?).map (·.type) = some 81 := by
 intro x hx
 simp only[List.mem_cons,List.not_mem_nil,or_false]at hx
 rcases hx with rfl|rfl|rfl|rfl|rfl|rfl|rfl|rfl|rfl|rfl|rfl|rfl|rfl|rfl
 ·exact⟨_,gMany,by kernel_rfl⟩
 ·exact⟨_,gQuota,by kernel_rfl⟩
 ·exact⟨_,gWrite,by kernel_rfl⟩
 ·exact⟨_,gPage,by kernel_rfl⟩
 ·exact⟨_,gExpr,by kernel_rfl⟩
 ·exact⟨_,gDivide,by kernel_rfl⟩
 ·exact⟨_,gOverflow,by kernel_rfl⟩
 ·exact⟨_,gGOverflow,by kernel_rfl⟩
 ·exact⟨_,gPlan,by kernel_rfl⟩
 ·exact⟨_,gArg,by kernel_rfl⟩
 ·exact⟨_,gDict,by kernel_rfl⟩
 ·exact⟨_,gForm,by kernel_rfl⟩
 ·exact⟨_,gTabArg,by kernel_rfl⟩
 exact⟨_,gTable,by kernel_rfl⟩
theorem errs_of_laid10 {W:World}{t0 t1 t2 t3 t4 t5 t6 t7 t8 t9 t10 t11 t12 t13:List UInt8}{hs:List (String×DataW Unit)}
  (h : laidMet Tryz.prog ([("colrun/columns.ErrMany", t0), ("colrun/disk.ErrQuota", t1), ("colrun/disk.ErrWrite", t2), ("colrun/disk.ErrPage", t3), ("colrun/exprs.ErrExpr", t4), ("colrun/exprs.ErrDivide", t5), ("colrun/exprs.ErrOverflow", t6), ("colrun/groups.ErrOverflow", t7), ("colrun/plans.ErrPlan", t8), ("colrun/segments.ErrArg", t9), ("colrun/segments.ErrDict", t10), ("colrun/segments.ErrForm", t11), ("colrun/tables.ErrArg", t12), ("colrun/tables.ErrTable", t13)].map fun x => (x.1, sent "*errors.errorString" x.2)) W)
  (hh : handlesMet Tryz.prog hs W) (hm : ("errors.errorType", .iface "internal/reflectlite.rtype" (.agg [.ptr (.lit (.string [101, 114, 114, 111, 114]))])) ∈ hs) :
  ∃ a0 a1 a2 tt q wr pg pl ex ta,Errs W a0 a1 a2∧More W a0 a1 a2 tt q wr pg∧More2 W [a0,a1,a2,tt,q,wr,pg] pl ex∧W.cell? ⟨12,0,none⟩=some (.iface 284 (.pointer (some ta)))∧(∃ c t,W.heap[ta.block]?=some (.cells c t (0,0)))∧ta∉[a0,a1,a2,tt,q,wr,pg,pl,ex]∧(∃ dv ov gv mn,More3 W [ex,pl,a0,a1,a2,tt,q,wr,pg] dv ov gv mn∧ta∉[dv,ov,gv,mn]):=by
 obtain⟨ps,hl,hnd,hrows⟩:=h
 obtain⟨ads,h1,h2⟩:=laid_list Tryz.underlying81 rowPerr Tryz.underlying284 Tryz.underlying303 rfl rfl Tryz.underlying9 cellsErrstr cellsStr _ ps hl
  (fun x hx=>globals10 x.1 (by simp only[List.mem_cons,List.not_mem_nil,or_false]at hx;rcases hx with rfl|rfl|rfl|rfl|rfl|rfl|rfl|rfl|rfl|rfl|rfl|rfl|rfl|rfl<;>simp)) (fun b off hp=>(hrows b off hp).2)
 obtain⟨mn,m0,rfl,v0,h1⟩:=h1
 obtain⟨q,m1,rfl,v1,h1⟩:=h1
 obtain⟨wr,m2,rfl,v2,h1⟩:=h1
 obtain⟨pg,m3,rfl,v3,h1⟩:=h1
 obtain⟨ex,m4,rfl,v4,h1⟩:=h1
 obtain⟨dv,m5,rfl,v5,h1⟩:=h1
 obtain⟨ov,m6,rfl,v6,h1⟩:=h1
 obtain⟨gv,m7,rfl,v7,h1⟩:=h1
 obtain⟨pl,m8,rfl,v8,h1⟩:=h1
 obtain⟨a0,m9,rfl,v9,h1⟩:=h1
 obtain⟨a1,m10,rfl,v10,h1⟩:=h1
 obtain⟨a2,m11,rfl,v11,h1⟩:=h1
 obtain⟨ta,m12,rfl,v12,h1⟩:=h1
 obtain⟨tt,m13,rfl,v13,h1⟩:=h1
 obtain rfl:=h1
 have hn:=hnd.sublist h2
 have hb:∀ a:Addr,MemPlace.cell a.block a.off∈ps→∃ c t,W.heap[a.block]?=some (.cells c t (0,0)):=fun a ha=>(hrows _ _ ha).1
 have hin:=h2.subset
 have hn2:[mn,q,wr,pg,ex,dv,ov,gv,pl,a0,a1,a2,ta,tt].Nodup:=nodup_of_map _ _ hn
 have hn3:[ta,mn,gv,ov,dv,ex,pl,a0,a1,a2,tt,q,wr,pg].Nodup:=(List.Perm.nodup_iff (by
  refine(List.perm_iff_count.2 fun x=>?_)
  simp only[List.count_cons,List.count_nil]
  omega)).1 hn2
 obtain⟨n_ta,hn3⟩:=List.nodup_cons.1 hn3
 obtain⟨n_mn,hn3⟩:=List.nodup_cons.1 hn3
 obtain⟨n_gv,hn3⟩:=List.nodup_cons.1 hn3
 obtain⟨n_ov,hn3⟩:=List.nodup_cons.1 hn3
 obtain⟨n_dv,hn3⟩:=List.nodup_cons.1 hn3
 obtain⟨n_ex,hn3⟩:=List.nodup_cons.1 hn3
 obtain⟨n_pl,hn3⟩:=List.nodup_cons.1 hn3
 have hm3:More3 W [ex,pl,a0,a1,a2,tt,q,wr,pg] dv ov gv mn:=⟨by simpa using World.var?_cell gDivide v5 0,by simpa using World.var?_cell gOverflow v6 0,by simpa using World.var?_cell gGOverflow v7 0,by simpa using World.var?_cell gMany v0 0,hb dv (hin (by simp)),hb ov (hin (by simp)),hb gv (hin (by simp)),hb mn (hin (by simp)),n_dv,n_ov,n_gv,n_mn⟩
 have hm2:More2 W [a0,a1,a2,tt,q,wr,pg] pl ex:=⟨by simpa using World.var?_cell gPlan v8 0,by simpa using World.var?_cell gExpr v4 0,hb pl (hin (by simp)),hb ex (hin (by simp)),n_pl,List.not_mem_of_not_mem_cons n_ex,dv,ov,gv,mn,hm3⟩
 have hm1:More W a0 a1 a2 tt q wr pg:=⟨by simpa using World.var?_cell gTable v13 0,by simpa using World.var?_cell gQuota v1 0,by simpa using World.var?_cell gWrite v2 0,by simpa using World.var?_cell gPage v3 0,handle_of hh hm,hb tt (hin (by simp)),hb q (hin (by simp)),hb wr (hin (by simp)),hb pg (hin (by simp)),hn3,pl,ex,hm2⟩
 have he:Errs W a0 a1 a2:=⟨by simpa using World.var?_cell gArg v9 0,by simpa using World.var?_cell gDict v10 0,by simpa using World.var?_cell gForm v11 0,hb a0 (hin (by simp)),hb a1 (hin (by simp)),hb a2 (hin (by simp)),tt,q,wr,pg,hm1⟩
 simp only[List.mem_cons,List.not_mem_nil,or_false,not_or]at n_ta
 exact⟨a0,a1,a2,tt,q,wr,pg,pl,ex,ta,he,hm1,hm2,by simpa using World.var?_cell gTabArg v12 0,hb ta (hin (by simp)),by simp[n_ta],dv,ov,gv,mn,hm3,by simp[n_ta]⟩
end
section
open Go.RowKit Go.Deep Go.ChangeShapes Go.WideShapes
theorem wfIn {n:Int}(h:(Lit.int .i64 n).wf=true):inI64 n:=by
 simp[Lit.wf,IntKind.min,IntKind.max,IntKind.signed,IntKind.bits]at h
 exact⟨h.1,h.2⟩
theorem openV {H:Type}{enc:TypeId×Value→H}{W:World}{base base':Nat}{spare:Nat→Bool}{held:Bool}{fuel:Nat}{cs:List Value}{x:DataW H×List MemPlace}{a:Addr}
  (hc:W.cells? base' a 3=some cs) (h:DataW.trod enc Tryz.prog W base spare held fuel 61 cs=some x):a.spot=none∧∃ v:V,VAt W a.block a.off v∧inI64 v.k∧inI64 v.n:=by
 obtain⟨y0,y1,y2,n',_,_,h0,h1,h2⟩:=trod_struct3 Tryz.underlying61 h
 obtain⟨_,hl3,hcell⟩:=World.cells?_some hc
 obtain⟨c0,c1,c2,rfl⟩:=list3 hl3
 obtain⟨k,e0,_,g0⟩:=DataW.trod_int Tryz.underlying3 h0
 obtain⟨nn,e1,_,g1⟩:=DataW.trod_int Tryz.underlying2 h1
 obtain⟨s,e2,_,_⟩:=DataW.trod_string Tryz.underlying9 h2
 have q0:=hcell 0 (by omega)
 have q1:=hcell 1 (by omega)
 have q2:=hcell 2 (by omega)
 have hsp:a.spot=none:=by simpa [Addr.add] using World.cell?_spot q0
 simp[cellsInt]at e0
 simp[cellsI64]at e1
 simp[cellsStr]at e2
 subst e0 e1 e2
 obtain⟨b,o,sp⟩:=a
 simp only at hsp
 subst hsp
 refine⟨rfl,⟨k,nn,s⟩,⟨?_,?_,?_⟩,wfIn g0,wfIn g1⟩
 ·simpa [Addr.add] using q0
 ·simpa [Addr.add] using q1
 simpa [Addr.add] using q2
theorem cellsRow:Tryz.prog.cellsOf 73=1:=by kernel_rfl
theorem cellsInts:Tryz.prog.cellsOf 29=1:=by kernel_rfl
theorem cellsRowS:Tryz.prog.cellsOf 38=1:=by kernel_rfl
theorem cellsTable:Tryz.prog.cellsOf 40=3:=by kernel_rfl
section
variable {H:Type} {enc:TypeId×Value→H} {W:World} {base:Nat} {spare:Nat→Bool} {held:Bool} {fuel:Nat} {cs:List Value} {x:DataW H×List MemPlace}
theorem openRow (h:DataW.trod enc Tryz.prog W base spare held fuel 73 cs=some x) :
  ∃ a cap,∃ xs:List V,cs=[.slice a xs.length cap]∧Vals W a xs∧(∀ v∈xs,inI64 v.k∧inI64 v.n)∧xs.length≤maxLen:=by
 rcases open_slice Tryz.underlying73 h with⟨hcs,hx⟩|⟨a,len,cap,m,n,D,Pl,hcs,hb,hl,hm,hmm,hx,hel⟩
 ·exact⟨none,0,[],hcs,.inl rfl,fun v hv=>by simp at hv,Nat.zero_le _⟩
 have hlm:len≤m:=by rw[hmm];split<;>omega
 have key:∀ i,i<len→(a.add (i*3)).spot=none∧∃ v:V,VAt W (a.add (i*3)).block (a.add (i*3)).off v∧inI64 v.k∧inI64 v.n:=by
  intro i hi
  obtain⟨cs',hc0,ht0⟩:=hel i (by omega)
  rw[cellsV]at hc0
  exact openV hc0 ht0
 rcases Nat.eq_zero_or_pos len with h0|hpos
 ·subst h0
  exact⟨some a,cap,[],hcs,.inl rfl,fun v hv=>by simp at hv,Nat.zero_le _⟩
 haveI:Inhabited V:=⟨⟨0,0,ByteArray.empty⟩⟩
 have hsp:=(key 0 hpos).1
 obtain⟨b,o,sp⟩:=a
 simp[Addr.add]at hsp
 subst hsp
 have key':∀ i,i<len→∃ v:V,VAt W b (o+i*3) v∧inI64 v.k∧inI64 v.n:=by
  intro i hi
  obtain⟨v,hv,hg⟩:=(key i hi).2
  refine⟨v,?_,hg⟩
  rcases Nat.eq_zero_or_pos i with h0|h0
  ·subst h0
   simpa [Addr.add] using hv
  have hne:¬ i*3=0:=by omega
  simpa [Addr.add,hne] using hv
 obtain⟨f,hf⟩:=choose_lt key'
 have hlt:b<W.heap.size:=lt_of_cell (hf 0 hpos).1.1
 refine⟨some ⟨b,o,none⟩,cap,(List.range len).map f,by rw[hcs];simp,.inr ⟨b,o,rfl,hlt,?_⟩,?_,by simp;omega⟩
 ·intro i v hi
  rw[List.getElem?_map]at hi
  rcases Nat.lt_or_ge i len with h'|h'
  ·rw[List.getElem?_range h']at hi
   simp at hi
   subst hi
   exact(hf i h').1
  rw[List.getElem?_eq_none (by simpa using h')]at hi
  simp at hi
 intro v hv
 obtain⟨i,hi,rfl⟩:=List.mem_map.1 hv
 exact(hf i (List.mem_range.1 hi)).2
theorem openInts (h:DataW.trod enc Tryz.prog W base spare held fuel 29 cs=some x) :
  ∃ a cap,∃ ns:List Int,cs=[.slice a ns.length cap]∧Ints W a ns∧(∀ n∈ns,inI64 n)∧ns.length≤maxLen:=by
 rcases open_slice1 Tryz.underlying29 cellsInt h with⟨hcs,hx⟩|⟨a,len,cap,m,n,U,D,Pl,hcs,hb,hl,hm,hmm,hx,hel⟩
 ·exact⟨none,0,[],hcs,.inl rfl,fun v hv=>by simp at hv,Nat.zero_le _⟩
 have hlm:len≤m:=by rw[hmm];split<;>omega
 have key:∀ i,i<len→∃ k:Int,W.cell? (a.add i)=some (.int .i64 k)∧inI64 k:=by
  intro i hi
  obtain⟨h1,h2⟩:=hel i (by omega)
  obtain⟨k,e0,_,g0⟩:=DataW.trod_int Tryz.underlying3 h2
  simp at e0
  rw[e0]at h1
  exact⟨k,h1,wfIn g0⟩
 rcases Nat.eq_zero_or_pos len with h0|hpos
 ·subst h0
  exact⟨some a,cap,[],hcs,.inl rfl,fun v hv=>by simp at hv,Nat.zero_le _⟩
 obtain⟨f,hf⟩:=choose_lt key
 have hsp:a.spot=none:=by simpa [Addr.add] using World.cell?_spot (hf 0 hpos).1
 obtain⟨b,o,sp⟩:=a
 simp only at hsp
 subst hsp
 have hlt:b<W.heap.size:=by
  have:=lt_of_cell (hf 0 hpos).1
  simpa [Addr.add] using this
 refine⟨some ⟨b,o,none⟩,cap,(List.range len).map f,by rw[hcs];simp,.inr ⟨b,o,rfl,hlt,?_⟩,?_,by simp;omega⟩
 ·intro i v hi
  rw[List.getElem?_map,List.getElem?_map]at hi
  rcases Nat.lt_or_ge i len with h'|h'
  ·rw[List.getElem?_range h']at hi
   simp at hi
   subst hi
   rw[←Addr.add_lit]
   exact(hf i h').1
  rw[List.getElem?_eq_none (by simpa using h')]at hi
  simp at hi
 intro v hv
 obtain⟨i,hi,rfl⟩:=List.mem_map.1 hv
 exact(hf i (List.mem_range.1 hi)).2
end
end
end Go.Proofs.YtkgibdjakgmmcaaGreatDoor
