/- What the arguments and the named errors are, read off their reading: a list of values lies in its cells, and the errors are different pointers. Nothing is run. -/
import Derived.Test.YtpchafocmlhmbaaGreatDoorRows
import Derived.Deep.Strs
import Derived.LaidMore
import Derived.LaidSub
import Derived.Stop.LaidErr
import Derived.Test.YtpchafocmlhmbaaGreatDoorYf
import Derived.JoinedCond
set_option maxRecDepth 100000
namespace Go.Proofs.YtpchafocmlhmbaaGreatDoor
section
open Go.RowKit Go.Deep Go.ChangeShapes Go.WideShapes
theorem Jqt:Tryz.prog.cellsOf 39=3:=by kernel_rfl
theorem Jf5:Tryz.prog.cellsOf 3=1:=by kernel_rfl
theorem Jta:Tryz.prog.cellsOf 2=1:=by kernel_rfl
theorem Jh6:Tryz.prog.cellsOf 9=1:=by kernel_rfl
theorem Jra:Tryz.prog.cellsOf 451=1:=by kernel_rfl
theorem Kgy {α:Type}{l:List α}(h:l.length=3):∃ x y z,l=[x,y,z]:=by
 match l,h with
 |[x,y,z],_=>exact⟨x,y,z,rfl⟩
theorem Kh6 : "*" ++ "errors.errorString" = "*errors.errorString" := by decide
theorem Kfo (u : TypeId) (h : Tryz.prog.typeName? 3 u = some "*errors.errorString") : u = 433 :=
 typeName_ptr_named (nm := "errors.errorString") (by rw [Kh6]; kernel_rfl) (by kernel_rfl) (by decide) u (by rw [Kh6]; exact h)
theorem Khq : Tryz.prog.globalNamed "colrun/segments.ErrArg" = some 15 := by kernel_rfl
theorem Kgv : Tryz.prog.globalNamed "colrun/segments.ErrDict" = some 4 := by kernel_rfl
theorem Kgw : Tryz.prog.globalNamed "colrun/segments.ErrForm" = some 5 := by kernel_rfl
theorem Kei : Tryz.prog.globalNamed "colrun/tables.ErrTable" = some 2 := by kernel_rfl
theorem Kcy : Tryz.prog.globalNamed "colrun/disk.ErrQuota" = some 6 := by kernel_rfl
theorem Kbs : Tryz.prog.globalNamed "colrun/disk.ErrWrite" = some 7 := by kernel_rfl
theorem Kgt : Tryz.prog.globalNamed "colrun/disk.ErrPage" = some 8 := by kernel_rfl
theorem Kgx : Tryz.prog.globalNamed "colrun/plans.ErrPlan" = some 3 := by kernel_rfl
theorem Kgq : Tryz.prog.globalNamed "colrun/exprs.ErrExpr" = some 9 := by kernel_rfl
theorem Jyg : Tryz.prog.globalNamed "colrun/exprs.ErrDivide" = some 10 := by kernel_rfl
theorem Jo5 : Tryz.prog.globalNamed "colrun/exprs.ErrOverflow" = some 11 := by kernel_rfl
theorem Jmz : Tryz.prog.globalNamed "colrun/groups.ErrOverflow" = some 12 := by kernel_rfl
theorem Kgz : Tryz.prog.globalNamed "colrun/columns.ErrMany" = some 13 := by kernel_rfl
theorem Khx : Tryz.prog.globalNamed "errors.errorType" = some 14 := by kernel_rfl
theorem Kdh : (Tryz.prog.cutTypes.find? (·.1 == "internal/reflectlite.rtype")).map (·.2) = some 225 := by kernel_rfl
theorem Khn:((List.range 463).filter fun t=>Tryz.prog.rowNamed t [101,114,114,111,114])=[74]:=by kernel_rfl
theorem Kfh:Tryz.prog.types.size=463:=by kernel_rfl
theorem Jie {α β:Type}(f:α→β):∀ l:List α,(l.map f).Nodup→l.Nodup
 |[],_=>List.nodup_nil
 |x::l,h=>by
  rw[Oe4,Og0]at h;exact Og0.2 ⟨fun y=>h.1 (List.mem_map_of_mem y),Jie f l h.2⟩
def Khu {α β:Type}(y:α→β→Prop):List α→List β→Prop
 |[],m=>m=[]
 |a::l,m=>∃ b k,m=b::k∧y a b∧Khu y l k
abbrev Khp (nm:String)(y:List UInt8):DataW Unit:=.iface nm (.ptr (.agg [.lit (.string y)]))
theorem Kah {P:Program}{nm:String}{W:World}{X H E ts:TypeId}{bI:Array (String×TypeId)}{f:Field}
  (hi:P.underlying X=some (.interface bI)) (bB:∀ u,P.typeName? 3 u=some nm→u=H)
  (hp:P.underlying H=some (.pointer E)) (bn:P.underlying E=some (.struct #[f])) (bx:f.type=ts) (br:f.offset=0) (hs:P.underlying ts=some .string) (bh:P.cellsOf E=1) (bi:P.cellsOf ts=1) :
  ∀ (l:List (String×List UInt8)) (ps:List MemPlace),DataW.LaidVars P W (l.map fun x=>(x.1,Khp nm x.2)) ps→(∀ x∈l,∃ g,P.globalNamed x.1=some g∧(P.globals[g]?).map (·.type)=some X) →
   (∀ b off,MemPlace.cell b off∈ps→∀ u v,W.cell? ⟨b,off,none⟩=some (.iface u v)→Value.okWide P W .any 0 u v) →
   ∃ y:List Addr,Khu (fun x a=>W.var? P x.1=some #[.iface H (.pointer (some a))]) l y∧(y.map fun a=>MemPlace.cell a.block a.off).Sublist ps:=by
 intro l;induction l with
 |nil=>intro ps _ _ _;exact⟨[],rfl,by simp⟩
 |cons x l bG=>
  intro ps h K R;obtain⟨bN,bQ,Y,bM,bO,bK,bz,bC,U,bj,hr,Z⟩:=h;obtain⟨ba,O,bD⟩:=K x (by simp);obtain rfl:=Oj6 (O.symm.trans bz);obtain rfl:=Oj6 (bD.symm.trans bC);subst Z;obtain⟨y,bc,bf⟩:=bG bK hr (fun bL bE=>K bL (by simp[bE])) (fun b off bA=>R b off (by simp[bA]));obtain⟨bH⟩:=Y;have bJ:∀ u v,bH=[.iface u v]→Value.okWide P W .any 0 u v:=fun u v e=>by
   subst e;exact R ba 0 (by simp[MemPlace.row]) u v (by simpa using Of9 O U 0)
  obtain⟨D,bP,rfl,_,_,_,rfl⟩:=errorString_of_trod hi bB hp bn bx br hs bh bi bj bJ;refine⟨D::y,⟨D,y,rfl,U,bc⟩,?_⟩;simp only[Oe4];refine List.Sublist.trans (List.Sublist.append (l₁:=[MemPlace.cell D.block D.off]) (l₂:=_++_) ?_ bf) (List.Sublist.refl _);exact(List.singleton_sublist.2 (by simp[MemPlace.row]))
theorem Jzb {W : World} {hs : List (String × DataW Unit)} (h : handlesMet Tryz.prog hs W) (hm : ("errors.errorType", .iface "internal/reflectlite.rtype" (.agg [.ptr (.lit (.string [101, 114, 114, 111, 114]))])) ∈ hs) :
  W.cell? ⟨14,0,none⟩=some (.iface 225 (.agg #[.pointer (some ⟨17,74,none⟩)])):=by
 obtain⟨name,u,ty,e1,e2,e3,e4,e5⟩:=h _ hm;have en:name=[101,114,114,111,114]:=(Oj6 e1).symm;subst en;obtain rfl:=Oj6 (Kdh.symm.trans e2);have hm:ty∈(List.range 463).filter fun t=>Tryz.prog.rowNamed t [101,114,114,111,114]:=Om0.2 ⟨Oj4.2 (by rw[←Kfh];exact e3),e4⟩;rw[Khn]at hm;obtain rfl:=Oc6.1 hm;have hh:typeHandle Tryz.prog 74=.pointer (some ⟨17,74,none⟩):=by kernel_rfl
 rw[hh]at e5;simpa using Of9 Khx e5 0
theorem Jyc : Tryz.prog.globalNamed "colrun/tables.ErrArg" = some 1 := by kernel_rfl
theorem Kcd : Tryz.prog.globalNamed "colrun/work.ErrArg" = some 0 := by kernel_rfl
theorem Jzs : ∀ x ∈ ["colrun/columns.ErrMany", "colrun/disk.ErrQuota", "colrun/disk.ErrWrite", "colrun/disk.ErrPage", "colrun/exprs.ErrExpr", "colrun/exprs.ErrDivide", "colrun/exprs.ErrOverflow", "colrun/groups.ErrOverflow", "colrun/plans.ErrPlan", "colrun/segments.ErrArg", "colrun/segments.ErrDict", "colrun/segments.ErrForm", "colrun/tables.ErrArg", "colrun/tables.ErrTable", "colrun/work.ErrArg"], ∃ g, Tryz.prog.globalNamed x = some g ∧ (Tryz.prog.globals[g]?).map (·.type) = some 74 := by
 intro x hx;simp only[Of1,Oi0,or_false]at hx;rcases hx with rfl|rfl|rfl|rfl|rfl|rfl|rfl|rfl|rfl|rfl|rfl|rfl|rfl|rfl|rfl
 ·exact⟨_,Kgz,by kernel_rfl⟩
 ·exact⟨_,Kcy,by kernel_rfl⟩
 ·exact⟨_,Kbs,by kernel_rfl⟩
 ·exact⟨_,Kgt,by kernel_rfl⟩
 ·exact⟨_,Kgq,by kernel_rfl⟩
 ·exact⟨_,Jyg,by kernel_rfl⟩
 ·exact⟨_,Jo5,by kernel_rfl⟩
 ·exact⟨_,Jmz,by kernel_rfl⟩
 ·exact⟨_,Kgx,by kernel_rfl⟩
 ·exact⟨_,Khq,by kernel_rfl⟩
 ·exact⟨_,Kgv,by kernel_rfl⟩
 ·exact⟨_,Kgw,by kernel_rfl⟩
 ·exact⟨_,Jyc,by kernel_rfl⟩
 ·exact⟨_,Kei,by kernel_rfl⟩
 exact⟨_,Kcd,by kernel_rfl⟩
theorem errs_of_laid10 {W:World}{t0 t1 t2 t3 t4 t5 t6 t7 t8 t9 t10 t11 t12 t13 t14:List UInt8}{hs:List (String×DataW Unit)}
  (h : laidMet Tryz.prog ([("colrun/columns.ErrMany", t0), ("colrun/disk.ErrQuota", t1), ("colrun/disk.ErrWrite", t2), ("colrun/disk.ErrPage", t3), ("colrun/exprs.ErrExpr", t4), ("colrun/exprs.ErrDivide", t5), ("colrun/exprs.ErrOverflow", t6), ("colrun/groups.ErrOverflow", t7), ("colrun/plans.ErrPlan", t8), ("colrun/segments.ErrArg", t9), ("colrun/segments.ErrDict", t10), ("colrun/segments.ErrForm", t11), ("colrun/tables.ErrArg", t12), ("colrun/tables.ErrTable", t13), ("colrun/work.ErrArg", t14)].map fun x => (x.1, Khp "*errors.errorString" x.2)) W)
  (hh : handlesMet Tryz.prog hs W) (hm : ("errors.errorType", .iface "internal/reflectlite.rtype" (.agg [.ptr (.lit (.string [101, 114, 114, 111, 114]))])) ∈ hs) :
  ∃ a0 a1 a2 tt q wr pg pl ex ta,Jf0 W a0 a1 a2∧Jkn W a0 a1 a2 tt q wr pg∧Jhy W [a0,a1,a2,tt,q,wr,pg] pl ex∧W.cell? ⟨1,0,none⟩=some (.iface 433 (.pointer (some ta)))∧(∃ c t,W.heap[ta.block]?=some (.cells c t (0,0)))∧ta∉[a0,a1,a2,tt,q,wr,pg,pl,ex]∧(∃ dv ov gv mn,Jig W [ex,pl,a0,a1,a2,tt,q,wr,pg] dv ov gv mn∧ta∉[dv,ov,gv,mn]):=by
 obtain⟨ps,hl,hnd,hrows⟩:=h;obtain⟨ads,h1,h2⟩:=Kah Tryz.underlying74 Kfo Tryz.underlying433 Tryz.underlying451 rfl rfl Tryz.underlying9 Jra Jh6 _ ps hl
  (fun x hx=>Jzs x.1 (by simp only[Of1,Oi0,or_false]at hx;rcases hx with rfl|rfl|rfl|rfl|rfl|rfl|rfl|rfl|rfl|rfl|rfl|rfl|rfl|rfl|rfl<;>simp)) (fun b off hp=>(hrows b off hp).2)
 obtain⟨mn,m0,rfl,v0,h1⟩:=h1;obtain⟨q,m1,rfl,v1,h1⟩:=h1;obtain⟨wr,m2,rfl,v2,h1⟩:=h1;obtain⟨pg,m3,rfl,v3,h1⟩:=h1;obtain⟨ex,m4,rfl,v4,h1⟩:=h1;obtain⟨dv,m5,rfl,v5,h1⟩:=h1;obtain⟨ov,m6,rfl,v6,h1⟩:=h1;obtain⟨gv,m7,rfl,v7,h1⟩:=h1;obtain⟨pl,m8,rfl,v8,h1⟩:=h1;obtain⟨a0,m9,rfl,v9,h1⟩:=h1;obtain⟨a1,m10,rfl,v10,h1⟩:=h1;obtain⟨a2,m11,rfl,v11,h1⟩:=h1;obtain⟨ta,m12,rfl,v12,h1⟩:=h1;obtain⟨tt,m13,rfl,v13,h1⟩:=h1;obtain⟨wa,m14,rfl,v14,h1⟩:=h1;obtain rfl:=h1;have hn:=hnd.sublist h2;have hb:∀ a:Addr,MemPlace.cell a.block a.off∈ps→∃ c t,W.heap[a.block]?=some (.cells c t (0,0)):=fun a ha=>(hrows _ _ ha).1;have hin:=h2.subset;have hn2:[mn,q,wr,pg,ex,dv,ov,gv,pl,a0,a1,a2,ta,tt,wa].Nodup:=Jie _ _ hn;have hn3:[wa,ta,mn,gv,ov,dv,ex,pl,a0,a1,a2,tt,q,wr,pg].Nodup:=(List.Perm.nodup_iff (by
  refine(List.perm_iff_count.2 fun x=>?_);simp only[List.count_cons,List.count_nil];omega)).1 hn2
 obtain⟨n_wa,hn3⟩:=Og0.1 hn3;obtain⟨n_ta,hn3⟩:=Og0.1 hn3;obtain⟨n_mn,hn3⟩:=Og0.1 hn3;obtain⟨n_gv,hn3⟩:=Og0.1 hn3;obtain⟨n_ov,hn3⟩:=Og0.1 hn3;obtain⟨n_dv,hn3⟩:=Og0.1 hn3;obtain⟨n_ex,hn3⟩:=Og0.1 hn3;obtain⟨n_pl,hn3⟩:=Og0.1 hn3;have hm3:Jig W [ex,pl,a0,a1,a2,tt,q,wr,pg] dv ov gv mn:=⟨by simpa using Of9 Jyg v5 0,by simpa using Of9 Jo5 v6 0,by simpa using Of9 Jmz v7 0,by simpa using Of9 Kgz v0 0,hb dv (hin (by simp)),hb ov (hin (by simp)),hb gv (hin (by simp)),hb mn (hin (by simp)),n_dv,n_ov,n_gv,n_mn⟩;have hm2:Jhy W [a0,a1,a2,tt,q,wr,pg] pl ex:=⟨by simpa using Of9 Kgx v8 0,by simpa using Of9 Kgq v4 0,hb pl (hin (by simp)),hb ex (hin (by simp)),n_pl,List.not_mem_of_not_mem_cons n_ex,dv,ov,gv,mn,hm3⟩;have hm1:Jkn W a0 a1 a2 tt q wr pg:=⟨by simpa using Of9 Kei v13 0,by simpa using Of9 Kcy v1 0,by simpa using Of9 Kbs v2 0,by simpa using Of9 Kgt v3 0,Jzb hh hm,hb tt (hin (by simp)),hb q (hin (by simp)),hb wr (hin (by simp)),hb pg (hin (by simp)),hn3,pl,ex,hm2⟩;have he:Jf0 W a0 a1 a2:=⟨by simpa using Of9 Khq v9 0,by simpa using Of9 Kgv v10 0,by simpa using Of9 Kgw v11 0,hb a0 (hin (by simp)),hb a1 (hin (by simp)),hb a2 (hin (by simp)),tt,q,wr,pg,hm1⟩;simp only[Of1,Oi0,or_false,not_or]at n_ta;exact⟨a0,a1,a2,tt,q,wr,pg,pl,ex,ta,he,hm1,hm2,by simpa using Of9 Jyc v12 0,hb ta (hin (by simp)),by simp[n_ta],dv,ov,gv,mn,hm3,by simp[n_ta]⟩
end
section
open Go.RowKit Go.Deep Go.ChangeShapes Go.WideShapes
theorem wfIn {n:Int}(h:(Lit.int .i64 n).wf=true):Jg n:=by
 simp[Lit.wf,IntKind.min,IntKind.max,IntKind.signed,IntKind.bits]at h;exact⟨h.1,h.2⟩
theorem Kht {D:Type}{enc:TypeId×Value→D}{W:World}{U X:Nat}{bn:Nat→Bool}{held:Bool}{fuel:Nat}{cs:List Value}{x:DataW D×List MemPlace}{a:Addr}
  (bc:W.cells? X a 3=some cs) (h:DataW.trod enc Tryz.prog W U bn held fuel 39 cs=some x):a.spot=none∧∃ v:V,VAt W a.block a.off v∧Jg v.k∧Jg v.n:=by
 obtain⟨bz,bA,bB,br,_,_,h0,Z,ba⟩:=trod_struct3 Tryz.underlying39 h;obtain⟨_,bf,y⟩:=World.cells?_some bc;obtain⟨c0,c1,c2,rfl⟩:=Kgy bf;obtain⟨k,E,_,Y⟩:=Og3 Tryz.underlying3 h0;obtain⟨bh,H,_,g1⟩:=Og3 Tryz.underlying2 Z;obtain⟨s,K,_,_⟩:=DataW.trod_string Tryz.underlying9 ba;have R:=y 0 (by omega);have bi:=y 1 (by omega);have bj:=y 2 (by omega);have O:a.spot=none:=by simpa [Addr.add] using Oo3 R
 simp[Jf5]at E;simp[Jta]at H;simp[Jh6]at K;subst E H K;obtain⟨b,o,bx⟩:=a;simp only at O;subst O;refine⟨rfl,⟨k,bh,s⟩,⟨?_,?_,?_⟩,wfIn Y,wfIn g1⟩
 ·simpa [Addr.add] using R
 ·simpa [Addr.add] using bi
 simpa [Addr.add] using bj
theorem Kcq:Tryz.prog.cellsOf 41=1:=by kernel_rfl
theorem Kar:Tryz.prog.cellsOf 22=1:=by kernel_rfl
theorem Jzo:Tryz.prog.cellsOf 23=1:=by kernel_rfl
theorem Jw7:Tryz.prog.cellsOf 25=3:=by kernel_rfl
section
variable {H:Type} {enc:TypeId×Value→H} {W:World} {base:Nat} {spare:Nat→Bool} {held:Bool} {fuel:Nat} {cs:List Value} {x:DataW H×List MemPlace}
theorem Kgk (h:DataW.trod enc Tryz.prog W base spare held fuel 41 cs=some x) :
  ∃ a cap,∃ xs:List V,cs=[.slice a xs.length cap]∧Jv W a xs∧(∀ v∈xs,Jg v.k∧Jg v.n)∧xs.length≤maxLen:=by
 rcases open_slice Tryz.underlying41 h with⟨E,bf⟩|⟨a,len,cap,m,n,bi,bj,E,br,hl,bz,Z,bf,U⟩
 ·exact⟨none,0,[],E,.inl rfl,fun v y=>by simp at y,Ob7 _⟩
 have bx:len≤m:=by rw[Z];split<;>omega
 have R:∀ i,i<len→(a.add (i*3)).spot=none∧∃ v:V,VAt W (a.add (i*3)).block (a.add (i*3)).off v∧Jg v.k∧Jg v.n:=by
  intro i hi;obtain⟨bn,H,bc⟩:=U i (by omega);rw[Jqt]at H;exact Kht H bc
 rcases Oj2 len with h0|K
 ·subst h0;exact⟨some a,cap,[],E,.inl rfl,fun v y=>by simp at y,Ob7 _⟩
 haveI:Inhabited V:=⟨⟨0,0,ByteArray.empty⟩⟩
 have O:=(R 0 K).1;obtain⟨b,o,bA⟩:=a;simp[Addr.add]at O;subst O;have bh:∀ i,i<len→∃ v:V,VAt W b (o+i*3) v∧Jg v.k∧Jg v.n:=by
  intro i hi;obtain⟨v,y,X⟩:=(R i hi).2;refine⟨v,?_,X⟩;rcases Oj2 i with h0|h0
  ·subst h0;simpa [Addr.add] using y
  have ba:¬ i*3=0:=by omega
  simpa [Addr.add,ba] using y
 obtain⟨f,hf⟩:=choose_lt bh;have Y:b<W.heap.size:=Jm (hf 0 K).1.1;refine⟨some ⟨b,o,none⟩,cap,(List.range len).map f,by rw[E];simp,.inr ⟨b,o,rfl,Y,?_⟩,?_,by simp;omega⟩
 ·intro i v hi;rw[Ob1]at hi;rcases Oc1 i len with D|D
  ·rw[Oh6 D]at hi;simp at hi;subst hi;exact(hf i D).1
  rw[Ob4 (by simpa using D)]at hi;simp at hi
 intro v y;obtain⟨i,hi,rfl⟩:=Of0.1 y;exact(hf i (Oj4.1 hi)).2
theorem Kca (h:DataW.trod enc Tryz.prog W base spare held fuel 22 cs=some x) :
  ∃ a cap,∃ ns:List Int,cs=[.slice a ns.length cap]∧Kc W a ns∧(∀ n∈ns,Jg n)∧ns.length≤maxLen:=by
 rcases open_slice1 Tryz.underlying22 Jf5 h with⟨E,bc⟩|⟨a,len,cap,m,n,bj,bh,bi,E,bn,hl,bx,ba,bc,Y⟩
 ·exact⟨none,0,[],E,.inl rfl,fun v y=>by simp at y,Ob7 _⟩
 have br:len≤m:=by rw[ba];split<;>omega
 have bf:∀ i,i<len→∃ k:Int,W.cell? (a.add i)=some (.int .i64 k)∧Jg k:=by
  intro i hi;obtain⟨K,X⟩:=Y i (by omega);obtain⟨k,H,_,U⟩:=Og3 Tryz.underlying3 X;simp at H;rw[H]at K;exact⟨k,K,wfIn U⟩
 rcases Oj2 len with h0|O
 ·subst h0;exact⟨some a,cap,[],E,.inl rfl,fun v y=>by simp at y,Ob7 _⟩
 obtain⟨f,hf⟩:=choose_lt bf;have R:a.spot=none:=by simpa [Addr.add] using Oo3 (hf 0 O).1
 obtain⟨b,o,bz⟩:=a;simp only at R;subst R;have Z:b<W.heap.size:=by
  have:=Jm (hf 0 O).1;simpa [Addr.add] using this
 refine⟨some ⟨b,o,none⟩,cap,(List.range len).map f,by rw[E];simp,.inr ⟨b,o,rfl,Z,?_⟩,?_,by simp;omega⟩
 ·intro i v hi;rw[Ob1,Ob1]at hi;rcases Oc1 i len with D|D
  ·rw[Oh6 D]at hi;simp at hi;subst hi;rw[←Op7];exact(hf i D).1
  rw[Ob4 (by simpa using D)]at hi;simp at hi
 intro v y;obtain⟨i,hi,rfl⟩:=Of0.1 y;exact(hf i (Oj4.1 hi)).2
theorem Kd7 (h:DataW.trod enc Tryz.prog W base spare held fuel 23 cs=some x) :
  ∃ a cap,∃ (hs:List (Option Addr×Nat)) (rs:List (List V)),cs=[.slice a rs.length cap]∧Zd W a hs rs∧(∀ r∈rs,r.length≤maxLen∧∀ v∈r,Jg v.k∧Jg v.n):=by
 rcases open_slice1 Tryz.underlying23 Kcq h with⟨E,bn⟩|⟨a,len,cap,m,n,bB,bz,bA,E,bC,hl,bE,bi,bn,ba⟩
 ·exact⟨none,0,[],[],E,⟨rfl,.inl rfl,fun i U r D=>by simp at D⟩,fun r hr=>by simp at hr⟩
 have bD:len≤m:=by rw[bi];split<;>omega
 have br:∀ i,i<len→∃ z:(Option Addr×Nat)×List V,W.cell? (a.add i)=some (Je1 z.1 z.2)∧Jv W z.1.1 z.2∧z.2.length≤maxLen∧∀ v∈z.2,Jg v.k∧Jg v.n:=by
  intro i hi;obtain⟨K,Z⟩:=ba i (by omega);obtain⟨X,Y,bx,H,bj,bc,bf⟩:=Kgk Z;simp at H;rw[H]at K;exact⟨((X,Y),bx),K,bj,bf,bc⟩
 rcases Oj2 len with h0|O
 ·subst h0;exact⟨some a,cap,[],[],E,⟨rfl,.inl rfl,fun i U r D=>by simp at D⟩,fun r hr=>by simp at hr⟩
 haveI:Inhabited ((Option Addr×Nat)×List V):=⟨((none,0),[])⟩
 obtain⟨f,hf⟩:=choose_lt br;have R:a.spot=none:=by simpa [Addr.add] using Oo3 (hf 0 O).1
 obtain⟨b,o,bG⟩:=a;simp only at R;subst R;have bh:b<W.heap.size:=by
  have:=Jm (hf 0 O).1;simpa [Addr.add] using this
 refine⟨some ⟨b,o,none⟩,cap,(List.range len).map fun i=>(f i).1,(List.range len).map fun i=>(f i).2,by rw[E];simp,⟨by simp,.inr ⟨b,o,rfl,bh,?_⟩,?_⟩,?_⟩
 ·intro i v hi;rw[Ok5]at hi;rcases Oc1 i len with y|y
  ·simp[y]at hi;subst hi;rw[←Op7];exact(hf i y).1
  simp[Nat.not_lt.2 y]at hi
 ·intro i U r D hr;rcases Oc1 i len with y|y
  ·simp[y]at D hr;subst D hr;exact(hf i y).2.1
  simp[Nat.not_lt.2 y]at D
 intro r hr;obtain⟨i,hi,rfl⟩:=Of0.1 hr;have:=(hf i (Oj4.1 hi)).2.2;exact⟨this.1,this.2⟩
theorem openTable (h:DataW.trod enc Tryz.prog W base spare held fuel 25 cs=some x) :
  ∃ bf at_ ct ar cr,∃ (ns:List Int) (hs:List (Option Addr×Nat)) (rs:List (List V)),cs=[.string bf,.slice at_ ns.length ct,.slice ar rs.length cr]∧Kc W at_ ns∧ns.length≤maxLen∧Zd W ar hs rs∧(∀ r∈rs,r.length≤maxLen∧∀ v∈r,Jg v.k∧Jg v.n):=by
 obtain⟨bi,bj,bn,bh,_,hl,h0,U,X⟩:=trod_struct3 Tryz.underlying25 h;rw[Jw7]at hl;obtain⟨c0,c1,c2,rfl⟩:=Kgy hl;obtain⟨s,y,_,_⟩:=DataW.trod_string Tryz.underlying9 h0;obtain⟨H,O,ns,D,ba,_,Y⟩:=Kca U;obtain⟨K,R,hs,rs,E,bc,Z⟩:=Kd7 X;simp[Jh6]at y;simp[Kar]at D;simp[Jzo]at E;subst y D E;exact⟨s,H,O,K,R,ns,hs,rs,rfl,ba,Y,bc,Z⟩
end
theorem Jqg:Tryz.prog.cellsOf 27=4:=by kernel_rfl
section
variable {H:Type} {enc:TypeId×Value→H} {W:World} {base base':Nat} {spare:Nat→Bool} {held:Bool} {fuel:Nat} {cs:List Value} {x:DataW H×List MemPlace}
theorem Jnw {P:Program}{t:TypeId}{y D E H:Field}(Y:P.underlying t=some (.struct #[y,D,E,H]))(h:DataW.trod enc P W base spare held fuel t cs=some x) :
  ∃ K O R U n,x=(.agg [K.1,O.1,R.1,U.1],K.2++(O.2++(R.2++U.2)))∧cs.length=P.cellsOf t∧DataW.trod enc P W base spare held n y.type ((cs.drop y.offset).take (P.cellsOf y.type))=some K∧DataW.trod enc P W base spare held n D.type ((cs.drop D.offset).take (P.cellsOf D.type))=some O∧DataW.trod enc P W base spare held n E.type ((cs.drop E.offset).take (P.cellsOf E.type))=some R∧DataW.trod enc P W base spare held n H.type ((cs.drop H.offset).take (P.cellsOf H.type))=some U:=by
 obtain⟨xs,n,_,rfl,hl,X,hf⟩:=DataW.trod_struct Y h;match xs,X with
 |[K,O,R,U],_=>exact⟨K,O,R,U,n,by simp,hl,by simpa using hf 0 y rfl,by simpa using hf 1 D rfl,by simpa using hf 2 E rfl,by simpa using hf 3 H rfl⟩
theorem Khy {α:Type}{l:List α}(h:l.length=4):∃ c0 c1 c2 c3,l=[c0,c1,c2,c3]:=by
 match l,h with
 |[c0,c1,c2,c3],_=>exact⟨c0,c1,c2,c3,rfl⟩
theorem openOptions (h:DataW.trod enc Tryz.prog W base spare held fuel 27 cs=some x) :
  ∃ y D E H:Int,cs=[.int .i64 y,.int .i64 D,.int .i64 E,.int .i64 H]∧Jg y∧Jg D∧Jg E∧Jg H:=by
 obtain⟨bh,bi,bj,bn,bf,_,hl,h0,Z,ba,bc⟩:=Jnw Tryz.underlying27 h;rw[Jqg]at hl;obtain⟨c0,c1,c2,c3,rfl⟩:=Khy hl;obtain⟨y,K,_,X⟩:=Og3 Tryz.underlying3 h0;obtain⟨D,O,_,g1⟩:=Og3 Tryz.underlying3 Z;obtain⟨E,R,_,g2⟩:=Og3 Tryz.underlying3 ba;obtain⟨H,U,_,Y⟩:=Og3 Tryz.underlying3 bc;simp[Jf5]at K O R U;subst K O R U;exact⟨y,D,E,H,rfl,wfIn X,wfIn g1,wfIn g2,wfIn Y⟩
end
theorem Qm {a b:Bool}(y:a=true)(D:b=true):(a&&b)=true:=Og2.2 ⟨y,D⟩
theorem joinedFacts_parts {P:Program}{f:FuncId}{fn:Func}{s:ChangeSpec}{c:OpenClaim}
  (D:(c.wf (OpenSpec.ofChange s)&&laidOutB P&&mapsRowed P)=true) (bj:(fn.params.all (P.readableRec ·)&&namedTie P c.named s.vars)=true)
  (E:((c.stops==[])&&(P.stops==[])&&(c.knobs==[])&&(P.stopKnobs==[]))=true) (bC:(c.inPlace==P.inPlace f)=true) (bD:(c.unfollowed==P.unfollowed f)=true) (bE:(c.recurses==P.recurses f)=true) (bG:(c.named==P.varsNamed f)=true)
  (y:((c.maps==(fn.params.toList++s.plain.varTypes P).any (P.mapsRec ·))&&(c.ifaces==(fn.params.toList++s.plain.varTypes P).any (P.ifacesRec ·))&&(c.mapsOut==P.mapsAmong fn.resultTypes.toList)&&(c.loops==(fn.params.toList++s.plain.varTypes P).any (P.loopsFrom ·))&&(c.wideKeys==(fn.params.toList++s.plain.varTypes P++fn.resultTypes.toList).any (P.wideKeysFrom ·))&&s.vars.all (P.varReadable ·)&&fn.resultTypes.all (fun t=>P.readableRec t&&decide (t<P.types.size))&&(c.ifacesOut==fn.resultTypes.toList.any (P.ifacesRec ·))&&(c.loopsOut==fn.resultTypes.toList.any (P.loopsFrom ·)))=true)
  (bQ:(c.plainKeys==P.plainKeys)=true) (H:c.shortTexts.isNone=true) (K:P.stopsHeard=true) (O:P.mayEnter=true) (R:(c.lifted==P.liftsFinal)=true) (U:(P.make==some c.make)=true)
  (X:(c.kinds==(if c.domain.isEmpty then []else fn.params.toList.map fun t=>match P.underlying t with|some (.int k)=>some k|_=>none))=true) (Y:(c.pinned==c.pinnedBy)=true)
  (Z:((c.veiled==(fn.params.toList++s.plain.varTypes P++fn.resultTypes.toList).any (P.veiledRec ·))&&c.veiledFits P fn.params.toList (fn.params.toList++s.plain.varTypes P++fn.resultTypes.toList))=true):joinedFacts P f fn s c=true:=by
 obtain⟨bn,br⟩:=Og2.1 bj;obtain⟨ba,bc⟩:=Og2.1 Z;simp only[Og5]at D E;obtain⟨⟨bf,bh⟩,bi⟩:=D;obtain⟨⟨⟨bx,bz⟩,bA⟩,bB⟩:=E;obtain⟨y,bP⟩:=Og2.1 y;obtain⟨y,bO⟩:=Og2.1 y;obtain⟨y,bN⟩:=Og2.1 y;obtain⟨y,bM⟩:=Og2.1 y;obtain⟨y,bL⟩:=Og2.1 y;obtain⟨y,bK⟩:=Og2.1 y;obtain⟨y,bJ⟩:=Og2.1 y;obtain⟨bH,bI⟩:=Og2.1 y;unfold joinedFacts;exact Qm (Qm (Qm (Qm (Qm (Qm (Qm (Qm (Qm (Qm (Qm (Qm (Qm (Qm (Qm (Qm (Qm (Qm (Qm (Qm (Qm (Qm (Qm (Qm (Qm (Qm (Qm (Qm (Qm (Qm (Qm bf bh) bi) bn) br) bx) bz) bA) bB) bC) bD) bE) bG) bH) bI) bJ) bK) bL) bM) bN) bO) bP) bQ) H) K) O) R) U) X) Y) ba) bc
end
end Go.Proofs.YtpchafocmlhmbaaGreatDoor
