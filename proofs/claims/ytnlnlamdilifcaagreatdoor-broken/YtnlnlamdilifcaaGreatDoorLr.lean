/- The named errors of the program where tables are loaded: ten, and the handle. Nothing is run. -/
import Derived.Test.YtnlnlamdilifcaaGreatDoorPacksOpen
import Derived.Test.YtnlnlamdilifcaaGreatDoorYf
import Derived.JoinedCond
set_option maxRecDepth 100000
namespace Go.Proofs.YtnlnlamdilifcaaGreatDoor
open Go.RowKit Go.Deep Go.ChangeShapes Go.WideShapes
theorem Jyc : Tryz.prog.globalNamed "colrun/tables.ErrArg" = some 0 := by kernel_rfl
theorem Kcd : Tryz.prog.globalNamed "colrun/work.ErrArg" = some 2 := by kernel_rfl
theorem Jzs : ∀ x ∈ ["colrun/columns.ErrMany", "colrun/disk.ErrQuota", "colrun/disk.ErrWrite", "colrun/disk.ErrPage", "colrun/exprs.ErrExpr", "colrun/exprs.ErrDivide", "colrun/exprs.ErrOverflow", "colrun/groups.ErrOverflow", "colrun/plans.ErrPlan", "colrun/segments.ErrArg", "colrun/segments.ErrDict", "colrun/segments.ErrForm", "colrun/tables.ErrArg", "colrun/tables.ErrTable", "colrun/work.ErrArg"], ∃ g, Tryz.prog.globalNamed x = some g /\ (Tryz.prog.globals[g]?).map (·.type) = some 77 := by
 intro x hx;simp only[Of1,Oi0,or_false]at hx;rcases hx with rfl|rfl|rfl|rfl|rfl|rfl|rfl|rfl|rfl|rfl|rfl|rfl|rfl|rfl|rfl
 ·exact⟨_,Kgz,zK⟩
 ·exact⟨_,Kcy,zK⟩
 ·exact⟨_,Kbs,zK⟩
 ·exact⟨_,Kgt,zK⟩
 ·exact⟨_,Kgq,zK⟩
 ·exact⟨_,Jyg,zK⟩
 ·exact⟨_,Jo5,zK⟩
 ·exact⟨_,Jmz,zK⟩
 ·exact⟨_,Kgx,zK⟩
 ·exact⟨_,Khq,zK⟩
 ·exact⟨_,Kgv,zK⟩
 ·exact⟨_,Kgw,zK⟩
 ·exact⟨_,Jyc,zK⟩
 ·exact⟨_,Kei,zK⟩
 exact⟨_,Kcd,zK⟩
theorem errs_of_laid10 {W t0 t1 t2 t3 t4 t5 t6 t7 t8 t9 t10 t11 t12 t13 t14}{hs:List (String×DataW Unit)}(h : laidMet Tryz.prog ([("colrun/columns.ErrMany", t0), ("colrun/disk.ErrQuota", t1), ("colrun/disk.ErrWrite", t2), ("colrun/disk.ErrPage", t3), ("colrun/exprs.ErrExpr", t4), ("colrun/exprs.ErrDivide", t5), ("colrun/exprs.ErrOverflow", t6), ("colrun/groups.ErrOverflow", t7), ("colrun/plans.ErrPlan", t8), ("colrun/segments.ErrArg", t9), ("colrun/segments.ErrDict", t10), ("colrun/segments.ErrForm", t11), ("colrun/tables.ErrArg", t12), ("colrun/tables.ErrTable", t13), ("colrun/work.ErrArg", t14)].map fun x => (x.1, Khp "*errors.errorString" x.2)) W)(hh : handlesMet Tryz.prog hs W)(hm : ("errors.errorType", .iface "internal/reflectlite.rtype" (.agg [.ptr (.lit (.string [101, 114, 114, 111, 114]))])) ∈ hs):
  ∃ a0 a1 a2 tt q wr pg pl ex ta,Jf0 W a0 a1 a2/\Jkn W a0 a1 a2 tt q wr pg/\Jhy W [a0,a1,a2,tt,q,wr,pg] pl ex/\W.cell? (Aq 0)=some (Ie 435 ta)/\(∃ c t,W.heap[ta.block]?=some (.cells c t (0,0)))/\ta∉[a0,a1,a2,tt,q,wr,pg,pl,ex]/\(∃ dv ov gv mn,Jig W [ex,pl,a0,a1,a2,tt,q,wr,pg] dv ov gv mn/\ta∉[dv,ov,gv,mn]):=by
 obtain⟨ps,hl,hnd,hrows⟩:=h;obtain⟨ads,h1,h2⟩:=Kah Tryz.underlying77 Kfo Tryz.underlying435 Tryz.underlying453 rfl rfl Tryz.underlying9 Jra Jh6 _ ps hl
  (fun x hx=>Jzs x.1 (by simp only[Of1,Oi0,or_false]at hx;rcases hx with rfl|rfl|rfl|rfl|rfl|rfl|rfl|rfl|rfl|rfl|rfl|rfl|rfl|rfl|rfl<;>simp)) (fun b off hp=>(hrows b off hp).2)
 obtain⟨mn,m0,rfl,v0,h1⟩:=h1;obtain⟨q,m1,rfl,v1,h1⟩:=h1;obtain⟨wr,m2,rfl,v2,h1⟩:=h1;obtain⟨pg,m3,rfl,v3,h1⟩:=h1;obtain⟨ex,m4,rfl,v4,h1⟩:=h1;obtain⟨dv,m5,rfl,v5,h1⟩:=h1;obtain⟨ov,m6,rfl,v6,h1⟩:=h1;obtain⟨gv,m7,rfl,v7,h1⟩:=h1;obtain⟨pl,m8,rfl,v8,h1⟩:=h1;obtain⟨a0,m9,rfl,v9,h1⟩:=h1;obtain⟨a1,m10,rfl,v10,h1⟩:=h1;obtain⟨a2,m11,rfl,v11,h1⟩:=h1;obtain⟨ta,m12,rfl,v12,h1⟩:=h1;obtain⟨tt,m13,rfl,v13,h1⟩:=h1;obtain⟨wa,m14,rfl,v14,h1⟩:=h1;obtain rfl:=h1;have hn:=hnd.sublist h2;have hb:∀ a:Addr,MemPlace.cell a.block a.off∈ps->∃ c t,W.heap[a.block]?=some (.cells c t (0,0)):=fun a ha=>(hrows _ _ ha).1;have hin:=h2.subset;have hn2:[mn,q,wr,pg,ex,dv,ov,gv,pl,a0,a1,a2,ta,tt,wa].Nodup:=Jie _ _ hn;have hn3:[wa,ta,mn,gv,ov,dv,ex,pl,a0,a1,a2,tt,q,wr,pg].Nodup:=(List.Perm.nodup_iff (by
  refine(List.perm_iff_count.2 fun x=>?_);simp only[List.count_cons,List.count_nil];omega)).1 hn2
 obtain⟨n_wa,hn3⟩:=Og0.1 hn3;obtain⟨n_ta,hn3⟩:=Og0.1 hn3;obtain⟨n_mn,hn3⟩:=Og0.1 hn3;obtain⟨n_gv,hn3⟩:=Og0.1 hn3;obtain⟨n_ov,hn3⟩:=Og0.1 hn3;obtain⟨n_dv,hn3⟩:=Og0.1 hn3;obtain⟨n_ex,hn3⟩:=Og0.1 hn3;obtain⟨n_pl,hn3⟩:=Og0.1 hn3;have hm3:Jig W [ex,pl,a0,a1,a2,tt,q,wr,pg] dv ov gv mn:=⟨by simpa using Of9 Jyg v5 0,by simpa using Of9 Jo5 v6 0,by simpa using Of9 Jmz v7 0,by simpa using Of9 Kgz v0 0,hb dv (hin zS),hb ov (hin zS),hb gv (hin zS),hb mn (hin zS),n_dv,n_ov,n_gv,n_mn⟩;have hm2:Jhy W [a0,a1,a2,tt,q,wr,pg] pl ex:=⟨by simpa using Of9 Kgx v8 0,by simpa using Of9 Kgq v4 0,hb pl (hin zS),hb ex (hin zS),n_pl,List.not_mem_of_not_mem_cons n_ex,dv,ov,gv,mn,hm3⟩;have hm1:Jkn W a0 a1 a2 tt q wr pg:=⟨by simpa using Of9 Kei v13 0,by simpa using Of9 Kcy v1 0,by simpa using Of9 Kbs v2 0,by simpa using Of9 Kgt v3 0,Jzb hh hm,hb tt (hin zS),hb q (hin zS),hb wr (hin zS),hb pg (hin zS),hn3,pl,ex,hm2⟩;have he:Jf0 W a0 a1 a2:=⟨by simpa using Of9 Khq v9 0,by simpa using Of9 Kgv v10 0,by simpa using Of9 Kgw v11 0,hb a0 (hin zS),hb a1 (hin zS),hb a2 (hin zS),tt,q,wr,pg,hm1⟩;simp only[Of1,Oi0,or_false,not_or]at n_ta;exact⟨a0,a1,a2,tt,q,wr,pg,pl,ex,ta,he,hm1,hm2,by simpa using Of9 Jyc v12 0,hb ta (hin zS),by simp[n_ta],dv,ov,gv,mn,hm3,by simp[n_ta]⟩
theorem Jje {n}(h:(Lit.int .i64 n).wf=true):Jg n:=by
 simp[Lit.wf,IntKind.min,IntKind.max,IntKind.signed,IntKind.bits]at h;exact⟨h.1,h.2⟩
theorem Kht {H}{enc:TypeId×Value->H}{W Y Z bA held fuel cs}{x:DataW H×List MemPlace}{a}(bj:W.cells? Z a 3=some cs)(h:DataW.trod enc Tryz.prog W Y bA held fuel 65 cs=some x):a.spot=none/\∃ v:V,VAt W a.block a.off v/\Jg v.k/\Jg v.n:=by
 obtain⟨bD,bE,bG,bB,_,_,h0,bh,bi⟩:=trod_struct3 Tryz.underlying65 h;obtain⟨_,bk,y⟩:=World.cells?_some bj;obtain⟨c0,c1,c2,rfl⟩:=Kgy bk;obtain⟨k,I,_,bf⟩:=Og3 Tryz.underlying3 h0;obtain⟨br,K,_,g1⟩:=Og3 Tryz.underlying2 bh;obtain⟨s,M,_,_⟩:=DataW.trod_string Tryz.underlying9 bi;have U:=y 0 zo;have bx:=y 1 zo;have bz:=y 2 zo;have O:a.spot=none:=by simpa [Addr.add] using Oo3 U
 simp[Jf5]at I;simp[Jta]at K;simp[Jh6]at M;subst I K M;obtain⟨b,o,bC⟩:=a;simp only at O;subst O;refine⟨rfl,⟨k,br,s⟩,⟨?_,?_,?_⟩,Jje bf,Jje g1⟩
 ·simpa [Addr.add] using U
 ·simpa [Addr.add] using bx
 simpa [Addr.add] using bz
theorem Kcq:Tryz.prog.cellsOf 63=1:=zK
theorem Kar:Tryz.prog.cellsOf 22=1:=zK
theorem Jzo:Tryz.prog.cellsOf 23=1:=zK
theorem Jw7:Tryz.prog.cellsOf 25=3:=zK
section
variable {H:Type} {enc:TypeId×Value->H} {W:World} {base:Nat} {spare:Nat->Bool} {held:Bool} {fuel:Nat} {cs:List Value} {x:DataW H×List MemPlace}
theorem zaY {p:Prop}(h:p:=by subst h0;exact⟨some a,cap,[],H,.inl rfl,fun v hv=>by simp at hv,Ob7 _⟩):p:=h
theorem zbh {p:Prop}(h:p:=by intro v hv;obtain⟨i,hi,rfl⟩:=Of0.1 hv;exact(I i (Oj4.1 hi)).2):p:=h
theorem Kgk (h:DataW.trod enc Tryz.prog W base spare held fuel 63 cs=some x):
  ∃ a cap,∃ xs:List V,cs=[.slice a xs.length cap]/\Jv W a xs/\(∀ v∈xs,Jg v.k/\Jg v.n)/\xs.length<=maxLen:=by
 rcases open_slice Tryz.underlying63 h with⟨H,bj⟩|⟨a,len,cap,m,n,D,br,H,hb,hl,bA,bf,bj,U⟩
 ·exact⟨none,0,[],H,.inl rfl,fun v hv=>by simp at hv,Ob7 _⟩
 have bz:len<=m:=by rw[bf];split<;>omega
 have key:∀ i,i<len->(a.add (i*3)).spot=none/\∃ v:V,VAt W (a.add (i*3)).block (a.add (i*3)).off v/\Jg v.k/\Jg v.n:=by
  intro i hi;obtain⟨bx,K,bi⟩:=U i zo;rw[Jqt]at K;exact Kht K bi
 rcases Oj2 len with h0|M
 ·exact zaY
 haveI:Inhabited V:=⟨⟨0,0,ByteArray.empty⟩⟩
 have O:=(key 0 M).1;obtain⟨b,o,bB⟩:=a;simp[Addr.add]at O;subst O;have bk:∀ i,i<len->∃ v:V,VAt W b (o+i*3) v/\Jg v.k/\Jg v.n:=by
  intro i hi;obtain⟨v,hv,Y⟩:=(key i hi).2;refine⟨v,?_,Y⟩;rcases Oj2 i with h0|h0
  ·subst h0;simpa [Addr.add] using hv
  have bh:¬ i*3=0:=zo;simpa [Addr.add,bh] using hv
 obtain⟨f,I⟩:=choose_lt bk;have Z:b<W.heap.size:=Jm (I 0 M).1.1;refine⟨some (Ar b o),cap,(List.range len).map f,by rw[H];simp,.inr ⟨b,o,rfl,Z,?_⟩,?_,by simp;omega⟩
 ·intro i v hi;rw[Ob1]at hi;rcases Oc1 i len with y|y
  ·rw[Oh6 y]at hi;simp at hi;subst hi;exact(I i y).1
  rw[Ob4 (by simpa using y)]at hi;simp at hi
 exact zbh
theorem openInts (h:DataW.trod enc Tryz.prog W base spare held fuel 22 cs=some x):
  ∃ a cap,∃ ns:List Int,cs=[.slice a ns.length cap]/\Kc W a ns/\(∀ n∈ns,Jg n)/\ns.length<=maxLen:=by
 rcases open_slice1 Tryz.underlying22 Jf5 h with⟨H,bj⟩|⟨a,len,cap,m,n,br,D,bk,H,hb,hl,bz,bi,bj,bf⟩
 ·exact⟨none,0,[],H,.inl rfl,fun v hv=>by simp at hv,Ob7 _⟩
 have bx:len<=m:=by rw[bi];split<;>omega
 have key:∀ i,i<len->∃ k:Int,W.cell? (a.add i)=some (Iq k)/\Jg k:=by
  intro i hi;obtain⟨M,Z⟩:=bf i zo;obtain⟨k,K,_,Y⟩:=Og3 Tryz.underlying3 Z;simp at K;rw[K]at M;exact⟨k,M,Jje Y⟩
 rcases Oj2 len with h0|O
 ·exact zaY
 obtain⟨f,I⟩:=choose_lt key;have U:a.spot=none:=by simpa [Addr.add] using Oo3 (I 0 O).1
 obtain⟨b,o,bA⟩:=a;simp only at U;subst U;have bh:b<W.heap.size:=by
  have:=Jm (I 0 O).1;simpa [Addr.add] using this
 refine⟨some ⟨b,o,none⟩,cap,(List.range len).map f,by rw[H];simp,.inr ⟨b,o,rfl,bh,?_⟩,?_,by simp;omega⟩
 ·intro i v hi;rw[Ob1,Ob1]at hi;rcases Oc1 i len with y|y
  ·rw[Oh6 y]at hi;simp at hi;subst hi;show W.cell? ⟨b,o+i,none⟩=_;rw[<-Op7];exact(I i y).1
  rw[Ob4 (by simpa using y)]at hi;simp at hi
 exact zbh
theorem Kd7 (h:DataW.trod enc Tryz.prog W base spare held fuel 23 cs=some x):
  ∃ a cap,∃ (hs:List (Option Addr×Nat)) (rs:List (List V)),cs=[.slice a rs.length cap]/\Zd W a hs rs/\(∀ r∈rs,r.length<=maxLen/\∀ v∈r,Jg v.k/\Jg v.n):=by
 rcases open_slice1 Tryz.underlying23 Kcq h with⟨I,bx⟩|⟨a,len,cap,m,n,bB,D,bA,I,hb,hl,bD,br,bx,bh⟩
 ·exact⟨none,0,[],[],I,⟨rfl,.inl rfl,fun i Y r hy=>by simp at hy⟩,fun r hr=>by simp at hr⟩
 have bC:len<=m:=by rw[br];split<;>omega
 have key:∀ i,i<len->∃ z:(Option Addr×Nat)×List V,W.cell? (a.add i)=some (Je1 z.1 z.2)/\Jv W z.1.1 z.2/\z.2.length<=maxLen/\∀ v∈z.2,Jg v.k/\Jg v.n:=by
  intro i hi;obtain⟨M,bf⟩:=bh i zo;obtain⟨a',Z,bz,K,hv,bi,bj⟩:=Kgk bf;simp at K;rw[K]at M;exact⟨((a',Z),bz),M,hv,bj,bi⟩
 rcases Oj2 len with h0|O
 ·subst h0;exact⟨some a,cap,[],[],I,⟨rfl,.inl rfl,fun i Y r hy=>by simp at hy⟩,fun r hr=>by simp at hr⟩
 haveI:Inhabited ((Option Addr×Nat)×List V):=⟨((none,0),[])⟩
 obtain⟨f,H⟩:=choose_lt key;have U:a.spot=none:=by simpa [Addr.add] using Oo3 (H 0 O).1
 obtain⟨b,o,bE⟩:=a;simp only at U;subst U;have bk:b<W.heap.size:=by
  have:=Jm (H 0 O).1;simpa [Addr.add] using this
 refine⟨some ⟨b,o,none⟩,cap,(List.range len).map fun i=>(f i).1,(List.range len).map fun i=>(f i).2,by rw[I];simp,⟨zS,.inr ⟨b,o,rfl,bk,?_⟩,?_⟩,?_⟩
 ·intro i v hi;rw[Ok5]at hi;rcases Oc1 i len with y|y
  ·simp[y]at hi;subst hi;show W.cell? ⟨b,o+i,none⟩=_;rw[<-Op7];exact(H i y).1
  simp[Nat.not_lt.2 y]at hi
 ·intro i Y r hy hr;rcases Oc1 i len with y|y
  ·simp[y]at hy hr;subst hy hr;exact(H i y).2.1
  simp[Nat.not_lt.2 y]at hy
 intro r hr;obtain⟨i,hi,rfl⟩:=Of0.1 hr;have:=(H i (Oj4.1 hi)).2.2;exact⟨this.1,this.2⟩
theorem openTable (h:DataW.trod enc Tryz.prog W base spare held fuel 25 cs=some x):
  ∃ bi at_ ct ar cr,∃ (ns:List Int) (hs:List (Option Addr×Nat)) (rs:List (List V)),cs=[.string bi,.slice at_ ns.length ct,.slice ar rs.length cr]/\Kc W at_ ns/\ns.length<=maxLen/\Zd W ar hs rs/\(∀ r∈rs,r.length<=maxLen/\∀ v∈r,Jg v.k/\Jg v.n):=by
 obtain⟨bk,br,bx,bj,_,hl,h0,O,U⟩:=trod_struct3 Tryz.underlying25 h;rw[Jw7]at hl;obtain⟨c0,c1,c2,rfl⟩:=Kgy hl;obtain⟨s,y,_,_⟩:=DataW.trod_string Tryz.underlying9 h0;obtain⟨a1,K,ns,H,bf,_,Y⟩:=openInts O;obtain⟨a2,M,hs,rs,I,bh,Z⟩:=Kd7 U;simp[Jh6]at y;simp[Kar]at H;simp[Jzo]at I;subst y H I;exact⟨s,a1,K,a2,M,ns,hs,rs,rfl,bf,Y,bh,Z⟩
end
theorem Jqg:Tryz.prog.cellsOf 28=4:=zK
section
variable {H:Type} {enc:TypeId×Value->H} {W:World} {base base':Nat} {spare:Nat->Bool} {held:Bool} {fuel:Nat} {cs:List Value} {x:DataW H×List MemPlace}
theorem Jnw {P t}{y H I K:Field}(ht:P.underlying t=some (.struct #[y,H,I,K]))(h:DataW.trod enc P W base spare held fuel t cs=some x):
  ∃ M O U Y n,x=(.agg [M.1,O.1,U.1,Y.1],M.2++(O.2++(U.2++Y.2)))/\cs.length=P.cellsOf t/\DataW.trod enc P W base spare held n y.type ((cs.drop y.offset).take (P.cellsOf y.type))=some M/\DataW.trod enc P W base spare held n H.type ((cs.drop H.offset).take (P.cellsOf H.type))=some O/\DataW.trod enc P W base spare held n I.type ((cs.drop I.offset).take (P.cellsOf I.type))=some U/\DataW.trod enc P W base spare held n K.type ((cs.drop K.offset).take (P.cellsOf K.type))=some Y:=by
 obtain⟨xs,n,_,rfl,hl,hlen,Z⟩:=DataW.trod_struct ht h;match xs,hlen with
 |[M,O,U,Y],_=>exact⟨M,O,U,Y,n,zS,hl,by simpa using Z 0 y rfl,by simpa using Z 1 H rfl,by simpa using Z 2 I rfl,by simpa using Z 3 K rfl⟩
theorem Khy {α:Type}{l:List α}(h:l.length=4):∃ c0 c1 c2 c3,l=[c0,c1,c2,c3]:=by
 match l,h with
 |[c0,c1,c2,c3],_=>exact⟨c0,c1,c2,c3,rfl⟩
theorem openOptions (h:DataW.trod enc Tryz.prog W base spare held fuel 28 cs=some x):
  ∃ y H I n3:Int,cs=[Iq y,Iq H,Iq I,Iq n3]/\Jg y/\Jg H/\Jg I/\Jg n3:=by
 obtain⟨bk,br,bx,bz,bj,_,hl,h0,bf,bh,bi⟩:=Jnw Tryz.underlying28 h;rw[Jqg]at hl;obtain⟨c0,c1,c2,c3,rfl⟩:=Khy hl;obtain⟨y,K,_,Y⟩:=Og3 Tryz.underlying3 h0;obtain⟨H,M,_,g1⟩:=Og3 Tryz.underlying3 bf;obtain⟨I,O,_,g2⟩:=Og3 Tryz.underlying3 bh;obtain⟨n3,U,_,Z⟩:=Og3 Tryz.underlying3 bi;simp[Jf5]at K M O U;subst K M O U;exact⟨y,H,I,n3,rfl,Jje Y,Jje g1,Jje g2,Jje Z⟩
end
theorem Qm {a b}(y:a=true)(hb:b=true):(a&&b)=true:=Og2.2 ⟨y,hb⟩
theorem joinedFacts_parts {P}{f:FuncId}{fn:Func}{s:ChangeSpec}{c:OpenClaim}(H:(c.wf (OpenSpec.ofChange s)&&laidOutB P&&mapsRowed P)=true)(bz:(fn.params.all (P.readableRec ·)&&namedTie P c.named s.vars)=true)(I:((c.stops==[])&&(P.stops==[])&&(c.knobs==[])&&(P.stopKnobs==[]))=true)(bH:(c.inPlace==P.inPlace f)=true)(bI:(c.unfollowed==P.unfollowed f)=true)(bJ:(c.recurses==P.recurses f)=true)(bK:(c.named==P.varsNamed f)=true)(y:((c.maps==(fn.params.toList++s.plain.varTypes P).any (P.mapsRec ·))&&(c.ifaces==(fn.params.toList++s.plain.varTypes P).any (P.ifacesRec ·))&&(c.mapsOut==P.mapsAmong fn.resultTypes.toList)&&(c.loops==(fn.params.toList++s.plain.varTypes P).any (P.loopsFrom ·))&&(c.wideKeys==(fn.params.toList++s.plain.varTypes P++fn.resultTypes.toList).any (P.wideKeysFrom ·))&&s.vars.all (P.varReadable ·)&&fn.resultTypes.all (fun t=>P.readableRec t&&decide (t<P.types.size))&&(c.ifacesOut==fn.resultTypes.toList.any (P.ifacesRec ·))&&(c.loopsOut==fn.resultTypes.toList.any (P.loopsFrom ·)))=true)(bU:(c.plainKeys==P.plainKeys)=true)(K:c.shortTexts.isNone=true)(M:P.stopsHeard=true)(O:P.mayEnter=true)(U:(c.lifted==P.liftsFinal)=true)(Y:(P.make==some c.make)=true)(Z:(c.kinds==(if c.domain.isEmpty then []else fn.params.toList.map fun t=>match P.underlying t with|some (.int k)=>some k|_=>none))=true)(bf:(c.pinned==c.pinnedBy)=true)(bh:((c.veiled==(fn.params.toList++s.plain.varTypes P++fn.resultTypes.toList).any (P.veiledRec ·))&&c.veiledFits P fn.params.toList (fn.params.toList++s.plain.varTypes P++fn.resultTypes.toList))=true):joinedFacts P f fn s c=true:=by
 obtain⟨bA,bB⟩:=Og2.1 bz;obtain⟨bi,bj⟩:=Og2.1 bh;simp only[Og5]at H I;obtain⟨⟨bk,br⟩,bx⟩:=H;obtain⟨⟨⟨bC,bD⟩,bE⟩,bG⟩:=I;obtain⟨y,bT⟩:=Og2.1 y;obtain⟨y,bS⟩:=Og2.1 y;obtain⟨y,bR⟩:=Og2.1 y;obtain⟨y,bQ⟩:=Og2.1 y;obtain⟨y,bP⟩:=Og2.1 y;obtain⟨y,bO⟩:=Og2.1 y;obtain⟨y,bN⟩:=Og2.1 y;obtain⟨bL,bM⟩:=Og2.1 y;unfold joinedFacts;exact Qm (Qm (Qm (Qm (Qm (Qm (Qm (Qm (Qm (Qm (Qm (Qm (Qm (Qm (Qm (Qm (Qm (Qm (Qm (Qm (Qm (Qm (Qm (Qm (Qm (Qm (Qm (Qm (Qm (Qm (Qm bk br) bx) bA) bB) bC) bD) bE) bG) bH) bI) bJ) bK) bL) bM) bN) bO) bP) bQ) bR) bS) bT) bU) K) M) O) U) Y) Z) bf) bi) bj
