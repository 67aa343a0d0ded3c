/- The law's own words for an expression: what it is worth on a row. -/
import Derived.Test.YtjjdldddcegjiaaGreatDoorYb
import Derived.Test.YtjjdldddcegjiaaGreatDoorXl
set_option maxHeartbeats 8000000
set_option maxRecDepth 100000
namespace Go.Proofs.YtjjdldddcegjiaaGreatDoor
open Go.RowKit Go.Shelf Tryz
attribute [local go_sem] Oc0
attribute [local go_sem] Jdy
theorem Qi.low {w w':World}{g o:Nat}{p:Pt}(h:Qi w g o p)(y:Below w.heap.size w w'):Qi w' g o p:=h.below y
theorem Jes (k n:Int)(s:ByteArray)(w:World):Calls prog 15 #[.agg #[.int .i64 k,.int .i64 n,.string s]] w fun e w'=>e=.returned (.bool (k==2&&n==1))∧Below w.heap.size w w':=Jj7 ⟨k,n,s⟩ w
theorem Jhj (k n:Int)(s:ByteArray)(w:World):Calls prog 31 #[.agg #[.int .i64 k,.int .i64 n,.string s]] w fun e w'=>e=.returned (.bool (k==2&&n==0))∧Below w.heap.size w w':=Jp5 ⟨k,n,s⟩ w
theorem Kda (k n:Int)(s:ByteArray)(y z:Int)(A:ByteArray)(w:World):Calls prog 32 #[.agg #[.int .i64 k,.int .i64 n,.string s],.agg #[.int .i64 y,.int .i64 z,.string A]] w fun e w'=>e=.returned (.bool (Job ⟨k,n,s⟩ ⟨y,z,A⟩))∧Below w.heap.size w w':=Jvi ⟨k,n,s⟩ ⟨y,z,A⟩ w
def Joj (es:List Pt)(x:List V)(w:World):Ending→World→Prop:=fun e w'=>Below w.heap.size w w'∧((∃ v,Kl es x=.inl v∧e=.returned (.tuple #[v.val,.int .i64 0]))∨(∃ (c:Nat) (u:V),Kl es x=.inr c∧c≠0∧e=.returned (.tuple #[u.val,.int .i64 (c:Int)])))
theorem Jyb {sch T:List Int}{x d:List V}{p:Pt}{es:List Pt}(E:T=es.map (tyP sch))(A:es[d.length]?=some p)(C:Jeg sch T d.length p)(D:Jee sch x)(y:Jho T d)(h0:(Qp p x d).2=0):Jho T (d++[(Qp p x d).1]):=by
 have R:d.length<es.length:=(Ob9.1 A).1
 have M:T.getD d.length 0=tyP sch p:=by
  rw[E,Oa0,Ob1,A]
  rfl
 refine⟨fun k H=>?_,fun v O=>?_⟩
 ·rw[Oa8,List.length_singleton]at H
  by_cases e:k<d.length
  ·rw[show (d++[(Qp p x d).1]).getD k Jf=d.getD k Jf by rw[Oa0,Oa0,Ob0 e]]
   exact y.1 k e
  obtain rfl:k=d.length:=by omega
  rw[M,show (d++[(Qp p x d).1]).getD d.length Jf=(Qp p x d).1 by rw[Oa0,Ob6 (Oa2 _)];simp]
  exact Kfb C D y h0
 have K:Yy [p] x d=.inl (d++[(Qp p x d).1]):=by simp only[Yy];rw[if_pos h0]
 refine Jo0 (W:=sch.length) D.2.2 [p] d _ (fun j q z=>?_) y.2 K v O
 match j,z with
 |0,z=>cases z;exact C.ok
theorem Jmx {es:List Pt}{x:List V}{j:Nat}{p:Pt}{d:List V}(y:es[j]?=some p)(C:Yy (es.take j) x []=.inl d):Yy (es.take (j+1)) x []=if (Qp p x d).2=0 then .inl (d++[(Qp p x d).1])else .inr (Qp p x d).2:=by
 obtain⟨z,A⟩:=Ob9.1 y
 rw[Oc4 z,A]
 exact Jsv p C
theorem Jp1 {es:List Pt}{x:List V}{j c:Nat}(y:Yy (es.take j) x []=.inr c):Kl es x=.inr c:=by
 unfold Kl
 have:Yy es x []=.inr c:=by
  rw[←Ok3 j es]
  exact Kdn _ y
 rw[this]
theorem Kdt (d:List V)(n:Nat)(v:V)(h:d.length<n):(d++List.replicate (n-d.length) Jf).set d.length v=(d++[v])++List.replicate (n-(d++[v]).length) Jf:=by
 rw[Ok4 _ _ (Oa2 _),Oe1,Od8]
 congr 1
 obtain⟨m,y⟩:∃ m,n-d.length=m+1:=⟨n-d.length-1,by omega⟩
 rw[y,List.replicate_succ,List.set_cons_zero,Oa8,List.length_singleton,show n-(d.length+1)=m by omega]
 rfl
theorem Kdo (d:List V)(n:Nat)(v:V)(h:d.length<n)(z:v=Jf):(d++List.replicate (n-d.length) Jf)=(d++[v])++List.replicate (n-(d++[v]).length) Jf:=by
 rw[Od8]
 congr 1
 obtain⟨m,y⟩:∃ m,n-d.length=m+1:=⟨n-d.length-1,by omega⟩
 rw[y,List.replicate_succ,Oa8,List.length_singleton,show n-(d.length+1)=m by omega,z]
 rfl
structure WoS (w:World) (B:Nat) (ys:List V) (p:Pt) (a b:V) (W:World):Prop where
 row:Kv W (w.heap.size+1) ys []
 res:W.heap[w.heap.size]?=some (.cells #[.int .i64 0,.int .i64 0,.string ⟨#[]⟩] 49 (0,0))
 bp:W.heap[B]?=some (.cells #[.int .i64 p.op,.int .i64 p.l,.int .i64 p.r,.int .i64 p.c,.int .i64 p.v.k,.int .i64 p.v.n,.string p.v.s] 51 (0,0))
 ba:W.heap[B+1]?=some (.cells #[.int .i64 a.k,.int .i64 a.n,.string a.s] 49 (0,0))
 bb:W.heap[B+1+1]?=some (.cells #[.int .i64 b.k,.int .i64 b.n,.string b.s] 49 (0,0))
 low:Below w.heap.size w W
 lt:w.heap.size+1<B
theorem WoS.below {w:World}{B:Nat}{A:List V}{p:Pt}{a b:V}{W z:World}(h:WoS w B A p a b W)(y:Below W.heap.size W z):WoS w B A p a b z:=
 ⟨h.row.of_block (y.block _ h.row.lt),(y.block _ (Jd h.res)).trans h.res,(y.block _ (Jd h.bp)).trans h.bp,(y.block _ (Jd h.ba)).trans h.ba,(y.block _ (Jd h.bb)).trans h.bb,Jb h.low y,h.lt⟩
theorem WoS.cells {w:World}{B:Nat}{C:List V}{p:Pt}{a b:V}{W:World}(h:WoS w B C p a b W):W.cell? ⟨B,0,none⟩=some (.int .i64 p.op)∧W.cell? ⟨B,1,none⟩=some (.int .i64 p.l)∧W.cell? ⟨B,2,none⟩=some (.int .i64 p.r)∧W.cell? ⟨B,3,none⟩=some (.int .i64 p.c)∧W.cell? ⟨B,4,none⟩=some (.int .i64 p.v.k)∧W.cell? ⟨B,5,none⟩=some (.int .i64 p.v.n)∧W.cell? ⟨B,6,none⟩=some (.string p.v.s)∧W.cell? ⟨B+1,0,none⟩=some (.int .i64 a.k)∧W.cell? ⟨B+1,1,none⟩=some (.int .i64 a.n)∧W.cell? ⟨B+1,2,none⟩=some (.string a.s)∧W.cell? ⟨B+1+1,0,none⟩=some (.int .i64 b.k)∧W.cell? ⟨B+1+1,1,none⟩=some (.int .i64 b.n)∧W.cell? ⟨B+1+1,2,none⟩=some (.string b.s):=by
 have y:=h.bp
 have z:=h.ba
 have A:=h.bb
 refine⟨?_,?_,?_,?_,?_,?_,?_,?_,?_,?_,?_,?_,?_⟩<;>simp[World.cell?,y,z,A]
theorem WoS.thaw {w:World}{B:Nat}{A:List V}{p:Pt}{a b:V}{W:World}(h:WoS w B A p a b W)(o:Nat):W.frozen? ⟨B+1,o,none⟩=false∧W.frozen? ⟨B+1+1,o,none⟩=false:=by
 have y:=h.ba
 have z:=h.bb
 constructor<;>simp[World.frozen?,y,z]
theorem WoS.setA {w:World}{B:Nat}{C:List V}{p:Pt}{u b:V}{W:World}(h:WoS w B C p u b W)(a:V):WoS w B C p a b (((W.setCell ⟨B+1,0,none⟩ (.int .i64 a.k)).setCell ⟨B+1,1,none⟩ (.int .i64 a.n)).setCell ⟨B+1,2,none⟩ (.string a.s)):=by
 have D:=h.lt
 have y:∀ k,k≠B+1→(((W.setCell ⟨B+1,0,none⟩ (.int .i64 a.k)).setCell ⟨B+1,1,none⟩ (.int .i64 a.n)).setCell ⟨B+1,2,none⟩ (.string a.s)).heap[k]?=W.heap[k]?:=fun k z=>by rw[Oa4 _ _ _ _ z,Oa4 _ _ _ _ z,Oa4 _ _ _ _ z]
 have A:=Jk (Jk (Jk h.ba 0 (.int .i64 a.k)) 1 (.int .i64 a.n)) 2 (.string a.s)
 simp only[Oa1,List.set_cons_zero,List.set_cons_succ]at A
 exact⟨h.row.of_block (y _ (by omega)),(y _ (by omega)).trans h.res,(y _ (by omega)).trans h.bp,A,(y _ (by omega)).trans h.bb,((h.low.setCell (p:=⟨B+1,0,none⟩) (by simp;omega) _).setCell (p:=⟨B+1,1,none⟩) (by simp;omega) _).setCell (p:=⟨B+1,2,none⟩) (by simp;omega) _,D⟩
theorem WoS.setB {w:World}{B:Nat}{C:List V}{p:Pt}{u a:V}{W:World}(h:WoS w B C p a u W)(b:V):WoS w B C p a b (((W.setCell ⟨B+1+1,0,none⟩ (.int .i64 b.k)).setCell ⟨B+1+1,1,none⟩ (.int .i64 b.n)).setCell ⟨B+1+1,2,none⟩ (.string b.s)):=by
 have D:=h.lt
 have y:∀ k,k≠B+1+1→(((W.setCell ⟨B+1+1,0,none⟩ (.int .i64 b.k)).setCell ⟨B+1+1,1,none⟩ (.int .i64 b.n)).setCell ⟨B+1+1,2,none⟩ (.string b.s)).heap[k]?=W.heap[k]?:=fun k z=>by rw[Oa4 _ _ _ _ z,Oa4 _ _ _ _ z,Oa4 _ _ _ _ z]
 have A:=Jk (Jk (Jk h.bb 0 (.int .i64 b.k)) 1 (.int .i64 b.n)) 2 (.string b.s)
 simp only[Oa1,List.set_cons_zero,List.set_cons_succ]at A
 exact⟨h.row.of_block (y _ (by omega)),(y _ (by omega)).trans h.res,(y _ (by omega)).trans h.bp,(y _ (by omega)).trans h.ba,A,((h.low.setCell (p:=⟨B+1+1,0,none⟩) (by simp;omega) _).setCell (p:=⟨B+1+1,1,none⟩) (by simp;omega) _).setCell (p:=⟨B+1+1,2,none⟩) (by simp;omega) _,D⟩
theorem WoS.resf {w:World}{B:Nat}{z:List V}{p:Pt}{a b:V}{W:World}(h:WoS w B z p a b W):(W.cell? ⟨w.heap.size,0,none⟩=some (.int .i64 0)∧W.frozen? ⟨w.heap.size,0,none⟩=false)∧(W.cell? ⟨w.heap.size,1,none⟩=some (.int .i64 0)∧W.frozen? ⟨w.heap.size,1,none⟩=false)∧(W.cell? ⟨w.heap.size,2,none⟩=some (.string ⟨#[]⟩)∧W.frozen? ⟨w.heap.size,2,none⟩=false):=by
 have y:=h.res
 refine⟨⟨?_,?_⟩,⟨?_,?_⟩,⟨?_,?_⟩⟩<;>simp[World.cell?,World.frozen?,y]
def Kim (lb n:Nat)(u:V)(W:World):Prop:=(W.cell? ⟨lb,n*3,none⟩=some (.int .i64 u.k)∧W.frozen? ⟨lb,n*3,none⟩=false)∧(W.cell? ⟨lb,n*3+1,none⟩=some (.int .i64 u.n)∧W.frozen? ⟨lb,n*3+1,none⟩=false)∧(W.cell? ⟨lb,n*3+2,none⟩=some (.string u.s)∧W.frozen? ⟨lb,n*3+2,none⟩=false)
abbrev Kij (W:World)(lb n:Nat)(v:V):World:=((W.setCell ⟨lb,n*3,none⟩ (.int .i64 v.k)).setCell ⟨lb,n*3+1,none⟩ (.int .i64 v.n)).setCell ⟨lb,n*3+2,none⟩ (.string v.s)
theorem WoS.slot {w:World}{B n:Nat}{d:List V}{p:Pt}{a b:V}{W:World}(h:WoS w B (d++List.replicate (n-d.length) Jf) p a b W)(y:d.length<n):Kim (w.heap.size+1) d.length ((d++List.replicate (n-d.length) Jf)[d.length]'(by simp;omega)) W:=(h.row.at3 Jf d.length (by simp;omega)).1
def WoN (w:World)(n:Nat)(y:List V)(W:World):Prop:=Kv W (w.heap.size+1) (y++List.replicate (n-y.length) Jf) []∧W.heap[w.heap.size]?=some (.cells #[.int .i64 0,.int .i64 0,.string ⟨#[]⟩] 49 (0,0))∧Below w.heap.size w W
theorem WoS.put {w:World}{B n:Nat}{d:List V}{p:Pt}{a b:V}{W:World}(h:WoS w B (d++List.replicate (n-d.length) Jf) p a b W)(y:d.length<n)(v:V):WoN w n (d++[v]) (Kij W (w.heap.size+1) d.length v):=by
 have hs:=(h.row.at3 v d.length (by simp;omega)).2
 rw[Kdt d n v y]at hs
 refine⟨hs,?_,?_⟩
 ·rw[Oa4 _ _ _ _ (by simp),Oa4 _ _ _ _ (by simp),Oa4 _ _ _ _ (by simp)]
  exact h.res
 exact((h.low.setCell (p:=⟨w.heap.size+1,d.length*3,none⟩) (by simp) _).setCell (p:=⟨w.heap.size+1,d.length*3+1,none⟩) (by simp) _).setCell (p:=⟨w.heap.size+1,d.length*3+2,none⟩) (by simp) _
theorem WoS.pass {w:World}{B n:Nat}{d:List V}{p:Pt}{a b:V}{W:World}(h:WoS w B (d++List.replicate (n-d.length) Jf) p a b W)(y:d.length<n):WoN w n (d++[Jf]) W:=by
 refine⟨?_,h.res,h.low⟩
 rw[←Kdo d n Jf y rfl]
 exact h.row
theorem Jup {sch:List Int}{es:List Pt}{x d:List V}{p:Pt}{v:V}{w W:World}(A:es[d.length]?=some p)(M:Yy (es.take d.length) x []=.inl d)(H:Jho (es.map (tyP sch)) d)(K:Jeg sch (es.map (tyP sch)) d.length p)(O:Jee sch x)(D:Qp p x d=(v,0))(z:WoN w es.length (d++[v]) W)(i:Int)(hi:i=(d.length:Int)+1) :
  ∃ y:List V,y.length≤es.length∧Value.int IntKind.i64 i=.int .i64 (y.length:Int)∧Kv W (w.heap.size+1) (y++List.replicate (es.length-y.length) Jf) []∧Hid (Yy (es.take y.length) x []=.inl y∧Jho (es.map (tyP sch)) y)∧W.heap[w.heap.size]?=some (.cells #[.int .i64 0,.int .i64 0,.string ⟨#[]⟩] 49 (0,0))∧Below w.heap.size w W:=by
 have R:d.length<es.length:=(Ob9.1 A).1
 have C:=Jmx A M
 have E:=Jyb rfl A K O H (by rw[D])
 rw[D]at C E
 rw[if_pos rfl]at C
 refine⟨d++[v],by rw[Oa8,List.length_singleton];omega,?_,z.1,⟨?_,E⟩,z.2.1,z.2.2⟩
 ·rw[Oa8,List.length_singleton]
  congr 1
 rw[Oa8,List.length_singleton]
 exact C
theorem Qo {es:List Pt}{d:List V}(h:d.length<es.length)(i:Int)(hi:i=(d.length:Int)+1):es.length-(intOf (.int .i64 i)).toNat<es.length-(intOf (.int .i64 (d.length:Int))).toNat:=by
 have:i=((d.length+1:Nat):Int):=by omega
 rw[this]
 simp only[intOf,Int.toNat_natCast]
 omega
theorem Jls (es:List Pt)(x:List V)(sch:List Int)(dE dG fM:Nat)(dK:Option Addr)(fP:Nat)(w:World)
  (dP:∀ k p,es[k]?=some p→Qi w dE (dG+k*7) p) (dR:Uj sch es) (fb:Jv w dK x) (bX:Jee sch x) (cG:es≠[]) (fz:es.length≤1000) :
  Calls prog 13 #[.slice (some ⟨dE,dG,none⟩) es.length fM,.slice dK x.length fP] w (Joj es x w):=by
 obtain⟨cY,fA,dw⟩:=Jl9 es.length fz (w.alloc (.cells #[.int .i64 0,.int .i64 0,.string ⟨#[]⟩] 49))
 have cZ:Hid ((∀ k p,es[k]?=some p→Qi w dE (dG+k*7) p)∧Uj sch es∧Jv w dK x∧Jee sch x∧es≠[]):=⟨dP,dR,fb,bX,cG⟩
 have fV:0<es.length:=Oi9.2 cG
 clear dP dR fb bX cG
 go_enter func13,ntmps13
 go_upto_region 2 with fail
 rw[Oa7]at dw
 have dS:Below w.heap.size w ((w.alloc (.cells #[.int .i64 0,.int .i64 0,.string ⟨#[]⟩] 49)).alloc (.cells cY 49)):=Jc (Jc (Oa5 _ _) _) _
 have dZ:((w.alloc (.cells #[.int .i64 0,.int .i64 0,.string ⟨#[]⟩] 49)).alloc (.cells cY 49)).heap[w.heap.size]?=some (.cells #[.int .i64 0,.int .i64 0,.string ⟨#[]⟩] 49 (0,0)):=(Oa9 _ _ _ (by simp)).trans (heap_alloc_new w _)
 generalize (w.alloc (.cells #[.int .i64 0,.int .i64 0,.string ⟨#[]⟩] 49)).alloc (.cells cY 49)=fS at dw dS dZ ⊢
 clear fA cY
 go_wp2
 go_loopw [7] (fun i wr=>∃ d:List V,d.length≤es.length∧i=.int .i64 (d.length:Int)∧Kv wr (w.heap.size+1) (d++List.replicate (es.length-d.length) Jf) []∧Hid (Yy (es.take d.length) x []=.inl d∧Jho (es.map (tyP sch)) d)∧wr.heap[w.heap.size]?=some (.cells #[.int .i64 0,.int .i64 0,.string ⟨#[]⟩] 49 (0,0))∧Below w.heap.size w wr) (fun i _=>es.length-(intOf i).toNat)
 case atStart=>exact⟨[],Ob7 _,rfl,dw,⟨rfl,fun k bW=>absurd bW (Oe0 _),fun v bu=>by cases bu⟩,dZ,dS⟩
 case round=>
  obtain⟨d,fw,rfl,cN,bK,bI,dc⟩:=hrel
  by_cases dh:d.length<es.length
  ·obtain⟨p,cK⟩:∃ p,es[d.length]?=some p:=⟨_,Oa3 dh⟩
   have bJ:=cZ.out.2.1 d.length p cK
   have bX:=cZ.out.2.2.2.1
   have dX:∀ (v:V) (W:World),Qp p x d=(v,0)→WoN w es.length (d++[v]) W→_:=fun v W cG ft=>Jup cK bK.out.1 bK.out.2 bJ bX cG ft
   have dv:=bJ.ok.lo
   have de:=bJ.ok.hi
   obtain⟨fc,fd,fe,ff,fg,fh,fi⟩:=Qi.low (cZ.out.1 d.length p cK) dc
   have cM:=cN.lt
   have dg:Below wr.heap.size wr (((wr.alloc (.cells #[.int .i64 p.op,.int .i64 p.l,.int .i64 p.r,.int .i64 p.c,.int .i64 p.v.k,.int .i64 p.v.n,.string p.v.s] 51)).alloc (.cells #[.int .i64 0,.int .i64 0,.string ⟨#[]⟩] 49)).alloc (.cells #[.int .i64 0,.int .i64 0,.string ⟨#[]⟩] 49)):=Kw _ _ _ _
   have dQ:WoS w wr.heap.size (d++List.replicate (es.length-d.length) Jf) p Jf Jf (((wr.alloc (.cells #[.int .i64 p.op,.int .i64 p.l,.int .i64 p.r,.int .i64 p.c,.int .i64 p.v.k,.int .i64 p.v.n,.string p.v.s] 51)).alloc (.cells #[.int .i64 0,.int .i64 0,.string ⟨#[]⟩] 49)).alloc (.cells #[.int .i64 0,.int .i64 0,.string ⟨#[]⟩] 49)):=by
    obtain⟨dH,bY,fN,fO,_⟩:=Jur wr _ _ _ _ rfl
    exact⟨cN.of_block (dg.block _ cM),(dg.block _ (Jd bI)).trans bI,bY,fN,fO,Jb dc dg,cM⟩
   have da:Hid _:=dQ
   have z:Hid (d.length<es.length):=dh
   have bn:Hid _:=dX
   have fk:Hid (es[d.length]?=some p):=cK
   clear dX dQ dg
   by_cases U:p.op≤1
   ·as_aux_lemma=>
     have di:¬ 1<p.op:=by omega
     go_upto_region 12 with fail
     have y:Hid _:=da.out
     generalize ((wr.alloc (.cells #[.int .i64 p.op,.int .i64 p.l,.int .i64 p.r,.int .i64 p.c,.int .i64 p.v.k,.int .i64 p.v.n,.string p.v.s] 51)).alloc (.cells #[.int .i64 0,.int .i64 0,.string ⟨#[]⟩] 49)).alloc (.cells #[.int .i64 0,.int .i64 0,.string ⟨#[]⟩] 49)=W at y ⊢
     clear da fc fd fe ff fg fh fi di
     obtain⟨A,H,K,E,M,O,R,X,Z,bc,bf,bh,bi⟩:=y.out.cells
     obtain⟨⟨bZ,bT⟩,⟨cc,bU⟩,⟨cf,bV⟩⟩:=y.out.slot z.out
     have fC:p.op=0∨p.op=1:=by omega
     rcases fC with dj|dx
     ·obtain⟨fH,fI⟩:=bJ.ok.col dj
      obtain⟨c,cr⟩:∃ c:Nat,p.c=(c:Int):=⟨p.c.toNat,by omega⟩
      have dT:c<x.length:=by rw[bX.1];omega
      obtain⟨fY,fZ,fD,fX,cV,cW,cX⟩:=(cZ.out.2.2.1.below y.out.low).at dT
      have dk:Qp p x d=(x[c],0):=by unfold Qp;rw[if_pos dj,cr,Int.toNat_natCast,Oa0,Oa3 dT];rfl
      have C:Hid _:=dk
      rw[cr]at E
      rw[dj]at A
      have dC:(0:Int)≤(c:Int):=by omega
      have dD:(c:Int)<(x.length:Int):=by omega
      subst fD
      clear dk U dj dv de cr fH fI bX bJ M O R X Z bc bf bh bi
      go_wp2
      go_roundw
      case rel=>exact bn.out _ _ C.out (y.out.put z.out _) _ (by first|rfl|(unfold wrap64;have:=z.out;omega))
      case measure=>exact Qo z.out _ (by first|rfl|(unfold wrap64;have:=z.out;omega))
     have C:Hid (Qp p x d=(p.v,0)):=by show _=_;unfold Qp;rw[if_neg (by omega),if_pos dx]
     rw[dx]at A
     clear U dx dv de bX bJ X Z bc bf bh bi E
     go_wp2
     go_roundw
     case rel=>exact bn.out _ _ C.out (y.out.put z.out _) _ (by first|rfl|(unfold wrap64;have:=z.out;omega))
     case measure=>exact Qo z.out _ (by first|rfl|(unfold wrap64;have:=z.out;omega))
   have di:1<p.op:=by omega
   obtain⟨fJ,fK⟩:=bJ.ok.left (by omega)
   obtain⟨cP,cQ⟩:=bJ.r (by omega)
   obtain⟨L,hL⟩:∃ L:Nat,p.l=(L:Int):=⟨p.l.toNat,by omega⟩
   obtain⟨bz,hR⟩:∃ bz:Nat,p.r=(bz:Int):=⟨p.r.toNat,by omega⟩
   have cH:L<d.length:=by omega
   have cI:bz<d.length:=by omega
   obtain⟨a,cn⟩:∃ a,a=d.getD L Jf:=⟨_,rfl⟩
   obtain⟨b,cy⟩:∃ b,b=d.getD bz Jf:=⟨_,rfl⟩
   have br:=bK.out.2.1 L cH
   have bx:=bK.out.2.1 bz cI
   rw[←cn]at br
   rw[←cy]at bx
   have bB:Qp p x d=opR p.op a (if p.op≤9 then b else a):=by
    unfold Qp
    rw[if_neg (by omega),if_neg (by omega),hL,Int.toNat_natCast,←cn]
    by_cases db:p.op≤9
    ·rw[if_pos db,if_pos db,hR,Int.toNat_natCast,←cy]
    rw[if_neg db,if_neg db,Int.toNat_natCast,←cn]
   have bM:Jg a.n:=by
    rw[cn,Oa0,Oa3 cH]
    exact bK.out.2.2 _ (Ob3 cH)
   have bN:Jg b.n:=by
    rw[cy,Oa0,Oa3 cI]
    exact bK.out.2.2 _ (Ob3 cI)
   have dY:∀ i (hi:i<d.length) (W:World),Kv W (w.heap.size+1) (d++List.replicate (es.length-d.length) Jf) []→VAt W (w.heap.size+1) (i*3) (d.getD i Jf):=fun i hi W dm=>by
    have df:i<(d++List.replicate (es.length-d.length) Jf).length:=by rw[Oa8];omega
    obtain⟨fp,fL,e,_,bu⟩:=dm.vals.at df
    cases e
    rw[Od0,Oi2 hi]at bu
    rw[Oa0,Oa3 hi]
    exact bu
   have dp:Hid _:=dY
   have fj:Hid (1<p.op∧p.op≤11):=⟨di,de⟩
   have cC:Hid (Qp p x d=opR p.op a (if p.op≤9 then b else a)):=bB
   have bG:Hid (Jeg sch (es.map (tyP sch)) d.length p∧okV ((es.map (tyP sch)).getD L 0) a∧okV ((es.map (tyP sch)).getD bz 0) b∧p.l=(L:Int)∧p.r=(bz:Int)∧Jg a.n∧Jg b.n∧L<d.length∧bz<d.length∧a=d.getD L Jf∧b=d.getD bz Jf):=⟨bJ,br,bx,hL,hR,bM,bN,cH,cI,cn,cy⟩
   have dC:(0:Int)≤(L:Int):=by omega
   have dD:(L:Int)<(es.length:Int):=by omega
   have fF:(0:Int)≤(bz:Int):=by omega
   have fG:(bz:Int)<(es.length:Int):=by omega
   clear bB dY br bx bJ U de dv bX bM bN fJ fK cP cQ cH cI hL hR
   go_upto_region 9 with fail
   have y:Hid _:=da.out
   generalize ((wr.alloc (.cells #[.int .i64 p.op,.int .i64 p.l,.int .i64 p.r,.int .i64 p.c,.int .i64 p.v.k,.int .i64 p.v.n,.string p.v.s] 51)).alloc (.cells #[.int .i64 0,.int .i64 0,.string ⟨#[]⟩] 49)).alloc (.cells #[.int .i64 0,.int .i64 0,.string ⟨#[]⟩] 49)=W at y ⊢
   clear da fc fd fe ff fg fh fi
   obtain⟨A,H,K,E,M,O,R,X,Z,bc,bf,bh,bi⟩:=y.out.cells
   obtain⟨cD,cE,cF⟩:=dp.out L bG.out.2.2.2.2.2.2.2.1 _ y.out.row
   rw[←cn]at cD cE cF
   rw[bG.out.2.2.2.1]at H
   have dL:=(y.out.thaw 0).1
   have dM:=(y.out.thaw 1).1
   have dN:=(y.out.thaw 2).1
   clear cn
   go_upto_region 10 with fail
   have ch:Hid _:=y.out.setA a
   generalize ((W.setCell ⟨wr.heap.size+1,0,none⟩ (.int .i64 a.k)).setCell ⟨wr.heap.size+1,1,none⟩ (.int .i64 a.n)).setCell ⟨wr.heap.size+1,2,none⟩ (.string a.s)=fm at ch ⊢
   clear A H K E M O R X Z bc bf bh bi dL dM dN cD cE cF y
   have y:=ch
   clear ch
   obtain⟨A,H,K,E,M,O,R,X,Z,bc,bf,bh,bi⟩:=y.out.cells
   obtain⟨cD,cE,cF⟩:=dp.out bz bG.out.2.2.2.2.2.2.2.2.1 _ y.out.row
   rw[←cy]at cD cE cF
   rw[bG.out.2.2.2.2.1]at K
   have dL:=(y.out.thaw 0).2
   have dM:=(y.out.thaw 1).2
   have dN:=(y.out.thaw 2).2
   clear cy
   go_upto_region 11 with fail
   have ch:Hid _:=y.out.setB b
   generalize ((fm.setCell ⟨wr.heap.size+1+1,0,none⟩ (.int .i64 b.k)).setCell ⟨wr.heap.size+1+1,1,none⟩ (.int .i64 b.n)).setCell ⟨wr.heap.size+1+1,2,none⟩ (.string b.s)=fo at ch ⊢
   clear A H K E M O R X Z bc bf bh bi dL dM dN cD cE cF y di dp dC dD fF fG
   have y:=ch
   clear ch
   obtain⟨A,H,K,E,M,O,R,X,Z,bc,bf,bh,bi⟩:=y.out.cells
   go_cut [11] from 43 to 50 (fun s cU=>s=.bool (a.k != 0&&b.k != 0)∧cU=fo)
   case first=>
    cases bQ:(a.k != 0)
    ·go_wp2
     go_meet
     case rel=>exact⟨by rw[bQ];rfl,rfl⟩
    go_wp2
    go_meet
    case rel=>exact⟨by rw[bQ];rfl,rfl⟩
   case rest=>
    obtain⟨bC,bA⟩:∃ bC,bC=(a.k != 0&&b.k != 0):=⟨_,rfl⟩
    rw[←bA]at hcut
    obtain⟨rfl,rfl⟩:=hcut
    have cv:Hid (bC=(a.k != 0&&b.k != 0)):=bA
    clear bA
    obtain⟨bR,bS⟩:=fj.out
    clear dh cK cM dc cN bI
    by_cases bH:p.op=11
    ·as_aux_lemma=>
      have U:=bH
      have C:Hid (Qp p x d=(Yi (a.k==0),0)):=by show _=_;rw[cC.out,U];rfl
      rw[U]at A
      clear U bH bR bS
      go_wp2_with (go_at_call 30;refine(Jbw _ _).mono ?_;rintro bl bj ⟨rfl,D⟩;have y:Hid _:=y.out.below D;obtain⟨⟨bZ,bT⟩,⟨cc,bU⟩,⟨cf,bV⟩⟩:=y.out.slot z.out)
      go_roundw
      case rel=>exact bn.out _ _ C.out (y.out.put z.out _) _ (by first|rfl|(unfold wrap64;have:=z.out;omega))
      case measure=>exact Qo z.out _ (by first|rfl|(unfold wrap64;have:=z.out;omega))
    by_cases bO:p.op=10
    ·as_aux_lemma=>
      have U:=bO
      rw[U]at A
      by_cases bQ:a.k=0
      ·have C:Hid (Qp p x d=(Jf,0)):=by show _=_;rw[cC.out,U];exact if_pos (.inl bQ)
       have fy:(a.k != 0)=false:=by simp[bQ]
       clear U bO bH bR bS bQ
       go_wp2
       go_roundw
       case rel=>exact bn.out _ _ C.out (y.out.pass z.out) _ (by first|rfl|(unfold wrap64;have:=z.out;omega))
       case measure=>exact Qo z.out _ (by first|rfl|(unfold wrap64;have:=z.out;omega))
      have C:Hid (Qp p x d=(Yi (a.n==0),0)):=by show _=_;rw[cC.out,U,if_neg (by decide)];exact if_neg (by rw[or_self];exact bQ)
      have fy:(a.k != 0)=true:=by simp[bQ]
      clear U bO bH bR bS bQ
      go_wp2_with (go_at_call 30;refine(Jbw _ _).mono ?_;rintro bl bj ⟨rfl,D⟩;have y:Hid _:=y.out.below D;obtain⟨⟨bZ,bT⟩,⟨cc,bU⟩,⟨cf,bV⟩⟩:=y.out.slot z.out)
      go_roundw
      case rel=>exact bn.out _ _ C.out (y.out.put z.out _) _ (by first|rfl|(unfold wrap64;have:=z.out;omega))
      case measure=>exact Qo z.out _ (by first|rfl|(unfold wrap64;have:=z.out;omega))
    have bB:Qp p x d=opR p.op a b:=by rw[cC.out,if_pos (by omega)]
    have bL:Hid (Qp p x d=opR p.op a b):=bB
    clear bB cC
    obtain⟨ty,br,bx,cS,cT,bM,bN,fQ⟩:=bG.out
    clear fQ
    have ci:p.l.toNat=L:=by omega
    have cj:p.r.toNat=bz:=by omega
    by_cases cl:8≤p.op
    ·as_aux_lemma=>
      obtain⟨dH,bY⟩:=ty.tru cl (by omega)
      rw[ci]at dH
      rw[cj]at bY
      rw[dH]at br
      rw[bY]at bx
      have bA:=cv.out
      clear ci cj cS cT bM bN bG ty
      have fv:p.op=8∨p.op=9:=by omega
      rcases fv with U|U
      ·have bB:=bL.out
       rw[U,show opR 8 a b=Jse a b from rfl,Jpt br bx,←bA]at bB
       rw[U]at A
       clear U bO bH cl bR bS
       have cO:Qp p x d=(if (a.k==2&&a.n==0||(b.k==2&&b.n==0)||bC)then Yi ((a.k==2&&a.n==1)&&(b.k==2&&b.n==1))else Jf,0):=bB
       have cB:Hid (Qp p x d=(if (a.k==2&&a.n==0||(b.k==2&&b.n==0)||bC)then Yi ((a.k==2&&a.n==1)&&(b.k==2&&b.n==1))else Jf,0)):=cO
       clear bB cO bA br bx cv bL
       go_upto_region 28 with fail
       obtain⟨A,H,K,E,M,O,R,X,Z,bc,bf,bh,bi⟩:=y.out.cells
       go_cut [121] from 113 to 120 (fun s cU=>s=.bool (a.k==2&&a.n==0||(b.k==2&&b.n==0)||bC)∧WoS w wr.heap.size (d++List.replicate (es.length-d.length) Jf) p a b cU)
       case first=>
        cases ca:(a.k==2&&a.n==0)
        ·cases cb:(b.k==2&&b.n==0)
         ·go_wp2_with (go_at_call 31;refine(Jhj _ _ _ _).mono ?_;rintro bl bj ⟨rfl,D⟩;have y:Hid _:=y.out.below D;obtain⟨A,H,K,E,M,O,R,X,Z,bc,bf,bh,bi⟩:=y.out.cells;clear A H K E M O R)
          go_meet
          case rel=>exact⟨by rw[ca,cb];rfl,y.out⟩
         go_wp2_with (go_at_call 31;refine(Jhj _ _ _ _).mono ?_;rintro bl bj ⟨rfl,D⟩;have y:Hid _:=y.out.below D;obtain⟨A,H,K,E,M,O,R,X,Z,bc,bf,bh,bi⟩:=y.out.cells;clear A H K E M O R)
         go_meet
         case rel=>exact⟨by rw[ca,cb];rfl,y.out⟩
        go_wp2_with (go_at_call 31;refine(Jhj _ _ _ _).mono ?_;rintro bl bj ⟨rfl,D⟩;have y:Hid _:=y.out.below D;obtain⟨A,H,K,E,M,O,R,X,Z,bc,bf,bh,bi⟩:=y.out.cells;clear A H K E M O R)
        go_meet
        case rel=>exact⟨by rw[ca];rfl,y.out⟩
       case rest=>
        obtain⟨cd,cu⟩:∃ cd,cd=(a.k==2&&a.n==0||(b.k==2&&b.n==0)||bC):=⟨_,rfl⟩
        rw[←cu]at hcut
        have bD:=cB.out
        rw[←cu]at bD
        obtain⟨rfl,cJ⟩:=hcut
        have y:Hid _:=cJ
        clear cJ cu cB
        cases cd
        ·have C:Hid (Qp p x d=(Jf,0)):=bD
         clear bD
         go_wp2
         go_roundw
         case rel=>exact bn.out _ _ C.out (y.out.pass z.out) _ (by first|rfl|(unfold wrap64;have:=z.out;omega))
         case measure=>exact Qo z.out _ (by first|rfl|(unfold wrap64;have:=z.out;omega))
        have C:Hid (Qp p x d=(Yi ((a.k==2&&a.n==1)&&(b.k==2&&b.n==1)),0)):=bD
        clear bD
        obtain⟨A,H,K,E,M,O,R,X,Z,bc,bf,bh,bi⟩:=y.out.cells
        cases ca:(a.k==2&&a.n==1)
        focus
         rw[ca,Bool.false_and]at C
        rotate_left 1
        focus
         rw[ca,Bool.true_and]at C
        all_goals
         go_wp2_with (first|(go_at_call 15;refine(Jes _ _ _ _).mono ?_;rintro bl bj ⟨rfl,D⟩;have y:Hid _:=y.out.below D;obtain⟨A,H,K,E,M,O,R,X,Z,bc,bf,bh,bi⟩:=y.out.cells;clear A H K E M O R)|(go_at_call 30;refine(Jbw _ _).mono ?_;rintro bl bj ⟨rfl,D⟩;have y:Hid _:=y.out.below D;obtain⟨⟨bZ,bT⟩,⟨cc,bU⟩,⟨cf,bV⟩⟩:=y.out.slot z.out))
         go_roundw
         case rel=>exact bn.out _ _ C.out (y.out.put z.out _) _ (by first|rfl|(unfold wrap64;have:=z.out;omega))
         case measure=>exact Qo z.out _ (by first|rfl|(unfold wrap64;have:=z.out;omega))
      have bB:=bL.out
      rw[U,show opR 9 a b=orR a b from rfl,Jvb br bx,←bA]at bB
      rw[U]at A
      clear U bO bH cl bR bS
      have cO:Qp p x d=(if (a.k==2&&a.n==1||(b.k==2&&b.n==1)||bC)then Yi ((a.k==2&&a.n==1)||(b.k==2&&b.n==1))else Jf,0):=bB
      have cB:Hid (Qp p x d=(if (a.k==2&&a.n==1||(b.k==2&&b.n==1)||bC)then Yi ((a.k==2&&a.n==1)||(b.k==2&&b.n==1))else Jf,0)):=cO
      clear bB cO bA br bx cv bL
      go_upto_region 31 with fail
      obtain⟨A,H,K,E,M,O,R,X,Z,bc,bf,bh,bi⟩:=y.out.cells
      go_cut [142] from 134 to 141 (fun s cU=>s=.bool (a.k==2&&a.n==1||(b.k==2&&b.n==1)||bC)∧WoS w wr.heap.size (d++List.replicate (es.length-d.length) Jf) p a b cU)
      case first=>
       cases ca:(a.k==2&&a.n==1)
       ·cases cb:(b.k==2&&b.n==1)
        ·go_wp2_with (go_at_call 15;refine(Jes _ _ _ _).mono ?_;rintro bl bj ⟨rfl,D⟩;have y:Hid _:=y.out.below D;obtain⟨A,H,K,E,M,O,R,X,Z,bc,bf,bh,bi⟩:=y.out.cells;clear A H K E M O R)
         go_meet
         case rel=>exact⟨by rw[ca,cb];rfl,y.out⟩
        go_wp2_with (go_at_call 15;refine(Jes _ _ _ _).mono ?_;rintro bl bj ⟨rfl,D⟩;have y:Hid _:=y.out.below D;obtain⟨A,H,K,E,M,O,R,X,Z,bc,bf,bh,bi⟩:=y.out.cells;clear A H K E M O R)
        go_meet
        case rel=>exact⟨by rw[ca,cb];rfl,y.out⟩
       go_wp2_with (go_at_call 15;refine(Jes _ _ _ _).mono ?_;rintro bl bj ⟨rfl,D⟩;have y:Hid _:=y.out.below D;obtain⟨A,H,K,E,M,O,R,X,Z,bc,bf,bh,bi⟩:=y.out.cells;clear A H K E M O R)
       go_meet
       case rel=>exact⟨by rw[ca];rfl,y.out⟩
      case rest=>
       obtain⟨cd,cu⟩:∃ cd,cd=(a.k==2&&a.n==1||(b.k==2&&b.n==1)||bC):=⟨_,rfl⟩
       rw[←cu]at hcut
       have bD:=cB.out
       rw[←cu]at bD
       obtain⟨rfl,cJ⟩:=hcut
       have y:Hid _:=cJ
       clear cJ cu cB
       cases cd
       ·have C:Hid (Qp p x d=(Jf,0)):=bD
        clear bD
        go_wp2
        go_roundw
        case rel=>exact bn.out _ _ C.out (y.out.pass z.out) _ (by first|rfl|(unfold wrap64;have:=z.out;omega))
        case measure=>exact Qo z.out _ (by first|rfl|(unfold wrap64;have:=z.out;omega))
       have C:Hid (Qp p x d=(Yi ((a.k==2&&a.n==1)||(b.k==2&&b.n==1)),0)):=bD
       clear bD
       obtain⟨A,H,K,E,M,O,R,X,Z,bc,bf,bh,bi⟩:=y.out.cells
       cases ca:(a.k==2&&a.n==1)
       focus
        rw[ca,Bool.false_or]at C
       rotate_left 1
       focus
        rw[ca,Bool.true_or]at C
       all_goals
        go_wp2_with (first|(go_at_call 15;refine(Jes _ _ _ _).mono ?_;rintro bl bj ⟨rfl,D⟩;have y:Hid _:=y.out.below D;obtain⟨A,H,K,E,M,O,R,X,Z,bc,bf,bh,bi⟩:=y.out.cells;clear A H K E M O R)|(go_at_call 30;refine(Jbw _ _).mono ?_;rintro bl bj ⟨rfl,D⟩;have y:Hid _:=y.out.below D;obtain⟨⟨bZ,bT⟩,⟨cc,bU⟩,⟨cf,bV⟩⟩:=y.out.slot z.out))
        go_roundw
        case rel=>exact bn.out _ _ C.out (y.out.put z.out _) _ (by first|rfl|(unfold wrap64;have:=z.out;omega))
        case measure=>exact Qo z.out _ (by first|rfl|(unfold wrap64;have:=z.out;omega))
    have bA:=cv.out
    by_cases bW:a.k=0∨b.k=0
    ·as_aux_lemma=>
      have hf:bC=false:=by
       rw[bA]
       rcases bW with h|h<;>simp[h]
      have C:Hid (Qp p x d=(Jf,0)):=by
       show _=_
       have fu:p.op=2∨p.op=3∨p.op=4∨p.op=5∨p.op=6∨p.op=7:=by omega
       rw[bL.out]
       rcases fu with h|h|h|h|h|h<;>rw[h]<;>exact if_pos bW
      subst hf
      have dq:(p.op==0)=false:=by simp;omega
      have cx:(p.op==1)=false:=by simp;omega
      have dr:(p.op==11)=false:=by simp;omega
      have ds:(p.op==10)=false:=by simp;omega
      have dt:(p.op==8)=false:=by simp;omega
      have du:(p.op==9)=false:=by simp;omega
      clear cv bA bW br bx cS cT ci cj ty bM bN bG bR bS cl bO bH
      by_cases bE:p.op=6
      ·rw[bE]at A
       clear bE dq cx dr ds dt du
       go_wp2
       go_roundw
       case rel=>exact bn.out _ _ C.out (y.out.pass z.out) _ (by first|rfl|(unfold wrap64;have:=z.out;omega))
       case measure=>exact Qo z.out _ (by first|rfl|(unfold wrap64;have:=z.out;omega))
      by_cases bP:p.op=7
      ·rw[bP]at A
       clear bP bE dq cx dr ds dt du
       go_wp2
       go_roundw
       case rel=>exact bn.out _ _ C.out (y.out.pass z.out) _ (by first|rfl|(unfold wrap64;have:=z.out;omega))
       case measure=>exact Qo z.out _ (by first|rfl|(unfold wrap64;have:=z.out;omega))
      have fq:(p.op==6)=false:=by simpa using bE
      have fr:(p.op==7)=false:=by simpa using bP
      clear bE bP
      go_wp2
      go_roundw
      case rel=>exact bn.out _ _ C.out (y.out.pass z.out) _ (by first|rfl|(unfold wrap64;have:=z.out;omega))
      case measure=>exact Qo z.out _ (by first|rfl|(unfold wrap64;have:=z.out;omega))
    have cz:a.k≠0:=fun h=>bW (.inl h)
    have cA:b.k≠0:=fun h=>bW (.inr h)
    have fE:bC=true:=by rw[bA];simp[cz,cA]
    subst fE
    clear cv bA bW
    by_cases bE:p.op=6
    ·as_aux_lemma=>
      obtain⟨q,dy⟩:∃ q,q=a.beq b:=⟨_,rfl⟩
      have fW:∀ W,(binOp .eql 49 (.agg #[.int .i64 a.k,.int .i64 a.n,.string a.s]) (.agg #[.int .i64 b.k,.int .i64 b.n,.string b.s])).run prog W=.ok (.bool q) W:=fun W=>by rw[dy];exact Jcx W _ _ _ _ _ _
      have C:Hid (Qp p x d=(Yi q,0)):=by
       show _=_
       rw[bL.out,bE,dy]
       exact if_neg (by omega)
      rw[bE]at A
      clear dy
      clear bE cz cA br bx cS cT ci cj ty bM bN bG bR bS cl bO bH
      go_wp2_with (go_at_call 30;refine(Jbw _ _).mono ?_;rintro bl bj ⟨rfl,D⟩;have y:Hid _:=y.out.below D;obtain⟨⟨bZ,bT⟩,⟨cc,bU⟩,⟨cf,bV⟩⟩:=y.out.slot z.out)
      go_roundw
      case rel=>exact bn.out _ _ C.out (y.out.put z.out _) _ (by first|rfl|(unfold wrap64;have:=z.out;omega))
      case measure=>exact Qo z.out _ (by first|rfl|(unfold wrap64;have:=z.out;omega))
    by_cases bP:p.op=7
    ·as_aux_lemma=>
      have dA:=ty.same (by omega) (by omega)
      rw[ci,cj]at dA
      rw[dA]at br
      have C:Hid (Qp p x d=(Yi (Job a b),0)):=by
       show _=_
       rw[bL.out,bP,show opR 7 a b=Kd Jkc a b from rfl]
       unfold Kd
       rw[if_neg (by omega)]
       exact Kdy br bx cz cA
      rw[bP]at A
      clear bP bE cz cA br bx cS cT ci cj ty bM bN bG bR bS cl bO bH dA
      go_wp2_with (first|(go_at_call 32;refine(Kda _ _ _ _ _ _ _).mono ?_;rintro bl bj ⟨rfl,D⟩;have y:Hid _:=y.out.below D;obtain⟨A,H,K,E,M,O,R,X,Z,bc,bf,bh,bi⟩:=y.out.cells;clear A H K E M O R)|(go_at_call 30;refine(Jbw _ _).mono ?_;rintro bl bj ⟨rfl,D⟩;have y:Hid _:=y.out.below D;obtain⟨⟨bZ,bT⟩,⟨cc,bU⟩,⟨cf,bV⟩⟩:=y.out.slot z.out))
      go_roundw
      case rel=>exact bn.out _ _ C.out (y.out.put z.out _) _ (by first|rfl|(unfold wrap64;have:=z.out;omega))
      case measure=>exact Qo z.out _ (by first|rfl|(unfold wrap64;have:=z.out;omega))
    have bY:2≤p.op:=by omega
    have dI:p.op≤5:=by omega
    have cM:=Jx6 (a:=a) (b:=b) bY dI cz cA
    have dq:(p.op==0)=false:=by simp;omega
    have cx:(p.op==1)=false:=by simp;omega
    have dr:(p.op==11)=false:=by simp;omega
    have ds:(p.op==10)=false:=by simp;omega
    have dt:(p.op==8)=false:=by simp;omega
    have du:(p.op==9)=false:=by simp;omega
    have fq:(p.op==6)=false:=by simp;omega
    have fr:(p.op==7)=false:=by simp;omega
    obtain⟨⟨bZ,bT⟩,⟨cc,bU⟩,⟨cf,bV⟩⟩:=y.out.slot z.out
    clear cz cA br bx cS cT ci cj ty bG bR bS cl bO bH bE bP
    rcases cM with⟨dB,bu⟩|⟨dB,c,cr,fT,bu⟩
    ·as_aux_lemma=>
      have C:Hid (Qp p x d=(Jbg (Khk p.op a.n b.n),0)):=bL.out.trans bu
      clear bu
      go_wp2_with (go_at_call 33;refine(Jj1 _ _ _ _ bY dI bM bN).mono ?_;rintro bl bj ⟨rfl,rfl⟩)
      go_roundw
      case rel=>exact bn.out _ _ C.out (y.out.put z.out _) _ (by first|rfl|(unfold wrap64;have:=z.out;omega))
      case measure=>exact Qo z.out _ (by first|rfl|(unfold wrap64;have:=z.out;omega))
    as_aux_lemma=>
     have dO:Hid (Kl es x=.inr c∧c≠0):=by
      have dk:Qp p x d=(Jf,c):=bL.out.trans bu
      have dz:=Jmx fk.out bK.out.1
      rw[dk]at dz
      rw[if_neg cr]at dz
      exact⟨Jp1 dz,cr⟩
     have fU:(Kdw p.op a.n b.n != 0)=true:=by simp[dB]
     obtain⟨⟨dJ,fs⟩,⟨cP,g1⟩,⟨cQ,g2⟩⟩:=y.out.resf
     clear bu dB cr bZ bT cc bU cf bV
     go_wp2_with (go_at_call 33;refine(Jj1 _ _ _ _ bY dI bM bN).mono ?_;rintro bl bj ⟨rfl,rfl⟩)
     refine bodyPost_ret (v:=.tuple #[a.val,.int .i64 (c:Int)]) ?_ rfl ?_
     ·simp[results,results13,go_sem,dJ,cP,cQ]
     exact⟨((y.out.low.setCell (p:=⟨w.heap.size,0,none⟩) (Oa2 _) _).setCell (p:=⟨w.heap.size,1,none⟩) (Oa2 _) _).setCell (p:=⟨w.heap.size,2,none⟩) (Oa2 _) _,.inr ⟨c,a,dO.out.1,dO.out.2,rfl⟩⟩
  as_aux_lemma=>
   obtain⟨v,bu⟩:∃ v,v=d.getLastD Jf:=⟨_,rfl⟩
   have dd:d.length=es.length:=by omega
   have fx:0<d.length:=by omega
   have fl:Hid (Kl es x=.inl v):=by
    have dm:=bK.out.1
    rw[dd,Of2]at dm
    show Kl es x=_
    unfold Kl
    rw[dm,bu]
   have dV:d.getLastD Jf=d.getD (d.length-1) Jf:=by
    rw[Ok7,Om6,Oa0]
   have df:d.length-1<(d++List.replicate (es.length-d.length) Jf).length:=by rw[Oa8];omega
   obtain⟨fp,fL,e,_,cV,cW,cX⟩:=cN.vals.at df
   cases e
   rw[Oi2 (by omega)]at cV cW cX
   have dU:d[d.length-1]=v:=by rw[bu,dV,Oa0,Oa3 (by omega)];rfl
   rw[dU,Od0]at cV cW cX
   have cx:d.length-1=es.length-1:=by omega
   rw[cx]at cV cW cX
   have dJ:wr.cell? ⟨w.heap.size,0,none⟩=some (.int .i64 0):=by simp[World.cell?,bI]
   have cP:wr.cell? ⟨w.heap.size,1,none⟩=some (.int .i64 0):=by simp[World.cell?,bI]
   have cQ:wr.cell? ⟨w.heap.size,2,none⟩=some (.string ⟨#[]⟩):=by simp[World.cell?,bI]
   have fs:wr.frozen? ⟨w.heap.size,0,none⟩=false:=by simp[World.frozen?,bI]
   have g1:wr.frozen? ⟨w.heap.size,1,none⟩=false:=by simp[World.frozen?,bI]
   have g2:wr.frozen? ⟨w.heap.size,2,none⟩=false:=by simp[World.frozen?,bI]
   have fB:((es.length:Int)-1)=((es.length-1:Nat):Int):=by omega
   obtain⟨m,dW⟩:∃ m,m=es.length-1:=⟨_,rfl⟩
   rw[←dW]at fB cV cW cX
   have dC:(0:Int)≤(m:Int):=by omega
   have dD:(m:Int)<(es.length:Int):=by omega
   have fR:Hid (d.length=es.length):=dd
   rw[dd]
   clear bu dV df dU cx dd dW fx fw dh bK cN bI
   go_wp2
   refine bodyPost_ret (v:=.tuple #[v.val,.int .i64 0]) ?_ rfl ?_
   ·simp[results,results13,go_sem,dJ,cP,cQ]
   exact⟨((dc.setCell (p:=⟨w.heap.size,0,none⟩) (Oa2 _) _).setCell (p:=⟨w.heap.size,1,none⟩) (Oa2 _) _).setCell (p:=⟨w.heap.size,2,none⟩) (Oa2 _) _,.inl ⟨v,fl.out,rfl⟩⟩
end Go.Proofs.YtjjdldddcegjiaaGreatDoor
