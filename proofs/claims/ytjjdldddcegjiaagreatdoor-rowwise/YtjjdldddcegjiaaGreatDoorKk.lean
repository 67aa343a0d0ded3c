/- The panic of a reader that gives up is caught, and what a segment's Pack answers. -/
import Derived.Test.YtjjdldddcegjiaaGreatDoorKj
set_option maxHeartbeats 1000000
set_option maxRecDepth 100000
namespace Go.Proofs.YtjjdldddcegjiaaGreatDoor
open Go.RowKit Tryz
def Jk9 (y z:Addr)(c:Int):Value:=if c=0 then .nilIface else if c=2 then .iface 443 (.pointer (some z))else .iface 443 (.pointer (some y))
structure Kjk (how:Int):Prop where
 pack:∀ (t:Int) (a:Option Addr) (cap:Nat) (xs:List V) (w:World),xs.length≤maxLen→Jv w a xs→∀ (a0 a1 a2:Addr),Jf0 w a0 a1 a2 →
  Calls prog 75 #[.int .i64 t,.int .i64 how,.slice a xs.length cap] w fun e w'=>e=.returned (.tuple #[.string (Qw (Jev t how xs).1),Jk9 a0 a1 (Jev t how xs).2])∧Below w.heap.size w w'
 vals:∀ (g:Nat) (t:Int) (n:Nat) (bs:List UInt8) (a2:Addr) (w:World),RAt w g t bs a2→(t=1∨t=2∨t=3)→(how=0∨how=1∨how=2∨how=3)→n≤64 →
  Calls prog 225 #[.pointer (some ⟨g,0,none⟩),.int .i64 how,.int .i64 n] w (Qg w g t a2 (Ug t how n bs) fun vs v w'=>Jc9 w w' vs v)
theorem Ki5:Kjk 0:=by
 refine⟨fun t a cap xs w hn A E H z C=>?_,fun g t n bs z w h D _ hn=>Jqf g t n bs z w h D hn⟩
 by_cases y:way t 0=true∧Jdq t xs
 ·have e:Jev t 0 xs=(Jav t 0 xs,0):=by
   unfold Jev
   rw[if_pos (by rw[Og5];exact⟨y.1,(Jfd t xs).2 y.2⟩),if_neg (by simp)]
  rw[e]
  exact Jtj t a cap xs w hn A y.1 y.2
 have e:Jev t 0 xs=([],1):=by
  unfold Jev
  rw[if_neg (by rw[Og5];exact fun h=>y ⟨h.1,(Jfd t xs).1 h.2⟩)]
 rw[e]
 exact Jzl t 0 a cap xs w hn A _ C.c0 y
def Kje (bs:List UInt8):Prop:=∀ t y n r,Jf2 bs=some ((t,y,n),r)→Kjk (y:Nat)
structure Qh (w:World) (p q r:Nat) (t:Int) (sl ev:Value):Prop where
 c0:w.heap[p]?=some (.cells #[.int .i64 t] 3 (0,0))
 c1:w.heap[q]?=some (.cells #[sl] 58 (0,0))
 c2:w.heap[r]?=some (.cells #[ev] 77 (0,0))
 pq:¬ p=q
 pr:¬ p=r
 qr:¬ q=r
theorem Qh.facts {w:World}{p q r:Nat}{t:Int}{sl ev:Value}(h:Qh w p q r t sl ev) :
  w.cell? ⟨p,0,none⟩=some (.int .i64 t)∧w.cell? ⟨q,0,none⟩=some sl∧w.cell? ⟨r,0,none⟩=some ev∧w.frozen? ⟨p,0,none⟩=false∧w.frozen? ⟨q,0,none⟩=false∧w.frozen? ⟨r,0,none⟩=false:=
 ⟨by simp[World.cell?,h.c0],by simp[World.cell?,h.c1],by simp[World.cell?,h.c2],by simp[World.frozen?,h.c0],by simp[World.frozen?,h.c1],by simp[World.frozen?,h.c2]⟩
theorem Qh.of_block {w w':World}{p q r:Nat}{t:Int}{sl ev:Value}(h:Qh w p q r t sl ev)(y:w'.heap[p]?=w.heap[p]?)(z:w'.heap[q]?=w.heap[q]?)(A:w'.heap[r]?=w.heap[r]?):Qh w' p q r t sl ev:=
 ⟨by rw[y];exact h.c0,by rw[z];exact h.c1,by rw[A];exact h.c2,h.pq,h.pr,h.qr⟩
theorem Qh.lt {w:World}{p q r:Nat}{t:Int}{sl ev:Value}(h:Qh w p q r t sl ev):p<w.heap.size∧q<w.heap.size∧r<w.heap.size:=⟨Jd h.c0,Jd h.c1,Jd h.c2⟩
theorem Jbv {w:World}{p:Nat}{x v:Value}{ty:TypeId}(h:w.heap[p]?=some (.cells #[x] ty (0,0))):(w.setCell ⟨p,0,none⟩ v).heap[p]?=some (.cells #[v] ty (0,0)):=by
 simp[World.setCell,Oi3,h]
theorem Qh.set {w:World}{p q r:Nat}{t t':Int}{sl ev sl' ev':Value}(h:Qh w p q r t sl ev) :
  Qh (((w.setCell ⟨p,0,none⟩ (.int .i64 t')).setCell ⟨q,0,none⟩ sl').setCell ⟨r,0,none⟩ ev') p q r t' sl' ev':=by
 refine⟨?_,?_,?_,h.pq,h.pr,h.qr⟩
 ·rw[Oa4 _ _ _ _ (show p≠r from h.pr),Oa4 _ _ _ _ (show p≠q from h.pq)]
  exact Jbv h.c0
 ·rw[Oa4 _ _ _ _ (show q≠r from h.qr)]
  refine Jbv (x:=sl) ?_
  rw[Oa4 _ _ _ _ (show q≠p from Oc5 h.pq)]
  exact h.c1
 refine Jbv (x:=ev) ?_
 rw[Oa4 _ _ _ _ (show r≠q from Oc5 h.qr),Oa4 _ _ _ _ (show r≠p from Oc5 h.pr)]
 exact h.c2
theorem Qh.s0 {w:World}{p q r:Nat}{t t':Int}{sl ev:Value}(h:Qh w p q r t sl ev):Qh (w.setCell ⟨p,0,none⟩ (.int .i64 t')) p q r t' sl ev:=
 ⟨Jbv h.c0,by rw[Oa4 _ _ _ _ (show q≠p from Oc5 h.pq)];exact h.c1,by rw[Oa4 _ _ _ _ (show r≠p from Oc5 h.pr)];exact h.c2,h.pq,h.pr,h.qr⟩
theorem Qh.s1 {w:World}{p q r:Nat}{t:Int}{sl sl' ev:Value}(h:Qh w p q r t sl ev):Qh (w.setCell ⟨q,0,none⟩ sl') p q r t sl' ev:=
 ⟨by rw[Oa4 _ _ _ _ (show p≠q from h.pq)];exact h.c0,Jbv h.c1,by rw[Oa4 _ _ _ _ (show r≠q from Oc5 h.qr)];exact h.c2,h.pq,h.pr,h.qr⟩
theorem Qh.s2 {w:World}{p q r:Nat}{t:Int}{sl ev ev':Value}(h:Qh w p q r t sl ev):Qh (w.setCell ⟨r,0,none⟩ ev') p q r t sl ev':=
 ⟨by rw[Oa4 _ _ _ _ (show p≠r from h.pr)];exact h.c0,by rw[Oa4 _ _ _ _ (show q≠r from h.qr)];exact h.c1,Jbv h.c2,h.pq,h.pr,h.qr⟩
theorem Qh.drew {w:World}{p q r:Nat}{t:Int}{sl ev:Value}(h:Qh w p q r t sl ev):Qh w.drew p q r t sl ev:=⟨h.c0,h.c1,h.c2,h.pq,h.pr,h.qr⟩
theorem Jkv (p q r:Nat)(t:Int)(sl ev:Value)(D:∃ a l c,sl=.slice a l c)(z:Addr)(C:Value)(u:TypeId)(A:List PanicEntry)(w:World)(y:Qh w p q r t sl ev)
  (hf:w.cell? ⟨5,0,none⟩=some (.iface 443 (.pointer (some z)))) :
  CallsD prog 223 #[.pointer (some ⟨p,0,none⟩),.pointer (some ⟨q,0,none⟩),.pointer (some ⟨r,0,none⟩)] (.panicking ({v:=.iface u C,recovered:=false}::A)) w fun e M w'=>
   e=.returned (.tuple #[])∧M=.panicking ({v:=.iface u C,recovered:=true}::A)∧w'=((w.setCell ⟨p,0,none⟩ (.int .i64 0)).setCell ⟨q,0,none⟩ (.slice none 0 0)).setCell ⟨r,0,none⟩ (.iface 443 (.pointer (some z))):=by
 obtain⟨a,l,c,rfl⟩:=D
 obtain⟨E,H,K,O,R,U⟩:=y.facts
 have X:=y.pq
 have Z:=y.pr
 have bc:=y.qr
 refine callsD_of_wpS func223 rfl fun c₀ cs hu=>?_
 apply wpS_seq
 apply wpS_region
 simp[wpOpsS,go_sem,recoverD,hu,ntmps223,Exit.thenS]
 refine wpS_cond (t:=true) (by simp[Act.eval,Array.replicate]) ?_
 simp only[if_true]
 apply wpS_region
 simp[wpOpsS,go_sem,hf,E,H,K,O,R,U,bodyPostS,results,results223]
theorem Jvs (p q r:Addr)(w:World) :
  CallsD prog 223 #[.pointer (some p),.pointer (some q),.pointer (some r)] .returning w fun e y w'=>e=.returned (.tuple #[])∧y=.returning∧w'=w:=by
 refine callsD_of_wpS func223 rfl fun c₀ cs hu=>?_
 apply wpS_seq
 apply wpS_region
 simp[wpOpsS,go_sem,recoverD,hu,ntmps223,Exit.thenS]
 refine wpS_cond (t:=false) (by simp[Act.eval,Array.replicate]) ?_
 simp only[Ol9,if_false]
 refine wpS_of_wp (wp_skip ?_)
 cases c₀
 simp_all [bodyPostS,results,results223]
end Go.Proofs.YtjjdldddcegjiaaGreatDoor
namespace Go.Proofs.YtjjdldddcegjiaaGreatDoor
open Go.RowKit Tryz
def Jbf (bs:List UInt8):Option (Nat×Nat×List V):=
 match Jf2 bs with
 |none=>none
 |some ((t,y,n),r)=>match Ug t y n r with
  |none=>none
  |some (vs,_)=>if Jev t y vs=(bs,0)then some (t,y,vs)else none
theorem Jum {bs r:List UInt8}{t z n:Nat}(h:Jf2 bs=some ((t,z,n),r)):way t z=true∧n≤64:=by
 match bs,h with
 |b0::b1::b2::rest,h=>
  simp only[Jf2]at h
  by_cases y:way (b0.toNat:Int) (b1.toNat:Int)=true∧b2.toNat≤64
  ·rw[if_pos y]at h
   simp at h
   obtain⟨⟨rfl,rfl,rfl⟩,_⟩:=h
   exact y
  rw[if_neg y]at h
  simp at h
theorem Kfn (t y:Int)(h:way t y=true):t=1∨t=2∨t=3:=by
 unfold way at h
 simp at h
 omega
def Kd5 (w:World)(bs:List UInt8):World:=(((w.alloc (.cells #[.int .i64 0] 3)).alloc (.cells #[.slice none 0 0] 58)).alloc (.cells #[.nilIface] 77)).alloc (.cells #[.int .i64 0,.string (Qw bs)] 382)
theorem Jn0 {t y:Int}{n:Nat}{bs rest:List UInt8}{vs:List V}(h:Ug t y n bs=some (vs,rest)):vs.length=n:=by
 unfold Ug at h
 split at h
 ·simp at h
 rename_i hs r hf
 obtain⟨x,_,e⟩:=Oe9.1 h
 simp only[Oj3]at e
 rw[←e.1,Jez]
 exact Kt hf
theorem Joh {w:World}{b:Nat}{vs:List V}{y:List Value}(h:Kv w b vs y):Kv w.drew b vs y:=h
theorem Jgy {P:Program}{c:Code}{Q:Exit→Act→World→Prop}{a:Act}{w:World}(h:c.wp P (Exit.then (Q .normal) (fun _ _ _=>False)) a w):c.wp P Q a w:=
 Code.wp_mono (fun e a w h=>by cases e<;>first|exact h|exact False.elim h) h
theorem Jhw (w:World)(o:Obj):(w.alloc o).heap.size=w.heap.size+1:=by simp
theorem Khm (w:World)(y z A C:Obj) :
  ((((w.alloc y).alloc z).alloc A).alloc C).heap[w.heap.size]?=some y∧((((w.alloc y).alloc z).alloc A).alloc C).heap[w.heap.size+1]?=some z ∧
  ((((w.alloc y).alloc z).alloc A).alloc C).heap[w.heap.size+1+1]?=some A∧((((w.alloc y).alloc z).alloc A).alloc C).heap[w.heap.size+1+1+1]?=some C:=by
 have R:=Jhw w y
 have K:=Jhw (w.alloc y) z
 have M:=Jhw ((w.alloc y).alloc z) A
 have O:=(Oh1 w y).1
 have D:=(Oh1 (w.alloc y) z).1
 have E:=(Oh1 ((w.alloc y).alloc z) A).1
 have H:=(Oh1 (((w.alloc y).alloc z).alloc A) C).1
 rw[R]at D K
 rw[K]at E M
 rw[M]at H
 refine⟨?_,?_,?_,H⟩
 ·rw[Oa9 _ _ _ (by omega),Oa9 _ _ _ (by omega),Oa9 _ _ _ (by omega)];exact O
 ·rw[Oa9 _ _ _ (by omega),Oa9 _ _ _ (by omega)];exact D
 rw[Oa9 _ _ _ (by omega)];exact E
theorem Jmv {Q:Ending→World→Prop}{p q r:Nat}(z:Array Value)(w1:World)(y:Addr)(A:Qh w1 p q r 0 (.slice none 0 0) .nilIface)(hf:w1.cell? ⟨5,0,none⟩=some (.iface 443 (.pointer (some y))))
  (K:z[2]?.getD undef=.pointer (some ⟨p,0,none⟩)) (M:z[3]?.getD undef=.pointer (some ⟨q,0,none⟩)) (O:z[4]?.getD undef=.pointer (some ⟨r,0,none⟩))
  (C:Q (.returned (.tuple #[.int .i64 0,.slice none 0 0,.iface 443 (.pointer (some y))])) (((w1.setCell ⟨p,0,none⟩ (.int .i64 0)).setCell ⟨q,0,none⟩ (.slice none 0 0)).setCell ⟨r,0,none⟩ (.iface 443 (.pointer (some y))))) :
  bodyPostD prog Tryz.f172 Q (Exit.panic [{v:=.iface 443 (.pointer (some y)),recovered:=false}])
   {tmps:=z,defers:=[{target:=Target.fn (Fn.func 223) #[.pointer (some ⟨p,0,none⟩),.pointer (some ⟨q,0,none⟩),.pointer (some ⟨r,0,none⟩)],args:=#[]}]} w1:=by
 refine leaves_cons (f:=223) (args:=#[.pointer (some ⟨p,0,none⟩),.pointer (some ⟨q,0,none⟩),.pointer (some ⟨r,0,none⟩)]) (by simp) (by simp[go_sem]) ?_
 refine(Jkv p q r 0 _ _ ⟨_,_,_,rfl⟩ y _ _ [] w1 A hf).mono ?_
 rintro e R U ⟨rfl,rfl,rfl⟩
 obtain⟨D,E,H,X,Z,bc⟩:=(A.set (t':=0) (sl':=.slice none 0 0) (ev':=.iface 443 (.pointer (some y)))).facts
 generalize ((w1.setCell ⟨p,0,none⟩ (.int .i64 0)).setCell ⟨q,0,none⟩ (.slice none 0 0)).setCell ⟨r,0,none⟩ (.iface 443 (.pointer (some y)))=W at *
 simp[Leaves,settle,results,results172,go_sem,K,M,O,D,E,H]
 exact C
theorem Jl4 {Q:Ending→World→Prop}{p q r:Nat}{t:Int}{sl ev:Value}(y:Array Value)(w1:World)(z:Qh w1 p q r t sl ev)
  (H:y[2]?.getD undef=.pointer (some ⟨p,0,none⟩)) (K:y[3]?.getD undef=.pointer (some ⟨q,0,none⟩)) (M:y[4]?.getD undef=.pointer (some ⟨r,0,none⟩))
  (A:Q (.returned (.tuple #[.int .i64 t,sl,ev])) w1) :
  bodyPostD prog Tryz.f172 Q Exit.ret
   {tmps:=y,defers:=[{target:=Target.fn (Fn.func 223) #[.pointer (some ⟨p,0,none⟩),.pointer (some ⟨q,0,none⟩),.pointer (some ⟨r,0,none⟩)],args:=#[]}]} w1:=by
 refine leaves_cons (f:=223) (args:=#[.pointer (some ⟨p,0,none⟩),.pointer (some ⟨q,0,none⟩),.pointer (some ⟨r,0,none⟩)]) (by simp) (by simp[go_sem]) ?_
 refine(Jvs _ _ _ w1).mono ?_
 rintro e O R ⟨rfl,rfl,rfl⟩
 obtain⟨C,D,E,U,X,Z⟩:=z.facts
 simp[Leaves,settle,results,results172,go_sem,H,K,M,C,D,E]
 exact A
theorem Ki3 (bs:List UInt8)(hW:Kje bs)(w:World)(cJ:bs.length≤maxLen)(br bu C:Addr)(bf:Jf0 w br bu C) :
  Calls prog 172 #[.string (Qw bs)] w fun e w'=>Below w.heap.size w w'∧((Jbf bs=none∧e=.returned (.tuple #[.int .i64 0,.slice none 0 0,.iface 443 (.pointer (some C))])) ∨
   ∃ t H vs b,Jbf bs=some (t,H,vs)∧e=.returned (.tuple #[.int .i64 (t:Nat),.slice (some ⟨b,0,none⟩) vs.length vs.length,.nilIface])∧w.heap.size≤b∧Kv w' b vs []):=by
 have da:∀ (fn:Fn) (first cap:Array Value) (w:World),(Instr.makeFunc fn first cap).run prog w=.ok (.func fn first cap) w:=fun _ _ _ _=>rfl
 have cE:=Jm bf.c2
 simp only at cE
 obtain⟨bj,bi⟩:∃ bj,bj=Kd5 w bs:=⟨_,rfl⟩
 have bz:Below w.heap.size w bj:=by
  rw[bi]
  exact((((Oa5 _ _).alloc (Oa2 _) _).alloc (by simp) _).alloc (by simp;omega) _).alloc (by simp;omega) _
 have cP:bj.heap.size=w.heap.size+1+1+1+1:=by rw[bi];simp[Kd5]
 obtain⟨cx,cy,cz,cA⟩:=Khm w (.cells #[.int .i64 0] 3) (.cells #[.slice none 0 0] 58) (.cells #[.nilIface] 77) (.cells #[.int .i64 0,.string (Qw bs)] 382)
 have bJ:Qh bj w.heap.size (w.heap.size+1) (w.heap.size+1+1) 0 (.slice none 0 0) .nilIface:=by
  rw[bi]
  exact⟨cx,cy,cz,by omega,by omega,by omega⟩
 have cc:RAt bj (w.heap.size+1+1+1) 0 bs C:=by
  refine⟨by omega,?_,(bf.below bz).c2,cJ⟩
  rw[bi]
  exact cA
 clear cx cy cz cA
 have bO:=Kbu _ _ bs C bj cc
 go_enter_defers func172,ntmps172
 go_wp2_with fail
 rw[bi]at bO
 refine bO.mono ?_
 rw[←bi]
 clear bO
 rintro e w1 ⟨Z,⟨bh,rfl⟩|⟨t,H,n,r,bh,rfl,ca⟩⟩
 ·go_wp2_with fail
  have bM:Qh w1 w.heap.size (w.heap.size+1) (w.heap.size+1+1) 0 (.slice none 0 0) .nilIface:=bJ.of_block (Z.block _ (by omega) (by omega)) (Z.block _ (by omega) (by omega)) (Z.block _ (by omega) (by omega))
  have X:=bz.trans (Z.below (B:=w.heap.size) (by omega) (by omega))
  refine Jmv _ w1 C bM (bf.below X).c2 rfl rfl rfl ⟨?_,.inl ⟨?_,rfl⟩⟩
  ·exact((X.setCell (p:=⟨w.heap.size,0,none⟩) (Oa2 _) _).setCell (p:=⟨w.heap.size+1,0,none⟩) (by show w.heap.size≤w.heap.size+1;omega) _).setCell (p:=⟨w.heap.size+1+1,0,none⟩) (by show w.heap.size≤w.heap.size+1+1;omega) _
  unfold Jbf;rw[bh]
 obtain⟨cv,cM⟩:=Jum bh
 have cf:=hW _ _ _ _ bh
 have cu:=cf.vals _ _ n r C w1 ca (Kfn _ _ cv) (Jo7 _ _ cv) cM
 go_wp2_with fail
 refine cu.mono ?_
 clear cu
 rintro e M ⟨bP,⟨bA,rfl⟩|⟨vs,rest,v,bA,rfl,⟨b,rfl,cG,cn⟩,cb⟩⟩
 ·go_wp2_with fail
  have E:=Z.trans bP
  have bM:Qh M w.heap.size (w.heap.size+1) (w.heap.size+1+1) 0 (.slice none 0 0) .nilIface:=bJ.of_block (E.block _ (by omega) (by omega)) (E.block _ (by omega) (by omega)) (E.block _ (by omega) (by omega))
  have X:=bz.trans (E.below (B:=w.heap.size) (by omega) (by omega))
  refine Jmv _ M C bM (bf.below X).c2 rfl rfl rfl ⟨?_,.inl ⟨?_,rfl⟩⟩
  ·exact((X.setCell (p:=⟨w.heap.size,0,none⟩) (Oa2 _) _).setCell (p:=⟨w.heap.size+1,0,none⟩) (by show w.heap.size≤w.heap.size+1;omega) _).setCell (p:=⟨w.heap.size+1+1,0,none⟩) (by show w.heap.size≤w.heap.size+1+1;omega) _
  unfold Jbf
  rw[bh]
  simp only[bA]
 have E:=Z.trans bP
 have O:Qh M w.heap.size (w.heap.size+1) (w.heap.size+1+1) 0 (.slice none 0 0) .nilIface:=bJ.of_block (E.block _ (by omega) (by omega)) (E.block _ (by omega) (by omega)) (E.block _ (by omega) (by omega))
 have X:=bz.trans (E.below (B:=w.heap.size) (by omega) (by omega))
 obtain⟨bB,bC,bD,bG,bH,bI⟩:=O.facts
 have c0:=cb.typ
 have cO:=Z.size
 have cF:w.heap.size+1+1+1<b:=by omega
 have cK:vs.length≤maxLen:=by
  rw[Jn0 bA]
  unfold maxLen
  omega
 have bl:Hid (Jbf bs=if Jev t H vs=(bs,0)then some (t,H,vs)else none):=by
  show _=_
  unfold Jbf
  rw[bh]
  simp only[bA]
 clear Z bP E bh bA ca cc bJ cO bi cP bz cG
 go_wp2_with fail
 obtain⟨p,bQ⟩:∃ p,p=w.heap.size:=⟨_,rfl⟩
 obtain⟨q,bS⟩:∃ q,q=w.heap.size+1:=⟨_,rfl⟩
 obtain⟨z,bW⟩:∃ z,z=w.heap.size+1+1:=⟨_,rfl⟩
 obtain⟨g,bN⟩:∃ g,g=w.heap.size+1+1+1:=⟨_,rfl⟩
 have R:Qh (M.setCell ⟨q,0,none⟩ (.slice (some ⟨b,0,none⟩) vs.length vs.length)) p q z 0 (.slice (some ⟨b,0,none⟩) vs.length vs.length) .nilIface:=by
  rw[bQ,bS,bW]
  refine⟨?_,Jbv O.c1,?_,O.pq,O.pr,O.qr⟩
  ·rw[Oa4 _ _ _ _ (show w.heap.size≠w.heap.size+1 by omega)];exact O.c0
  rw[Oa4 _ _ _ _ (show w.heap.size+1+1≠w.heap.size+1 by omega)];exact O.c2
 have bc:Below w.heap.size w (M.setCell ⟨q,0,none⟩ (.slice (some ⟨b,0,none⟩) vs.length vs.length)):=X.setCell (p:=⟨q,0,none⟩) (by show w.heap.size≤q;omega) _
 have bV:Kv (M.setCell ⟨q,0,none⟩ (.slice (some ⟨b,0,none⟩) vs.length vs.length)) b vs []:=cn.of_block (Oa4 _ _ _ _ (show b≠q by omega))
 have ci:(M.setCell ⟨q,0,none⟩ (.slice (some ⟨b,0,none⟩) vs.length vs.length)).cell? ⟨g,0,none⟩=some (.int .i64 (t:Int)):=by
  rw[Oc3 (w:=M) (Oa4 _ _ _ _ (show g≠q by omega)),bN];exact c0
 have df:w.heap.size≤p:=by omega
 have dg:w.heap.size≤q:=by omega
 have bX:w.heap.size≤z:=by omega
 have cS:¬ g=p∧¬ g=q∧¬ g=z∧¬ b=p∧¬ b=q∧¬ b=z:=by omega
 have cQ:w.heap.size≤b:=by omega
 rw[←bN,←bW,←bS,←bQ]
 generalize M.setCell ⟨q,0,none⟩ (.slice (some ⟨b,0,none⟩) vs.length vs.length)=bK at *
 clear bQ bS bW bN bB bC bD bG bH bI c0 O X cn cb cF
 obtain⟨bB,bC,bD,bG,bH,bI⟩:=R.facts
 have cl:=Jm ci
 simp only at cl
 obtain⟨bR,bT,bU⟩:=R.lt
 have K:Calls prog 75 #[.int .i64 (t:Int),.int .i64 (H:Int),.slice (some ⟨b,0,none⟩) vs.length vs.length] bK.drew fun e w'=>e=.returned (.tuple #[.string (Qw (Jev t H vs).1),Jk9 br bu (Jev t H vs).2])∧Below bK.heap.size bK w':=
  (cf.pack t _ _ vs _ cK (bV.vals.below ((Oa5 _ _).drew)) br bu C (bf.below bc.drew)).mono fun e w' h=>⟨h.1,Jw h.2⟩
 generalize Jev t H vs=cT at *
 obtain⟨bY,bZ⟩:=cT
 simp only at K
 have dc:=R.pq
 have dd:=R.pr
 have de:=R.qr
 by_cases h0:bZ=0
 ·subst h0
  have cj:Jk9 br bu 0=.nilIface:=rfl
  rw[cj]at K
  clear cj
  by_cases bn:bY=bs
  ·have cX:((Qw bY).toList==(Qw bs).toList)=true:=by rw[bn];simp
   have cC:Hid (Jbf bs=some (t,H,vs)):=by
    show _=_
    rw[bl.out,bn,if_pos rfl]
   clear bl bn
   obtain⟨cY,cZ,cI,cU,cV,cH⟩:=cS
   have cN:=bV.lt
   refine Jgy ?_
   go_region_with (first|(go_at_call 75;refine K.mono ?_;rintro e w4 ⟨rfl,y⟩;obtain⟨kk,bE⟩:=Kx y))
   all_goals
    have U:Qh w4 p q z 0 (.slice (some ⟨b,0,none⟩) vs.length vs.length) .nilIface:=R.of_block (y.block _ bR) (y.block _ bT) (y.block _ bU)
    have A:=U.s2 (ev':=.nilIface)
    have D:Below w.heap.size w (w4.setCell ⟨z,0,none⟩ .nilIface):=(bc.trans (y.mono bc.size)).setCell (p:=⟨z,0,none⟩) bX _
    have cr:Kv (w4.setCell ⟨z,0,none⟩ .nilIface) b vs []:=(bV.of_block (y.block _ cN)).of_block (Oa4 _ _ _ _ cH)
    have cW:(w4.setCell ⟨z,0,none⟩ .nilIface).cell? ⟨g,0,none⟩=some (.int .i64 (t:Int)):=by
     rw[Oc3 (w:=w4) (Oa4 _ _ _ _ cI),Oc3 (w:=bK) (y.block _ cl)];exact ci
    clear kk bE K y U
    obtain⟨bB,bC,bD,bG,bH,bI⟩:=A.facts
    go_wp2_with fail
    generalize w4.setCell ⟨z,0,none⟩ .nilIface=cB at *
    refine Jgy ?_
    go_region
    all_goals
     go_wp2_with fail
     refine Jl4 _ _ (t:=(t:Int)) (sl:=.slice (some ⟨b,0,none⟩) vs.length vs.length) (ev:=.nilIface) (by repeat (first|exact A|exact A.drew|apply Qh.s0|apply Qh.s1|apply Qh.s2|apply Qh.drew)) rfl rfl rfl ⟨?_,.inr ⟨t,H,vs,b,cC.out,rfl,cQ,?_⟩⟩
     ·repeat (first|exact D|exact D.drew|refine Below.setCell ?_ (by assumption) _|refine Below.drew ?_)
     repeat (first|exact cr|exact Joh cr|refine Kv.of_block ?_ (Oa4 _ _ _ _ (by assumption))|refine Joh ?_)
  have db:((Qw bY).toList==(Qw bs).toList)=false:=by
   rw[beq_eq_false_iff_ne,Og4,Og4]
   simpa [Qw] using bn
  have bL:Hid (Jbf bs=none):=by
   show _=_
   rw[bl.out,if_neg (by simp[bn])]
  clear bl bn
  refine Jgy ?_
  go_region_with (first|(go_at_call 75;refine K.mono ?_;rintro e w4 ⟨rfl,y⟩;obtain⟨kk,bE⟩:=Kx y))
  all_goals
   have U:Qh w4 p q z 0 (.slice (some ⟨b,0,none⟩) vs.length vs.length) .nilIface:=R.of_block (y.block _ bR) (y.block _ bT) (y.block _ bU)
   have A:=U.s2 (ev':=.nilIface)
   have D:Below w.heap.size w (w4.setCell ⟨z,0,none⟩ .nilIface):=(bc.trans (y.mono bc.size)).setCell (p:=⟨z,0,none⟩) bX _
   clear kk bE K y U
   obtain⟨bB,bC,bD,bG,bH,bI⟩:=A.facts
   have cD:=(bf.below D).c2
   go_wp2_with fail
   generalize w4.setCell ⟨z,0,none⟩ .nilIface=cB at *
   refine Jgy ?_
   go_region
   all_goals
    go_wp2_with fail
    refine Jl4 _ _ (t:=0) (sl:=.slice none 0 0) (ev:=.iface 443 (.pointer (some C))) (by repeat (first|exact A|exact A.drew|apply Qh.s0|apply Qh.s1|apply Qh.s2|apply Qh.drew)) rfl rfl rfl ⟨?_,.inl ⟨bL.out,rfl⟩⟩
    repeat (first|exact D|exact D.drew|refine Below.setCell ?_ (by assumption) _|refine Below.drew ?_)
 obtain⟨bx,ch⟩:∃ bx,Jk9 br bu bZ=.iface 443 (.pointer (some bx)):=by
  unfold Jk9
  rw[if_neg h0]
  split
  ·exact⟨_,rfl⟩
  ·exact⟨_,rfl⟩
 rw[ch]at K
 clear ch
 have bL:Hid (Jbf bs=none):=by
  show _=_
  rw[bl.out,if_neg (by simp[h0])]
 clear bl h0
 refine Jgy ?_
 go_region_with (first|(go_at_call 75;refine K.mono ?_;rintro e w4 ⟨rfl,y⟩;obtain⟨kk,bE⟩:=Kx y))
 all_goals
  have U:Qh w4 p q z 0 (.slice (some ⟨b,0,none⟩) vs.length vs.length) .nilIface:=R.of_block (y.block _ bR) (y.block _ bT) (y.block _ bU)
  have A:=U.s2 (ev':=(.iface 443 (.pointer (some bx))))
  have D:Below w.heap.size w (w4.setCell ⟨z,0,none⟩ (.iface 443 (.pointer (some bx)))):=(bc.trans (y.mono bc.size)).setCell (p:=⟨z,0,none⟩) bX _
  clear kk bE K y U
  obtain⟨bB,bC,bD,bG,bH,bI⟩:=A.facts
  have cD:=(bf.below D).c2
  go_wp2_with fail
  generalize w4.setCell ⟨z,0,none⟩ (.iface 443 (.pointer (some bx)))=cB at *
  refine Jgy ?_
  go_region
  all_goals
   go_wp2_with fail
   refine Jl4 _ _ (t:=0) (sl:=.slice none 0 0) (ev:=.iface 443 (.pointer (some C))) (by repeat (first|exact A|exact A.drew|apply Qh.s0|apply Qh.s1|apply Qh.s2|apply Qh.drew)) rfl rfl rfl ⟨?_,.inl ⟨bL.out,rfl⟩⟩
   repeat (first|exact D|exact D.drew|refine Below.setCell ?_ (by assumption) _|refine Below.drew ?_)
end Go.Proofs.YtjjdldddcegjiaaGreatDoor
namespace Go.Proofs.YtjjdldddcegjiaaGreatDoor
open Go.RowKit Tryz
end Go.Proofs.YtjjdldddcegjiaaGreatDoor
