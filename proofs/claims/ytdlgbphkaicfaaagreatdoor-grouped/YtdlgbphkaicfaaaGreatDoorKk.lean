/- The panic of a reader that gives up is caught, and what a segment's Pack answers. -/
import Derived.Test.YtdlgbphkaicfaaaGreatDoorKj
set_option maxHeartbeats 1000000
set_option maxRecDepth 100000
namespace Go.Proofs.YtdlgbphkaicfaaaGreatDoor
open Go.RowKit Tryz
def Jk9 (y A:Addr)(c:Int):Value:=if c=0 then .nilIface else if c=2 then .iface 435 (.pointer (some A))else .iface 435 (.pointer (some y))
structure Kjk (how:Int):Prop where
 pack:∀ (t:Int) (a:Option Addr) (cap:Nat) (xs:List V) (w:World),xs.length≤maxLen→Jv w a xs→∀ (a0 a1 a2:Addr),Jf0 w a0 a1 a2 →
  Calls prog 64 #[.int .i64 t,.int .i64 how,.slice a xs.length cap] w fun e w'=>e=.returned (.tuple #[.string (Qw (Jev t how xs).1),Jk9 a0 a1 (Jev t how xs).2])∧Below w.heap.size w w'
 vals:∀ (g:Nat) (t:Int) (n:Nat) (bs:List UInt8) (a2:Addr) (w:World),RAt w g t bs a2→(t=1∨t=2∨t=3)→(how=0∨how=1∨how=2∨how=3)→n≤64 →
  Calls prog 214 #[.pointer (some ⟨g,0,none⟩),.int .i64 how,.int .i64 n] w (Qg w g t a2 (Ug t how n bs) fun vs v w'=>Jc9 w w' vs v)
theorem Ki5:Kjk 0:=by
 refine⟨fun t a cap xs w hn D K M A E=>?_,fun g t n bs A w h H _ hn=>Jqf g t n bs A w h H hn⟩
 by_cases y:way t 0=true∧Jdq t xs
 ·have e:Jev t 0 xs=(Jav t 0 xs,0):=by
   unfold Jev
   rw[if_pos (by rw[Og5];exact⟨y.1,(Jfd t xs).2 y.2⟩),if_neg (by simp)]
  rw[e]
  exact Jtj t a cap xs w hn D y.1 y.2
 have e:Jev t 0 xs=([],1):=by
  unfold Jev
  rw[if_neg (by rw[Og5];exact fun h=>y ⟨h.1,(Jfd t xs).1 h.2⟩)]
 rw[e]
 exact Jzl t 0 a cap xs w hn D _ E.c0 y
def Kje (bs:List UInt8):Prop:=∀ t y n r,Jf2 bs=some ((t,y,n),r)→Kjk (y:Nat)
structure Qh (w:World) (p q r:Nat) (t:Int) (sl ev:Value):Prop where
 c0:w.heap[p]?=some (.cells #[.int .i64 t] 3 (0,0))
 c1:w.heap[q]?=some (.cells #[sl] 54 (0,0))
 c2:w.heap[r]?=some (.cells #[ev] 76 (0,0))
 pq:¬ p=q
 pr:¬ p=r
 qr:¬ q=r
theorem Qh.facts {w:World}{p q r:Nat}{t:Int}{sl ev:Value}(h:Qh w p q r t sl ev) :
  w.cell? ⟨p,0,none⟩=some (.int .i64 t)∧w.cell? ⟨q,0,none⟩=some sl∧w.cell? ⟨r,0,none⟩=some ev∧w.frozen? ⟨p,0,none⟩=false∧w.frozen? ⟨q,0,none⟩=false∧w.frozen? ⟨r,0,none⟩=false:=
 ⟨by simp[World.cell?,h.c0],by simp[World.cell?,h.c1],by simp[World.cell?,h.c2],by simp[World.frozen?,h.c0],by simp[World.frozen?,h.c1],by simp[World.frozen?,h.c2]⟩
theorem Qh.of_block {w w':World}{p q r:Nat}{t:Int}{sl ev:Value}(h:Qh w p q r t sl ev)(y:w'.heap[p]?=w.heap[p]?)(A:w'.heap[q]?=w.heap[q]?)(D:w'.heap[r]?=w.heap[r]?):Qh w' p q r t sl ev:=
 ⟨by rw[y];exact h.c0,by rw[A];exact h.c1,by rw[D];exact h.c2,h.pq,h.pr,h.qr⟩
theorem Qh.lt {w:World}{p q r:Nat}{t:Int}{sl ev:Value}(h:Qh w p q r t sl ev):p<w.heap.size∧q<w.heap.size∧r<w.heap.size:=⟨Jd h.c0,Jd h.c1,Jd h.c2⟩
theorem Jbv {w:World}{p:Nat}{x v:Value}{ty:TypeId}(h:w.heap[p]?=some (.cells #[x] ty (0,0))):(w.setCell ⟨p,0,none⟩ v).heap[p]?=some (.cells #[v] ty (0,0)):=by
 simp[World.setCell,Array.getElem?_modify,h]
theorem Qh.set {w:World}{p q r:Nat}{t t':Int}{sl ev sl' ev':Value}(h:Qh w p q r t sl ev) :
  Qh (((w.setCell ⟨p,0,none⟩ (.int .i64 t')).setCell ⟨q,0,none⟩ sl').setCell ⟨r,0,none⟩ ev') p q r t' sl' ev':=by
 refine⟨?_,?_,?_,h.pq,h.pr,h.qr⟩
 ·rw[Oa4 _ _ _ _ (show p≠r from h.pr),Oa4 _ _ _ _ (show p≠q from h.pq)]
  exact Jbv h.c0
 ·rw[Oa4 _ _ _ _ (show q≠r from h.qr)]
  refine Jbv (x:=sl) ?_
  rw[Oa4 _ _ _ _ (show q≠p from Oc5 h.pq)]
  exact h.c1
 refine Jbv (x:=ev) ?_
 rw[Oa4 _ _ _ _ (show r≠q from Oc5 h.qr),Oa4 _ _ _ _ (show r≠p from Oc5 h.pr)]
 exact h.c2
theorem Qh.s0 {w:World}{p q r:Nat}{t t':Int}{sl ev:Value}(h:Qh w p q r t sl ev):Qh (w.setCell ⟨p,0,none⟩ (.int .i64 t')) p q r t' sl ev:=
 ⟨Jbv h.c0,by rw[Oa4 _ _ _ _ (show q≠p from Oc5 h.pq)];exact h.c1,by rw[Oa4 _ _ _ _ (show r≠p from Oc5 h.pr)];exact h.c2,h.pq,h.pr,h.qr⟩
theorem Qh.s1 {w:World}{p q r:Nat}{t:Int}{sl sl' ev:Value}(h:Qh w p q r t sl ev):Qh (w.setCell ⟨q,0,none⟩ sl') p q r t sl' ev:=
 ⟨by rw[Oa4 _ _ _ _ (show p≠q from h.pq)];exact h.c0,Jbv h.c1,by rw[Oa4 _ _ _ _ (show r≠q from Oc5 h.qr)];exact h.c2,h.pq,h.pr,h.qr⟩
theorem Qh.s2 {w:World}{p q r:Nat}{t:Int}{sl ev ev':Value}(h:Qh w p q r t sl ev):Qh (w.setCell ⟨r,0,none⟩ ev') p q r t sl ev':=
 ⟨by rw[Oa4 _ _ _ _ (show p≠r from h.pr)];exact h.c0,by rw[Oa4 _ _ _ _ (show q≠r from h.qr)];exact h.c1,Jbv h.c2,h.pq,h.pr,h.qr⟩
theorem Qh.drew {w:World}{p q r:Nat}{t:Int}{sl ev:Value}(h:Qh w p q r t sl ev):Qh w.drew p q r t sl ev:=⟨h.c0,h.c1,h.c2,h.pq,h.pr,h.qr⟩
theorem Jkv (p q r:Nat)(t:Int)(sl ev:Value)(H:∃ a l c,sl=.slice a l c)(A:Addr)(E:Value)(u:TypeId)(D:List PanicEntry)(w:World)(y:Qh w p q r t sl ev)
  (hf:w.cell? ⟨5,0,none⟩=some (.iface 435 (.pointer (some A)))) :
  CallsD prog 212 #[.pointer (some ⟨p,0,none⟩),.pointer (some ⟨q,0,none⟩),.pointer (some ⟨r,0,none⟩)] (.panicking ({v:=.iface u E,recovered:=false}::D)) w fun e R w'=>
   e=.returned (.tuple #[])∧R=.panicking ({v:=.iface u E,recovered:=true}::D)∧w'=((w.setCell ⟨p,0,none⟩ (.int .i64 0)).setCell ⟨q,0,none⟩ (.slice none 0 0)).setCell ⟨r,0,none⟩ (.iface 435 (.pointer (some A))):=by
 obtain⟨a,l,c,rfl⟩:=H
 obtain⟨K,M,O,U,X,Z⟩:=y.facts
 have ba:=y.pq
 have bb:=y.pr
 have bc:=y.qr
 refine callsD_of_wpS func212 rfl fun c₀ cs hu=>?_
 apply wpS_seq
 apply wpS_region
 simp[wpOpsS,go_sem,recoverD,hu,ntmps212,Exit.thenS]
 refine wpS_cond (t:=true) (by simp[Act.eval,Array.replicate]) ?_
 simp only[if_true]
 apply wpS_region
 simp[wpOpsS,go_sem,hf,K,M,O,U,X,Z,bodyPostS,results,results212]
theorem Jvs (p q r:Addr)(w:World) :
  CallsD prog 212 #[.pointer (some p),.pointer (some q),.pointer (some r)] .returning w fun e y w'=>e=.returned (.tuple #[])∧y=.returning∧w'=w:=by
 refine callsD_of_wpS func212 rfl fun c₀ cs hu=>?_
 apply wpS_seq
 apply wpS_region
 simp[wpOpsS,go_sem,recoverD,hu,ntmps212,Exit.thenS]
 refine wpS_cond (t:=false) (by simp[Act.eval,Array.replicate]) ?_
 simp only[Ol9,if_false]
 refine wpS_of_wp (wp_skip ?_)
 cases c₀
 simp_all [bodyPostS,results,results212]
end Go.Proofs.YtdlgbphkaicfaaaGreatDoor
namespace Go.Proofs.YtdlgbphkaicfaaaGreatDoor
open Go.RowKit Tryz
def Jbf (bs:List UInt8):Option (Nat×Nat×List V):=
 match Jf2 bs with
 |none=>none
 |some ((t,y,n),r)=>match Ug t y n r with
  |none=>none
  |some (vs,_)=>if Jev t y vs=(bs,0)then some (t,y,vs)else none
theorem Jum {bs r:List UInt8}{t A n:Nat}(h:Jf2 bs=some ((t,A,n),r)):way t A=true∧n≤64:=by
 match bs,h with
 |b0::b1::b2::rest,h=>
  simp only[Jf2]at h
  by_cases y:way (b0.toNat:Int) (b1.toNat:Int)=true∧b2.toNat≤64
  ·rw[if_pos y]at h
   simp at h
   obtain⟨⟨rfl,rfl,rfl⟩,_⟩:=h
   exact y
  rw[if_neg y]at h
  simp at h
theorem Kfn (t y:Int)(h:way t y=true):t=1∨t=2∨t=3:=by
 unfold way at h
 simp at h
 omega
def Kd5 (w:World)(bs:List UInt8):World:=(((w.alloc (.cells #[.int .i64 0] 3)).alloc (.cells #[.slice none 0 0] 54)).alloc (.cells #[.nilIface] 76)).alloc (.cells #[.int .i64 0,.string (Qw bs)] 374)
theorem Jn0 {t y:Int}{n:Nat}{bs rest:List UInt8}{vs:List V}(h:Ug t y n bs=some (vs,rest)):vs.length=n:=by
 unfold Ug at h
 split at h
 ·simp at h
 rename_i hs r hf
 obtain⟨x,_,e⟩:=Oe9.1 h
 simp only[Oj3]at e
 rw[←e.1,Jez]
 exact Kt hf
theorem Joh {w:World}{b:Nat}{vs:List V}{y:List Value}(h:Kv w b vs y):Kv w.drew b vs y:=h
theorem Jgy {P:Program}{c:Code}{Q:Exit→Act→World→Prop}{a:Act}{w:World}(h:c.wp P (Exit.then (Q .normal) (fun _ _ _=>False)) a w):c.wp P Q a w:=
 Code.wp_mono (fun e a w h=>by cases e<;>first|exact h|exact False.elim h) h
theorem Jhw (w:World)(o:Obj):(w.alloc o).heap.size=w.heap.size+1:=by simp
theorem Khm (w:World)(y A D E:Obj) :
  ((((w.alloc y).alloc A).alloc D).alloc E).heap[w.heap.size]?=some y∧((((w.alloc y).alloc A).alloc D).alloc E).heap[w.heap.size+1]?=some A ∧
  ((((w.alloc y).alloc A).alloc D).alloc E).heap[w.heap.size+1+1]?=some D∧((((w.alloc y).alloc A).alloc D).alloc E).heap[w.heap.size+1+1+1]?=some E:=by
 have X:=Jhw w y
 have O:=Jhw (w.alloc y) A
 have R:=Jhw ((w.alloc y).alloc A) D
 have U:=(Oh1 w y).1
 have H:=(Oh1 (w.alloc y) A).1
 have K:=(Oh1 ((w.alloc y).alloc A) D).1
 have M:=(Oh1 (((w.alloc y).alloc A).alloc D) E).1
 rw[X]at H O
 rw[O]at K R
 rw[R]at M
 refine⟨?_,?_,?_,M⟩
 ·rw[Oa9 _ _ _ (by omega),Oa9 _ _ _ (by omega),Oa9 _ _ _ (by omega)];exact U
 ·rw[Oa9 _ _ _ (by omega),Oa9 _ _ _ (by omega)];exact H
 rw[Oa9 _ _ _ (by omega)];exact K
theorem Jmv {Q:Ending→World→Prop}{p q r:Nat}(A:Array Value)(w1:World)(y:Addr)(D:Qh w1 p q r 0 (.slice none 0 0) .nilIface)(hf:w1.cell? ⟨5,0,none⟩=some (.iface 435 (.pointer (some y))))
  (O:A[2]?.getD undef=.pointer (some ⟨p,0,none⟩)) (R:A[3]?.getD undef=.pointer (some ⟨q,0,none⟩)) (U:A[4]?.getD undef=.pointer (some ⟨r,0,none⟩))
  (E:Q (.returned (.tuple #[.int .i64 0,.slice none 0 0,.iface 435 (.pointer (some y))])) (((w1.setCell ⟨p,0,none⟩ (.int .i64 0)).setCell ⟨q,0,none⟩ (.slice none 0 0)).setCell ⟨r,0,none⟩ (.iface 435 (.pointer (some y))))) :
  bodyPostD prog Tryz.f161 Q (Exit.panic [{v:=.iface 435 (.pointer (some y)),recovered:=false}])
   {tmps:=A,defers:=[{target:=Target.fn (Fn.func 212) #[.pointer (some ⟨p,0,none⟩),.pointer (some ⟨q,0,none⟩),.pointer (some ⟨r,0,none⟩)],args:=#[]}]} w1:=by
 refine leaves_cons (f:=212) (args:=#[.pointer (some ⟨p,0,none⟩),.pointer (some ⟨q,0,none⟩),.pointer (some ⟨r,0,none⟩)]) (by simp) (by simp[go_sem]) ?_
 refine(Jkv p q r 0 _ _ ⟨_,_,_,rfl⟩ y _ _ [] w1 D hf).mono ?_
 rintro e X Z ⟨rfl,rfl,rfl⟩
 obtain⟨H,K,M,ba,bb,bc⟩:=(D.set (t':=0) (sl':=.slice none 0 0) (ev':=.iface 435 (.pointer (some y)))).facts
 generalize ((w1.setCell ⟨p,0,none⟩ (.int .i64 0)).setCell ⟨q,0,none⟩ (.slice none 0 0)).setCell ⟨r,0,none⟩ (.iface 435 (.pointer (some y)))=W at *
 simp[Leaves,settle,results,results161,go_sem,O,R,U,H,K,M]
 exact E
theorem Jl4 {Q:Ending→World→Prop}{p q r:Nat}{t:Int}{sl ev:Value}(y:Array Value)(w1:World)(A:Qh w1 p q r t sl ev)
  (M:y[2]?.getD undef=.pointer (some ⟨p,0,none⟩)) (O:y[3]?.getD undef=.pointer (some ⟨q,0,none⟩)) (R:y[4]?.getD undef=.pointer (some ⟨r,0,none⟩))
  (D:Q (.returned (.tuple #[.int .i64 t,sl,ev])) w1) :
  bodyPostD prog Tryz.f161 Q Exit.ret
   {tmps:=y,defers:=[{target:=Target.fn (Fn.func 212) #[.pointer (some ⟨p,0,none⟩),.pointer (some ⟨q,0,none⟩),.pointer (some ⟨r,0,none⟩)],args:=#[]}]} w1:=by
 refine leaves_cons (f:=212) (args:=#[.pointer (some ⟨p,0,none⟩),.pointer (some ⟨q,0,none⟩),.pointer (some ⟨r,0,none⟩)]) (by simp) (by simp[go_sem]) ?_
 refine(Jvs _ _ _ w1).mono ?_
 rintro e U X ⟨rfl,rfl,rfl⟩
 obtain⟨E,H,K,Z,ba,bb⟩:=A.facts
 simp[Leaves,settle,results,results161,go_sem,M,O,R,E,H,K]
 exact D
theorem Ki3 (bs:List UInt8)(hW:Kje bs)(w:World)(cI:bs.length≤maxLen)(bn br E:Addr)(bf:Jf0 w bn br E) :
  Calls prog 161 #[.string (Qw bs)] w fun e w'=>Below w.heap.size w w'∧((Jbf bs=none∧e=.returned (.tuple #[.int .i64 0,.slice none 0 0,.iface 435 (.pointer (some E))])) ∨
   ∃ t M vs b,Jbf bs=some (t,M,vs)∧e=.returned (.tuple #[.int .i64 (t:Nat),.slice (some ⟨b,0,none⟩) vs.length vs.length,.nilIface])∧w.heap.size≤b∧Kv w' b vs []):=by
 have cZ:∀ (fn:Fn) (first cap:Array Value) (w:World),(Instr.makeFunc fn first cap).run prog w=.ok (.func fn first cap) w:=fun _ _ _ _=>rfl
 have cD:=Jm bf.c2
 simp only at cD
 obtain⟨bj,bi⟩:∃ bj,bj=Kd5 w bs:=⟨_,rfl⟩
 have bx:Below w.heap.size w bj:=by
  rw[bi]
  exact((((Oa5 _ _).alloc (Oa2 _) _).alloc (by simp) _).alloc (by simp;omega) _).alloc (by simp;omega) _
 have cO:bj.heap.size=w.heap.size+1+1+1+1:=by rw[bi];simp[Kd5]
 obtain⟨cv,cx,cy,cz⟩:=Khm w (.cells #[.int .i64 0] 3) (.cells #[.slice none 0 0] 54) (.cells #[.nilIface] 76) (.cells #[.int .i64 0,.string (Qw bs)] 374)
 have bI:Qh bj w.heap.size (w.heap.size+1) (w.heap.size+1+1) 0 (.slice none 0 0) .nilIface:=by
  rw[bi]
  exact⟨cv,cx,cy,by omega,by omega,by omega⟩
 have cb:RAt bj (w.heap.size+1+1+1) 0 bs E:=by
  refine⟨by omega,?_,(bf.below bx).c2,cI⟩
  rw[bi]
  exact cz
 clear cv cx cy cz
 have bN:=Kbu _ _ bs E bj cb
 go_enter_defers func161,ntmps161
 go_wp2_with fail
 rw[bi]at bN
 refine bN.mono ?_
 rw[←bi]
 clear bN
 rintro e w1 ⟨bb,⟨bh,rfl⟩|⟨t,M,n,r,bh,rfl,bZ⟩⟩
 ·go_wp2_with fail
  have bL:Qh w1 w.heap.size (w.heap.size+1) (w.heap.size+1+1) 0 (.slice none 0 0) .nilIface:=bI.of_block (bb.block _ (by omega) (by omega)) (bb.block _ (by omega) (by omega)) (bb.block _ (by omega) (by omega))
  have ba:=bx.trans (bb.below (B:=w.heap.size) (by omega) (by omega))
  refine Jmv _ w1 E bL (bf.below ba).c2 rfl rfl rfl ⟨?_,.inl ⟨?_,rfl⟩⟩
  ·exact((ba.setCell (p:=⟨w.heap.size,0,none⟩) (Oa2 _) _).setCell (p:=⟨w.heap.size+1,0,none⟩) (by show w.heap.size≤w.heap.size+1;omega) _).setCell (p:=⟨w.heap.size+1+1,0,none⟩) (by show w.heap.size≤w.heap.size+1+1;omega) _
  unfold Jbf;rw[bh]
 obtain⟨cu,cK⟩:=Jum bh
 have cc:=hW _ _ _ _ bh
 have cr:=cc.vals _ _ n r E w1 bZ (Kfn _ _ cu) (Jo7 _ _ cu) cK
 go_wp2_with fail
 refine cr.mono ?_
 clear cr
 rintro e R ⟨bO,⟨bz,rfl⟩|⟨vs,rest,v,bz,rfl,⟨b,rfl,cF,cl⟩,ca⟩⟩
 ·go_wp2_with fail
  have K:=bb.trans bO
  have bL:Qh R w.heap.size (w.heap.size+1) (w.heap.size+1+1) 0 (.slice none 0 0) .nilIface:=bI.of_block (K.block _ (by omega) (by omega)) (K.block _ (by omega) (by omega)) (K.block _ (by omega) (by omega))
  have ba:=bx.trans (K.below (B:=w.heap.size) (by omega) (by omega))
  refine Jmv _ R E bL (bf.below ba).c2 rfl rfl rfl ⟨?_,.inl ⟨?_,rfl⟩⟩
  ·exact((ba.setCell (p:=⟨w.heap.size,0,none⟩) (Oa2 _) _).setCell (p:=⟨w.heap.size+1,0,none⟩) (by show w.heap.size≤w.heap.size+1;omega) _).setCell (p:=⟨w.heap.size+1+1,0,none⟩) (by show w.heap.size≤w.heap.size+1+1;omega) _
  unfold Jbf
  rw[bh]
  simp only[bz]
 have K:=bb.trans bO
 have U:Qh R w.heap.size (w.heap.size+1) (w.heap.size+1+1) 0 (.slice none 0 0) .nilIface:=bI.of_block (K.block _ (by omega) (by omega)) (K.block _ (by omega) (by omega)) (K.block _ (by omega) (by omega))
 have ba:=bx.trans (K.below (B:=w.heap.size) (by omega) (by omega))
 obtain⟨bA,bB,bC,bE,bG,bH⟩:=U.facts
 have c0:=ca.typ
 have cN:=bb.size
 have cE:w.heap.size+1+1+1<b:=by omega
 have cJ:vs.length≤maxLen:=by
  rw[Jn0 bz]
  unfold maxLen
  omega
 have bk:Hid (Jbf bs=if Jev t M vs=(bs,0)then some (t,M,vs)else none):=by
  show _=_
  unfold Jbf
  rw[bh]
  simp only[bz]
 clear bb bO K bh bz bZ cb bI cN bi cO bx cF
 go_wp2_with fail
 obtain⟨p,bP⟩:∃ p,p=w.heap.size:=⟨_,rfl⟩
 obtain⟨q,bR⟩:∃ q,q=w.heap.size+1:=⟨_,rfl⟩
 obtain⟨A,bV⟩:∃ A,A=w.heap.size+1+1:=⟨_,rfl⟩
 obtain⟨g,bM⟩:∃ g,g=w.heap.size+1+1+1:=⟨_,rfl⟩
 have X:Qh (R.setCell ⟨q,0,none⟩ (.slice (some ⟨b,0,none⟩) vs.length vs.length)) p q A 0 (.slice (some ⟨b,0,none⟩) vs.length vs.length) .nilIface:=by
  rw[bP,bR,bV]
  refine⟨?_,Jbv U.c1,?_,U.pq,U.pr,U.qr⟩
  ·rw[Oa4 _ _ _ _ (show w.heap.size≠w.heap.size+1 by omega)];exact U.c0
  rw[Oa4 _ _ _ _ (show w.heap.size+1+1≠w.heap.size+1 by omega)];exact U.c2
 have bc:Below w.heap.size w (R.setCell ⟨q,0,none⟩ (.slice (some ⟨b,0,none⟩) vs.length vs.length)):=ba.setCell (p:=⟨q,0,none⟩) (by show w.heap.size≤q;omega) _
 have bU:Kv (R.setCell ⟨q,0,none⟩ (.slice (some ⟨b,0,none⟩) vs.length vs.length)) b vs []:=cl.of_block (Oa4 _ _ _ _ (show b≠q by omega))
 have ch:(R.setCell ⟨q,0,none⟩ (.slice (some ⟨b,0,none⟩) vs.length vs.length)).cell? ⟨g,0,none⟩=some (.int .i64 (t:Int)):=by
  rw[Oc3 (w:=R) (Oa4 _ _ _ _ (show g≠q by omega)),bM];exact c0
 have de:w.heap.size≤p:=by omega
 have df:w.heap.size≤q:=by omega
 have bW:w.heap.size≤A:=by omega
 have cQ:¬ g=p∧¬ g=q∧¬ g=A∧¬ b=p∧¬ b=q∧¬ b=A:=by omega
 have cP:w.heap.size≤b:=by omega
 rw[←bM,←bV,←bR,←bP]
 generalize R.setCell ⟨q,0,none⟩ (.slice (some ⟨b,0,none⟩) vs.length vs.length)=bJ at *
 clear bP bR bV bM bA bB bC bE bG bH c0 U ba cl ca cE
 obtain⟨bA,bB,bC,bE,bG,bH⟩:=X.facts
 have cj:=Jm ch
 simp only at cj
 obtain⟨bQ,bS,bT⟩:=X.lt
 have O:Calls prog 64 #[.int .i64 (t:Int),.int .i64 (M:Int),.slice (some ⟨b,0,none⟩) vs.length vs.length] bJ.drew fun e w'=>e=.returned (.tuple #[.string (Qw (Jev t M vs).1),Jk9 bn br (Jev t M vs).2])∧Below bJ.heap.size bJ w':=
  (cc.pack t _ _ vs _ cJ (bU.vals.below ((Oa5 _ _).drew)) bn br E (bf.below bc.drew)).mono fun e w' h=>⟨h.1,Jw h.2⟩
 generalize Jev t M vs=cS at *
 obtain⟨bX,bY⟩:=cS
 simp only at O
 have db:=X.pq
 have dc:=X.pr
 have dd:=X.qr
 by_cases h0:bY=0
 ·subst h0
  have ci:Jk9 bn br 0=.nilIface:=rfl
  rw[ci]at O
  clear ci
  by_cases bl:bX=bs
  ·have cW:((Qw bX).toList==(Qw bs).toList)=true:=by rw[bl];simp
   have cB:Hid (Jbf bs=some (t,M,vs)):=by
    show _=_
    rw[bk.out,bl,if_pos rfl]
   clear bk bl
   obtain⟨cX,cY,cH,cT,cU,cG⟩:=cQ
   have cM:=bU.lt
   refine Jgy ?_
   go_region_with (first|(go_at_call 64;refine O.mono ?_;rintro e w4 ⟨rfl,y⟩;obtain⟨kk,bD⟩:=Kx y))
   all_goals
    have Z:Qh w4 p q A 0 (.slice (some ⟨b,0,none⟩) vs.length vs.length) .nilIface:=X.of_block (y.block _ bQ) (y.block _ bS) (y.block _ bT)
    have D:=Z.s2 (ev':=.nilIface)
    have H:Below w.heap.size w (w4.setCell ⟨A,0,none⟩ .nilIface):=(bc.trans (y.mono bc.size)).setCell (p:=⟨A,0,none⟩) bW _
    have cn:Kv (w4.setCell ⟨A,0,none⟩ .nilIface) b vs []:=(bU.of_block (y.block _ cM)).of_block (Oa4 _ _ _ _ cG)
    have cV:(w4.setCell ⟨A,0,none⟩ .nilIface).cell? ⟨g,0,none⟩=some (.int .i64 (t:Int)):=by
     rw[Oc3 (w:=w4) (Oa4 _ _ _ _ cH),Oc3 (w:=bJ) (y.block _ cj)];exact ch
    clear kk bD O y Z
    obtain⟨bA,bB,bC,bE,bG,bH⟩:=D.facts
    go_wp2_with fail
    generalize w4.setCell ⟨A,0,none⟩ .nilIface=cA at *
    refine Jgy ?_
    go_region
    all_goals
     go_wp2_with fail
     refine Jl4 _ _ (t:=(t:Int)) (sl:=.slice (some ⟨b,0,none⟩) vs.length vs.length) (ev:=.nilIface) (by repeat (first|exact D|exact D.drew|apply Qh.s0|apply Qh.s1|apply Qh.s2|apply Qh.drew)) rfl rfl rfl ⟨?_,.inr ⟨t,M,vs,b,cB.out,rfl,cP,?_⟩⟩
     ·repeat (first|exact H|exact H.drew|refine Below.setCell ?_ (by assumption) _|refine Below.drew ?_)
     repeat (first|exact cn|exact Joh cn|refine Kv.of_block ?_ (Oa4 _ _ _ _ (by assumption))|refine Joh ?_)
  have da:((Qw bX).toList==(Qw bs).toList)=false:=by
   rw[beq_eq_false_iff_ne,Og4,Og4]
   simpa [Qw] using bl
  have bK:Hid (Jbf bs=none):=by
   show _=_
   rw[bk.out,if_neg (by simp[bl])]
  clear bk bl
  refine Jgy ?_
  go_region_with (first|(go_at_call 64;refine O.mono ?_;rintro e w4 ⟨rfl,y⟩;obtain⟨kk,bD⟩:=Kx y))
  all_goals
   have Z:Qh w4 p q A 0 (.slice (some ⟨b,0,none⟩) vs.length vs.length) .nilIface:=X.of_block (y.block _ bQ) (y.block _ bS) (y.block _ bT)
   have D:=Z.s2 (ev':=.nilIface)
   have H:Below w.heap.size w (w4.setCell ⟨A,0,none⟩ .nilIface):=(bc.trans (y.mono bc.size)).setCell (p:=⟨A,0,none⟩) bW _
   clear kk bD O y Z
   obtain⟨bA,bB,bC,bE,bG,bH⟩:=D.facts
   have cC:=(bf.below H).c2
   go_wp2_with fail
   generalize w4.setCell ⟨A,0,none⟩ .nilIface=cA at *
   refine Jgy ?_
   go_region
   all_goals
    go_wp2_with fail
    refine Jl4 _ _ (t:=0) (sl:=.slice none 0 0) (ev:=.iface 435 (.pointer (some E))) (by repeat (first|exact D|exact D.drew|apply Qh.s0|apply Qh.s1|apply Qh.s2|apply Qh.drew)) rfl rfl rfl ⟨?_,.inl ⟨bK.out,rfl⟩⟩
    repeat (first|exact H|exact H.drew|refine Below.setCell ?_ (by assumption) _|refine Below.drew ?_)
 obtain⟨bu,cf⟩:∃ bu,Jk9 bn br bY=.iface 435 (.pointer (some bu)):=by
  unfold Jk9
  rw[if_neg h0]
  split
  ·exact⟨_,rfl⟩
  ·exact⟨_,rfl⟩
 rw[cf]at O
 clear cf
 have bK:Hid (Jbf bs=none):=by
  show _=_
  rw[bk.out,if_neg (by simp[h0])]
 clear bk h0
 refine Jgy ?_
 go_region_with (first|(go_at_call 64;refine O.mono ?_;rintro e w4 ⟨rfl,y⟩;obtain⟨kk,bD⟩:=Kx y))
 all_goals
  have Z:Qh w4 p q A 0 (.slice (some ⟨b,0,none⟩) vs.length vs.length) .nilIface:=X.of_block (y.block _ bQ) (y.block _ bS) (y.block _ bT)
  have D:=Z.s2 (ev':=(.iface 435 (.pointer (some bu))))
  have H:Below w.heap.size w (w4.setCell ⟨A,0,none⟩ (.iface 435 (.pointer (some bu)))):=(bc.trans (y.mono bc.size)).setCell (p:=⟨A,0,none⟩) bW _
  clear kk bD O y Z
  obtain⟨bA,bB,bC,bE,bG,bH⟩:=D.facts
  have cC:=(bf.below H).c2
  go_wp2_with fail
  generalize w4.setCell ⟨A,0,none⟩ (.iface 435 (.pointer (some bu)))=cA at *
  refine Jgy ?_
  go_region
  all_goals
   go_wp2_with fail
   refine Jl4 _ _ (t:=0) (sl:=.slice none 0 0) (ev:=.iface 435 (.pointer (some E))) (by repeat (first|exact D|exact D.drew|apply Qh.s0|apply Qh.s1|apply Qh.s2|apply Qh.drew)) rfl rfl rfl ⟨?_,.inl ⟨bK.out,rfl⟩⟩
   repeat (first|exact H|exact H.drew|refine Below.setCell ?_ (by assumption) _|refine Below.drew ?_)
end Go.Proofs.YtdlgbphkaicfaaaGreatDoor
namespace Go.Proofs.YtdlgbphkaicfaaaGreatDoor
open Go.RowKit Tryz
end Go.Proofs.YtdlgbphkaicfaaaGreatDoor
