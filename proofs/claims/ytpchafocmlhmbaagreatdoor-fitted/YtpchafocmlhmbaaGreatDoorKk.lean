/- The panic of a reader that gives up is caught, and what a segment's Pack answers. -/
import Derived.Test.YtpchafocmlhmbaaGreatDoorKj
set_option maxHeartbeats 1000000
set_option maxRecDepth 100000
namespace Go.Proofs.YtpchafocmlhmbaaGreatDoor
section
open Go.RowKit Tryz
def Jk9 (y D:Addr)(c:Int):Value:=if c=0 then .nilIface else if c=2 then .iface 433 (.pointer (some D))else .iface 433 (.pointer (some y))
structure Kjk (how:Int):Prop where
 pack:∀ (t:Int) (a:Option Addr) (cap:Nat) (xs:List V) (w:World),xs.length≤maxLen→Jv w a xs→∀ (a0 a1 a2:Addr),Jf0 w a0 a1 a2 →
  Calls prog 63 #[.int .i64 t,.int .i64 how,.slice a xs.length cap] w fun e w'=>e=.returned (.tuple #[.string (Qw (Jev t how xs).1),Jk9 a0 a1 (Jev t how xs).2])∧Below w.heap.size w w'
 vals:∀ (g:Nat) (t:Int) (n:Nat) (bs:List UInt8) (a2:Addr) (w:World),RAt w g t bs a2→(t=1∨t=2∨t=3)→(how=0∨how=1∨how=2∨how=3)→n≤64 →
  Calls prog 213 #[.pointer (some ⟨g,0,none⟩),.int .i64 how,.int .i64 n] w (Qg w g t a2 (Ug t how n bs) fun vs v w'=>Jc9 w w' vs v)
theorem Ki5:Kjk 0:=by
 refine⟨fun t a cap xs w hn E O R D H=>?_,fun g t n bs D w h K _ hn=>Jqf g t n bs D w h K hn⟩;by_cases y:way t 0=true∧Jdq t xs
 ·have e:Jev t 0 xs=(Jav t 0 xs,0):=by
   unfold Jev;rw[if_pos (by rw[Og5];exact⟨y.1,(Jfd t xs).2 y.2⟩),if_neg (by simp)]
  rw[e];exact Jtj t a cap xs w hn E y.1 y.2
 have e:Jev t 0 xs=([],1):=by
  unfold Jev;rw[if_neg (by rw[Og5];exact fun h=>y ⟨h.1,(Jfd t xs).1 h.2⟩)]
 rw[e];exact Jzl t 0 a cap xs w hn E _ H.c0 y
def Kje (bs:List UInt8):Prop:=∀ t y n r,Jf2 bs=some ((t,y,n),r)→Kjk (y:Nat)
structure Qh (w:World) (p q r:Nat) (t:Int) (sl ev:Value):Prop where
 c0:w.heap[p]?=some (.cells #[.int .i64 t] 3 (0,0))
 c1:w.heap[q]?=some (.cells #[sl] 40 (0,0))
 c2:w.heap[r]?=some (.cells #[ev] 74 (0,0))
 pq:¬ p=q
 pr:¬ p=r
 qr:¬ q=r
theorem Qh.facts {w:World}{p q r:Nat}{t:Int}{sl ev:Value}(h:Qh w p q r t sl ev) :
  w.cell? ⟨p,0,none⟩=some (.int .i64 t)∧w.cell? ⟨q,0,none⟩=some sl∧w.cell? ⟨r,0,none⟩=some ev∧w.frozen? ⟨p,0,none⟩=false∧w.frozen? ⟨q,0,none⟩=false∧w.frozen? ⟨r,0,none⟩=false:=
 ⟨by simp[World.cell?,h.c0],by simp[World.cell?,h.c1],by simp[World.cell?,h.c2],by simp[World.frozen?,h.c0],by simp[World.frozen?,h.c1],by simp[World.frozen?,h.c2]⟩
theorem Qh.of_block {w w':World}{p q r:Nat}{t:Int}{sl ev:Value}(h:Qh w p q r t sl ev)(y:w'.heap[p]?=w.heap[p]?)(D:w'.heap[q]?=w.heap[q]?)(E:w'.heap[r]?=w.heap[r]?):Qh w' p q r t sl ev:=
 ⟨by rw[y];exact h.c0,by rw[D];exact h.c1,by rw[E];exact h.c2,h.pq,h.pr,h.qr⟩
theorem Qh.lt {w:World}{p q r:Nat}{t:Int}{sl ev:Value}(h:Qh w p q r t sl ev):p<w.heap.size∧q<w.heap.size∧r<w.heap.size:=⟨Jd h.c0,Jd h.c1,Jd h.c2⟩
theorem Jbv {w:World}{p:Nat}{x v:Value}{ty:TypeId}(h:w.heap[p]?=some (.cells #[x] ty (0,0))):(w.setCell ⟨p,0,none⟩ v).heap[p]?=some (.cells #[v] ty (0,0)):=by
 simp[World.setCell,Array.getElem?_modify,h]
theorem Qh.set {w:World}{p q r:Nat}{t t':Int}{sl ev sl' ev':Value}(h:Qh w p q r t sl ev) :
  Qh (((w.setCell ⟨p,0,none⟩ (.int .i64 t')).setCell ⟨q,0,none⟩ sl').setCell ⟨r,0,none⟩ ev') p q r t' sl' ev':=by
 refine⟨?_,?_,?_,h.pq,h.pr,h.qr⟩
 ·rw[Oa4 _ _ _ _ (show p≠r from h.pr),Oa4 _ _ _ _ (show p≠q from h.pq)];exact Jbv h.c0
 ·rw[Oa4 _ _ _ _ (show q≠r from h.qr)];refine Jbv (x:=sl) ?_;rw[Oa4 _ _ _ _ (show q≠p from Oc5 h.pq)];exact h.c1
 refine Jbv (x:=ev) ?_;rw[Oa4 _ _ _ _ (show r≠q from Oc5 h.qr),Oa4 _ _ _ _ (show r≠p from Oc5 h.pr)];exact h.c2
theorem Qh.s0 {w:World}{p q r:Nat}{t t':Int}{sl ev:Value}(h:Qh w p q r t sl ev):Qh (w.setCell ⟨p,0,none⟩ (.int .i64 t')) p q r t' sl ev:=
 ⟨Jbv h.c0,by rw[Oa4 _ _ _ _ (show q≠p from Oc5 h.pq)];exact h.c1,by rw[Oa4 _ _ _ _ (show r≠p from Oc5 h.pr)];exact h.c2,h.pq,h.pr,h.qr⟩
theorem Qh.s1 {w:World}{p q r:Nat}{t:Int}{sl sl' ev:Value}(h:Qh w p q r t sl ev):Qh (w.setCell ⟨q,0,none⟩ sl') p q r t sl' ev:=
 ⟨by rw[Oa4 _ _ _ _ (show p≠q from h.pq)];exact h.c0,Jbv h.c1,by rw[Oa4 _ _ _ _ (show r≠q from Oc5 h.qr)];exact h.c2,h.pq,h.pr,h.qr⟩
theorem Qh.s2 {w:World}{p q r:Nat}{t:Int}{sl ev ev':Value}(h:Qh w p q r t sl ev):Qh (w.setCell ⟨r,0,none⟩ ev') p q r t sl ev':=
 ⟨by rw[Oa4 _ _ _ _ (show p≠r from h.pr)];exact h.c0,by rw[Oa4 _ _ _ _ (show q≠r from h.qr)];exact h.c1,Jbv h.c2,h.pq,h.pr,h.qr⟩
theorem Qh.drew {w:World}{p q r:Nat}{t:Int}{sl ev:Value}(h:Qh w p q r t sl ev):Qh w.drew p q r t sl ev:=⟨h.c0,h.c1,h.c2,h.pq,h.pr,h.qr⟩
theorem Jkv (p q r:Nat)(t:Int)(sl ev:Value)(K:∃ a l c,sl=.slice a l c)(D:Addr)(H:Value)(u:TypeId)(E:List PanicEntry)(w:World)(y:Qh w p q r t sl ev)
  (hf:w.cell? ⟨5,0,none⟩=some (.iface 433 (.pointer (some D)))) :
  CallsD prog 211 #[.pointer (some ⟨p,0,none⟩),.pointer (some ⟨q,0,none⟩),.pointer (some ⟨r,0,none⟩)] (.panicking ({v:=.iface u H,recovered:=false}::E)) w fun e X w'=>
   e=.returned (.tuple #[])∧X=.panicking ({v:=.iface u H,recovered:=true}::E)∧w'=((w.setCell ⟨p,0,none⟩ (.int .i64 0)).setCell ⟨q,0,none⟩ (.slice none 0 0)).setCell ⟨r,0,none⟩ (.iface 433 (.pointer (some D))):=by
 obtain⟨a,l,c,rfl⟩:=K;obtain⟨O,R,U,Y,z1,z2⟩:=y.facts;have Z:=y.pq;have ba:=y.pr;have bc:=y.qr;refine callsD_of_wpS func211 rfl fun c₀ cs hu=>?_;apply wpS_seq;apply wpS_region;simp[wpOpsS,go_sem,recoverD,hu,ntmps211,Exit.thenS];refine wpS_cond (t:=true) (by simp[Act.eval,Array.replicate]) ?_;simp only[if_true];apply wpS_region;simp[wpOpsS,go_sem,hf,O,R,U,Y,z1,z2,bodyPostS,results,results211]
theorem Jvs (p q r:Addr)(w:World) :
  CallsD prog 211 #[.pointer (some p),.pointer (some q),.pointer (some r)] .returning w fun e y w'=>e=.returned (.tuple #[])∧y=.returning∧w'=w:=by
 refine callsD_of_wpS func211 rfl fun c₀ cs hu=>?_;apply wpS_seq;apply wpS_region;simp[wpOpsS,go_sem,recoverD,hu,ntmps211,Exit.thenS];refine wpS_cond (t:=false) (by simp[Act.eval,Array.replicate]) ?_;simp only[Ol9,if_false];refine wpS_of_wp (wp_skip ?_);cases c₀
 simp_all [bodyPostS,results,results211]
end
section
open Go.RowKit Tryz
def Jbf (bs:List UInt8):Option (Nat×Nat×List V):=
 match Jf2 bs with
 |none=>none
 |some ((t,y,n),r)=>match Ug t y n r with
  |none=>none
  |some (vs,_)=>if Jev t y vs=(bs,0)then some (t,y,vs)else none
theorem Jum {bs r:List UInt8}{t D n:Nat}(h:Jf2 bs=some ((t,D,n),r)):way t D=true∧n≤64:=by
 match bs,h with
 |b0::b1::b2::rest,h=>
  simp only[Jf2]at h;by_cases y:way (b0.toNat:Int) (b1.toNat:Int)=true∧b2.toNat≤64
  ·rw[if_pos y]at h;simp at h;obtain⟨⟨rfl,rfl,rfl⟩,_⟩:=h;exact y
  rw[if_neg y]at h;simp at h
theorem Kfn (t y:Int)(h:way t y=true):t=1∨t=2∨t=3:=by
 unfold way at h;simp at h;omega
def Kd5 (w:World)(bs:List UInt8):World:=(((w.alloc (.cells #[.int .i64 0] 3)).alloc (.cells #[.slice none 0 0] 40)).alloc (.cells #[.nilIface] 74)).alloc (.cells #[.int .i64 0,.string (Qw bs)] 371)
theorem Jn0 {t y:Int}{n:Nat}{bs rest:List UInt8}{vs:List V}(h:Ug t y n bs=some (vs,rest)):vs.length=n:=by
 unfold Ug at h;split at h
 ·simp at h
 rename_i hs r hf
 obtain⟨x,_,e⟩:=Oe9.1 h;simp only[Oj3]at e;rw[←e.1,Jez];exact Kt hf
theorem Joh {w:World}{b:Nat}{vs:List V}{y:List Value}(h:Kv w b vs y):Kv w.drew b vs y:=h
theorem Jgy {P:Program}{c:Code}{Q:Exit→Act→World→Prop}{a:Act}{w:World}(h:c.wp P (Exit.then (Q .normal) (fun _ _ _=>False)) a w):c.wp P Q a w:=
 Code.wp_mono (fun e a w h=>by cases e<;>first|exact h|exact False.elim h) h
theorem Jhw (w:World)(o:Obj):(w.alloc o).heap.size=w.heap.size+1:=by simp
theorem Khm (w:World)(y D E H:Obj) :
  ((((w.alloc y).alloc D).alloc E).alloc H).heap[w.heap.size]?=some y∧((((w.alloc y).alloc D).alloc E).alloc H).heap[w.heap.size+1]?=some D ∧
  ((((w.alloc y).alloc D).alloc E).alloc H).heap[w.heap.size+1+1]?=some E∧((((w.alloc y).alloc D).alloc E).alloc H).heap[w.heap.size+1+1+1]?=some H:=by
 have Z:=Jhw w y;have U:=Jhw (w.alloc y) D;have X:=Jhw ((w.alloc y).alloc D) E;have Y:=(Oh1 w y).1;have K:=(Oh1 (w.alloc y) D).1;have O:=(Oh1 ((w.alloc y).alloc D) E).1;have R:=(Oh1 (((w.alloc y).alloc D).alloc E) H).1;rw[Z]at K U;rw[U]at O X;rw[X]at R;refine⟨?_,?_,?_,R⟩
 ·rw[Oa9 _ _ _ (by omega),Oa9 _ _ _ (by omega),Oa9 _ _ _ (by omega)];exact Y
 ·rw[Oa9 _ _ _ (by omega),Oa9 _ _ _ (by omega)];exact K
 rw[Oa9 _ _ _ (by omega)];exact O
theorem Jmv {Q:Ending→World→Prop}{p q r:Nat}(D:Array Value)(w1:World)(y:Addr)(E:Qh w1 p q r 0 (.slice none 0 0) .nilIface)(hf:w1.cell? ⟨5,0,none⟩=some (.iface 433 (.pointer (some y))))
  (U:D[2]?.getD undef=.pointer (some ⟨p,0,none⟩)) (X:D[3]?.getD undef=.pointer (some ⟨q,0,none⟩)) (Y:D[4]?.getD undef=.pointer (some ⟨r,0,none⟩))
  (H:Q (.returned (.tuple #[.int .i64 0,.slice none 0 0,.iface 433 (.pointer (some y))])) (((w1.setCell ⟨p,0,none⟩ (.int .i64 0)).setCell ⟨q,0,none⟩ (.slice none 0 0)).setCell ⟨r,0,none⟩ (.iface 433 (.pointer (some y))))) :
  bodyPostD prog Tryz.f160 Q (Exit.panic [{v:=.iface 433 (.pointer (some y)),recovered:=false}])
   {tmps:=D,defers:=[{target:=Target.fn (Fn.func 211) #[.pointer (some ⟨p,0,none⟩),.pointer (some ⟨q,0,none⟩),.pointer (some ⟨r,0,none⟩)],args:=#[]}]} w1:=by
 refine leaves_cons (f:=211) (args:=#[.pointer (some ⟨p,0,none⟩),.pointer (some ⟨q,0,none⟩),.pointer (some ⟨r,0,none⟩)]) (by simp) (by simp[go_sem]) ?_;refine(Jkv p q r 0 _ _ ⟨_,_,_,rfl⟩ y _ _ [] w1 E hf).mono ?_;rintro e Z ba ⟨rfl,rfl,rfl⟩;obtain⟨K,O,R,bc,z1,z2⟩:=(E.set (t':=0) (sl':=.slice none 0 0) (ev':=.iface 433 (.pointer (some y)))).facts;generalize ((w1.setCell ⟨p,0,none⟩ (.int .i64 0)).setCell ⟨q,0,none⟩ (.slice none 0 0)).setCell ⟨r,0,none⟩ (.iface 433 (.pointer (some y)))=W at *;simp[Leaves,settle,results,results160,go_sem,U,X,Y,K,O,R];exact H
theorem Jl4 {Q:Ending→World→Prop}{p q r:Nat}{t:Int}{sl ev:Value}(y:Array Value)(w1:World)(D:Qh w1 p q r t sl ev)
  (R:y[2]?.getD undef=.pointer (some ⟨p,0,none⟩)) (U:y[3]?.getD undef=.pointer (some ⟨q,0,none⟩)) (X:y[4]?.getD undef=.pointer (some ⟨r,0,none⟩))
  (E:Q (.returned (.tuple #[.int .i64 t,sl,ev])) w1) :
  bodyPostD prog Tryz.f160 Q Exit.ret
   {tmps:=y,defers:=[{target:=Target.fn (Fn.func 211) #[.pointer (some ⟨p,0,none⟩),.pointer (some ⟨q,0,none⟩),.pointer (some ⟨r,0,none⟩)],args:=#[]}]} w1:=by
 refine leaves_cons (f:=211) (args:=#[.pointer (some ⟨p,0,none⟩),.pointer (some ⟨q,0,none⟩),.pointer (some ⟨r,0,none⟩)]) (by simp) (by simp[go_sem]) ?_;refine(Jvs _ _ _ w1).mono ?_;rintro e Y Z ⟨rfl,rfl,rfl⟩;obtain⟨H,K,O,ba,z1,z2⟩:=D.facts;simp[Leaves,settle,results,results160,go_sem,R,U,X,H,K,O];exact E
theorem Ki3 (bs:List UInt8)(cI:Kje bs)(w:World)(hl:bs.length≤maxLen)(bA bB H:Addr)(bi:Jf0 w bA bB H) :
  Calls prog 160 #[.string (Qw bs)] w fun e w'=>Below w.heap.size w w'∧((Jbf bs=none∧e=.returned (.tuple #[.int .i64 0,.slice none 0 0,.iface 433 (.pointer (some H))])) ∨
   ∃ t R vs b,Jbf bs=some (t,R,vs)∧e=.returned (.tuple #[.int .i64 (t:Nat),.slice (some ⟨b,0,none⟩) vs.length vs.length,.nilIface])∧w.heap.size≤b∧Kv w' b vs []):=by
 have dc:∀ (fn:Fn) (first cap:Array Value) (w:World),(Instr.makeFunc fn first cap).run prog w=.ok (.func fn first cap) w:=fun _ _ _ _=>rfl;have cG:=Jm bi.c2;simp only at cG;obtain⟨br,bn⟩:∃ br,br=Kd5 w bs:=⟨_,rfl⟩;have bD:Below w.heap.size w br:=by
  rw[bn];exact((((Oa5 _ _).alloc (Oa2 _) _).alloc (by simp) _).alloc (by simp;omega) _).alloc (by simp;omega) _
 have cS:br.heap.size=w.heap.size+1+1+1+1:=by rw[bn];simp[Kd5]
 obtain⟨cz,cA,cB,cC⟩:=Khm w (.cells #[.int .i64 0] 3) (.cells #[.slice none 0 0] 40) (.cells #[.nilIface] 74) (.cells #[.int .i64 0,.string (Qw bs)] 371);have bL:Qh br w.heap.size (w.heap.size+1) (w.heap.size+1+1) 0 (.slice none 0 0) .nilIface:=by
  rw[bn];exact⟨cz,cA,cB,by omega,by omega,by omega⟩
 have cc:RAt br (w.heap.size+1+1+1) 0 bs H:=by
  refine⟨by omega,?_,(bi.below bD).c2,hl⟩;rw[bn];exact cC
 clear cz cA cB cC;have bQ:=Kbu _ _ bs H br cc;go_enter_defers func160,ntmps160
 go_wp2_with fail
 rw[bn]at bQ;refine bQ.mono ?_;rw[←bn];clear bQ;rintro e w1 ⟨bf,⟨bj,rfl⟩|⟨t,R,n,r,bj,rfl,ca⟩⟩
 ·go_wp2_with fail
  have bO:Qh w1 w.heap.size (w.heap.size+1) (w.heap.size+1+1) 0 (.slice none 0 0) .nilIface:=bL.of_block (bf.block _ (by omega) (by omega)) (bf.block _ (by omega) (by omega)) (bf.block _ (by omega) (by omega));have bc:=bD.trans (bf.below (B:=w.heap.size) (by omega) (by omega));refine Jmv _ w1 H bO (bi.below bc).c2 rfl rfl rfl ⟨?_,.inl ⟨?_,rfl⟩⟩
  ·exact((bc.setCell (p:=⟨w.heap.size,0,none⟩) (Oa2 _) _).setCell (p:=⟨w.heap.size+1,0,none⟩) (by show w.heap.size≤w.heap.size+1;omega) _).setCell (p:=⟨w.heap.size+1+1,0,none⟩) (by show w.heap.size≤w.heap.size+1+1;omega) _
  unfold Jbf;rw[bj]
 obtain⟨cy,cO⟩:=Jum bj;have cf:=cI _ _ _ _ bj;have cx:=cf.vals _ _ n r H w1 ca (Kfn _ _ cy) (Jo7 _ _ cy) cO;go_wp2_with fail
 refine cx.mono ?_;clear cx;rintro e X ⟨bR,⟨bE,rfl⟩|⟨vs,rest,v,bE,rfl,⟨b,rfl,cJ,cu⟩,cb⟩⟩
 ·go_wp2_with fail
  have O:=bf.trans bR;have bO:Qh X w.heap.size (w.heap.size+1) (w.heap.size+1+1) 0 (.slice none 0 0) .nilIface:=bL.of_block (O.block _ (by omega) (by omega)) (O.block _ (by omega) (by omega)) (O.block _ (by omega) (by omega));have bc:=bD.trans (O.below (B:=w.heap.size) (by omega) (by omega));refine Jmv _ X H bO (bi.below bc).c2 rfl rfl rfl ⟨?_,.inl ⟨?_,rfl⟩⟩
  ·exact((bc.setCell (p:=⟨w.heap.size,0,none⟩) (Oa2 _) _).setCell (p:=⟨w.heap.size+1,0,none⟩) (by show w.heap.size≤w.heap.size+1;omega) _).setCell (p:=⟨w.heap.size+1+1,0,none⟩) (by show w.heap.size≤w.heap.size+1+1;omega) _
  unfold Jbf;rw[bj];simp only[bE]
 have O:=bf.trans bR;have Y:Qh X w.heap.size (w.heap.size+1) (w.heap.size+1+1) 0 (.slice none 0 0) .nilIface:=bL.of_block (O.block _ (by omega) (by omega)) (O.block _ (by omega) (by omega)) (O.block _ (by omega) (by omega));have bc:=bD.trans (O.below (B:=w.heap.size) (by omega) (by omega));obtain⟨bG,bH,bI,bK,z1,z2⟩:=Y.facts;have c0:=cb.typ;have cQ:=bf.size;have cH:w.heap.size+1+1+1<b:=by omega
 have cN:vs.length≤maxLen:=by
  rw[Jn0 bE];unfold maxLen;omega
 have bx:Hid (Jbf bs=if Jev t R vs=(bs,0)then some (t,R,vs)else none):=by
  show _=_;unfold Jbf;rw[bj];simp only[bE]
 clear bf bR O bj bE ca cc bL cQ bn cS bD cJ;go_wp2_with fail
 obtain⟨p,hp⟩:∃ p,p=w.heap.size:=⟨_,rfl⟩;obtain⟨q,bT⟩:∃ q,q=w.heap.size+1:=⟨_,rfl⟩;obtain⟨D,bX⟩:∃ D,D=w.heap.size+1+1:=⟨_,rfl⟩;obtain⟨g,bP⟩:∃ g,g=w.heap.size+1+1+1:=⟨_,rfl⟩;have Z:Qh (X.setCell ⟨q,0,none⟩ (.slice (some ⟨b,0,none⟩) vs.length vs.length)) p q D 0 (.slice (some ⟨b,0,none⟩) vs.length vs.length) .nilIface:=by
  rw[hp,bT,bX];refine⟨?_,Jbv Y.c1,?_,Y.pq,Y.pr,Y.qr⟩
  ·rw[Oa4 _ _ _ _ (show w.heap.size≠w.heap.size+1 by omega)];exact Y.c0
  rw[Oa4 _ _ _ _ (show w.heap.size+1+1≠w.heap.size+1 by omega)];exact Y.c2
 have bh:Below w.heap.size w (X.setCell ⟨q,0,none⟩ (.slice (some ⟨b,0,none⟩) vs.length vs.length)):=bc.setCell (p:=⟨q,0,none⟩) (by show w.heap.size≤q;omega) _;have bW:Kv (X.setCell ⟨q,0,none⟩ (.slice (some ⟨b,0,none⟩) vs.length vs.length)) b vs []:=cu.of_block (Oa4 _ _ _ _ (show b≠q by omega));have ci:(X.setCell ⟨q,0,none⟩ (.slice (some ⟨b,0,none⟩) vs.length vs.length)).cell? ⟨g,0,none⟩=some (.int .i64 (t:Int)):=by
  rw[Oc3 (w:=X) (Oa4 _ _ _ _ (show g≠q by omega)),bP];exact c0
 have dh:w.heap.size≤p:=by omega
 have di:w.heap.size≤q:=by omega
 have bY:w.heap.size≤D:=by omega
 have cU:¬ g=p∧¬ g=q∧¬ g=D∧¬ b=p∧¬ b=q∧¬ b=D:=by omega
 have cT:w.heap.size≤b:=by omega
 rw[←bP,←bX,←bT,←hp];generalize X.setCell ⟨q,0,none⟩ (.slice (some ⟨b,0,none⟩) vs.length vs.length)=bM at *;clear hp bT bX bP bG bH bI bK z1 z2 c0 Y bc cu cb cH;obtain⟨bG,bH,bI,bK,z1,z2⟩:=Z.facts;have cn:=Jm ci;simp only at cn;obtain⟨bS,bU,bV⟩:=Z.lt;have U:Calls prog 63 #[.int .i64 (t:Int),.int .i64 (R:Int),.slice (some ⟨b,0,none⟩) vs.length vs.length] bM.drew fun e w'=>e=.returned (.tuple #[.string (Qw (Jev t R vs).1),Jk9 bA bB (Jev t R vs).2])∧Below bM.heap.size bM w':=
  (cf.pack t _ _ vs _ cN (bW.vals.below ((Oa5 _ _).drew)) bA bB H (bi.below bh.drew)).mono fun e w' h=>⟨h.1,Jw h.2⟩
 generalize Jev t R vs=cV at *;obtain⟨out,bZ⟩:=cV;simp only at U;have de:=Z.pq;have df:=Z.pr;have dg:=Z.qr;by_cases h0:bZ=0
 ·subst h0;have cj:Jk9 bA bB 0=.nilIface:=rfl;rw[cj]at U;clear cj;by_cases bz:out=bs
  ·have cZ:((Qw out).toList==(Qw bs).toList)=true:=by rw[bz];simp
   have cE:Hid (Jbf bs=some (t,R,vs)):=by
    show _=_;rw[bx.out,bz,if_pos rfl]
   clear bx bz;obtain⟨da,db,cM,cW,cX,cK⟩:=cU;have cP:=bW.lt;refine Jgy ?_;go_region_with (first|(go_at_call 63;refine U.mono ?_;rintro e w4 ⟨rfl,y⟩;obtain⟨kk,bJ⟩:=Kx y))
   all_goals
    have ba:Qh w4 p q D 0 (.slice (some ⟨b,0,none⟩) vs.length vs.length) .nilIface:=Z.of_block (y.block _ bS) (y.block _ bU) (y.block _ bV);have E:=ba.s2 (ev':=.nilIface);have K:Below w.heap.size w (w4.setCell ⟨D,0,none⟩ .nilIface):=(bh.trans (y.mono bh.size)).setCell (p:=⟨D,0,none⟩) bY _;have cv:Kv (w4.setCell ⟨D,0,none⟩ .nilIface) b vs []:=(bW.of_block (y.block _ cP)).of_block (Oa4 _ _ _ _ cK);have cY:(w4.setCell ⟨D,0,none⟩ .nilIface).cell? ⟨g,0,none⟩=some (.int .i64 (t:Int)):=by
     rw[Oc3 (w:=w4) (Oa4 _ _ _ _ cM),Oc3 (w:=bM) (y.block _ cn)];exact ci
    clear kk bJ U y ba;obtain⟨bG,bH,bI,bK,z1,z2⟩:=E.facts;go_wp2_with fail
    generalize w4.setCell ⟨D,0,none⟩ .nilIface=cD at *;refine Jgy ?_;go_region
    all_goals
     go_wp2_with fail
     refine Jl4 _ _ (t:=(t:Int)) (sl:=.slice (some ⟨b,0,none⟩) vs.length vs.length) (ev:=.nilIface) (by repeat (first|exact E|exact E.drew|apply Qh.s0|apply Qh.s1|apply Qh.s2|apply Qh.drew)) rfl rfl rfl ⟨?_,.inr ⟨t,R,vs,b,cE.out,rfl,cT,?_⟩⟩
     ·repeat (first|exact K|exact K.drew|refine Below.setCell ?_ (by assumption) _|refine Below.drew ?_)
     repeat (first|exact cv|exact Joh cv|refine Kv.of_block ?_ (Oa4 _ _ _ _ (by assumption))|refine Joh ?_)
  have dd:((Qw out).toList==(Qw bs).toList)=false:=by
   rw[beq_eq_false_iff_ne,Og4,Og4];simpa [Qw] using bz
  have bN:Hid (Jbf bs=none):=by
   show _=_;rw[bx.out,if_neg (by simp[bz])]
  clear bx bz;refine Jgy ?_;go_region_with (first|(go_at_call 63;refine U.mono ?_;rintro e w4 ⟨rfl,y⟩;obtain⟨kk,bJ⟩:=Kx y))
  all_goals
   have ba:Qh w4 p q D 0 (.slice (some ⟨b,0,none⟩) vs.length vs.length) .nilIface:=Z.of_block (y.block _ bS) (y.block _ bU) (y.block _ bV);have E:=ba.s2 (ev':=.nilIface);have K:Below w.heap.size w (w4.setCell ⟨D,0,none⟩ .nilIface):=(bh.trans (y.mono bh.size)).setCell (p:=⟨D,0,none⟩) bY _;clear kk bJ U y ba;obtain⟨bG,bH,bI,bK,z1,z2⟩:=E.facts;have cF:=(bi.below K).c2;go_wp2_with fail
   generalize w4.setCell ⟨D,0,none⟩ .nilIface=cD at *;refine Jgy ?_;go_region
   all_goals
    go_wp2_with fail
    refine Jl4 _ _ (t:=0) (sl:=.slice none 0 0) (ev:=.iface 433 (.pointer (some H))) (by repeat (first|exact E|exact E.drew|apply Qh.s0|apply Qh.s1|apply Qh.s2|apply Qh.drew)) rfl rfl rfl ⟨?_,.inl ⟨bN.out,rfl⟩⟩;repeat (first|exact K|exact K.drew|refine Below.setCell ?_ (by assumption) _|refine Below.drew ?_)
 obtain⟨bC,ch⟩:∃ bC,Jk9 bA bB bZ=.iface 433 (.pointer (some bC)):=by
  unfold Jk9;rw[if_neg h0];split
  ·exact⟨_,rfl⟩
  ·exact⟨_,rfl⟩
 rw[ch]at U;clear ch;have bN:Hid (Jbf bs=none):=by
  show _=_;rw[bx.out,if_neg (by simp[h0])]
 clear bx h0;refine Jgy ?_;go_region_with (first|(go_at_call 63;refine U.mono ?_;rintro e w4 ⟨rfl,y⟩;obtain⟨kk,bJ⟩:=Kx y))
 all_goals
  have ba:Qh w4 p q D 0 (.slice (some ⟨b,0,none⟩) vs.length vs.length) .nilIface:=Z.of_block (y.block _ bS) (y.block _ bU) (y.block _ bV);have E:=ba.s2 (ev':=(.iface 433 (.pointer (some bC))));have K:Below w.heap.size w (w4.setCell ⟨D,0,none⟩ (.iface 433 (.pointer (some bC)))):=(bh.trans (y.mono bh.size)).setCell (p:=⟨D,0,none⟩) bY _;clear kk bJ U y ba;obtain⟨bG,bH,bI,bK,z1,z2⟩:=E.facts;have cF:=(bi.below K).c2;go_wp2_with fail
  generalize w4.setCell ⟨D,0,none⟩ (.iface 433 (.pointer (some bC)))=cD at *;refine Jgy ?_;go_region
  all_goals
   go_wp2_with fail
   refine Jl4 _ _ (t:=0) (sl:=.slice none 0 0) (ev:=.iface 433 (.pointer (some H))) (by repeat (first|exact E|exact E.drew|apply Qh.s0|apply Qh.s1|apply Qh.s2|apply Qh.drew)) rfl rfl rfl ⟨?_,.inl ⟨bN.out,rfl⟩⟩;repeat (first|exact K|exact K.drew|refine Below.setCell ?_ (by assumption) _|refine Below.drew ?_)
end
section
open Go.RowKit Tryz
end
end Go.Proofs.YtpchafocmlhmbaaGreatDoor
