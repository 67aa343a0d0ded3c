/- One Scan in both stores, as the law's script has it. -/
import Derived.Test.YtcaocabmioafcaaGreatDoorQy
set_option maxHeartbeats 2000000
set_option maxRecDepth 100000
namespace Go.Proofs.YtcaocabmioafcaaGreatDoor
open Go.RowKit Go.Shelf Tryz
attribute [local go_sem] Oc0
structure Opx where
 kind:Int
 h:Int
 a:Int
 b:Int
 c:Int
 s:ByteArray
 d:Dx
 pa:Option Addr
 pl:Nat
 pc:Nat
 o0:Int
 o1:Int
 o2:Int
 o3:Int
abbrev Opx.p0 (o:Opx):Value:=.slice o.pa o.pl o.pc
def Opx.val (o:Opx):Value:=.agg #[.int .i64 o.kind,.int .i64 o.h,.int .i64 o.a,.int .i64 o.b,.int .i64 o.c,.string o.s,.string o.d.name,.slice o.d.at_ o.d.ts.length o.d.ct,.slice o.d.ar o.d.rs.length o.d.cr,.slice o.d.ah o.d.hs.length o.d.ch,.int .i64 o.d.g,o.p0,.int .i64 o.o0,.int .i64 o.o1,.int .i64 o.o2,.int .i64 o.o3]
theorem Kxc {w:World}{A o:Nat}{v:Value}(H:w.heap[A]?=some Ka)(h:w.cell? ⟨A,o,none⟩=some v):∃ n,v=.int .i64 n:=by
 simp only[World.cell?,H]at h
 rcases o with _|_|_|_|_|o<;>simp at h<;>exact⟨0,h.symm⟩
theorem Jv.keepF {w H:World}{A:Nat}{a:Option Addr}{vs:List V}(h:Jv w a vs)(O:w.heap[A]?=some Ka)(hk:Ju (fun k=>k=A) w H):Jv H a vs:=by
 rcases h with e|⟨b,o,K,L,J⟩
 ·exact .inl e
 by_cases e:b=A
 ·cases vs with
  |nil=>exact .inl rfl
  |cons v l=>
   have I:=(J 0 v rfl).2.2
   rw[e]at I
   obtain⟨n,M⟩:=Kxc O I
   cases M
 exact .inr ⟨b,o,K,by have:=hk.size;omega,fun i v N=>(J i v N).of_block (hk.block b L e)⟩
theorem Zd.keepF {w H:World}{A:Nat}{a:Option Addr}{hs:List (Option Addr×Nat)}{rs:List (List V)}(h:Zd w a hs rs)(L:w.heap[A]?=some Ka)(hk:Ju (fun k=>k=A) w H):Zd H a hs rs:=by
 refine⟨h.len,?_,fun i x r U O=>(h.rows i x r U O).keepF L hk⟩
 rcases h.cells with e|⟨b,o,M,N,J⟩
 ·exact .inl e
 by_cases e:b=A
 ·rcases hs with _|⟨x,hs⟩
  ·exact .inl rfl
  rcases rs with _|⟨r,rs⟩
  ·exact .inl rfl
  have I:=J 0 _ rfl
  rw[e]at I
  obtain⟨n,K⟩:=Kxc L I
  unfold Je1 at K
  cases K
 exact .inr ⟨b,o,M,by have:=hk.size;omega,fun i v R=>by rw[Oc3 (hk.block b N e)];exact J i v R⟩
def Kus (Q:Nat→Prop)(rs:List (List V))(A:Value)(w:World):Prop:=∃ a bs,A=.slice a rs.length rs.length∧Ktn w a bs rs∧∀ i,Ksj a rs.length i∨i∈bs→Q i
def Kw7 (rs:List (List V))(A:Value)(w:World):Prop:=∃ a c hs,A=.slice a rs.length c∧Zd w a hs rs
theorem Kxu {g n i:Nat}(h:Ksj (some ⟨g,0,none⟩) n i):i=g:=by simpa [Ksj,Value.ownBlock] using h.symm
theorem Ktn.at_ {w A:World}{a:Option Addr}{bs:List Nat}{rs:List (List V)}(h:Ktn w a bs rs)(hk:∀ i,Ksj a rs.length i∨i∈bs→A.heap[i]?=w.heap[i]?):Ktn A a bs rs:=by
 rcases h with h|⟨g,rfl,I⟩
 ·exact .inl h
 exact .inr ⟨g,rfl,I.of_blocks (hk g (.inl rfl)) fun b H=>hk b (.inr H)⟩
theorem Ktn.lt {w:World}{a:Option Addr}{bs:List Nat}{rs:List (List V)}(h:Ktn w a bs rs):∀ i,Ksj a rs.length i∨i∈bs→i<w.heap.size:=by
 rcases h with⟨rfl,rfl,rfl⟩|⟨g,rfl,A⟩
 ·exact fun i hi=>by simp[Ksj,Value.ownBlock]at hi
 intro i hi
 rcases hi with hi|hi
 ·rw[Kxu hi];exact A.outer.lt
 obtain⟨j,H,rfl⟩:=Od5 hi
 exact(A.rows j _ _ (Oa3 H) (Oa3 (by rw[←A.len];exact H))).lt
theorem Ktn.rows {w:World}{a:Option Addr}{bs:List Nat}{rs:List (List V)}(h:Ktn w a bs rs):∃ hs,Zd w a hs rs:=by
 rcases h with⟨rfl,rfl,rfl⟩|⟨g,rfl,A⟩
 ·exact⟨[],rfl,.inl rfl,fun i x r H=>by simp at H⟩
 exact⟨_,A.rowsAt⟩
theorem Kw0 {Q:Nat→Prop}{rs:List (List V)}{I:Value}{w H:World}(h:Kus Q rs I w)(L:Below w.heap.size w H):Kus (fun i=>Q i∧i<w.heap.size) rs I H:=by
 obtain⟨a,bs,J,A,K⟩:=h
 exact⟨a,bs,J,A.at_ fun i hi=>L.block i (A.lt i hi),fun i hi=>⟨K i hi,A.lt i hi⟩⟩
theorem Qbo {B A:Nat}{rs:List (List V)}{K:Value}{w I:World}(h:Kus (fun i=>B≤i) rs K w)(_M:A<B)(hk:Ju (fun k=>k=A) w I):Kus (fun i=>B≤i∧i≠A) rs K I:=by
 obtain⟨a,bs,L,J,H⟩:=h
 exact⟨a,bs,L,J.at_ fun i hi=>hk.block i (J.lt i hi) (by have:=H i hi;omega),fun i hi=>⟨H i hi,by have:=H i hi;omega⟩⟩
theorem Kus.imp {Q A:Nat→Prop}{rs:List (List V)}{H:Value}{w:World}(h:Kus Q rs H w)(L:∀ i,Q i→A i):Kus A rs H w:=by
 obtain⟨a,bs,I,J,K⟩:=h
 exact⟨a,bs,I,J,fun i hi=>L i (K i hi)⟩
theorem Qae {rs:List (List V)}{H:Value}{w A:World}(h:Kw7 rs H w)(K:Below w.heap.size w A):Kw7 rs H A:=by
 obtain⟨a,c,hs,I,J⟩:=h
 exact⟨a,c,hs,I,J.below K⟩
theorem Qbp {H:Nat}{rs:List (List V)}{I:Value}{w A:World}(h:Kw7 rs I w)(L:w.heap[H]?=some Ka)(hk:Ju (fun k=>k=H) w A):Kw7 rs I A:=by
 obtain⟨a,c,hs,J,K⟩:=h
 exact⟨a,c,hs,J,K.keepF L hk⟩
def Ks1:Option (List (List V)⊕Nat)→Int×Int×List (List V)
 |none=>(4,-1,[])
 |some (.inl rs)=>(0,-1,rs)
 |some (.inr p)=>(7,(p:Int),[])
theorem Kz6 {D:DS}{H:List TS}{P:List RP}{Rs:List RTb}(h:Ksb D H P Rs)(n:ByteArray):(Ks1 (Kun P Rs n)).2.2.length≤200∧∀ r∈(Ks1 (Kun P Rs n)).2.2,r.length≤6:=by
 unfold Kun
 cases hr:Rs[Ksg (Rs.map nmT) n]? with
 |none=>simp[Ks1]
 |some A=>
  obtain⟨J,K,_⟩:=h.pages A (Of6 hr)
  rw[Option.map_some]
  split
  ·simp[Ks1]
  exact⟨J,fun r I=>(K r I).2⟩
theorem Kx9 (r:Option (List (List V)⊕Nat)):(Ks1 r).1=0∨(Ks1 r).1≠0∧(Ks1 r).2.2.length=0:=by
 rcases r with _|r|p
 ·exact .inr ⟨by simp[Ks1],rfl⟩
 ·exact .inl rfl
 exact .inr ⟨by simp[Ks1],rfl⟩
theorem Qb3 (o:Opx)(wb pa cH p bL bM u:Nat)(bS cj bR:Nat→Prop)(D:DS)(cS:List TS)(P:List RP)(Rs:List RTb)(dh:Int)(cJ:Ksl)(G:Nat→Prop)(w dc:World)(h:Kso w p bL bM bS cj D cS P Rs)(dm:Kss bR w wb pa cH u dh cJ G)(dj:∀ k,bS k∨cj k∨k=p→¬ bR k)(ds:u≤9999990000)(dk:Below dc.heap.size dc w)(de df dg dw q dx pg pl ex dv:Addr)(di:Jax dc de df dg dw q dx pg pl ex dv) :
  Calls prog 21 #[.pointer (some ⟨wb,0,none⟩),.pointer (some ⟨p,0,none⟩),o.val] w fun e w'=>e=.returned (.bool true)∧Kst w wb pa cH p bL bM bS cj bR (u+1000) D.writes w':=by
 have br:Hid (Kso w p bL bM bS cj D cS P Rs∧Kss bR w wb pa cH u dh cJ G∧(∀ k,bS k∨cj k∨k=p→¬ bR k)∧u≤9999990000):=⟨h,dm,dj,ds⟩
 have cR:Hid (∀ M,Below w.heap.size w M→Calls prog 27 #[.pointer (some ⟨bM,0,none⟩)] M fun e w'=>e=.returned (.bool (Ksm P))∧w'=M):=fun M bk=>Qcb (h.y.below bk) (by have:=h.ag.small;omega)
 obtain⟨bx,cO⟩:∃ bx,Kun P Rs o.s=bx:=⟨_,rfl⟩
 have cD:=Kz6 h.ag o.s
 rw[cO]at cD
 have bG:=Kx9 bx
 have cx:Hid (Ksm P=true→∀ M,Below w.heap.size w M→Calls prog 47 #[.pointer (some ⟨bL,0,none⟩),.string o.s] M fun e bT=>∃ bu,e=.returned (.tuple #[bu,Ko (Ks1 bx).1 (-1) (-1) (-1) (Ks1 bx).2.1])∧Below M.heap.size M bT∧Kus (fun i=>M.heap.size≤i) (Ks1 bx).2.2 bu bT):=fun hs M bk=>by
  obtain⟨bI,db⟩:=h.ag.scan hs o.s
  refine(Kcc bS bL D cS o.s M (h.x.below bk) db de df dg dw q dx pg pl ex dv (di.below (Jb dk bk))).mono fun e bT bn=>?_
  rw[bI,cO]at bn
  obtain⟨bE,bn⟩:=bn
  rcases bx with _|rs|j
  ·exact⟨_,bn,bE,none,[],rfl,.inl ⟨rfl,rfl,rfl⟩,fun i hi=>by simp[Ksj,Value.ownBlock]at hi⟩
  ·obtain⟨g,bs,cV,bH⟩:=bn
   refine⟨_,cV,bE,some ⟨g,0,none⟩,bs,rfl,.inr ⟨g,rfl,bH.len,bH.outer,bH.rows,⟨Ob7 _,fun b bE=>⟨Ob7 _,(bH.from_.2 b bE).2⟩⟩,bH.nodup⟩,fun i hi=>?_⟩
   rcases hi with hi|hi
   ·rw[Kxu hi];exact bH.from_.1
   exact(bH.from_.2 i hi).1
  exact⟨_,bn,bE,none,[],rfl,.inl ⟨rfl,rfl,rfl⟩,fun i hi=>by simp[Ksj,Value.ownBlock]at hi⟩
 have cI:Hid (∀ M,Below w.heap.size w M→Calls prog 48 #[.pointer (some ⟨bM,0,none⟩),.string o.s] M fun e bT=>∃ cP,e=.returned (.tuple #[cP,Ko (Ks1 bx).1 (-1) (-1) (-1) (Ks1 bx).2.1])∧Below M.heap.size M bT∧Kw7 (Ks1 bx).2.2 cP bT):=fun M bk=>by
  refine(Qcc (h.y.below bk) o.s (by have:=h.len;omega) (by have:=h.ag.small;omega) fun cJ dA=>by
   obtain⟨bI,db,dK,dL⟩:=h.ag.pages cJ dA
   exact⟨bI,db,dK,fun i hi=>(dL i hi).1⟩).mono fun e bT bn=>?_
  rw[cO]at bn
  obtain⟨bE,bn⟩:=bn
  rcases bx with _|rs|j
  ·exact⟨_,bn,bE,none,0,[],rfl,rfl,.inl rfl,fun i x r da=>by simp at da⟩
  ·obtain⟨a,c,hs,cV,bH⟩:=bn
   exact⟨_,cV,bE,a,c,hs,rfl,bH⟩
  exact⟨_,bn,bE,none,0,[],rfl,rfl,.inl rfl,fun i x r da=>by simp at da⟩
 clear h dm dj ds di cO dk
 generalize Ks1 bx=dM at cx cI cD bG
 obtain⟨cd,U,rs⟩:=dM
 simp only at cx cI cD bG
 have bO:Hid ((rs.length≤200∧∀ r∈rs,r.length≤6)∧(cd=0∨cd≠0∧rs.length=0)):=⟨cD,bG⟩
 clear cD bG
 have cn:Ksm P=true∨Ksm P=false:=by cases Ksm P<;>simp
 obtain⟨du,cu⟩:∃ du,Ksm P=du:=⟨_,rfl⟩
 rw[cu]at cR cx cn
 clear cu
 unfold Opx.val
 go_enter func21,ntmps21
 go_upto_region 1 with fail
 obtain⟨bD,cU⟩:∃ bD,bD=w.alloc (.cells #[.int .i64 o.kind,.int .i64 o.h,.int .i64 o.a,.int .i64 o.b,.int .i64 o.c,.string o.s,.string o.d.name,.slice o.d.at_ o.d.ts.length o.d.ct,.slice o.d.ar o.d.rs.length o.d.cr,.slice o.d.ah o.d.hs.length o.d.ch,.int .i64 o.d.g,o.p0,.int .i64 o.o0,.int .i64 o.o1,.int .i64 o.o2,.int .i64 o.o3] 40):=⟨_,rfl⟩
 rw[←cU]
 have HZ:Hid (Below w.heap.size w bD∧bD.heap.size=w.heap.size+1∧bD.heap[w.heap.size]?=some (.cells #[.int .i64 o.kind,.int .i64 o.h,.int .i64 o.a,.int .i64 o.b,.int .i64 o.c,.string o.s,.string o.d.name,.slice o.d.at_ o.d.ts.length o.d.ct,.slice o.d.ar o.d.rs.length o.d.cr,.slice o.d.ah o.d.hs.length o.d.ch,.int .i64 o.d.g,o.p0,.int .i64 o.o0,.int .i64 o.o1,.int .i64 o.o2,.int .i64 o.o3] 40 (0,0))):=by
  rw[cU]
  exact⟨(Oa5 _ w).alloc (Oa2 _) _,by simp,heap_alloc_new _ _⟩
 clear cU
 have cW:=(HZ.out.1.block _ (Jd br.out.1.cells)).trans br.out.1.cells
 have cG:bD.cell? ⟨p,0,none⟩=some (.pointer (some ⟨bL,0,none⟩)):=by simp[World.cell?,cW]
 have dt:bD.cell? ⟨p,1,none⟩=some (.pointer (some ⟨bM,0,none⟩)):=by simp[World.cell?,cW]
 have c5:bD.cell? ⟨w.heap.size,5,none⟩=some (.string o.s):=by simp[World.cell?,HZ.out.2.2]
 clear cW
 have cu:=cR.out bD HZ.out.1
 rcases cn with cn|cn
 case inr=>
  subst cn
  go_wp2_with (go_at_call 27;refine cu.mono ?_;rintro e L ⟨rfl,rfl⟩)
  go_ret
  exact⟨rfl,Kst.still br.out.1 br.out.2.1 br.out.2.2.1 (by omega) HZ.out.1⟩
 case inl=>
 subst cn
 go_upto_region 4 with(go_at_call 27;refine cu.mono ?_;rintro e L ⟨rfl,rfl⟩)
 clear cu cR
 go_cut [8,9] from 21 to 30 (fun bu cT cc=>∃ A,cT=.pointer (some ⟨A,0,none⟩)∧cc.heap[A]?=some (.cells #[.int .i64 cd,.int .i64 (-1),.int .i64 (-1),.int .i64 (-1),.int .i64 U] 68 (0,0))∧L.heap.size≤A∧Below L.heap.size L cc∧Kus (fun i=>L.heap.size≤i∧i≠A) rs bu cc)
 case first=>
  refine wp_region_held_drew (S:=fun M=>(M.cell? ⟨p,0,none⟩=some (.pointer (some ⟨bL,0,none⟩))∧M.cell? ⟨w.heap.size,5,none⟩=some (.string o.s))∧Below L.heap.size L M) (by kernel_rfl) ⟨⟨Jh cG,Jh c5⟩,Jj (Oa5 _ _)⟩ (fun H=>?_)
  refine Kn 0 rfl H ?_
  refine Kn 1 rfl H ?_
  refine Kn 2 rfl H ?_
  refine Kn 3 rfl H ?_
  refine Kn 4 rfl H ?_
  refine Kn 5 rfl H ?_
  refine tkn ?_
  refine wpAnyH_ready (rs:=[6,10]) (by kernel_rfl) (by simp) (AllReadyH.cons rfl (fun Y N=>?_) (AllReadyH.cons rfl (fun Y N=>?_) AllReadyH.nil))
  ·go_simp
   refine(cx.out (by simp) _ (Jb HZ.out.1 H.2)).mono ?_
   rintro e I ⟨bu,rfl,ba,bl⟩
   have bJ:Hid _:=bl
   clear bl
   go_simp
   refine N.out _ _ ⟨⟨Ja ba H.1.1,Ja ba H.1.2⟩,Jb H.2 ba⟩ (fun H=>?_)
   clear N Y ba
   refine Kn 7 rfl H ?_
   refine Kn 8 rfl H ?_
   refine Kn 9 rfl H ?_
   refine tkn ?_
   refine tkr 10 rfl fun Y N=>?_
   go_simp
   have bA:Below I.heap.size I (I.alloc Ka):=(Oa5 _ I).alloc (Oa2 _) Ka
   have J:=heap_alloc_new I Ka
   have bc:Hid (L.heap.size≤I.heap.size):=H.2.size
   have bQ:Hid (∀ M,Below I.heap.size I M→Kus (fun i=>L.heap.size≤i∧i<I.heap.size) rs bu M):=fun M bk=>Kw0 bJ.out bk
   refine N.out _ _ ⟨⟨Ja bA H.1.1,Ja bA H.1.2⟩,Jb H.2 bA⟩ (fun H=>?_)
   clear N Y bJ
   have bh:Hid (Below I.heap.size I (I.alloc Ka)):=bA
   clear bA
   obtain⟨O,cB⟩:∃ O,O=I.alloc Ka:=⟨_,rfl⟩
   rw[←cB]at J H bh ⊢
   clear cB
   obtain⟨A,X⟩:∃ A,A=I.heap.size:=⟨_,rfl⟩
   rw[←X]at J ⊢
   have cf:Hid (A=I.heap.size∧L.heap.size≤A):=⟨X,by rw[X];exact bc.out⟩
   clear bc X
   have bc:Hid (L.heap.size≤A):=cf.out.2
   refine Kn 11 rfl H ?_
   refine tkn ?_
   have k0:O.cell? ⟨A,0,none⟩=some (.int .i64 0):=by simp[World.cell?,J]
   have k1:O.cell? ⟨A,1,none⟩=some (.int .i64 0):=by simp[World.cell?,J]
   have bZ:O.cell? ⟨A,2,none⟩=some (.int .i64 0):=by simp[World.cell?,J]
   have ca:O.cell? ⟨A,3,none⟩=some (.int .i64 0):=by simp[World.cell?,J]
   have cb:O.cell? ⟨A,4,none⟩=some (.int .i64 0):=by simp[World.cell?,J]
   have bU:O.frozen? ⟨A,0,none⟩=false:=by simp[World.frozen?,J]
   have bV:O.frozen? ⟨A,1,none⟩=false:=by simp[World.frozen?,J]
   have bW:O.frozen? ⟨A,2,none⟩=false:=by simp[World.frozen?,J]
   have bX:O.frozen? ⟨A,3,none⟩=false:=by simp[World.frozen?,J]
   have bY:O.frozen? ⟨A,4,none⟩=false:=by simp[World.frozen?,J]
   have bj:=Jk (Jk (Jk (Jk (Jk J 0 (.int .i64 cd)) 1 (.int .i64 (-1))) 2 (.int .i64 (-1))) 3 (.int .i64 (-1))) 4 (.int .i64 U)
   simp only[Oa1,List.set_cons_zero,List.set_cons_succ]at bj
   have bP:Hid _:=bj
   have bb:Hid (Below L.heap.size L (((((O.setCell ⟨A,0,none⟩ (.int .i64 cd)).setCell ⟨A,1,none⟩ (.int .i64 (-1))).setCell ⟨A,2,none⟩ (.int .i64 (-1))).setCell ⟨A,3,none⟩ (.int .i64 (-1))).setCell ⟨A,4,none⟩ (.int .i64 U))):=Um H.2 bc.out _ _ _ _ _
   have bi:Hid (Ju (fun k=>k=A) O (((((O.setCell ⟨A,0,none⟩ (.int .i64 cd)).setCell ⟨A,1,none⟩ (.int .i64 (-1))).setCell ⟨A,2,none⟩ (.int .i64 (-1))).setCell ⟨A,3,none⟩ (.int .i64 (-1))).setCell ⟨A,4,none⟩ (.int .i64 U))):=Ksa _ _ _ _ _ _ _
   clear J bj
   refine tkr 12 rfl fun Y N=>?_
   go_simp
   refine N.out _ _ ⟨⟨Ja bb.out cG,Ja bb.out c5⟩,bb.out⟩ (fun _=>?_)
   clear N Y k0 k1 bZ ca cb bU bV bW bX bY H
   refine wpAnyH_done (by kernel_rfl) ?_ _
   go_wp2_with fail
   go_meet
   case rel=>exact⟨A,rfl,bP.out,bc.out,bb.out,(bQ.out _ ⟨bi.out.os.trans bh.out.os,bi.out.tape.trans bh.out.tape,bi.out.output.trans bh.out.output,Ob2 bh.out.size bi.out.size,fun k hk=>(bi.out.block k (Oc2 hk bh.out.size) (by have:=cf.out.1;omega)).trans (bh.out.block k hk)⟩).imp fun i hi=>⟨hi.1,by have cK:=cf.out.1;have cL:=hi.2;omega⟩⟩
  go_simp
  have bz:Below L.heap.size L (L.alloc Ka).drew:=Jj ((Oa5 _ L).alloc (Oa2 _) Ka)
  have bB:(L.alloc Ka).drew.heap[L.heap.size]?=some Ka:=heap_alloc_new L Ka
  refine N.out _ _ ⟨⟨Ja bz cG,Ja bz c5⟩,bz⟩ (fun H=>?_)
  clear N Y
  generalize (L.alloc Ka).drew=dy at bB H bz ⊢
  have bc:Hid (L.heap.size≤L.heap.size):=Oa2 _
  clear bz
  refine tkr 6 rfl fun Y N=>?_
  go_simp
  refine(cx.out (by simp) _ (Jb HZ.out.1 H.2)).mono ?_
  rintro e I ⟨bu,rfl,ba,bl⟩
  go_simp
  have J:=(ba.block _ (Jd bB)).trans bB
  have bQ:Hid (∀ M,Ju (fun k=>k=L.heap.size) I M→Kus (fun i=>L.heap.size≤i∧i≠L.heap.size) rs bu M):=fun M bk=>(Qbo bl (Jd bB) bk).imp fun i hi=>⟨by have cK:=hi.1;have cL:=H.2.size;omega,hi.2⟩
  refine N.out _ _ ⟨⟨Ja ba H.1.1,Ja ba H.1.2⟩,Jb H.2 ba⟩ (fun H=>?_)
  clear N Y ba bB bl
  refine Kn 7 rfl H ?_
  refine Kn 8 rfl H ?_
  refine Kn 9 rfl H ?_
  refine Kn 11 rfl H ?_
  refine tkn ?_
  have k0:I.cell? ⟨L.heap.size,0,none⟩=some (.int .i64 0):=by simp[World.cell?,J]
  have k1:I.cell? ⟨L.heap.size,1,none⟩=some (.int .i64 0):=by simp[World.cell?,J]
  have bZ:I.cell? ⟨L.heap.size,2,none⟩=some (.int .i64 0):=by simp[World.cell?,J]
  have ca:I.cell? ⟨L.heap.size,3,none⟩=some (.int .i64 0):=by simp[World.cell?,J]
  have cb:I.cell? ⟨L.heap.size,4,none⟩=some (.int .i64 0):=by simp[World.cell?,J]
  have bU:I.frozen? ⟨L.heap.size,0,none⟩=false:=by simp[World.frozen?,J]
  have bV:I.frozen? ⟨L.heap.size,1,none⟩=false:=by simp[World.frozen?,J]
  have bW:I.frozen? ⟨L.heap.size,2,none⟩=false:=by simp[World.frozen?,J]
  have bX:I.frozen? ⟨L.heap.size,3,none⟩=false:=by simp[World.frozen?,J]
  have bY:I.frozen? ⟨L.heap.size,4,none⟩=false:=by simp[World.frozen?,J]
  have bj:=Jk (Jk (Jk (Jk (Jk J 0 (.int .i64 cd)) 1 (.int .i64 (-1))) 2 (.int .i64 (-1))) 3 (.int .i64 (-1))) 4 (.int .i64 U)
  simp only[Oa1,List.set_cons_zero,List.set_cons_succ]at bj
  have bP:Hid _:=bj
  have bb:Hid (Below L.heap.size L (((((I.setCell ⟨L.heap.size,0,none⟩ (.int .i64 cd)).setCell ⟨L.heap.size,1,none⟩ (.int .i64 (-1))).setCell ⟨L.heap.size,2,none⟩ (.int .i64 (-1))).setCell ⟨L.heap.size,3,none⟩ (.int .i64 (-1))).setCell ⟨L.heap.size,4,none⟩ (.int .i64 U))):=Um H.2 bc.out _ _ _ _ _
  have bi:Hid (Ju (fun k=>k=L.heap.size) I (((((I.setCell ⟨L.heap.size,0,none⟩ (.int .i64 cd)).setCell ⟨L.heap.size,1,none⟩ (.int .i64 (-1))).setCell ⟨L.heap.size,2,none⟩ (.int .i64 (-1))).setCell ⟨L.heap.size,3,none⟩ (.int .i64 (-1))).setCell ⟨L.heap.size,4,none⟩ (.int .i64 U))):=Ksa _ _ _ _ _ _ _
  clear J bj
  refine tkr 12 rfl fun Y N=>?_
  go_simp
  refine N.out _ _ ⟨⟨Ja bb.out cG,Ja bb.out c5⟩,bb.out⟩ (fun _=>?_)
  clear N Y k0 k1 bZ ca cb bU bV bW bX bY H
  refine wpAnyH_done (by kernel_rfl) ?_ _
  go_wp2_with fail
  go_meet
  case rel=>exact⟨L.heap.size,rfl,bP.out,bc.out,bb.out,(bQ.out _ bi.out)⟩
 case rest=>
  obtain⟨A,rfl,X,dB,cM,bl⟩:=hcut
  obtain⟨K,rfl⟩:∃ K,K=wc:=⟨_,rfl⟩
  have bC:Hid (K.heap[A]?=some (.cells #[.int .i64 cd,.int .i64 (-1),.int .i64 (-1),.int .i64 (-1),.int .i64 U] 68 (0,0))∧w.heap.size<A∧Below w.heap.size w K):=⟨X,by have:=HZ.out.2.1;omega,Jb HZ.out.1 cM⟩
  have bI:=Ja cM dt
  have cz:=Ja cM c5
  have bJ:Hid (Kus (fun i=>w.heap.size≤i∧i≠A) rs _ K):=bl.imp fun i hi=>⟨by have:=HZ.out.2.1;have:=hi.1;omega,hi.2⟩
  clear X dB cM bl cG dt c5
  go_upto_region 5 with fail
  go_cut [10,11] from 31 to 40 (fun cP cT cc=>∃ Z,cT=.pointer (some ⟨Z,0,none⟩)∧cc.heap[Z]?=some (.cells #[.int .i64 cd,.int .i64 (-1),.int .i64 (-1),.int .i64 (-1),.int .i64 U] 68 (0,0))∧K.heap.size≤Z∧Below K.heap.size K cc∧Kw7 rs cP cc)
  case first=>
   refine wp_region_held_drew (S:=fun M=>(M.cell? ⟨p,1,none⟩=some (.pointer (some ⟨bM,0,none⟩))∧M.cell? ⟨w.heap.size,5,none⟩=some (.string o.s))∧Below K.heap.size K M) (by kernel_rfl) ⟨⟨Jh bI,Jh cz⟩,Jj (Oa5 _ _)⟩ (fun H=>?_)
   refine Kn 0 rfl H ?_
   refine Kn 1 rfl H ?_
   refine Kn 2 rfl H ?_
   refine Kn 3 rfl H ?_
   refine Kn 4 rfl H ?_
   refine Kn 5 rfl H ?_
   refine tkn ?_
   refine wpAnyH_ready (rs:=[6,10]) (by kernel_rfl) (by simp) (AllReadyH.cons rfl (fun Y N=>?_) (AllReadyH.cons rfl (fun Y N=>?_) AllReadyH.nil))
   ·go_simp
    refine(cI.out _ (Jb bC.out.2.2 H.2)).mono ?_
    rintro e I ⟨bu,rfl,ba,bl⟩
    have bJ:Hid _:=bl
    clear bl
    go_simp
    refine N.out _ _ ⟨⟨Ja ba H.1.1,Ja ba H.1.2⟩,Jb H.2 ba⟩ (fun H=>?_)
    clear N Y ba
    refine Kn 7 rfl H ?_
    refine Kn 8 rfl H ?_
    refine Kn 9 rfl H ?_
    refine tkn ?_
    refine tkr 10 rfl fun Y N=>?_
    go_simp
    have bA:Below I.heap.size I (I.alloc Ka):=(Oa5 _ I).alloc (Oa2 _) Ka
    have J:=heap_alloc_new I Ka
    have bc:Hid (K.heap.size≤I.heap.size):=H.2.size
    have bQ:Hid (∀ M,Below I.heap.size I M→Kw7 rs bu M):=fun M bk=>Qae bJ.out bk
    refine N.out _ _ ⟨⟨Ja bA H.1.1,Ja bA H.1.2⟩,Jb H.2 bA⟩ (fun H=>?_)
    clear N Y bJ
    have bh:Hid (Below I.heap.size I (I.alloc Ka)):=bA
    clear bA
    obtain⟨O,cB⟩:∃ O,O=I.alloc Ka:=⟨_,rfl⟩
    rw[←cB]at J H bh ⊢
    clear cB
    obtain⟨A,X⟩:∃ A,A=I.heap.size:=⟨_,rfl⟩
    rw[←X]at J ⊢
    have cf:Hid (A=I.heap.size∧K.heap.size≤A):=⟨X,by rw[X];exact bc.out⟩
    clear bc X
    have bc:Hid (K.heap.size≤A):=cf.out.2
    refine Kn 11 rfl H ?_
    refine tkn ?_
    have k0:O.cell? ⟨A,0,none⟩=some (.int .i64 0):=by simp[World.cell?,J]
    have k1:O.cell? ⟨A,1,none⟩=some (.int .i64 0):=by simp[World.cell?,J]
    have bZ:O.cell? ⟨A,2,none⟩=some (.int .i64 0):=by simp[World.cell?,J]
    have ca:O.cell? ⟨A,3,none⟩=some (.int .i64 0):=by simp[World.cell?,J]
    have cb:O.cell? ⟨A,4,none⟩=some (.int .i64 0):=by simp[World.cell?,J]
    have bU:O.frozen? ⟨A,0,none⟩=false:=by simp[World.frozen?,J]
    have bV:O.frozen? ⟨A,1,none⟩=false:=by simp[World.frozen?,J]
    have bW:O.frozen? ⟨A,2,none⟩=false:=by simp[World.frozen?,J]
    have bX:O.frozen? ⟨A,3,none⟩=false:=by simp[World.frozen?,J]
    have bY:O.frozen? ⟨A,4,none⟩=false:=by simp[World.frozen?,J]
    have bj:=Jk (Jk (Jk (Jk (Jk J 0 (.int .i64 cd)) 1 (.int .i64 (-1))) 2 (.int .i64 (-1))) 3 (.int .i64 (-1))) 4 (.int .i64 U)
    simp only[Oa1,List.set_cons_zero,List.set_cons_succ]at bj
    have bP:Hid _:=bj
    have bb:Hid (Below K.heap.size K (((((O.setCell ⟨A,0,none⟩ (.int .i64 cd)).setCell ⟨A,1,none⟩ (.int .i64 (-1))).setCell ⟨A,2,none⟩ (.int .i64 (-1))).setCell ⟨A,3,none⟩ (.int .i64 (-1))).setCell ⟨A,4,none⟩ (.int .i64 U))):=Um H.2 bc.out _ _ _ _ _
    have bi:Hid (Ju (fun k=>k=A) O (((((O.setCell ⟨A,0,none⟩ (.int .i64 cd)).setCell ⟨A,1,none⟩ (.int .i64 (-1))).setCell ⟨A,2,none⟩ (.int .i64 (-1))).setCell ⟨A,3,none⟩ (.int .i64 (-1))).setCell ⟨A,4,none⟩ (.int .i64 U))):=Ksa _ _ _ _ _ _ _
    clear J bj
    refine tkr 12 rfl fun Y N=>?_
    go_simp
    refine N.out _ _ ⟨⟨Ja bb.out bI,Ja bb.out cz⟩,bb.out⟩ (fun _=>?_)
    clear N Y k0 k1 bZ ca cb bU bV bW bX bY H
    refine wpAnyH_done (by kernel_rfl) ?_ _
    go_wp2_with fail
    go_meet
    case rel=>exact⟨A,rfl,bP.out,bc.out,bb.out,(bQ.out _ ⟨bi.out.os.trans bh.out.os,bi.out.tape.trans bh.out.tape,bi.out.output.trans bh.out.output,Ob2 bh.out.size bi.out.size,fun k hk=>(bi.out.block k (Oc2 hk bh.out.size) (by have:=cf.out.1;omega)).trans (bh.out.block k hk)⟩)⟩
   go_simp
   have bz:Below K.heap.size K (K.alloc Ka).drew:=Jj ((Oa5 _ K).alloc (Oa2 _) Ka)
   have bB:(K.alloc Ka).drew.heap[K.heap.size]?=some Ka:=heap_alloc_new K Ka
   refine N.out _ _ ⟨⟨Ja bz bI,Ja bz cz⟩,bz⟩ (fun H=>?_)
   clear N Y
   generalize (K.alloc Ka).drew=dy at bB H bz ⊢
   have bc:Hid (K.heap.size≤K.heap.size):=Oa2 _
   clear bz
   refine tkr 6 rfl fun Y N=>?_
   go_simp
   refine(cI.out _ (Jb bC.out.2.2 H.2)).mono ?_
   rintro e I ⟨bu,rfl,ba,bl⟩
   go_simp
   have J:=(ba.block _ (Jd bB)).trans bB
   have bQ:Hid (∀ M,Ju (fun k=>k=K.heap.size) I M→Kw7 rs bu M):=fun M bk=>Qbp bl J bk
   refine N.out _ _ ⟨⟨Ja ba H.1.1,Ja ba H.1.2⟩,Jb H.2 ba⟩ (fun H=>?_)
   clear N Y ba bB bl
   refine Kn 7 rfl H ?_
   refine Kn 8 rfl H ?_
   refine Kn 9 rfl H ?_
   refine Kn 11 rfl H ?_
   refine tkn ?_
   have k0:I.cell? ⟨K.heap.size,0,none⟩=some (.int .i64 0):=by simp[World.cell?,J]
   have k1:I.cell? ⟨K.heap.size,1,none⟩=some (.int .i64 0):=by simp[World.cell?,J]
   have bZ:I.cell? ⟨K.heap.size,2,none⟩=some (.int .i64 0):=by simp[World.cell?,J]
   have ca:I.cell? ⟨K.heap.size,3,none⟩=some (.int .i64 0):=by simp[World.cell?,J]
   have cb:I.cell? ⟨K.heap.size,4,none⟩=some (.int .i64 0):=by simp[World.cell?,J]
   have bU:I.frozen? ⟨K.heap.size,0,none⟩=false:=by simp[World.frozen?,J]
   have bV:I.frozen? ⟨K.heap.size,1,none⟩=false:=by simp[World.frozen?,J]
   have bW:I.frozen? ⟨K.heap.size,2,none⟩=false:=by simp[World.frozen?,J]
   have bX:I.frozen? ⟨K.heap.size,3,none⟩=false:=by simp[World.frozen?,J]
   have bY:I.frozen? ⟨K.heap.size,4,none⟩=false:=by simp[World.frozen?,J]
   have bj:=Jk (Jk (Jk (Jk (Jk J 0 (.int .i64 cd)) 1 (.int .i64 (-1))) 2 (.int .i64 (-1))) 3 (.int .i64 (-1))) 4 (.int .i64 U)
   simp only[Oa1,List.set_cons_zero,List.set_cons_succ]at bj
   have bP:Hid _:=bj
   have bb:Hid (Below K.heap.size K (((((I.setCell ⟨K.heap.size,0,none⟩ (.int .i64 cd)).setCell ⟨K.heap.size,1,none⟩ (.int .i64 (-1))).setCell ⟨K.heap.size,2,none⟩ (.int .i64 (-1))).setCell ⟨K.heap.size,3,none⟩ (.int .i64 (-1))).setCell ⟨K.heap.size,4,none⟩ (.int .i64 U))):=Um H.2 bc.out _ _ _ _ _
   have bi:Hid (Ju (fun k=>k=K.heap.size) I (((((I.setCell ⟨K.heap.size,0,none⟩ (.int .i64 cd)).setCell ⟨K.heap.size,1,none⟩ (.int .i64 (-1))).setCell ⟨K.heap.size,2,none⟩ (.int .i64 (-1))).setCell ⟨K.heap.size,3,none⟩ (.int .i64 (-1))).setCell ⟨K.heap.size,4,none⟩ (.int .i64 U))):=Ksa _ _ _ _ _ _ _
   clear J bj
   refine tkr 12 rfl fun Y N=>?_
   go_simp
   refine N.out _ _ ⟨⟨Ja bb.out bI,Ja bb.out cz⟩,bb.out⟩ (fun _=>?_)
   clear N Y k0 k1 bZ ca cb bU bV bW bX bY H
   refine wpAnyH_done (by kernel_rfl) ?_ _
   go_wp2_with fail
   go_meet
   case rel=>exact⟨K.heap.size,rfl,bP.out,bc.out,bb.out,(bQ.out _ bi.out)⟩
  case rest=>
   clear bI cz
   obtain⟨Z,rfl,bf,dC,cN,dG⟩:=hcut
   obtain⟨cv,bs,dD,cY,cl⟩:=Kw0 bJ.out cN
   obtain⟨dI,dJ,hs,dE,dp⟩:=dG
   subst dD dE
   have ci:Hid (Ktn wc cv bs rs∧(∀ i,Ksj cv rs.length i∨i∈bs→w.heap.size≤i∧i≠A∧i≠Z)):=⟨cY,fun i hi=>⟨(cl i hi).1.1,(cl i hi).1.2,by have:=(cl i hi).2;omega⟩⟩
   have bN:Hid (wc.heap[A]?=some (.cells #[.int .i64 cd,.int .i64 (-1),.int .i64 (-1),.int .i64 (-1),.int .i64 U] 68 (0,0))∧wc.heap[Z]?=some (.cells #[.int .i64 cd,.int .i64 (-1),.int .i64 (-1),.int .i64 (-1),.int .i64 U] 68 (0,0))∧w.heap.size<A∧w.heap.size<Z∧Below w.heap.size w wc):=⟨(cN.block A (Jd bC.out.1)).trans bC.out.1,bf,bC.out.2.1,by have:=Jd bC.out.1;have:=bC.out.2.1;omega,Jb bC.out.2.2 cN⟩
   obtain⟨dH,dn⟩:=cY.rows
   have dr:=Kvl cv dI rs.length dJ dH hs rs wc (by have:=bO.out.1.1;omega) (fun r cX=>by have:=bO.out.1.2 r cX;unfold maxLen;omega) dn dp
   clear cY cl dp dn bf dC cN bJ bC
   go_upto_region 7 with(go_at_call 49;refine dr.mono ?_;rintro e ck ⟨rfl,cC⟩)
   clear dr
   have bK:Hid (ck.heap[A]?=some (.cells #[.int .i64 cd,.int .i64 (-1),.int .i64 (-1),.int .i64 (-1),.int .i64 U] 68 (0,0))∧ck.heap[Z]?=some (.cells #[.int .i64 cd,.int .i64 (-1),.int .i64 (-1),.int .i64 (-1),.int .i64 U] 68 (0,0))∧Below w.heap.size w ck∧Ktn ck cv bs rs):=⟨(cC.block A (Jd bN.out.1)).trans bN.out.1,(cC.block Z (Jd bN.out.2.1)).trans bN.out.2.1,Jb bN.out.2.2.2.2 cC,ci.out.1.at_ fun i hi=>cC.block i (ci.out.1.lt i hi)⟩
   have dl:ck.cell? ⟨A,0,none⟩=some (.int .i64 cd):=by simp[World.cell?,bK.out.1]
   have cF:=Kvm (br.out.2.1.below bK.out.2.2.1) cv bs rs bK.out.2.2.2 (by have:=bO.out.1.1;omega) (fun r cX=>by have:=bO.out.1.2 r cX;omega) (by have:=bO.out.1.1;have:=br.out.2.2.2;omega) (fun i hi dz=>by have cK:=(ci.out.2 i hi).1;have cL:=br.out.2.1.lt i dz;omega)
   have cy:Hid (∀ R,Kxh bR ck wb pa cH (u+rs.length+1) (fun i=>Ksj cv rs.length i∨i∈bs) R→Kst w wb pa cH p bL bM bS cj bR (u+1000) D.writes R∧R.heap[A]?=some (.cells #[.int .i64 cd,.int .i64 (-1),.int .i64 (-1),.int .i64 (-1),.int .i64 U] 68 (0,0))∧R.heap[Z]?=some (.cells #[.int .i64 cd,.int .i64 (-1),.int .i64 (-1),.int .i64 (-1),.int .i64 U] 68 (0,0))):=fun R cZ=>by
    refine⟨Kst.of_took br.out.1 br.out.2.2.1 bK.out.2.2.1 (fun i hi=>(ci.out.2 i hi).1) cZ (by have:=bO.out.1.1;omega),(cZ.1.block A (Jd bK.out.1) fun e=>?_).trans bK.out.1,(cZ.1.block Z (Jd bK.out.2.1) fun e=>?_).trans bK.out.2.1⟩
    ·rcases e with e|e
     ·have cK:=br.out.2.1.lt _ e;have cL:=bN.out.2.2.1;omega
     exact(ci.out.2 _ e).2.1 rfl
    rcases e with e|e
    ·have cK:=br.out.2.1.lt _ e;have cL:=bN.out.2.2.2.1;omega
    exact(ci.out.2 _ e).2.2 rfl
   clear cC
   rcases bO.out.2 with bG|⟨bG,dq⟩
   ·subst bG
    go_upto_region 9 with(go_at_call 30;refine cF.mono ?_;rintro e R ⟨rfl,cA⟩)
    obtain⟨cE,X,bf⟩:=cy.out R cA
    have cQ:Hid _:=cE
    clear cF dl cy cE cA
    have u0:R.cell? ⟨A,0,none⟩=some (.int .i64 0):=by simp[World.cell?,X]
    have u1:R.cell? ⟨A,1,none⟩=some (.int .i64 (-1)):=by simp[World.cell?,X]
    have u2:R.cell? ⟨A,2,none⟩=some (.int .i64 (-1)):=by simp[World.cell?,X]
    have u3:R.cell? ⟨A,3,none⟩=some (.int .i64 (-1)):=by simp[World.cell?,X]
    have u4:R.cell? ⟨A,4,none⟩=some (.int .i64 U):=by simp[World.cell?,X]
    have dN:R.cell? ⟨Z,0,none⟩=some (.int .i64 0):=by simp[World.cell?,bf]
    have dO:R.cell? ⟨Z,1,none⟩=some (.int .i64 (-1)):=by simp[World.cell?,bf]
    have dP:R.cell? ⟨Z,2,none⟩=some (.int .i64 (-1)):=by simp[World.cell?,bf]
    have dQ:R.cell? ⟨Z,3,none⟩=some (.int .i64 (-1)):=by simp[World.cell?,bf]
    have dR:R.cell? ⟨Z,4,none⟩=some (.int .i64 U):=by simp[World.cell?,bf]
    have cl:=Ktl 0 (-1) (-1) (-1) U
    clear X bf
    go_wp2
    go_ret
    exact⟨rfl,cQ.out⟩
   have dS:(cd==0)=false:=by simpa using bG
   rw[dq]at cF cy
   rw[dq]
   clear bG
   go_upto_region 9 with(go_at_call 30;refine cF.mono ?_;rintro e R ⟨rfl,cA⟩)
   obtain⟨cE,X,bf⟩:=cy.out R cA
   have cQ:Hid _:=cE
   clear cF dl cy cE cA
   have u0:R.cell? ⟨A,0,none⟩=some (.int .i64 cd):=by simp[World.cell?,X]
   have u1:R.cell? ⟨A,1,none⟩=some (.int .i64 (-1)):=by simp[World.cell?,X]
   have u2:R.cell? ⟨A,2,none⟩=some (.int .i64 (-1)):=by simp[World.cell?,X]
   have u3:R.cell? ⟨A,3,none⟩=some (.int .i64 (-1)):=by simp[World.cell?,X]
   have u4:R.cell? ⟨A,4,none⟩=some (.int .i64 U):=by simp[World.cell?,X]
   have dN:R.cell? ⟨Z,0,none⟩=some (.int .i64 cd):=by simp[World.cell?,bf]
   have dO:R.cell? ⟨Z,1,none⟩=some (.int .i64 (-1)):=by simp[World.cell?,bf]
   have dP:R.cell? ⟨Z,2,none⟩=some (.int .i64 (-1)):=by simp[World.cell?,bf]
   have dQ:R.cell? ⟨Z,3,none⟩=some (.int .i64 (-1)):=by simp[World.cell?,bf]
   have dR:R.cell? ⟨Z,4,none⟩=some (.int .i64 U):=by simp[World.cell?,bf]
   have cl:=Ktl cd (-1) (-1) (-1) U
   clear X bf
   go_wp2
   go_ret
   exact⟨rfl,cQ.out⟩
end Go.Proofs.YtcaocabmioafcaaGreatDoor
