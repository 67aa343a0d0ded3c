/- The law's pair of stores on any disk: one Load in both. -/
import Derived.Test.YtcaocabmioafcaaGreatDoorWk
import Derived.Test.YtcaocabmioafcaaGreatDoorQk
import Derived.Test.YtcaocabmioafcaaGreatDoorQt
set_option maxHeartbeats 4000000
set_option maxRecDepth 100000
namespace Go.Proofs.YtcaocabmioafcaaGreatDoor
open Go.RowKit Go.Shelf Tryz
attribute [local go_sem] Oc0
theorem Kxp (q f:Int):∀ (n:Nat) (k:Int) (P:List RP),0≤k→k+(n:Int)≤1000000000000000000→0≤(Kr0 q f n k P).1.1
 |0,k,P,h,_=>by simpa [Kr0] using h
 |n+1,k,P,h,A=>by
  have hw:wrap64 (k+1)=k+1:=by unfold wrap64;omega
  simp only[Kr0,hw]
  split
  ·exact h
  split
  ·show 0≤k+1
   omega
  exact Kxp q f n (k+1) _ (by omega) (by omega)
structure Kso (w:World) (pb sx sy:Nat) (M N:Nat→Prop) (D:DS) (Ts:List TS) (P:List RP) (Rs:List RTb):Prop where
 cells:w.heap[pb]?=some (.cells #[.pointer (some ⟨sx,0,none⟩),.pointer (some ⟨sy,0,none⟩)] 64 (0,0))
 x:Sto M w sx D Ts
 y:RSt N w sy D.quota D.fail D.writes P Rs
 apart:∀ k,M k→¬ N k
 np:¬ M pb∧¬ N pb
 ag:Ksb D Ts P Rs
 pos:0≤D.writes
theorem Kso.stands {w w':World}{I K L:Nat}{A H:Nat→Prop}{D:DS}{J:List TS}{P:List RP}{Rs:List RTb}(h:Kso w I K L A H D J P Rs)(hs:w.heap.size≤w'.heap.size)(hk:∀ k,A k∨H k∨k=I→w'.heap[k]?=w.heap[k]?):Kso w' I K L A H D J P Rs:=
 ⟨(hk _ (.inr (.inr rfl))).trans h.cells,h.x.stands hs fun k a=>hk k (.inl a),h.y.stands hs fun k a=>hk k (.inr (.inl a)),h.apart,h.np,h.ag,h.pos⟩
theorem Kso.lt {w:World}{I K L:Nat}{A H:Nat→Prop}{D:DS}{J:List TS}{P:List RP}{Rs:List RTb}(h:Kso w I K L A H D J P Rs):∀ k,A k∨H k∨k=I→k<w.heap.size:=fun k hk=>by
 rcases hk with a|a|a
 ·exact h.x.lt k a
 ·exact h.y.lt k a
 rw[a];exact Jd h.cells
theorem Kso.below {w w':World}{K L M:Nat}{A H:Nat→Prop}{D:DS}{I:List TS}{P:List RP}{Rs:List RTb}(h:Kso w K L M A H D I P Rs)(J:Below w.heap.size w w'):Kso w' K L M A H D I P Rs:=
 h.stands J.size fun k hk=>J.block k (h.lt k hk)
def Kuh (w:World)(L M N:Nat)(A I:Nat→Prop)(k0:Int)(w':World):Prop:=
 Ju (fun k=>A k∨I k) w w'∧∃ (H J:Nat→Prop) (D:DS) (K:List TS) (P:List RP) (Rs:List RTb),Kso w' L M N H J D K P Rs∧(∀ k,H k∨J k→A k∨I k∨w.heap.size≤k)∧D.writes≤k0+132000
theorem Kze (q f k:Int)(P:List RP)(Rs:List RTb)(name:ByteArray)(ts hs:List Int)(rs:List (List V))(g:Int):∃ c A:Int,(Kth q f k P Rs name ts hs rs g).fault=Jbz c A (-1):=by
 unfold Kth
 split
 ·exact⟨1,-1,rfl⟩
 ·exact⟨4,-1,rfl⟩
 ·exact⟨2,_,rfl⟩
 split
 ·exact⟨0,-1,rfl⟩
 exact⟨_,-1,rfl⟩
theorem Kxa {Rs:List (ByteArray×List Int)}{name:ByteArray}{ts hs:List Int}{rs:List (List V)}{g:Int}{T:List (List UInt8)}(h:Kti Rs name ts hs rs g=.inr (.inr (.inr T))):Jch T≤132000:=by
 unfold Kti at h
 split at h
 ·rename_i A
  split at h
  ·cases h
  rcases hX:Jfg rs ts hs (cks rs.length g.toNat (ckN rs.length g.toNat))with X|c
  ·rw[hX]at h
   cases h
   obtain⟨I,J,K,L⟩:=Jtr A hX
   have H:rs.length≤200:=A.1.2.2.1
   omega
  rw[hX]at h
  cases h
 cases h
theorem Kz4 {q f k:Int}{P:List RP}{Rs:List RTb}{name:ByteArray}{ts hs:List Int}{rs:List (List V)}{g:Int}(h:0≤k)(_J:k≤100000000000000000):0≤(Kth q f k P Rs name ts hs rs g).k:=by
 unfold Kth
 have A:∀ T,Kti (Rs.map nmT) name ts hs rs g=.inr (.inr (.inr T))→Jch T≤132000:=fun T A=>Kxa A
 split
 ·exact h
 ·exact h
 ·exact h
 rename_i T I
 have K:=A T I
 have H:=Kxp q f (Jch T) k P h (by omega)
 split
 ·exact H
 exact H
theorem Qce (d:Dx)(bx bK bO:Nat)(bk bB:Nat→Prop)(D:DS)(bP:List TS)(P:List RP)(Rs:List RTb)(w bz:World)(h:Kso w bx bK bO bk bB D bP P Rs)(cZ:D.writes≤100000000000000000)(dA:Kte bz d)(dI:∀ r∈d.rs,∀ v∈r,Jg v.n)(dG:Below bz.heap.size bz w)(dE:∀ k,bk k∨bB k∨k=bx→bz.heap.size≤k)(da db dc dt q du pg pl ex ds:Addr)(dD:Jax bz da db dc dt q du pg pl ex ds) :
  Calls prog 12 #[.pointer (some ⟨bx,0,none⟩),d.val] w fun e w'=>e=.returned (.bool true)∧Kuh w bx bK bO bk bB D.writes w':=by
 have M:Hid (Kso w bx bK bO bk bB D bP P Rs∧Kte bz d∧Below bz.heap.size bz w∧(∀ k,bk k∨bB k∨k=bx→bz.heap.size≤k)∧Jax bz da db dc dt q du pg pl ex ds):=⟨h,dA,dG,dE,dD⟩
 obtain⟨de,df,dg,dh,di,dj⟩:=h.ag.load (name:=d.name) (ts:=d.ts) (hs:=d.hs) (rs:=d.rs) (g:=d.g) dI cZ
 obtain⟨br,cU⟩:∃ br,Jbd D bP d.name d.ts d.hs d.rs d.g=br:=⟨_,rfl⟩
 obtain⟨c,bD,cX⟩:=Kze D.quota D.fail D.writes P Rs d.name d.ts d.hs d.rs d.g
 have dn:0≤(Kth D.quota D.fail D.writes P Rs d.name d.ts d.hs d.rs d.g).k:=Kz4 h.pos cZ
 obtain⟨Q,cT⟩:∃ Q,Kth D.quota D.fail D.writes P Rs d.name d.ts d.hs d.rs d.g=Q:=⟨_,rfl⟩
 rw[cU,cT]at de df di
 rw[cU]at dg dh dj
 rw[cT]at cX dn
 have dB:D.pages.length≤800000:=by
  obtain⟨C,fg,fb,_⟩:=h.ag.ex
  have I:=fb.len.1
  have Z:=h.ag.small
  omega
 have cb:Hid (br.fault=Jbz c bD (-1)∧Q.fault=Jbz c bD (-1)∧(br.d D).writes=Q.k∧(br.d D).quota=D.quota∧(br.d D).fail=D.fail∧Ksb (br.d D) (br.ts bP) Q.P Q.Rs∧(br.d D).writes≤D.writes+132000∧0≤Q.k):=⟨de.trans cX,cX,df,dg,dh,di,dj,dn⟩
 have dv:Hid (D.pages.length≤800000∧D.writes≤100000000000000000):=⟨dB,cZ⟩
 clear de df dg dh di dj cX dn dI cZ dB
 -- the two Loads
 have dw:Hid (∀ (ba:World) (bL bM bJ ca:Nat) (bs:List Nat),Sto bk ba bK D bP→Kvs ba d bL bM bJ ca bs→w.heap.size≤bL→Below bz.heap.size bz ba→Calls prog 36 #[.pointer (some ⟨bK,0,none⟩),.agg #[.string d.name,.slice (some ⟨bL,0,none⟩) d.ts.length (d.ts.length+1),.slice (some ⟨bJ,0,none⟩) d.rs.length (d.rs.length+1)],.slice (some ⟨bM,0,none⟩) d.hs.length (d.hs.length+1),.int .i64 d.g] ba fun e cj=>e=.returned (Jbz c bD (-1))∧Ju bk ba cj∧∃ bi:Nat→Prop,Sto bi cj bK (br.d D) (br.ts bP)∧∀ k,bi k→bk k∨ba.heap.size≤k):=fun ba bL bM bJ ca bs dk cG dM dl=>by
  have cY:Zd ba (some ⟨bJ,0,none⟩) (bs.zipWith (fun b r=>(some ⟨b,0,none⟩,List.length r+2)) d.rs) d.rs:=by
   have dY:=cG.len
   refine⟨by rw[Oj8,dY,Nat.min_self],?_,fun i x r cM cY=>?_⟩
   ·refine .inr ⟨bJ,0,rfl,Jd cG.rw,fun i v cc=>?_⟩
    rw[Od0]
    refine Ksd cG.rw ?_
    have e:List.zipWith Je1 (bs.zipWith (fun b r=>(some ⟨b,0,none⟩,List.length r+2)) d.rs) d.rs=Ksx bs d.rs:=by
     apply Oi8
     intro j
     unfold Ksx
     rw[Ok5,Ok5,Ok5]
     cases bs[j]? with
     |none=>rfl
     |some b=>cases d.rs[j]? with
      |none=>rfl
      |some r=>rfl
    rw[e]at cc
    rw[Ob0 (Ob9.1 cc).1]
    exact cc
   rw[Ok5]at cM
   rw[cY]at cM
   cases hb':bs[i]? with
   |none=>rw[hb']at cM;cases cM
   |some b=>
    rw[hb']at cM
    cases cM
    have cc:=(cG.row i b r hb' cY).vals
    rcases cc with cc|⟨g,o,e,dV,cc⟩
    ·simp at cc
    refine .inr ⟨g,o,e,dV,fun j v dJ=>cc j v ?_⟩
    have dX:=(Ob9.1 dJ).1
    rw[Od8,Ob0 dX]
    exact dJ
  have dT:Kct ba d.name (some ⟨bL,0,none⟩) (some ⟨bJ,0,none⟩) (some ⟨bM,0,none⟩) (d.rs.length+1) d.ts d.hs _ d.rs:=
   ⟨M.out.2.1.arg.ln,M.out.2.1.arg.lt,M.out.2.1.arg.lr,M.out.2.1.arg.lrr,M.out.2.1.arg.lh,by omega,Ks3 cG.ty,Ks3 cG.hw,cY⟩
  refine(Qan bk bK D bP d.name _ _ _ (d.ts.length+1) (d.rs.length+1) (d.hs.length+1) d.ts d.hs _ d.rs d.g ba dk dT (fun b o e bG=>?_) (fun _=>dv.out.1) da db dc dt q du pg pl ex ds bz M.out.2.2.2.2 dl (fun k hk=>M.out.2.2.2.1 k (.inl hk))).mono fun e cj ⟨cQ,hk,bi,I,_,Z⟩=>?_
  ·cases e
   have:=M.out.1.x.lt _ bG
   omega
  rw[cU]at cQ I
  exact⟨by rw[cQ,cb.out.1],hk,bi,I,Z⟩
 have dx:Hid (∀ ba:World,RSt bB ba bO D.quota D.fail D.writes P Rs→Below bz.heap.size bz ba→Calls prog 38 #[.pointer (some ⟨bO,0,none⟩),.agg #[.string d.name,.slice d.at_ d.ts.length d.ct,.slice d.ar d.rs.length d.cr],.slice d.ah d.hs.length d.ch,.int .i64 d.g] ba fun e cj=>e=.returned (Jbz c bD (-1))∧Ju bB ba cj∧∃ bC:Nat→Prop,RSt bC cj bO D.quota D.fail Q.k Q.P Q.Rs∧∀ k,bC k→bB k∨ba.heap.size≤k):=fun ba dk dl=>by
  refine(Qcd bB bO D.quota D.fail D.writes P Rs d.name d.at_ d.ar d.ah d.ct d.cr d.ch d.ts d.hs d.xs d.rs d.g ba dk (by have:=M.out.1.ag.few;have:=M.out.1.ag.len;omega) M.out.1.ag.small M.out.1.pos dv.out.2 (M.out.2.1.below dl).arg).mono fun e cj ⟨cQ,hk,bC,I,_,Z⟩=>?_
  rw[←Qbq,cT]at cQ I
  exact⟨by rw[cQ,cb.out.2.1],hk,bC,I,Z⟩
 clear h dA dG dE dD cU cT
 unfold Dx.val
 go_enter func12,ntmps12
 go_upto_region 1 with fail
 obtain⟨W,hW⟩:∃ W,W=w.alloc (.cells #[.string d.name,.slice d.at_ d.ts.length d.ct,.slice d.ar d.rs.length d.cr,.slice d.ah d.hs.length d.ch,.int .i64 d.g] 32):=⟨_,rfl⟩
 rw[←hW]
 have bY:Hid (Below w.heap.size w W∧W.heap.size=w.heap.size+1∧W.heap[w.heap.size]?=some (.cells #[.string d.name,.slice d.at_ d.ts.length d.ct,.slice d.ar d.rs.length d.cr,.slice d.ah d.hs.length d.ch,.int .i64 d.g] 32 (0,0))):=by
  rw[hW]
  exact⟨(Oa5 _ w).alloc (Oa2 _) _,by simp,heap_alloc_new _ _⟩
 clear hW
 have c0:W.cell? ⟨w.heap.size,0,none⟩=some (.string d.name):=by simp[World.cell?,bY.out.2.2]
 have c1:W.cell? ⟨w.heap.size,1,none⟩=some (.slice d.at_ d.ts.length d.ct):=by simp[World.cell?,bY.out.2.2]
 have c2:W.cell? ⟨w.heap.size,2,none⟩=some (.slice d.ar d.rs.length d.cr):=by simp[World.cell?,bY.out.2.2]
 have c3:W.cell? ⟨w.heap.size,3,none⟩=some (.slice d.ah d.hs.length d.ch):=by simp[World.cell?,bY.out.2.2]
 have c4:W.cell? ⟨w.heap.size,4,none⟩=some (.int .i64 d.g):=by simp[World.cell?,bY.out.2.2]
 have dm:=Qaq d W (M.out.2.1.below (Jb M.out.2.2.1 bY.out.1))
 unfold Dx.val at dm
 go_upto_region 2 with(go_at_call 35;refine dm.mono ?_;rintro e cf ⟨cV,bL,bM,bJ,ca,bs,rfl,cS,dM⟩)
 clear dm c0 c1 c2 c3 c4
 obtain⟨L,cP⟩:∃ L,L=cf.alloc (.cells #[.string d.name,.slice (some ⟨bL,0,none⟩) d.ts.length (d.ts.length+1),.slice (some ⟨bJ,0,none⟩) d.rs.length (d.rs.length+1),.slice (some ⟨bM,0,none⟩) d.hs.length (d.hs.length+1),.int .i64 d.g] 32):=⟨_,rfl⟩
 rw[←cP]
 have HZ:Hid (Below w.heap.size w L∧Kvs L d bL bM bJ ca bs∧w.heap.size+1≤bL∧ca<cf.heap.size∧L.heap.size=cf.heap.size+1∧L.heap[cf.heap.size]?=some (.cells #[.string d.name,.slice (some ⟨bL,0,none⟩) d.ts.length (d.ts.length+1),.slice (some ⟨bJ,0,none⟩) d.rs.length (d.rs.length+1),.slice (some ⟨bM,0,none⟩) d.hs.length (d.hs.length+1),.int .i64 d.g] 32 (0,0))∧L.heap[w.heap.size]?=some (.cells #[.string d.name,.slice d.at_ d.ts.length d.ct,.slice d.ar d.rs.length d.cr,.slice d.ah d.hs.length d.ch,.int .i64 d.g] 32 (0,0))∧w.heap.size<cf.heap.size):=by
  have K:=cV.size
  have bV:=bY.out.2.1
  have cW:Below cf.heap.size cf L:=by rw[cP];exact(Oa5 _ _).alloc (Oa2 _) _
  refine⟨Jb bY.out.1 (Jb cV cW),cS.of_block cW.size fun k _ Z=>cW.block k (by have:=cS.ord.2.2.2.1;omega),by omega,cS.ord.2.2.2.1,by rw[cP];simp,by rw[cP];exact heap_alloc_new _ _,?_,by omega⟩
  exact((Jb cV cW).block _ (by omega)).trans bY.out.2.2
 clear cP cV cS dM bY
 obtain⟨bj,dL⟩:∃ bj,bj=cf.heap.size:=⟨_,rfl⟩
 rw[←dL]at HZ ⊢
 clear dL
 have dr:L.cell? ⟨bx,0,none⟩=some (.pointer (some ⟨bK,0,none⟩)):=by
  have fa:=(HZ.out.1.block _ (Jd M.out.1.cells)).trans M.out.1.cells
  simp[World.cell?,fa]
 have c0:L.cell? ⟨bj,0,none⟩=some (.string d.name):=by simp[World.cell?,HZ.out.2.2.2.2.2.1]
 have c1:L.cell? ⟨bj,1,none⟩=some (.slice (some ⟨bL,0,none⟩) d.ts.length (d.ts.length+1)):=by simp[World.cell?,HZ.out.2.2.2.2.2.1]
 have c2:L.cell? ⟨bj,2,none⟩=some (.slice (some ⟨bJ,0,none⟩) d.rs.length (d.rs.length+1)):=by simp[World.cell?,HZ.out.2.2.2.2.2.1]
 have c3:L.cell? ⟨bj,3,none⟩=some (.slice (some ⟨bM,0,none⟩) d.hs.length (d.hs.length+1)):=by simp[World.cell?,HZ.out.2.2.2.2.2.1]
 have c4:L.cell? ⟨bj,4,none⟩=some (.int .i64 d.g):=by simp[World.cell?,HZ.out.2.2.2.2.2.1]
 have X:Hid (bx<w.heap.size∧w.heap.size<bj∧¬ bk bj∧bj<L.heap.size):=⟨Jd M.out.1.cells,HZ.out.2.2.2.2.2.2.2,fun bG=>by have I:=M.out.1.x.lt _ bG;have Z:=HZ.out.2.2.2.2.2.2.2;omega,Jd HZ.out.2.2.2.2.2.1⟩
 have dz:Hid (bx<w.heap.size∧w.heap.size<bj∧¬ bk bj):=⟨X.out.1,X.out.2.1,X.out.2.2.1⟩
 have bH:Hid (bj<L.heap.size∧w.heap.size<L.heap.size∧ca<L.heap.size):=⟨X.out.2.2.2,by have I:=X.out;omega,by have I:=HZ.out;omega⟩
 clear X
 have X:Hid (bx<w.heap.size∧w.heap.size<bj∧¬ bk bj):=dz.out
 clear dz
 have cF:Hid (Sto bk L bK D bP∧Below bz.heap.size bz L):=⟨M.out.1.x.below HZ.out.1,Jb M.out.2.2.1 HZ.out.1⟩
 go_cut [6] from 11 to 21 (fun f cE=>∃ A,f=.pointer (some ⟨A,0,none⟩)∧cE.heap[A]?=some (.cells #[.int .i64 c,.int .i64 (-1),.int .i64 (-1),.int .i64 bD,.int .i64 (-1)] 68 (0,0))∧L.heap.size≤A∧Ju bk L cE∧∃ bi:Nat→Prop,Sto bi cE bK (br.d D) (br.ts bP)∧(∀ k,bi k→bk k∨L.heap.size≤k)∧¬ bi A)
 case first=>
  refine wp_region_held_drew (S:=fun ba=>ba.cell? ⟨bx,0,none⟩=some (.pointer (some ⟨bK,0,none⟩))∧ba.cell? ⟨bj,0,none⟩=some (.string d.name)∧ba.cell? ⟨bj,1,none⟩=some (.slice (some ⟨bL,0,none⟩) d.ts.length (d.ts.length+1))∧ba.cell? ⟨bj,2,none⟩=some (.slice (some ⟨bJ,0,none⟩) d.rs.length (d.rs.length+1))∧ba.cell? ⟨bj,3,none⟩=some (.slice (some ⟨bM,0,none⟩) d.hs.length (d.hs.length+1))∧ba.cell? ⟨bj,4,none⟩=some (.int .i64 d.g)) (by kernel_rfl) ⟨Jh dr,Jh c0,Jh c1,Jh c2,Jh c3,Jh c4⟩ (fun H=>?_)
  refine Kn 0 rfl H ?_
  refine Kn 1 rfl H ?_
  refine Kn 2 rfl H ?_
  refine Kn 3 rfl H ?_
  refine Kn 4 rfl H ?_
  refine Kn 5 rfl H ?_
  refine Kn 6 rfl H ?_
  refine Kn 7 rfl H ?_
  refine Kn 8 rfl H ?_
  refine Kn 9 rfl H ?_
  refine tkn ?_
  refine wpAnyH_ready (rs:=[10,11]) (by kernel_rfl) (by simp) (AllReadyH.cons rfl (fun bn Y=>?_) (AllReadyH.cons rfl (fun bn Y=>?_) AllReadyH.nil))
  ·go_simp
   refine(dw.out L.drew bL bM bJ ca bs (cF.out.1.below (Jj (Oa5 _ _))) (HZ.out.2.1.of_block (Oa2 _) fun k I Z=>rfl) (by have bb:=HZ.out;omega) (Jb cF.out.2 (Jj (Oa5 _ _)))).mono ?_
   rintro e J ⟨rfl,N,bi,bX,bT⟩
   have O:Hid (Ju bk L J∧Sto bi J bK (br.d D) (br.ts bP)∧(∀ k,bi k→bk k∨L.heap.size≤k)):=⟨⟨N.os,N.tape,N.output,N.size,N.block⟩,bX,bT⟩
   clear bX bT
   go_simp
   refine Y.out _ _ ⟨N.cell H.1 M.out.1.np.1,N.cell H.2.1 X.out.2.2,N.cell H.2.2.1 X.out.2.2,N.cell H.2.2.2.1 X.out.2.2,N.cell H.2.2.2.2.1 X.out.2.2,N.cell H.2.2.2.2.2 X.out.2.2⟩ (fun H=>?_)
   clear Y bn N
   refine tkr 11 rfl fun bn Y=>?_
   go_simp
   have bI:Below J.heap.size J (J.alloc Ka):=(Oa5 _ J).alloc (Oa2 _) Ka
   have K:=heap_alloc_new J Ka
   refine Y.out _ _ ⟨Ja bI H.1,Ja bI H.2.1,Ja bI H.2.2.1,Ja bI H.2.2.2.1,Ja bI H.2.2.2.2.1,Ja bI H.2.2.2.2.2⟩ (fun H=>?_)
   clear Y bn
   have cN:Hid (J.heap.size=J.heap.size∧Ju (fun k=>k=J.heap.size) J (J.alloc Ka)):=⟨rfl,Ju.of_below bI⟩
   obtain⟨A,bu⟩:∃ A,A=J.heap.size:=⟨_,rfl⟩
   have bh:Hid (A=J.heap.size∧L.heap.size≤A∧Ju (fun k=>k=A) J (J.alloc Ka)):=⟨bu,by rw[bu];exact O.out.1.size,by rw[bu];exact cN.out.2⟩
   generalize J.alloc Ka=bl at K H bh ⊢
   rw[←bu]at K ⊢
   clear bI cN bu
   have k0:bl.cell? ⟨A,0,none⟩=some (.int .i64 0):=by simp[World.cell?,K]
   have k1:bl.cell? ⟨A,1,none⟩=some (.int .i64 0):=by simp[World.cell?,K]
   have cA:bl.cell? ⟨A,2,none⟩=some (.int .i64 0):=by simp[World.cell?,K]
   have cB:bl.cell? ⟨A,3,none⟩=some (.int .i64 0):=by simp[World.cell?,K]
   have cC:bl.cell? ⟨A,4,none⟩=some (.int .i64 0):=by simp[World.cell?,K]
   have cl:bl.frozen? ⟨A,0,none⟩=false:=by simp[World.frozen?,K]
   have cn:bl.frozen? ⟨A,1,none⟩=false:=by simp[World.frozen?,K]
   have cu:bl.frozen? ⟨A,2,none⟩=false:=by simp[World.frozen?,K]
   have cv:bl.frozen? ⟨A,3,none⟩=false:=by simp[World.frozen?,K]
   have cx:bl.frozen? ⟨A,4,none⟩=false:=by simp[World.frozen?,K]
   have bN:=Jk (Jk (Jk (Jk (Jk K 0 (.int .i64 c)) 1 (.int .i64 (-1))) 2 (.int .i64 (-1))) 3 (.int .i64 bD)) 4 (.int .i64 (-1))
   simp only[Oa1,List.set_cons_zero,List.set_cons_succ]at bN
   have ci:Hid _:=bN
   have U:Hid (Ju (fun k=>k=A) bl (((((bl.setCell ⟨A,0,none⟩ (.int .i64 c)).setCell ⟨A,1,none⟩ (.int .i64 (-1))).setCell ⟨A,2,none⟩ (.int .i64 (-1))).setCell ⟨A,3,none⟩ (.int .i64 bD)).setCell ⟨A,4,none⟩ (.int .i64 (-1)))):=Ksa _ _ _ _ _ _ _
   clear K bN
   refine tkr 12 rfl fun bn Y=>?_
   go_simp
   refine Y.out _ _ ⟨U.out.cell H.1 (by have I:=bh.out;have Z:=O.out.1.size;have bb:=X.out;have bU:=bH.out;omega),U.out.cell H.2.1 (by have I:=bh.out;have Z:=O.out.1.size;have bb:=X.out;have bU:=bH.out;omega),U.out.cell H.2.2.1 (by have I:=bh.out;have Z:=O.out.1.size;have bb:=X.out;have bU:=bH.out;omega),U.out.cell H.2.2.2.1 (by have I:=bh.out;have Z:=O.out.1.size;have bb:=X.out;have bU:=bH.out;omega),U.out.cell H.2.2.2.2.1 (by have I:=bh.out;have Z:=O.out.1.size;have bb:=X.out;have bU:=bH.out;omega),U.out.cell H.2.2.2.2.2 (by have I:=bh.out;have Z:=O.out.1.size;have bb:=X.out;have bU:=bH.out;omega)⟩ (fun _=>?_)
   clear Y bn k0 k1 cA cB cC cl cn cu cv cx H
   refine wpAnyH_done (by kernel_rfl) ?_ _
   go_wp2_with fail
   go_meet
   case rel=>exact⟨A,rfl,ci.out,bh.out.2.1,Ks6 O.out.1 (bh.out.2.2.trans U.out) bh.out.2.1,bi,O.out.2.1.stands (bh.out.2.2.trans U.out).size (fun k hk=>(bh.out.2.2.trans U.out).block k (O.out.2.1.lt k hk) fun e=>((fun e=>by have I:=O.out.2.1.lt _ e;have Z:=bh.out.1;omega)) (e▸hk)),O.out.2.2,(fun e=>by have I:=O.out.2.1.lt _ e;have Z:=bh.out.1;omega)⟩
  go_simp
  have bE:Below L.heap.size L (L.alloc Ka).drew:=Jj ((Oa5 _ L).alloc (Oa2 _) Ka)
  have bV:(L.alloc Ka).drew.heap[L.heap.size]?=some Ka:=heap_alloc_new L Ka
  have cz:(L.alloc Ka).drew.heap.size=L.heap.size+1:=Oa7 L Ka
  refine Y.out _ _ ⟨Ja bE dr,Ja bE c0,Ja bE c1,Ja bE c2,Ja bE c3,Ja bE c4⟩ (fun H=>?_)
  clear Y bn
  generalize (L.alloc Ka).drew=ck at bV cz H bE ⊢
  obtain⟨A,bu⟩:∃ A,A=L.heap.size:=⟨_,rfl⟩
  rw[←bu]at bV ⊢
  have bc:Hid (Below L.heap.size L ck∧ck.heap.size=L.heap.size+1∧A=L.heap.size):=⟨bE,cz,bu⟩
  clear bu cz bE
  refine tkr 10 rfl fun bn Y=>?_
  go_simp
  refine(dw.out ck bL bM bJ ca bs (cF.out.1.below bc.out.1) (HZ.out.2.1.of_block (bc.out.1).size fun k I Z=>(bc.out.1).block k (by have bb:=HZ.out;omega)) (by have bb:=HZ.out;omega) (Jb cF.out.2 bc.out.1)).mono ?_
  rintro e J ⟨rfl,N,bi,bX,bT⟩
  go_simp
  have cD:¬ bk A:=fun bG=>by have I:=M.out.1.x.lt _ bG;have Z:=bc.out.2.2;have bb:=HZ.out.1.size;omega
  have K:=(N.block _ (Jd bV) cD).trans bV
  have O:Hid (Ju bk L J∧Sto bi J bK (br.d D) (br.ts bP)∧(∀ k,bi k→bk k∨L.heap.size≤k)∧¬ bi A):=⟨(Ju.of_below bc.out.1).trans N,bX,fun k hk=>(bT k hk).imp_right fun a=>by have I:=bc.out.2.1;omega,fun e=>(bT _ e).elim cD fun a=>by have I:=bc.out.2;omega⟩
  refine Y.out _ _ ⟨N.cell H.1 M.out.1.np.1,N.cell H.2.1 X.out.2.2,N.cell H.2.2.1 X.out.2.2,N.cell H.2.2.2.1 X.out.2.2,N.cell H.2.2.2.2.1 X.out.2.2,N.cell H.2.2.2.2.2 X.out.2.2⟩ (fun H=>?_)
  clear Y bn N bV cD bX bT
  have k0:J.cell? ⟨A,0,none⟩=some (.int .i64 0):=by simp[World.cell?,K]
  have k1:J.cell? ⟨A,1,none⟩=some (.int .i64 0):=by simp[World.cell?,K]
  have cA:J.cell? ⟨A,2,none⟩=some (.int .i64 0):=by simp[World.cell?,K]
  have cB:J.cell? ⟨A,3,none⟩=some (.int .i64 0):=by simp[World.cell?,K]
  have cC:J.cell? ⟨A,4,none⟩=some (.int .i64 0):=by simp[World.cell?,K]
  have cl:J.frozen? ⟨A,0,none⟩=false:=by simp[World.frozen?,K]
  have cn:J.frozen? ⟨A,1,none⟩=false:=by simp[World.frozen?,K]
  have cu:J.frozen? ⟨A,2,none⟩=false:=by simp[World.frozen?,K]
  have cv:J.frozen? ⟨A,3,none⟩=false:=by simp[World.frozen?,K]
  have cx:J.frozen? ⟨A,4,none⟩=false:=by simp[World.frozen?,K]
  have bN:=Jk (Jk (Jk (Jk (Jk K 0 (.int .i64 c)) 1 (.int .i64 (-1))) 2 (.int .i64 (-1))) 3 (.int .i64 bD)) 4 (.int .i64 (-1))
  simp only[Oa1,List.set_cons_zero,List.set_cons_succ]at bN
  have ci:Hid _:=bN
  have U:Hid (Ju (fun k=>k=A) J (((((J.setCell ⟨A,0,none⟩ (.int .i64 c)).setCell ⟨A,1,none⟩ (.int .i64 (-1))).setCell ⟨A,2,none⟩ (.int .i64 (-1))).setCell ⟨A,3,none⟩ (.int .i64 bD)).setCell ⟨A,4,none⟩ (.int .i64 (-1)))):=Ksa _ _ _ _ _ _ _
  clear K bN
  refine tkr 12 rfl fun bn Y=>?_
  go_simp
  refine Y.out _ _ ⟨U.out.cell H.1 (by have I:=bc.out;have bb:=X.out;have bU:=bH.out;omega),U.out.cell H.2.1 (by have I:=bc.out;have bb:=X.out;have bU:=bH.out;omega),U.out.cell H.2.2.1 (by have I:=bc.out;have bb:=X.out;have bU:=bH.out;omega),U.out.cell H.2.2.2.1 (by have I:=bc.out;have bb:=X.out;have bU:=bH.out;omega),U.out.cell H.2.2.2.2.1 (by have I:=bc.out;have bb:=X.out;have bU:=bH.out;omega),U.out.cell H.2.2.2.2.2 (by have I:=bc.out;have bb:=X.out;have bU:=bH.out;omega)⟩ (fun _=>?_)
  clear Y bn k0 k1 cA cB cC cl cn cu cv cx H
  refine wpAnyH_done (by kernel_rfl) ?_ _
  go_wp2_with fail
  go_meet
  case rel=>exact⟨A,rfl,ci.out,(by have I:=bc.out.2.2;omega),Ks6 O.out.1 U.out (by have I:=bc.out.2.2;omega),bi,O.out.2.1.stands U.out.size (fun k hk=>U.out.block k (O.out.2.1.lt k hk) fun e=>(O.out.2.2.2) (e▸hk)),O.out.2.2.1,O.out.2.2.2⟩
 case rest=>
  obtain⟨A,rfl,bu,dH,bR,bi,cR,dC,dK⟩:=hcut
  have bA:Hid (wc.heap[A]?=some (.cells #[.int .i64 c,.int .i64 (-1),.int .i64 (-1),.int .i64 bD,.int .i64 (-1)] 68 (0,0))∧L.heap.size≤A∧Ju bk L wc∧Sto bi wc bK (br.d D) (br.ts bP)∧(∀ k,bi k→bk k∨L.heap.size≤k)∧¬ bi A∧Below bz.heap.size bz wc):=⟨bu,dH,bR,cR,dC,dK,cF.out.2.trans (bR.below (fun k hk bG=>by have I:=M.out.2.2.2.1 k (.inl bG);omega) cF.out.2.size)⟩
  have cL:=(bR.block bj bH.out.1 X.out.2.2).trans HZ.out.2.2.2.2.2.1
  have cy:=(bR.block w.heap.size bH.out.2.1 fun bG=>by have I:=M.out.1.x.lt _ bG;omega).trans HZ.out.2.2.2.2.2.2.1
  have dy:Hid (Kvs wc d bL bM bJ ca bs):=HZ.out.2.1.of_block bR.size fun k I Z=>bR.block k (by have bb:=bH.out;omega) fun bG=>by have bb:=M.out.1.x.lt _ bG;have bU:=HZ.out.2.2.1;omega
  clear bu dH bR cR dC dK dr c0 c1 c2 c3 c4
  have c0:wc.cell? ⟨w.heap.size,0,none⟩=some (.string d.name):=by simp[World.cell?,cy]
  have c1:wc.cell? ⟨w.heap.size,1,none⟩=some (.slice d.at_ d.ts.length d.ct):=by simp[World.cell?,cy]
  have c2:wc.cell? ⟨w.heap.size,2,none⟩=some (.slice d.ar d.rs.length d.cr):=by simp[World.cell?,cy]
  have c3:wc.cell? ⟨w.heap.size,3,none⟩=some (.slice d.ah d.hs.length d.ch):=by simp[World.cell?,cy]
  have c4:wc.cell? ⟨w.heap.size,4,none⟩=some (.int .i64 d.g):=by simp[World.cell?,cy]
  have o0:wc.cell? ⟨bj,0,none⟩=some (.string d.name):=by simp[World.cell?,cL]
  have o1:wc.cell? ⟨bj,1,none⟩=some (.slice (some ⟨bL,0,none⟩) d.ts.length (d.ts.length+1)):=by simp[World.cell?,cL]
  have o2:wc.cell? ⟨bj,2,none⟩=some (.slice (some ⟨bJ,0,none⟩) d.rs.length (d.rs.length+1)):=by simp[World.cell?,cL]
  have o3:wc.cell? ⟨bj,3,none⟩=some (.slice (some ⟨bM,0,none⟩) d.hs.length (d.hs.length+1)):=by simp[World.cell?,cL]
  have ff:wc.cell? ⟨bj,4,none⟩=some (.int .i64 d.g):=by simp[World.cell?,cL]
  have dq:=Kzh d bL bM bJ ca bs wc bz dy.out M.out.2.1 bA.out.2.2.2.2.2.2 (by have I:=HZ.out.2.2.1;have Z:=M.out.2.2.1.size;omega)
  unfold Dx.val at dq
  go_upto_region 4 with(go_at_call 37;refine dq.mono ?_;rintro e R ⟨rfl,bQ⟩)
  clear dq c0 c1 c2 c3 c4 o0 o1 o2 o3 ff
  have fe:=HZ.out
  have fd:=bH.out
  have fc:=bA.out.2.2.1.size
  have bf:Hid (RSt bB R bO D.quota D.fail D.writes P Rs∧Below bz.heap.size bz R∧w.heap.size<R.heap.size∧bx<w.heap.size∧¬ bB w.heap.size):=by
   have dN:=bQ.size
   refine⟨M.out.1.y.stands (by omega) fun k hk=>?_,bA.out.2.2.2.2.2.2.trans (bQ.below (fun k hk cK=>by have I:=M.out.2.2.1.size;omega) bA.out.2.2.2.2.2.2.size),by omega,X.out.1,fun bS=>by have I:=M.out.1.y.lt _ bS;omega⟩
   have I:=M.out.1.y.lt k hk
   rw[bQ.block k (by omega) fun cK=>by omega,bA.out.2.2.1.block k (by omega) fun bG=>M.out.1.apart k bG hk,HZ.out.1.block k I]
  have bW:Hid (R.heap[A]?=some (.cells #[.int .i64 c,.int .i64 (-1),.int .i64 (-1),.int .i64 bD,.int .i64 (-1)] 68 (0,0))∧Sto bi R bK (br.d D) (br.ts bP)∧L.heap.size≤A∧A<R.heap.size∧(∀ k,bi k→bk k∨L.heap.size≤k)∧(∀ k,bi k→k<R.heap.size)∧L.heap.size≤R.heap.size∧¬ bi A):=by
   have dU:=Jd bA.out.1
   have dN:=bQ.size
   have Z:=bA.out.2.1
   refine⟨(bQ.block A dU fun cK=>by omega).trans bA.out.1,bA.out.2.2.2.1.stands dN fun k hk=>bQ.block k (bA.out.2.2.2.1.lt k hk) fun cK=>?_,Z,by omega,bA.out.2.2.2.2.1,fun k hk=>by have dS:=bA.out.2.2.2.1.lt k hk;omega,by omega,bA.out.2.2.2.2.2.1⟩
   rcases bA.out.2.2.2.2.1 k hk with a|a
   ·have dS:=M.out.1.x.lt k a;omega
   omega
  have dp:=(bQ.block bx (by have I:=X.out;omega) fun cK=>by have I:=X.out;omega).trans ((bA.out.2.2.1.block bx (by have I:=X.out;omega) M.out.1.np.1).trans ((HZ.out.1.block bx X.out.1).trans M.out.1.cells))
  have cH:=(bQ.block w.heap.size (by omega) fun cK=>by omega).trans cy
  have dQ:Hid (Ju (fun k=>bk k∨bB k) w R):=by
   have I:=HZ.out.1.size
   have Z:=HZ.out.2.2.1
   have bb:=bA.out.2.2.1.size
   refine⟨?_,?_,?_,by have:=bQ.size;omega,fun k hk bS=>?_⟩
   ·rw[bQ.os,bA.out.2.2.1.os,HZ.out.1.os]
   ·rw[bQ.tape,bA.out.2.2.1.tape,HZ.out.1.tape]
   ·rw[bQ.output,bA.out.2.2.1.output,HZ.out.1.output]
   rw[bQ.block k (by omega) fun cK=>by omega,bA.out.2.2.1.block k (by omega) fun bG=>bS (.inl bG),HZ.out.1.block k hk]
  have dR:Hid (R.heap[bx]?=some (.cells #[.pointer (some ⟨bK,0,none⟩),.pointer (some ⟨bO,0,none⟩)] 64 (0,0))):=dp
  have dO:R.cell? ⟨bx,1,none⟩=some (.pointer (some ⟨bO,0,none⟩)):=by simp[World.cell?,dp]
  have c0:R.cell? ⟨w.heap.size,0,none⟩=some (.string d.name):=by simp[World.cell?,cH]
  have c1:R.cell? ⟨w.heap.size,1,none⟩=some (.slice d.at_ d.ts.length d.ct):=by simp[World.cell?,cH]
  have c2:R.cell? ⟨w.heap.size,2,none⟩=some (.slice d.ar d.rs.length d.cr):=by simp[World.cell?,cH]
  have c3:R.cell? ⟨w.heap.size,3,none⟩=some (.slice d.ah d.hs.length d.ch):=by simp[World.cell?,cH]
  have c4:R.cell? ⟨w.heap.size,4,none⟩=some (.int .i64 d.g):=by simp[World.cell?,cH]
  clear bQ fe fd fc cy cL dp cH dy
  go_cut [8] from 25 to 35 (fun f cE=>∃ bZ,f=.pointer (some ⟨bZ,0,none⟩)∧cE.heap[bZ]?=some (.cells #[.int .i64 c,.int .i64 (-1),.int .i64 (-1),.int .i64 bD,.int .i64 (-1)] 68 (0,0))∧R.heap.size≤bZ∧Ju bB R cE∧∃ bC:Nat→Prop,RSt bC cE bO D.quota D.fail Q.k Q.P Q.Rs∧(∀ k,bC k→bB k∨R.heap.size≤k)∧¬ bC bZ)
  case first=>
   refine wp_region_held_drew (S:=fun ba=>ba.cell? ⟨bx,1,none⟩=some (.pointer (some ⟨bO,0,none⟩))∧ba.cell? ⟨w.heap.size,0,none⟩=some (.string d.name)∧ba.cell? ⟨w.heap.size,1,none⟩=some (.slice d.at_ d.ts.length d.ct)∧ba.cell? ⟨w.heap.size,2,none⟩=some (.slice d.ar d.rs.length d.cr)∧ba.cell? ⟨w.heap.size,3,none⟩=some (.slice d.ah d.hs.length d.ch)∧ba.cell? ⟨w.heap.size,4,none⟩=some (.int .i64 d.g)) (by kernel_rfl) ⟨Jh dO,Jh c0,Jh c1,Jh c2,Jh c3,Jh c4⟩ (fun H=>?_)
   refine Kn 0 rfl H ?_
   refine Kn 1 rfl H ?_
   refine Kn 2 rfl H ?_
   refine Kn 3 rfl H ?_
   refine Kn 4 rfl H ?_
   refine Kn 5 rfl H ?_
   refine Kn 6 rfl H ?_
   refine Kn 7 rfl H ?_
   refine Kn 8 rfl H ?_
   refine Kn 9 rfl H ?_
   refine tkn ?_
   refine wpAnyH_ready (rs:=[10,11]) (by kernel_rfl) (by simp) (AllReadyH.cons rfl (fun bn Y=>?_) (AllReadyH.cons rfl (fun bn Y=>?_) AllReadyH.nil))
   ·go_simp
    refine(dx.out R.drew (bf.out.1.below (Jj (Oa5 _ _))) (Jb bf.out.2.1 (Jj (Oa5 _ _)))).mono ?_
    rintro e J ⟨rfl,N,bC,bX,bT⟩
    have O:Hid (Ju bB R J∧RSt bC J bO D.quota D.fail Q.k Q.P Q.Rs∧(∀ k,bC k→bB k∨R.heap.size≤k)):=⟨⟨N.os,N.tape,N.output,N.size,N.block⟩,bX,bT⟩
    clear bX bT
    go_simp
    refine Y.out _ _ ⟨N.cell H.1 M.out.1.np.2,N.cell H.2.1 bf.out.2.2.2.2,N.cell H.2.2.1 bf.out.2.2.2.2,N.cell H.2.2.2.1 bf.out.2.2.2.2,N.cell H.2.2.2.2.1 bf.out.2.2.2.2,N.cell H.2.2.2.2.2 bf.out.2.2.2.2⟩ (fun H=>?_)
    clear Y bn N
    refine tkr 11 rfl fun bn Y=>?_
    go_simp
    have bI:Below J.heap.size J (J.alloc Ka):=(Oa5 _ J).alloc (Oa2 _) Ka
    have K:=heap_alloc_new J Ka
    refine Y.out _ _ ⟨Ja bI H.1,Ja bI H.2.1,Ja bI H.2.2.1,Ja bI H.2.2.2.1,Ja bI H.2.2.2.2.1,Ja bI H.2.2.2.2.2⟩ (fun H=>?_)
    clear Y bn
    have cN:Hid (J.heap.size=J.heap.size∧Ju (fun k=>k=J.heap.size) J (J.alloc Ka)):=⟨rfl,Ju.of_below bI⟩
    obtain⟨A,bu⟩:∃ A,A=J.heap.size:=⟨_,rfl⟩
    have bh:Hid (A=J.heap.size∧R.heap.size≤A∧Ju (fun k=>k=A) J (J.alloc Ka)):=⟨bu,by rw[bu];exact O.out.1.size,by rw[bu];exact cN.out.2⟩
    generalize J.alloc Ka=bl at K H bh ⊢
    rw[←bu]at K ⊢
    clear bI cN bu
    have k0:bl.cell? ⟨A,0,none⟩=some (.int .i64 0):=by simp[World.cell?,K]
    have k1:bl.cell? ⟨A,1,none⟩=some (.int .i64 0):=by simp[World.cell?,K]
    have cA:bl.cell? ⟨A,2,none⟩=some (.int .i64 0):=by simp[World.cell?,K]
    have cB:bl.cell? ⟨A,3,none⟩=some (.int .i64 0):=by simp[World.cell?,K]
    have cC:bl.cell? ⟨A,4,none⟩=some (.int .i64 0):=by simp[World.cell?,K]
    have cl:bl.frozen? ⟨A,0,none⟩=false:=by simp[World.frozen?,K]
    have cn:bl.frozen? ⟨A,1,none⟩=false:=by simp[World.frozen?,K]
    have cu:bl.frozen? ⟨A,2,none⟩=false:=by simp[World.frozen?,K]
    have cv:bl.frozen? ⟨A,3,none⟩=false:=by simp[World.frozen?,K]
    have cx:bl.frozen? ⟨A,4,none⟩=false:=by simp[World.frozen?,K]
    have bN:=Jk (Jk (Jk (Jk (Jk K 0 (.int .i64 c)) 1 (.int .i64 (-1))) 2 (.int .i64 (-1))) 3 (.int .i64 bD)) 4 (.int .i64 (-1))
    simp only[Oa1,List.set_cons_zero,List.set_cons_succ]at bN
    have ci:Hid _:=bN
    have U:Hid (Ju (fun k=>k=A) bl (((((bl.setCell ⟨A,0,none⟩ (.int .i64 c)).setCell ⟨A,1,none⟩ (.int .i64 (-1))).setCell ⟨A,2,none⟩ (.int .i64 (-1))).setCell ⟨A,3,none⟩ (.int .i64 bD)).setCell ⟨A,4,none⟩ (.int .i64 (-1)))):=Ksa _ _ _ _ _ _ _
    clear K bN
    refine tkr 12 rfl fun bn Y=>?_
    go_simp
    refine Y.out _ _ ⟨U.out.cell H.1 (by have I:=bh.out;have Z:=O.out.1.size;have bb:=bf.out;omega),U.out.cell H.2.1 (by have I:=bh.out;have Z:=O.out.1.size;have bb:=bf.out;omega),U.out.cell H.2.2.1 (by have I:=bh.out;have Z:=O.out.1.size;have bb:=bf.out;omega),U.out.cell H.2.2.2.1 (by have I:=bh.out;have Z:=O.out.1.size;have bb:=bf.out;omega),U.out.cell H.2.2.2.2.1 (by have I:=bh.out;have Z:=O.out.1.size;have bb:=bf.out;omega),U.out.cell H.2.2.2.2.2 (by have I:=bh.out;have Z:=O.out.1.size;have bb:=bf.out;omega)⟩ (fun _=>?_)
    clear Y bn k0 k1 cA cB cC cl cn cu cv cx H
    refine wpAnyH_done (by kernel_rfl) ?_ _
    go_wp2_with fail
    go_meet
    case rel=>exact⟨A,rfl,ci.out,bh.out.2.1,Ks6 O.out.1 (bh.out.2.2.trans U.out) bh.out.2.1,bC,O.out.2.1.stands (bh.out.2.2.trans U.out).size (fun k hk=>(bh.out.2.2.trans U.out).block k (O.out.2.1.lt k hk) fun e=>((fun e=>by have I:=O.out.2.1.lt _ e;have Z:=bh.out.1;omega)) (e▸hk)),O.out.2.2,(fun e=>by have I:=O.out.2.1.lt _ e;have Z:=bh.out.1;omega)⟩
   go_simp
   have bE:Below R.heap.size R (R.alloc Ka).drew:=Jj ((Oa5 _ R).alloc (Oa2 _) Ka)
   have bV:(R.alloc Ka).drew.heap[R.heap.size]?=some Ka:=heap_alloc_new R Ka
   have cz:(R.alloc Ka).drew.heap.size=R.heap.size+1:=Oa7 R Ka
   refine Y.out _ _ ⟨Ja bE dO,Ja bE c0,Ja bE c1,Ja bE c2,Ja bE c3,Ja bE c4⟩ (fun H=>?_)
   clear Y bn
   generalize (R.alloc Ka).drew=ck at bV cz H bE ⊢
   obtain⟨A,bu⟩:∃ A,A=R.heap.size:=⟨_,rfl⟩
   rw[←bu]at bV ⊢
   have bc:Hid (Below R.heap.size R ck∧ck.heap.size=R.heap.size+1∧A=R.heap.size):=⟨bE,cz,bu⟩
   clear bu cz bE
   refine tkr 10 rfl fun bn Y=>?_
   go_simp
   refine(dx.out ck (bf.out.1.below bc.out.1) (Jb bf.out.2.1 bc.out.1)).mono ?_
   rintro e J ⟨rfl,N,bC,bX,bT⟩
   go_simp
   have cD:¬ bB A:=fun bG=>by have I:=M.out.1.y.lt _ bG;have Z:=bc.out.2.2;have bb:=bf.out.2.2.1;omega
   have K:=(N.block _ (Jd bV) cD).trans bV
   have O:Hid (Ju bB R J∧RSt bC J bO D.quota D.fail Q.k Q.P Q.Rs∧(∀ k,bC k→bB k∨R.heap.size≤k)∧¬ bC A):=⟨(Ju.of_below bc.out.1).trans N,bX,fun k hk=>(bT k hk).imp_right fun a=>by have I:=bc.out.2.1;omega,fun e=>(bT _ e).elim cD fun a=>by have I:=bc.out.2;omega⟩
   refine Y.out _ _ ⟨N.cell H.1 M.out.1.np.2,N.cell H.2.1 bf.out.2.2.2.2,N.cell H.2.2.1 bf.out.2.2.2.2,N.cell H.2.2.2.1 bf.out.2.2.2.2,N.cell H.2.2.2.2.1 bf.out.2.2.2.2,N.cell H.2.2.2.2.2 bf.out.2.2.2.2⟩ (fun H=>?_)
   clear Y bn N bV cD bX bT
   have k0:J.cell? ⟨A,0,none⟩=some (.int .i64 0):=by simp[World.cell?,K]
   have k1:J.cell? ⟨A,1,none⟩=some (.int .i64 0):=by simp[World.cell?,K]
   have cA:J.cell? ⟨A,2,none⟩=some (.int .i64 0):=by simp[World.cell?,K]
   have cB:J.cell? ⟨A,3,none⟩=some (.int .i64 0):=by simp[World.cell?,K]
   have cC:J.cell? ⟨A,4,none⟩=some (.int .i64 0):=by simp[World.cell?,K]
   have cl:J.frozen? ⟨A,0,none⟩=false:=by simp[World.frozen?,K]
   have cn:J.frozen? ⟨A,1,none⟩=false:=by simp[World.frozen?,K]
   have cu:J.frozen? ⟨A,2,none⟩=false:=by simp[World.frozen?,K]
   have cv:J.frozen? ⟨A,3,none⟩=false:=by simp[World.frozen?,K]
   have cx:J.frozen? ⟨A,4,none⟩=false:=by simp[World.frozen?,K]
   have bN:=Jk (Jk (Jk (Jk (Jk K 0 (.int .i64 c)) 1 (.int .i64 (-1))) 2 (.int .i64 (-1))) 3 (.int .i64 bD)) 4 (.int .i64 (-1))
   simp only[Oa1,List.set_cons_zero,List.set_cons_succ]at bN
   have ci:Hid _:=bN
   have U:Hid (Ju (fun k=>k=A) J (((((J.setCell ⟨A,0,none⟩ (.int .i64 c)).setCell ⟨A,1,none⟩ (.int .i64 (-1))).setCell ⟨A,2,none⟩ (.int .i64 (-1))).setCell ⟨A,3,none⟩ (.int .i64 bD)).setCell ⟨A,4,none⟩ (.int .i64 (-1)))):=Ksa _ _ _ _ _ _ _
   clear K bN
   refine tkr 12 rfl fun bn Y=>?_
   go_simp
   refine Y.out _ _ ⟨U.out.cell H.1 (by have I:=bc.out;have bb:=bf.out;omega),U.out.cell H.2.1 (by have I:=bc.out;have bb:=bf.out;omega),U.out.cell H.2.2.1 (by have I:=bc.out;have bb:=bf.out;omega),U.out.cell H.2.2.2.1 (by have I:=bc.out;have bb:=bf.out;omega),U.out.cell H.2.2.2.2.1 (by have I:=bc.out;have bb:=bf.out;omega),U.out.cell H.2.2.2.2.2 (by have I:=bc.out;have bb:=bf.out;omega)⟩ (fun _=>?_)
   clear Y bn k0 k1 cA cB cC cl cn cu cv cx H
   refine wpAnyH_done (by kernel_rfl) ?_ _
   go_wp2_with fail
   go_meet
   case rel=>exact⟨A,rfl,ci.out,(by have I:=bc.out.2.2;omega),Ks6 O.out.1 U.out (by have I:=bc.out.2.2;omega),bC,O.out.2.1.stands U.out.size (fun k hk=>U.out.block k (O.out.2.1.lt k hk) fun e=>(O.out.2.2.2) (e▸hk)),O.out.2.2.1,O.out.2.2.2⟩
  case rest=>
   obtain⟨bZ,rfl,cJ,dW,bR,bC,cR,cO,dZ⟩:=hcut
   have cI:=(bR.block A bW.out.2.2.2.1 fun bS=>by have I:=M.out.1.y.lt _ bS;have Z:=bW.out.2.2.1;have bb:=bH.out;omega).trans bW.out.1
   have u0:wc.cell? ⟨A,0,none⟩=some (.int .i64 c):=by simp[World.cell?,cI]
   have u1:wc.cell? ⟨A,1,none⟩=some (.int .i64 (-1)):=by simp[World.cell?,cI]
   have u2:wc.cell? ⟨A,2,none⟩=some (.int .i64 (-1)):=by simp[World.cell?,cI]
   have u3:wc.cell? ⟨A,3,none⟩=some (.int .i64 bD):=by simp[World.cell?,cI]
   have u4:wc.cell? ⟨A,4,none⟩=some (.int .i64 (-1)):=by simp[World.cell?,cI]
   have fk:wc.cell? ⟨bZ,0,none⟩=some (.int .i64 c):=by simp[World.cell?,cJ]
   have fl:wc.cell? ⟨bZ,1,none⟩=some (.int .i64 (-1)):=by simp[World.cell?,cJ]
   have fm:wc.cell? ⟨bZ,2,none⟩=some (.int .i64 (-1)):=by simp[World.cell?,cJ]
   have fn:wc.cell? ⟨bZ,3,none⟩=some (.int .i64 bD):=by simp[World.cell?,cJ]
   have fo:wc.cell? ⟨bZ,4,none⟩=some (.int .i64 (-1)):=by simp[World.cell?,cJ]
   have fi:=Ktl c (-1) (-1) bD (-1)
   have dP:Hid (Kuh w bx bK bO bk bB D.writes wc):=by
    have fj:=M.out.2.2.1.size
    have fh:=HZ.out.1.size
    refine⟨dQ.out.trans (bR.mono fun k _ hk=>.inr hk),bi,bC,br.d D,br.ts bP,Q.P,Q.Rs,⟨(bR.block bx (by have I:=bf.out;omega) M.out.1.np.2).trans dR.out,bW.out.2.1.stands bR.size fun k hk=>bR.block k (bW.out.2.2.2.2.2.1 k hk) fun bS=>?_,by rw[cb.out.2.2.2.1,cb.out.2.2.2.2.1,cb.out.2.2.1];exact cR,fun k hk bS=>?_,⟨fun bG=>?_,fun bS=>?_⟩,cb.out.2.2.2.2.2.1,by rw[cb.out.2.2.1];exact cb.out.2.2.2.2.2.2.2⟩,fun k hk=>?_,cb.out.2.2.2.2.2.2.1⟩
    ·rcases bW.out.2.2.2.2.1 k hk with a|a
     ·exact M.out.1.apart k a bS
     have I:=M.out.1.y.lt k bS;omega
    ·rcases bW.out.2.2.2.2.1 k hk with a|a
     ·rcases cO k bS with b|b
      ·exact M.out.1.apart k a b
      have I:=M.out.1.x.lt k a;have Z:=bW.out.2.2.2.2.2.2.1;omega
     rcases cO k bS with b|b
     ·have I:=M.out.1.y.lt k b;omega
     have I:=bW.out.2.2.2.2.2.1 k hk;omega
    ·rcases bW.out.2.2.2.2.1 bx bG with a|a
     ·exact M.out.1.np.1 a
     have I:=X.out;omega
    ·rcases cO bx bS with a|a
     ·exact M.out.1.np.2 a
     have I:=bf.out;omega
    rcases hk with a|a
    ·rcases bW.out.2.2.2.2.1 k a with b|b
     ·exact .inl b
     exact .inr (.inr (by omega))
    rcases cO k a with b|b
    ·exact .inr (.inl b)
    exact .inr (.inr (by have I:=bf.out;omega))
   clear cJ dW bR cR cO dZ cI
   go_wp2
   go_ret
   exact⟨rfl,dP.out⟩
end Go.Proofs.YtcaocabmioafcaaGreatDoor
