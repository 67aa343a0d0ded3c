/- Run of a Sort on any disk: the rows in order, or the disk's error at its node. -/
import Derived.Test.YtnlnlamdilifcaaGreatDoorPo
set_option maxRecDepth 100000
namespace Go.Proofs.YtnlnlamdilifcaaGreatDoor
section
open Go.RowKit Go.Shelf
end
open Go.RowKit Go.Shelf Tryz
theorem Kyn {w0 y a0 a1 a2 M q wr pg pl ex ta O Z U Y}(I:Jax w0 a0 a1 a2 M q wr pg pl ex ta)(bk:Jig w0 [ex,pl,a0,a1,a2,M,q,wr,pg] O Z U Y)(hb:Bq w0 y){v}{j:Int}{p eb:Nat}(bh:Yu y v pg (some (-1)) (some (p:Int)))(bj:y.heap[eb]?=some (.cells #[Iq j,v] 133 (0,0))):
  Cq 29 #[Sz,Ip 131 eb] y fun e w'=>e=.returned (.tuple #[Sz,Ko 7 j (-1) (-1) (p:Int)])/\Bq y w':=by
 have bf:=bh.errV.plan bj;have H:=I.m.nd;simp only[Og0,Of1,Oi0,or_false,not_or]at H;have bi:Jby a1 a2 M q wr pg pl ex O Z U Y pg=7:=by
  unfold Jby;simp[Ne.symm H.2.1.2.2.2.2,Ne.symm H.2.2.1.2.2.2,Ne.symm H.2.2.2.1.2.2,Ne.symm H.2.2.2.2.1.2,Ne.symm H.2.2.2.2.2.1]
 refine Jhu _ _ _ _ _ _ _ y ⟨_,_,rfl⟩ fun W hW=>?_;have K:=Jb hb hW;have:=Jic _ _ (some j) none (some (-1)) (some (p:Int)) none none W (bf.below hW) (Kg hW (Kg hb I.m.bp)) a0 a1 a2 M q wr pg pl ex O Z U Y (I.e.below K) (I.m.below K) (I.m2.below K) (bk.below K);rw[bi]at this;exact this
def Qd0 (tab:Cs⊕Nat)(ts:List Int)(e:Ending)(w':World)(y:Nat):Prop:=
 (∃ cs g bs R,tab=.inl cs/\e=.returned (.tuple #[Sq g R.length R.length,Ko 0 (-1) (-1) (-1) (-1)])/\Jcu w' y g bs R/\R.length=nR cs/\∀ r∈R,Jee ts r) \/
 ∃ p:Nat,tab=.inr p/\e=.returned (.tuple #[Sz,Ko 7 0 (-1) (-1) (p:Int)])
theorem Qcd K(st:Nat)E Ts ts w(h:Sto K w st E Ts)(bL:∀ T∈Ts,Jid E T)(cC:Jhd Ts Kr1=ts)(bY:Ub Ts Kr1<Ts.length)(M:∀ cs,Ye E Ts Kr1=.inl cs->Zt ts cs/\nR cs<=200)(br:ts.length<=6)(bM:∀ x,x<ts.length->1<=ts.getD x 0/\ts.getD x 0<=3)(hq:E.quota=1048576)(bX:E.fail=0)a0 a1 a2 bO q wr pg pl ex ta w0(bx:Jax w0 a0 a1 a2 bO q wr pg pl ex ta)(bG:Bq w0 w)(bE:∀ k,K k->w0.heap.size<=k)(c:Nat)dn(bH:c<ts.length)(nb kb:Nat)(cx:w.heap[nb]?=some (.cells ((Kus kb).flatMap ndC).toArray 54 (0,0)))(bI:w.heap[kb]?=some (.cells #[Iq (c:Int),iZ,.bool dn,iZ] 57 (0,0)))(ci:¬ K kb)(z bu:Nat)(bl sd:Int)(cE:1<=z)(cF:z<=1000)(bA:2<=bu)(cZ:bu<=31)(cn:0<=bl)(cv:bl<=4096)(cB:Jg sd)(B:Nat)(cY:B<=800000)(bV:dz E<=B):
  Cq 15 #[Pq st,.agg #[Sq nb 2 2],.agg #[Iq (z:Int),Iq (bu:Int),Iq bl,Iq sd]] w fun e w'=>Ju K w w'/\∃ bj O bf,w.heap.size<=bj/\Qd0 (Ye E Ts Kr1) ts e w' bj/\Sto O w' st bf Ts/\Kft E bf/\dz bf<=B+50000/\(∀ k,K k->O k)/\(∀ k,O k->K k\/w.heap.size<=k)/\∀ k,O k->k<bj:=by
 have cj:∀ V,Ju K w V->V.heap[kb]?=some (.cells #[Iq (c:Int),iZ,.bool dn,iZ] 57 (0,0)):=fun V bz=>(bz.block kb (Jd bI) ci).trans bI;obtain⟨bP,cH,bQ,cG,bK,_⟩:=bx.m3;have bB:Jd7 (Ye E Ts) (Ksh c dn) 1->∃ cs,Ye E Ts Kr1=.inl cs:=fun hh=>(hh 0 _ zo rfl).1 rfl;have cc:∀ T∈Ts,∀ cs,Zo E T=.inl cs->Zt T.types cs:=fun T bR cs H=>(Kuj (bL T bR) H).1;have bJ:∀ cs,Ye E Ts Kr1=.inl cs->nR (Jac (Ye E Ts) (Ksh c dn))=nR cs:=fun cs H=>by
  obtain⟨cu,_⟩:=Kvs (tab:=Ye E Ts) (c:=c) (dn:=dn) H;rw[cu,Jr8 _ _ (M cs H).1.one,Kxi]
 refine(Kwg K st E Ts w h bL cc a0 a1 a2 bO q wr pg pl ex ta w0 bx bG bE (Ksh c dn) [ts,ts] (Ky9 cC bH dn) (fun n I h0=>?_) (fun hh=>?_) (fun n I h0 bh br=>?_) (fun j n y h0 bh br=>?_) (fun j n y Y=>?_) (fun j n y bD=>?_) nb 0 2 (Kus kb) rfl (Jfm cx) (fun V bz j n nd y bi=>?_) z bu bl sd cE cF bA zo cn cv cB 6 psN (Qcw B) ⟨fun sch cA=>?_,Kxp bA,fun j=>by show B+10000*min j 5<=B+10000*min (j+1) 5;omega,fun j=>by show B+10000*min j 5<=930000;omega,fun j n y bh ca cX sch e cz=>?_⟩ bV (fun U l bk nd row col pg W=>Qbt (Ye E Ts) (Ksh c dn) U l bk nd row col pg W\/∃ p:Nat,Ye E Ts Kr1=.inr p/\l=Sz/\bk=7/\nd=0/\row=-1/\col=-1/\pg=(p:Int)) (fun U l c nd row col pg cV cW db Z hr=>hr.imp (fun hr=>?_) id) (fun U l c nd row col pg W hr=>.inl hr) bP cH bQ cG bK fun U bT j v eb cK cJ=>?_).mono fun e w' hp=>?_
 ·simp only[Ksh,Of1,Oi0,or_false]at I;rcases I with rfl|rfl
  ·exact bY
  cases h0
 ·obtain⟨cs,H⟩:=bB (fun i n hi I=>hh i n (by show i<2;omega) I);rw[bJ cs H];have:=(M cs H).2;omega
 ·simp only[Ksh,Of1,Oi0,or_false]at I;rcases I with rfl|rfl
  ·exact absurd rfl h0
  exact absurd rfl bh
 ·match j,y with
  |0,y=>cases y;exact absurd rfl h0
  |1,y=>cases y;exact absurd rfl bh
 ·match j,y with
  |0,y=>cases y;cases Y
  |1,y=>cases y;cases Y
 ·match j,y with
  |0,y=>cases y;cases bD
  |1,y=>cases y;cases bD
 ·match j,y,bi with
  |0,y,bi=>cases y;cases bi;exact⟨rfl,rfl,rfl,fun h=>absurd h zd,fun h=>absurd h zd,rfl,rfl,fun h=>absurd h zd⟩
  |1,y,bi=>cases y;cases bi;exact⟨rfl,rfl,rfl,fun h=>absurd h (by show ¬ (5=1\/5=2);omega),fun _=>⟨kb,0,1,rfl,Qbe (cj V bz)⟩,rfl,rfl,fun _=>⟨rfl,fun h=>absurd h (by show ¬ (5=6);omega)⟩⟩
 ·have hs:sch=ts:=by simpa using cA
  subst hs;exact⟨zo,bM⟩
 ·match j,y with
  |0,y=>cases y;cases bh
  |1,y=>
   cases y
   obtain⟨cs,H⟩:=bB ca;rw[(Kvs (tab:=Ye E Ts) (c:=c) (dn:=dn) H).2]at e;subst e;cases cz
   exact Qci (c:=c) (dn:=dn) (M _ H).1 br bM bH (M _ H).2 bA (by have:=(M _ H).2;omega) zo
 ·obtain⟨cL,cM,cN,cO,cP,cQ,g,bs',cR,bC⟩:=hr;exact⟨cL,cM,cN,cO,cP,cQ,g,bs',cR,bC.of_blocks (Z g bC.from_.1) fun b hb=>Z b (bC.from_.2 b hb).1⟩
 ·rcases cK with⟨da,n,I,bN⟩|⟨cU,b,_,_,_,_,cD⟩
  ·match j,I with
   |0,I=>
    cases I
    rcases bN with⟨_,p,b,hp,rfl,bU⟩|⟨h0,_⟩|⟨Y,_⟩
    ·refine(Kyn bx bK (Ksn bG bE bT) bU cJ).mono fun e w' cy=>?_;obtain⟨rfl,cI⟩:=cy;exact⟨cI,_,_,_,_,_,_,rfl,.inr ⟨p,hp,rfl,rfl,rfl,rfl,rfl,rfl⟩⟩
    ·exact absurd rfl h0
    cases Y
   |1,I=>
    cases I
    rcases bN with⟨h0,_⟩|⟨_,eb,kk,r,_,hr,bW,_⟩|⟨Y,_⟩
    ·cases h0
    ·exact absurd rfl bW
    cases Y
  exact absurd cD (Kv8 hq bX cU)
 obtain⟨Z,U,l,bk,nd,row,col,dc,bS,rfl,hR,O,bf,s1,s2,s3,s4,cS,cT⟩:=hp;refine⟨Z,U.heap.size,O,bf,bS,?_,s1,s2,Ob2 s3 (by show B+10000*min 2 5<=B+50000;omega),s4,cS,cT⟩;rcases hR with⟨rfl,rfl,rfl,rfl,rfl,bZ,g,bs,rfl,cb⟩|⟨p,hp,rfl,rfl,rfl,rfl,rfl,rfl⟩
 ·obtain⟨cs,H⟩:=bB (fun i n hi I=>bZ i n (by show i<2;omega) I);have hl:=bJ cs H;have cf:Zt ts (Jac (Ye E Ts) (Ksh c dn)):=by
   rw[(Kvs (tab:=Ye E Ts) (c:=c) (dn:=dn) H).1];exact Ju7 (M cs H).1 _ (fun k Z=>by have:=(Kwf c dn cs).mem_iff.1 Z;simpa using this) (by rw[Kxi];have:=(M cs H).2;omega)
  refine .inl ⟨cs,g,bs,_,H,by rw[Uu],cb,by rw[Uu];exact hl,fun r hr=>?_⟩;obtain⟨i,hi,rfl⟩:=Of0.1 hr;exact cf.ty i (Oj4.1 hi)
 exact .inr ⟨p,hp,rfl⟩
structure Ktw (D D':DS):Prop where
 quota:D'.quota=D.quota
 fail:D'.fail=D.fail
 writes:D'.writes=D.writes
 len:D'.pages.length=D.pages.length
 used:Js D'.pages=Js D.pages
theorem Ktw.refl D:Ktw D D:=⟨rfl,rfl,rfl,rfl,rfl⟩
theorem Ktw.dz {D E}(h:Ktw D E):dz E=Go.Proofs.YtnlnlamdilifcaaGreatDoor.dz D:=by unfold Go.Proofs.YtnlnlamdilifcaaGreatDoor.dz;rw[h.writes,h.len]
theorem Qa0 {l i p}(h:l[i]?=some (some p))q:Js (l.set i (some q))=Js l:=by
 have hi:i<l.length:=(Ob9.1 h).1;have H:=Jii l i p h;have y:=Jl5 (l.set i none) i q (by rw[Oh0 hi]);rw[List.set_set]at y;omega
theorem Qak y st D Ts page at_ H w(h:Sto y w st D Ts):
  Cq 11 #[Pq st,Iq page,Iq at_,Iq H] w fun e w'=>∃ b I,e=.returned (.bool b)/\Ju y w w'/\Sto y w' st I Ts/\Ktw D I/\(b=false->I=D):=by
 cases hc:Kum D page at_ H with
 |false=>
  refine(Qb6 y st D Ts page at_ H w h hc).mono fun e w' hp=>?_;obtain⟨rfl,rfl⟩:=hp;exact⟨false,D,rfl,Ju.refl _ _,h,Ktw.refl D,fun _=>rfl⟩
 |true=>
  unfold Kum Jai at hc;simp only[Og5,decide_eq_true_eq]at hc;obtain⟨⟨⟨O,bf⟩,K⟩,U,bh,bi,bj⟩:=hc;obtain⟨pg,rfl⟩:=Int.eq_ofNat_of_zero_le O;obtain⟨M,rfl⟩:=Int.eq_ofNat_of_zero_le U;obtain⟨n,rfl⟩:=Int.eq_ofNat_of_zero_le (show 0<=H by omega);rw[Int.toNat_natCast]at K;obtain⟨p,hp⟩:∃ p,D.pages[pg]?=some (some p):=by
   have hl:pg<D.pages.length:=zo;rw[Oa0,Oa3 hl,Option.getD_some]at K;obtain⟨p,hp⟩:=Option.isSome_iff_exists.1 K;exact⟨p,by rw[Oa3 hl,hp]⟩
  refine(Qax y st D Ts pg M n w h p hp zo zo zo).mono fun e w' Z=>?_;obtain⟨rfl,Y,hs⟩:=Z;exact⟨true,_,rfl,Y,hs,⟨rfl,rfl,rfl,zS,Qa0 hp _⟩,fun e=>by cases e⟩
theorem Qb2 t:Kje t:=fun _ y _ _ _=>Kjm y
structure BkS (W wx:World) (st:Nat) (ts:List Int) (n:Nat) (M:Nat->Prop) (D:DS) (T:TS) (Us:List TS):Prop where
 low:Bq W wx
 above:∀ k,M k->W.heap.size<=k
 sto:Sto M wx st D (T::Us)
 nm:T.name=Kr1
 ty:T.types=ts
 rows:T.rows=n
 ok:∀ T'∈T::Us,Jid D T'
 quota:D.quota=1048576
 fail:D.fail=0
 few:dz D<=400000
section
variable {W wx wy:World} {st n:Nat} {ts:List Int} {M:Nat->Prop} {D:DS} {T:TS} {Us:List TS}
theorem BkS.below (h:BkS W wx st ts n M D T Us)(hb:Bq wx wy):BkS W wy st ts n M D T Us:=⟨Jb h.low hb,h.above,h.sto.below hb,h.nm,h.ty,h.rows,h.ok,h.quota,h.fail,h.few⟩
theorem BkS.turn (h:BkS W wx st ts n M D T Us){I}(K:Ju M wx wy)(hs:Sto M wy st I (T::Us))(ht:Ktw D I):BkS W wy st ts n M I T Us:=
 ⟨Ksn h.low h.above K,h.above,hs,h.nm,h.ty,h.rows,fun y H=>⟨(h.ok y H).cols,(h.ok y H).rows,(h.ok y H).group,(h.ok y H).count,(h.ok y H).segs,fun _ _ t _=>Qb2 t⟩,ht.quota.trans h.quota,ht.fail.trans h.fail,by rw[ht.dz];exact h.few⟩
theorem BkS.find (h:BkS W wx st ts n M D T Us):Ub (T::Us) Kr1=0:=by unfold Ub;exact if_pos h.nm
theorem BkS.tab (h:BkS W wx st ts n M D T Us):Ye D (T::Us) Kr1=Zo D T:=by unfold Ye Jcm;rw[h.find];rfl
theorem BkS.good (h:BkS W wx st ts n M D T Us):∀ cs,Ye D (T::Us) Kr1=.inl cs->Zt ts cs/\nR cs=n:=fun cs y=>by
 rw[h.tab]at y;have:=Kuj (h.ok T zS) y;rw[h.ty,h.rows]at this;exact this
theorem BkS.tys (h:BkS W wx st ts n M D T Us):Jhd (T::Us) Kr1=ts:=by unfold Jhd;rw[h.find];exact h.ty
end
