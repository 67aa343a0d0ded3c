/- A store of one table on a disk with room; the plan of the law's own check, run. -/
import Derived.Test.YtnlnlamdilifcaaGreatDoorPh
import Derived.Test.YtnlnlamdilifcaaGreatDoorEh
namespace Go.Proofs.YtnlnlamdilifcaaGreatDoor
section
open Go.RowKit Go.Shelf Tryz
theorem Kv8 {E}(hq:E.quota=1048576)(H:E.fail=0)y:¬ Ksy E y:=fun h=>by
 cases y with
 |true=>have:=h.1 rfl;omega
 |false=>have:=h.2 rfl;omega
def Qcy (W H:World)(st:Nat)(name:ByteArray)(ts:List Int)(rs:List (List V)):Prop:=Bq W H/\∃ (y:Nat->Prop) (E:DS) (T:TS) (cs:Cs),Sto y H st E [T]/\Kd3 E T name ts rs cs/\E.quota=1048576/\E.fail=0/\dz E<=132000/\∀ k,y k->W.heap.size<=k
theorem Qcj {W X y st t}(h:Kzf X st [t] 1 y)(hb:Bq W X)(bf:Bq X y)(ht:Jel t.name t.ts t.rs)(hv:∀ r∈t.rs,∀ v∈r,Jg v.n):Qcy W y st t.name t.ts t.rs:=by
 obtain⟨K,E,T,M,H,I,⟨O,U⟩,bj,bk,Y⟩:=h.one;obtain⟨cs,Z⟩:=Jx2 H I.1 I.2 ht hv;have hl:=ht.2.2.1;have bi:=H.writes;refine⟨Jb hb bf,K,E,T,cs,M,Z,O,U,?_,fun k bh=>Ob2 hb.size (Y k bh)⟩;unfold dz;rw[if_pos bi];omega
theorem Qbr K st E T cs w(h:Sto K w st E [T])(H:Kd3 E T Yh [1] [[Za]] cs)a0 a1 a2 bI q wr pg pl ex ta w0(bO:Jax w0 a0 a1 a2 bI q wr pg pl ex ta)(bP:Bq w0 w)(bN:∀ k,K k->w0.heap.size<=k)(hq:E.quota=1048576)(bT:E.fail=0)(bS:dz E<=132000)nb Z bk(ca:¬ K Z)(bY:¬ K bk)(bX:w.heap[nb]?=some (.cells ((Jvf Z).flatMap ndC).toArray 54 (0,0)))(cb:w.cell? (Aq Z)=some (Sq bk 3 3))(bD:w.heap[bk]?=some (.cells (Jkp.flatMap ptC).toArray 70 (0,0))):
  Cq 15 #[Pq st,.agg #[Sq nb 2 2],.agg #[Iq 1000,Iq 1000,iZ,iZ]] w fun e w'=>Ju K w w'/\∃ bi g bs,e=.returned (.tuple #[Sq g 1 1,Ko 0 (-1) (-1) (-1) (-1)])/\Jcu w' bi g bs [[⟨1,42,⟨#[]⟩⟩]]:=by
 have bR:cs=[[Za]]:=by
  have bL:=H.good.len;have bM:=H.len;have M:=H.row 0 zS;match cs,bL,bM,M with
  |[[v]],_,_,M=>cases M;rfl
 subst bR;obtain⟨bB,bV⟩:=Kc3 (tab:=Ye E [T]) H.tab;have bW:nR [[Za]]=1:=H.len;have bE:Ji [[Za]] 0=[Za]:=H.row 0 zS;have bC:nR (Jac (Ye E [T]) Jcq)=1:=by rw[bB,Jm1 _ _ zS,bW]
 have bA:Ktc (Jhd [T]) [[1],[1]] Jcq (Ye E [T]):=Qdp H.tab;refine(Qas K st E [T] w h H.ok H.all a0 a1 a2 bI q wr pg pl ex ta w0 bO bP bN Jcq [[1],[1]] (Jw6 H.tys) (fun n I h0=>?_) (fun _=>by rw[bC];omega) (fun n I h0 _ _=>bA n I h0) (fun j n y h0 bj cj=>?_) (fun j n y O=>?_) (fun j n y M=>?_) nb 0 2 (Jvf Z) rfl (Jfm bX) (fun V bz j n nd y Y=>?_) 1000 1000 0 0 zo zo zo zo zo zo ⟨zd,zd⟩ 6 psN (fun _=>132000) ⟨fun sch bZ=>?_,Kxp zo,fun j=>Oa2 _,fun j=>zo,fun j n y bj _ bJ sch e cu=>?_⟩ bS (fun br bH bx j v W U=>?_) (fun _ _ _ _=>Kv8 hq bT)).mono fun e w' hp=>?_
 ·simp only[Jcq,Of1,Oi0,or_false]at I;rcases I with rfl|rfl
  ·exact H.find
  cases h0
 ·match j,y with
  |0,y=>cases y;exact absurd rfl h0
  |1,y=>
   cases y
   refine⟨fun hi cc=>Qdl (Jw6 H.tys) hi cc,fun hi s z bu bl sd bK sc br bH bx pg cv bG=>Qdt (Jw6 H.tys) bA (fun n I h0 bJ bQ=>?_) H.tab hi s z bu bl (Iq sd) bK sc br bH bx pg bG.z1 bG.z2⟩
   ·simp only[Jcq,Of1,Oi0,or_false]at I;rcases I with rfl|rfl
    ·rw[<-Sum.inl.inj (H.tab.symm.trans bQ)];have:=H.good;rw[<-H.tys]at this;exact this
    cases h0
 ·match j,y with
  |0,y=>cases y;cases O
  |1,y=>cases y;cases O
 ·match j,y with
  |0,y=>cases y;cases M
  |1,y=>cases y;cases M
 ·match j,y,Y with
  |0,y,Y=>cases y;cases Y;exact⟨rfl,rfl,rfl,fun h=>absurd h zd,fun h=>absurd h zd,rfl,rfl,fun h=>absurd h zd⟩
  |1,y,Y=>cases y;cases Y;exact⟨rfl,rfl,rfl,fun _=>⟨Z,0,1,rfl,zS,Jyd (e:=Jkp) (bz.cell cb ca) (Jfp ((bz.block _ (Jd bD) bY).trans bD))⟩,fun h=>absurd h zd,rfl,rfl,fun h=>absurd h zd⟩
 ·have hs:sch=[1]:=by simpa using bZ
  subst hs;exact⟨zS,fun x bh=>by
   have:x=0:=by simpa using bh
   subst this;exact⟨zd,zd⟩⟩
 ·match j,y with
  |0,y=>cases y;cases bj
  |1,y=>cases y;cases bj
 ·obtain⟨_,n,I,bh⟩:=U;match j,I with
  |0,I=>
   cases I
   rcases bh with⟨_,p,b,hp,_⟩|⟨h0,_⟩|⟨O,_⟩
   ·rw[H.tab]at hp;cases hp
   ·exact h0 rfl
   cases O
  |1,I=>
   cases I
   rcases bh with⟨h0,_⟩|⟨_,eb,kk,r,_,hr,U,_⟩|⟨O,_⟩
   ·cases h0
   ·rw[bV]at hr U;have:r=0:=zo;subst this;rw[bE]at U;exact U rfl
   cases O
 obtain⟨hb,_,bi,g,bs,ci,cf,rfl,cn,bf,_⟩:=hp;refine⟨hb,?_⟩;rw[bC]at bf |-;rw[bB]at bf;have bU:Qf 1 (Jcb [Jkp] [[Za]])=[[⟨1,42,⟨#[]⟩⟩]]:=by
  have:(Qf 1 (Jcb [Jkp] [[Za]]))=[Ji (Jcb [Jkp] [[Za]]) 0]:=rfl;rw[this,Jjj _ _ _ zo,bE];simp only[Oe4,Oi4];rw[Jgd Khj]
 rw[bU]at bf;exact⟨bi,g,bs,rfl,bf⟩
end
open Go.RowKit Go.Shelf
abbrev Kr1:ByteArray:=⟨#[116]⟩
def Kx6 (c:Nat)(dn:Bool):Krv:=⟨c,0,dn,0⟩
def Ksh (c:Nat)(dn:Bool):List PN:=[⟨0,0,Kr1,[],[],0,0⟩,⟨5,0,⟨#[]⟩,[],[Kx6 c dn],0,0⟩]
abbrev Kus (kb:Nat):List Nd:=[⟨0,0,0,Kr1,(none,0,0),(none,0,0),0⟩,⟨5,0,0,⟨#[]⟩,(none,0,0),(some (Aq kb),1,1),0⟩]
theorem Qbe {w kb c dn}(h:w.heap[kb]?=some (.cells #[Iq (c:Int),iZ,.bool dn,iZ] 57 (0,0))):Klj w kb 0 [Kx6 c dn]:=fun j k y=>by
 match j,y with
 |0,y=>cases y;refine⟨?_,?_,?_,?_⟩<;>simp[World.cell?,h,Kx6]
theorem Qcg {tys ts}(h:tys Kr1=ts)y:Kik tys y ⟨0,0,Kr1,[],[],0,0⟩ ts:=
 ⟨by show 0<=6;omega,fun _=>h.symm,fun h=>absurd h zd,fun h=>absurd h zd,fun h=>absurd h zd,fun h=>absurd h zd,fun h=>absurd h zd,fun h=>absurd h zd⟩
theorem Qck {tys ts c dn}(I:c<ts.length)H(h:H[0]?=some ts):Kik tys H ⟨5,0,⟨#[]⟩,[],[Kx6 c dn],0,0⟩ ts:=
 ⟨by show 5<=6;omega,fun h=>(by cases h),fun h=>(by cases h),fun h=>(by cases h),fun h=>(by cases h),fun h=>(by cases h),fun _=>⟨h,rfl,zS,zS,fun k y=>by rw[Oc6]at y;subst y;exact I⟩,fun h=>(by cases h)⟩
theorem Ky9 {tys ts}(h:tys Kr1=ts){c}(H:c<ts.length)dn:Jdk tys [ts,ts] (Ksh c dn) where
 len:=rfl
 ok:=fun j n y=>by
  match j,y with
  |0,y=>cases y;exact⟨ts,rfl,Qcg h _⟩
  |1,y=>cases y;exact⟨ts,rfl,Qck H _ rfl⟩
 ahead:=fun j n y i hi=>by
  match j,y with
  |0,y=>cases y;cases hi
  |1,y=>
   cases y
   have:i=0:=by simpa [Jg7] using hi
   subst this;exact⟨zo,by simp[flN,Ksh,Jg7]⟩
 all:=fun i hi=>by
  have:i=0:=by have:i+1<2:=hi;omega
  subst this;simp[flN,Ksh,Jg7]
 one:=by show 1<=2;omega
 few:=by show 2<=12;omega
def Qco (c:Nat)(dn:Bool)(cs:Cs):List Nat:=Ksi (Kr6 [Kx6 c dn] cs) (List.range (nR cs))
theorem Kvs {tab:ByteArray->Cs⊕Nat}{cs c dn}(h:tab Kr1=.inl cs):Jac tab (Ksh c dn)=Jba (Qco c dn cs) cs/\Jbs ⟨5,0,⟨#[]⟩,[],[Kx6 c dn],0,0⟩ (stN tab (Ksh c dn) 1)=cs:=by
 constructor
 ·simp[Jac,stN,Ksh,Jb3,Jkq,Jbs,h,Qco]
 simp[stN,Ksh,Jb3,Jkq,Jbs,h]
theorem Kwf c dn cs:(Qco c dn cs).Perm (List.range (nR cs)):=Ksb _ _
theorem Kxi c dn cs:(Qco c dn cs).length=nR cs:=by rw[(Kwf c dn cs).length_eq,Op1]
abbrev Qcw (B:Nat):Nat->Nat:=fun j=>B+10000*min j 5
theorem Qci {ts:List Int}{cs:Cs}{c bu j B:Nat}{dn:Bool}(y:Zt ts cs)(O:ts.length<=6)(bi:∀ x,x<ts.length->1<=ts.getD x 0/\ts.getD x 0<=3)(bf:c<ts.length)(bh:nR cs<=200)(Y:2<=bu)(Z:nR cs+bu<=231)(bj:j<5):nR cs<=50000/\(∀ ch:List Nat,(∀ t∈ch,t<nR cs)->1<=ch.length->ch.length<=64->(Qu (Kr4 ts (Jba ch cs) ts.length)).length<=6*ch.length)/\psN (ckN (nR cs) bu)<=100000/\Qcw B j+2*6*bu*ckN (nR cs) bu+6*nR cs*psN (ckN (nR cs) bu)<=Qcw B (j+1):=by
 have U:Sg ts cs [Kx6 c dn]:=⟨y,fun k H=>by rw[Oc6]at H;subst H;rw[y.len];exact bf,zS,zo,bi⟩;obtain⟨bk,br⟩:=Qbg bh Y Z;refine⟨zo,fun ch I K M=>U.row O I K M,zo,?_⟩;show B+10000*min j 5+2*6*bu*ckN (nR cs) bu+6*nR cs*psN (ckN (nR cs) bu)<=B+10000*min (j+1) 5;omega
attribute [local go_sem] Oc0
