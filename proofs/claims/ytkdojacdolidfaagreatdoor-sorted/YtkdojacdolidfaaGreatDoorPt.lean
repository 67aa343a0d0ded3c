/- A store of one table on a disk with room; the plan of the law's own check, run. -/
import Derived.Test.YtkdojacdolidfaaGreatDoorPh
import Derived.Test.YtkdojacdolidfaaGreatDoorEh
set_option maxHeartbeats 40000000
set_option maxRecDepth 100000
namespace Go.Proofs.YtkdojacdolidfaaGreatDoor
section
open Go.RowKit Go.Shelf Tryz
theorem Ku2 {E}(hq:E.quota=1048576)(H:E.fail=0)y:¬ Ks1 E y:=fun h=>by
 cases y with
 |true=>have:=h.1 rfl;omega
 |false=>have:=h.2 rfl;omega
def Qb9 (W H:World)(st:Nat)(name:ByteArray)(ts:List Int)(rs:List (List V)):Prop:=Below W.heap.size W H/\∃ (y:Nat->Prop) (E:DS) (T:TS) (cs:Cs),Sto y H st E [T]/\Kd3 E T name ts rs cs/\E.quota=1048576/\E.fail=0/\dz E<=132000/\∀ k,y k->W.heap.size<=k
theorem Kzd {W X y st t}(h:Ks2 X st [t] 1 y)(hb:Below W.heap.size W X)(bf:Below X.heap.size X y)(ht:Jel t.name t.ts t.rs)(hv:∀ r∈t.rs,∀ v∈r,Jg v.n):Qb9 W y st t.name t.ts t.rs:=by
 obtain⟨K,E,T,M,H,I,O,U,bj,bk,Y⟩:=h.one;obtain⟨cs,Z⟩:=Jx2 H I.1 I.2 ht hv;have hl:=ht.2.2.1;have bi:=H.writes;refine⟨Jb hb bf,K,E,T,cs,M,Z,O,U,?_,fun k bh=>Ob2 hb.size (Y k bh)⟩;unfold dz;rw[if_pos bi];omega
theorem zaL {p:Prop}(h:p:=by
 simp only[Jcq,Of1,Oi0,or_false]at I;rcases I with rfl|rfl
 ·exact absurd rfl h0
 exact Kuq):p:=h
theorem Qbn K st E T cs w(h:Sto K w st E [T])(H:Kd3 E T Yh [1] [[Za]] cs)a0 a1 a2 bI q wr pg pl ex bH w0(bO:Jax w0 a0 a1 a2 bI q wr pg pl ex bH)(bP:Below w0.heap.size w0 w)(bN:∀ k,K k->w0.heap.size<=k)(hq:E.quota=1048576)(bT:E.fail=0)(bS:dz E<=132000)nb Z bk(cb:¬ K Z)(bZ:¬ K bk)(bY:w.heap[nb]?=some (.cells ((Jvf Z).flatMap ndC).toArray 48 (0,0)))(cc:w.cell? ⟨Z,0,none⟩=some (.slice (some ⟨bk,0,none⟩) 3 3))(bC:w.heap[bk]?=some (.cells (Jkp.flatMap ptC).toArray 65 (0,0))):
  Calls prog 11 #[.pointer (some ⟨st,0,none⟩),.agg #[.slice (some ⟨nb,0,none⟩) 2 2],.agg #[.int .i64 1000,.int .i64 1000,.int .i64 0,.int .i64 0]] w fun e w'=>Ju K w w'/\∃ bi g bs,e=.returned (.tuple #[.slice (some ⟨g,0,none⟩) 1 1,Ko 0 (-1) (-1) (-1) (-1)])/\Jcu w' bi g bs [[⟨1,42,⟨#[]⟩⟩]]:=by
 have bR:cs=[[Za]]:=by
  have bL:=H.good.len;have bM:=H.len;have M:=H.row 0 zS;match cs,bL,bM,M with
  |[[v]],_,_,M=>cases M;rfl
 subst bR;obtain⟨bA,bW⟩:=Kc3 (tab:=Ye E [T]) H.tab;have bX:nR [[Za]]=1:=H.len;have bD:Ji [[Za]] 0=[Za]:=H.row 0 zS;have bB:nR (Jac (Ye E [T]) Jcq)=1:=by rw[bA,Jm1 _ _ zS,bX]
 have bU:∀ n∈Jcq,n.op≠0->n.op≠5->n.op≠6->Ktf n.op:=fun n I h0 _ _=>by
  exact zaL
 refine(Kuz K st E [T] w h H.ok H.all a0 a1 a2 bI q wr pg pl ex bH w0 bO bP bN Jcq [[1],[1]] (Jw6 H.tys) (fun n I h0=>?_) (fun _=>by rw[bB];omega) bU (fun j n y h0 bj cn=>?_) (fun j n y O=>?_) (fun j n y M=>?_) nb 0 2 (Jvf Z) rfl (Jfm bY) (fun V bz j n nd y Y=>?_) 1000 1000 0 0 zo zo zo zo zo zo ⟨zd,zd⟩ 6 psN (fun _=>132000) ⟨fun sch ca=>?_,Kv1 zo,fun j=>Oa2 _,fun j=>zo,fun j n y bj _ bJ sch e cv=>?_⟩ bS (fun br bG bx j v W U=>?_) (Ku2 hq bT)).mono fun e w' hp=>?_
 ·simp only[Jcq,Of1,Oi0,or_false]at I;rcases I with rfl|rfl
  ·exact H.find
  cases h0
 ·match j,y with
  |0,y=>cases y;exact absurd rfl h0
  |1,y=>
   cases y
   refine⟨fun hi cf=>Qde (Jw6 H.tys) hi cf,fun hi s z bu bl sd bK sc br bG bx pg cx bE=>Qc1 (Jw6 H.tys) (fun n I h0=>?_) (fun n I h0 bJ bQ=>?_) H.tab hi s z bu bl (.int .i64 sd) bK sc br bG bx pg bE.z1 bE.z2⟩
   ·exact zaL
   simp only[Jcq,Of1,Oi0,or_false]at I;rcases I with rfl|rfl
   ·rw[<-Sum.inl.inj (H.tab.symm.trans bQ)];have:=H.good;rw[<-H.tys]at this;exact this
   cases h0
 ·match j,y with
  |0,y=>cases y;cases O
  |1,y=>cases y;cases O
 ·match j,y with
  |0,y=>cases y;cases M
  |1,y=>cases y;cases M
 ·match j,y,Y with
  |0,y,Y=>cases y;cases Y;exact⟨rfl,rfl,rfl,fun h=>absurd h zd,fun h=>absurd h zd,rfl,rfl,fun h=>absurd h zd⟩
  |1,y,Y=>cases y;cases Y;exact⟨rfl,rfl,rfl,fun _=>⟨Z,0,1,rfl,zS,Jyd (e:=Jkp) (bz.cell cc cb) (Jfp ((bz.block _ (Jd bC) bZ).trans bC))⟩,fun h=>absurd h zd,rfl,rfl,fun h=>absurd h zd⟩
 ·have hs:sch=[1]:=by simpa using ca
  subst hs;exact⟨zS,fun x bh=>by
   have:x=0:=by simpa using bh
   subst this;exact⟨zd,zd⟩⟩
 ·match j,y with
  |0,y=>cases y;cases bj
  |1,y=>cases y;cases bj
 ·obtain⟨_,n,I,bh⟩:=U;match j,I with
  |0,I=>
   cases I
   rcases bh with⟨_,p,b,hp,_⟩|⟨h0,_⟩|⟨O,_⟩
   ·rw[H.tab]at hp;cases hp
   ·exact h0 rfl
   cases O
  |1,I=>
   cases I
   rcases bh with⟨h0,_⟩|⟨_,eb,kk,r,_,hr,U,_⟩|⟨O,_⟩
   ·cases h0
   ·rw[bW]at hr U;have:r=0:=zo;subst this;rw[bD]at U;exact U rfl
   cases O
 obtain⟨hb,_,bi,g,bs,cj,ci,rfl,cu,bf,_⟩:=hp;refine⟨hb,?_⟩;rw[bB]at bf |-;rw[bA]at bf;have bV:Qf 1 (Jcb [Jkp] [[Za]])=[[⟨1,42,⟨#[]⟩⟩]]:=by
  have:(Qf 1 (Jcb [Jkp] [[Za]]))=[Ji (Jcb [Jkp] [[Za]]) 0]:=rfl;rw[this,Jjj _ _ _ zo,bD];simp only[Oe4,Oi4];rw[Jgd Khj]
 rw[bV]at bf;exact⟨bi,g,bs,rfl,bf⟩
end
section
open Go.RowKit Go.Shelf
abbrev Ksd:ByteArray:=⟨#[116]⟩
def Kup (c:Nat)(dn:Bool):Krv:=⟨c,0,dn,0⟩
def Ksv (c:Nat)(dn:Bool):List PN:=[⟨0,0,Ksd,[],[],0,0⟩,⟨5,0,⟨#[]⟩,[],[Kup c dn],0,0⟩]
def Ksq (c:Nat)(dn:Bool)(k:Nat):List PN:=[⟨0,0,Ksd,[],[],0,0⟩,⟨5,0,⟨#[]⟩,[],[Kup c dn],0,0⟩,⟨6,1,⟨#[]⟩,[],[],0,(k:Int)⟩]
abbrev Ku3 (kb:Nat):List Nd:=[⟨0,0,0,Ksd,(none,0,0),(none,0,0),0⟩,⟨5,0,0,⟨#[]⟩,(none,0,0),(some ⟨kb,0,none⟩,1,1),0⟩]
abbrev Kuk (kb k:Nat):List Nd:=[⟨0,0,0,Ksd,(none,0,0),(none,0,0),0⟩,⟨5,0,0,⟨#[]⟩,(none,0,0),(some ⟨kb,0,none⟩,1,1),0⟩,⟨6,1,0,⟨#[]⟩,(none,0,0),(none,0,0),(k:Int)⟩]
theorem Kx7 {w kb c dn}(h:w.heap[kb]?=some (.cells #[.int .i64 (c:Int),.int .i64 0,.bool dn,.int .i64 0] 44 (0,0))):Klj w kb 0 [Kup c dn]:=fun j k y=>by
 match j,y with
 |0,y=>cases y;refine⟨?_,?_,?_,?_⟩<;>simp[World.cell?,h,Kup]
theorem Kze {tys ts}(h:tys Ksd=ts)y:Kik tys y ⟨0,0,Ksd,[],[],0,0⟩ ts:=
 ⟨by show 0<=6;omega,fun _=>h.symm,fun h=>absurd h zd,fun h=>absurd h zd,fun h=>absurd h zd,fun h=>absurd h zd,fun h=>absurd h zd,fun h=>absurd h zd⟩
theorem Kza {tys ts c dn}(I:c<ts.length)H(h:H[0]?=some ts):Kik tys H ⟨5,0,⟨#[]⟩,[],[Kup c dn],0,0⟩ ts:=
 ⟨by show 5<=6;omega,fun h=>(by cases h),fun h=>(by cases h),fun h=>(by cases h),fun h=>(by cases h),fun h=>(by cases h),fun _=>⟨h,rfl,zS,zS,fun k y=>by rw[Oc6]at y;subst y;exact I⟩,fun h=>(by cases h)⟩
theorem Qas {tys ts}{k:Nat}(H:k<=1000)y(h:y[1]?=some ts):Kik tys y ⟨6,1,⟨#[]⟩,[],[],0,(k:Int)⟩ ts:=
 ⟨by show 6<=6;omega,fun h=>(by cases h),fun h=>(by cases h),fun h=>(by cases h),fun h=>(by cases h),fun h=>(by cases h),fun h=>(by cases h),fun _=>⟨h,rfl,by show (0:Int)<=(k:Int);omega,by show (k:Int)<=1000;omega⟩⟩
theorem Kyj {tys ts}(h:tys Ksd=ts){c}(H:c<ts.length)dn:Jdk tys [ts,ts] (Ksv c dn) where
 len:=rfl
 ok:=fun j n y=>by
  match j,y with
  |0,y=>cases y;exact⟨ts,rfl,Kze h _⟩
  |1,y=>cases y;exact⟨ts,rfl,Kza H _ rfl⟩
 ahead:=fun j n y i hi=>by
  match j,y with
  |0,y=>cases y;cases hi
  |1,y=>
   cases y
   have:i=0:=by simpa [Jg7] using hi
   subst this;exact⟨zo,by simp[flN,Ksv,Jg7]⟩
 all:=fun i hi=>by
  have:i=0:=by have:i+1<2:=hi;omega
  subst this;simp[flN,Ksv,Jg7]
 one:=by show 1<=2;omega
 few:=by show 2<=12;omega
theorem Kye {tys ts}(h:tys Ksd=ts){c}(H:c<ts.length)dn{k}(I:k<=1000):Jdk tys [ts,ts,ts] (Ksq c dn k) where
 len:=rfl
 ok:=fun j n y=>by
  match j,y with
  |0,y=>cases y;exact⟨ts,rfl,Kze h _⟩
  |1,y=>cases y;exact⟨ts,rfl,Kza H _ rfl⟩
  |2,y=>cases y;exact⟨ts,rfl,Qas I _ rfl⟩
 ahead:=fun j n y i hi=>by
  match j,y with
  |0,y=>cases y;cases hi
  |1,y=>
   cases y
   have:i=0:=by simpa [Jg7] using hi
   subst this;exact⟨zo,by simp[flN,Ksq,Jg7]⟩
  |2,y=>
   cases y
   have:i=1:=by simpa [Jg7] using hi
   subst this;exact⟨zo,by simp[flN,Ksq,Jg7]⟩
 all:=fun i hi=>by
  have:i=0\/i=1:=by have:i+1<3:=hi;omega
  rcases this with rfl|rfl<;>simp[flN,Ksq,Jg7]
 one:=by show 1<=3;omega
 few:=by show 3<=12;omega
def Ksn (c:Nat)(dn:Bool)(cs:Cs):List Nat:=Ksi (Kr7 [Kup c dn] cs) (List.range (nR cs))
theorem Qbp {tab:ByteArray->Cs⊕Nat}{cs c dn}(h:tab Ksd=.inl cs):Jac tab (Ksv c dn)=Jba (Ksn c dn cs) cs/\Jbs ⟨5,0,⟨#[]⟩,[],[Kup c dn],0,0⟩ (stN tab (Ksv c dn) 1)=cs:=by
 constructor
 ·simp[Jac,stN,Ksv,Jb3,Jkq,Jbs,h,Ksn]
 simp[stN,Ksv,Jb3,Jkq,Jbs,h]
theorem Qbc {tab:ByteArray->Cs⊕Nat}{cs c k dn}(h:tab Ksd=.inl cs):Jac tab (Ksq c dn k)=Jba (List.range (min k (nR (Jba (Ksn c dn cs) cs)))) (Jba (Ksn c dn cs) cs)/\Jbs ⟨5,0,⟨#[]⟩,[],[Kup c dn],0,0⟩ (stN tab (Ksq c dn k) 1)=cs:=by
 constructor
 ·simp[Jac,stN,Ksq,Jb3,Jkq,Jbs,h,Ksn]
 simp[stN,Ksq,Jb3,Jkq,Jbs,h]
theorem Ktm c dn cs:(Ksn c dn cs).Perm (List.range (nR cs)):=Ksb _ _
theorem Kt0 c dn cs:(Ksn c dn cs).length=nR cs:=by rw[(Ktm c dn cs).length_eq,Op1]
def Ksh (c:Nat)(dn:Bool)(cs:Cs)(rs:List (List V)):List (List V):=(Ksn c dn cs).map fun i=>rs.getD i []
theorem Kx1 {cs rs c dn}(hlen:nR cs=rs.length)(I:∀ i,i<rs.length->Ji cs i=rs.getD i []):Qf rs.length (Jba (Ksn c dn cs) cs)=Ksh c dn cs rs:=by
 have hl:=Kt0 c dn cs;apply Oh4
 ·rw[Uu,Ksh,Oa6];omega
 intro i y K;have hi:i<(Ksn c dn cs).length:=by rw[Uu]at y;omega
 have M:(Ksn c dn cs)[i]<nR cs:=by
  have:=(Ktm c dn cs).mem_iff.1 (Ob3 hi);simpa using this
 have H:=Jge rs.length (Jba (Ksn c dn cs) cs) i (by rw[Uu]at y;exact y);rw[Oa3 y]at H;injection H with H;rw[H,Jot _ _ i hi,I _ zo];simp[Ksh]
theorem Kxn {cs rs c k dn}(hlen:nR cs=rs.length)(K:1<=cs.length)(Y:∀ i,i<rs.length->Ji cs i=rs.getD i []):nR (Jba (List.range (min k (nR (Jba (Ksn c dn cs) cs)))) (Jba (Ksn c dn cs) cs))=min k rs.length/\Qf (min k rs.length) (Jba (List.range (min k (nR (Jba (Ksn c dn cs) cs)))) (Jba (Ksn c dn cs) cs))=(Ksh c dn cs rs).take k:=by
 have hl:=Kt0 c dn cs;have U:nR (Jba (Ksn c dn cs) cs)=rs.length:=by rw[Jr8 _ _ K];omega
 rw[U];have M:1<=(Jba (Ksn c dn cs) cs).length:=by rw[Krw];exact K
 refine⟨by rw[Jr8 _ _ M,Op1],?_⟩;have O:=Kx1 (c:=c) (dn:=dn) hlen Y;apply Oh4
 ·rw[Uu,Oc7,Ksh,Oa6];omega
 intro i I Z;have hi:i<min k rs.length:=by rw[Uu]at I;exact I
 have y:=Jge (min k rs.length) (Jba (List.range (min k rs.length)) (Jba (Ksn c dn cs) cs)) i hi;rw[Oa3 I]at y;injection y with y;have H:=Jge rs.length (Jba (Ksn c dn cs) cs) i zo;rw[O,Oa3 (by rw[Ksh,Oa6];omega)]at H;injection H with H;rw[y,Jot _ _ i (by rw[Op1];exact hi),Oo7,List.getElem_take,H]
abbrev Qb1 (B:Nat):Nat->Nat:=fun j=>B+10000*min j 5
theorem Kzk {ts:List Int}{cs:Cs}{c bu j B:Nat}{dn:Bool}(y:Zt ts cs)(O:ts.length<=6)(bi:∀ x,x<ts.length->1<=ts.getD x 0/\ts.getD x 0<=3)(bf:c<ts.length)(bh:nR cs<=200)(Y:2<=bu)(Z:bu<=31)(bj:j<5):nR cs<=50000/\(∀ ch:List Nat,(∀ t∈ch,t<nR cs)->1<=ch.length->ch.length<=64->(Qu (Kr6 ts (Jba ch cs) ts.length)).length<=6*ch.length)/\psN (ckN (nR cs) bu)<=100000/\Qb1 B j+2*6*bu*ckN (nR cs) bu+6*nR cs*psN (ckN (nR cs) bu)<=Qb1 B (j+1):=by
 have U:Sg ts cs [Kup c dn]:=⟨y,fun k H=>by rw[Oc6]at H;subst H;rw[y.len];exact bf,zS,zo,bi⟩;obtain⟨bk,r2⟩:=Qa5 bh Y Z;refine⟨zo,fun ch I K M=>U.row O I K M,zo,?_⟩;show B+10000*min j 5+2*6*bu*ckN (nR cs) bu+6*nR cs*psN (ckN (nR cs) bu)<=B+10000*min (j+1) 5;omega
end
section
open Go.RowKit Go.Shelf Tryz
theorem Kd3.same {E y T name ts rs cs}(h:Kd3 E T name ts rs cs)(hs:Kft E y):Kd3 y T name ts rs cs:=by
 have e:Ye y [T] name=Ye E [T] name:=by unfold Ye;rw[Kvm hs]
 exact⟨e.trans h.tab,h.good,h.len,h.row,h.tys,h.find,fun H I=>Kzb hs (h.ok H I),fun H I K M=>h.all H I K (by rw[<-Kwq hs];exact M)⟩
theorem Qb8 K(st:Nat)E T cs ts rs w(h:Sto K w st E [T])(I:Kd3 E T Ksd ts rs cs)(bX:rs.length<=200)(bh:ts.length<=6)(bD:∀ x,x<ts.length->1<=ts.getD x 0/\ts.getD x 0<=3)a0 a1 a2 bH q wr pg pl ex bG w0(bJ:Jax w0 a0 a1 a2 bH q wr pg pl ex bG)(bL:Below w0.heap.size w0 w)(bI:∀ k,K k->w0.heap.size<=k)(c:Nat)dn(bA:c<ts.length)(nb kb:Nat)(bV:w.heap[nb]?=some (.cells ((Ku3 kb).flatMap ndC).toArray 48 (0,0)))(bB:w.heap[kb]?=some (.cells #[.int .i64 (c:Int),.int .i64 0,.bool dn,.int .i64 0] 44 (0,0)))(bQ:¬ K kb)(z bu:Nat)(bl sd:Int)(cb:1<=z)(cc:z<=1000)(bj:2<=bu)(bM:bu<=31)(bS:0<=bl)(bU:bl<=4096)(ca:Jg sd)(B:Nat)(cv:B<=800000)(bN:dz E<=B)(hq:E.quota=1048576)(bO:E.fail=0):
  Calls prog 11 #[.pointer (some ⟨st,0,none⟩),.agg #[.slice (some ⟨nb,0,none⟩) 2 2],.agg #[.int .i64 (z:Int),.int .i64 (bu:Int),.int .i64 bl,.int .i64 sd]] w fun e w'=>Ju K w w'/\∃ Y g bs M U,e=.returned (.tuple #[.slice (some ⟨g,0,none⟩) (rs.length) (rs.length),Ko 0 (-1) (-1) (-1) (-1)])/\w.heap.size<=Y/\Jcu w' Y g bs (Ksh c dn cs rs) /\
   Sto M w' st U [T]/\Kft E U/\dz U<=B+50000/\(∀ k,K k->M k)/\(∀ k,M k->K k\/w.heap.size<=k)/\∀ k,M k->k<Y:=by
 have bR:∀ V,Ju K w V->V.heap[kb]?=some (.cells #[.int .i64 (c:Int),.int .i64 0,.bool dn,.int .i64 0] 44 (0,0)):=fun V bi=>(bi.block kb (Jd bB) bQ).trans bB;obtain⟨bC,bT⟩:=Qbp (tab:=Ye E [T]) (c:=c) (dn:=dn) I.tab;have hlen:=I.len;have bW:1<=cs.length:=by rw[I.good.len];omega
 have bx:nR (Jac (Ye E [T]) (Ksv c dn))=rs.length:=by
  rw[bC];rw[Jr8 _ _ bW,Kt0,hlen]
 refine(Kuz K st E [T] w h I.ok I.all a0 a1 a2 bH q wr pg pl ex bG w0 bJ bL bI (Ksv c dn) [ts,ts] (Kyj I.tys bA dn) (fun n H h0=>?_) (fun _=>by rw[bx];omega) (fun n H h0 Z bh=>?_) (fun j n y h0 Z bh=>?_) (fun j n y O=>?_) (fun j n y bz=>?_) nb 0 2 (Ku3 kb) rfl (Jfm bV) (fun V bi j n nd y bf=>?_) z bu bl sd cb cc bj zo bS bU ca 6 psN (Qb1 B) ⟨fun sch bZ=>?_,Kv1 bj,fun j=>by show B+10000*min j 5<=B+10000*min (j+1) 5;omega,fun j=>by show B+10000*min j 5<=930000;omega,fun j n y Z _ cj sch e bY=>?_⟩ bN (fun cn cx cu j v W bk=>?_) (Ku2 hq bO)).mono fun e w' hp=>?_
 ·simp only[Ksv,Of1,Oi0,or_false]at H;rcases H with rfl|rfl
  ·exact I.find
  cases h0
 ·simp only[Ksv,Of1,Oi0,or_false]at H;rcases H with rfl|rfl
  ·exact absurd rfl h0
  exact absurd rfl Z
 ·match j,y with
  |0,y=>cases y;exact absurd rfl h0
  |1,y=>cases y;exact absurd rfl Z
 ·match j,y with
  |0,y=>cases y;cases O
  |1,y=>cases y;cases O
 ·match j,y with
  |0,y=>cases y;cases bz
  |1,y=>cases y;cases bz
 ·match j,y,bf with
  |0,y,bf=>cases y;cases bf;exact⟨rfl,rfl,rfl,fun h=>absurd h zd,fun h=>absurd h zd,rfl,rfl,fun h=>absurd h zd⟩
  |1,y,bf=>cases y;cases bf;exact⟨rfl,rfl,rfl,fun h=>absurd h (by show ¬ (5=1\/5=2);omega),fun _=>⟨kb,0,1,rfl,Kx7 (bR V bi)⟩,rfl,rfl,fun _=>⟨rfl,fun h=>absurd h (by show ¬ (5=6);omega)⟩⟩
 ·have hs:sch=ts:=by simpa using bZ
  subst hs;exact⟨zo,bD⟩
 ·match j,y with
  |0,y=>cases y;cases Z
  |1,y=>
   cases y
   rw[bT]at e;subst e;cases bY
   exact Kzk (c:=c) (dn:=dn) I.good bh bD bA (by rw[hlen];exact bX) bj bM zo
 ·obtain⟨_,n,H,bE⟩:=bk;match j,H with
  |0,H=>
   cases H
   rcases bE with⟨_,p,b,hp,_⟩|⟨h0,_⟩|⟨O,_⟩
   ·rw[I.tab]at hp;cases hp
   ·exact h0 rfl
   cases O
  |1,H=>
   cases H
   rcases bE with⟨h0,_⟩|⟨_,eb,kk,r,_,hr,bk,_⟩|⟨O,_⟩
   ·cases h0
   ·exact bk rfl
   cases O
 obtain⟨bP,_,Y,g,bs,M,U,rfl,bK,br,s1,s2,s3,s4,cf,ci⟩:=hp;rw[bx,bC]at br;rw[bx];refine⟨bP,Y,g,bs,M,U,rfl,bK,?_,s1,s2,Ob2 s3 (by show B+10000*min 2 5<=B+50000;omega),s4,cf,ci⟩;rw[Kx1 hlen I.row]at br;exact br
theorem zaE {p:Prop}(h:p:=by
 cases H
 rcases bA with⟨h0,_⟩|⟨_,eb,kk,r,_,hr,bi,_⟩|⟨K,_⟩
 ·cases h0
 ·exact bi rfl
 cases K):p:=h
theorem Qcd M(st:Nat)E T cs ts rs w(h:Sto M w st E [T])(I:Kd3 E T Ksd ts rs cs)(bY:rs.length<=200)(bh:ts.length<=6)(bG:∀ x,x<ts.length->1<=ts.getD x 0/\ts.getD x 0<=3)a0 a1 a2 bI q wr pg pl ex bH w0(bK:Jax w0 a0 a1 a2 bI q wr pg pl ex bH)(bM:Below w0.heap.size w0 w)(bJ:∀ k,M k->w0.heap.size<=k)(c k:Nat)dn(bB:c<ts.length)(bR:k<=1000)(nb kb:Nat)(bX:w.heap[nb]?=some (.cells ((Kuk kb k).flatMap ndC).toArray 48 (0,0)))(bC:w.heap[kb]?=some (.cells #[.int .i64 (c:Int),.int .i64 0,.bool dn,.int .i64 0] 44 (0,0)))(bS:¬ M kb)(z bu:Nat)(bl sd:Int)(cc:1<=z)(cf:z<=1000)(br:2<=bu)(bN:bu<=31)(bU:0<=bl)(bW:bl<=4096)(cb:Jg sd)(B:Nat)(cx:B<=800000)(bO:dz E<=B)(hq:E.quota=1048576)(bP:E.fail=0):
  Calls prog 11 #[.pointer (some ⟨st,0,none⟩),.agg #[.slice (some ⟨nb,0,none⟩) 3 3],.agg #[.int .i64 (z:Int),.int .i64 (bu:Int),.int .i64 bl,.int .i64 sd]] w fun e w'=>Ju M w w'/\∃ bf g bs U Z,e=.returned (.tuple #[.slice (some ⟨g,0,none⟩) (min k rs.length) (min k rs.length),Ko 0 (-1) (-1) (-1) (-1)])/\w.heap.size<=bf/\Jcu w' bf g bs ((Ksh c dn cs rs).take k) /\
   Sto U w' st Z [T]/\Kft E Z/\dz Z<=B+50000/\(∀ k,M k->U k)/\(∀ k,U k->M k\/w.heap.size<=k)/\∀ k,U k->k<bf:=by
 have bT:∀ V,Ju M w V->V.heap[kb]?=some (.cells #[.int .i64 (c:Int),.int .i64 0,.bool dn,.int .i64 0] 44 (0,0)):=fun V bk=>(bk.block kb (Jd bC) bS).trans bC;obtain⟨bD,bV⟩:=Qbc (tab:=Ye E [T]) (c:=c) (dn:=dn) (k:=k) I.tab;have hlen:=I.len;have bE:1<=cs.length:=by rw[I.good.len];omega
 have bz:nR (Jac (Ye E [T]) (Ksq c dn k))=min k rs.length:=by
  rw[bD];exact(Kxn hlen bE I.row).1
 refine(Kuz M st E [T] w h I.ok I.all a0 a1 a2 bI q wr pg pl ex bH w0 bK bM bJ (Ksq c dn k) [ts,ts,ts] (Kye I.tys bB dn bR) (fun n H h0=>?_) (fun _=>by rw[bz];omega) (fun n H h0 Y bh=>?_) (fun j n y h0 Y bh=>?_) (fun j n y K=>?_) (fun j n y bj=>?_) nb 0 3 (Kuk kb k) rfl (Jfm bX) (fun V bk j n nd y O=>?_) z bu bl sd cc cf br zo bU bW cb 6 psN (Qb1 B) ⟨fun sch ca=>?_,Kv1 br,fun j=>by show B+10000*min j 5<=B+10000*min (j+1) 5;omega,fun j=>by show B+10000*min j 5<=930000;omega,fun j n y Y _ cn sch e bZ=>?_⟩ bO (fun cu cy cv j v W bi=>?_) (Ku2 hq bP)).mono fun e w' hp=>?_
 ·simp only[Ksq,Of1,Oi0,or_false]at H;rcases H with rfl|rfl|rfl
  ·exact I.find
  ·cases h0
  cases h0
 ·simp only[Ksq,Of1,Oi0,or_false]at H;rcases H with rfl|rfl|rfl
  ·exact absurd rfl h0
  ·exact absurd rfl Y
  exact absurd rfl bh
 ·match j,y with
  |0,y=>cases y;exact absurd rfl h0
  |1,y=>cases y;exact absurd rfl Y
  |2,y=>cases y;exact absurd rfl bh
 ·match j,y with
  |0,y=>cases y;cases K
  |1,y=>cases y;cases K
  |2,y=>cases y;cases K
 ·match j,y with
  |0,y=>cases y;cases bj
  |1,y=>cases y;cases bj
  |2,y=>cases y;cases bj
 ·match j,y,O with
  |0,y,O=>cases y;cases O;exact⟨rfl,rfl,rfl,fun h=>absurd h zd,fun h=>absurd h zd,rfl,rfl,fun h=>absurd h zd⟩
  |1,y,O=>cases y;cases O;exact⟨rfl,rfl,rfl,fun h=>absurd h (by show ¬ (5=1\/5=2);omega),fun _=>⟨kb,0,1,rfl,Kx7 (bT V bk)⟩,rfl,rfl,fun _=>⟨rfl,fun h=>absurd h (by show ¬ (5=6);omega)⟩⟩
  |2,y,O=>cases y;cases O;exact⟨rfl,rfl,rfl,fun h=>absurd h (by show ¬ (6=1\/6=2);omega),fun h=>absurd h (by show ¬ (6=3\/6=4\/6=5);omega),rfl,rfl,fun _=>⟨rfl,fun _=>rfl⟩⟩
 ·have hs:sch=ts:=by simpa using ca
  subst hs;exact⟨zo,bG⟩
 ·match j,y with
  |0,y=>cases y;cases Y
  |1,y=>
   cases y
   rw[bV]at e;subst e;cases bZ
   exact Kzk (c:=c) (dn:=dn) I.good bh bG bB (by rw[hlen];exact bY) br bN zo
  |2,y=>cases y;cases Y
 ·obtain⟨_,n,H,bA⟩:=bi;match j,H with
  |0,H=>
   cases H
   rcases bA with⟨_,p,b,hp,_⟩|⟨h0,_⟩|⟨K,_⟩
   ·rw[I.tab]at hp;cases hp
   ·exact h0 rfl
   cases K
  |1,H=>
   exact zaE
  |2,H=>
   exact zaE
 obtain⟨bQ,_,bf,g,bs,U,Z,rfl,bL,bx,s1,s2,s3,s4,ci,cj⟩:=hp;rw[bz,bD]at bx;rw[bz];refine⟨bQ,bf,g,bs,U,Z,rfl,bL,?_,s1,s2,Ob2 s3 (by show B+10000*min 3 5<=B+50000;omega),s4,ci,cj⟩;rw[(Kxn hlen bE I.row).2]at bx;exact bx
attribute [local go_sem] Oc0
theorem Ky0 {t a b}(K:okV t a)(hb:okV t b)(M:a.k≠0)(kb:b.k≠0):Job a b=decide (Jxt a b<0):=by
 have h:=Kdy K hb M kb;unfold Jkc at h;have H:Yi (decide (Jxt a b<0))=Yi (Job a b):=congrArg Prod.fst h;have I:∀ x y:Bool,Yi x=Yi y->x=y:=fun x y e=>by
  have:=congrArg V.n e;cases x<;>cases y<;>first|rfl|(exact absurd this zd)
 exact(I _ _ H).symm
def Kvg (a b:V)(dn:Bool):Bool:=if a.k=0\/b.k=0 then (a.k==0)&&(b.k != 0)else if dn=true then Job b a else Job a b
theorem Kvz a b dn w:Calls prog 15 #[a.val,b.val,.bool dn] w fun e w'=>e=.returned (.bool (Kvg a b dn))/\Below w.heap.size w w':=by
 have U:=fun W=>Jvi a b W;have Y:=fun W=>Jvi b a W;have Z:=Krx U;have bf:=Krx Y;clear U Y;have I:Below w.heap.size w (Jak (Jak w a) b):=Jc (Jc (Oa5 _ _) _) _;unfold Kvg;go_enter func15,ntmps15
 by_cases y:a.k=0
 ·have K:(a.k==0)=true:=by simp[y]
  rw[if_pos (.inl y),K,Bool.true_and];clear y;go_wp2;exact bodyPost_ret (v:=.bool (b.k != 0)) (by simp[results,results15,go_sem]) rfl ⟨rfl,I⟩
 have K:(a.k==0)=false:=by simp[y]
 by_cases H:b.k=0
 ·have bi:(b.k==0)=true:=by simp[H]
  rw[if_pos (.inr H),K,Bool.false_and];clear y H;go_wp2;exact bodyPost_ret (v:=.bool false) (by simp[results,results15,go_sem]) rfl ⟨rfl,I⟩
 have bi:(b.k==0)=false:=by simp[H]
 rw[if_neg (fun h=>h.elim y H)];clear y H;cases dn with
 |true=>
  rw[if_pos rfl];have O:=bf.out (Jak (Jak w a) b);go_wp2_with (go_at_call 27;refine O.mono ?_;rintro e bh ⟨rfl,M⟩)
  exact bodyPost_ret (v:=.bool (Job b a)) (by simp[results,results15,go_sem]) rfl ⟨rfl,Jb I M⟩
 |false=>
  rw[if_neg zS];have O:=Z.out (Jak (Jak w a) b);go_wp2_with (go_at_call 27;refine O.mono ?_;rintro e bh ⟨rfl,M⟩)
  exact bodyPost_ret (v:=.bool (Job a b)) (by simp[results,results15,go_sem]) rfl ⟨rfl,Jb I M⟩
theorem Kwk {t a b}(I:okV t a)(hb:okV t b)dn:Kvg a b dn=decide (Kud a b dn<0):=by
 unfold Kvg Kud;by_cases e:a.beq b=true
 ·have K:=(V.beq_iff a b).1 e;subst K;rw[if_pos e];by_cases h:a.k=0
  ·rw[if_pos (.inl h)];simp[h]
  rw[if_neg (fun x=>x.elim h h)];have:Job a a=false:=by rw[Ky0 I I h h,Kwd];rfl
  rw[this];simp
 rw[if_neg e];by_cases y:a.k=0
 ·rw[if_pos (.inl y),if_pos y];by_cases H:b.k=0
  ·exfalso;apply e;rcases Jgh I with rfl|⟨q,q2,_⟩
   ·rcases Jgh hb with rfl|⟨M,O,_⟩
    ·exact(V.beq_iff _ _).2 rfl
    omega
   omega
  simp[y,H]
 rw[if_neg y];by_cases H:b.k=0
 ·rw[if_pos (.inr H),if_pos H];simp[y]
 rw[if_neg (fun x=>x.elim y H),if_neg H];cases dn with
 |true=>rw[if_pos rfl,if_pos rfl,Ky0 hb I H y]
 |false=>rw[if_neg zS,if_neg zS,Ky0 I hb y H]
theorem Qbu {ts cs c dn}(M:Zt ts cs)(hl:ts.length<=100)(bD:∀ x,x<ts.length->1<=ts.getD x 0/\ts.getD x 0<=3)(Y:c<ts.length){i x y}(bf:(Ksn c dn cs)[i]?=some x)(hy:(Ksn c dn cs)[i+1]?=some y):
  Kvg (Kry cs y c) (Kry cs x c) dn=false/\(Kvg (Kry cs x c) (Kry cs y c) dn=true\/x<y):=by
 have I:Sg ts cs [Kup c dn]:=⟨M,fun k Z=>by rw[Oc6]at Z;subst Z;rw[M.len];exact Y,zS,hl,bD⟩;have bB:∀ z,z∈Ksn c dn cs->z<nR cs:=fun z U=>by
  have:=(Ktm c dn cs).mem_iff.1 U;simpa using this
 have H:∀ z,z∈Ksn c dn cs->okV (ts.getD c 0) (Kry cs z c):=fun z U=>(I.val (bB z U) (by rw[M.len];exact Y:c<cs.length)).1;have bh:=Of6 bf;have bi:=Of6 hy;have hs:=Ktw I.ord (l:=List.range (nR cs)) List.nodup_range;rw[List.pairwise_iff_getElem]at hs;obtain⟨bz,bj⟩:=Ob9.1 bf;obtain⟨bA,br⟩:=Ob9.1 hy;have O:Lt (Kr7 [Kup c dn] cs) x y:=by
  have:=hs i (i+1) bz bA zo;have bk:(Ksi (Kr7 [Kup c dn] cs) (List.range (nR cs)))[i]=x:=bj;have bx:(Ksi (Kr7 [Kup c dn] cs) (List.range (nR cs)))[i+1]=y:=br;rw[bk,bx]at this;exact this
 have K:∀ p q,Kr7 [Kup c dn] cs p q=Kud (Kry cs p c) (Kry cs q c) dn:=fun p q=>by
  unfold Kr7 Ks5 Ks5;show (if Kud (Kry cs p c) (Kry cs q c) dn≠0 then Kud (Kry cs p c) (Kry cs q c) dn else 0)=_;by_cases h:Kud (Kry cs p c) (Kry cs q c) dn=0
  ·rw[if_neg (by simp[h]),h]
  rw[if_pos h]
 have bC:=I.ord.neg x y;rw[K,K]at bC;unfold Lt at O;rw[K]at O;rw[Kwk (H y bi) (H x bh),Kwk (H x bh) (H y bi)];refine⟨decide_eq_false zo,?_⟩;rcases O with h|⟨_,h⟩
 ·exact .inl (decide_eq_true h)
 exact .inr h
end
section
open Go.RowKit Go.Shelf
def idV (j:Nat):V:=⟨1,(j:Int),⟨#[]⟩⟩
def Ks6 (n j:Nat)(r:List V):List V:=if n<6 then r++[idV j]else r.set 5 (idV j)
def Kr4 (n i:Nat)(rs:List (List V)):List (List V):=(List.range rs.length).map fun j=>if j<i then Ks6 n j (rs.getD j [])else rs.getD j []
theorem Kr2 n i rs:(Kr4 n i rs).length=rs.length:=by simp[Kr4]
theorem Ktg {n i rs j}(y:j<rs.length):(Kr4 n i rs)[j]?=some (if j<i then Ks6 n j (rs.getD j [])else rs.getD j []):=by simp[Kr4,y]
theorem Kzz n rs:Kr4 n 0 rs=rs:=by
 apply Oi8;intro j;by_cases y:j<rs.length
 ·rw[Ktg y,if_neg zo,Oa3 y,Oa0,Oa3 y];rfl
 rw[Ob4 (by rw[Kr2];omega),Ob4 zo]
theorem Qak {n i rs}(hi:i<rs.length):Kr4 n (i+1) rs=(Kr4 n i rs).set i (Ks6 n i (rs.getD i [])):=by
 apply Oi8;intro j;rw[Op2];by_cases y:j<rs.length
 ·rw[Ktg y];by_cases e:i=j
  ·subst e;simp[Kr2,hi]
  rw[if_neg e,Ktg y];by_cases h:j<i
  ·rw[if_pos zo,if_pos h]
  rw[if_neg zo,if_neg h]
 rw[if_neg zo,Ob4 (by rw[Kr2];omega),Ob4 (by rw[Kr2];omega)]
theorem Qcc {xs L}(h:xs.length=L.length){i}x r:List.zipWith Je1 (xs.set i x) (L.set i r)=(List.zipWith Je1 xs L).set i (Je1 x r):=by
 apply Oi8;intro j;rw[Op2,Ok5,Op2,Op2,Ok5];by_cases e:i=j
 ·subst e;simp only[if_pos,Oj8,h,Nat.min_self];by_cases hl:i<L.length
  ·simp[hl]
  simp[hl]
 simp only[if_neg e]
structure IdW (ts:List Int) (rs:List (List V)) (bs:List Nat) (tbk tb:Nat) (name:ByteArray) (tav rv:Value) (i:Nat) (xs:List (Option Addr×Nat)) (wr:World):Prop where
 cells:wr.heap[tbk]?=some (.cells #[.string name,tav,rv] 25 (0,0))
 rvk:rv.ownBlock≠some tbk
 own:Jo wr (tb+1) 31 rv (List.zipWith Je1 xs (Kr4 ts.length i rs))
 len:xs.length=rs.length
 bl:bs.length=rs.length
 done:∀ (j:Nat) x,j<i->xs[j]?=some x->Jv wr x.1 (Ks6 ts.length j (rs.getD j []))/\∀ b o,x.1=some ⟨b,o,none⟩->tb<b/\b<wr.heap.size/\rv.ownBlock≠some b/\b≠tbk/\b∉bs.drop i
 rest:∀ (j b:Nat),i<=j->bs[j]?=some b->xs[j]?=some (some ⟨b,0,none⟩,(rs.getD j []).length)/\Kv wr b (rs.getD j []) []/\tb<b/\rv.ownBlock≠some b/\b≠tbk
 nd:bs.Nodup
theorem IdW.start {w0 w ts rs I tc tb tbk rv bs name}(h:Kvl w0 w name ts rs I tc rv bs tb)(K:w.heap[tbk]?=some (.cells #[.string name,.slice I ts.length tc,rv] 25 (0,0)))(M:rv.ownBlock≠some tbk)(hb:tbk∉bs):IdW ts rs bs tbk tb name (.slice I ts.length tc) rv 0 (List.zipWith (fun b (r:List V)=>((some ⟨b,0,none⟩:Option Addr),r.length)) bs rs) w:=by
 refine⟨K,M,?_,by simp[h.len],h.len,fun j x y=>absurd y (Oe0 _),fun j b _ y=>?_,h.nd⟩
 ·rw[Kzz];have e:List.zipWith Je1 (List.zipWith (fun b (r:List V)=>((some ⟨b,0,none⟩:Option Addr),r.length)) bs rs) rs=List.zipWith Jad bs rs:=Jya bs rs;rw[e];exact h.own
 have H:j<rs.length:=by rw[<-h.len];exact(Ob9.1 y).1
 have e:rs.getD j []=rs[j]:=by rw[Oa0,Oa3 H];rfl
 rw[e];refine⟨by rw[Ok5,y,Oa3 H],h.rows j b _ y (Oa3 H),(h.new b (Of6 y)).1,(h.new b (Of6 y)).2,fun e=>hb (e▸Of6 y)⟩
theorem IdW.next {ts rs bs tbk tb name bx rv i xs wr H}(h:IdW ts rs bs tbk tb name bx rv i xs wr)(hi:i<rs.length){b}(hb:bs[i]?=some b){x'}(bK:wr.heap.size<=H.heap.size)(bf:∀ k,k<wr.heap.size->rv.ownBlock≠some k->k≠b->H.heap[k]?=wr.heap[k]?)(bG:Jo H (tb+1) 31 rv ((List.zipWith Je1 xs (Kr4 ts.length i rs)).set i (Je1 x' (Ks6 ts.length i (rs.getD i [])))))(hv:Jv H x'.1 (Ks6 ts.length i (rs.getD i [])))(bJ:∀ y o,x'.1=some ⟨y,o,none⟩->(y=b\/wr.heap.size<=y)/\y<H.heap.size):IdW ts rs bs tbk tb name bx rv (i+1) (xs.set i x') H:=by
 obtain⟨bN,r2,bL,bM,br⟩:=h.rest i b (Oa2 _) hb;have bj:i<bs.length:=by rw[h.bl];exact hi
 have bA:bs[i]=b:=by rw[Oa3 bj]at hb;exact Oj6 hb
 have Y:bs.drop i=b::bs.drop (i+1):=by rw[<-bA];exact Oi1 bj
 have bk:b∉bs.drop (i+1):=by
  have:=h.nd.sublist (List.drop_sublist i bs);rw[Y]at this;exact(Og0.1 this).1
 have bD:∀ c∈bs.drop (i+1),c<wr.heap.size:=fun c K=>by
  obtain⟨j,Z,e⟩:=Od5 K;rw[List.getElem_drop]at e;rw[Of7]at Z;exact(h.rest (i+1+j) c zo (by rw[<-e];exact Oa3 zo)).2.1.lt
 have bH:∀ g,rv.ownBlock=some g->g<wr.heap.size:=fun g e=>(Je h.own e).2;have bI:=Jd h.cells;refine⟨(bf tbk bI h.rvk fun e=>br e.symm).trans h.cells,h.rvk,?_,by rw[Of8];exact h.len,h.bl,fun j x Z I=>?_,fun j c Z K=>?_,h.nd⟩
 ·rw[Qak hi,Qcc (by rw[Kr2];exact h.len)];exact bG
 ·rw[Op2]at I;by_cases e:i=j
  ·subst e;rw[if_pos rfl,if_pos (by rw[h.len];exact hi)]at I;cases I
   refine⟨hv,fun y o e=>?_⟩;obtain⟨q1,q2⟩:=bJ y o e;rcases q1 with rfl|q1
   ·exact⟨bL,q2,bM,br,bk⟩
   have:=r2.lt;refine⟨?_,q2,fun e=>by have:=bH _ e;omega,zo,fun e=>by have:=bD _ e;omega⟩;have:tb<wr.heap.size:=zo;omega
  rw[if_neg e]at I;obtain⟨bz,O⟩:=h.done j x zo I;have bE:∀ y o,x.1=some ⟨y,o,none⟩->y≠b:=fun y o e U=>by
   have:=(O y o e).2.2.2.2;rw[Y,U]at this;exact this (Of4)
  refine⟨bz.of_block bK fun y o e hl=>bf y hl (O y o e).2.2.1 (bE y o e),fun y o e=>?_⟩;obtain⟨q1,q2,bh,M,bi⟩:=O y o e;exact⟨q1,zo,bh,M,fun U=>bi (by rw[Y];exact Og1 _ U)⟩
 obtain⟨q1,q2,bh,M,bi⟩:=h.rest j c zo K;have bB:c≠b:=fun e=>by
  subst e;have bC:c∈bs.drop (i+1):=by
   refine Ok2.2 ⟨j-(i+1),?_⟩;rw[Oh9,show i+1+(j-(i+1))=j by omega];exact K
  exact bk bC
 refine⟨by rw[Op2,if_neg zo];exact q1,q2.of_block (bf c q2.lt M bB),bh,M,bi⟩
def Kr3 (ts:List Int):List Int:=if ts.length<6 then ts++[1]else ts.set 5 1
theorem Kt4 {ts}(h:1<=ts.length/\ts.length<=6):1<=(Kr3 ts).length/\(Kr3 ts).length<=6/\ts.length<=(Kr3 ts).length:=by
 unfold Kr3;split
 ·rw[Oa8,List.length_singleton];omega
 rw[Of8];omega
theorem Kzi {ts}(h:∀ t∈ts,tOk t):∀ t∈Kr3 ts,tOk t:=fun t ht=>by
 unfold Kr3 at ht;split at ht
 ·rcases Od2.1 ht with y|y
  ·exact h t y
  rw[Oc6]at y;exact .inl y
 rcases List.mem_or_eq_of_mem_set ht with y|y
 ·exact h t y
 exact .inl y
theorem Qcy j(y:j<=200):okB 1 (idV j).k (idV j).n (idV j).s=true/\Jg (idV j).n:=by
 refine⟨?_,by unfold Jg idV;simp;omega⟩;simp[okB,okK,idV]
theorem Kxh {ts r j}(h:1<=ts.length/\ts.length<=6)(hr:Kgs ts r)(I:j<=200):Kgs (Kr3 ts) (Ks6 ts.length j r):=by
 obtain⟨hl,ho⟩:=hr;have hv:=Qcy j I;unfold Kr3 Ks6;by_cases y:ts.length<6
 ·rw[if_pos y,if_pos y];refine⟨by rw[Oa8,Oa8,hl];rfl,fun q hq=>?_⟩;by_cases e:q<r.length
  ·rw[Oi2 e];have:(ts++[1]).getD q 0=ts.getD q 0:=by rw[Oa0,Ob0 zo,<-Oa0]
   rw[this];exact ho q e
  have H:q=r.length:=by rw[Oa8,List.length_singleton]at hq;omega
  subst H;rw[Ok8 (Oa2 _)];have:(ts++[1]).getD r.length 0=1:=by rw[Oa0,Ob6 zo,hl];simp
  rw[this];simp only[Oe1,List.getElem_cons_zero];exact hv
 rw[if_neg y,if_neg y];refine⟨by rw[Of8,Of8,hl],fun q hq=>?_⟩;rw[Of8]at hq;by_cases e:q=5
 ·subst e;have:(ts.set 5 1).getD 5 0=1:=by rw[Oa0,Oh0 zo];rfl
  rw[this,List.getElem_set_self];exact hv
 have:(ts.set 5 1).getD q 0=ts.getD q 0:=by rw[Oa0,Od1 (Oc5 e),<-Oa0]
 rw[this,List.getElem_set_ne (Oc5 e)];exact ho q hq
theorem Qa7 {w ts rs Y U rc xs}(h:1<=ts.length/\ts.length<=6)(ht:∀ t∈ts,tOk t)(hr:∀ r∈rs,Kgs ts r)(hl:rs.length<=200)(Z:rs.length<=rc)(hi:Kc w Y (Kr3 ts))(bh:Zd w U xs (Kr4 ts.length rs.length rs)):Uw w Ksd Y U rc (Kr3 ts) xs (Kr4 ts.length rs.length rs):=by
 have M:∀ r∈Kr4 ts.length rs.length rs,Kgs (Kr3 ts) r:=fun r I=>by
  obtain⟨j,y⟩:=Ok2.1 I;have H:j<rs.length:=by have:=(Ob9.1 y).1;rwa [Kr2]at this
  rw[Ktg H,if_pos H]at y;cases y
  have e:rs.getD j []=rs[j]:=by rw[Oa0,Oa3 H];rfl
  rw[e];exact Kxh h (hr _ (Ob3 H)) zo
 have K:=Kt4 h;have O:=Kzi ht;refine⟨⟨zd,⟨⟨K.1,K.2.1⟩,fun j y=>?_⟩,by rw[Kr2];exact hl,fun i hi=>?_⟩,O,fun r I u bf=>?_,hi,bh,by rw[Kr2];exact Z⟩
 ·have:=O _ (Ob3 y);unfold tOk at this;unfold Jnd;simp only[decide_eq_true_iff];omega
 ·have:=M _ (Ob3 hi);exact⟨this.1,fun j y=>(this.2 j y).1⟩
 have:=M r I;obtain⟨j,y,rfl⟩:=Od5 bf;exact(this.2 j y).2
theorem Qaw {ts}(h:1<=ts.length/\ts.length<=6):(if ts.length<6 then ts++[1]else ts).set ((if ts.length<6 then ts++[1]else ts).length-1) 1=Kr3 ts:=by
 unfold Kr3;by_cases y:ts.length<6
 ·simp only[if_pos y];rw[Oa8,List.length_singleton,Nat.add_sub_cancel];apply Oi8;intro j;rw[Op2];by_cases e:ts.length=j
  ·subst e;simp
  rw[if_neg e]
 simp only[if_neg y];rw[show ts.length-1=5 by omega]
abbrev Qc2 (W y:World)(st:Nat)(ts:List Int)(rs:List (List V)):Prop:=Qb9 W y st Ksd ts rs
theorem tkg {P K y Q S H fuel I a w v}i(hi:y[i]?=some H)(M:S w)(h:wpAnyH P K y Q S fuel (I.setIfInBounds i true) (a.put H.dst v) w)(hr:(Region.ready K y I).contains i=true:=by kernel_rfl)(U:Region.free K y I i=true:=by kernel_rfl)(hs:Region.noSelect y=true:=by kernel_rfl)(hy:∀ w,S w->(execOp a.eval H).run P w=.ok (.value v) w:=by intro w O;(try dsimp only at O);go_simp;try rfl)(hQ:∀ c a w,Q (.panic c) (a.put H.dst v) w->Q (.panic c) a w:=by exact fun _ _ _ h=>h)(Y:Region.wanted H (yielded y a.tmps)=true:=by kernel_rfl):wpAnyH P K y Q S (fuel+1) I a w:=
 wpAnyH_take hi hs U hr hQ (.inl ⟨Y,hy⟩) M h
structure Qce (M:Nat->Prop) (w:World) (fa:Nat) (G:World->Prop) (X:World):Prop where
 z:X.heap[fa]?=some (.cells #[.int .i64 0,.int .i64 0,.int .i64 0,.int .i64 0,.int .i64 0] 51 (0,0))
 low:Ju M w X
 new:w.heap.size<=fa
 fin:∀ wx,X.heap.size<=wx.heap.size->(∀ k,k<X.heap.size->k≠fa->wx.heap[k]?=X.heap[k]?)->G wx
theorem Qce.store {H w fa G X}(h:Qce H w fa G X)a b c d e:(((((X.setCell ⟨fa,0,none⟩ (.int .i64 a)).setCell ⟨fa,1,none⟩ (.int .i64 b)).setCell ⟨fa,2,none⟩ (.int .i64 c)).setCell ⟨fa,3,none⟩ (.int .i64 d)).setCell ⟨fa,4,none⟩ (.int .i64 e)).heap[fa]?=some (.cells #[.int .i64 a,.int .i64 b,.int .i64 c,.int .i64 d,.int .i64 e] 51 (0,0))/\Ju H w (((((X.setCell ⟨fa,0,none⟩ (.int .i64 a)).setCell ⟨fa,1,none⟩ (.int .i64 b)).setCell ⟨fa,2,none⟩ (.int .i64 c)).setCell ⟨fa,3,none⟩ (.int .i64 d)).setCell ⟨fa,4,none⟩ (.int .i64 e))/\G (((((X.setCell ⟨fa,0,none⟩ (.int .i64 a)).setCell ⟨fa,1,none⟩ (.int .i64 b)).setCell ⟨fa,2,none⟩ (.int .i64 c)).setCell ⟨fa,3,none⟩ (.int .i64 d)).setCell ⟨fa,4,none⟩ (.int .i64 e)):=by
 have I:=Jk (Jk (Jk (Jk (Jk h.z 0 (.int .i64 a)) 1 (.int .i64 b)) 2 (.int .i64 c)) 3 (.int .i64 d)) 4 (.int .i64 e);simp only[Oa1,List.set_cons_zero,List.set_cons_succ]at I;have y:up H w fa:=.inr h.new;exact⟨I,((((((h.low.mono fun _ _ M=>Or.inl M:Ju (up H w) w X).set y 0 _).set y 1 _).set y 2 _).set y 3 _).set y 4 _).down,h.fin _ (by rw[Jg2];exact Oa2 _) fun k _ K=>Zh _ _ _ _ _ _ _ k K⟩
theorem Jcu.lts {w B g bs R}(h:Jcu w B g bs R):∀ b∈bs,b<w.heap.size:=fun b hb=>by
 obtain⟨i,hi,e⟩:=Od5 hb;exact(h.rows i b (R[i]'(by rw[<-h.len];exact hi)) (by rw[Oa3 hi,e]) (Oa3 _)).lt
theorem Jcu.keepM {w w' y g bs R I}(h:Jcu w y g bs R)(K:Ju I w w')(hl:∀ k,I k->k<y):Jcu w' y g bs R:=
 h.of_blocks (K.block g h.outer.lt fun H=>by have:=hl _ H;have:=h.from_.1;omega) fun b hb=>K.block b (h.lts b hb) fun H=>by have:=hl _ H;have:=(h.from_.2 b hb).1;omega
structure SoR (w:World) (M:Nat->Prop) (st:Nat) (E:DS) (T:TS) (B:Nat) (R:List (List V)) (g Z:Nat) (bs:List Nat) (M':Nat->Prop) (E':DS) (wx:World):Prop where
 z:w.heap.size<=Z
 grid:Jcu wx Z g bs R
 sto:Sto M' wx st E' [T]
 same:Kft E E'
 few:dz E'<=B
 old:∀ k,M k->M' k
 new:∀ k,M' k->M k\/w.heap.size<=k
 low:∀ k,M' k->k<Z
theorem SoR.move {w K y O I st E T B R g Z fa bs Y U}(h:SoR K I st E T B R g Z bs Y U y)(bk:w.heap.size<=K.heap.size)(hs:y.heap.size<=O.heap.size)(M:∀ k,k<y.heap.size->k≠fa->O.heap[k]?=y.heap[k]?)(bj:¬ I fa)(br:fa<K.heap.size\/y.heap.size<=fa):SoR w I st E T B R g Z bs Y U O:=by
 have bi:=h.grid.outer.lt;have bf:=h.grid.lts;have bx:=h.z;have bh:=h.grid.from_;refine⟨Ob2 bk h.z,h.grid.of_blocks (M g bi zo) (fun b hb=>M b (bf b hb) (by have:=(bh.2 b hb).1;have:=bf b hb;omega)),h.sto.stands hs fun k H=>M k (h.sto.lt k H) fun e=>?_,h.same,h.few,h.old,fun k H=>(h.new k H).imp_right fun a=>zo,h.low⟩;subst e;have:=h.sto.lt k H;rcases h.new k H with a|a
 ·exact bj a
 omega
theorem SoR.not {K I y st E T B R g U fa bs H O}(h:SoR K y st E T B R g U bs H O I)(Y:¬ y fa)(Z:fa<K.heap.size\/I.heap.size<=fa):¬ H fa:=fun M=>by
 have:=h.sto.lt _ M;rcases h.new _ M with a|a
 ·exact Y a
 omega
theorem Kxd {ts}(h:∀ t∈ts,tOk t):∀ x,x<(Kr3 ts).length->1<=(Kr3 ts).getD x 0/\(Kr3 ts).getD x 0<=3:=fun x y=>by
 have:=Kzi h ((Kr3 ts)[x]) (Ob3 y);rw[Oa0,Oa3 y];unfold tOk at this;simp only[Option.getD_some];omega
end
open Go.RowKit Go.Shelf Tryz
theorem Qad (n:Nat)(y:n<=100000)W:(Instr.makeSlice 59 (.int .i64 (n:Int)) (.int .i64 (n:Int))).run prog W=.ok (.slice (some ⟨W.heap.size,0,none⟩) n n) (W.alloc (.cells (madeCells #[.bool false] n) 4)):=by
 exact run_make_row' 59 4 (.bool false) 1 zK zK rfl .i64 .i64 n zo zo W
theorem Kzx n:madeCells #[.bool false] n=((List.replicate n false).map Value.bool).toArray:=by
 apply Array.ext
 ·simp[madeCells]
 intro i y H;simp[madeCells,Nat.mod_one]
def Ksz (L:List Nat)(n i:Nat):List Bool:=(List.range n).map fun x=>decide (x∈L.take i)
theorem Ku5 L n i:(Ksz L n i).length=n:=by simp[Ksz]
theorem Kyy L n:Ksz L n 0=List.replicate n false:=by
 unfold Ksz;rw[List.take_zero,Oj9 (g:=fun _=>false) fun x _=>zS,List.map_const',Op1]
theorem Qav {L n i x}(H:L.Nodup)(O:L[i]?=some x)(M:x<n):(Ksz L n i)[x]?=some false:=by
 unfold Ksz;rw[Ob1,Oh6 M];simp only[Option.map_some,Oc9,decide_eq_false_iff_not];intro K;obtain⟨j,I,e⟩:=Od5 K;rw[Oc7]at I;rw[List.getElem_take]at e;obtain⟨hi,y⟩:=Ob9.1 O;have:=(List.nodup_iff_pairwise_ne.1 H);rw[List.pairwise_iff_getElem]at this;exact this j i zo hi zo (e.trans y.symm)
theorem Kyn {L n i x}(I:L[i]?=some x):(Ksz L n i).set x true=Ksz L n (i+1):=by
 apply Oi8;intro y;rw[Op2,Ku5];by_cases hy:y<n
 ·unfold Ksz;rw[Ob1,Ob1,Oh6 hy,Oi7,I];by_cases e:x=y
  ·subst e;simp[hy]
  have H:¬ y=x:=fun h=>e h.symm;simp[e,H]
 rw[Ob4 (l:=Ksz L n (i+1)) (by rw[Ku5];omega),Ob4 (l:=Ksz L n i) (by rw[Ku5];omega)];by_cases e:x=y
 ·rw[if_pos e,if_neg zo]
 rw[if_neg e]
theorem Ky7 c dn cs:(Ksn c dn cs).Nodup:=(Ktm c dn cs).nodup_iff.2 List.nodup_range
structure Qc7 (ts:List Int) (rs:List (List V)) (cs:Cs) (c:Nat) (dn:Bool) (i x:Nat) (R:List V):Prop where
 at_:(Ksn c dn cs)[i]?=some x
 lt:x<rs.length
 row:(Ksh c dn cs (Kr4 ts.length rs.length rs))[i]?=some R
 tab:(Kr4 ts.length rs.length rs)[x]?=some R
 len:R.length=(Kr3 ts).length
 id:R[(Kr3 ts).length-1]?=some (idV x)
 val:R[c]?=some (Kry cs x c)
theorem Kw0 {E T ts rs cs}(H:Kd3 E T Ksd (Kr3 ts) (Kr4 ts.length rs.length rs) cs)(bf:1<=ts.length/\ts.length<=6)(hr:∀ r∈rs,Kgs ts r)(hl:rs.length<=200){c}(bh:c<(Kr3 ts).length)dn{i}(hi:i<rs.length):∃ x R,Qc7 ts rs cs c dn i x R:=by
 have U:nR cs=rs.length:=by rw[H.len,Kr2]
 have bi:i<(Ksn c dn cs).length:=by rw[Kt0,U];exact hi
 obtain⟨x,I⟩:∃ x,(Ksn c dn cs)[i]?=some x:=⟨_,Oa3 bi⟩;have y:x<rs.length:=by
  have:=(Ktm c dn cs).mem_iff.1 (Of6 I);rw[<-U];simpa using this
 have Z:(Kr4 ts.length rs.length rs)[x]?=some (Ks6 ts.length x (rs.getD x [])):=by rw[Ktg y,if_pos y]
 have M:(Kr4 ts.length rs.length rs).getD x []=Ks6 ts.length x (rs.getD x []):=by rw[Oa0,Z];rfl
 have O:rs.getD x []∈rs:=by rw[Oa0,Oa3 y];exact Ob3 y
 have bj:=Kxh (j:=x) bf (hr _ O) zo;refine⟨x,Ks6 ts.length x (rs.getD x []),I,y,?_,Z,bj.1,?_,?_⟩
 ·unfold Ksh;rw[Ob1,I,Option.map_some,M]
 ·have bk:=(hr _ O).1;unfold Ks6 Kr3;by_cases h:ts.length<6
  ·rw[if_pos h,if_pos h,Oa8,List.length_singleton,Nat.add_sub_cancel,<-bk,Ob6 (Oa2 _)];simp
  rw[if_neg h,if_neg h,Of8];have:ts.length-1=5:=zo;rw[this,Oh0 zo]
 have Y:=H.row x (by rw[Kr2];exact y);rw[M]at Y;rw[<-Y];have K:c<cs.length:=by rw[H.good.len];exact bh
 unfold Ji Kry;rw[Ob1,Oa3 K,Option.map_some,Oa0 (l:=cs),Oa3 K];rfl
theorem Zd.first {w a hs rs}(h:Zd w a hs rs)n:Zd w a (hs.take n) (rs.take n):=by
 refine⟨by rw[Oc7,Oc7,h.len],?_,fun i x r y hr=>?_⟩
 ·rw[<-List.take_zipWith];rcases h.cells with H|⟨b,o,H,I,K⟩
  ·exact .inl (by rw[H,List.take_nil])
  refine .inr ⟨b,o,H,I,fun i v hv=>K i v ?_⟩;rw[Oe7]at hv;split at hv
  ·exact hv
  cases hv
 rw[Oe7]at y hr;split at y
 ·rename_i hi
  rw[if_pos hi]at hr;exact h.rows i x r y hr
 cases y
theorem Kuh {w Y g bs ts rs cs c dn i x R}(H:Jcu w Y g bs (Ksh c dn cs (Kr4 ts.length rs.length rs)))(h:Qc7 ts rs cs c dn i x R){m}(O:(Kr3 ts).length=m+1):
  w.cell? ⟨g,i,none⟩=some (.slice (some ⟨bs.getD i 0,0,none⟩) (m+1) (m+1))/\w.cell? ⟨bs.getD i 0,m*3+1,none⟩=some (.int .i64 (x:Int))/\VAt w (bs.getD i 0) (c*3) (Kry cs x c)/\Jv w (some ⟨bs.getD i 0,0,none⟩) R:=by
 obtain⟨hi,e⟩:=Ob9.1 h.row;have bf:i<bs.length:=by rw[H.len];exact hi
 have hb:bs[i]?=some (bs.getD i 0):=by rw[Oa0,Oa3 bf];rfl
 have hv:=(H.rows i _ _ hb h.row).vals;have hl:R.length=m+1:=h.len.trans O;have y:=H.outer.cell (i:=i) hi;have hR:(Ksh c dn cs (Kr4 ts.length rs.length rs)).getD i []=R:=by rw[Oa0,h.row];rfl
 rw[hR]at y;unfold Jad at y;rw[hl]at y;have M:=h.id;rw[O,Nat.add_sub_cancel]at M;rcases id hv with h0|⟨bh,bi,Z,_,U⟩
 ·rw[h0]at hl;cases hl
 cases Z
 have I:=(U _ _ M).2.1;have K:=U _ _ h.val;rw[Od0]at I K;exact⟨y,I,K,hv⟩
attribute [local go_sem] Oc0
def Kxe:Code->Code
 |.seq _ b=>b
 |c=>c
def Ktv:Nat->Code->Code
 |0,c=>c
 |n+1,c=>Ktv n (Kxe c)
def Qcx:Code->Code
 |.seq a _=>a
 |c=>c
def cIn:Code->Code
 |.block _ c=>c
 |.loop c=>c
 |c=>c
def Qcg:Code->Code
 |.cond _ c _=>c
 |c=>c
theorem zaf {p:Prop}(h:p:=by
 refine tkn ?_;refine tkg 23 rfl y ?_;refine tkg 24 rfl y ?_;refine tkn ?_;refine wpAnyH_done zK (NoPanic.normal ?_) _;clear y;go_wp2_with fail
 exact bC.out _ _ _ _ _ _ _ _ _ _ _ _ _ _ _ _ _ _ _ _ _ _ _ _ _ _ _ _ _ _ _ _ _ _ _ _ _ _ _ _ _ _ _ _ _ _ _ _ _ _ _ _ _ _ _ _ _ _ _ _ _ bk (Jb Y.out bi)):p:=h
theorem Qcu {u0 u1 u3 u4 u5 u6 u7 u8 u9 u10 u11 u12 u13 u14 u16 u17 u18 u19 u21 u22 u23 u25 u27 u28 u29 u30 u31 u32 u33 u34 u35 u36 u37 u38 u39 u40 u41 u42 u43 u44 u45 u46 u47 u48 u49 u50 u51 u52 u53 u54 u55 u56 u57 u58 u59 u60 u61 u62 u63 u64 u65 u66 u67 u68 u69 u70 u71 u72 u73 u74 u75 u76 u77 u78 u79 u80 u81 u82 u83 u84 u85 u86 u87 u88 u89 u90 u91 u92 u93 u94 u95 u96 u97 u98 u99 u100 u101 u102 u103 u104 u105 u106 u107 u108 u109 u110 u111 u112 u113 u114 u115 u116 u117 u118 u119 u120 u121 u122 u123 u124 u125 u126 u127 u128 u129 u130 u131 u132 u133 u134 u135 u136 u137 u138 u139 u140 u141 u142 u143 u144 u145 u146 u147 u148 u149 u150 u151 u152 u153 u154 u155 u156 u157 u158 u159 u160 u161 u162 u163 u164 u165 u166 u167 u168 u169 u170 u171 u172 u173 u174 u175 u176 u177 u178 u179 u180 u181 u182 u183 u184 u185 u186 u187 u188 u189 u190 u191 u192 u193 u194 u195 u196 u197 u198 u199 u200 u201 u202 u203 u204 u205 u206 u207 u208 u209 u210 u211 u212 u213 u214 u215 u216 u217 u218 u219 u220 u221 u222 u223 u224 u225 u226 u227 u228 u229 u230 u231 u232 u233 u234 u235 u236 u237 u238 u239 u240 u241 u242 u243 u244 u245 u246 u247 u248 u249 u250 u251 u252 u253 u254 u255 u256 u257 u258 u259 u260 u261 u262 u263 u264 u265 u266 u267 u268 u269 u270 u271 u272 u273 u274 u275 u276 u277 u278 u279 u280 u281 u282 u283 u284 u285 u286 u287 u288 u289 u290 u291 u292 u293 u294 u295 u296 u297 u298 u299 u300 u301 u302 u303}{dn:Bool}{c g n m I b b0 x K:Nat}{cs:Cs}{H}(Q:Exit->Act->World->Prop)(bJ:H.cell? ⟨g,I+1,none⟩=some (.slice (some ⟨b,0,none⟩) (m+1) (m+1))/\H.cell? ⟨g,I,none⟩=some (.slice (some ⟨b0,0,none⟩) (m+1) (m+1))/\H.cell? ⟨b,c*3,none⟩=some (.int .i64 (Kry cs x c).k)/\H.cell? ⟨b,c*3+1,none⟩=some (.int .i64 (Kry cs x c).n)/\H.cell? ⟨b,c*3+2,none⟩=some (.string (Kry cs x c).s)/\H.cell? ⟨b0,c*3,none⟩=some (.int .i64 (Kry cs K c).k)/\H.cell? ⟨b0,c*3+1,none⟩=some (.int .i64 (Kry cs K c).n)/\H.cell? ⟨b0,c*3+2,none⟩=some (.string (Kry cs K c).s))(bI:H.cell? ⟨g,I+1,none⟩=some (.slice (some ⟨b,0,none⟩) (m+1) (m+1))/\H.cell? ⟨g,I,none⟩=some (.slice (some ⟨b0,0,none⟩) (m+1) (m+1))/\H.cell? ⟨b,m*3+1,none⟩=some (.int .i64 (x:Int))/\H.cell? ⟨b0,m*3+1,none⟩=some (.int .i64 (K:Int)))(bD:Kvg (Kry cs x c) (Kry cs K c) dn=false)(bE:Kvg (Kry cs K c) (Kry cs x c) dn=true\/K<x)(bQ:c<m+1)(hi:I+1<n)(bR:n<=200)(hQ:∀ (dm ds bT bU bV bW bX bY bZ ca cb cc cf ci cj cn cu cv cx cy cz cA cB cC cD cE cF cG cH cI cJ cK cL cM cN cO cP cQ cR cS cT cU cV cW cX cY cZ da db dc dd de df dg dh di dj dl dp dq dr:Value) (V:World),Below H.heap.size H V->Q .normal ⟨#[u0,u1,.bool dn,u3,u4,u5,u6,u7,u8,u9,u10,u11,u12,u13,u14,.int .i64 (c:Int),u16,u17,u18,u19,.slice (some ⟨g,0,none⟩) n n,u21,u22,u23,.int .i64 (m:Int),u25,.int .i64 ((I:Int)+1),u27,u28,dm,ds,u31,u32,u33,u34,u35,u36,u37,u38,u39,u40,u41,u42,u43,u44,u45,u46,u47,u48,u49,u50,u51,u52,u53,u54,u55,u56,u57,u58,u59,u60,u61,u62,u63,u64,u65,u66,u67,u68,u69,u70,u71,u72,u73,u74,u75,u76,u77,u78,u79,u80,u81,u82,u83,u84,u85,u86,u87,u88,u89,u90,u91,u92,u93,u94,u95,u96,u97,u98,u99,u100,u101,u102,u103,u104,u105,u106,u107,u108,u109,u110,u111,u112,u113,u114,u115,u116,u117,u118,u119,u120,u121,u122,u123,u124,u125,u126,u127,u128,u129,u130,u131,u132,u133,u134,u135,u136,u137,u138,u139,u140,u141,u142,u143,u144,u145,u146,u147,u148,u149,u150,u151,u152,u153,u154,u155,u156,u157,u158,u159,u160,u161,u162,u163,u164,u165,u166,u167,u168,u169,u170,u171,u172,u173,u174,u175,u176,u177,u178,u179,u180,u181,u182,u183,u184,u185,u186,u187,u188,u189,u190,u191,u192,u193,u194,u195,u196,u197,u198,u199,u200,u201,u202,u203,u204,u205,u206,u207,u208,u209,u210,u211,u212,u213,u214,u215,u216,u217,u218,u219,u220,u221,u222,u223,u224,u225,u226,u227,u228,u229,u230,u231,u232,u233,bT,bU,bV,bW,bX,bY,bZ,ca,cb,cc,cf,ci,cj,cn,cu,cv,cx,cy,cz,cA,cB,cC,cD,cE,cF,cG,cH,cI,cJ,cK,cL,cM,cN,cO,cP,cQ,cR,cS,cT,cU,cV,cW,cX,cY,cZ,da,db,dc,dd,de,df,dg,dh,di,dj,dl,dp,dq,dr,u293,u294,u295,u296,u297,u298,u299,u300,u301,u302,u303],[]⟩ V):
  Code.wp prog (Qcg (Ktv 6 (cIn (Qcx (Kxe (cIn (cIn (Kxe (Qcx (Ktv 19 (Tryz.f3.body.getD .skip))))))))))) Q ⟨#[u0,u1,.bool dn,u3,u4,u5,u6,u7,u8,u9,u10,u11,u12,u13,u14,.int .i64 (c:Int),u16,u17,u18,u19,.slice (some ⟨g,0,none⟩) n n,u21,u22,u23,.int .i64 (m:Int),u25,.int .i64 ((I:Int)+1),u27,u28,u29,u30,u31,u32,u33,u34,u35,u36,u37,u38,u39,u40,u41,u42,u43,u44,u45,u46,u47,u48,u49,u50,u51,u52,u53,u54,u55,u56,u57,u58,u59,u60,u61,u62,u63,u64,u65,u66,u67,u68,u69,u70,u71,u72,u73,u74,u75,u76,u77,u78,u79,u80,u81,u82,u83,u84,u85,u86,u87,u88,u89,u90,u91,u92,u93,u94,u95,u96,u97,u98,u99,u100,u101,u102,u103,u104,u105,u106,u107,u108,u109,u110,u111,u112,u113,u114,u115,u116,u117,u118,u119,u120,u121,u122,u123,u124,u125,u126,u127,u128,u129,u130,u131,u132,u133,u134,u135,u136,u137,u138,u139,u140,u141,u142,u143,u144,u145,u146,u147,u148,u149,u150,u151,u152,u153,u154,u155,u156,u157,u158,u159,u160,u161,u162,u163,u164,u165,u166,u167,u168,u169,u170,u171,u172,u173,u174,u175,u176,u177,u178,u179,u180,u181,u182,u183,u184,u185,u186,u187,u188,u189,u190,u191,u192,u193,u194,u195,u196,u197,u198,u199,u200,u201,u202,u203,u204,u205,u206,u207,u208,u209,u210,u211,u212,u213,u214,u215,u216,u217,u218,u219,u220,u221,u222,u223,u224,u225,u226,u227,u228,u229,u230,u231,u232,u233,u234,u235,u236,u237,u238,u239,u240,u241,u242,u243,u244,u245,u246,u247,u248,u249,u250,u251,u252,u253,u254,u255,u256,u257,u258,u259,u260,u261,u262,u263,u264,u265,u266,u267,u268,u269,u270,u271,u272,u273,u274,u275,u276,u277,u278,u279,u280,u281,u282,u283,u284,u285,u286,u287,u288,u289,u290,u291,u292,u293,u294,u295,u296,u297,u298,u299,u300,u301,u302,u303],[]⟩ H:=by
 have bO:=zh bJ;have bA:Hid ((H.cell? ⟨g,I+1,none⟩=some (.slice (some ⟨b,0,none⟩) (m+1) (m+1))/\H.cell? ⟨g,I,none⟩=some (.slice (some ⟨b0,0,none⟩) (m+1) (m+1))/\H.cell? ⟨b,m*3+1,none⟩=some (.int .i64 (x:Int))/\H.cell? ⟨b0,m*3+1,none⟩=some (.int .i64 (K:Int)))/\(Kvg (Kry cs K c) (Kry cs x c) dn=true\/K<x)):=⟨bI,bE⟩;have bG:∀ X,Calls prog 15 #[(Kry cs x c).val,(Kry cs K c).val,.bool dn] X fun e w'=>e=.returned (.bool false)/\Below X.heap.size X w':=fun X=>by
  have h:=Kvz (Kry cs x c) (Kry cs K c) dn X;rw[bD]at h;exact h
 have bM:=Krx bG;have dv:(0:Int)<=(m:Int):=zo;have j4:(m:Int)<(m:Int)+1:=zo;have dw:(0:Int)<=(c:Int):=zo;have dx:(c:Int)<(m:Int)+1:=zo;have dy:(0:Int)<=(I:Int):=zo;have dA:(I:Int)<(n:Int):=zo;have dB:wrap64 (I:Int)=(I:Int):=by unfold wrap64;omega
 have dC:IntKind.i64.wrap (I:Int)=(I:Int):=by rw[Od4];omega
 have dD:(0:Int)<=(I:Int)+1:=zo;have dE:(I:Int)+1<(n:Int):=zo;have bC:=Krx hQ;clear bG bJ bI bD bE bQ hi bR hQ;dsimp only[Ktv,Kxe,Qcx,cIn,Qcg,Tryz.f3,Option.getD];go_upto_region 38 with fail
 refine wp_region_noPanic (wp_region_held_drew (S:=fun X=>X.cell? ⟨g,I+1,none⟩=some (.slice (some ⟨b,0,none⟩) (m+1) (m+1))/\X.cell? ⟨g,I,none⟩=some (.slice (some ⟨b0,0,none⟩) (m+1) (m+1))/\X.cell? ⟨b,c*3,none⟩=some (.int .i64 (Kry cs x c).k)/\X.cell? ⟨b,c*3+1,none⟩=some (.int .i64 (Kry cs x c).n)/\X.cell? ⟨b,c*3+2,none⟩=some (.string (Kry cs x c).s)/\X.cell? ⟨b0,c*3,none⟩=some (.int .i64 (Kry cs K c).k)/\X.cell? ⟨b0,c*3+1,none⟩=some (.int .i64 (Kry cs K c).n)/\X.cell? ⟨b0,c*3+2,none⟩=some (.string (Kry cs K c).s)) zK bO.out (fun y=>?_));have br:Below H.heap.size H H.drew:=⟨rfl,rfl,rfl,Oa2 _,fun _ _=>rfl⟩;generalize H.drew=dt at br y |-;refine tkg 0 rfl y ?_;refine tkg 1 rfl y ?_;refine tkg 2 rfl y ?_;refine tkg 3 rfl y ?_;refine tkn ?_;refine tkg 4 rfl y ?_;refine tkg 5 rfl y ?_;refine tkg 6 rfl y ?_;refine tkg 7 rfl y ?_;refine tkn ?_;refine tkg 8 rfl y ?_;refine tkg 9 rfl y ?_;refine tkg 10 rfl y ?_;refine tkg 11 rfl y ?_;refine tkn ?_;refine tkg 12 rfl y ?_;refine tkg 13 rfl y ?_;refine tkg 14 rfl y ?_;refine tkg 15 rfl y ?_;refine tkn ?_;refine tkr 16 rfl fun bj hK=>?_;go_simp;refine(bM.out _).mono ?_;rintro e Z ⟨rfl,O⟩;go_simp;refine hK.out _ _ ⟨Ja O y.1,Ja O y.2.1,Ja O y.2.2.1,Ja O y.2.2.2.1,Ja O y.2.2.2.2.1,Ja O y.2.2.2.2.2.1,Ja O y.2.2.2.2.2.2.1,Ja O y.2.2.2.2.2.2.2⟩ (fun y=>?_);clear hK bj;refine tkj 17 rfl y ?_;refine tkn ?_;refine wpAnyH_done zK (NoPanic.normal ?_) _;have bK:Hid (Below H.heap.size H Z):=Jb br O;have bP:=zh y;clear y br O;obtain⟨bf,bz⟩:∃ bf,bf=Kvg (Kry cs K c) (Kry cs x c) dn:=⟨_,rfl⟩;have bH:∀ X,Calls prog 15 #[(Kry cs K c).val,(Kry cs x c).val,.bool dn] X fun e w'=>e=.returned (.bool bf)/\Below X.heap.size X w':=fun X=>by
  rw[bz];exact Kvz (Kry cs K c) (Kry cs x c) dn X
 have bN:=Krx bH;have bL:Hid (bf=true\/K<x):=by rw[bz];exact bA.out.2
 clear bH bz;go_upto_region 39 with fail
 refine wp_region_noPanic (wp_region_held_drew (S:=fun X=>X.cell? ⟨g,I+1,none⟩=some (.slice (some ⟨b,0,none⟩) (m+1) (m+1))/\X.cell? ⟨g,I,none⟩=some (.slice (some ⟨b0,0,none⟩) (m+1) (m+1))/\X.cell? ⟨b,c*3,none⟩=some (.int .i64 (Kry cs x c).k)/\X.cell? ⟨b,c*3+1,none⟩=some (.int .i64 (Kry cs x c).n)/\X.cell? ⟨b,c*3+2,none⟩=some (.string (Kry cs x c).s)/\X.cell? ⟨b0,c*3,none⟩=some (.int .i64 (Kry cs K c).k)/\X.cell? ⟨b0,c*3+1,none⟩=some (.int .i64 (Kry cs K c).n)/\X.cell? ⟨b0,c*3+2,none⟩=some (.string (Kry cs K c).s)) zK bP.out (fun y=>?_));have bx:Below Z.heap.size Z Z.drew:=⟨rfl,rfl,rfl,Oa2 _,fun _ _=>rfl⟩;generalize Z.drew=du at bx y |-;refine tkg 0 rfl y ?_;refine tkg 1 rfl y ?_;refine tkg 2 rfl y ?_;refine tkg 3 rfl y ?_;refine tkn ?_;refine tkg 4 rfl y ?_;refine tkg 5 rfl y ?_;refine tkg 6 rfl y ?_;refine tkg 7 rfl y ?_;refine tkn ?_;refine tkg 8 rfl y ?_;refine tkg 9 rfl y ?_;refine tkg 10 rfl y ?_;refine tkg 11 rfl y ?_;refine tkn ?_;refine tkg 12 rfl y ?_;refine tkg 13 rfl y ?_;refine tkg 14 rfl y ?_;refine tkg 15 rfl y ?_;refine tkn ?_;refine tkr 16 rfl fun bj hK=>?_;go_simp;refine(bN.out _).mono ?_;rintro e M ⟨rfl,U⟩;go_simp;refine hK.out _ _ ⟨Ja U y.1,Ja U y.2.1,Ja U y.2.2.1,Ja U y.2.2.2.1,Ja U y.2.2.2.2.1,Ja U y.2.2.2.2.2.1,Ja U y.2.2.2.2.2.2.1,Ja U y.2.2.2.2.2.2.2⟩ (fun y=>?_);clear hK bj;refine tkj 17 rfl y ?_;refine tkn ?_;refine wpAnyH_done zK (NoPanic.normal ?_) _;have Y:Hid (Below H.heap.size H M):=Jb bK.out (Jb bx U);clear y bx U;have bh:=bA.out.1;have bB:Hid (M.cell? ⟨g,I+1,none⟩=some (.slice (some ⟨b,0,none⟩) (m+1) (m+1))/\M.cell? ⟨g,I,none⟩=some (.slice (some ⟨b0,0,none⟩) (m+1) (m+1))/\M.cell? ⟨b,m*3+1,none⟩=some (.int .i64 (x:Int))/\M.cell? ⟨b0,m*3+1,none⟩=some (.int .i64 (K:Int))):=⟨Ja Y.out bh.1,Ja Y.out bh.2.1,Ja Y.out bh.2.2.1,Ja Y.out bh.2.2.2⟩;clear bh;go_upto_region 40 with fail
 cases bf with
 |true=>
  refine wp_region_noPanic (wp_region_held_drew (S:=fun X=>X.cell? ⟨g,I+1,none⟩=some (.slice (some ⟨b,0,none⟩) (m+1) (m+1))/\X.cell? ⟨g,I,none⟩=some (.slice (some ⟨b0,0,none⟩) (m+1) (m+1))/\X.cell? ⟨b,m*3+1,none⟩=some (.int .i64 (x:Int))/\X.cell? ⟨b0,m*3+1,none⟩=some (.int .i64 (K:Int))) zK bB.out (fun y=>?_));have bi:Below M.heap.size M M.drew:=⟨rfl,rfl,rfl,Oa2 _,fun _ _=>rfl⟩;generalize M.drew=bk at bi y |-;refine tkg 0 rfl y ?_;refine tkg 1 rfl y ?_;refine tkn ?_;refine tkg 2 rfl y ?_;refine tkg 3 rfl y ?_;refine tkg 4 rfl y ?_;refine tkn ?_;refine tku 5 rfl y ?_;refine tku 6 rfl y ?_;refine tku 7 rfl y ?_;refine tku 8 rfl y ?_;refine tku 9 rfl y ?_;refine tku 10 rfl y ?_;refine tku 11 rfl y ?_;refine tku 12 rfl y ?_;refine tku 13 rfl y ?_;refine tku 14 rfl y ?_;refine tku 15 rfl y ?_;refine tku 16 rfl y ?_;refine tku 17 rfl y ?_;refine tku 18 rfl y ?_;refine tku 19 rfl y ?_;refine tku 20 rfl y ?_;refine tku 21 rfl y ?_;refine tku 22 rfl y ?_;exact zaf
 |false=>
  have bS:K<x:=bL.out.elim (fun h=>by cases h) id;have dG:¬ ((x:Int)<(K:Int)):=zo;clear bS;refine wp_region_noPanic (wp_region_held_drew (S:=fun X=>X.cell? ⟨g,I+1,none⟩=some (.slice (some ⟨b,0,none⟩) (m+1) (m+1))/\X.cell? ⟨g,I,none⟩=some (.slice (some ⟨b0,0,none⟩) (m+1) (m+1))/\X.cell? ⟨b,m*3+1,none⟩=some (.int .i64 (x:Int))/\X.cell? ⟨b0,m*3+1,none⟩=some (.int .i64 (K:Int))) zK bB.out (fun y=>?_));have bi:Below M.heap.size M M.drew:=⟨rfl,rfl,rfl,Oa2 _,fun _ _=>rfl⟩;generalize M.drew=bk at bi y |-;refine tkg 0 rfl y ?_;refine tkg 1 rfl y ?_;refine tkn ?_;refine tkg 2 rfl y ?_;refine tkg 3 rfl y ?_;refine tkg 4 rfl y ?_;refine tkn ?_;refine tkg 5 rfl y ?_;refine tkg 6 rfl y ?_;refine tkg 7 rfl y ?_;refine tkg 8 rfl y ?_;refine tkn ?_;refine tkg 9 rfl y ?_;refine tkg 10 rfl y ?_;refine tkg 11 rfl y ?_;refine tkg 12 rfl y ?_;refine tkn ?_;refine tkg 13 rfl y ?_;refine tkg 14 rfl y ?_;refine tkg 15 rfl y ?_;refine tkg 16 rfl y ?_;refine tkn ?_;refine tkg 17 rfl y ?_;refine tkg 18 rfl y ?_;refine tkg 19 rfl y ?_;refine tkg 20 rfl y ?_;refine tkn ?_;refine tkg 21 rfl y ?_;refine tkg 22 rfl y ?_;exact zaf
attribute [local go_sem] Oc0
structure Qcb (w W:World) (ts:List Int) (rs:List (List V)) (c k:Nat) (cs:Cs) (E:DS) (T:TS) (tbk gt tc':Nat) (ra:Option Addr) (rc:Nat) (xs:List (Option Addr×Nat)):Prop where
 nw:Below w.heap.size w W
 tr:Uw W Ksd (some ⟨gt,0,none⟩) ra rc (Kr3 ts) xs (Kr4 ts.length rs.length rs)
 q1:W.cell? ⟨tbk,1,none⟩=some (.slice (some ⟨gt,0,none⟩) (Kr3 ts).length tc')
 q2:W.cell? ⟨tbk,2,none⟩=some (.slice ra rs.length rc)
 c:c<(Kr3 ts).length
 k:k<201
 r2:(1<=ts.length/\ts.length<=6)/\(∀ t∈ts,tOk t)/\(∀ r∈rs,Kgs ts r)/\rs.length<=rc/\rs.length<=200
 one:Kd3 E T Ksd (Kr3 ts) (Kr4 ts.length rs.length rs) cs
theorem zaw {p:Prop}(h:p:=by
 clear cS hi bH cR;go_wp2_with (go_at_call 16;refine ci.mono ?_;rintro dh de ⟨rfl,cf⟩)
 go_ret
 exact⟨rfl,Jb cD.out cf⟩):p:=h
theorem Qcq {u0 u1 u3 u4 u5 u6 u7 u8 u9 u10 u11 u13 u14 u17 u18 u19 u21 u23 u26 u27 u28 u29 u30 u31 u32 u33 u34 u35 u36 u37 u38 u39 u40 u41 u42 u43 u44 u45 u46 u47 u48 u49 u50 u51 u52 u53 u54 u55 u56 u57 u58 u59 u60 u61 u62 u63 u64 u65 u66 u67 u68 u69 u70 u71 u72 u73 u74 u75 u76 u77 u78 u79 u80 u81 u82 u83 u84 u85 u86 u87 u88 u89 u90 u91 u92 u93 u94 u95 u96 u97 u98 u99 u100 u101 u102 u103 u104 u105 u106 u107 u108 u109 u110 u111 u112 u113 u114 u115 u116 u117 u118 u119 u120 u121 u122 u123 u124 u125 u126 u127 u128 u129 u130 u131 u132 u133 u134 u135 u136 u137 u138 u139 u140 u141 u142 u143 u144 u145 u146 u147 u148 u149 u150 u151 u152 u153 u154 u155 u156 u157 u158 u159 u160 u161 u162 u163 u164 u165 u166 u167 u168 u169 u170 u171 u172 u173 u174 u175 u176 u177 u178 u179 u180 u181 u182 u183 u184 u185 u186 u187 u188 u189 u190 u191 u192 u193 u194 u195 u196 u197 u198 u199 u200 u201 u202 u203 u204 u205 u206 u207 u208 u209 u210 u211 u212 u213 u214 u215 u216 u217 u218 u219 u220 u221 u222 u223 u224 u225 u226 u227 u228 u229 u230 u231 u232 u233 u234 u235 u236 u237 u238 u239 u240 u241 u242 u243 u244 u245 u246 u247 u248 u249 u250 u251 u252 u253 u254 u255 u256 u257 u258 u259 u260 u261 u262 u263 u264 u265 u266 u267 u268 u269 u270 u271 u272 u273 u274 u275 u276 u277 u278 u279 u280 u281 u282 u283 u284 u285 u286 u287 u288 u289 u290 u291 u292 u293 u294 u295 u296 u297 u298 u299 u300 u301 u302 u303 w W ts rs dn c k cs E T tbk bN cA rc cx xs bj O bT g df g2 Zb m sb bs dg}(M:Qcb w W ts rs c k cs E T tbk bN cA cx rc xs)(bQ:Jcu bj df g bs (Ksh c dn cs (Kr4 ts.length rs.length rs))/\Jcu bj Zb g2 dg ((Ksh c dn cs (Kr4 ts.length rs.length rs)).take k)/\Below W.heap.size W bj)(cT:(Kr3 ts).length=m+1/\m<=5)(cW:Below bj.heap.size bj O)(cV:sb=O.heap.size)(cP:bT.heap[sb]?=some (.cells ((Ksz (Ksn c dn cs) rs.length 0).map Value.bool).toArray 4 (0,0)))(cO:Below O.heap.size O bT):
  Code.wp prog (Ktv 19 (Tryz.f3.body.getD .skip)) (bodyPost prog Tryz.f3 fun e w'=>e=.returned (.bool true)/\Below w.heap.size w w') ⟨#[u0,u1,.bool dn,u3,u4,u5,u6,u7,u8,u9,u10,u11,.pointer (some ⟨tbk,0,none⟩),u13,u14,.int .i64 (c:Int),.int .i64 (k:Int),u17,u18,u19,.slice (some ⟨g,0,none⟩) rs.length rs.length,u21,.slice (some ⟨g2,0,none⟩) (min k rs.length) (min k rs.length),u23,.int .i64 (m:Int),.slice (some ⟨sb,0,none⟩) rs.length rs.length,u26,u27,u28,u29,u30,u31,u32,u33,u34,u35,u36,u37,u38,u39,u40,u41,u42,u43,u44,u45,u46,u47,u48,u49,u50,u51,u52,u53,u54,u55,u56,u57,u58,u59,u60,u61,u62,u63,u64,u65,u66,u67,u68,u69,u70,u71,u72,u73,u74,u75,u76,u77,u78,u79,u80,u81,u82,u83,u84,u85,u86,u87,u88,u89,u90,u91,u92,u93,u94,u95,u96,u97,u98,u99,u100,u101,u102,u103,u104,u105,u106,u107,u108,u109,u110,u111,u112,u113,u114,u115,u116,u117,u118,u119,u120,u121,u122,u123,u124,u125,u126,u127,u128,u129,u130,u131,u132,u133,u134,u135,u136,u137,u138,u139,u140,u141,u142,u143,u144,u145,u146,u147,u148,u149,u150,u151,u152,u153,u154,u155,u156,u157,u158,u159,u160,u161,u162,u163,u164,u165,u166,u167,u168,u169,u170,u171,u172,u173,u174,u175,u176,u177,u178,u179,u180,u181,u182,u183,u184,u185,u186,u187,u188,u189,u190,u191,u192,u193,u194,u195,u196,u197,u198,u199,u200,u201,u202,u203,u204,u205,u206,u207,u208,u209,u210,u211,u212,u213,u214,u215,u216,u217,u218,u219,u220,u221,u222,u223,u224,u225,u226,u227,u228,u229,u230,u231,u232,u233,u234,u235,u236,u237,u238,u239,u240,u241,u242,u243,u244,u245,u246,u247,u248,u249,u250,u251,u252,u253,u254,u255,u256,u257,u258,u259,u260,u261,u262,u263,u264,u265,u266,u267,u268,u269,u270,u271,u272,u273,u274,u275,u276,u277,u278,u279,u280,u281,u282,u283,u284,u285,u286,u287,u288,u289,u290,u291,u292,u293,u294,u295,u296,u297,u298,u299,u300,u301,u302,u303],[]⟩ bT:=by
 have da:Hid (Below w.heap.size w W):=M.nw;have dc:Hid (Uw W Ksd (some ⟨bN,0,none⟩) cx rc (Kr3 ts) xs (Kr4 ts.length rs.length rs)):=M.tr;have cF:Hid (W.cell? ⟨tbk,1,none⟩=some (.slice (some ⟨bN,0,none⟩) (Kr3 ts).length cA)/\W.cell? ⟨tbk,2,none⟩=some (.slice cx rs.length rc)):=⟨M.q1,M.q2⟩;have cE:Hid (1<=(Kr3 ts).length/\(Kr3 ts).length<=6/\ts.length<=(Kr3 ts).length):=Kt4 M.r2.1;have bB:Hid (c<(Kr3 ts).length):=M.c;have cZ:Hid (k<201):=M.k;have I:Hid ((1<=ts.length/\ts.length<=6)/\(∀ t∈ts,tOk t)/\(∀ r∈rs,Kgs ts r)/\rs.length<=rc/\rs.length<=200):=M.r2;have bD:Hid (Kd3 E T Ksd (Kr3 ts) (Kr4 ts.length rs.length rs) cs):=M.one;have bi:=zh bQ;have bh:=zh cT;have bS:=zh cW;have db:=zh cV;clear M bQ cT cW cV;dsimp only[Ktv,Kxe,Tryz.f3,Option.getD];go_wp2_with fail
 go_loopw [26] (fun cB wr=>∃ i:Nat,i<=rs.length/\cB=.int .i64 (i:Int)/\Hid (Below O.heap.size O wr/\wr.heap[sb]?=some (.cells ((Ksz (Ksn c dn cs) rs.length i).map Value.bool).toArray 4 (0,0)))) (fun cB _=>rs.length-(intOf cB).toNat)
 case atStart=>exact⟨0,Ob7 _,rfl,cO,cP⟩
 case round=>
  obtain⟨i,hi,rfl,hI⟩:=hrel;have bC:=zh hI;clear hI cP cO;by_cases bH:i<rs.length
  ·obtain⟨x,R,bf⟩:=Kw0 bD.out I.out.1 I.out.2.2.1 I.out.2.2.2.2 bB.out dn bH;have U:=zh bf;have Y:=Jb bS.out bC.out.1;have bR:Hid (Below W.heap.size W wr/\Below bj.heap.size bj wr):=⟨Jb bi.out.2.2 Y,Y⟩;obtain⟨g1,bM,bW,bX⟩:=Kuh (bi.out.1.below Y) bf bh.out.1;obtain⟨b,hb⟩:∃ b,b=bs.getD i 0:=⟨_,rfl⟩;rw[<-hb]at g1 bM bW bX;have cI:Hid (VAt wr b (c*3) (Kry cs x c)/\Jv wr (some ⟨b,0,none⟩) R/\b=bs.getD i 0/\wr.cell? ⟨g,i,none⟩=some (.slice (some ⟨b,0,none⟩) (m+1) (m+1))/\wr.cell? ⟨b,m*3+1,none⟩=some (.int .i64 (x:Int))):=⟨bW,bX,hb,g1,bM⟩;have u1:=Ja bR.out.1 cF.out.1;rw[bh.out.1]at u1;have j1:(0:Int)<=(i:Int):=zo;have j2:(i:Int)<(rs.length:Int):=zo;have dx:(0:Int)<=(m:Int):=zo;have j4:(m:Int)<(m:Int)+1:=zo;have j5:¬ ((x:Int)<0):=zo;have j6:¬ ((rs.length:Int)<=(x:Int)):=by have:=bf.lt;omega
   have j7:(0:Int)<=(x:Int):=zo;have dr:(x:Int)<(rs.length:Int):=by have:=bf.lt;omega
   have Z:Hid (wrap64 ((i:Int)+1)=((i+1:Nat):Int)/\i<rs.length):=⟨by have:=I.out.2.2.2.2;unfold wrap64;omega,bH⟩;clear bf bW bX hb hi bH Y;go_upto_region 30 with fail
   refine wp_region_held_drew (S:=fun X=>X.cell? ⟨g,i,none⟩=some (.slice (some ⟨b,0,none⟩) (m+1) (m+1))/\X.cell? ⟨tbk,1,none⟩=some (.slice (some ⟨bN,0,none⟩) (m+1) cA)/\X.cell? ⟨b,m*3+1,none⟩=some (.int .i64 (x:Int))) zK ⟨g1,u1,bM⟩ (fun y=>?_);have bA:Below wr.heap.size wr wr.drew:=⟨rfl,rfl,rfl,Oa2 _,fun _ _=>rfl⟩;generalize wr.drew=bx at bA y |-;refine tkg 0 rfl y ?_;refine tkg 1 rfl y ?_;refine tkg 2 rfl y ?_;refine tkg 3 rfl y ?_;refine tkn ?_;refine tkg 4 rfl y ?_;refine tkg 5 rfl y ?_;refine tkg 6 rfl y ?_;refine tkg 7 rfl y ?_;refine tkn ?_;refine tkg 8 rfl y ?_;refine tkg 9 rfl y ?_;refine tkn ?_;refine tkg 10 rfl y ?_;refine tkg 11 rfl y ?_;refine tkg 12 rfl y ?_;refine tkg 13 rfl y ?_;refine tkn ?_;refine tkg 14 rfl y ?_;refine tkg 15 rfl y ?_;refine tkg 16 rfl y ?_;refine tkg 17 rfl y ?_;refine tkn ?_;refine tkg 18 rfl y ?_;refine tkg 19 rfl y ?_;refine tkg 20 rfl y ?_;refine tkn ?_;refine tkg 21 rfl y ?_;refine tkg 22 rfl y ?_;refine tkg 23 rfl y ?_;refine tkg 24 rfl y ?_;refine tkn ?_;refine tkg 25 rfl y ?_;refine tkg 26 rfl y ?_;refine tkg 27 rfl y ?_;refine tkg 28 rfl y ?_;refine tkn ?_;refine tkg 29 rfl y ?_;refine tkg 30 rfl y ?_;refine tkg 31 rfl y ?_;refine tkg 32 rfl y ?_;refine tkn ?_;refine wpAnyH_done zK ?_ _;have cK:=y.1;have di:=y.2.2;clear y g1 bM u1;go_upto_region 33 with fail
   obtain⟨rb,cX,cy,cz,hra,_,cj,cv⟩:=(dc.out.rows.below (Jb bR.out.1 bA)).at (i:=x) (by rw[Kr2];exact U.out.lt);have bZ:(Kr4 ts.length rs.length rs)[x]'(by rw[Kr2];exact U.out.lt)=R:=(Ob9.1 U.out.tab).2;have bY:R.length=m+1:=U.out.len.trans bh.out.1;rw[bZ]at cv;rw[bZ,bY]at cj;have u2:=Ja (Jb bR.out.1 bA) cF.out.2;rw[hra]at u2;have cG:Hid (∀ X,Below bx.heap.size bx X->Calls prog 14 #[.slice (some ⟨b,0,none⟩) (m+1) (m+1),.slice cy (m+1) cz] X fun e w'=>e=.returned (.bool true)/\Below X.heap.size X w'):=fun X cM=>by
    have h:=Jqj (some ⟨b,0,none⟩) cy (m+1) cz R R X (by have:=bh.out.2;unfold maxLen;omega) (cI.out.2.1.below (Jb bA cM)) (cv.below cM) true zS;rw[bY]at h;exact h
   clear cv bZ bY hra;refine wp_region_held_drew (S:=fun X=>X.cell? ⟨g,i,none⟩=some (.slice (some ⟨b,0,none⟩) (m+1) (m+1))/\X.cell? ⟨tbk,2,none⟩=some (.slice (some ⟨rb,cX,none⟩) rs.length rc)/\X.cell? ⟨rb,cX+x,none⟩=some (.slice cy (m+1) cz)) zK ⟨cK,u2,cj⟩ (fun y=>?_);have bO:Below bx.heap.size bx bx.drew:=⟨rfl,rfl,rfl,Oa2 _,fun _ _=>rfl⟩;generalize bx.drew=dv at bO y |-;refine tkg 0 rfl y ?_;refine tkg 1 rfl y ?_;refine tkg 2 rfl y ?_;refine tkg 3 rfl y ?_;refine tkn ?_;refine tkg 4 rfl y ?_;refine tkg 5 rfl y ?_;refine tkg 6 rfl y ?_;refine tkg 7 rfl y ?_;refine tkn ?_;refine tkg 8 rfl y ?_;refine tkn ?_;refine tkr 9 rfl fun dd hK=>?_;go_simp;refine(cG.out _ bO).mono ?_;rintro e bz ⟨rfl,bI⟩;have cC:Hid (Below wr.heap.size wr bz):=Jb bA (Jb bO bI);go_simp;refine hK.out _ _ ⟨Ja bI y.1,Ja bI y.2.1,Ja bI y.2.2⟩ (fun y=>?_);clear hK dd;refine tkj 10 rfl y ?_;refine tkn ?_;refine wpAnyH_done zK ?_ _;clear y bI bO bA cK di cj u2 cG;have bP:=(cC.out.block _ (Jd bC.out.2)).trans bC.out.2;have s1:bz.cell? ⟨sb,x,none⟩=some (.bool false):=by
    have h:=Qav (n:=rs.length) (Ky7 c dn cs) U.out.at_ U.out.lt;simp[World.cell?,bP,h]
   have s2:=Lib.frozen_of_heap bP x;have cU:(bz.setCell ⟨sb,x,none⟩ (.bool true)).heap[sb]?=some (.cells ((Ksz (Ksn c dn cs) rs.length (i+1)).map Value.bool).toArray 4 (0,0)):=by
    have h:=Jk bP x (.bool true);rw[Oa1,<-Op0,Kyn U.out.at_]at h;exact h
   have br:Hid (Below O.heap.size O (bz.setCell ⟨sb,x,none⟩ (.bool true))/\(bz.setCell ⟨sb,x,none⟩ (.bool true)).heap[sb]?=some (.cells ((Ksz (Ksn c dn cs) rs.length (i+1)).map Value.bool).toArray 4 (0,0))):=⟨(Jb bC.out.1 cC.out).setCell (p:=⟨sb,x,none⟩) (Oo0 db.out.symm) _,cU⟩;clear cU bP;go_upto_region 37 with fail
   clear s1 s2;generalize bz.setCell ⟨sb,x,none⟩ (.bool true)=K at br |-;by_cases h0:i=0
   ·subst h0;go_wp2_with fail
    go_roundw
    case rel=>exact⟨1,Z.out.2,rfl,br.out⟩
    case measure=>have:=Z.out.2;simp[intOf];omega
   obtain⟨H,rfl⟩:∃ H,i=H+1:=⟨i-1,zo⟩;obtain⟨bk,du,ca⟩:=Kw0 bD.out I.out.1 I.out.2.2.1 I.out.2.2.2.2 bB.out dn (show H<rs.length by have:=Z.out.2;omega);have cb:=Jb bS.out br.out.1;obtain⟨bK,bU,bE,_⟩:=Kuh (bi.out.1.below cb) ca bh.out.1;obtain⟨bL,bV,bG,_⟩:=Kuh (bi.out.1.below cb) U.out bh.out.1;rw[<-cI.out.2.2.1]at bL bV bG;obtain⟨b0,cN⟩:∃ b0,b0=bs.getD H 0:=⟨_,rfl⟩;rw[<-cN]at bK bU bE;have cn:=Qbu bD.out.good (by have:=cE.out.2.1;omega) (Kxd I.out.2.1) bB.out ca.at_ U.out.at_;have bJ:Hid ((K.cell? ⟨g,H+1,none⟩=some (.slice (some ⟨b,0,none⟩) (m+1) (m+1))/\K.cell? ⟨g,H,none⟩=some (.slice (some ⟨b0,0,none⟩) (m+1) (m+1))/\K.cell? ⟨b,c*3,none⟩=some (.int .i64 (Kry cs x c).k)/\K.cell? ⟨b,c*3+1,none⟩=some (.int .i64 (Kry cs x c).n)/\K.cell? ⟨b,c*3+2,none⟩=some (.string (Kry cs x c).s)/\K.cell? ⟨b0,c*3,none⟩=some (.int .i64 (Kry cs bk c).k)/\K.cell? ⟨b0,c*3+1,none⟩=some (.int .i64 (Kry cs bk c).n)/\K.cell? ⟨b0,c*3+2,none⟩=some (.string (Kry cs bk c).s))/\(K.cell? ⟨g,H+1,none⟩=some (.slice (some ⟨b,0,none⟩) (m+1) (m+1))/\K.cell? ⟨g,H,none⟩=some (.slice (some ⟨b0,0,none⟩) (m+1) (m+1))/\K.cell? ⟨b,m*3+1,none⟩=some (.int .i64 (x:Int))/\K.cell? ⟨b0,m*3+1,none⟩=some (.int .i64 (bk:Int)))/\Kvg (Kry cs x c) (Kry cs bk c) dn=false/\(Kvg (Kry cs bk c) (Kry cs x c) dn=true\/bk<x)):=⟨⟨bL,bK,bG.1,bG.2.1,bG.2.2,bE.1,bE.2.1,bE.2.2⟩,⟨bL,bK,bV,bU⟩,cn.1,cn.2⟩;have dA:(0:Int)<(H:Int)+1:=zo;clear cn bK bU bE bL bV bG cN ca cb h0 j1 j2 j5 j6 j7 dr;go_upto_if 233 with fail
   refine wp_cond (t:=true) (by first|rfl|kernel_rfl|simp[Act.eval]|trace_state) ?_;refine Qcu _ bJ.out.1 bJ.out.2.1 bJ.out.2.2.1 bJ.out.2.2.2 (by have:=bB.out;have:=bh.out.1;omega) Z.out.2 I.out.2.2.2.2 ?_;intro fJ fN dB dC dD dE dG dH dI dJ dK dL dM dN dO dP dQ dR dS dT dU dV dW dX dY dZ fc fd fe ff fg fh fi fj fk fl fm fo fp fq fr fs ft fu fv fw fx fy fz fA fB fC fD fE fF fG fH fI fK fL fM cJ cc;have cY:Hid (Below O.heap.size O cJ/\cJ.heap[sb]?=some (.cells ((Ksz (Ksn c dn cs) rs.length (H+1+1)).map Value.bool).toArray 4 (0,0))):=⟨Jb br.out.1 cc,(cc.block _ (Jd br.out.2)).trans br.out.2⟩;clear cc;go_wp2_with fail
   go_roundw
   case rel=>exact⟨H+1+1,Z.out.2,by first|rw[Z.out.1]|(have h:=Z.out.1;simp only[Int.natCast_add,Int.natCast_one]at h |-;rw[h])|trace_state,cY.out⟩
   case measure=>
    have dw:=Z.out.2;have bQ:wrap64 ((H:Int)+1+1)=((H+2:Nat):Int):=by have:=I.out.2.2.2.2;unfold wrap64;omega
    rw[bQ];show rs.length-(((H+2:Nat):Int)).toNat<rs.length-(((H+1:Nat):Int)).toNat;omega
  obtain rfl:i=rs.length:=zo;have Y:=Jb bS.out bC.out.1;have cD:Hid (Below w.heap.size w wr):=Jb da.out (Jb bi.out.2.2 Y);have cu:(Ksh c dn cs (Kr4 ts.length rs.length rs)).length=rs.length:=by rw[Ksh,Oa6,Kt0,bD.out.len,Kr2]
  have cR:=cZ.out;have cH:Hid (∀ n,n=min k rs.length->Calls prog 16 #[.slice (some ⟨g2,0,none⟩) (min k rs.length) (min k rs.length),.slice (some ⟨g,0,none⟩) n rs.length] wr fun e w'=>e=.returned (.bool true)/\Below wr.heap.size wr w'):=fun n dp=>by
   subst dp;have dl:∀ r∈(Ksh c dn cs (Kr4 ts.length rs.length rs)).take (min k rs.length),r.length<=maxLen:=fun r hr=>by
    have dm:=Om9 hr;obtain⟨j,cQ⟩:=Ok2.1 dm;have dj:j<rs.length:=by have:=(Ob9.1 cQ).1;omega
    obtain⟨x,R,bf⟩:=Kw0 bD.out I.out.1 I.out.2.2.1 I.out.2.2.2.2 bB.out dn dj;have:R=r:=Oj6 (bf.row.symm.trans cQ);rw[<-this,bf.len];have:=cE.out.2.1;unfold maxLen;omega
   have dq:(Ksh c dn cs (Kr4 ts.length rs.length rs)).take k=(Ksh c dn cs (Kr4 ts.length rs.length rs)).take (min k rs.length):=by rw[List.take_eq_take_min,cu]
   have cL:=(bi.out.2.1.below Y).rowsAt;rw[dq]at cL;have h:=Jn2 (some ⟨g2,0,none⟩) (some ⟨g,0,none⟩) (min k rs.length) rs.length _ _ ((Ksh c dn cs (Kr4 ts.length rs.length rs)).take (min k rs.length)) ((Ksh c dn cs (Kr4 ts.length rs.length rs)).take (min k rs.length)) wr (by rw[Oc7];have:=I.out.2.2.2.2;unfold maxLen;omega) dl cL ((bi.out.1.below Y).rowsAt.first (min k rs.length)) true zS;rw[Oc7,cu,Oj1 (Nat.min_le_right _ _)]at h;exact h
  clear cu Y;by_cases cS:rs.length<k
  ·have ds:(rs.length:Int)<(k:Int):=zo;have ci:=cH.out rs.length zo;have dt:(0:Int)<=(rs.length:Int):=zo;exact zaw
  have ds:¬ ((rs.length:Int)<(k:Int)):=zo;have ci:=cH.out k zo;have dt:(0:Int)<=(k:Int):=zo;have dy:(k:Int)<=(rs.length:Int):=zo;exact zaw
attribute [local go_sem] Oc0
theorem Qbz {y p:Act->World->Prop}{a:Act}{w}(h:p a w)(hK:∀ a w,p a w->y a w):y a w:=hK a w h
theorem Qcm {u0 u1 u3 u4 u5 u6 u7 u8 u9 u10 u11 u13 u18 u19 u24 u25 u26 u27 u28 u29 u30 u31 u32 u33 u34 u35 u36 u37 u38 u39 u40 u41 u42 u43 u44 u45 u46 u47 u48 u49 u50 u51 u52 u53 u54 u55 u56 u57 u58 u59 u60 u61 u62 u63 u64 u65 u66 u67 u68 u69 u70 u71 u72 u73 u74 u75 u76 u77 u78 u79 u80 u81 u82 u83 u84 u85 u86 u87 u88 u89 u90 u91 u92 u93 u94 u95 u96 u97 u98 u99 u100 u101 u102 u103 u104 u105 u106 u107 u108 u109 u110 u111 u112 u113 u114 u115 u116 u117 u118 u119 u120 u121 u122 u123 u124 u125 u126 u127 u128 u129 u130 u131 u132 u133 u134 u135 u136 u137 u138 u139 u140 u141 u142 u143 u144 u145 u146 u147 u148 u149 u150 u151 u152 u153 u154 u155 u156 u157 u158 u159 u160 u161 u162 u163 u164 u165 u166 u167 u168 u169 u170 u171 u172 u173 u174 u175 u176 u177 u178 u179 u180 u181 u182 u183 u184 u185 u186 u187 u188 u189 u190 u191 u192 u193 u194 u195 u196 u197 u198 u199 u200 u201 u202 u203 u204 u205 u206 u207 u208 u209 u210 u211 u212 u213 u214 u215 u216 u217 u218 u219 u220 u221 u222 u223 u224 u225 u226 u227 u228 u229 u230 u231 u232 u233 u234 u235 u236 u237 u238 u239 u240 u241 u242 u243 u244 u245 u246 u247 u248 u249 u250 u251 u252 u253 u254 u255 u256 u257 u258 u259 u260 u261 u262 u263 u264 u265 u266 u267 u268 u269 u270 u271 u272 u273 u274 u275 u276 u277 u278 u279 u280 u281 u282 u283 u284 u285 u286 u287 u288 u289 u290 u291 u292 u293 u294 u295 u296 u297 u298 u299 u300 u301 u302 u303 w W ts rs dn c k cs E T tbk bx bM rc bk xs H g bY g2 Zb fa fb st bs bZ}(I:Qcb w W ts rs c k cs E T tbk bx bM bk rc xs)(bj:Jcu H bY g bs (Ksh c dn cs (Kr4 ts.length rs.length rs))/\Jcu H Zb g2 bZ ((Ksh c dn cs (Kr4 ts.length rs.length rs)).take k)/\Below W.heap.size W H)(bH:H.heap[fa]?=some (.cells #[.int .i64 0,.int .i64 (-1),.int .i64 (-1),.int .i64 (-1),.int .i64 (-1)] 51 (0,0)))(bI:H.heap[fb]?=some (.cells #[.int .i64 0,.int .i64 (-1),.int .i64 (-1),.int .i64 (-1),.int .i64 (-1)] 51 (0,0)))(bJ:∀ X,Below H.heap.size H X->Calls prog 9 #[.pointer (some ⟨st,0,none⟩)] X fun e bV=>e=.returned (.int .i64 ((Js E.pages:Nat):Int))/\bV=X):
  Code.wp prog (Ktv 16 (Tryz.f3.body.getD .skip)) (bodyPost prog Tryz.f3 fun e w'=>e=.returned (.bool true)/\Below w.heap.size w w') ⟨#[u0,u1,.bool dn,u3,u4,u5,u6,u7,u8,u9,u10,u11,.pointer (some ⟨tbk,0,none⟩),u13,.pointer (some ⟨st,0,none⟩),.int .i64 (c:Int),.int .i64 (k:Int),.int .i64 ((Js E.pages:Nat):Int),u18,u19,.slice (some ⟨g,0,none⟩) rs.length rs.length,.pointer (some ⟨fa,0,none⟩),.slice (some ⟨g2,0,none⟩) (min k rs.length) (min k rs.length),.pointer (some ⟨fb,0,none⟩),u24,u25,u26,u27,u28,u29,u30,u31,u32,u33,u34,u35,u36,u37,u38,u39,u40,u41,u42,u43,u44,u45,u46,u47,u48,u49,u50,u51,u52,u53,u54,u55,u56,u57,u58,u59,u60,u61,u62,u63,u64,u65,u66,u67,u68,u69,u70,u71,u72,u73,u74,u75,u76,u77,u78,u79,u80,u81,u82,u83,u84,u85,u86,u87,u88,u89,u90,u91,u92,u93,u94,u95,u96,u97,u98,u99,u100,u101,u102,u103,u104,u105,u106,u107,u108,u109,u110,u111,u112,u113,u114,u115,u116,u117,u118,u119,u120,u121,u122,u123,u124,u125,u126,u127,u128,u129,u130,u131,u132,u133,u134,u135,u136,u137,u138,u139,u140,u141,u142,u143,u144,u145,u146,u147,u148,u149,u150,u151,u152,u153,u154,u155,u156,u157,u158,u159,u160,u161,u162,u163,u164,u165,u166,u167,u168,u169,u170,u171,u172,u173,u174,u175,u176,u177,u178,u179,u180,u181,u182,u183,u184,u185,u186,u187,u188,u189,u190,u191,u192,u193,u194,u195,u196,u197,u198,u199,u200,u201,u202,u203,u204,u205,u206,u207,u208,u209,u210,u211,u212,u213,u214,u215,u216,u217,u218,u219,u220,u221,u222,u223,u224,u225,u226,u227,u228,u229,u230,u231,u232,u233,u234,u235,u236,u237,u238,u239,u240,u241,u242,u243,u244,u245,u246,u247,u248,u249,u250,u251,u252,u253,u254,u255,u256,u257,u258,u259,u260,u261,u262,u263,u264,u265,u266,u267,u268,u269,u270,u271,u272,u273,u274,u275,u276,u277,u278,u279,u280,u281,u282,u283,u284,u285,u286,u287,u288,u289,u290,u291,u292,u293,u294,u295,u296,u297,u298,u299,u300,u301,u302,u303],[]⟩ H:=by
 have cj:Hid (Below w.heap.size w W):=I.nw;have cv:Hid (Uw W Ksd (some ⟨bx,0,none⟩) bk rc (Kr3 ts) xs (Kr4 ts.length rs.length rs)):=I.tr;have cn:Hid (W.cell? ⟨tbk,1,none⟩=some (.slice (some ⟨bx,0,none⟩) (Kr3 ts).length bM)/\W.cell? ⟨tbk,2,none⟩=some (.slice bk rs.length rc)):=⟨I.q1,I.q2⟩;have bD:Hid (1<=(Kr3 ts).length/\(Kr3 ts).length<=6/\ts.length<=(Kr3 ts).length):=Kt4 I.r2.1;have cf:Hid (c<(Kr3 ts).length):=I.c;have ci:Hid (k<201):=I.k;have bR:Hid ((1<=ts.length/\ts.length<=6)/\(∀ t∈ts,tOk t)/\(∀ r∈rs,Kgs ts r)/\rs.length<=rc/\rs.length<=200):=I.r2;have cu:Hid (Kd3 E T Ksd (Kr3 ts) (Kr4 ts.length rs.length rs) cs):=I.one;have bU:=Krx I;have bS:=zh bj;have bE:=Krx bJ;have u1:=Ja bj.2.2 I.q1;have u2:=Ja bj.2.2 I.q2;clear I bj bJ;dsimp only[Ktv,Kxe,Tryz.f3,Option.getD];have ca:=Jjl 0;go_upto_region 23 with fail
 refine wp_region_held_drew (S:=fun X=>X.heap[fa]?=some (.cells #[.int .i64 0,.int .i64 (-1),.int .i64 (-1),.int .i64 (-1),.int .i64 (-1)] 51 (0,0))/\X.heap[fb]?=some (.cells #[.int .i64 0,.int .i64 (-1),.int .i64 (-1),.int .i64 (-1),.int .i64 (-1)] 51 (0,0))/\X.cell? ⟨tbk,2,none⟩=some (.slice bk rs.length rc)) zK ⟨bH,bI,u2⟩ (fun y=>?_);have bB:Below H.heap.size H H.drew:=⟨rfl,rfl,rfl,Oa2 _,fun _ _=>rfl⟩;generalize H.drew=cx at bB y |-;refine tkg 0 rfl y ?_ (hy:=by intro X bA;obtain⟨M,O,bz⟩:=bA;have c0:=zc 0 M;have c1:=zc 1 M;have c2:=zc 2 M;have c3:=zc 3 M;have c4:=zc 4 M;clear M O bz;go_simp;try rfl);refine tkn ?_;refine tkr 1 rfl fun U hK=>?_;go_simp;refine(Jfu _).mono ?_;rintro e bW ⟨rfl,Y⟩;have bG:Below H.heap.size H bW:=Jb bB Y;go_simp;refine hK.out _ _ ⟨(Y.block _ (Jd y.1)).trans y.1,(Y.block _ (Jd y.2.1)).trans y.2.1,Ja Y y.2.2⟩ (fun y=>?_);clear hK U;refine tkj 2 rfl y ?_;refine tkj 3 rfl y ?_;refine tkn ?_;refine tkg 4 rfl y ?_ (hy:=by intro X bA;obtain⟨M,O,bz⟩:=bA;have c0:=zc 0 O;have c1:=zc 1 O;have c2:=zc 2 O;have c3:=zc 3 O;have c4:=zc 4 O;clear M O bz;go_simp;try rfl);refine tkn ?_;refine tkr 5 rfl fun U hK=>?_;go_simp;refine(Jfu _).mono ?_;rintro e bX ⟨rfl,Z⟩;have bh:Below H.heap.size H bX:=Jb bG Z;go_simp;refine hK.out _ _ ⟨(Z.block _ (Jd y.1)).trans y.1,(Z.block _ (Jd y.2.1)).trans y.2.1,Ja Z y.2.2⟩ (fun y=>?_);clear hK U;refine tkg 6 rfl y ?_;refine tkg 7 rfl y ?_;refine tkg 8 rfl y ?_;refine tkn ?_;refine tkg 9 rfl y ?_;refine tkg 10 rfl y ?_;refine tkg 11 rfl y ?_;refine tkg 12 rfl y ?_;refine tkn ?_;refine tkg 13 rfl y ?_;refine tkg 14 rfl y ?_;refine tkg 15 rfl y ?_;refine tkg 16 rfl y ?_;refine tkn ?_;refine tkg 17 rfl y ?_;refine tkg 19 rfl y ?_;refine tkn ?_;refine tkr 18 rfl fun U hK=>?_;go_simp;refine(bE.out _ bh).mono ?_;rintro e K ⟨rfl,cc⟩;subst cc;go_simp;refine hK.out _ _ y (fun y=>?_);clear hK U;refine tkg 20 rfl y ?_;refine tkg 21 rfl y ?_;refine tkn ?_;refine wpAnyH_done zK ?_ _;have bN:=Ja bh u1;obtain⟨m,bC⟩:∃ m,(Kr3 ts).length=m+1:=⟨(Kr3 ts).length-1,by have:=bD.out;omega⟩;rw[bC]at bN;have br:Hid ((Kr3 ts).length=m+1/\m<=5):=⟨bC,by have:=bD.out;omega⟩;have bK:wrap64 (m:Int)=(m:Int):=by have:=br.out;unfold wrap64;omega
 have bL:wrap64 (((m+1:Nat):Int)-1)=(m:Int):=by have:=br.out;unfold wrap64;omega
 have cy:∀ W,_:=Qad rs.length (by have:=bR.out.2.2.2.2;omega);have bT:=zh bh;clear bB Y bG Z bh bH bI u1 u2 bE ca bC y;go_upto_region 26 with fail
 first|rw[bK]|rw[bL]
 clear bN bK bL;go_cut [25] from 161 to 163 (fun s bO=>∃ sb:Nat,s=.slice (some ⟨sb,0,none⟩) rs.length rs.length/\sb=K.heap.size/\bO.heap[sb]?=some (.cells ((Ksz (Ksn c dn cs) rs.length 0).map Value.bool).toArray 4 (0,0))/\Below K.heap.size K bO)
 case first=>
  have bi:(K.alloc (.cells (madeCells #[.bool false] rs.length) 4)).heap[K.heap.size]?=some (.cells ((Ksz (Ksn c dn cs) rs.length 0).map Value.bool).toArray 4 (0,0)):=by
   rw[Kyy,<-Kzx];exact heap_alloc_new K _
  have bf:Below K.heap.size K (K.alloc (.cells (madeCells #[.bool false] rs.length) 4)):=Jc (Oa5 _ _) _;have bQ:=Krx bi;have bP:=Krx bf;clear bi bf;go_wp2_with fail
  go_meet
  case rel=>exact⟨_,rfl,rfl,bQ.out,bP.out⟩
 case rest=>
  obtain⟨sb,rfl,cb,bi,bf⟩:=hcut;refine Qbz ?_ zM;exact Qcq bU.out bS.out br.out bT.out cb bi bf
