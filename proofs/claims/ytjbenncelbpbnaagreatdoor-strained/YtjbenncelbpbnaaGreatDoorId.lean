/- Run of a Sort on any disk: the rows in order, or the disk's error at its node. -/
import Derived.Test.YtjbenncelbpbnaaGreatDoorPq
set_option maxRecDepth 100000
namespace Go.Proofs.YtjbenncelbpbnaaGreatDoor
open Go.RowKit Go.Shelf Tryz
theorem Kye {w0 y a0 a1 a2 O q wr pg pl ex bz U bf Y Z}(K:Jax w0 a0 a1 a2 O q wr pg pl ex bz)(bx:Jig w0 [ex,pl,a0,a1,a2,O,q,wr,pg] U bf Y Z)(hb:Below w0.heap.size w0 y){v I j eb}(bj:Yu y v (if I=true then q else wr) none (some (-1)))(br:y.heap[eb]?=some (.cells #[.int .i64 j,v] 107 (0,0))):
  Calls prog 25 #[.slice none 0 0,.iface 105 (.pointer (some ⟨eb,0,none⟩))] y fun e w'=>e=.returned (.tuple #[.slice none 0 0,Ko (if I=true then 5 else 6) j (-1) (-1) (-1)])/\Below y.heap.size y w':=by
 have bh:=bj.errV.plan br;have H:=K.m.nd;simp only[Og0,Of1,Oi0,or_false,not_or]at H;have bk:Jby a1 a2 O q wr pg pl ex U bf Y Z (if I=true then q else wr)=if I=true then 5 else 6:=by
  unfold Jby;cases I<;>simp[Ne.symm H.2.1.2.2.2.1,Ne.symm H.2.2.1.2.2.1,Ne.symm H.2.2.2.1.2.1,Ne.symm H.2.1.2.2.1,Ne.symm H.2.2.1.2.1,Ne.symm H.2.2.2.1.1,Ne.symm H.2.2.2.2.1.1]
 have bi:∃ c t,y.heap[(if I=true then q else wr).block]?=some (.cells c t (0,0)):=by
  cases I
  ·exact Kg hb K.m.bw
  exact Kg hb K.m.bq
 refine Jhu _ _ _ _ _ _ _ y ⟨_,_,rfl⟩ fun W hW=>?_;have M:=Jb hb hW;have:=Jic _ _ (some j) none none (some (-1)) none none W (bh.below hW) (Kg hW bi) a0 a1 a2 O q wr pg pl ex U bf Y Z (K.e.below M) (K.m.below M) (K.m2.below M) (bx.below M);rw[bk]at this;exact this
def Qda (c:Nat)(dn:Bool)(cs:Cs)(rs:List (List V))(bu:Nat)(E:DS)(e:Ending)(w':World)(H:Nat):Prop:=
 (∃ g bs,e=.returned (.tuple #[.slice (some ⟨g,0,none⟩) (rs.length) (rs.length),Ko 0 (-1) (-1) (-1) (-1)])/\Jcu w' H g bs (Ku7 c dn cs rs)) \/
 bu<rs.length/\∃ y,Kso E y/\e=.returned (.tuple #[.slice none 0 0,Ko (if y=true then 5 else 6) 1 (-1) (-1) (-1)])
theorem Kxb I(st:Nat)E T cs ts rs w(h:Sto I w st E [T])(H:Kd3 E T Ksa ts rs cs)(cu:rs.length<=200)(bk:ts.length<=6)(hty:∀ x,x<ts.length->1<=ts.getD x 0/\ts.getD x 0<=3)a0 a1 a2 bU q wr pg pl ex bT w0(br:Jax w0 a0 a1 a2 bU q wr pg pl ex bT)(bK:Below w0.heap.size w0 w)(bJ:∀ k,I k->w0.heap.size<=k)(c:Nat)dn(bL:c<ts.length)(nb kb:Nat)(ci:w.heap[nb]?=some (.cells ((Ksz kb).flatMap ndC).toArray 41 (0,0)))(bN:w.heap[kb]?=some (.cells #[.int .i64 (c:Int),.int .i64 0,.bool dn,.int .i64 0] 44 (0,0)))(ca:¬ I kb)(z bu:Nat)(bl sd:Int)(cz:1<=z)(cA:z<=1000)(bz:2<=bu)(bW:rs.length+bu<=231)(cc:0<=bl)(cf:bl<=4096)(cy:Jg sd)(B:Nat)(cQ:B<=800000)(bZ:dz E<=B):
  Calls prog 12 #[.pointer (some ⟨st,0,none⟩),.agg #[.slice (some ⟨nb,0,none⟩) 2 2],.agg #[.int .i64 (z:Int),.int .i64 (bu:Int),.int .i64 bl,.int .i64 sd]] w fun e w'=>Ju I w w'/\∃ bi M Z,w.heap.size<=bi/\Qda c dn cs rs bu E e w' bi/\Sto M w' st Z [T]/\Kft E Z/\dz Z<=B+50000/\(∀ k,I k->M k)/\(∀ k,M k->I k\/w.heap.size<=k)/\∀ k,M k->k<bi:=by
 have cb:∀ V,Ju I w V->V.heap[kb]?=some (.cells #[.int .i64 (c:Int),.int .i64 0,.bool dn,.int .i64 0] 44 (0,0)):=fun V bx=>(bx.block kb (Jd bN) ca).trans bN;obtain⟨bO,bP⟩:=Qa5 (tab:=Ye E [T]) (c:=c) (dn:=dn) H.tab;have hlen:=H.len;have cn:1<=cs.length:=by rw[H.good.len];omega
 have bB:nR (Jac (Ye E [T]) (Ksk c dn))=rs.length:=by
  rw[bO];rw[Jr8 _ _ cn,Kvg,hlen]
 obtain⟨bG,bS,bH,cB,bQ,_⟩:=br.m3;have cj:∀ (j:Nat) (v:Value) (W:World),¬ ERp (Ye E [T]) (Ksk c dn) bG bS bH pg j v W:=fun j v W bA=>by
  obtain⟨_,n,hn,bR⟩:=bA;match j,hn with
  |0,hn=>
   cases hn
   rcases bR with⟨_,p,b,hp,_⟩|⟨h0,_⟩|⟨U,_⟩
   ·rw[H.tab]at hp;cases hp
   ·exact h0 rfl
   cases U
  |1,hn=>
   cases hn
   rcases bR with⟨h0,_⟩|⟨_,eb,kk,r,_,hr,bA,_⟩|⟨U,_⟩
   ·cases h0
   ·exact bA rfl
   cases U
 refine(Kv3 I st E [T] w h H.ok H.all a0 a1 a2 bU q wr pg pl ex bT w0 br bK bJ (Ksk c dn) [ts,ts] (Kyt H.tys bL dn) (fun n hn h0=>?_) (fun _=>by rw[bB];omega) (fun n hn h0 K bk=>?_) (fun j n y h0 K bk=>?_) (fun j n y U=>?_) (fun j n y bI=>?_) nb 0 2 (Ksz kb) rfl (Jfm ci) (fun V bx j n nd y bf=>?_) z bu bl sd cz cA bz zo cc cf cy 6 psN (Qcc B) ⟨fun sch cx=>?_,Kxd bz,fun j=>by show B+10000*min j 5<=B+10000*min (j+1) 5;omega,fun j=>by show B+10000*min j 5<=930000;omega,fun j n y K _ cP sch e cv=>?_⟩ bZ (fun O l bj nd row col pg W=>Qbl (Ye E [T]) (Ksk c dn) O l bj nd row col pg W\/bu<rs.length/\∃ Y,Kso E Y/\l=.slice none 0 0/\bj=(if Y=true then 5 else 6)/\nd=1/\row=-1/\col=-1/\pg=-1) (fun O l c nd row col pg cN cO cR hk hr=>hr.imp (fun hr=>?_) id) (fun O l c nd row col pg W hr=>.inl hr) bG bS bH cB bQ fun O bX j v eb bD cD=>?_).mono fun e w' hp=>?_
 ·simp only[Ksk,Of1,Oi0,or_false]at hn;rcases hn with rfl|rfl
  ·exact H.find
  cases h0
 ·simp only[Ksk,Of1,Oi0,or_false]at hn;rcases hn with rfl|rfl
  ·exact absurd rfl h0
  exact absurd rfl K
 ·match j,y with
  |0,y=>cases y;exact absurd rfl h0
  |1,y=>cases y;exact absurd rfl K
 ·match j,y with
  |0,y=>cases y;cases U
  |1,y=>cases y;cases U
 ·match j,y with
  |0,y=>cases y;cases bI
  |1,y=>cases y;cases bI
 ·match j,y,bf with
  |0,y,bf=>cases y;cases bf;exact⟨rfl,rfl,rfl,fun h=>absurd h zd,fun h=>absurd h zd,rfl,rfl,fun h=>absurd h zd⟩
  |1,y,bf=>cases y;cases bf;exact⟨rfl,rfl,rfl,fun h=>absurd h (by show ¬ (5=1\/5=2);omega),fun _=>⟨kb,0,1,rfl,Qav (cb V bx)⟩,rfl,rfl,fun _=>⟨rfl,fun h=>absurd h (by show ¬ (5=6);omega)⟩⟩
 ·have hs:sch=ts:=by simpa using cx
  subst hs;exact⟨zo,hty⟩
 ·match j,y with
  |0,y=>cases y;cases K
  |1,y=>
   cases y
   rw[bP]at e;subst e;cases cv
   exact Qbz (c:=c) (dn:=dn) H.good bk hty bL (by rw[hlen];exact cu) bz (by rw[hlen];exact bW) zo
 ·obtain⟨cE,cF,cG,cH,cI,cJ,g,bs',cK,bE⟩:=hr;exact⟨cE,cF,cG,cH,cI,cJ,g,bs',cK,bE.of_blocks (hk g bE.from_.1) fun b hb=>hk b (bE.from_.2 b hb).1⟩
 ·rcases bD with bD|⟨Y,b,_,_,⟨n,hn,K,bh⟩,bY,bC⟩
  ·exact(cj _ _ _ bD).elim
  match j,hn with
  |0,hn=>cases hn;cases K
  |1,hn=>
   cases hn
   rw[bP,hlen]at bh;refine(Kye br bQ (Ksw bK bJ bX) bY cD).mono fun e w' hp=>?_;obtain⟨rfl,cC⟩:=hp;exact⟨cC,_,_,_,_,_,_,rfl,.inr ⟨bh,Y,bC,rfl,rfl,rfl,rfl,rfl,rfl⟩⟩
 obtain⟨hk,O,l,bj,nd,row,col,cS,bV,rfl,hR,M,Z,s1,s2,s3,s4,cL,cM⟩:=hp;refine⟨hk,O.heap.size,M,Z,bV,?_,s1,s2,Ob2 s3 (by show B+10000*min 2 5<=B+50000;omega),s4,cL,cM⟩;rcases hR with⟨rfl,rfl,rfl,rfl,rfl,_,g,bs,rfl,bM⟩|⟨bh,Y,bC,rfl,rfl,rfl,rfl,rfl,rfl⟩
 ·rw[bB,bO,Qax hlen H.row]at bM;rw[bB];exact .inl ⟨g,bs,rfl,bM⟩
 exact .inr ⟨bh,Y,bC,rfl⟩
structure SoX (w:World) (M:Nat->Prop) (st:Nat) (E:DS) (T:TS) (B:Nat) (p:Option Addr) (R:List (List V)) (M':Nat->Prop) (E':DS) (wx:World):Prop where
 rows:(∃ g bs,p=some ⟨g,0,none⟩/\Jcu wx w.heap.size g bs R/\¬ M' g/\∀ b∈bs,¬ M' b)\/p=none/\R=[]
 sto:Sto M' wx st E' [T]
 same:Kft E E'
 few:dz E'<=B
 keep:Ju M w wx
 new:∀ k,M' k->M k\/w.heap.size<=k
theorem SoX.rowsAt {w H st E T B p R I y wx}(h:SoX w H st E T B p R I y wx):∃ xs,Zd wx p xs R:=by
 rcases h.rows with⟨g,bs,rfl,K,_⟩|⟨rfl,rfl⟩
 ·exact⟨_,K.rowsAt⟩
 exact⟨[],rfl,.inl rfl,fun i h r hh=>by simp at hh⟩
def Qcg (H:List (List V))(why:Prop)(R:List (List V))(y fn:Int):Prop:=(y=0/\fn=-1/\R=H)\/(why/\R=[]/\fn=1/\(y=5\/y=6))
theorem Kvf {E T name ts rs cs}(h:Kd3 E T name ts rs cs)c dn:(Ku7 c dn cs rs).length=rs.length:=by rw[Ku7,Oa6,Kvg,h.len]
theorem Qat {c dn cs rs n}(h:∀ r∈rs,r.length<=n):∀ r∈Ku7 c dn cs rs,r.length<=n:=fun r hr=>by
 obtain⟨i,_,rfl⟩:=Of0.1 hr;by_cases hi:i<rs.length
 ·show (rs.getD i []).length<=n;rw[Oa0,Oa3 hi];exact h _ (Ob3 hi)
 show (rs.getD i []).length<=n;rw[Oa0,Ob4 zo];simp
theorem Qbt E(h:dz E<=132000):Js E.pages<=132000:=Ob2 (Kad E.pages) (Ob2 (Kxu zo) h)
theorem Kvs {y r:Nat}(H:y<=132001)(h:r<12):∃ q:Nat,IntKind.i64.wrap ((y:Int)+(r:Int))=(q:Int)/\Hid (q=y+r):=⟨y+r,by rw[Od4];omega,rfl⟩
theorem Qb9 {y:Nat}(H:y<=132000):∃ q:Nat,IntKind.i64.wrap ((y:Int)+1)=(q:Int)/\Hid (q=y+1):=⟨y+1,by rw[Od4];omega,rfl⟩
theorem Qce H(st:Nat)E T cs ts rs w(h:Sto H w st E [T])(Y:Kd3 E T Ksa ts rs cs)(bN:rs.length<=200)(bk:ts.length<=6)(hty:∀ x,x<ts.length->1<=ts.getD x 0/\ts.getD x 0<=3)a0 a1 a2 bj q wr pg pl ex bi w0(bz:Jax w0 a0 a1 a2 bj q wr pg pl ex bi)(bB:Below w0.heap.size w0 w)(bx:∀ k,H k->w0.heap.size<=k)(c:Nat)dn(bE:c<ts.length)(nb kb:Nat)(bM:w.heap[nb]?=some (.cells ((Ksz kb).flatMap ndC).toArray 41 (0,0)))(bI:w.heap[kb]?=some (.cells #[.int .i64 (c:Int),.int .i64 0,.bool dn,.int .i64 0] 44 (0,0)))(bH:¬ H kb)(z bu:Nat)(bl sd:Int)(bP:1<=z)(bQ:z<=1000)(bC:2<=bu)(bD:rs.length+bu<=231)(bJ:0<=bl)(bK:bl<=4096)(bO:Jg sd)(B:Nat)(br:B<=800000)(bG:dz E<=B):
  Calls prog 12 #[.pointer (some ⟨st,0,none⟩),.agg #[.slice (some ⟨nb,0,none⟩) 2 2],.agg #[.int .i64 (z:Int),.int .i64 (bu:Int),.int .i64 bl,.int .i64 sd]] w fun e w'=>∃ p R U fn K I,e=.returned (.tuple #[.slice p R.length R.length,Ko U fn (-1) (-1) (-1)])/\SoX w H st E T (B+50000) p R K I w'/\Qcg (Ku7 c dn cs rs) (bu<rs.length/\∃ M,Kso E M) R U fn:=by
 refine(Kxb H st E T cs ts rs w h Y bN bk hty a0 a1 a2 bj q wr pg pl ex bi w0 bz bB bx c dn bE nb kb bM bI bH z bu bl sd bP bQ bC bD bJ bK bO B br bG).mono fun e w' hp=>?_;obtain⟨hk,bR,K,I,Z,bA,s1,s2,s3,s4,bf,bh⟩:=hp;rcases bA with⟨g,bs,rfl,y⟩|⟨bL,M,hy,rfl⟩
 ·have hl:=Kvf Y c dn;refine⟨_,Ku7 c dn cs rs,0,-1,K,I,by rw[hl],⟨.inl ⟨g,bs,rfl,⟨y.len,y.outer,y.rows,⟨Ob2 Z y.from_.1,fun b hb=>⟨Ob2 Z (y.from_.2 b hb).1,(y.from_.2 b hb).2⟩⟩,y.nodup⟩,fun O=>?_,fun b hb O=>?_⟩,s1,s2,s3,hk,bf⟩,.inl ⟨rfl,rfl,rfl⟩⟩
  ·have:=bh _ O;have:=y.from_.1;omega
  have:=bh _ O;have:=(y.from_.2 b hb).1;omega
 refine⟨none,[],_,1,K,I,rfl,⟨.inr ⟨rfl,rfl⟩,s1,s2,s3,hk,bf⟩,.inr ⟨⟨bL,M,hy⟩,rfl,rfl,?_⟩⟩;cases M
 ·exact .inr rfl
 exact .inl rfl
structure StC (w W:World) (T:TS) (E0:DS) (ts:List Int) (rs R0:List (List V)) (cs:Cs) (c z:Nat) (bl os:Int):Prop where
 nw:Below w.heap.size w W
 one:Kd3 E0 T Ksa ts rs cs
 want:R0=Ku7 c false cs rs
 few:rs.length<=60
 six:ts.length<=6
 ty:∀ x,x<ts.length->1<=ts.getD x 0/\ts.getD x 0<=3
 row:∀ r∈rs,r.length<=maxLen
 nm:∃ a0 a1 a2 tt q wr pg pl ex ta,Jax W a0 a1 a2 tt q wr pg pl ex ta
 c:c<ts.length
 z:1<=z/\z<=1000
 bl:0<=bl/\bl<=4096
 sd:Jg os
theorem Qbh {E Y T Z name ts rs cs K}(h:Kd3 E T name ts rs cs)(y:Kd3 Y Z name ts rs K):K=cs:=by
 refine Oh4 (by rw[h.good.len,y.good.len]) fun x H I=>?_;have O:=y.good.rows x H;have U:=h.good.rows x I;rw[Oa0,Oa3 H,Option.getD_some,y.len]at O;rw[Oa0,Oa3 I,Option.getD_some,h.len]at U;refine Oh4 (O.trans U.symm) fun j bf bh=>?_;have e:=congrArg (fun l=>l[x]?) ((y.row j zo).trans (h.row j zo).symm);simp only[Ji,Ob1,Oa3 H,Oa3 I,Option.map_some]at e;have M:=Oj6 e;rw[Oa0,Oa0,Oa3 bf,Oa3 bh]at M;exact M
structure StB (w W X:World) (T:TS) (E0 Es:DS) (ts:List Int) (rs:List (List V)) (cs:Cs) (st sst ob tb:Nat) (tya ra:Option Addr) (tyc rc:Nat) (vc oz oy ol os:Int) (Ms Mx:Nat->Prop):Prop where
 nw:Below w.heap.size w W
 wx:Below W.heap.size W X
 one:Kd3 Es T Ksa ts rs cs
 oneX:Kd3 E0 T Ksa ts rs cs
 room:Es.quota=1048576/\Es.fail=0/\dz Es<=132000
 sto:Sto Ms X sst Es [T]
 above:∀ k,Ms k->W.heap.size<=k
 stoX:Sto Mx X st E0 [T]
 aboveX:∀ k,Mx k->W.heap.size<=k
 off:∀ k,Ms k->¬ Mx k
 few:dz E0<=132000
 htb:X.heap[tb]?=some (.cells #[.string ⟨#[116]⟩,.slice tya ts.length tyc,.slice ra rs.length rc] 25 (0,0))
 ltb:tb<W.heap.size
 hob:X.heap[ob]?=some (.cells #[.int .i64 oz,.int .i64 oy,.int .i64 ol,.int .i64 os] 27 (0,0))
 hts:1<=ts.length/\ts.length<=6
 hty:∀ x,x<ts.length->1<=ts.getD x 0/\ts.getD x 0<=3
 row:∀ r∈rs,r.length<=maxLen
 rows:rs.length<=60
 nm:∃ a0 a1 a2 tt q wr pg pl ex ta,Jax W a0 a1 a2 tt q wr pg pl ex ta
 int:Jg vc/\Jg oz/\Jg oy/\Jg ol/\Jg os
structure StI (W:World) (T:TS) (E0:DS) (n:Nat) (R0:List (List V)) (c st kb nb pb wb fa tb g:Nat) (bs:List Nat) (ra:Option Addr) (rc z bu:Nat) (bl os:Int) (B:Nat) (M:Nat->Prop) (E:DS) (X:World):Prop where
 low:Below W.heap.size W X
 above:∀ k,M k->W.heap.size<=k
 sto:Sto M X st E [T]
 same:Kft E0 E
 few:dz E<=B
 hk:X.heap[kb]?=some (.cells #[.int .i64 (c:Int),.int .i64 0,.bool false,.int .i64 0] 44 (0,0))
 hn:X.heap[nb]?=some (.cells ((Ksz kb).flatMap ndC).toArray 41 (0,0))
 hp:X.heap[pb]?=some (.cells #[.slice (some ⟨nb,0,none⟩) 2 2] 47 (0,0))
 hw:X.heap[wb]?=some (.cells #[.int .i64 (z:Int),.int .i64 (bu:Int),.int .i64 bl,.int .i64 os] 27 (0,0))
 hf:X.heap[fa]?=some (.cells #[.int .i64 0,.int .i64 (-1),.int .i64 (-1),.int .i64 (-1),.int .i64 (-1)] 51 (0,0))
 ht:∃ v0 v1,X.heap[tb]?=some (.cells #[v0,v1,.slice ra n rc] 25 (0,0))
 off:¬ M kb/\¬ M nb/\¬ M pb/\¬ M wb/\¬ M fa/\¬ M tb
 grid:∃ Z,Jcu X Z g bs R0
 offG:¬ M g/\∀ b∈bs,¬ M b
 wb:(wb≠kb/\wb≠nb/\wb≠pb/\wb≠fa/\wb≠tb/\wb≠g/\wb∉bs)/\W.heap.size<=wb
variable {w W:World} {T:TS} {E0:DS} {n:Nat} {R0:List (List V)} {c st kb nb pb wb fa tb g:Nat} {bs:List Nat} {ra:Option Addr} {rc z bu:Nat} {bl os:Int} {B:Nat} {M:Nat->Prop} {E:DS} {X X':World}
theorem StI.step (h:StI W T E0 n R0 c st kb nb pb wb fa tb g bs ra rc z bu bl os B M E X){O y I}(hk:Ju M X X')(hs:Sto y X' st I [T])(bz:Kft E I)(bx:dz I<=O)(hM:∀ k,y k->M k\/X.heap.size<=k):StI W T E0 n R0 c st kb nb pb wb fa tb g bs ra rc z bu bl os O y I X':=by
 have K:∀ k,k<X.heap.size->¬ M k->¬ y k:=fun k bK bk br=>(hM k br).elim bk (fun h=>zo);have hb:∀ {k:Nat} {cs:Array Value} {t:TypeId},X.heap[k]?=some (.cells cs t (0,0))->¬ M k->X'.heap[k]?=some (.cells cs t (0,0))/\¬ y k:=fun hh hn=>⟨(hk.block _ (Jd hh) hn).trans hh,K _ (Jd hh) hn⟩;obtain⟨bB,bC,bD,bE,bG,bH⟩:=h.off;obtain⟨bI,bJ,ht⟩:=h.ht;obtain⟨bj,H⟩:=h.grid;have U:=hb h.hk bB;have Y:=hb h.hn bC;have Z:=hb h.hp bD;have bf:=hb h.hw bE;have bh:=hb h.hf bG;have bi:=hb ht bH;exact⟨Ksw h.low h.above hk,fun k bA=>(hM k bA).elim (h.above k) (fun a=>by have:=h.low.size;omega),hs,h.same.trans bz,bx,U.1,Y.1,Z.1,bf.1,bh.1,⟨bI,bJ,bi.1⟩,⟨U.2,Y.2,Z.2,bf.2,bh.2,bi.2⟩,⟨bj,H.of_blocks (hk.block g H.outer.lt h.offG.1) fun b hb=>hk.block b (H.lts b hb) (h.offG.2 b hb)⟩,⟨K g H.outer.lt h.offG.1,fun b hb=>K b (H.lts b hb) (h.offG.2 b hb)⟩,h.wb⟩
theorem StI.below (h:StI W T E0 n R0 c st kb nb pb wb fa tb g bs ra rc z bu bl os B M E X)(hb:Below X.heap.size X X'):StI W T E0 n R0 c st kb nb pb wb fa tb g bs ra rc z bu bl os B M E X':=
 h.step (.of_below hb) (h.sto.below hb) ⟨fun _=>rfl,rfl,rfl,rfl⟩ h.few fun _ y=>.inl y
theorem StI.ran (h:StI W T E0 n R0 c st kb nb pb wb fa tb g bs ra rc z bu bl os B M E X){y p R I H}(hs:SoX X M st E T y p R I H X'):StI W T E0 n R0 c st kb nb pb wb fa tb g bs ra rc z bu bl os y I H X':=
 h.step hs.keep hs.sto hs.same hs.few hs.new
theorem StI.set (h:StI W T E0 n R0 c st kb nb pb wb fa tb g bs ra rc z bu bl os B M E X)m:StI W T E0 n R0 c st kb nb pb wb fa tb g bs ra rc z m bl os B M E (X.setCell ⟨wb,1,none⟩ (.int .i64 (m:Int))):=by
 have y:∀ k,k≠wb->(X.setCell ⟨wb,1,none⟩ (.int .i64 (m:Int))).heap[k]?=X.heap[k]?:=fun k hk=>Oa4 _ _ _ _ hk;obtain⟨⟨K,O,U,Y,Z,bf,bh⟩,bj⟩:=h.wb;obtain⟨bx,bz,ht⟩:=h.ht;obtain⟨I,bi⟩:=h.grid;have br:X.heap.size<=(X.setCell ⟨wb,1,none⟩ (.int .i64 (m:Int))).heap.size:=by simp[World.setCell]
 have H:=Jk h.hw 1 (.int .i64 (m:Int));simp only[Oa1,List.set_cons_zero,List.set_cons_succ]at H;exact⟨h.low.setCell (p:=⟨wb,1,none⟩) bj _,h.above,h.sto.stands br fun k bk=>y k fun e=>h.off.2.2.2.1 (e▸bk),h.same,h.few,(y _ K.symm).trans h.hk,(y _ O.symm).trans h.hn,(y _ U.symm).trans h.hp,H,(y _ Y.symm).trans h.hf,⟨bx,bz,(y _ Z.symm).trans ht⟩,h.off,⟨I,bi.of_blocks (y _ bf.symm) fun b hb=>y b fun e=>bh (e▸hb)⟩,h.offG,h.wb⟩
theorem StI.run {ts rs cs}(h:StI W T E0 n R0 c st kb nb pb wb fa tb g bs ra rc z bu bl os B M E X)(C:StC w W T E0 ts rs R0 cs c z bl os)(U:2<=bu)(bh:bu<=61)(K:B<=800000):
  Calls prog 12 #[.pointer (some ⟨st,0,none⟩),.agg #[.slice (some ⟨nb,0,none⟩) 2 2],.agg #[.int .i64 (z:Int),.int .i64 (bu:Int),.int .i64 bl,.int .i64 os]] X fun e w'=>∃ p R y fn I H,e=.returned (.tuple #[.slice p R.length R.length,Ko y fn (-1) (-1) (-1)])/\SoX X M st E T (B+50000) p R I H w'/\Qcg R0 (bu<rs.length/\∃ bf,Kso E bf) R y fn:=by
 obtain⟨a0,a1,a2,Z,q,wr,pg,pl,ex,Y,O⟩:=C.nm;have:=C.few;rw[C.want];exact Qce M st E T cs ts rs X h.sto (C.one.same h.same) zo C.six C.ty a0 a1 a2 Z q wr pg pl ex Y W O h.low h.above c false C.c nb kb h.hn h.hk h.off.1 z bu bl os C.z.1 C.z.2 U zo C.bl.1 C.bl.2 C.sd B K h.few
theorem StI.same_rows {ts rs cs}(h:StI W T E0 n R0 c st kb nb pb wb fa tb g bs ra rc z bu bl os B M E X)(C:StC w W T E0 ts rs R0 cs c z bl os){p R xs}(O:Zd X p xs R)why y fn(ho:Qcg R0 why R y fn):∃ b:Bool,(R=R0->b=true)/\Calls prog 13 #[.slice p R.length R.length,.slice (some ⟨g,0,none⟩) R0.length R0.length] X fun e w'=>e=.returned (.bool b)/\Below X.heap.size X w':=by
 obtain⟨U,H⟩:=h.grid;have K:∀ r∈R0,r.length<=maxLen:=by rw[C.want];exact Qat C.row
 have I:R0.length<=60:=by rw[C.want,Kvf C.one];exact C.few
 have hR:R.length<=60/\∀ r∈R,r.length<=maxLen:=by
  rcases ho with⟨_,_,rfl⟩|⟨_,rfl,_⟩
  ·exact⟨I,K⟩
  exact⟨zS,fun r hr=>by simp at hr⟩
 refine⟨(open Classical in decide (R=R0)),fun e=>by open Classical in exact decide_eq_true e,Jn2 p (some ⟨g,0,none⟩) R.length R0.length xs _ R R0 X (by unfold maxLen;omega) hR.2 O H.rowsAt _ (by open Classical in exact decide_eq_true_iff)⟩
