/- The plan of the law's own check: its Project at work. -/
import Derived.Test.YtjbenncelbpbnaaGreatDoorEj
import Derived.Test.YtjbenncelbpbnaaGreatDoorPh
namespace Go.Proofs.YtjbenncelbpbnaaGreatDoor
section
open Go.RowKit Go.Shelf
theorem Qcv {tab:ByteArray->Cs⊕Nat}(y:tab Yh=.inl [[Za]]):Jkq tab ⟨2,0,⟨#[]⟩,[Jkp],[],0,0⟩ (stN tab Jcq 1)=[[⟨1,42,⟨#[]⟩⟩]]:=by
 unfold Jkq;rw[if_neg zd,if_neg zd,if_neg zd,if_neg zd,if_neg zd,if_neg zd,(Kc3 y).2];rfl
theorem Qc1 {tys}{tab:ByteArray->Cs⊕Nat}(I:tab Yh=.inl [[Za]]):Ktc tys [[1],[1]] Jcq tab:=fun n hn h0 {j sch} y ok _ _=>by
 match j,y with
 |0,y=>cases y;exact absurd rfl h0
 |1,y=>
  cases y
  obtain⟨sc,K,M,_⟩:=ok.proj rfl;cases K
  have H:Jkq tab ⟨2,0,⟨#[]⟩,[Jkp],[],0,0⟩ (stN tab Jcq 1)=[[⟨1,42,⟨#[]⟩⟩]]:=Qcv I;rw[M,H];refine⟨rfl,zd,zd,fun j y=>?_,zd,fun i hi=>?_⟩
  ·match j,y with
   |0,_=>rfl
  match i,hi with
  |0,_=>exact⟨rfl,fun k hk=>by
    match k,hk with
    |0,_=>show okV 1 _;unfold okV;simp[okB,okK,Ji],fun v hv=>by
    obtain rfl:=Oc6.1 hv;show Jg 42;unfold Jg;decide⟩
theorem Qcq {tys}(h:Jdk tys [[1],[1]] Jcq){nd w}(hi:Jnm w ⟨2,0,⟨#[]⟩,[Jkp],[],0,0⟩ nd)y:Jvz w y [[1],[1]] (flN Jcq) nd 1:=by
 refine Km2 h rfl hi zd zd y [1] rfl fun W ev ks hb M hC U O Y=>?_;obtain⟨eb,I,H,Z,bh,bf⟩:=hi.es (.inr rfl);rw[show Jm5 nd.op=99 by rw[hi.op];rfl];exact Qcy _ _ _ ev ks nd 0 eb I H W hC hi.l U O (Oj6 Y).symm Z fun X K=>bf.under (Kaf hb M K)
theorem Qc2 {tys}{tab:ByteArray->Cs⊕Nat}(h:Jdk tys [[1],[1]] Jcq)(bU:Ktc tys [[1],[1]] Jcq tab)(ht:∀ n∈Jcq,n.op=0->∀ cs,tab n.tn=.inl cs->Zt (tys n.tn) cs)(bB:tab Yh=.inl [[Za]]){nd X}(hi:Jnm X ⟨2,0,⟨#[]⟩,[Jkp],[],0,0⟩ nd)(s z:Nat)(bu bl:Int)M K sc U bC Y pg(bY:1<=z)(cC:z<=1000):
  Ju1 X (X.heap.size+1) X.heap.size z bu bl M (.pointer (some ⟨s,0,none⟩)) K sc (PSp tab Jcq) (ERp tab Jcq U bC Y pg) nd 1:=by
 refine Km1 h bU ht rfl hi zd zd s z bu bl M K sc U bC Y pg fun W bH bG hb hR cu g bA cc cD bP bh cA cv=>?_;obtain⟨eb,bL,bK,bW,cB,bX⟩:=hi.es (.inr rfl);rw[show Jej nd.op=73 by rw[hi.op];rfl];obtain⟨cy,br⟩:=Kc3 bB;rw[br]at bh;subst bh;obtain⟨bZ,ca,pc,bR,hp⟩:=(bX.under fun k hk=>hb.block k hk) 0 Jkp rfl;obtain⟨O,bE,bi,bT,cj,cn,bO,hf,I,bV⟩:=hR.take bP;have bz:=hR.run;rw[bi]at bz;have hob:bH.ownBlock=some O:=by rw[bi];rfl
 have:=Qan X.heap.size O bG.length bE 0 z (.int .i64 bu) (.int .i64 bl) M (.pointer (some ⟨s,0,none⟩)) K sc nd.op nd.r nd.tn (.slice nd.ky.1 nd.ky.2.1 nd.ky.2.2) nd.kk eb bL bK bZ ca pc g (Kul bA 1) bA W bz bT bO hf zo bR hp bY zo I.1 ⟨fun e=>I.2.1.2.1 (hob.trans (congrArg some e.symm)),fun j H b o y bJ=>(I.2.2 j H b o y).2.1 (hob.trans (congrArg some bJ.symm))⟩ ⟨I.2.1.2.2,fun j H b o y=>(I.2.2 j H b o y).2.2⟩;rw[Qcv bB,Nd.val,hi.l,bW];refine this.mono fun ci bD hp=>?_;obtain⟨hk,rg,cb,rfl,cx,bf,bQ⟩:=hp;have bj:=Jgr hk;obtain⟨Z,bx⟩:=Jo6 bf;have cz:=Jd hR.run;refine⟨by rw[hob];exact bj,.inl ⟨rg,cb.map slH,?_,bV bD bj bQ,⟨Z,⟨zo,(by rw[hob];intro e;cases e;omega),Z.row.lt⟩,fun j H b o y=>?_⟩,⟨(fun bI=>by cases bI),fun _ i bk cf bS=>?_,(fun bN=>by cases bN),(fun bM=>by cases bM)⟩,Kw8.new ⟨zo,fun j H b o y=>by have:=bx j H b o y;omega⟩⟩⟩
 ·simp only[dnV];rw[Kuf (by rw[Oa6,bf.len];exact Oa2 _)];rfl
 ·have hb:=bx j H b o y;exact⟨zo,(by rw[hob];intro e;cases e;omega),hb.2⟩
 rw[br]at bk |-;obtain rfl:=Oc6.1 bS;match i,bk with
 |0,_=>exact⟨_,Khj⟩
end
section
open Go.RowKit Go.Shelf Tryz
theorem Kwe {E}(hq:E.quota=1048576)(hf:E.fail=0)y:¬ Kso E y:=fun h=>by
 cases y with
 |true=>have:=h.1 rfl;omega
 |false=>have:=h.2 rfl;omega
def Qca (W wx:World)(st:Nat)(name:ByteArray)(ts:List Int)(rs:List (List V)):Prop:=Below W.heap.size W wx/\∃ (y:Nat->Prop) (E:DS) (T:TS) (cs:Cs),Sto y wx st E [T]/\Kd3 E T name ts rs cs/\E.quota=1048576/\E.fail=0/\dz E<=132000/\∀ k,y k->W.heap.size<=k
theorem Qbu {W X wx st t}(h:Ky3 X st [t] 1 wx)(hb:Below W.heap.size W X)(Z:Below X.heap.size X wx)(ht:Jel t.name t.ts t.rs)(hv:∀ r∈t.rs,∀ v∈r,Jg v.n):Qca W wx st t.name t.ts t.rs:=by
 obtain⟨I,E,T,K,y,H,⟨M,O⟩,bf,bh,U⟩:=h.one;obtain⟨cs,Y⟩:=Jx2 y H.1 H.2 ht hv;have hl:=ht.2.2.1;have hw:=y.writes;refine⟨Jb hb Z,I,E,T,cs,K,Y,M,O,?_,fun k hk=>Ob2 hb.size (U k hk)⟩;unfold dz;rw[if_pos hw];omega
theorem Qba I st E T cs w(h:Sto I w st E [T])(H:Kd3 E T Yh [1] [[Za]] cs)a0 a1 a2 bH q wr pg pl ex bG w0(bN:Jax w0 a0 a1 a2 bH q wr pg pl ex bG)(bO:Below w0.heap.size w0 w)(bM:∀ k,I k->w0.heap.size<=k)(hq:E.quota=1048576)(hf:E.fail=0)(bR:dz E<=132000)nb Y bj(bY:¬ I Y)(bW:¬ I bj)(bV:w.heap[nb]?=some (.cells ((Jvf Y).flatMap ndC).toArray 41 (0,0)))(bZ:w.cell? ⟨Y,0,none⟩=some (.slice (some ⟨bj,0,none⟩) 3 3))(bC:w.heap[bj]?=some (.cells (Jkp.flatMap ptC).toArray 63 (0,0))):
  Calls prog 12 #[.pointer (some ⟨st,0,none⟩),.agg #[.slice (some ⟨nb,0,none⟩) 2 2],.agg #[.int .i64 1000,.int .i64 1000,.int .i64 0,.int .i64 0]] w fun e w'=>Ju I w w'/\∃ bh g bs,e=.returned (.tuple #[.slice (some ⟨g,0,none⟩) 1 1,Ko 0 (-1) (-1) (-1) (-1)])/\Jcu w' bh g bs [[⟨1,42,⟨#[]⟩⟩]]:=by
 have bQ:cs=[[Za]]:=by
  have bK:=H.good.len;have bL:=H.len;have K:=H.row 0 zS;match cs,bK,bL,K with
  |[[v]],_,_,K=>cases K;rfl
 subst bQ;obtain⟨bA,bT⟩:=Kc3 (tab:=Ye E [T]) H.tab;have bU:nR [[Za]]=1:=H.len;have bD:Ji [[Za]] 0=[Za]:=H.row 0 zS;have bB:nR (Jac (Ye E [T]) Jcq)=1:=by rw[bA,Jm1 _ _ zS,bU]
 have bz:Ktc (Jhd [T]) [[1],[1]] Jcq (Ye E [T]):=Qc1 H.tab;refine(Kz1 I st E [T] w h H.ok H.all a0 a1 a2 bH q wr pg pl ex bG w0 bN bO bM Jcq [[1],[1]] (Jw6 H.tys) (fun n hn h0=>?_) (fun _=>by rw[bB];omega) (fun n hn h0 _ _=>bz n hn h0) (fun j n y h0 bi cf=>?_) (fun j n y M=>?_) (fun j n y K=>?_) nb 0 2 (Jvf Y) rfl (Jfm bV) (fun V bx j n nd y U=>?_) 1000 1000 0 0 zo zo zo zo zo zo ⟨zd,zd⟩ 6 psN (fun _=>132000) ⟨fun sch bX=>?_,Kxd zo,fun j=>Oa2 _,fun j=>zo,fun j n y bi _ bI sch e cj=>?_⟩ bR (fun bk bE br j v W O=>?_) (fun _ _ _ _=>Kwe hq hf)).mono fun e w' hp=>?_
 ·simp only[Jcq,Of1,Oi0,or_false]at hn;rcases hn with rfl|rfl
  ·exact H.find
  cases h0
 ·match j,y with
  |0,y=>cases y;exact absurd rfl h0
  |1,y=>
   cases y
   refine⟨fun hi ca=>Qcq (Jw6 H.tys) hi ca,fun hi s z bu bl sd bJ sc bk bE br pg cn hw=>Qc2 (Jw6 H.tys) bz (fun n hn h0 bI bP=>?_) H.tab hi s z bu bl (.int .i64 sd) bJ sc bk bE br pg hw.z1 hw.z2⟩
   ·simp only[Jcq,Of1,Oi0,or_false]at hn;rcases hn with rfl|rfl
    ·rw[<-Sum.inl.inj (H.tab.symm.trans bP)];have:=H.good;rw[<-H.tys]at this;exact this
    cases h0
 ·match j,y with
  |0,y=>cases y;cases M
  |1,y=>cases y;cases M
 ·match j,y with
  |0,y=>cases y;cases K
  |1,y=>cases y;cases K
 ·match j,y,U with
  |0,y,U=>cases y;cases U;exact⟨rfl,rfl,rfl,fun h=>absurd h zd,fun h=>absurd h zd,rfl,rfl,fun h=>absurd h zd⟩
  |1,y,U=>cases y;cases U;exact⟨rfl,rfl,rfl,fun _=>⟨Y,0,1,rfl,zS,Jyd (e:=Jkp) (bx.cell bZ bY) (Jfp ((bx.block _ (Jd bC) bW).trans bC))⟩,fun h=>absurd h zd,rfl,rfl,fun h=>absurd h zd⟩
 ·have hs:sch=[1]:=by simpa using bX
  subst hs;exact⟨zS,fun x bf=>by
   have:x=0:=by simpa using bf
   subst this;exact⟨zd,zd⟩⟩
 ·match j,y with
  |0,y=>cases y;cases bi
  |1,y=>cases y;cases bi
 ·obtain⟨_,n,hn,bf⟩:=O;match j,hn with
  |0,hn=>
   cases hn
   rcases bf with⟨_,p,b,hp,_⟩|⟨h0,_⟩|⟨M,_⟩
   ·rw[H.tab]at hp;cases hp
   ·exact h0 rfl
   cases M
  |1,hn=>
   cases hn
   rcases bf with⟨h0,_⟩|⟨_,eb,kk,r,_,hr,O,_⟩|⟨M,_⟩
   ·cases h0
   ·rw[bT]at hr O;have:r=0:=zo;subst this;rw[bD]at O;exact O rfl
   cases M
 obtain⟨hb,_,bh,g,bs,cc,cb,rfl,ci,Z,_⟩:=hp;refine⟨hb,?_⟩;rw[bB]at Z |-;rw[bA]at Z;have bS:Qf 1 (Jcb [Jkp] [[Za]])=[[⟨1,42,⟨#[]⟩⟩]]:=by
  have:(Qf 1 (Jcb [Jkp] [[Za]]))=[Ji (Jcb [Jkp] [[Za]]) 0]:=rfl;rw[this,Jjj _ _ _ zo,bD];simp only[Oe4,Oi4];rw[Jgd Khj]
 rw[bS]at Z;exact⟨bh,g,bs,rfl,Z⟩
end
open Go.RowKit Go.Shelf
abbrev Ksa:ByteArray:=⟨#[116]⟩
def Kyv (c:Nat)(dn:Bool):Krv:=⟨c,0,dn,0⟩
def Ksk (c:Nat)(dn:Bool):List PN:=[⟨0,0,Ksa,[],[],0,0⟩,⟨5,0,⟨#[]⟩,[],[Kyv c dn],0,0⟩]
abbrev Ksz (kb:Nat):List Nd:=[⟨0,0,0,Ksa,(none,0,0),(none,0,0),0⟩,⟨5,0,0,⟨#[]⟩,(none,0,0),(some ⟨kb,0,none⟩,1,1),0⟩]
theorem Qav {w kb c dn}(h:w.heap[kb]?=some (.cells #[.int .i64 (c:Int),.int .i64 0,.bool dn,.int .i64 0] 44 (0,0))):Klj w kb 0 [Kyv c dn]:=fun j k y=>by
 match j,y with
 |0,y=>cases y;refine⟨?_,?_,?_,?_⟩<;>simp[World.cell?,h,Kyv]
theorem Qby {tys ts}(h:tys Ksa=ts)y:Kik tys y ⟨0,0,Ksa,[],[],0,0⟩ ts:=
 ⟨by show 0<=6;omega,fun _=>h.symm,fun h=>absurd h zd,fun h=>absurd h zd,fun h=>absurd h zd,fun h=>absurd h zd,fun h=>absurd h zd,fun h=>absurd h zd⟩
theorem Qbx {tys ts c dn}(H:c<ts.length)y(h:y[0]?=some ts):Kik tys y ⟨5,0,⟨#[]⟩,[],[Kyv c dn],0,0⟩ ts:=
 ⟨by show 5<=6;omega,fun h=>(by cases h),fun h=>(by cases h),fun h=>(by cases h),fun h=>(by cases h),fun h=>(by cases h),fun _=>⟨h,rfl,zS,zS,fun k hk=>by rw[Oc6]at hk;subst hk;exact H⟩,fun h=>(by cases h)⟩
theorem Kyt {tys ts}(h:tys Ksa=ts){c}(H:c<ts.length)dn:Jdk tys [ts,ts] (Ksk c dn) where
 len:=rfl
 ok:=fun j n y=>by
  match j,y with
  |0,y=>cases y;exact⟨ts,rfl,Qby h _⟩
  |1,y=>cases y;exact⟨ts,rfl,Qbx H _ rfl⟩
 ahead:=fun j n y i hi=>by
  match j,y with
  |0,y=>cases y;cases hi
  |1,y=>
   cases y
   have:i=0:=by simpa [Jg7] using hi
   subst this;exact⟨zo,by simp[flN,Ksk,Jg7]⟩
 all:=fun i hi=>by
  have:i=0:=by have:i+1<2:=hi;omega
  subst this;simp[flN,Ksk,Jg7]
 one:=by show 1<=2;omega
 few:=by show 2<=12;omega
def Kwz (c:Nat)(dn:Bool)(cs:Cs):List Nat:=Ksg (Kr5 [Kyv c dn] cs) (List.range (nR cs))
theorem Qa5 {tab:ByteArray->Cs⊕Nat}{cs c dn}(h:tab Ksa=.inl cs):Jac tab (Ksk c dn)=Jba (Kwz c dn cs) cs/\Jbs ⟨5,0,⟨#[]⟩,[],[Kyv c dn],0,0⟩ (stN tab (Ksk c dn) 1)=cs:=by
 constructor
 ·simp[Jac,stN,Ksk,Jb3,Jkq,Jbs,h,Kwz]
 simp[stN,Ksk,Jb3,Jkq,Jbs,h]
theorem Kv7 c dn cs:(Kwz c dn cs).Perm (List.range (nR cs)):=Kr9 _ _
theorem Kvg c dn cs:(Kwz c dn cs).length=nR cs:=by rw[(Kv7 c dn cs).length_eq,Op1]
def Ku7 (c:Nat)(dn:Bool)(cs:Cs)(rs:List (List V)):List (List V):=(Kwz c dn cs).map fun i=>rs.getD i []
theorem Qax {cs rs c dn}(hlen:nR cs=rs.length)(I:∀ i,i<rs.length->Ji cs i=rs.getD i []):Qf rs.length (Jba (Kwz c dn cs) cs)=Ku7 c dn cs rs:=by
 have hl:=Kvg c dn cs;apply Oh4
 ·rw[Uu,Ku7,Oa6];omega
 intro i y K;have hi:i<(Kwz c dn cs).length:=by rw[Uu]at y;omega
 have M:(Kwz c dn cs)[i]<nR cs:=by
  have:=(Kv7 c dn cs).mem_iff.1 (Ob3 hi);simpa using this
 have H:=Jge rs.length (Jba (Kwz c dn cs) cs) i (by rw[Uu]at y;exact y);rw[Oa3 y]at H;injection H with H;rw[H,Jot _ _ i hi,I _ zo];simp[Ku7]
abbrev Qcc (B:Nat):Nat->Nat:=fun j=>B+10000*min j 5
theorem Qbz {ts:List Int}{cs:Cs}{c bu j B:Nat}{dn:Bool}(y:Zt ts cs)(M:ts.length<=6)(hty:∀ x,x<ts.length->1<=ts.getD x 0/\ts.getD x 0<=3)(Z:c<ts.length)(hn:nR cs<=200)(U:2<=bu)(Y:nR cs+bu<=231)(bf:j<5):nR cs<=50000/\(∀ ch:List Nat,(∀ t∈ch,t<nR cs)->1<=ch.length->ch.length<=64->(Qu (Kr3 ts (Jba ch cs) ts.length)).length<=6*ch.length)/\psN (ckN (nR cs) bu)<=100000/\Qcc B j+2*6*bu*ckN (nR cs) bu+6*nR cs*psN (ckN (nR cs) bu)<=Qcc B (j+1):=by
 have O:Sg ts cs [Kyv c dn]:=⟨y,fun k hk=>by rw[Oc6]at hk;subst hk;rw[y.len];exact Z,zS,zo,hty⟩;obtain⟨bh,bi⟩:=Qap hn U Y;refine⟨zo,fun ch H I K=>O.row M H I K,zo,?_⟩;show B+10000*min j 5+2*6*bu*ckN (nR cs) bu+6*nR cs*psN (ckN (nR cs) bu)<=B+10000*min (j+1) 5;omega
theorem Kd3.same {E y T name ts rs cs}(h:Kd3 E T name ts rs cs)(hs:Kft E y):Kd3 y T name ts rs cs:=by
 have e:Ye y [T] name=Ye E [T] name:=by unfold Ye;rw[Kvt hs]
 exact⟨e.trans h.tab,h.good,h.len,h.row,h.tys,h.find,fun H I=>Ky6 hs (h.ok H I),fun H I K M=>h.all H I K (by rw[<-Kwf hs];exact M)⟩
attribute [local go_sem] Oc0
theorem tkg {P K y Q S H fuel I a w v}i(hi:y[i]?=some H)(M:S w)(h:wpAnyH P K y Q S fuel (I.setIfInBounds i true) (a.put H.dst v) w)(hr:(Region.ready K y I).contains i=true:=by kernel_rfl)(hf:Region.free K y I i=true:=by kernel_rfl)(hs:Region.noSelect y=true:=by kernel_rfl)(hy:∀ w,S w->(execOp a.eval H).run P w=.ok (.value v) w:=by intro w O;(try dsimp only at O);go_simp;try rfl)(hQ:∀ c a w,Q (.panic c) (a.put H.dst v) w->Q (.panic c) a w:=by exact fun _ _ _ h=>h)(hw:Region.wanted H (yielded y a.tmps)=true:=by kernel_rfl):wpAnyH P K y Q S (fuel+1) I a w:=
 wpAnyH_take hi hs hf hr hQ (.inl ⟨hw,hy⟩) M h
theorem Jcu.lts {w B g bs R}(h:Jcu w B g bs R):∀ b∈bs,b<w.heap.size:=fun b hb=>by
 obtain⟨i,hi,e⟩:=Od5 hb;exact(h.rows i b (R[i]'(by rw[<-h.len];exact hi)) (by rw[Oa3 hi,e]) (Oa3 _)).lt
