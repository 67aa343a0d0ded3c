/- Plans at work: a sort. -/
import Derived.Test.YtkdojacdolidfaaGreatDoorPb
set_option maxHeartbeats 2000000
set_option maxRecDepth 100000
namespace Go.Proofs.YtkdojacdolidfaaGreatDoor
section
open Go.RowKit Go.Shelf Tryz
theorem Jjg.turn {F O L rb z bu bl bi bj Y sc bf Z W U}(h:Jjg F L rb z bu bl bi bj Y sc bf Z W)(I:Ju F W U)(hF:∀ k,O k->F k\/W.heap.size<=k):Jjg O L rb z bu bl bi bj Y sc bf Z U:=by
 have bh:=Jd h.rs.run;have M:∀ k,k<W.heap.size->¬ F k->¬ O k:=fun k I bk e=>(hF k e).elim bk fun e=>by omega
 refine⟨⟨(I.block rb bh h.rbF).trans h.rs.run,Jl h.rs.own fun g e=>I.block g (Je h.rs.own e).2 (h.dvF g e),fun x K=>?_,h.rs.low⟩,fun x K=>?_,M rb bh h.rbF,fun g e=>M g (Je h.rs.own e).2 (h.dvF g e)⟩
 ·have y:=h.rs.cols x K;have ho:=h.off x K;exact⟨y.1.blocks I.size ⟨I.block _ y.2.1.2.2 ho.1,fun j H b o e=>I.block b (y.2.2 j H b o e).2.2 (ho.2 j H b o e)⟩,⟨y.2.1.1,y.2.1.2.1,Oc2 y.2.1.2.2 I.size⟩,fun j H b o e=>⟨(y.2.2 j H b o e).1,(y.2.2 j H b o e).2.1,Oc2 (y.2.2 j H b o e).2.2 I.size⟩⟩
 have y:=h.rs.cols x K;have ho:=h.off x K;exact⟨M _ y.2.1.2.2 ho.1,fun j H b o e=>M b (y.2.2 j H b o e).2.2 (ho.2 j H b o e)⟩
structure Qdq (X:World) (F0:Nat->Prop) (sch:List Int) (ks:List Krv) (kb ko sg so l tb to_ tc:Nat) (a0 a1 a2 q qw pg:Addr):Prop where
 env:∀ Y,Ju F0 X Y->Kc Y (some ⟨tb,to_,none⟩) sch/\Klj Y kb ko ks/\Jf0 Y a0 a1 a2/\Y.cell? ⟨6,0,none⟩=some (.iface 434 (.pointer (some q)))/\Y.cell? ⟨7,0,none⟩=some (.iface 434 (.pointer (some qw)))/\Y.cell? ⟨8,0,none⟩=some (.iface 434 (.pointer (some pg)))
 gl:¬ F0 6/\¬ F0 7/\6<X.heap.size/\7<X.heap.size
 sc:X.cell? ⟨sg,so+l,none⟩=some (.slice (some ⟨tb,to_,none⟩) sch.length tc)
 sgF:¬ F0 sg
section
variable {tys:ByteArray->List Int} {scs:List (List Int)} {ns:List PN} {tab:ByteArray->Cs⊕Nat} {j:Nat} {n:PN} {nd:Nd} {X:World}
theorem Kyd (h:Jdk tys scs ns)(dl:∀ n∈ns,n.op≠0->Ktf n.op)(ht:∀ n∈ns,n.op=0->∀ cs,tab n.tn=.inl cs->Zt (tys n.tn) cs)(U:ns[j]?=some n)(cc:n.op=5)(dy:nd.op=5)(hl:nd.l=(n.l:Int))(z:Int)(bu:Nat)(bl:Int)bX bY(d sg so bL bW kb ko kc:Nat)(dp:nd.ky=(some ⟨kb,ko,none⟩,n.gk.length,kc))(dt:n.l<bL)(F0:Nat->Prop)(D0:DS)(lim:Nat->Nat)(ca:Nat->Value->World->Prop)a0 a1 a2 q qw pg(du:∀ sch,scs[n.l]?=some sch->∃ tb to_ tc,Qdq X F0 sch n.gk kb ko sg so n.l tb to_ tc a0 a1 a2 q qw pg)(cE:∀ sch,scs[n.l]?=some sch->sch.length<=100/\∀ c,c<sch.length->1<=sch.getD c 0/\sch.getD c 0<=3)(cS:2<=bu)(cT:bu<=50000)(cL:∀ bH b bf,Jd7 tab ns j->Yu bf (.iface 158 (.pointer (some ⟨b,0,none⟩))) (if bH=true then q else qw) none (some (-1))->Ks1 D0 bH->ca j (.iface 158 (.pointer (some ⟨b,0,none⟩))) bf)(pr:Nat)(g:Nat->Nat)(df:∀ q,bu<q->g (ckN q bu)+1<=g q)(dr:lim (j+1)<=930000)(cV:Jd7 tab ns j->∀ cs sch,cs=Jbs n (stN tab ns j)->scs[n.l]?=some sch->nR cs<=50000/\(∀ ch:List Nat,(∀ t∈ch,t<nR cs)->1<=ch.length->ch.length<=64->(Qu (Kr6 sch (Jba ch cs) sch.length)).length<=pr*ch.length)/\g (ckN (nR cs) bu)<=100000/\lim j+2*pr*bu*ckN (nR cs) bu+pr*nR cs*g (ckN (nR cs) bu)<=lim (j+1)):
  Kvd X (X.heap.size+1) X.heap.size z (bu:Int) bl bX bY d (.slice (some ⟨sg,so,none⟩) bL bW) (PSp tab ns) ca F0 D0 lim nd j:=by
 obtain⟨sch,hs,ok⟩:=h.ok j n U;obtain⟨q1,q2,dT,dU,dG⟩:=ok.sort cc;have h0:n.op≠0:=zo;have cb:¬ (n.op=3\/n.op=7):=zo;have dP:j<ns.length:=(Ob9.1 U).1;refine⟨zo,zo,fun W F bz bx Y dN hR hlen cN=>?_⟩;obtain⟨bT,bK⟩:=cN;have cD:=Jqw h dl ht j zo bK;have dx:=Jma (tab:=tab) U;have di:Jg7 n=[n.l]:=by unfold Jg7;rw[if_neg h0,if_neg cb]
 obtain⟨ds,dd⟩:=h.ahead j n U n.l (by rw[di];exact Oc6.2 rfl);obtain⟨cs,Z⟩:=cD.there n.l ds dd;obtain⟨dV,cB,cv⟩:=cD.good n.l cs Z;rw[q1]at cB;cases cB
 have ci:Jbs n (stN tab ns j)=cs:=by unfold Jbs;rw[Oa0,Z];rfl
 obtain⟨⟨gc,bD,H⟩,bS⟩:∃ x,bx[n.l]?=some (some x):=by
  rw[<-bT,Ob1]at Z;cases e:bx[n.l]? with
  |none=>rw[e]at Z;cases Z
  |some o=>
   cases o with
   |none=>rw[e]at Z;cases Z
   |some x=>exact⟨x,rfl⟩
 have cW:H=cs:=by
  rw[<-bT,Ob1,bS]at Z;simpa using Z
 subst cW;obtain⟨tb,to_,tc,hM⟩:=du sch q1;obtain⟨cM,dA,dg,dL⟩:=cV bK H sch ci.symm q1;obtain⟨O,cF,cj,dh,dJ,dM,cU,bU,bj,dw⟩:=hR.rs.take bS;have bB:bz.ownBlock=some O:=by rw[cj];rfl
 have cA:=hR.rs.run;rw[cj]at cA;obtain⟨E,cK,bP,dO⟩:=Y.ex;have dS:=Y.keep.size;have cy:=hR.off _ (Of6 bS);have cZ:=hR.dvF O bB;have cC:sg<X.heap.size:=Jb0 hM.sc;have bV:∀ k,k<X.heap.size->¬ F0 k->¬ F k:=fun k K dv e=>(Y.ffr k e).elim dv fun e=>by omega
 have cX:Jej nd.op=77:=by rw[dy];rfl
 rw[cX,Nd.val,hl,dp]
 -- what is given to the sorting
 let bJ:World->SC:=fun y=>⟨y,F,E,y.heap.size,d,tb,to_,tc,kb,ko,kc,sch,H,n.gk,a0,a1,a2,q,qw,pg,(bu:Int)⟩
 have cf:∀ y,Ju (·=O) W y->∀ br,Ju F y br->Ju F0 X br:=fun y M br bQ=>(Y.keep.trans' M fun k K e=>by have bh:k=O:=e;omega).trans' bQ fun k K e=>(Y.ffr k e).resolve_right zo;have dB:∀ y,Ju (·=O) W y->y.heap[O]?=Jdc W O n.l->Calls prog 113 #[.slice (some ⟨gc,0,none⟩) H.length (Ku1 bD H.length),.slice (some ⟨tb,to_,none⟩) sch.length tc,.slice (some ⟨kb,ko,none⟩) n.gk.length kc,.int .i64 (bu:Int),.pointer (some ⟨d,0,none⟩)] y fun e w'=>∃ a b,e=.returned (.tuple #[a,b])/\Ju F y w'/\Ktn (bJ y) (lim (j+1)) (.returned (.tuple #[a,b])) w':=fun y M _=>by
  have bE:=M.size;have cR:SK (bJ y):=⟨⟨cv,fun k K=>by rw[cv.len];exact dG k K,by show n.gk.length<=1000000;omega,(cE sch q1).1,(cE sch q1).2⟩,Oa2 _,fun k K=>Oc2 (Y.flt k K) bE,fun br bQ=>hM.env br (cf y M br bQ),bV _ hM.gl.2.2.1 hM.gl.1,bV _ hM.gl.2.2.2 hM.gl.2.1,by have:=hM.gl.2.2.1;show 6<y.heap.size;omega,by have:=hM.gl.2.2.2;show 7<y.heap.size;omega⟩;have cJ:Zb y F d E:=cK.stands fun k bU hl=>M.block k hl fun e=>cZ ((show k=O from e)▸bU);have cx:∀ b,bz.ownBlock≠some b->b≠O:=fun b bN e=>bN (bB.trans (congrArg some e.symm));have cH:Qd y gc bD H:=bj.1.blocks bE ⟨M.block _ bj.2.1.2.2 (cx _ bj.2.1.2.1),fun j U b o e=>M.block b (bj.2.2 j U b o e).2.2 (cx _ (bj.2.2 j U b o e).2.1)⟩;refine(Kyf (bJ y) cR rfl cJ gc (Ku1 bD H.length) bD cH ⟨⟨Oc2 bj.2.1.2.2 bE,cy.1⟩,fun j U b o e=>⟨Oc2 (bj.2.2 j U b o e).2.2 bE,cy.2 j U b o e⟩⟩ bu pr rfl cS cT cM dA g df dg (lim (j+1)) dr (by show dz E+2*pr*bu*ckN (nR H) bu+pr*nR H*g (ckN (nR H) bu)<=lim (j+1);omega)).mono fun e w' hp=>?_;have cz:=hp;obtain⟨bI,bZ,bk,_,_,_,_,_,⟨bi,bG,rfl,_⟩|⟨bH,b,rfl,_⟩⟩:=hp
  ·exact⟨_,_,rfl,bk,cz⟩
  exact⟨_,_,rfl,bk,cz⟩
 refine(Kzo X.heap.size O bx.length cF n.l z (bu:Int) (.int .i64 bl) bX bY d sg so bL bW nd.op nd.r nd.tn (.slice nd.xs.1 nd.xs.2.1 nd.xs.2.2) nd.kk kb ko kc n.gk.length gc H.length (Ku1 bD H.length) tb to_ sch.length tc W F (fun y a b w'=>Ktn (bJ y) (lim (j+1)) (.returned (.tuple #[a,b])) w') cA dh dt cU bU zo (by
  have dm:=Y.keep.block sg cC hM.sgF;exact(Oc3 dm).trans hM.sc) zo ⟨hR.rbF,bV sg cC hM.sgF,Y.flt⟩ dB).mono fun e bf hp=>?_
 obtain⟨a,b,y,rfl,M,dC,bI,bZ,bk,cI,cQ,cn,de,db,dc⟩:=hp;have bE:=M.size;have dR:=bk.size;have cu:∀ k,bI k->F k\/W.heap.size<=k:=fun k K=>(cn k K).imp id fun e=>by have bh:y.heap.size<=k:=e;omega
 have dj:Ju (fun k=>F k\/bz.ownBlock=some k) W bf:=(M.mono fun k _ e=>.inr (by rw[show k=O from e];exact bB)).trans' bk fun k _ e=>.inl e;have da:DkS X F0 d D0 (lim (j+1)) bI bf:=⟨cf y M bf bk,⟨bZ,cI,bP.trans cQ,db⟩,fun k K=>(cu k K).elim (Y.ffr k) fun e=>.inr zo,de⟩;refine⟨bI,da,dj,cu,?_⟩;have dq:(bx.set n.l none).length=j:=by rw[Of8];exact hlen
 rcases dc with⟨bi,bG,I,bO,bA⟩|⟨bH,bM,I,cY,dK,dQ,dD⟩
 ·injection I with I;injection I with I;have bR:a=.slice (some ⟨bi,0,none⟩) H.length H.length/\b=.nilIface:=by simpa using I
  obtain⟨rfl,rfl⟩:=bR;have bC:(Jba (Ksi (Kr7 n.gk H) (List.range (nR H))) H).length=H.length:=Krw _ _;have bO:Qd bf bi bG (Jba (Ksi (Kr7 n.gk H) (List.range (nR H))) H):=bO;have hcut:=bO.cut;rw[bC]at hcut;have cO:=dw y (Jgr M) dC;have cP:Jjg F (X.heap.size+1) X.heap.size z (bu:Int) bl bX bY (.pointer (some ⟨d,0,none⟩)) (.slice (some ⟨sg,so,none⟩) bL bW) bz (bx.set n.l none) y:=⟨cO,fun x dE=>hR.off x (Kur dE),hR.rbF,hR.dvF⟩;refine .inl ⟨(bi,bG.take H.length,Jba (Ksi (Kr7 n.gk H) (List.range (nR H))) H),bx.set n.l none,?_,cP.turn bk fun k K=>cn k K,⟨hcut.1,?_,fun i hi b o e=>?_⟩,⟨bA.1.2.2,fun i hi b o e=>?_⟩,dq,?_,bK.more U ?_⟩
  ·simp only[dnV];rw[Kuo (by rw[Oc7,bC];omega),bC]
  ·have bN:y.heap.size<=bi:=bA.1.1;exact⟨by show bi≠X.heap.size;omega,fun e=>by have bh:bz.ownBlock=some bi:=e;rw[bB]at bh;cases bh;omega,bA.1.2.1⟩
  ·rw[bC]at hi;have e:(Yo (bG.take H.length) i).1=some ⟨b,o,none⟩:=e;rw[hcut.2 i hi]at e;have hb:=bA.2 i hi b o e;have bN:y.heap.size<=b:=hb.1;exact⟨zo,fun bh=>by rw[bB]at bh;cases bh;omega,hb.2.1⟩
  ·rw[bC]at hi;have e:(Yo (bG.take H.length) i).1=some ⟨b,o,none⟩:=e;rw[hcut.2 i hi]at e;exact(bA.2 i hi b o e).2.2
  ·rw[Ob8,Op0,bT,dx];unfold Jb3;rw[if_neg h0,if_neg cb];unfold Jkq;rw[if_neg h0,if_neg zo,if_neg zo,if_neg zo,if_pos cc,ci];rfl
  exact⟨fun cG=>absurd cG h0,(fun _ i hi e I=>by rw[q2]at I;cases I),fun dI=>zo,fun dH=>zo⟩
 injection I with I;injection I with I;have bR:a=.slice none 0 0/\b=.iface 158 (.pointer (some ⟨bM,0,none⟩)):=by simpa using I
 obtain⟨rfl,rfl⟩:=bR;exact .inr ⟨_,bM,rfl,cL bH bM bf bK cY (dD.of bP.quota bP.fail)⟩
end
theorem Ky1 {m n}(h:m<=n):(List.range n).take m=List.range m:=by
 refine Oi8 fun i=>?_;rw[Oe7];by_cases hi:i<m
 ·rw[if_pos hi,Oh6 hi,Oh6 zo]
 rw[if_neg hi,Ob4 zt]
theorem Qax {sch cs}(h:Zt sch cs)m(y:m<=nR cs):cs.map (Jbx 0 m)=Jba (List.range m) cs:=by
 have:=Ktk (List.range (nR cs)) cs 0 m;rw[Kua h,List.drop_zero,Ky1 y]at this;exact this
theorem Kz5 {a t b o}(h:Jkl a 0 t=some ⟨b,o,none⟩):∃ y,a=some ⟨b,y,none⟩:=by
 unfold Jkl at h;split at h
 ·exact⟨o,h⟩
 cases a with
 |none=>cases h
 |some x=>exact⟨o,by simpa [Addr.add] using h⟩
section
variable {tys:ByteArray->List Int} {scs:List (List Int)} {ns:List PN} {tab:ByteArray->Cs⊕Nat} {j:Nat} {n:PN} {nd:Nd} {X:World}
theorem Kw9 (h:Jdk tys scs ns)(bY:∀ n∈ns,n.op≠0->Ktf n.op)(ht:∀ n∈ns,n.op=0->∀ cs,tab n.tn=.inl cs->Zt (tys n.tn) cs)(H:ns[j]?=some n)(hi:Jnm X n nd)(bh:n.op=6)(s:Nat)(z:Nat)(bu bl:Int)bk Z sc bx bK bz pg:
  Ju1 X (X.heap.size+1) X.heap.size z bu bl bk (.pointer (some ⟨s,0,none⟩)) Z sc (PSp tab ns) (ERp tab ns bx bK bz pg) nd j:=by
 obtain⟨sch,hs,ok⟩:=h.ok j n H;have h0:n.op≠0:=zo;obtain⟨_,q2,cD,cE⟩:=ok.limit bh;refine Km1 h bY ht H hi h0 zo s z bu bl bk Z sc bx bK bz pg fun W br bN hb hR cx g I y cF bC bT cB U=>?_;have bS:Jej nd.op=78:=by rw[hi.op,bh];rfl
 rw[bS];obtain⟨Y,bM,bD,bW,cu,cv,bR,bV,K,cb⟩:=hR.take bC;have bJ:=hR.run;rw[bD]at bJ;have bj:br.ownBlock=some Y:=by rw[bD];rfl
 have bI:∀ b,br.ownBlock≠some b->b≠Y:=fun b bQ e=>bQ (bj.trans (congrArg some e.symm));obtain⟨q,bZ⟩:∃ q:Nat,n.kk=(q:Int):=⟨n.kk.toNat,zo⟩;have ca:n.kk.toNat=q:=zo;have cC:=hb.size;have cA:=hR.low;have cc:Jkq tab n (stN tab ns j)=y.map (Jbx 0 (min q (nR y))):=by
  unfold Jkq;rw[if_neg h0,if_neg zo,if_neg zo,if_neg zo,if_neg zo,if_pos bh,bT,ca,Qax U _ zo]
 rw[cc,Nd.val,hi.l,hi.kk,bZ];refine(Kyg X.heap.size Y bN.length bM n.l q z (.int .i64 bu) (.int .i64 bl) bk (.pointer (some ⟨s,0,none⟩)) Z sc nd.op nd.r nd.tn (.slice nd.xs.1 nd.xs.2.1 nd.xs.2.2) (.slice nd.ky.1 nd.ky.2.1 nd.ky.2.2) g (Ku1 I y.length) (nR y) I y W bJ bW bR bV K.1 ⟨⟨K.2.1.2.2,bI _ K.2.1.2.1⟩,fun j H b o e=>⟨(K.2.2 j H b o e).2.2,bI _ (K.2.2 j H b o e).2.1⟩⟩ U.rows U.one U.few).mono fun ci bL hp=>?_;obtain⟨bP,rfl,bH,bU,cy,bA⟩:=hp;have bG:=Jgr bH;have bi:(y.map (Jbx 0 (min q (nR y)))).length=y.length:=Oa6 _;have bB:∀ j,j<y.length->∀ b o,(Yo (Jnt I y.length 0 (min q (nR y))) j).1=some ⟨b,o,none⟩->∃ O,(Yo I j).1=some ⟨b,O,none⟩:=fun j H b o e=>by
  have M:Yo (Jnt I y.length 0 (min q (nR y))) j=(Jkl (Yo I j).1 0 (min q (nR y)),min q (nR y)-0):=by simp[Yo,Jnt,H]
  rw[M]at e;exact Kz5 e
 refine⟨by rw[bj];exact bG,.inl ⟨bP,Jnt I y.length 0 (min q (nR y)),?_,cb bL bG bU,⟨bA,⟨?_,?_⟩⟩,⟨fun bO=>absurd bO h0,(fun _ i cz cf bE=>by rw[q2]at bE;cases bE),fun cn=>zo,fun cj=>zo⟩,fun F hF hy=>?_⟩⟩
 ·simp only[dnV];rw[Kuo (by simp[Jnt]),bi]
 ·exact⟨zo,by rw[bj];intro e;cases e;omega,bA.row.lt⟩
 ·intro j H b o M;rw[bi]at H;obtain⟨O,bf⟩:=bB j H b o M;have:=K.2.2 j H b O bf;exact⟨this.1,this.2.1,Oc2 this.2.2 bH.size⟩
 have bX:=hy _ (Of6 bC);refine⟨fun e=>by have:=hF _ e;omega,fun j H b o M=>?_⟩;rw[bi]at H;obtain⟨O,bf⟩:=bB j H b o M;exact bX.2 j H b O bf
theorem Kx9 (M:ns[j]?=some n)(bP:nd.op=0)(bh:nd.tn=n.tn)(h0:n.op=0)s z bu bl bi d sc bx bS bB et pg F0 D0 lim(hl:lim j<=lim (j+1))U(bG:∀ v W,ERp tab ns bx bS bB pg j v W->U j v W)(bQ:∀ W F,DkS X F0 d D0 (lim j) F W->∀ y,Below W.heap.size W y->Calls prog 39 #[.pointer (some ⟨s,0,none⟩),.string n.tn] y fun e w'=>Jrr y et pg (some (tab n.tn)) e w'):
  Kvd X (X.heap.size+1) X.heap.size z bu bl bi (.pointer (some ⟨s,0,none⟩)) d sc (PSp tab ns) U F0 D0 lim nd j:=by
 refine⟨zo,zo,fun W F br bk H bV hR hlen bH=>?_⟩;obtain⟨bL,Y⟩:=bH;have bO:=Jma (tab:=tab) M;have bK:Jej nd.op=72:=by rw[bP];rfl
 rw[bK];have bf:=bQ W F H;cases htab:tab n.tn with
 |inl cs=>
  have bM:Jlw tab n (stN tab ns j):=⟨fun _=>⟨cs,htab⟩,fun bN=>absurd h0 bN,fun bU=>zo,fun bT=>zo⟩;refine(Kdz hR.rs nd cs fun y K=>by
   rw[bh];refine(bf y K).mono fun e w' hp=>?_;rw[htab]at hp;exact hp).mono fun bA bj hp=>?_
  obtain⟨I,g,bR,rfl,bI,bE,Z⟩:=hp;refine⟨F,(H.on hl (Ju.of_below (F:=fun _=>False) I) fun _ e=>e.elim),Ju.of_below I,fun k O=>.inl O,.inl ⟨(g,bR,cs),bk,rfl,⟨bI,hR.off,hR.rbF,hR.dvF⟩,bE,⟨fun e=>by have:=H.flt _ e;have:=Z.1;omega,fun i hi b o e bz=>by have:=H.flt _ bz;have:=Z.2 i hi b o e;omega⟩,hlen,?_,Y.more M bM⟩⟩;rw[bO,Ob8,bL];unfold Jb3 Jkq;rw[if_pos h0,if_pos h0,htab];rfl
 |inr p=>
  have:=Jos X.heap.size s z (.int .i64 bu) (.int .i64 bl) bi (.pointer (some ⟨d,0,none⟩)) sc br nd.op nd.l nd.r nd.tn (.slice nd.xs.1 nd.xs.2.1 nd.xs.2.2) (.slice nd.ky.1 nd.ky.2.1 nd.ky.2.2) nd.kk W (fun _ a b w'=>∃ g:Nat,a=.slice none 0 0/\b=.iface 125 (.pointer (some ⟨g,0,none⟩))/\Yu w' b pg (some (-1)) (some (p:Int))) hR.rs.run (fun y K=>by
   rw[bh];refine(bf y K).mono fun e w' hp=>?_;rw[htab]at hp;obtain⟨bC,b,rfl,_,bD⟩:=hp;exact⟨bC,_,_,rfl,b,rfl,rfl,bD⟩)
  refine this.mono fun bA bj hp=>?_;obtain⟨I,y,K,a,b,rfl,g,rfl,rfl,bJ⟩:=hp;exact⟨F,(H.on hl (Ju.of_below (F:=fun _=>False) I) fun _ e=>e.elim),Ju.of_below I,fun k O=>.inl O,.inr ⟨_,g,rfl,bG _ _ ⟨Y,n,M,.inl ⟨h0,p,g,htab,rfl,bJ⟩⟩⟩⟩
end
attribute [local go_sem] Oc0
theorem Qar F0 st d s I z bu bl sd w(bI:Jdu w st d s)(bB:∀ k,F0 k->k<w.heap.size)(bH:¬ F0 st)(P:World->Value->Value->World->Prop)(R:World->Value->Int->Int->Int->Int->Int->World->Prop)(bJ:∀ X,Below w.heap.size w X->Calls prog 25 #[.agg #[I],.agg #[.int .i64 z,.int .i64 bu,.int .i64 bl,.int .i64 sd],.pointer (some ⟨s,0,none⟩),.pointer (some ⟨d,0,none⟩)] X fun e w'=>Ju F0 X w'/\∃ a b,e=.returned (.tuple #[a,b])/\P X a b w')(hl:∀ X a b H,Below w.heap.size w X->X.heap.size=w.heap.size+3->Ju F0 X H->P X a b H->Calls prog 26 #[a,b] H fun e w'=>Below H.heap.size H w'/\∃ l c nd row col pg,e=.returned (.tuple #[l,Ko c nd row col pg])/\R H l c nd row col pg w')(hR:∀ H l c nd row col pg K bi,K.heap.size<=bi.heap.size->(∀ k,k≠w.heap.size+2->bi.heap[k]?=K.heap[k]?)->R H l c nd row col pg K->R H l c nd row col pg bi):
  Calls prog 11 #[.pointer (some ⟨st,0,none⟩),.agg #[I],.agg #[.int .i64 z,.int .i64 bu,.int .i64 bl,.int .i64 sd]] w fun e w'=>Ju F0 w w'/\∃ H l c nd row col pg,Ju F0 w H/\w.heap.size+3<=H.heap.size/\e=.returned (.tuple #[l,Ko c nd row col pg])/\R H l c nd row col pg w':=by
 have bN:=Krx bJ;have bK:=Krx hl;have bL:=Krx hR;have bz:=Krx bB;have bA:=Krx bH;obtain⟨c0,c1⟩:=bI.field;clear bJ hl hR bI bB bH;go_enter func11,ntmps11
 go_upto_region 1 with fail
 have Z:Below w.heap.size w (((w.alloc (.cells #[I] 57)).alloc (.cells #[.int .i64 z,.int .i64 bu,.int .i64 bl,.int .i64 sd] 27)).alloc (.cells #[.int .i64 0,.int .i64 0,.int .i64 0,.int .i64 0,.int .i64 0] 51)):=Jc (Jc (Jc (Oa5 _ _) _) _) _;have bx:(((w.alloc (.cells #[I] 57)).alloc (.cells #[.int .i64 z,.int .i64 bu,.int .i64 bl,.int .i64 sd] 27)).alloc (.cells #[.int .i64 0,.int .i64 0,.int .i64 0,.int .i64 0,.int .i64 0] 51)).heap[w.heap.size]?=some (.cells #[I] 57 (0,0)):=((Oa9 _ _ _ zt).trans (Oa9 _ _ _ zS)).trans (heap_alloc_new w _);have q1:(((w.alloc (.cells #[I] 57)).alloc (.cells #[.int .i64 z,.int .i64 bu,.int .i64 bl,.int .i64 sd] 27)).alloc (.cells #[.int .i64 0,.int .i64 0,.int .i64 0,.int .i64 0,.int .i64 0] 51)).heap[w.heap.size+1]?=some (.cells #[.int .i64 z,.int .i64 bu,.int .i64 bl,.int .i64 sd] 27 (0,0)):=by
  have:=heap_alloc_new (w.alloc (.cells #[I] 57)) (.cells #[.int .i64 z,.int .i64 bu,.int .i64 bl,.int .i64 sd] 27);rw[Oa7]at this;exact(Oa9 _ _ _ zS).trans this
 have q2:(((w.alloc (.cells #[I] 57)).alloc (.cells #[.int .i64 z,.int .i64 bu,.int .i64 bl,.int .i64 sd] 27)).alloc (.cells #[.int .i64 0,.int .i64 0,.int .i64 0,.int .i64 0,.int .i64 0] 51)).heap[w.heap.size+2]?=some (.cells #[.int .i64 0,.int .i64 0,.int .i64 0,.int .i64 0,.int .i64 0] 51 (0,0)):=by
  have:=heap_alloc_new ((w.alloc (.cells #[I] 57)).alloc (.cells #[.int .i64 z,.int .i64 bu,.int .i64 bl,.int .i64 sd] 27)) (.cells #[.int .i64 0,.int .i64 0,.int .i64 0,.int .i64 0,.int .i64 0] 51);rw[Oa7,Oa7]at this;exact this
 have br:(((w.alloc (.cells #[I] 57)).alloc (.cells #[.int .i64 z,.int .i64 bu,.int .i64 bl,.int .i64 sd] 27)).alloc (.cells #[.int .i64 0,.int .i64 0,.int .i64 0,.int .i64 0,.int .i64 0] 51)).heap.size=w.heap.size+3:=by rw[Oa7,Oa7,Oa7]
 generalize (((w.alloc (.cells #[I] 57)).alloc (.cells #[.int .i64 z,.int .i64 bu,.int .i64 bl,.int .i64 sd] 27)).alloc (.cells #[.int .i64 0,.int .i64 0,.int .i64 0,.int .i64 0,.int .i64 0] 51))=M at Z bx q1 q2 br |-;have bP:=zc 0 bx;have bQ:=zc 0 q1;have bR:=zc 1 q1;have bS:=zc 2 q1;have bT:=zc 3 q1;have bZ:=Ja Z c0;have s1:=Ja Z c1;have U:Hid (Below w.heap.size w M/\M.heap[w.heap.size+2]?=some (.cells #[.int .i64 0,.int .i64 0,.int .i64 0,.int .i64 0,.int .i64 0] 51 (0,0))/\M.heap.size=w.heap.size+3):=⟨Z,q2,br⟩;clear c0 c1 Z bx q1 q2 br;refine wp_region_held_drew (S:=fun X=>X.cell? ⟨w.heap.size,0,none⟩=some I/\X.cell? ⟨w.heap.size+1,0,none⟩=some (.int .i64 z)/\X.cell? ⟨w.heap.size+1,1,none⟩=some (.int .i64 bu)/\X.cell? ⟨w.heap.size+1,2,none⟩=some (.int .i64 bl)/\X.cell? ⟨w.heap.size+1,3,none⟩=some (.int .i64 sd)/\X.cell? ⟨st,0,none⟩=some (.pointer (some ⟨d,0,none⟩))/\X.cell? ⟨st,1,none⟩=some (.pointer (some ⟨s,0,none⟩))) zK ⟨Jh bP,Jh bQ,Jh bR,Jh bS,Jh bT,Jh bZ,Jh s1⟩ (fun y=>?_);refine tkj 0 rfl y ?_;refine tkj 1 rfl y ?_;refine tkj 2 rfl y ?_;refine tkj 3 rfl y ?_;refine tkj 4 rfl y ?_;refine tkj 5 rfl y ?_;refine tkj 6 rfl y ?_;refine tkj 7 rfl y ?_;refine tkj 8 rfl y ?_;refine tkj 9 rfl y ?_;refine tkn ?_;refine tkr 10 rfl fun bO hK=>?_;go_simp;refine(bN.out M.drew (Jj U.out.1)).mono ?_;rintro e H ⟨O,a,b,rfl,bC⟩;have Y:Hid (P M.drew a b H/\Ju F0 M.drew H):=⟨bC,O⟩;have nf:∀ k,w.heap.size<=k->¬ F0 k:=fun k bk e=>by have:=bz.out k e;omega
 clear bC;go_simp;refine hK.out _ _ ⟨O.cell y.1 (nf _ (Oa2 _)),O.cell y.2.1 (nf _ zo),O.cell y.2.2.1 (nf _ zo),O.cell y.2.2.2.1 (nf _ zo),O.cell y.2.2.2.2.1 (nf _ zo),O.cell y.2.2.2.2.2.1 bA.out,O.cell y.2.2.2.2.2.2 bA.out⟩ (fun y=>?_);clear hK bO O nf;refine tkj 11 rfl y ?_;refine tkj 12 rfl y ?_;refine tkj 13 rfl y ?_;refine tkj 14 rfl y ?_;refine tkj 15 rfl y ?_;refine tkn ?_;refine wpAnyH_done zK ?_ _;have bG:=bK.out M.drew a b H (Jj U.out.1) U.out.2.2 Y.out.2 Y.out.1;go_wp2_with fail
 refine bG.mono ?_;rintro e K ⟨bE,l,c,nd,row,col,pg,rfl,bD⟩;have bM:=zh bD;have bf:Ju F0 M H:=⟨Y.out.2.os,Y.out.2.tape,Y.out.2.output,Y.out.2.size,Y.out.2.block⟩;have bj:Ju F0 M K:=bf.trans (Ju.of_below bE);have r2:=(bj.block _ (Jd U.out.2.1) (fun e=>by have:=bz.out _ e;omega)).trans U.out.2.1;have bU:=zc 0 r2;have bV:=zc 1 r2;have bW:=zc 2 r2;have bX:=zc 3 r2;have bY:=zc 4 r2;have cb:K.frozen? ⟨w.heap.size+2,0,none⟩=false:=by simp[World.frozen?,r2]
 have cc:K.frozen? ⟨w.heap.size+2,1,none⟩=false:=by simp[World.frozen?,r2]
 have cf:K.frozen? ⟨w.heap.size+2,2,none⟩=false:=by simp[World.frozen?,r2]
 have ci:K.frozen? ⟨w.heap.size+2,3,none⟩=false:=by simp[World.frozen?,r2]
 have cj:K.frozen? ⟨w.heap.size+2,4,none⟩=false:=by simp[World.frozen?,r2]
 have bh:Hid (Ju F0 w K/\Ju F0 w H/\w.heap.size+3<=H.heap.size):=⟨(Ju.of_below U.out.1).trans bj,(Ju.of_below U.out.1).trans bf,by have:=bf.size;have:=U.out.2.2;omega⟩;clear bD bG bf bj r2 bE;go_wp2;refine bodyPost_ret (v:=.tuple #[l,Ko c nd row col pg]) (by simp[results,results11,go_sem,bU,bV,bW,bX,bY]) rfl ⟨bh.out.1.trans' (Kzm _ (w.heap.size+2) _ _ _ _ _) fun k bk e=>by have ca:k=w.heap.size+2:=e;omega,H,l,c,nd,row,col,pg,bh.out.2.1,bh.out.2.2,rfl,bL.out _ _ _ _ _ _ _ _ _ ?_ (fun k bk=>?_) bM.out⟩
 ·simp[World.setCell]
 exact Jib _ _ _ _ _ _ _ k bk
end
section
open Go.RowKit Go.Shelf
theorem Ku4 {D E}(h:Kft D E):∀ l,Uf E l=Uf D l
 |[]=>rfl
 |i::l=>by
  have y:E.pages.getD i none=D.pages.getD i none:=h.pages i;simp only[Uf,y,Ku4 h l]
theorem Qap {D E}(h:Kft D E)l t n:Us E l t n=Us D l t n:=by unfold Us;rw[Ku4 h]
theorem Kws {D E}(h:Kft D E)y ts m cols:∀ k,Jh3 E y ts m cols k=Jh3 D y ts m cols k
 |0=>rfl
 |k+1=>by simp only[Jh3,Kws h y ts m cols k,Qap h]
theorem Kwq {D E}(h:Kft D E):Zo E=Zo D:=funext fun T=>by
 have:Jpn E T.types=Jpn D T.types:=funext fun y=>funext fun x=>by unfold Jpn;simp only[Kws h]
 unfold Zo Jfx;rw[this]
theorem Kzb {D E}(h:Kft D E){T}(y:Jid D T):Jid E T:=⟨y.cols,y.rows,y.group,y.count,y.segs,fun l hl t ht=>y.full l hl t (by rw[<-Ku4 h];exact ht)⟩
theorem Kvm {D E}(h:Kft D E)Ts n:Jcm E Ts n=Jcm D Ts n:=by unfold Jcm;rw[Kwq h]
theorem Ju1.mono {w L rb z bu bl K M I sc H y ER' nd j}(h:Ju1 w L rb z bu bl K M I sc H y nd j)(bf:∀ v W,y j v W->ER' j v W):Ju1 w L rb z bu bl K M I sc H ER' nd j:=
 ⟨h.1,h.2.1,fun W U O a b c d e=>(h.2.2 W U O a b c d e).mono fun _ _ hp=>⟨hp.1,hp.2.imp id fun ⟨ty,b,Y,Z⟩=>⟨ty,b,Y,bf _ _ Z⟩⟩⟩
def ERd (tab:ByteArray->Cs⊕Nat)(ns:List PN)(D0:DS)(H K I pg q qw:Addr)(j:Nat)(v:Value)(W:World):Prop:=ERp tab ns H K I pg j v W \/
 ∃ y b,v=.iface 158 (.pointer (some ⟨b,0,none⟩))/\Jd7 tab ns j/\(∃ n,ns[j]?=some n/\n.op=5)/\Yu W v (if y=true then q else qw) none (some (-1))/\Ks1 D0 y
theorem ERd.below {tab:ByteArray->Cs⊕Nat}{ns D0 H K I pg q qw j v W y}(h:ERd tab ns D0 H K I pg q qw j v W)(hb:Below W.heap.size W y):ERd tab ns D0 H K I pg q qw j v y:=by
 rcases h with h|⟨bf,b,M,O,U,Y,Z⟩
 ·exact .inl (h.below hb)
 exact .inr ⟨bf,b,M,O,U,Y.below hb,Z⟩
structure Kzh (tab:ByteArray->Cs⊕Nat) (ns:List PN) (scs:List (List Int)) (bu pr:Nat) (g:Nat->Nat) (lim:Nat->Nat):Prop where
 tys:∀ sch∈scs,sch.length<=100/\∀ c,c<sch.length->1<=sch.getD c 0/\sch.getD c 0<=3
 gdn:∀ q,bu<q->g (ckN q bu)+1<=g q
 mono:∀ j,lim j<=lim (j+1)
 top:∀ j,lim j<=930000
 cap:∀ (j:Nat) (n:PN),ns[j]?=some n->n.op=5->Jd7 tab ns j->∀ cs sch,cs=Jbs n (stN tab ns j)->scs[n.l]?=some sch->nR cs<=50000/\(∀ ch:List Nat,(∀ t∈ch,t<nR cs)->1<=ch.length->ch.length<=64->(Qu (Kr6 sch (Jba ch cs) sch.length)).length<=pr*ch.length)/\g (ckN (nR cs) bu)<=100000/\lim j+2*pr*bu*ckN (nR cs) bu+pr*nR cs*g (ckN (nR cs) bu)<=lim (j+1)
theorem Kzh.upto {tab:ByteArray->Cs⊕Nat}{ns I bu pr g lim}(h:Kzh tab ns I bu pr g lim)n:∀ j,j<=n->lim j<=lim n:=by
 induction n with
 |zero=>intro j y;rw[Nat.le_zero.1 y];exact Oa2 _
 |succ n H=>
  intro j y;by_cases e:j=n+1
  ·rw[e];exact Oa2 _
  exact Ob2 (H j zo) (h.mono n)
def Kwo (b:Nat)(H:List (List Int))(v:Value)(W:World):Prop:=∃ (B:Nat) (y:List Sch),b<=B/\Jo W B 22 v (y.map Jbl)/\y.map (fun x=>x.2.2)=H/\∀ x∈y,Kc W x.1 x.2.2/\∀ g o,x.1=some ⟨g,o,none⟩->b<=g
theorem Kwo.below {b K v W y}(h:Kwo b K v W)(hb:Below W.heap.size W y):Kwo b K v y:=by
 obtain⟨B,O,M,q1,q2,I⟩:=h;exact⟨B,O,M,Jl q1 fun g e=>hb.block g (Je q1 e).2,q2,fun x H=>⟨(I x H).1.below hb,(I x H).2⟩⟩
theorem Kwo.at {b H v W}(h:Kwo b H v W){l}(hl:l<H.length):∃ sg cap,v=.slice (some ⟨sg,0,none⟩) H.length cap/\b<=sg/\∀ l sch,H[l]?=some sch->1<=sch.length->∃ tb to_ tc,W.cell? ⟨sg,l,none⟩=some (.slice (some ⟨tb,to_,none⟩) sch.length tc)/\Kc W (some ⟨tb,to_,none⟩) sch/\b<=tb/\tb<W.heap.size:=by
 obtain⟨B,y,bE,q1,q2,bx⟩:=h;have Z:y.length=H.length:=by rw[<-q2,Oa6]
 rcases q1 with⟨_,⟨_,I⟩|⟨sg,cap,bf,I,bz,bh,bA,bB,bC,bi⟩⟩
 ·rw[Oa6]at I;omega
 rw[Oa6,Z]at I;refine⟨sg,cap,I,zo,fun l sch M bD=>?_⟩;have K:l<y.length:=by rw[Z];exact(Ob9.1 M).1
 have bj:W.cell? ⟨sg,l,none⟩=some (Jbl y[l]):=by
  have:(bf.toList.take ((y.map Jbl).length*1))[l]?=(y.map Jbl)[l]?:=by rw[bi]
  rw[Oe7,if_pos (by rw[Oa6];omega),Oe6,Ob1,Oa3 K]at this;simp[World.cell?,bh];exact this
 have Y:y[l].2.2=sch:=by
  rw[<-q2,Ob1,Oa3 K]at M;simpa using M
 obtain⟨U,br⟩:=bx y[l] (Ob3 K);rw[Y]at U;obtain⟨tb,to_,O,bk,_⟩:=U.at (i:=0) zo;refine⟨tb,to_,y[l].2.1,?_,O▸U,br tb to_ O,bk⟩;rw[bj,Jbl,O,Y]
end
section
open Go.RowKit Go.Shelf Tryz
structure Qbm (scs:List (List Int)) (ns:List PN) (tab:ByteArray->Cs⊕Nat) (j:Nat) (n:PN):Prop where
 chk:∀ {nd:Nd} {w:World} (_:Jnm w n nd) (tf:Value),Jvz w tf scs (flN ns) nd j
 wrk:∀ {nd:Nd} {X:World} (_:Jnm X n nd) (s:Nat) (z:Nat) (bu bl sd:Int) (dp sc:Value) (dva ova gva pg mna:Addr) (_:Qdh tab ns X j n z bl sd dva ova gva mna),Ju1 X (X.heap.size+1) X.heap.size z bu bl (.int .i64 sd) (.pointer (some ⟨s,0,none⟩)) dp sc (PSp tab ns) (ERp tab ns dva ova gva pg) nd j
theorem Kvb {H w0 w V}(hb:Below w0.heap.size w0 w)(K:∀ k,H k->w0.heap.size<=k)(y:Ju H w V):Below w0.heap.size w0 V:=by
 have I:=hb.size;exact⟨y.os.trans hb.os,y.tape.trans hb.tape,y.output.trans hb.output,Ob2 I y.size,fun k M=>(y.block k zo fun e=>by have:=K k e;omega).trans (hb.block k M)⟩
theorem Qao (bh:Nat->Prop)(st:Nat)(E:DS)(Ts:List TS)w(h:Sto bh w st E Ts)(dg:∀ T∈Ts,Jid E T)(dQ:∀ T∈Ts,∀ cs,Zo E T=.inl cs->Zt T.types cs)a0 a1 a2 bP q wr pg pl ex dr w0(cz:Jax w0 a0 a1 a2 bP q wr pg pl ex dr)(cV:Below w0.heap.size w0 w)(bY:∀ k,bh k->w0.heap.size<=k)(ns:List PN)(bN:List (List Int))(bB:Jdk (Jhd Ts) bN ns)(cB:∀ n∈ns,n.op=0->Ub Ts n.tn<Ts.length)(dX:Jd7 (Ye E Ts) ns ns.length->nR (Jac (Ye E Ts) ns)<=10000)(dP:∀ n∈ns,n.op≠0->n.op≠5->n.op≠6->Ktf n.op)(cZ:∀ (j:Nat) (n:PN),ns[j]?=some n->n.op≠0->n.op≠5->n.op≠6->Qbm bN ns (Ye E Ts) j n)(dR:∀ (j:Nat) (n:PN),ns[j]?=some n->n.op=4->Jd7 (Ye E Ts) ns j->nR (Jbs n (stN (Ye E Ts) ns j))<=20000)(dT:∀ (j:Nat) (n:PN),ns[j]?=some n->n.op=3->Jd7 (Ye E Ts) ns j->(jnN n (stN (Ye E Ts) ns j)).length<=2000)(nb no cJ:Nat)(bE:List Nd)(hl:bE.length=ns.length)(cU:∀ (j:Nat) (nd:Nd),bE[j]?=some nd->Zm w nb (no+j*7) nd)(hI:∀ V,Ju bh w V->∀ (j:Nat) (n:PN) (nd:Nd),ns[j]?=some n->bE[j]?=some nd->Jnm V n nd)(z bu:Nat)(bl sd:Int)(fh:1<=z)(fi:z<=1000)(dI:2<=bu)(fw:bu<=1000)(dc:0<=bl)(dd:bl<=4096)(fc:Jg sd)(pr:Nat)(gf:Nat->Nat)(lim:Nat->Nat)(bC:Kzh (Ye E Ts) ns bN bu pr gf lim)(dL:dz E<=lim 0)(R:World->Value->Int->Int->Int->Int->Int->World->Prop)(dB:∀ y l c nd row col pg bW bX,bW.heap.size<=bX.heap.size->(∀ k,y.heap.size<=k->bX.heap[k]?=bW.heap[k]?)->R y l c nd row col pg bW->R y l c nd row col pg bX)(dC:∀ y l c nd row col pg W,Qci (Ye E Ts) ns y l c nd row col pg W->R y l c nd row col pg W)bz bD bA cI(dW:Jig w0 [ex,pl,a0,a1,a2,bP,q,wr,pg] bz bD bA cI)(dN:∀ y,Ju bh w y->∀ (j:Nat) (v:Value) (eb:Nat),ERd (Ye E Ts) ns E bz bD bA pg q wr j v y->y.heap[eb]?=some (.cells #[.int .i64 (j:Int),v] 109 (0,0))->Calls prog 26 #[.slice none 0 0,.iface 107 (.pointer (some ⟨eb,0,none⟩))] y fun e w'=>Below y.heap.size y w'/\∃ l c nd row col bM,e=.returned (.tuple #[l,Ko c nd row col bM])/\R y l c nd row col bM w'):
  Calls prog 11 #[.pointer (some ⟨st,0,none⟩),.agg #[.slice (some ⟨nb,no,none⟩) ns.length cJ],.agg #[.int .i64 (z:Int),.int .i64 (bu:Int),.int .i64 bl,.int .i64 sd]] w fun e w'=>Ju bh w w'/\∃ y l c nd row col pg,w.heap.size<=y.heap.size/\e=.returned (.tuple #[l,Ko c nd row col pg])/\R y l c nd row col pg w' /\
   ∃ bV K,Sto bV w' st K Ts/\Kft E K/\dz K<=lim ns.length/\(∀ k,bh k->bV k)/\(∀ k,bV k->bh k\/w.heap.size<=k)/\∀ k,bV k->k<y.heap.size:=by
 obtain⟨⟨d,s,F,G,sv,bs,cu,cv,dw,cP,cQ,cR,cx,dx,dy,dv,hM⟩,bJ⟩:=h;have fz:=bB.one;have fx:=bB.few;have bO:∀ k,F k->bh k:=fun k H=>hM k (.inl H);have bR:∀ k,F k->k<w.heap.size:=fun k H=>bJ k (bO k H);have cS:∀ k,G k\/Jnr s sv k->¬ F k:=fun k H=>by
  rcases H with H|rfl|H
  ·exact cP k H
  ·exact cQ
  exact cR k H
 have cc:∀ V,Ju bh w V->Jax V a0 a1 a2 bP q wr pg pl ex dr:=fun V bk=>cz.below (Kvb cV bY bk);have dA:∀ V,Ju bh w V->Jig V [ex,pl,a0,a1,a2,bP,q,wr,pg] bz bD bA cI:=fun V bk=>dW.below (Kvb cV bY bk);have cy:∀ X,Below w.heap.size w X->Ju bh w X:=fun X bf=>Ju.of_below bf;have bS:∀ X V,Below w.heap.size w X->Ju F X V->Ju bh w V:=fun X V bf bk=>(Ju.of_below bf).trans (bk.mono fun k _ e=>bO k e);have fe:∀ n∈ns,n.op=0->∀ X,Below w.heap.size w X->Calls prog 34 #[.pointer (some ⟨s,0,none⟩),.string n.tn] X fun e w'=>Below X.heap.size X w'/\∃ g c,e=.returned (.tuple #[.slice (some ⟨g,0,none⟩) (Jhd Ts n.tn).length c,.bool true])/\X.heap.size<=g/\g<w'.heap.size/\Kc w' (some ⟨g,0,none⟩) (Jhd Ts n.tn):=fun n I h0 X bf=>by
  have H:=cB n I h0;have dG:=Ob3 H;have cn:Jhd Ts n.tn=Ts[Ub Ts n.tn].types:=by unfold Jhd;rw[Oa3 H];rfl
  rw[cn];have cf:=(dg _ dG).cols;exact Kbe n.tn X G s d Ts sv bs (cv.below bf) (Ub Ts n.tn) rfl H (fun e=>by rw[e]at cf;simp at cf) zo
 have fd:∀ n∈ns,n.op=0->Jcm E Ts n.tn=some (Ye E Ts n.tn):=fun n I h0=>by
  have H:=cB n I h0;unfold Ye Jcm;rw[Oa3 H];rfl
 have ht:∀ n∈ns,n.op=0->∀ cs,Ye E Ts n.tn=.inl cs->Zt (Jhd Ts n.tn) cs:=fun n I h0 cs dJ=>by
  have H:=cB n I h0;have cn:Jhd Ts n.tn=Ts[Ub Ts n.tn].types:=by unfold Jhd;rw[Oa3 H];rfl
  have M:Ye E Ts n.tn=Zo E Ts[Ub Ts n.tn]:=by unfold Ye Jcm;rw[Oa3 H];rfl
  rw[cn];exact dQ _ (Ob3 H) cs (M.symm.trans dJ)
 have cE:∀ n∈ns,n.op≠0->Ktf n.op:=fun n I h0=>by
  by_cases bi:n.op=5
  ·rw[bi];exact Kz3
  by_cases bI:n.op=6
  ·rw[bI];exact Kyt
  exact dP n I h0 bi bI
 have fC:∀ sch∈bN,1<=sch.length->True:=fun _ _ _=>trivial;have ff:=fun X (bf:Below w.heap.size w X)=>Kwu nb no cJ s d F E lim bE z bu bl sd (PSp (Ye E Ts) ns) (ERd (Ye E Ts) ns E bz bD bA pg q wr)
  (Kwo w.heap.size bN) X (fun j nd Z=>(cU j nd Z).below bf) zo zo zo zo zo zo dc dd
  (fun y cD=>by
   have Y:=Jb bf cD;have cb:=cc y (cy y Y);refine(Jvh bB nb no cJ bE hl s y (fun j nd Z=>(cU j nd Z).below Y) (fun j n nd Z dS=>by
    have bj:=hI y (cy y Y) j n nd Z dS;have cH:=Of6 Z;by_cases h0:n.op=0
    ·exact Koi bB Z bj h0 s fun bQ bT=>fe n cH h0 bQ (Jb Y bT)
    by_cases bi:n.op=5
    ·exact Kx4 bB Z bj bi _ cb.m2.cp cb.m2.ce
    by_cases bI:n.op=6
    ·exact Kxb bB Z bj bI _ cb.m2.cp cb.m2.ce
    exact(cZ j n Z h0 bi bI).chk bj _)).mono fun e w' hp=>?_
   obtain⟨ft,sv',rfl,q1,q2,bH,cK⟩:=hp;obtain⟨a,c,rfl⟩:=Jcz q2;have dl:=Y.size;exact⟨a,_,c,rfl,q1,_,ft,zo,q2,bH,fun x dj=>⟨(cK x dj).1,fun g o e=>by have:=(cK x dj).2 g o e;omega⟩⟩)
  (fun v W cO hb bC=>bC.below hb)
  (fun y sc cD dY j nd Z=>by
   have Y:=Jb bf cD;have fD:=Y.size;have cY:j<ns.length:=by rw[<-hl];exact(Ob9.1 Z).1
   have I:ns[j]?=some ns[j]:=Oa3 cY;have cH:=Ob3 cY;have bj:=hI y (cy y Y) j _ nd I Z;obtain⟨fs,fA,dm⟩:=bB.ok j _ I;have fy:=dm.le;by_cases h0:ns[j].op=0
   ·refine Kx9 I (by rw[bj.op,h0];rfl) bj.tn h0 s z bu bl _ d sc bz bD bA bP pg F E lim (bC.mono j) _ (fun v W br=>.inl br) fun W O bx bQ bT=>?_;obtain⟨K,dK,di,_⟩:=bx.ex;have dU:Ju bh w bQ:=(bS y W Y bx.keep).trans (Ju.of_below bT);have cA:=cc bQ dU;have dD:Jfl W G s d Ts sv bs:=(cv.below Y).stands bx.keep.size fun k H cF=>bx.keep.block k cF (cS k H);rw[<-fd _ cH h0,<-Kvm di];exact Jou _ bQ O G s d K Ts sv bs (dD.below bT) (dK.below bT) (fun T dE=>Kzb di (dg T dE)) a0 a1 a2 cA.e bP pg cA.m.cp cA.m.ct
   by_cases bi:ns[j].op=5
   ·obtain⟨bG,dp,dq,fJ,fo⟩:=dm.sort bi;obtain⟨kb,ko,kc,da,_⟩:=bj.gk (.inr (.inr bi));have de:ns[j].l<bN.length:=(Ob9.1 bG).1;obtain⟨sg,fr,rfl,fB,dH⟩:=dY.at de;have dZ:1<=fs.length:=by
     cases hgk:ns[j].gk with
     |nil=>rw[hgk]at dq;exact absurd dq zS
     |cons k ks=>have:=fo k (by rw[hgk];exact Of4);omega
    have cX:=(cc w (Ju.refl _ _)).m;have cT:¬ F 6/\¬ F 7:=⟨fun e=>by have:=bY _ (bO _ e);have:=Jb0 cz.m.cq;omega,fun e=>by have:=bY _ (bO _ e);have:=Jb0 cz.m.cw;omega⟩;refine Kyd bB cE ht I bi (by rw[bj.op,bi];rfl) bj.l z bu bl _ _ d sg 0 bN.length fr kb ko kc da de F E lim _ a0 a1 a2 q wr pg (fun sch ci=>?_) (fun sch ci=>bC.tys sch (Of6 ci)) dI zo (fun fu b cO dO cf fg=>.inr ⟨fu,b,rfl,dO,⟨_,I,bi⟩,cf,fg⟩) pr gf bC.gdn (bC.top _) (bC.cap j _ I bi);rw[bG]at ci;cases ci
    obtain⟨tb,to_,tc,fl,fm,fE,fF⟩:=dH _ _ bG dZ;refine⟨tb,to_,tc,⟨fun V bk=>?_,⟨cT.1,cT.2,?_,?_⟩,by rw[Od0];exact fl,fun e=>by have:=bR _ e;omega⟩⟩
    ·have bU:=bS y V Y bk;have ca:=cc V bU;refine⟨fm.of_block bk.size fun b o e hb=>bk.block b hb fun M=>?_,?_,ca.e,ca.m.cq,ca.m.cw,ca.m.cp⟩
     ·cases e
      have:=bR _ M;omega
     obtain⟨fG,fI,fH,db,dV⟩:=(hI V bU j _ nd I Z).gk (.inr (.inr bi));rw[da]at db;cases db
     exact dV
    ·have:=Jb0 cX.cq;omega
    have:=Jb0 cX.cw;omega
   by_cases bI:ns[j].op=6
   ·refine Kvd.of ⟨by rw[bj.op];omega,by rw[bj.op];omega⟩ (bC.mono j) fun V cC bk=>?_;have:=(Kw9 bB cE ht I (hI V (bS y V Y bk) j _ nd I Z) bI s z bu bl (.int .i64 sd) (.pointer (some ⟨d,0,none⟩)) sc bz bD bA pg).mono (ER':=ERd (Ye E Ts) ns E bz bD bA pg q wr) fun _ _ br=>.inl br;rw[cC]at this;exact this
   refine Kvd.of ⟨by rw[bj.op];omega,by rw[bj.op];omega⟩ (bC.mono j) fun V cC bk=>?_;have bU:=bS y V Y bk;have bZ:=dA V bU;have:=((cZ _ _ I h0 bi bI).wrk (hI V bU j _ nd I Z) s z bu bl sd (.pointer (some ⟨d,0,none⟩)) sc bz bD bA pg cI ⟨fh,fi,⟨dc,dd⟩,fc,⟨bZ.cd,bZ.co⟩,bZ.cg,bZ.cm,dR j _ I,dT j _ I⟩).mono (ER':=ERd (Ye E Ts) ns E bz bD bA pg q wr) fun _ _ br=>.inl br;rw[cC]at this;exact this)
  (fun j v W cO hb br=>br.below hb) ⟨by simp[stN],fun k m H=>absurd H (Oe0 _)⟩
  ⟨Ju.refl _ _,⟨E,dw.below bf,⟨fun _=>rfl,rfl,rfl,rfl⟩,dL⟩,fun k H=>.inl H,fun k H=>Oc2 (bR k H) bf.size⟩ (bC.upto _)
 rw[<-hl];refine(Qar F st d s _ z bu bl sd w cu bR cx (fun X a b W=>Kxf bE.length (PSp (Ye E Ts) ns) (ERd (Ye E Ts) ns E bz bD bA pg q wr) F d E (lim bE.length) X (.returned (.tuple #[a,b])) W) (fun y l c nd row col pg W=>R y l c nd row col pg W/\w.heap.size+3<=y.heap.size/\y.heap.size<=W.heap.size/\∃ O K,Zb W O d K/\Kft E K/\dz K<=lim bE.length/\(∀ k,O k->F k\/w.heap.size+3<=k)/\∀ k,O k->k<y.heap.size) (fun X bf=>(ff X bf).mono fun e w' hp=>?_) (fun X a b y bf fv Y hp=>?_) (fun y l c nd row col bM bW bX dl H hr=>?_)).mono fun e w' hp=>?_
 ·have dh:=hp;obtain⟨O,bx,⟨x,ds,rfl,_⟩|⟨j,v,eb,rfl,_⟩⟩:=hp
  ·exact⟨bx.keep,_,_,rfl,dh⟩
  exact⟨bx.keep,_,_,rfl,dh⟩
 ·have fj:=Y.size;obtain⟨O,bx,dM⟩:=hp;have cW:∀ w',Below y.heap.size y w'->w.heap.size+3<=y.heap.size/\y.heap.size<=w'.heap.size/\∃ O K,Zb w' O d K/\Kft E K/\dz K<=lim bE.length/\(∀ k,O k->F k\/w.heap.size+3<=k)/\∀ k,O k->k<y.heap.size:=fun w' hb=>by
   obtain⟨K,g1,g2,du⟩:=bx.ex;exact⟨zo,hb.size,O,K,g1.below hb,g2,du,fun k H=>(bx.ffr k H).imp id fun e=>zo,bx.flt⟩
  rcases dM with⟨x,ds,br,q2,_,bH⟩|⟨j,v,eb,br,q2,bH,cK⟩
  ·cases br
   rw[hl]at bH;have cG:Jac (Ye E Ts) ns=x.2.2:=by
    unfold Jac;rw[<-bH.1,Ob8];simp
   obtain⟨sch,_,bL⟩:=Juy bB cE ht bH.2;have df:=dX bH.2;rw[cG]at bL df;refine(Jrn x.1 (Ku1 x.2.1 x.2.2.length) x.2.1 x.2.2 (nR x.2.2) y q2 bL.rows bL.one bL.few df).mono fun e w' hp=>?_;obtain⟨bG,dt,bs',rfl,dp⟩:=hp;refine⟨bG,_,0,-1,-1,-1,-1,rfl,dC _ _ _ _ _ _ _ _ ⟨rfl,rfl,rfl,rfl,rfl,bH.2,dt,bs',?_,?_⟩,cW w' bG⟩
   ·rw[cG]
   rw[cG];exact dp
  cases br
  refine(dN y (bS X y bf Y) j v eb bH q2).mono fun e w' hp=>?_;obtain⟨bG,l,c,nd,row,col,bM,br,hr⟩:=hp;exact⟨bG,l,c,nd,row,col,bM,br,hr,cW w' bG⟩
 ·obtain⟨fp,r2,fq,O,K,cL,cM,cN,bK,cj⟩:=hr;refine⟨dB _ _ _ _ _ _ _ _ _ dl (fun k U=>H k zo) fp,r2,zo,O,K,cL.stands fun k U _=>H k fun e=>?_,cM,cN,bK,cj⟩;rcases bK k U with M|M
  ·have:=bR k M;omega
  omega
 obtain⟨H,y,l,c,nd,row,col,bM,_,fj,rfl,hr,r2,fq,O,K,cL,cM,cN,bK,cj⟩:=hp;have fk:=H.size;refine⟨H.mono fun k _ e=>bO k e,y,l,c,nd,row,col,bM,zo,rfl,hr,fun k=>bh k\/O k,K,⟨⟨d,s,O,G,sv,bs,?_,cv.stands fk fun k U cF=>H.block k cF (cS k U),cL,fun k U e=>?_,fun e=>?_,fun g bL e=>?_,fun e=>?_,dx,dy,dv,fun k U=>?_⟩,fun k U=>?_⟩,cM,cN,fun k U=>.inl U,fun k U=>?_,fun k U=>?_⟩
 ·unfold Jdu at cu |-;exact(H.block st (bJ st (hM st (.inr (.inr (.inr rfl))))) cx).trans cu
 ·rcases bK k e with M|M
  ·exact cP k U M
  have:=bJ k (hM k (.inr (.inl U)));omega
 ·rcases bK s e with M|M
  ·exact cQ M
  have:=bJ s (hM s (.inr (.inr (.inl (.inl rfl)))));omega
 ·rcases bK g e with M|M
  ·exact cR g bL M
  have:=bJ g (hM g (.inr (.inr (.inl (.inr bL)))));omega
 ·rcases bK st e with M|M
  ·exact cx M
  have:=bJ st (hM st (.inr (.inr (.inr rfl))));omega
 ·rcases U with e|e
  ·exact .inr e
  exact .inl (hM k (.inr e))
 ·rcases U with e|e
  ·have:=bJ k e;omega
  have:=cj k e;omega
 ·rcases U with e|e
  ·exact .inl e
  exact(bK k e).elim (fun e=>.inl (bO k e)) fun e=>.inr zo
 rcases U with e|e
 ·have:=bJ k e;omega
 exact cj k e
theorem Kuz (y:Nat->Prop)(st:Nat)(E:DS)(Ts:List TS)w(h:Sto y w st E Ts)(bZ:∀ T∈Ts,Jid E T)(bP:∀ T∈Ts,∀ cs,Zo E T=.inl cs->Zt T.types cs)a0 a1 a2 bA q wr pg pl ex bz w0(bk:Jax w0 a0 a1 a2 bA q wr pg pl ex bz)(bI:Below w0.heap.size w0 w)(bB:∀ k,y k->w0.heap.size<=k)(ns:List PN)(O:List (List Int))(bD:Jdk (Jhd Ts) O ns)(bG:∀ n∈ns,n.op=0->Ub Ts n.tn<Ts.length)(bW:Jd7 (Ye E Ts) ns ns.length->nR (Jac (Ye E Ts) ns)<=10000)(bO:∀ n∈ns,n.op≠0->n.op≠5->n.op≠6->Ktf n.op)(bS:∀ (j:Nat) (n:PN),ns[j]?=some n->n.op≠0->n.op≠5->n.op≠6->Qbm O ns (Ye E Ts) j n)(bQ:∀ (j:Nat) (n:PN),ns[j]?=some n->n.op=4->Jd7 (Ye E Ts) ns j->nR (Jbs n (stN (Ye E Ts) ns j))<=20000)(bR:∀ (j:Nat) (n:PN),ns[j]?=some n->n.op=3->Jd7 (Ye E Ts) ns j->(jnN n (stN (Ye E Ts) ns j)).length<=2000)(nb no bx:Nat)(M:List Nd)(hl:M.length=ns.length)(bC:∀ (j:Nat) (nd:Nd),M[j]?=some nd->Zm w nb (no+j*7) nd)(hI:∀ V,Ju y w V->∀ (j:Nat) (n:PN) (nd:Nd),ns[j]?=some n->M[j]?=some nd->Jnm V n nd)(z bu:Nat)(bl sd:Int)(cc:1<=z)(cf:z<=1000)(bJ:2<=bu)(bK:bu<=1000)(bT:0<=bl)(bU:bl<=4096)(ca:Jg sd)(pr:Nat)(gf:Nat->Nat)(lim:Nat->Nat)(bE:Kzh (Ye E Ts) ns O bu pr gf lim)(bL:dz E<=lim 0)(bY:∀ (Y bf Z:Addr) (j:Nat) (v:Value) (W:World),¬ ERp (Ye E Ts) ns Y bf Z pg j v W)(bX:∀ bj,¬ Ks1 E bj):
  Calls prog 11 #[.pointer (some ⟨st,0,none⟩),.agg #[.slice (some ⟨nb,no,none⟩) ns.length bx],.agg #[.int .i64 (z:Int),.int .i64 (bu:Int),.int .i64 bl,.int .i64 sd]] w fun e w'=>Ju y w w'/\Jd7 (Ye E Ts) ns ns.length/\∃ U g bs H I,e=.returned (.tuple #[.slice (some ⟨g,0,none⟩) (nR (Jac (Ye E Ts) ns)) (nR (Jac (Ye E Ts) ns)),Ko 0 (-1) (-1) (-1) (-1)])/\w.heap.size<=U/\Jcu w' U g bs (Qf (nR (Jac (Ye E Ts) ns)) (Jac (Ye E Ts) ns)) /\
   Sto H w' st I Ts/\Kft E I/\dz I<=lim ns.length/\(∀ k,y k->H k)/\(∀ k,H k->y k\/w.heap.size<=k)/\∀ k,H k->k<U:=by
 obtain⟨Y,bf,Z,ci,bV,cE⟩:=bk.m3;refine(Qao y st E Ts w h bZ bP a0 a1 a2 bA q wr pg pl ex bz w0 bk bI bB ns O bD bG bW bO bS bQ bR nb no bx M hl bC hI z bu bl sd cc cf bJ bK bT bU ca pr gf lim bE bL (Qci (Ye E Ts) ns) (fun K l c nd row col pg cB cC cF br hr=>?_) (fun K l c nd row col pg W hr=>hr) Y bf Z ci bV fun K cD j v eb bh q2=>?_).mono fun e w' hp=>?_
 ·obtain⟨cj,r2,cn,cu,cv,cx,g,bs',cy,bi⟩:=hr;exact⟨cj,r2,cn,cu,cv,cx,g,bs',cy,bi.of_blocks (br g bi.from_.1) fun b hb=>br b (bi.from_.2 b hb).1⟩
 ·rcases bh with bh|⟨bj,_,_,_,_,_,cb⟩
  ·exact(bY _ _ _ _ _ _ bh).elim
  exact(bX bj cb).elim
 obtain⟨hb,K,l,c,nd,row,col,cG,bH,rfl,⟨rfl,rfl,rfl,rfl,rfl,bM,g,bs,rfl,bN⟩,H,I,s1,s2,s3,s4,cz,cA⟩:=hp;exact⟨hb,bM,K.heap.size,g,bs,H,I,rfl,bH,bN,s1,s2,s3,s4,cz,cA⟩
end
open Go.RowKit Go.Shelf
theorem Qa2 t xs(h:Jdq t xs):(Jav t 0 xs).length<=4+42*xs.length:=by
 have y:(Jdt t 0 (Jz xs)).length<=41*(Jz xs).length:=by
  unfold Jdt;rw[if_pos rfl];exact Jgg _ (Jgz t xs h)
 have H:=Zy xs;exact zaP
theorem Sg.row {ts cs ks}(h:Sg ts cs ks)(y:ts.length<=6){ids}(I:∀ i∈ids,i<nR cs)(O:1<=ids.length)(hl:ids.length<=64):(Qu (Kr6 ts (Jba ids cs) ts.length)).length<=6*ids.length:=by
 have hlen:=h.good.len;have hC:=(h.lay I hl).1;have K:∀ c,c<ts.length->(Kst ts (Jba ids cs) c).length<=4+42*ids.length:=fun c H=>by
  have:=Qa2 _ _ (hC.ok c H).2;rw[Kr1 ids zo]at this;exact this
 have htot:∀ k,k<=ts.length->(Kr6 ts (Jba ids cs) k).length<=(4+42*ids.length)*k:=by
  intro k;induction k with
  |zero=>intro _;simp[Kr6]
  |succ k M=>intro U;rw[Kso,Oa8,Nat.mul_succ];have:=M zo;have:=K k zo;omega
 have ht:=htot ts.length (Oa2 _);have:(4+42*ids.length)*ts.length<=(4+42*ids.length)*6:=Nat.mul_le_mul_left _ y;have:=Jio (Kr6 ts (Jba ids cs) ts.length);omega
def psN (q:Nat):Nat:=if q<=2 then 0 else if q<=4 then 1 else if q<=8 then 2 else if q<=16 then 3 else if q<=32 then 4 else if q<=64 then 5 else if q<=128 then 6 else q
theorem Kv1 {bu}(hb:2<=bu)q(h:bu<q):psN (ckN q bu)+1<=psN q:=by
 have y:=Kum (q:=q) hb;generalize ckN q bu=m at y |-;unfold psN;repeat' split
 all_goals omega
theorem Qa5 {n bu}(U:n<=200)(hb:2<=bu)(O:bu<=31):psN (ckN n bu)<=6/\2*6*bu*ckN n bu+6*n*psN (ckN n bu)<=10000:=by
 have H:ckN n bu<=100:=by have:=Kum (q:=n) hb;omega
 have I:bu*ckN n bu<=n+bu-1:=by unfold ckN;exact Nat.mul_div_le _ _
 have y:psN (ckN n bu)<=6:=by unfold psN;(repeat' split)<;>omega
 refine⟨y,?_⟩;have K:6*n*psN (ckN n bu)<=6*200*6:=Ol5 zo y;have M:2*6*bu*ckN n bu=12*(bu*ckN n bu):=by rw[Nat.mul_assoc]
 omega
