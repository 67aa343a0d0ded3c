/- cut. -/
import Derived.Test.YtnlnlamdilifcaaGreatDoorOg
set_option maxHeartbeats 4000000
set_option maxRecDepth 100000
namespace Go.Proofs.YtnlnlamdilifcaaGreatDoor
open Go.RowKit Go.Shelf Tryz
attribute [local go_sem] Oc0
theorem SI.block {y w F E M mv bl}(h:SI y w F E M mv bl)(hK:SK y)z:SI y (w.setCell (Ar y.sb 4) (Iq z)) F E M mv z:=by
 have H:Ju (fun k=>k=y.sb) w (w.setCell (Ar y.sb 4) (Iq z)):=Ju.set (F:=fun k=>k=y.sb) (Ju.refl _ _) rfl 4 _;have Y:Kt5 (w.setCell (Ar y.sb 4) (Iq z)) y.sb (Sr y.tb y.to_ y.ts.length y.tc) (Sr y.kb y.ko y.ks.length y.kc) y.bu y.d z mv:=by
  unfold Kt5;rw[Jk h.st];simp
 refine⟨Y,Yd h.own fun g O=>H.block g (Qk h.own O) fun e=>h.msb (by rw[O,e]),h.msb,fun m I=>⟨(h.runs m I).1.keep H (h.off m I).sb fun k U e=>(h.off m I).nsb (e▸U),(h.runs m I).2⟩,h.off,h.sep,h.disk.stands fun k K hl=>H.block k hl fun e=>h.sF (e▸K),fun k K=>Oc2 (h.flt k K) H.size,h.sF,h.mF,h.ffr,h.old.trans' H fun k hl e=>by have:=hK.sb;omega,h.top,h.blks⟩
theorem Qap y(hK:SK y)w F E(bl:Int)(h:SI y w F E [] Sz bl)(bf cp:Nat)hs(hC:Qd y.w0 bf hs y.cs)(bS:Jbo bf hs y.cs.length (fun b=>b<y.w0.heap.size/\¬ y.F0 b))(bu pr:Nat)(dK:y.bu=(bu:Int))(bY:1<=bu)(bZ:bu<=50000)(gB:1<=nR y.cs)(gA:nR y.cs<=50000)(dV:∀ ch:List Nat,(∀ t∈ch,t<nR y.cs)->1<=ch.length->ch.length<=64->(Qu (Kr4 y.ts (Jba ch y.cs) y.ts.length)).length<=pr*ch.length)(dL:dz E+2*pr*bu*ckN (nR y.cs) bu<=930000)(z:Nat)(da:z=min (max (bu / ckN (nR y.cs) bu) 1) 64):
  Cq 210 #[Pq y.sb,Sq bf y.cs.length cp] w (Kzd y w z (ckN (nR y.cs) bu) (ckN (nR y.cs) bu) (dz E+2*pr*bu*ckN (nR y.cs) bu)):=by
 have cT:=hK.sg.good.one;have fM:=hK.sg.good.few;obtain⟨⟨_,_,s2⟩,_,s4,_,fk⟩:=h.st.field;have gn:=fk 4;rw[dK]at s2;have bG:=Jd h.st;have Y:y.w0.heap.size<=w.heap.size:=h.old.size;have dW:1<=ckN (nR y.cs) bu:=Khi bY zo;have dX:ckN (nR y.cs) bu<=nR y.cs:=Kg4 _ _ bY;have cU:∀ X,Ju y.F0 y.w0 X->Qd X bf hs y.cs:=fun X bj=>hC.on bj.size (bj.block bf bS.1.1 bS.1.2) fun j b o bx e=>bj.block b (bS.2 j bx b o e).1 (bS.2 j bx b o e).2;have hlen:∀ X,Ju y.F0 y.w0 X->Cq 71 #[Sq bf y.cs.length cp] X fun e w'=>e=.returned (Iq (nR y.cs:Int))/\w'=X:=fun X bj=>by
  have c0:=(cU X bj).row.cell cT;exact Jlg bf y.cs.length cp _ _ _ X cT c0
 have fu:=Krx hlen;have cj:=zh h;have fy:=Krx cU;have fw:=Krx dV;have fp:=Krx dL;have cM:=Krx bS;have fx:Hid (1<=ckN (nR y.cs) bu/\ckN (nR y.cs) bu<=nR y.cs):=⟨dW,dX⟩;have fA:=zh da;clear h cU hlen hC dV dL bS;refine(callsIn_wide (n:=3)).1 ?_;refine callsIn_of_wp_marks func210 rfl trivial ?_ rfl;simp only[ntmps210,Om3,List.length_cons,List.length_nil,Nat.reduceAdd,Nat.reduceSub,Ok9,Array.replicate_zero,Om4,Ol2,List.nil_append,List.cons_append];refine wpIn_wide.2 ?_;go_upto_region 1 with fail
 generalize dE:((w.alloc _).alloc _).alloc _=O;obtain⟨bV,bH,bP,bQ,bU⟩:=Jur w _ _ _ O dE;clear dE;have c0:=zc 0 bH;have bW:=Ja bU s2;have dQ:Ju y.F0 y.w0 O:=cj.out.old.trans' (Ju.of_below (F:=fun _=>False) bU) fun _ _ e=>e.elim;have dP:=fu.out O.drew dQ.drew;have bL:Hid (O.heap.size=w.heap.size+3/\O.heap[w.heap.size]?=some (.cells #[Pq y.sb] 322 (0,0))/\O.heap[w.heap.size+1]?=some (.cells #[Sz] 323 (0,0))/\O.heap[w.heap.size+2]?=some (.cells #[.nilIface] 77 (0,0))/\Bq w O):=⟨bV,bH,bP,bQ,bU⟩;clear bH bP bQ bV;have gC:¬ bu=0:=zo;have fR:IntKind.i64.wrap ((nR y.cs:Int)+(bu:Int))=(nR y.cs:Int)+(bu:Int):=by rw[Od4];omega
 have fS:IntKind.i64.wrap ((nR y.cs:Int)+(bu:Int)-1)=(nR y.cs:Int)+(bu:Int)-1:=by rw[Od4];omega
 have fT:IntKind.i64.wrap (((nR y.cs:Int)+(bu:Int)-1).tdiv (bu:Int))=((ckN (nR y.cs) bu:Nat):Int):=by
  rw[Int.tdiv_eq_ediv_of_nonneg zo,show ((nR y.cs:Int)+(bu:Int)-1) / (bu:Int)=((ckN (nR y.cs) bu:Nat):Int) by
   unfold ckN;rw[Int.natCast_ediv];congr 1
   omega,Od4]
  omega
 go_region_held3 (fun X=>X.cell? (Aq w.heap.size)=some (Pq y.sb)/\X.cell? (Ar y.sb 2)=some (Iq (bu:Int)))
  (first|(exact⟨c0,bW⟩)|(go_split_ands;refine⟨?_,?_⟩<;>assumption))
  (first|(go_at_call 71;refine dP.mono ?_;rintro e X ⟨rfl,bj⟩;subst X))
 obtain⟨M,hy⟩:∃ M,M=bu / ckN (nR y.cs) bu:=⟨_,rfl⟩;have fU:M<=bu:=by rw[hy];exact Oo6 _ _
 have ff:IntKind.i64.wrap ((bu:Int).tdiv ((ckN (nR y.cs) bu:Nat):Int))=(M:Int):=by
  rw[Int.tdiv_eq_ediv_of_nonneg zo,<-Int.natCast_ediv,<-hy,Od4];omega
 have fg:IntKind.i64.wrap ((bu:Int) / ((ckN (nR y.cs) bu:Nat):Int))=(M:Int):=by
  rw[<-Int.natCast_ediv,<-hy,Od4];omega
 have fZ:min (max (M:Int) 1) 64=(z:Int):=by rw[da,<-hy];omega
 have fc:Kt5 O y.sb (Sr y.tb y.to_ y.ts.length y.tc) (Sr y.kb y.ko y.ks.length y.kc) y.bu y.d bl Sz :=(bU.block y.sb bG).trans cj.out.st;have gm:=fc.field.2.2.2.2 4;have gj:=Ja bU s4;have fP:(1:Int)<=((ckN (nR y.cs) bu:Nat):Int):=zo;have fQ:¬ ckN (nR y.cs) bu=0:=zo;clear da dP fc dQ bU fR fS fT hy;generalize dY:ckN (nR y.cs) bu=q at ff fg fP fQ |-;have gq:=Krx dY;clear dY dW dX;have di:Hid (∀ v,(O.setCell (Ar y.sb 4) v).cell? (Aq w.heap.size)=some (Pq y.sb)/\(O.setCell (Ar y.sb 4) v).cell? (Ar y.sb 2)=some (Iq (bu:Int))):=fun v=>by
  rw[Ob5 _ _ _ _ (by intro e;injection e with e _;omega),Ob5 _ _ _ _ (by intro e;injection e with _ e;omega)];exact⟨c0,bW⟩
 clear fk s2 s4 gn;go_wp2_with fail
 go_region_held3 (fun X=>X.cell? (Aq w.heap.size)=some (Pq y.sb)/\X.cell? (Ar y.sb 2)=some (Iq (bu:Int)))
  (first|(exact⟨c0,bW⟩)|(exact di.out _)|(go_split_ands;refine⟨?_,?_⟩<;>assumption))
  (fail)
 clear c0 bW gj gm ff fg fU;have cW:SI y ((O.setCell (Ar y.sb 4) (Iq (z:Int))).drew.drew) F E [] Sz (z:Int):=(((cj.out.keep (G:=fun _=>False) (Ju.of_below bL.out.2.2.2.2) (fun _ h=>h.elim) id (fun _ _=>id) (fun _ _=>id) (fun _ _=>⟨id,fun _ _=>id⟩)).block hK (z:Int))).keep (G:=fun _=>False) ((Ju.refl _ _).drew.drew) (fun _ h=>h.elim) id (fun _ _=>id) (fun _ _=>id) (fun _ _=>⟨id,fun _ _=>id⟩);have cB:∀ k,k≠y.sb->((O.setCell (Ar y.sb 4) (Iq (z:Int))).drew.drew).heap[k]?=O.heap[k]?:=fun k H=>Oa4 O _ _ _ H;have bJ:((O.setCell (Ar y.sb 4) (Iq (z:Int))).drew.drew).heap.size=w.heap.size+3:=by rw[<-bL.out.1];simp[World.drew]
 generalize (O.setCell (Ar y.sb 4) (Iq (z:Int))).drew.drew=V at *;have bH:=(cB w.heap.size zo).trans bL.out.2.1;have bP:=(cB (w.heap.size+1) zo).trans bL.out.2.2.1;have bQ:=(cB (w.heap.size+2) zo).trans bL.out.2.2.2.1;have cC:=Jc (Oa5 V.heap.size V) (.cells #[Sz] 323);have c0:(V.alloc (.cells #[Sz] 323)).cell? (Aq w.heap.size)=some (Pq y.sb):=Ja cC (by simp[World.cell?,bH]);have bW:(V.alloc (.cells #[Sz] 323)).cell? (Ar y.sb 2)=some (Iq (bu:Int)):=by
  have:=cW.st.field.1.2.2;rw[dK]at this;exact Ja cC this
 have dJ:=fun X=>Jh4 (Sq bf y.cs.length cp) (bu:Int) (some (Aq bf)) y.cs.length cp rfl X;have bR:(V.alloc (.cells #[Sz] 323)).heap.size=w.heap.size+4:=by rw[Oa7,bJ]
 have cy:=heap_alloc_new V (.cells #[Sz] 323);rw[bJ]at cy;have dm:=Krx bJ;clear bJ di bL cB;go_wp2_with (go_at_call 123;refine(dJ _).mono ?_;rintro e bz ⟨rfl,bT⟩)
 clear dJ c0 bW;have bJ:=dm.out;try rw[bJ]
 try rw[bR]
 generalize V.alloc (.cells #[Sz] 323)=cv at *;have U:bz.heap.size=w.heap.size+6:=by rw[bT,Oa7,Oa7,bR]
 have bZ:Bq cv bz:=by rw[bT];exact Jc (Jc (Oa5 _ _) _) _
 have dv:bz.heap[w.heap.size+4]?=some (.cells #[Sq bf y.cs.length cp] 84 (0,0)):=by
  rw[bT,Oa9 _ _ _ (by rw[Oa7,bR];omega),<-bR];exact heap_alloc_new cv _
 have du:bz.heap[w.heap.size+4+1]?=some (.cells #[Iq (bu:Int)] 3 (0,0)):=by
  have:=heap_alloc_new (cv.alloc (.cells #[Sq bf y.cs.length cp] 84)) (.cells #[Iq (bu:Int)] 3);rw[Oa7,bR]at this;rw[bT];exact this
 have ca:=Jb cC bZ;have dw:=(ca.block _ (Jd bH)).trans bH;have dx:=(ca.block _ (Jd bP)).trans bP;have dy:=(ca.block _ (Jd bQ)).trans bQ;have dA:=(bZ.block _ (Jd cy)).trans cy;have cV:SI y bz F E [] Sz (z:Int):=cW.keep (G:=fun _=>False) (Ju.of_below ca) (fun _ h=>h.elim) id (fun _ _=>id) (fun _ _=>id) (fun _ _=>⟨id,fun _ _=>id⟩);have bD:∀ k,F k->k<w.heap.size:=cj.out.flt;have dB:CtI y w F E z bu pr (w.heap.size+6) [] bz F E [] Sz Sz :=
  ⟨cV,rfl,fun j m x bx=>by simp at bx,⟨dA,Jo.nil _ _ _,zo,⟨zo,zo,zo,by simp[Value.ownBlock],fun e=>by have:=bD _ e;omega,(fun m bC=>by cases bC)⟩,fun g bh=>by simp[Value.ownBlock]at bh⟩,dw,dx,dy,(fun m bC=>by cases bC),(fun g bh=>by simp[Value.ownBlock]at bh),fun k H=>.inl H,zo,zS,fun k H hl=>by have:=bD k H;omega⟩
 have ft:=Krx dB;have cR:=fy.out bz cV.old;have cF:∀ j,j<y.cs.length->(y.cs.getD j []).length=nR y.cs:=fun j bx=>by
  have:=Kr0 (List.range (nR y.cs)) bx;rw[Kt1 hK.sg.good,Op1]at this;exact this
 have hseq:=Jjx 2 zo (w.heap.size+4) (w.heap.size+4+1) bf cp hs y.cs (nR y.cs) bu bY zo zo cT fM bz cR cF (by simp[World.cell?,dv]) (by simp[World.cell?,du]) (fun k=>k=w.heap.size+4\/k=w.heap.size+4+1\/(k<y.w0.heap.size/\¬ y.F0 k)) ⟨.inl rfl,.inr (.inl rfl),.inr (.inr cM.out.1),fun j bx b o e=>.inr (.inr (cM.out.2 j bx b o e))⟩ (fun k H=>zo);have gp:=Krx cF;have fs:Hid (∀ j,j<y.cs.length->∃ bN cx,(Yo hs j).1=some (Ar bN cx)/\bN<y.w0.heap.size/\¬ y.F0 bN):=fun j bx=>by
  rcases cR.vals j bx with h0|⟨bN,cx,dH,_,_⟩
  ·have:=cF j bx;rw[h0]at this;simp at this;omega
  exact⟨bN,cx,dH,cM.out.2 j bx bN cx dH⟩
 clear dB dw dx dy dA bZ ca bH bP bQ cy cR dv du cF cV cW cC fZ;rw[<-bT];clear bT bR dm bJ;refine(wpIn_wide (n:=3)).1 ?_;refine Jg8 rfl zo (gf:=155) (lb:=#[Pq (w.heap.size+4),Pq (w.heap.size+4+1)]) rfl trivial (enters_of func155 zK rfl)
  hseq (fun h k=>h.trans k) ?hKb (Oa5 _ _) (fun _=>rfl)
  (fun bk W=>∃ bi br I mv rv,CtI y w F E z bu pr (w.heap.size+6) (bk.map fun x=>(x.1,x.2.1)) W bi br I mv rv)
  (fun c bk W=>c=.ret/\∃ bi br I mv M b,CtX y w z (dz E+2*pr*bu*ckN (nR y.cs) bu) W bi br I mv M b)
  ?hI ?hIx ?hR ⟨F,E,[],_,_,ft.out⟩ (fun x=>{tmps:=#[Pq y.sb,Sq bf y.cs.length cp,Pq w.heap.size,undef,Pq (w.heap.size+1),Pq (w.heap.size+1+1),Iq (q:Int),Pq (w.heap.size+3),undef,Sq x.2.2 y.cs.length y.cs.length,undef,undef,Sq bf y.cs.length cp,Iq (nR y.cs:Int),Pq y.sb,Pq y.sb,Pr y.sb 2,Iq (bu:Int),Iq ((nR y.cs:Int)+(bu:Int)),Iq ((nR y.cs:Int)+(bu:Int)-1),Pq y.sb,Pq y.sb,Pr y.sb 2,Iq (bu:Int),Iq (q:Int),Pq y.sb,Pq y.sb,Pq y.sb,Pr y.sb 2,Iq (bu:Int),Iq (q:Int),Iq (M:Int),Iq (max (M:Int) 1),Iq (z:Int),Pq y.sb,Pr y.sb 4,Sq bf y.cs.length cp,Pq y.sb,Pq y.sb,Pr y.sb 2,Iq (bu:Int),.func (.func 155) #[] #[Pq (w.heap.size+4),Pq (w.heap.size+4+1)],Iq (x.1:Int),Sq x.2.2 y.cs.length y.cs.length,undef,undef,undef,undef,undef,undef,undef,undef,undef,undef,undef,undef,undef,undef,undef,undef,undef,undef],defers:=[]}) ?assign ?body ?done ?stop
 case hKb=>
  exact zaX
 case hI=>
  rintro s W dq row ⟨bi,br,I,mv,rv,h⟩ bh hr;exact⟨bi,br,I,mv,rv,h.ck (CK.of_grown bh fun r e=>(hr r e).2) (Krz h.si.old bh fun r e=>by have:=(hr r e).1;omega)⟩
 case hIx=>
  rintro c s W dq row ⟨fJ,bi,br,I,mv,M,b,h⟩ bh hr;exact⟨fJ,bi,br,I,mv,M,b,h.ck (CK.of_grown bh fun r e=>(hr r e).2) (Krz h.si.old bh fun r e=>by have:=(hr r e).1;omega)⟩
 case hR=>
  rintro x W dq row ⟨cz,bX,cQ,fD⟩ bh hr;exact⟨cz,bX,cQ,fD.ck (CK.of_grown bh fun r e=>(hr r e).2)⟩
 case assign=>
  clear U Y;intro l x W gr fG;gi_wp2
  exact fG
 case stop=>
  rintro D c bk W fE ⟨k,H,cc⟩ ⟨rfl,bi,br,I,mv,M,b,bj⟩ cA;have c1:W.cell? (Aq (w.heap.size+1))=some Sz :=by simp[World.cell?,bj.b1]
  have bO:W.heap[w.heap.size+1+1]?=some (.cells #[Ip 149 b] 77 (0,0)):=bj.b2;have c2:=zc 0 bO;have cn:=Krx bj;have Z:Hid (y.w0.heap.size<=w.heap.size/\bz.heap.size=w.heap.size+6):=⟨Y,U⟩;clear bj bO cc Y U;gi_wp2
  have Y:=Z.out.1;have U:=Z.out.2;have bK:∀ r,some D=some r->∃ o:Obj,W.heap[r]?=some o/\o.isCells=false:=fun r e=>by cases e;exact⟨_,cA,rfl⟩
  refine⟨zS,.inl ⟨_,_,rfl,run_takeDeferred cA,?_⟩⟩;have bE:=grownBy_putObj' W D (.deferred none);have db:=cell_kept c1 bE bK;have dc:=cell_kept c2 bE bK;have cS:=CK.of_grown bE bK;refine⟨.tuple #[Sz,Ip 149 b],by simp[results,Tryz.f210,go_sem,db,dc],?_⟩;have h:=cn.out.ck cS (Krz cn.out.si.old bE fun r e=>by cases e;omega);exact .inr ⟨bi,br,I,mv,M,b,rfl,h.si,h.ch,by have:=h.bn.1;omega,h.bn.2,h.why,h.pgs⟩
 case done=>
  rintro D gK W fE fj ⟨bi,br,I,mv,rv,hI⟩ cA;rw[fj]at hI;obtain⟨dd,de,bB,rc,cf⟩:=hI.rv.cell;rw[Oa6]at cf;subst cf;have c1:W.cell? (Aq (w.heap.size+1))=some Sz :=by simp[World.cell?,hI.b1]
  have g1:W.frozen? ⟨w.heap.size+1,0,none⟩=false:=by simp[World.frozen?,hI.b1]
  have bO:W.heap[w.heap.size+1+1]?=some (.cells #[.nilIface] 77 (0,0)):=hI.b2;have c2:=zc 0 bO;have g2:W.frozen? ⟨w.heap.size+1+1,0,none⟩=false:=by simp[World.frozen?,bO]
  have cn:=Krx hI;have Z:Hid (y.w0.heap.size<=w.heap.size/\bz.heap.size=w.heap.size+6/\y.sb<w.heap.size):=⟨Y,U,bG⟩;clear hI bO fj Y U;go_wp2_with fail
  have Y:=Z.out.1;have U:=Z.out.2.1;have h:=cn.out;have dC:=((KeepsOthers.setCell W ⟨w.heap.size+1,0,none⟩ (.slice bB I.length rc)).trans (KeepsOthers.setCell _ ⟨w.heap.size+1+1,0,none⟩ .nilIface)).same D _ cA rfl;have dD:=(h.all bY zo).keep (G:=fun k=>k=w.heap.size+1\/k=w.heap.size+1+1) (Ju.set (F:=fun k=>k=w.heap.size+1\/k=w.heap.size+1+1) (Ju.set (F:=fun k=>k=w.heap.size+1\/k=w.heap.size+1+1) (Ju.refl _ W) (.inl rfl) 0 (.slice bB I.length rc)) (.inr rfl) 0 .nilIface) (fun k H=>h.noB bD Z.out.2.2 Y zo zo) (fun g bh e=>by have:=(Je h.rv.own bh).1;omega);have db:((W.setCell (Aq (w.heap.size+1)) (.slice bB I.length rc)).setCell (Aq (w.heap.size+1+1)) .nilIface).cell? (Aq (w.heap.size+1))=some (.slice bB I.length rc):=by
   rw[Ob5 _ _ _ _ (by intro e;injection e with e _;omega)];exact World.cell?_setCell_same _ _ _ c1
  have dc:((W.setCell (Aq (w.heap.size+1)) (.slice bB I.length rc)).setCell (Aq (w.heap.size+1+1)) .nilIface).cell? (Aq (w.heap.size+1+1))=some .nilIface:=World.cell?_setCell_same _ _ _ (by rw[Ob5 _ _ _ _ (by intro e;injection e with e _;omega)];exact c2);generalize (W.setCell (Aq (w.heap.size+1)) (.slice bB I.length rc)).setCell (Aq (w.heap.size+1+1)) .nilIface=X at *;have bK:∀ r,some D=some r->∃ o:Obj,X.heap[r]?=some o/\o.isCells=false:=fun r e=>by cases e;exact⟨_,dC,rfl⟩
  refine⟨zS,.inl ⟨_,_,rfl,run_takeDeferred dC,?_⟩⟩;have bE:=grownBy_putObj' X D (.deferred none);have gg:=cell_kept db bE bK;have gh:=cell_kept dc bE bK;have cS:=CK.of_grown bE bK;refine⟨.tuple #[.slice bB I.length rc,.nilIface],by simp[results,Tryz.f210,go_sem,gg,gh],?_⟩;have dU:=h.pgs;rw[Jbp]at dU;exact .inl ⟨bi,br,I,mv,_,_,_,rfl,dD.ck cS (Krz dD.si.old bE fun r e=>by cases e;omega),Op1,by rw[h.len,Jbp],dU⟩
 case body=>
  rintro gi bk ⟨f,cK,gx⟩ W ⟨bi,br,I,mv,rv,hI⟩ ⟨cX,⟨cY,cZ⟩,fi,cJ⟩ cc;simp only at cX cY cZ fi cJ;have dt:y.cs.map (Jbx f (f+cK))=Jba (Kr3 (List.range (nR y.cs)) (f,cK)) y.cs:=by
   have:=Ktg (List.range (nR y.cs)) y.cs f (f+cK);rw[Kt1 hK.sg.good]at this;exact this
  rw[dt]at cJ;have gd:=fA.out;have cH:=hI.step hK bD bG zo zo zo fw.out (f:=f) (n:=cK) (gx:=gx) (cp:=y.cs.length) (hs:=hs) (by rw[Oa6];exact cc) fp.out ⟨bY,bZ⟩ zo cX cY cZ cJ zo fs.out;rw[Oa6]at cH;unfold rpV at cH;obtain⟨dd,de,bB,rc,cf⟩:=hI.rv.cell;have cb:(I.map (·.rb)).length=bk.length:=by rw[Oa6,hI.len,Oa6]
  rw[cb]at cf;subst cf;have c0:W.cell? (Aq w.heap.size)=some (Pq y.sb):=by simp[World.cell?,hI.b0]
  have ci:=Krx hI;have dl:=Krx cH;have Z:Hid (y.w0.heap.size<=w.heap.size/\bz.heap.size=w.heap.size+6/\bk.length<=100000/\bk.length<ckN (nR y.cs) bu):=⟨Y,U,by have:=fx.out;omega,cc⟩;clear hI cH gd cJ dt fi cc cb Y U cX cY cZ hseq;gi_wp2_with (refine⟨trivial,?_⟩;gi_at_call 247;refine(CallsIn.inRound gi (callsIn_wide.2 dl.out)).mono ?_;rintro e fC ⟨rfl,dr,dR⟩;have dj:=Krx dR;clear dR)
  refine Kix (S:=fun X=>X.cell? (Aq w.heap.size)=some (Pq y.sb)) zK zK (Jh dr) (fun bA=>?_);refine tkj 0 rfl bA ?_;refine tkj 1 rfl bA ?_;refine tkj 2 rfl bA ?_;refine tkj 3 rfl bA ?_;refine tkn ?_;refine tkr 4 rfl fun cu bI=>?_;go_simp;refine(dj.out fC.drew (Jj (Oa5 _ _))).mono ?_;rintro e gs ⟨gb,rfl,ds,fh⟩;have dp:=Krx fh;clear fh;go_simp;refine bI.out _ _ ds (fun bA=>?_);clear bI cu dj dr ds c0 dl;refine tkr 5 rfl fun cu bI=>?_;go_simp;refine dp.out.mono ?_;rintro e K ⟨dg,df,m3,gE,hM,fL⟩;clear dp;have hI:=ci.out;have Y:=Z.out.1;have U:=Z.out.2.1;have bV:=hI.size;have cD:∀ k,w.heap.size<=k->k<w.heap.size+6->K.heap[k]?=W.heap[k]?:=fun k cz bX=>hM.keep.block k zo (hI.far bD bG cz bX);have fl:=(cD w.heap.size (Oa2 _) zo).trans hI.b0;have z1:=(cD (w.heap.size+1) zo zo).trans hI.b1;have z2:=(cD (w.heap.size+1+1) zo zo).trans hI.b2;have cL:=zc 0 fl;clear cD fl bV;have bM:=Krx hM;have fB:Hid (K.heap[w.heap.size+1]?=some (.cells #[Sz] 323 (0,0))/\K.heap[w.heap.size+1+1]?=some (.cells #[.nilIface] 77 (0,0))):=⟨z1,z2⟩;rcases fL with⟨rfl,dZ⟩|⟨M,b,rfl,cE,hb,cG,cI⟩
  ·go_simp;refine bI.out _ _ cL (fun bA=>?_);clear bI cu;refine tkj 6 rfl bA ?_;refine tkn ?_;refine wpAnyH_done zK ?_ _;dsimp only[Jpf];have gH:=hM.rv.cell.1;have gI:=hM.rv.cell.2.1;have dS:=hM.rv.own;have fz:=Krx dZ;have dh:=Krx dS;have fr:Hid (bk.length<=100000/\w.heap.size+6<=K.heap.size):=⟨Z.out.2.2.1,by have:=ci.out.size;have:=bM.out.keep.size;omega⟩;have cb:(I.map (·.rb)).map rpV=(I.map (·.rb)).map rpV/\((I.map (·.rb)).map rpV).length=bk.length:=⟨rfl,by rw[Oa6,Oa6,hI.len,Oa6]⟩;have fv:=Krx cb.2;clear hM hI Y U cL z1 z2 bA dZ dS cb dd de;obtain⟨ge,fN,fV,fW,fY⟩:=info_parts Ktu;have gz:=fr.out;have fH:=fv.out;have dI:∀ cO cN,Bq K cO->cO.grownBy cN (Value.slice bB bk.length rc).ownBlock->cN.heap[w.heap.size+3]?=some (.cells #[.slice bB bk.length rc] 323 (0,0)):=fun cO cN dG bh=>(bh.block _ (by have:=dG.size;have:=bM.out.rv.nb.lt;omega) fun e=>by have:=(Je dh.out e.symm).1;omega).trans ((dG.block _ bM.out.rv.nb.lt).trans bM.out.rv.box);have fo:=Krx dI;clear dI;gi_wp2_with (gi_at_builtin;go_must (refine wpListIn_append_own_at _ rfl _ _ 323 rfl (w.heap.size+6) 365 ge _ 1 8 zK fN fV fW fY rfl zd (.slice bB bk.length rc) _ _ rfl (Jo.alloc dh.out _) ⟨K.heap.size,0,none⟩ 1 1 [Pq W.heap.size] rfl rfl (by exact Ua K _ _) (by intro u fd;simp at fd;subst fd;rfl) (by unfold maxLen;omega) zo zt ?_);intro gJ w4 dT dM _ fI;go_must (obtain⟨gy,gu,fe⟩:=ownsRow_succ dT);rw[fH]at fe;subst fe;have cP:=fo.out _ w4 (Jc (Oa5 _ K) _) dM;have gt:=zc 0 cP;have gw:w4.frozen? ⟨w.heap.size+3,0,none⟩=false:=(by simp[World.frozen?,cP]);clear cP)
   have hI:=ci.out;have Y:=Z.out.1;have U:=Z.out.2.1;have gD:=hK.sb;obtain⟨⟨fm,fF⟩,fO,dO⟩:=CtM.fin hI bM.out bD bG zo fz.out (Jc (Oa5 _ K) _) (by
    rw[Ob8];unfold Jo;rw[Oa8];exact dT) dM fI
   have bV:=hI.size;refine⟨by rw[U];exact fO,⟨dO.size,fun k H=>dO.block k zo fun e=>?_⟩,fm,_,_,_,_,by rw[Ob8];exact fF⟩;rcases e with(e|e|e)|e|e
   ·omega
   ·have:=hI.mnew k e;omega
   ·rcases H with H|H|H
    ·exact hI.far bD bG zo zo (.inr (.inr e))
    ·exact hI.far bD bG zo zo (.inr (.inr e))
    exact(hI.si.ffr k e).elim H.2 fun e=>by omega
   ·omega
   have:=(Je hI.rv.own e).1;omega
  have fq:Hid (Yu K (Ip 149 b) (if M=true then y.q else y.qw) none (some (-1))/\W.heap.size<=b/\¬ dg b/\Ksy y.D0 M):=⟨cE,hb,cG,cI⟩;have c1:=zc 0 z1;have g1:K.frozen? ⟨w.heap.size+1,0,none⟩=false:=by simp[World.frozen?,z1]
  have c2:=zc 0 z2;have g2:K.frozen? ⟨w.heap.size+1+1,0,none⟩=false:=by simp[World.frozen?,z2]
  go_simp;refine bI.out _ _ cL (fun bA=>?_);clear bI cu;refine tkj 6 rfl bA ?_;refine tkn ?_;refine wpAnyH_done zK ?_ _;dsimp only[Jpf];clear hM hI Y U cL z1 z2 bA dd de cE hb cG cI;gi_wp2
  have hI:=ci.out;have hM:=bM.out;have Y:=Z.out.1;have U:=Z.out.2.1;have bV:=hI.size;obtain⟨z1,z2⟩:=fB.out;obtain⟨cE,hb,cG,cI⟩:=fq.out;have dN:Ju (fun k=>k=w.heap.size+1\/k=w.heap.size+1+1) K ((K.setCell (Aq (w.heap.size+1)) Sz).setCell (Aq (w.heap.size+1+1)) (Ip 149 b)):=Ju.set (F:=fun k=>k=w.heap.size+1\/k=w.heap.size+1+1) (Ju.set (F:=fun k=>k=w.heap.size+1\/k=w.heap.size+1+1) (Ju.refl _ K) (.inl rfl) 0 _) (.inr rfl) 0 _;have fX:(K.setCell (Aq (w.heap.size+1)) Sz).heap[w.heap.size+1+1]?=some (.cells #[.nilIface] 77 (0,0)):=(Oa4 _ _ _ _ (show w.heap.size+1+1≠w.heap.size+1 by omega)).trans z2;have fK:dz df<=dz E+2*pr*bu*ckN (nR y.cs) bu:=by
   have cz:=hM.pgs;have bX:=hI.pgs;rw[Oa6]at bX;have cQ:2*pr*bu*(bk.length+1)<=2*pr*bu*ckN (nR y.cs) bu:=Nat.mul_le_mul_left _ Z.out.2.2.2;rw[Nat.mul_add,Nat.mul_one]at cQ;omega
  have bj:=CtX.of (L:=w.heap.size+6) fK hM.si Y bG zo (fun k H=>(hM.ffr k H).imp (bD k) id) hM.mnew (fun m bC=>by
   rcases Od2.1 bC with bC|bC
   ·exact⟨.inr (hI.new m bC).1,fun k H=>.inr ((hI.new m bC).2 k H)⟩
   rw[Oc6.1 bC];exact⟨.inr (by rw[hM.rb];omega),fun k H=>.inr (by have:=hM.n3 k H;omega)⟩) cE zo cG cI dN (fun k H=>H) (by rw[Oa4 _ _ _ _ (show w.heap.size+1≠w.heap.size+1+1 by omega),Jk z1];simp) (by show ((K.setCell (Aq (w.heap.size+1)) Sz).setCell (Aq (w.heap.size+1+1)) (Ip 149 b)).heap[w.heap.size+1+1]?=_;rw[Jk fX];simp)
  refine⟨?_,rfl,dg,df,_,_,M,b,bj⟩;rw[U];refine Ks1 (G:=fun k=>CtG y bi mv k\/k=w.heap.size+1\/k=w.heap.size+1+1) ((hM.keep.mono fun k _ e=>.inl e).trans' dN fun k _ e=>.inr e) fun k H hl=>?_;rcases H with e|e|e
  ·exact hI.gcl bG zo k e hl
  ·omega
  omega
