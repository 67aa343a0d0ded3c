/- cut. -/
import Derived.Test.YtjbenncelbpbnaaGreatDoorOg
set_option maxHeartbeats 4000000
set_option maxRecDepth 100000
namespace Go.Proofs.YtjbenncelbpbnaaGreatDoor
open Go.RowKit Go.Shelf Tryz
attribute [local go_sem] Oc0
theorem SI.block {y w F E I mv bl}(h:SI y w F E I mv bl)(hK:SK y)z:SI y (w.setCell ⟨y.sb,4,none⟩ (.int .i64 z)) F E I mv z:=by
 have hk:Ju (fun k=>k=y.sb) w (w.setCell ⟨y.sb,4,none⟩ (.int .i64 z)):=Ju.set (F:=fun k=>k=y.sb) (Ju.refl _ _) rfl 4 _;have M:Kt2 (w.setCell ⟨y.sb,4,none⟩ (.int .i64 z)) y.sb (.slice (some ⟨y.tb,y.to_,none⟩) y.ts.length y.tc) (.slice (some ⟨y.kb,y.ko,none⟩) y.ks.length y.kc) y.bu y.d z mv:=by
  unfold Kt2;rw[Jk h.st];simp
 refine⟨M,Yd h.own fun g K=>hk.block g (Qk h.own K) fun e=>h.msb (by rw[K,e]),h.msb,fun m H=>⟨(h.runs m H).1.keep hk (h.off m H).sb fun k hn e=>(h.off m H).nsb (e▸hn),(h.runs m H).2⟩,h.off,h.sep,h.disk.stands fun k hf hl=>hk.block k hl fun e=>h.sF (e▸hf),fun k hf=>Oc2 (h.flt k hf) hk.size,h.sF,h.mF,h.ffr,h.old.trans' hk fun k hl e=>by have:=hK.sb;omega,h.top,h.blks⟩
theorem Kz4 y(hK:SK y)w F E(bl:Int)(h:SI y w F E [] (.slice none 0 0) bl)(Z cp:Nat)hs(hC:Qd y.w0 Z hs y.cs)(bR:Jbo Z hs y.cs.length (fun b=>b<y.w0.heap.size/\¬ y.F0 b))(bu pr:Nat)(dJ:y.bu=(bu:Int))(bX:1<=bu)(bY:bu<=50000)(gz:1<=nR y.cs)(gy:nR y.cs<=50000)(dU:∀ ch:List Nat,(∀ t∈ch,t<nR y.cs)->1<=ch.length->ch.length<=64->(Qu (Kr3 y.ts (Jba ch y.cs) y.ts.length)).length<=pr*ch.length)(dK:dz E+2*pr*bu*ckN (nR y.cs) bu<=930000)(z:Nat)(cZ:z=min (max (bu / ckN (nR y.cs) bu) 1) 64):
  Calls prog 205 #[.pointer (some ⟨y.sb,0,none⟩),.slice (some ⟨Z,0,none⟩) y.cs.length cp] w (Ky4 y w z (ckN (nR y.cs) bu) (ckN (nR y.cs) bu) (dz E+2*pr*bu*ckN (nR y.cs) bu)):=by
 have cS:=hK.sg.good.one;have fL:=hK.sg.good.few;obtain⟨⟨_,_,s2⟩,_,s4,_,fj⟩:=h.st.field;have gi:=fj 4;rw[dJ]at s2;have bE:=Jd h.st;have U:y.w0.heap.size<=w.heap.size:=h.old.size;have dV:1<=ckN (nR y.cs) bu:=Khi bX zo;have dW:ckN (nR y.cs) bu<=nR y.cs:=Kg4 _ _ bX;have cT:∀ X,Ju y.F0 y.w0 X->Qd X Z hs y.cs:=fun X bi=>hC.on bi.size (bi.block Z bR.1.1 bR.1.2) fun j b o br e=>bi.block b (bR.2 j br b o e).1 (bR.2 j br b o e).2;have hlen:∀ X,Ju y.F0 y.w0 X->Calls prog 55 #[.slice (some ⟨Z,0,none⟩) y.cs.length cp] X fun e w'=>e=.returned (.int .i64 (nR y.cs:Int))/\w'=X:=fun X bi=>by
  have c0:=(cT X bi).row.cell cS;exact Jlg Z y.cs.length cp _ _ _ X cS c0
 have ft:=Krx hlen;have ci:=zh h;have fx:=Krx cT;have fv:=Krx dU;have fo:=Krx dK;have cL:=Krx bR;have fw:Hid (1<=ckN (nR y.cs) bu/\ckN (nR y.cs) bu<=nR y.cs):=⟨dV,dW⟩;have fz:=zh cZ;clear h cT hlen hC dU dK bR;refine(callsIn_wide (n:=3)).1 ?_;refine callsIn_of_wp_marks func205 rfl trivial ?_ rfl;simp only[ntmps205,Om3,List.length_cons,List.length_nil,Nat.reduceAdd,Nat.reduceSub,Ok9,Array.replicate_zero,Om4,Ol2,List.nil_append,List.cons_append];refine wpIn_wide.2 ?_;go_upto_region 1 with fail
 generalize dD:((w.alloc _).alloc _).alloc _=M;obtain⟨bU,bG,bO,bP,bT⟩:=Jur w _ _ _ M dD;clear dD;have c0:=zc 0 bG;have bV:=Ja bT s2;have dP:Ju y.F0 y.w0 M:=ci.out.old.trans' (Ju.of_below (F:=fun _=>False) bT) fun _ _ e=>e.elim;have dO:=ft.out M.drew dP.drew;have bK:Hid (M.heap.size=w.heap.size+3/\M.heap[w.heap.size]?=some (.cells #[.pointer (some ⟨y.sb,0,none⟩)] 300 (0,0))/\M.heap[w.heap.size+1]?=some (.cells #[.slice none 0 0] 301 (0,0))/\M.heap[w.heap.size+2]?=some (.cells #[.nilIface] 78 (0,0))/\Below w.heap.size w M):=⟨bU,bG,bO,bP,bT⟩;clear bG bO bP bU;have gA:¬ bu=0:=zo;have fQ:IntKind.i64.wrap ((nR y.cs:Int)+(bu:Int))=(nR y.cs:Int)+(bu:Int):=by rw[Od4];omega
 have fR:IntKind.i64.wrap ((nR y.cs:Int)+(bu:Int)-1)=(nR y.cs:Int)+(bu:Int)-1:=by rw[Od4];omega
 have fS:IntKind.i64.wrap (((nR y.cs:Int)+(bu:Int)-1).tdiv (bu:Int))=((ckN (nR y.cs) bu:Nat):Int):=by
  rw[Int.tdiv_eq_ediv_of_nonneg zo,show ((nR y.cs:Int)+(bu:Int)-1) / (bu:Int)=((ckN (nR y.cs) bu:Nat):Int) by
   unfold ckN;rw[Int.natCast_ediv];congr 1
   omega,Od4]
  omega
 go_region_held3 (fun X=>X.cell? ⟨w.heap.size,0,none⟩=some (.pointer (some ⟨y.sb,0,none⟩))/\X.cell? ⟨y.sb,2,none⟩=some (.int .i64 (bu:Int)))
  (first|(exact⟨c0,bV⟩)|(go_split_ands;refine⟨?_,?_⟩<;>assumption))
  (first|(go_at_call 55;refine dO.mono ?_;rintro e X ⟨rfl,bi⟩;subst X))
 obtain⟨K,hy⟩:∃ K,K=bu / ckN (nR y.cs) bu:=⟨_,rfl⟩;have fT:K<=bu:=by rw[hy];exact Oo6 _ _
 have fe:IntKind.i64.wrap ((bu:Int).tdiv ((ckN (nR y.cs) bu:Nat):Int))=(K:Int):=by
  rw[Int.tdiv_eq_ediv_of_nonneg zo,<-Int.natCast_ediv,<-hy,Od4];omega
 have ff:IntKind.i64.wrap ((bu:Int) / ((ckN (nR y.cs) bu:Nat):Int))=(K:Int):=by
  rw[<-Int.natCast_ediv,<-hy,Od4];omega
 have fY:min (max (K:Int) 1) 64=(z:Int):=by rw[cZ,<-hy];omega
 have dZ:Kt2 M y.sb (.slice (some ⟨y.tb,y.to_,none⟩) y.ts.length y.tc) (.slice (some ⟨y.kb,y.ko,none⟩) y.ks.length y.kc) y.bu y.d bl (.slice none 0 0):=(bT.block y.sb bE).trans ci.out.st;have gh:=dZ.field.2.2.2.2 4;have gg:=Ja bT s4;have fO:(1:Int)<=((ckN (nR y.cs) bu:Nat):Int):=zo;have fP:¬ ckN (nR y.cs) bu=0:=zo;clear cZ dO dZ dP bT fQ fR fS hy;generalize dX:ckN (nR y.cs) bu=q at fe ff fO fP |-;have gm:=Krx dX;clear dX dV dW;have dh:Hid (∀ v,(M.setCell ⟨y.sb,4,none⟩ v).cell? ⟨w.heap.size,0,none⟩=some (.pointer (some ⟨y.sb,0,none⟩))/\(M.setCell ⟨y.sb,4,none⟩ v).cell? ⟨y.sb,2,none⟩=some (.int .i64 (bu:Int))):=fun v=>by
  rw[Ob5 _ _ _ _ (by intro e;injection e with e _;omega),Ob5 _ _ _ _ (by intro e;injection e with _ e;omega)];exact⟨c0,bV⟩
 clear fj s2 s4 gi;go_wp2_with fail
 go_region_held3 (fun X=>X.cell? ⟨w.heap.size,0,none⟩=some (.pointer (some ⟨y.sb,0,none⟩))/\X.cell? ⟨y.sb,2,none⟩=some (.int .i64 (bu:Int)))
  (first|(exact⟨c0,bV⟩)|(exact dh.out _)|(go_split_ands;refine⟨?_,?_⟩<;>assumption))
  (fail)
 clear c0 bV gg gh fe ff fT;have cV:SI y ((M.setCell ⟨y.sb,4,none⟩ (.int .i64 (z:Int))).drew.drew) F E [] (.slice none 0 0) (z:Int):=(((ci.out.keep (G:=fun _=>False) (Ju.of_below bK.out.2.2.2.2) (fun _ h=>h.elim) id (fun _ _=>id) (fun _ _=>id) (fun _ _=>⟨id,fun _ _=>id⟩)).block hK (z:Int))).keep (G:=fun _=>False) ((Ju.refl _ _).drew.drew) (fun _ h=>h.elim) id (fun _ _=>id) (fun _ _=>id) (fun _ _=>⟨id,fun _ _=>id⟩);have cA:∀ k,k≠y.sb->((M.setCell ⟨y.sb,4,none⟩ (.int .i64 (z:Int))).drew.drew).heap[k]?=M.heap[k]?:=fun k hk=>Oa4 M _ _ _ hk;have bI:((M.setCell ⟨y.sb,4,none⟩ (.int .i64 (z:Int))).drew.drew).heap.size=w.heap.size+3:=by rw[<-bK.out.1];simp[World.drew]
 generalize (M.setCell ⟨y.sb,4,none⟩ (.int .i64 (z:Int))).drew.drew=V at *;have bG:=(cA w.heap.size zo).trans bK.out.2.1;have bO:=(cA (w.heap.size+1) zo).trans bK.out.2.2.1;have bP:=(cA (w.heap.size+2) zo).trans bK.out.2.2.2.1;have cB:=Jc (Oa5 V.heap.size V) (.cells #[.slice none 0 0] 301);have c0:(V.alloc (.cells #[.slice none 0 0] 301)).cell? ⟨w.heap.size,0,none⟩=some (.pointer (some ⟨y.sb,0,none⟩)):=Ja cB (by simp[World.cell?,bG]);have bV:(V.alloc (.cells #[.slice none 0 0] 301)).cell? ⟨y.sb,2,none⟩=some (.int .i64 (bu:Int)):=by
  have:=cV.st.field.1.2.2;rw[dJ]at this;exact Ja cB this
 have dI:=fun X=>Jh4 (.slice (some ⟨Z,0,none⟩) y.cs.length cp) (bu:Int) (some ⟨Z,0,none⟩) y.cs.length cp rfl X;have bQ:(V.alloc (.cells #[.slice none 0 0] 301)).heap.size=w.heap.size+4:=by rw[Oa7,bI]
 have cx:=heap_alloc_new V (.cells #[.slice none 0 0] 301);rw[bI]at cx;have dl:=Krx bI;clear bI dh bK cA;go_wp2_with (go_at_call 106;refine(dI _).mono ?_;rintro e bx ⟨rfl,bS⟩)
 clear dI c0 bV;have bI:=dl.out;try rw[bI]
 try rw[bQ]
 generalize V.alloc (.cells #[.slice none 0 0] 301)=cu at *;have O:bx.heap.size=w.heap.size+6:=by rw[bS,Oa7,Oa7,bQ]
 have bY:Below cu.heap.size cu bx:=by rw[bS];exact Jc (Jc (Oa5 _ _) _) _
 have du:bx.heap[w.heap.size+4]?=some (.cells #[.slice (some ⟨Z,0,none⟩) y.cs.length cp] 76 (0,0)):=by
  rw[bS,Oa9 _ _ _ (by rw[Oa7,bQ];omega),<-bQ];exact heap_alloc_new cu _
 have dt:bx.heap[w.heap.size+4+1]?=some (.cells #[.int .i64 (bu:Int)] 3 (0,0)):=by
  have:=heap_alloc_new (cu.alloc (.cells #[.slice (some ⟨Z,0,none⟩) y.cs.length cp] 76)) (.cells #[.int .i64 (bu:Int)] 3);rw[Oa7,bQ]at this;rw[bS];exact this
 have bZ:=Jb cB bY;have dv:=(bZ.block _ (Jd bG)).trans bG;have dw:=(bZ.block _ (Jd bO)).trans bO;have dx:=(bZ.block _ (Jd bP)).trans bP;have dy:=(bY.block _ (Jd cx)).trans cx;have cU:SI y bx F E [] (.slice none 0 0) (z:Int):=cV.keep (G:=fun _=>False) (Ju.of_below bZ) (fun _ h=>h.elim) id (fun _ _=>id) (fun _ _=>id) (fun _ _=>⟨id,fun _ _=>id⟩);have bC:∀ k,F k->k<w.heap.size:=ci.out.flt;have dA:CtI y w F E z bu pr (w.heap.size+6) [] bx F E [] (.slice none 0 0) (.slice none 0 0):=
  ⟨cU,rfl,fun j m x br=>by simp at br,⟨dy,Jo.nil _ _ _,zo,⟨zo,zo,zo,by simp[Value.ownBlock],fun e=>by have:=bC _ e;omega,(fun m bB=>by cases bB)⟩,fun g bf=>by simp[Value.ownBlock]at bf⟩,dv,dw,dx,(fun m bB=>by cases bB),(fun g bf=>by simp[Value.ownBlock]at bf),fun k hk=>.inl hk,zo,zS,fun k hk hl=>by have:=bC k hk;omega⟩
 have fs:=Krx dA;have cQ:=fx.out bx cU.old;have cE:∀ j,j<y.cs.length->(y.cs.getD j []).length=nR y.cs:=fun j br=>by
  have:=Kr0 (List.range (nR y.cs)) br;rw[Kty hK.sg.good,Op1]at this;exact this
 have hseq:=Jjx 2 zo (w.heap.size+4) (w.heap.size+4+1) Z cp hs y.cs (nR y.cs) bu bX zo zo cS fL bx cQ cE (by simp[World.cell?,du]) (by simp[World.cell?,dt]) (fun k=>k=w.heap.size+4\/k=w.heap.size+4+1\/(k<y.w0.heap.size/\¬ y.F0 k)) ⟨.inl rfl,.inr (.inl rfl),.inr (.inr cL.out.1),fun j br b o e=>.inr (.inr (cL.out.2 j br b o e))⟩ (fun k hk=>zo);have gj:=Krx cE;have fr:Hid (∀ j,j<y.cs.length->∃ bM cv,(Yo hs j).1=some ⟨bM,cv,none⟩/\bM<y.w0.heap.size/\¬ y.F0 bM):=fun j br=>by
  rcases cQ.vals j br with h0|⟨bM,cv,dG,_,_⟩
  ·have:=cE j br;rw[h0]at this;simp at this;omega
  exact⟨bM,cv,dG,cL.out.2 j br bM cv dG⟩
 clear dA dv dw dx dy bY bZ bG bO bP cx cQ du dt cE cU cV cB fY;rw[<-bS];clear bS bQ dl bI;refine(wpIn_wide (n:=3)).1 ?_;refine Jg8 rfl zo (gf:=140) (lb:=#[.pointer (some ⟨w.heap.size+4,0,none⟩),.pointer (some ⟨w.heap.size+4+1,0,none⟩)]) rfl trivial (enters_of func140 zK rfl)
  hseq (fun h k=>h.trans k) ?hKb (Oa5 _ _) (fun _=>rfl)
  (fun bj W=>∃ bh bk H mv rv,CtI y w F E z bu pr (w.heap.size+6) (bj.map fun x=>(x.1,x.2.1)) W bh bk H mv rv)
  (fun c bj W=>c=.ret/\∃ bh bk H mv K b,CtX y w z (dz E+2*pr*bu*ckN (nR y.cs) bu) W bh bk H mv K b)
  ?hI ?hIx ?hR ⟨F,E,[],_,_,fs.out⟩ (fun x=>{tmps:=#[.pointer (some ⟨y.sb,0,none⟩),.slice (some ⟨Z,0,none⟩) y.cs.length cp,.pointer (some ⟨w.heap.size,0,none⟩),undef,.pointer (some ⟨w.heap.size+1,0,none⟩),.pointer (some ⟨w.heap.size+1+1,0,none⟩),.int .i64 (q:Int),.pointer (some ⟨w.heap.size+3,0,none⟩),undef,.slice (some ⟨x.2.2,0,none⟩) y.cs.length y.cs.length,undef,undef,.slice (some ⟨Z,0,none⟩) y.cs.length cp,.int .i64 (nR y.cs:Int),.pointer (some ⟨y.sb,0,none⟩),.pointer (some ⟨y.sb,0,none⟩),.pointer (some ⟨y.sb,2,none⟩),.int .i64 (bu:Int),.int .i64 ((nR y.cs:Int)+(bu:Int)),.int .i64 ((nR y.cs:Int)+(bu:Int)-1),.pointer (some ⟨y.sb,0,none⟩),.pointer (some ⟨y.sb,0,none⟩),.pointer (some ⟨y.sb,2,none⟩),.int .i64 (bu:Int),.int .i64 (q:Int),.pointer (some ⟨y.sb,0,none⟩),.pointer (some ⟨y.sb,0,none⟩),.pointer (some ⟨y.sb,0,none⟩),.pointer (some ⟨y.sb,2,none⟩),.int .i64 (bu:Int),.int .i64 (q:Int),.int .i64 (K:Int),.int .i64 (max (K:Int) 1),.int .i64 (z:Int),.pointer (some ⟨y.sb,0,none⟩),.pointer (some ⟨y.sb,4,none⟩),.slice (some ⟨Z,0,none⟩) y.cs.length cp,.pointer (some ⟨y.sb,0,none⟩),.pointer (some ⟨y.sb,0,none⟩),.pointer (some ⟨y.sb,2,none⟩),.int .i64 (bu:Int),.func (.func 140) #[] #[.pointer (some ⟨w.heap.size+4,0,none⟩),.pointer (some ⟨w.heap.size+4+1,0,none⟩)],.int .i64 (x.1:Int),.slice (some ⟨x.2.2,0,none⟩) y.cs.length y.cs.length,undef,undef,undef,undef,undef,undef,undef,undef,undef,undef,undef,undef,undef,undef,undef,undef,undef,undef],defers:=[]}) ?assign ?body ?done ?stop
 case hKb=>
  intro W l o gD hl ho _ _;exact zav
 case hI=>
  rintro s W dp row ⟨bh,bk,H,mv,rv,h⟩ bf hr;exact⟨bh,bk,H,mv,rv,h.ck (CK.of_grown bf fun r e=>(hr r e).2) (Krz h.si.old bf fun r e=>by have:=(hr r e).1;omega)⟩
 case hIx=>
  rintro c s W dp row ⟨fI,bh,bk,H,mv,K,b,h⟩ bf hr;exact⟨fI,bh,bk,H,mv,K,b,h.ck (CK.of_grown bf fun r e=>(hr r e).2) (Krz h.si.old bf fun r e=>by have:=(hr r e).1;omega)⟩
 case hR=>
  rintro x W dp row ⟨cy,bW,cP,fC⟩ bf hr;exact⟨cy,bW,cP,fC.ck (CK.of_grown bf fun r e=>(hr r e).2)⟩
 case assign=>
  clear O U;intro l x W gn fF;gi_wp2
  exact fF
 case stop=>
  rintro D c bj W fD ⟨k,hk,cb⟩ ⟨rfl,bh,bk,H,mv,K,b,bi⟩ cz;have c1:W.cell? ⟨w.heap.size+1,0,none⟩=some (.slice none 0 0):=by simp[World.cell?,bi.b1]
  have bN:W.heap[w.heap.size+1+1]?=some (.cells #[.iface 156 (.pointer (some ⟨b,0,none⟩))] 78 (0,0)):=bi.b2;have c2:=zc 0 bN;have cj:=Krx bi;have Y:Hid (y.w0.heap.size<=w.heap.size/\bx.heap.size=w.heap.size+6):=⟨U,O⟩;clear bi bN cb U O;gi_wp2
  have U:=Y.out.1;have O:=Y.out.2;have bJ:∀ r,some D=some r->∃ o:Obj,W.heap[r]?=some o/\o.isCells=false:=fun r e=>by cases e;exact⟨_,cz,rfl⟩
  refine⟨zS,.inl ⟨_,_,rfl,run_takeDeferred cz,?_⟩⟩;have bD:=grownBy_putObj' W D (.deferred none);have da:=cell_kept c1 bD bJ;have db:=cell_kept c2 bD bJ;have cR:=CK.of_grown bD bJ;refine⟨.tuple #[.slice none 0 0,.iface 156 (.pointer (some ⟨b,0,none⟩))],by simp[results,Tryz.f205,go_sem,da,db],?_⟩;have h:=cj.out.ck cR (Krz cj.out.si.old bD fun r e=>by cases e;omega);exact .inr ⟨bh,bk,H,mv,K,b,rfl,h.si,h.ch,by have:=h.bn.1;omega,h.bn.2,h.why,h.pgs⟩
 case done=>
  rintro D gI W fD fi ⟨bh,bk,H,mv,rv,hI⟩ cz;rw[fi]at hI;obtain⟨dc,dd,bA,rc,cc⟩:=hI.rv.cell;rw[Oa6]at cc;subst cc;have c1:W.cell? ⟨w.heap.size+1,0,none⟩=some (.slice none 0 0):=by simp[World.cell?,hI.b1]
  have g1:W.frozen? ⟨w.heap.size+1,0,none⟩=false:=by simp[World.frozen?,hI.b1]
  have bN:W.heap[w.heap.size+1+1]?=some (.cells #[.nilIface] 78 (0,0)):=hI.b2;have c2:=zc 0 bN;have g2:W.frozen? ⟨w.heap.size+1+1,0,none⟩=false:=by simp[World.frozen?,bN]
  have cj:=Krx hI;have Y:Hid (y.w0.heap.size<=w.heap.size/\bx.heap.size=w.heap.size+6/\y.sb<w.heap.size):=⟨U,O,bE⟩;clear hI bN fi U O;go_wp2_with fail
  have U:=Y.out.1;have O:=Y.out.2.1;have h:=cj.out;have dB:=((KeepsOthers.setCell W ⟨w.heap.size+1,0,none⟩ (.slice bA H.length rc)).trans (KeepsOthers.setCell _ ⟨w.heap.size+1+1,0,none⟩ .nilIface)).same D _ cz rfl;have dC:=(h.all bX zo).keep (G:=fun k=>k=w.heap.size+1\/k=w.heap.size+1+1) (Ju.set (F:=fun k=>k=w.heap.size+1\/k=w.heap.size+1+1) (Ju.set (F:=fun k=>k=w.heap.size+1\/k=w.heap.size+1+1) (Ju.refl _ W) (.inl rfl) 0 (.slice bA H.length rc)) (.inr rfl) 0 .nilIface) (fun k hk=>h.noB bC Y.out.2.2 U zo zo) (fun g bf e=>by have:=(Je h.rv.own bf).1;omega);have da:((W.setCell ⟨w.heap.size+1,0,none⟩ (.slice bA H.length rc)).setCell ⟨w.heap.size+1+1,0,none⟩ .nilIface).cell? ⟨w.heap.size+1,0,none⟩=some (.slice bA H.length rc):=by
   rw[Ob5 _ _ _ _ (by intro e;injection e with e _;omega)];exact World.cell?_setCell_same _ _ _ c1
  have db:((W.setCell ⟨w.heap.size+1,0,none⟩ (.slice bA H.length rc)).setCell ⟨w.heap.size+1+1,0,none⟩ .nilIface).cell? ⟨w.heap.size+1+1,0,none⟩=some .nilIface:=World.cell?_setCell_same _ _ _ (by rw[Ob5 _ _ _ _ (by intro e;injection e with e _;omega)];exact c2);generalize (W.setCell ⟨w.heap.size+1,0,none⟩ (.slice bA H.length rc)).setCell ⟨w.heap.size+1+1,0,none⟩ .nilIface=X at *;have bJ:∀ r,some D=some r->∃ o:Obj,X.heap[r]?=some o/\o.isCells=false:=fun r e=>by cases e;exact⟨_,dB,rfl⟩
  refine⟨zS,.inl ⟨_,_,rfl,run_takeDeferred dB,?_⟩⟩;have bD:=grownBy_putObj' X D (.deferred none);have gb:=cell_kept da bD bJ;have gd:=cell_kept db bD bJ;have cR:=CK.of_grown bD bJ;refine⟨.tuple #[.slice bA H.length rc,.nilIface],by simp[results,Tryz.f205,go_sem,gb,gd],?_⟩;have dT:=h.pgs;rw[Jbp]at dT;exact .inl ⟨bh,bk,H,mv,_,_,_,rfl,dC.ck cR (Krz dC.si.old bD fun r e=>by cases e;omega),Op1,by rw[h.len,Jbp],dT⟩
 case body=>
  rintro ge bj ⟨f,cJ,gx⟩ W ⟨bh,bk,H,mv,rv,hI⟩ ⟨cW,⟨cX,cY⟩,fh,cI⟩ cb;simp only at cW cX cY fh cI;have ds:y.cs.map (Jbx f (f+cJ))=Jba (Kr2 (List.range (nR y.cs)) (f,cJ)) y.cs:=by
   have:=Kte (List.range (nR y.cs)) y.cs f (f+cJ);rw[Kty hK.sg.good]at this;exact this
  rw[ds]at cI;have fZ:=fz.out;have cG:=hI.step hK bC bE zo zo zo fv.out (f:=f) (n:=cJ) (gx:=gx) (cp:=y.cs.length) (hs:=hs) (by rw[Oa6];exact cb) fo.out ⟨bX,bY⟩ zo cW cX cY cI zo fr.out;rw[Oa6]at cG;unfold rpV at cG;obtain⟨dc,dd,bA,rc,cc⟩:=hI.rv.cell;have ca:(H.map (·.rb)).length=bj.length:=by rw[Oa6,hI.len,Oa6]
  rw[ca]at cc;subst cc;have c0:W.cell? ⟨w.heap.size,0,none⟩=some (.pointer (some ⟨y.sb,0,none⟩)):=by simp[World.cell?,hI.b0]
  have cf:=Krx hI;have dj:=Krx cG;have Y:Hid (y.w0.heap.size<=w.heap.size/\bx.heap.size=w.heap.size+6/\bj.length<=100000/\bj.length<ckN (nR y.cs) bu):=⟨U,O,by have:=fw.out;omega,cb⟩;clear hI cG fZ cI ds fh cb ca U O cW cX cY hseq;gi_wp2_with (refine⟨trivial,?_⟩;gi_at_call 240;refine(CallsIn.inRound ge (callsIn_wide.2 dj.out)).mono ?_;rintro e fB ⟨rfl,dq,dQ⟩;have di:=Krx dQ;clear dQ)
  refine Kix (S:=fun X=>X.cell? ⟨w.heap.size,0,none⟩=some (.pointer (some ⟨y.sb,0,none⟩))) zK zK (Jh dq) (fun bz=>?_);refine tkj 0 rfl bz ?_;refine tkj 1 rfl bz ?_;refine tkj 2 rfl bz ?_;refine tkj 3 rfl bz ?_;refine tkn ?_;refine tkr 4 rfl fun cn bH=>?_;go_simp;refine(di.out fB.drew (Jj (Oa5 _ _))).mono ?_;rintro e gp ⟨gu,rfl,dr,fg⟩;have dm:=Krx fg;clear fg;go_simp;refine bH.out _ _ dr (fun bz=>?_);clear bH cn di dq dr c0 dj;refine tkr 5 rfl fun cn bH=>?_;go_simp;refine dm.out.mono ?_;rintro e I ⟨df,de,m3,gC,hM,fK⟩;clear dm;have hI:=cf.out;have U:=Y.out.1;have O:=Y.out.2.1;have bU:=hI.size;have cC:∀ k,w.heap.size<=k->k<w.heap.size+6->I.heap[k]?=W.heap[k]?:=fun k cy bW=>hM.keep.block k zo (hI.far bC bE cy bW);have fk:=(cC w.heap.size (Oa2 _) zo).trans hI.b0;have z1:=(cC (w.heap.size+1) zo zo).trans hI.b1;have z2:=(cC (w.heap.size+1+1) zo zo).trans hI.b2;have cK:=zc 0 fk;clear cC fk bU;have bL:=Krx hM;have fA:Hid (I.heap[w.heap.size+1]?=some (.cells #[.slice none 0 0] 301 (0,0))/\I.heap[w.heap.size+1+1]?=some (.cells #[.nilIface] 78 (0,0))):=⟨z1,z2⟩;rcases fK with⟨rfl,dY⟩|⟨K,b,rfl,cD,hb,cF,cH⟩
  ·go_simp;refine bH.out _ _ cK (fun bz=>?_);clear bH cn;refine tkj 6 rfl bz ?_;refine tkn ?_;refine wpAnyH_done zK ?_ _;dsimp only[Jpf];have gE:=hM.rv.cell.1;have gG:=hM.rv.cell.2.1;have dR:=hM.rv.own;have fy:=Krx dY;have dg:=Krx dR;have fq:Hid (bj.length<=100000/\w.heap.size+6<=I.heap.size):=⟨Y.out.2.2.1,by have:=cf.out.size;have:=bL.out.keep.size;omega⟩;have ca:(H.map (·.rb)).map rpV=(H.map (·.rb)).map rpV/\((H.map (·.rb)).map rpV).length=bj.length:=⟨rfl,by rw[Oa6,Oa6,hI.len,Oa6]⟩;have fu:=Krx ca.2;clear hM hI U O cK z1 z2 bz dY dR ca dc dd;obtain⟨ga,fM,fU,fV,fX⟩:=info_parts Ktw;have gw:=fq.out;have fG:=fu.out;have dH:∀ cN cM,Below I.heap.size I cN->cN.grownBy cM (Value.slice bA bj.length rc).ownBlock->cM.heap[w.heap.size+3]?=some (.cells #[.slice bA bj.length rc] 301 (0,0)):=fun cN cM dE bf=>(bf.block _ (by have:=dE.size;have:=bL.out.rv.nb.lt;omega) fun e=>by have:=(Je dg.out e.symm).1;omega).trans ((dE.block _ bL.out.rv.nb.lt).trans bL.out.rv.box);have fm:=Krx dH;clear dH;gi_wp2_with (gi_at_builtin;go_must (refine wpListIn_append_own_at _ rfl _ _ 301 rfl (w.heap.size+6) 354 ga _ 1 8 zK fM fU fV fX rfl zd (.slice bA bj.length rc) _ _ rfl (Jo.alloc dg.out _) ⟨I.heap.size,0,none⟩ 1 1 [.pointer (some ⟨W.heap.size,0,none⟩)] rfl rfl (by exact Ua I _ _) (by intro u fc;simp at fc;subst fc;rfl) (by unfold maxLen;omega) zo zt ?_);intro gH w4 dS dL _ fH;go_must (obtain⟨gt,gr,fd⟩:=ownsRow_succ dS);rw[fG]at fd;subst fd;have cO:=fm.out _ w4 (Jc (Oa5 _ I) _) dL;have gq:=zc 0 cO;have gs:w4.frozen? ⟨w.heap.size+3,0,none⟩=false:=(by simp[World.frozen?,cO]);clear cO)
   have hI:=cf.out;have U:=Y.out.1;have O:=Y.out.2.1;have gB:=hK.sb;obtain⟨⟨fl,fE⟩,fN,dN⟩:=CtM.fin hI bL.out bC bE zo fy.out (Jc (Oa5 _ I) _) (by
    rw[Ob8];unfold Jo;rw[Oa8];exact dS) dL fH
   have bU:=hI.size;refine⟨by rw[O];exact fN,⟨dN.size,fun k hk=>dN.block k zo fun e=>?_⟩,fl,_,_,_,_,by rw[Ob8];exact fE⟩;rcases e with(e|e|e)|e|e
   ·omega
   ·have:=hI.mnew k e;omega
   ·rcases hk with hk|hk|hk
    ·exact hI.far bC bE zo zo (.inr (.inr e))
    ·exact hI.far bC bE zo zo (.inr (.inr e))
    exact(hI.si.ffr k e).elim hk.2 fun e=>by omega
   ·omega
   have:=(Je hI.rv.own e).1;omega
  have fp:Hid (Yu I (.iface 156 (.pointer (some ⟨b,0,none⟩))) (if K=true then y.q else y.qw) none (some (-1))/\W.heap.size<=b/\¬ df b/\Kso y.D0 K):=⟨cD,hb,cF,cH⟩;have c1:=zc 0 z1;have g1:I.frozen? ⟨w.heap.size+1,0,none⟩=false:=by simp[World.frozen?,z1]
  have c2:=zc 0 z2;have g2:I.frozen? ⟨w.heap.size+1+1,0,none⟩=false:=by simp[World.frozen?,z2]
  go_simp;refine bH.out _ _ cK (fun bz=>?_);clear bH cn;refine tkj 6 rfl bz ?_;refine tkn ?_;refine wpAnyH_done zK ?_ _;dsimp only[Jpf];clear hM hI U O cK z1 z2 bz dc dd cD hb cF cH;gi_wp2
  have hI:=cf.out;have hM:=bL.out;have U:=Y.out.1;have O:=Y.out.2.1;have bU:=hI.size;obtain⟨z1,z2⟩:=fA.out;obtain⟨cD,hb,cF,cH⟩:=fp.out;have dM:Ju (fun k=>k=w.heap.size+1\/k=w.heap.size+1+1) I ((I.setCell ⟨w.heap.size+1,0,none⟩ (.slice none 0 0)).setCell ⟨w.heap.size+1+1,0,none⟩ (.iface 156 (.pointer (some ⟨b,0,none⟩)))):=Ju.set (F:=fun k=>k=w.heap.size+1\/k=w.heap.size+1+1) (Ju.set (F:=fun k=>k=w.heap.size+1\/k=w.heap.size+1+1) (Ju.refl _ I) (.inl rfl) 0 _) (.inr rfl) 0 _;have fW:(I.setCell ⟨w.heap.size+1,0,none⟩ (.slice none 0 0)).heap[w.heap.size+1+1]?=some (.cells #[.nilIface] 78 (0,0)):=(Oa4 _ _ _ _ (show w.heap.size+1+1≠w.heap.size+1 by omega)).trans z2;have fJ:dz de<=dz E+2*pr*bu*ckN (nR y.cs) bu:=by
   have cy:=hM.pgs;have bW:=hI.pgs;rw[Oa6]at bW;have cP:2*pr*bu*(bj.length+1)<=2*pr*bu*ckN (nR y.cs) bu:=Nat.mul_le_mul_left _ Y.out.2.2.2;rw[Nat.mul_add,Nat.mul_one]at cP;omega
  have bi:=CtX.of (L:=w.heap.size+6) fJ hM.si U bE zo (fun k hk=>(hM.ffr k hk).imp (bC k) id) hM.mnew (fun m bB=>by
   rcases Od2.1 bB with bB|bB
   ·exact⟨.inr (hI.new m bB).1,fun k hk=>.inr ((hI.new m bB).2 k hk)⟩
   rw[Oc6.1 bB];exact⟨.inr (by rw[hM.rb];omega),fun k hk=>.inr (by have:=hM.n3 k hk;omega)⟩) cD zo cF cH dM (fun k hk=>hk) (by rw[Oa4 _ _ _ _ (show w.heap.size+1≠w.heap.size+1+1 by omega),Jk z1];simp) (by show ((I.setCell ⟨w.heap.size+1,0,none⟩ (.slice none 0 0)).setCell ⟨w.heap.size+1+1,0,none⟩ (.iface 156 (.pointer (some ⟨b,0,none⟩)))).heap[w.heap.size+1+1]?=_;rw[Jk fW];simp)
  refine⟨?_,rfl,df,de,_,_,K,b,bi⟩;rw[O];refine Ks1 (G:=fun k=>CtG y bh mv k\/k=w.heap.size+1\/k=w.heap.size+1+1) ((hM.keep.mono fun k _ e=>.inl e).trans' dM fun k _ e=>.inr e) fun k hk hl=>?_;rcases hk with e|e|e
  ·exact hI.gcl bE zo k e hl
  ·omega
  omega
