/- Rows are written Kiw those of a run: write. -/
import Derived.Test.YtkdojacdolidfaaGreatDoorBg
set_option maxHeartbeats 4000000
set_option maxRecDepth 100000
namespace Go.Proofs.YtkdojacdolidfaaGreatDoor
section
open Go.RowKit Go.Shelf Tryz
attribute [local go_sem] Oc0
theorem SW.abN {K W F E M mv bl i m}(H:SW K W F E M mv bl i m){g}(y:m.ab=some g):m.N g/\g<W.heap.size:=by
 have Y:=H.si.runs m (Of6 H.at_);have U:=(Je H.own y).2;rcases H.own with⟨_,⟨h0,_⟩|⟨O,Z,bf,h0,_⟩⟩
 ·unfold Mr.ab at y;rw[h0]at y;cases y
 simp at h0;have I:=h0.1;unfold Mr.ab at y;rw[I]at y;simp[Value.ownBlock]at y;subst y;exact⟨Y.1.an O 0 I,U⟩
theorem Ku9 y(hK:SK y)w F E bx mv(z i:Nat)m(bj cp:Nat)hs ids(h:SW y w F E bx mv (z:Int) i m)(dr:1<=z)(gz:z<=64)(hC:Qd w bj hs (Jba ids y.cs))(dJ:Jbo bj hs y.cs.length (fun b=>b<w.heap.size/\¬ (F b\/b=m.rb\/m.ab=some b)))(fL:∀ t∈ids,t<nR y.cs)(gr:1<=ids.length)(cQ:ids.length<=50000)(gn:m.R.bs.length<=100000)(bD:Nat)(fP:∀ ch:List Nat,(∀ t∈ch,t<nR y.cs)->1<=ch.length->ch.length<=z->ch.length<=ids.length->(Qu (Kr6 y.ts (Jba ch y.cs) y.ts.length)).length<=bD)(gs:dz E+bD*ckN ids.length z<=930000):
  Calls prog 242 #[.pointer (some ⟨y.sb,0,none⟩),.pointer (some ⟨m.rb,0,none⟩),.slice (some ⟨bj,0,none⟩) y.cs.length cp] w (Kw4 y w F E bx mv z i m ids bD):=by
 have hlen:(Jba ids y.cs).length=y.cs.length:=Krw _ _;have fO:=hK.sg.good.one;have fK:=hK.sg.good.few;have gq:=h.si.runs m (Of6 h.at_);obtain⟨_,_,s4,_,_⟩:=h.si.st.field;have gy:=Jd h.si.st;have bi:=zh h;have cX:Hid (Qd w bj hs (Jba ids y.cs)/\Jbo bj hs y.cs.length (fun b=>b<w.heap.size/\¬ (F b\/b=m.rb\/m.ab=some b))):=⟨hC,dJ⟩;clear hC dJ h;refine(callsIn_wide (n:=3)).1 ?_;refine callsIn_of_wp_marks func242 rfl trivial ?_ rfl;simp only[ntmps242,Om3,List.length_cons,List.length_nil,Nat.reduceAdd,Nat.reduceSub,Ok9,Array.replicate_zero,Om4,Ol2,List.nil_append,List.cons_append];refine wpIn_wide.2 ?_;go_upto_region 1 with fail
 generalize dM:((w.alloc _).alloc _).alloc _=bM;obtain⟨cz,cF,bY,bZ,dc⟩:=Jur w _ _ _ bM dM;clear dM;have c0:=zc 0 cF;have c4:=Ja dc s4;have dO:=fun X=>Jh4 (.slice (some ⟨bj,0,none⟩) y.cs.length cp) (z:Int) (some ⟨bj,0,none⟩) y.cs.length cp rfl X;go_wp2_with (go_at_call 107;refine(dO _).mono ?_;rintro e bB ⟨rfl,bR⟩)
 have bE:bB.heap.size=w.heap.size+5:=by rw[bR,Oa7,Oa7,cz]
 have cc:Below bM.heap.size bM bB:=by rw[bR];exact Jc (Jc (Oa5 _ _) _) _
 have dC:bB.heap[w.heap.size+3]?=some (.cells #[.slice (some ⟨bj,0,none⟩) y.cs.length cp] 78 (0,0)):=by
  rw[bR,Oa9 _ _ _ (by rw[Oa7,cz];omega),<-cz];exact heap_alloc_new bM _
 have dB:bB.heap[w.heap.size+3+1]?=some (.cells #[.int .i64 (z:Int)] 3 (0,0)):=by
  have:=heap_alloc_new (bM.alloc (.cells #[.slice (some ⟨bj,0,none⟩) y.cs.length cp] 78)) (.cells #[.int .i64 (z:Int)] 3);rw[Oa7,cz]at this;rw[bR];exact this
 have cf:=Jb dc cc;have dD:=(cc.block _ (Jd cF)).trans cF;have dE:=(cc.block _ (Jd bY)).trans bY;have dG:=(cc.block _ (Jd bZ)).trans bZ;have fd:bx.set i m=bx:=by
  refine Oi8 fun j=>?_;by_cases e:j=i
  ·subst e;rw[Oh0 (Ob9.1 bi.out.at_).1,bi.out.at_]
  rw[Od1 (fun fA=>e fA.symm)]
 have cB:SW y bB F E bx mv (z:Int) i m:=by
  have:=bi.out;have bP:=fun (x:Mr) (fW:x∈bx)=>this.si.runs x fW;exact⟨this.si.keep (G:=fun _=>False) (Ju.of_below cf) (fun k H=>H.elim) id (fun _ _=>id) (fun _ _=>id) (fun _ _=>⟨id,fun _ _=>id⟩),this.at_,Jaw this.own cf,this.held,this.arr,this.lst⟩
 have dK:WrI y w F E bx mv z i m ids (w.heap.size+5) bD [] bB F E m:=
  ⟨by rw[fd];exact cB,rfl,rfl,zS,fun k H=>.inl H,fun k H=>.inl H,fun g U=>.inl U,dD,dE,dG,Ju.of_below cf,zo,zS,fun k H hl=>by have:=bi.out.si.flt k H;omega⟩
 have fw:=zh dK;have dI:Qd bB bj hs (Jba ids y.cs):=cX.out.1.below cf;have bJ:y.w0.heap.size<=w.heap.size:=bi.out.si.old.size;have hseq:=Jjx 2 zo (w.heap.size+3) (w.heap.size+3+1) bj cp hs (Jba ids y.cs) ids.length z dr zo zo (by rw[hlen];exact fO) (by rw[hlen];exact fK) bB dI (fun j cn=>Kr1 ids (by rw[hlen]at cn;exact cn)) (by rw[hlen];simp[World.cell?,dC]) (by simp[World.cell?,dB]) (fun k=>k=w.heap.size+3\/k=w.heap.size+3+1\/(k<w.heap.size/\¬ (F k\/k=m.rb\/m.ab=some k))) ⟨.inl rfl,.inr (.inl rfl),.inr (.inr cX.out.2.1),fun j cn b o e=>.inr (.inr (cX.out.2.2 j (by rw[hlen]at cn;exact cn) b o e))⟩ (fun k H=>zo);simp only[hlen]at hseq;clear dK cB fd dD dE dG cc cf cF bY bZ dc c0 c4 s4 dO dI dC dB;rw[<-bR];clear bR cz bM;refine(wpIn_wide (n:=3)).1 ?_;refine Jg8 rfl zo (gf:=141) (lb:=#[.pointer (some ⟨w.heap.size+3,0,none⟩),.pointer (some ⟨w.heap.size+3+1,0,none⟩)]) rfl trivial (enters_of func141 zK rfl)
  hseq (fun h k=>h.trans k) ?hKb (Oa5 _ _) (fun _=>rfl)
  (fun bT W=>∃ Y M I,WrI y w F E bx mv z i m ids (w.heap.size+5) bD (bT.map fun x=>(x.1,x.2.1)) W Y M I)
  (fun c bT W=>c=.ret/\∃ Y M I x b,WrX y w F E bx mv z i m ids (w.heap.size+5) bD W Y M I x b)
  ?hI ?hIx ?hR ⟨F,E,m,fw.out⟩ (fun x=>{tmps:=#[.pointer (some ⟨y.sb,0,none⟩),.pointer (some ⟨m.rb,0,none⟩),.slice (some ⟨bj,0,none⟩) y.cs.length cp,.pointer (some ⟨w.heap.size,0,none⟩),.pointer (some ⟨w.heap.size+1,0,none⟩),undef,.pointer (some ⟨w.heap.size+1+1,0,none⟩),undef,.slice (some ⟨x.2.2,0,none⟩) y.cs.length y.cs.length,undef,undef,.slice (some ⟨bj,0,none⟩) y.cs.length cp,.pointer (some ⟨y.sb,0,none⟩),.pointer (some ⟨y.sb,0,none⟩),.pointer (some ⟨y.sb,4,none⟩),.int .i64 (z:Nat),.func (.func 141) #[] #[.pointer (some ⟨w.heap.size+3,0,none⟩),.pointer (some ⟨w.heap.size+3+1,0,none⟩)],.int .i64 (x.1:Int),.slice (some ⟨x.2.2,0,none⟩) y.cs.length y.cs.length,undef,undef,undef,undef,undef,undef,undef,undef,undef,undef,undef,undef,undef,undef,undef,undef,undef,undef,undef],defers:=[]}) ?assign ?body ?done ?stop
 case hKb=>
  intro W l o gB hl ho _ _;exact⟨zS,fun k H=>World.putObj_heap_other zo⟩
 case hI=>
  rintro s W dA row ⟨Y,M,I,h⟩ U hr;exact⟨Y,M,I,h.kept zo bJ U fun r e=>⟨by have:=(hr r e).1;omega,(hr r e).2⟩⟩
 case hIx=>
  rintro c s W dA row ⟨cK,Y,M,I,x,b,h⟩ U hr;have bC:=CK.of_grown U fun r e=>(hr r e).2;obtain⟨bU,q1⟩:=h.ch.disk_at;exact⟨cK,Y,M,I,x,b,h.sw.ck bC (Kr0 h.sw.si.old U fun r e=>by have:=(hr r e).1;omega),h.rb,h.place,h.ffr,h.nfr,h.afr,bC.cells _ _ _ _ h.b2,.disk b _ _ (bC.cell bU) (bC.cell q1),h.bn,Kr0 h.keep U fun r e=>by have:=(hr r e).1;omega,Ob2 h.size U.size,h.pgs,h.why⟩
 case hR=>
  rintro x W dA row ⟨cH,dH,fC,fD⟩ U hr;exact⟨cH,dH,fC,fD.ck (CK.of_grown U fun r e=>(hr r e).2)⟩
 case assign=>
  clear bE bJ;intro l x W gh fF;gi_wp2
  exact fF
 case stop=>
  rintro D c bT W fE ⟨k,H,cT⟩ ⟨rfl,Y,M,I,x,b,bQ⟩ cI;have bN:W.heap[w.heap.size+1+1]?=some (.cells #[.iface 158 (.pointer (some ⟨b,0,none⟩))] 80 (0,0)):=bQ.b2;have c3:=zc 0 bN;have da:=zh bQ;have bX:Hid (y.w0.heap.size<=w.heap.size/\bB.heap.size=w.heap.size+5):=⟨bJ,bE⟩;clear bQ bN cT bJ bE;gi_wp2
  have bJ:=bX.out.1;have bE:=bX.out.2;have cy:∀ r,some D=some r->∃ o:Obj,W.heap[r]?=some o/\o.isCells=false:=fun r e=>by cases e;exact⟨_,cI,rfl⟩
  refine⟨zS,.inl ⟨_,_,rfl,run_takeDeferred cI,?_⟩⟩;have dt:=cell_kept c3 (grownBy_putObj' _ D (.deferred none)) cy;have bC:=CK.of_grown (grownBy_putObj' W D (.deferred none)) cy;have bL:=grownBy_putObj' W D (.deferred none);refine⟨.iface 158 (.pointer (some ⟨b,0,none⟩)),by simp[results,Tryz.f242,go_sem,dt],?_⟩;have h:=da.out;obtain⟨bU,q1⟩:=h.ch.disk_at;refine⟨Kr0 h.keep bL (fun r e=>by cases e;omega),Y,M,I,h.sw.ck bC (Kr0 h.sw.si.old bL fun r e=>by cases e;omega),h.rb,h.place,fun k H=>(h.ffr k H).imp id zo,fun k H=>(h.nfr k H).imp id zo,fun g U=>(h.afr g U).imp id zo,h.pgs,.inr ⟨x,b,rfl,.disk b _ _ (bC.cell bU) (bC.cell q1),by have:=h.bn.1;omega,h.bn.2.1,h.bn.2.2,h.why⟩⟩
 case done=>
  rintro D gG W fE fi ⟨Y,M,I,hI⟩ cI;rw[fi]at hI;have bN:W.heap[w.heap.size+1+1]?=some (.cells #[.nilIface] 80 (0,0)):=hI.b2;have c3:=zc 0 bN;have gi:W.frozen? ⟨w.heap.size+1+1,0,none⟩=false:=by simp[World.frozen?,bN]
  have da:=zh hI;have bX:Hid (y.w0.heap.size<=w.heap.size/\bB.heap.size=w.heap.size+5):=⟨bJ,bE⟩;clear hI bN fi bJ bE;go_wp2_with fail
  have bJ:=bX.out.1;have bE:=bX.out.2;have h:=da.out;have dL:=(KeepsOthers.setCell W ⟨w.heap.size+1+1,0,none⟩ .nilIface).same D _ cI rfl;have cB:=SW.box bi.out h.sw (Oa2 _) h.rb h.ffr h.nfr h.afr (w.heap.size+1+1) zo .nilIface;have gd:Ju (fun k=>F k\/k=m.rb\/m.ab=some k) w (W.setCell ⟨w.heap.size+1+1,0,none⟩ .nilIface):=h.keep.trans' (Ju.set (F:=fun k=>k=w.heap.size+1+1) (Ju.refl _ _) rfl 0 _) fun k H e=>by omega
  have dt:(W.setCell ⟨w.heap.size+1+1,0,none⟩ .nilIface).cell? ⟨w.heap.size+1+1,0,none⟩=some .nilIface:=World.cell?_setCell_same _ _ _ c3;generalize W.setCell ⟨w.heap.size+1+1,0,none⟩ .nilIface=X at *;have cy:∀ r,some D=some r->∃ o:Obj,X.heap[r]?=some o/\o.isCells=false:=fun r e=>by cases e;exact⟨_,dL,rfl⟩
  refine⟨zS,.inl ⟨_,_,rfl,run_takeDeferred dL,?_⟩⟩;have bL:=grownBy_putObj' X D (.deferred none);have gb:=cell_kept dt bL cy;have bC:=CK.of_grown bL cy;refine⟨.nilIface,by simp[results,Tryz.f242,go_sem,gb],?_⟩;have fG:=Kvx ids z dr;have fQ:=h.pgs;rw[Jbp]at fQ;refine⟨Kr0 gd bL (fun r e=>by cases e;omega),Y,M,I,cB.ck bC (Kr0 cB.si.old bL fun r e=>by cases e;omega),h.rb,h.place,fun k H=>(h.ffr k H).imp id zo,fun k H=>(h.nfr k H).imp id zo,fun g U=>(h.afr g U).imp id zo,zo,.inl ⟨rfl,?_⟩⟩;rw[List.flatMap_def,h.ids,List.flatten_append,fG,List.flatMap_def]
 case body=>
  rintro fo bT ⟨f,Z,gx⟩ W ⟨Y,M,I,hI⟩ ⟨fg,⟨dp,dq⟩,fh,cW⟩ cT;simp only at fg dp dq fh cW;rw[Ktk]at cW;have dQ:(Kr5 ids (f,Z)).length=Z:=by unfold Kr5;simp;omega
  have cL:∀ t∈Kr5 ids (f,Z),t<nR y.cs:=fun t ht=>fL t (Om9 (Oh7 ht));have bS:=hI.sw.si.env hK;have cu:=hK.sg.lay cL zo;have fc:=hI.pgs;rw[Oa6]at fc;have dV:=Nat.mul_le_mul_left bD (show bT.length+1<=ckN ids.length z from cT);rw[Nat.mul_add,Nat.mul_one]at dV;have dZ:=fP (Kr5 ids (f,Z)) cL zo zo (by unfold Kr5;rw[Of7,Oc7];omega);have fJ:ckN ids.length z<=ids.length:=Kg4 _ _ dr;have dh:∀ k,k<y.w0.heap.size->¬ y.F0 k->¬ Y k:=fun k H cQ de=>(hI.sw.si.ffr k de).elim cQ (fun bO=>zo);have ga:=Qba (E:=M) zo;have cx:=Kz4 y.sb y.tb y.to_ y.tc y.ts gx y.cs.length _ (Jba (Kr5 ids (f,Z)) y.cs) (Kr5 ids (f,Z)).length W Y y.d M y.q y.qw bS.so.c0 bS.so.c3 bS.so.ty cW cu.1 hI.sw.si.disk hI.sw.si.flt bS.cq bS.cw (dh _ hK.gl.2.2.1 hK.gl.1) (dh _ hK.gl.2.2.2 hK.gl.2.1) (by have:=cu.2.2;omega);rw[Krw]at cx;have c0:W.cell? ⟨w.heap.size,0,none⟩=some (.pointer (some ⟨y.sb,0,none⟩)):=by simp[World.cell?,hI.b0]
  have cD:=zh hI;have cY:Hid ((Kr5 ids (f,Z)).length=Z/\(∀ t∈Kr5 ids (f,Z),t<nR y.cs)/\1<=Z/\Z<=z/\bT.length<ids.length/\dz M+bD<=dz E+bD*ckN ids.length z):=⟨dQ,cL,dp,dq,zo,zo⟩;have dw:Hid (Kyv y.ts (Jba (Kr5 ids (f,Z)) y.cs) (Kr5 ids (f,Z)).length/\(Qu (Kr6 y.ts (Jba (Kr5 ids (f,Z)) y.cs) y.ts.length)).length<=11000/\(Qu (Kr6 y.ts (Jba (Kr5 ids (f,Z)) y.cs) y.ts.length)).length<=bD/\dz M+(Qu (Kr6 y.ts (Jba (Kr5 ids (f,Z)) y.cs) y.ts.length)).length<=950000):=⟨cu.1,cu.2.2,dZ,zo⟩;clear hI fg dp dq fh cW dQ cL bS cu fc fJ dh cT dV dZ ga;have dy:=zh bE;clear bE;generalize dP:Kr5 ids (f,Z)=ch at *;have fu:=zh dP;clear dP;obtain⟨dv,dm⟩:∃ dv,Uy M (Qu (Kr6 y.ts (Jba ch y.cs) y.ts.length))=dv:=⟨_,rfl⟩;rw[dm]at cx;have cZ:=zh dm;clear dm;obtain⟨bW,l,x⟩:=dv;have cC:Hid (∀ X,Ju Y W X->X.cell? ⟨w.heap.size+1,0,none⟩=some (.pointer (some ⟨m.rb,0,none⟩))/\X.heap[w.heap.size+1+1]?=some (.cells #[.nilIface] 80 (0,0))/\X.heap[m.rb]?=some (.cells #[.int .i64 (I.R.place:Nat),.slice I.ba I.R.bs.length I.bc,.slice none 0 0] 359 (0,0))):=fun X H=>by
   have hI:=cD.out;have bA:=hI.sw.si.runs I (Of6 hI.sw.at_);have nb:∀ k,w.heap.size<=k->k<w.heap.size+5->¬ Y k:=fun k cH dH de=>(hI.ffr _ de).elim (fun bO=>by have:=bi.out.si.flt _ bO;omega) (fun bO=>zo);have bY:=(H.block _ (Jd hI.b1) (nb _ zo zo)).trans hI.b1;have bZ:=(H.block _ (Jd hI.b2) (nb _ zo zo)).trans hI.b2;have er:=(H.block _ (Jd bA.1.cells) bA.2.1).trans bA.1.cells;rw[hI.sw.held.2,hI.rb]at er;exact⟨by simp[World.cell?,bY],bZ,er⟩
  cases x with
  |none=>
   gi_wp2_with (first|(refine⟨trivial,?_⟩;gi_at_call 281;refine(CallsIn.inRound fo (callsIn_wide.2 cx)).mono ?_;rintro e K ⟨bh,FD,cM,ci,cO,gA,gC,rfl,⟨cN,df⟩,cS,di⟩;obtain⟨la,lc,rfl,_⟩:=cN.cells;obtain⟨pa,pc,rfl,_⟩:=cS.cells))
   rw[Oa6,Ktl]at cN df;rw[Oa6]at cS di;rw[Ktl];obtain⟨q1,q2,du⟩:=cC.out K bh;have qr:=zc 1 du;have dx:Hid (Ju Y W K/\Zb K FD y.d bW/\(∀ k,FD k->Y k\/W.heap.size<=k)/\(∀ k,FD k->k<K.heap.size)/\Jo K W.heap.size 3 (.slice la y.ts.length lc) ((Ktd y.ts (Jba ch y.cs) y.ts.length).map nv)/\(∀ g,(Value.slice la y.ts.length lc).ownBlock=some g->¬ FD g)/\Jo K W.heap.size 3 (.slice pa l.length pc) (l.map nv)/\∀ g,(Value.slice pa l.length pc).ownBlock=some g->¬ FD g):=⟨bh,cM,ci,cO,cN,df,cS,di⟩;have fx:=zh du;clear bh cM ci cO cN df cS di cx q2 du cC;have bk:Below K.heap.size K (K.alloc (.cells #[.int .i64 (ch.length:Nat),.slice la y.ts.length lc,.slice pa l.length pc] 361)):=Jc (Oa5 _ _) _;have cR:=heap_alloc_new K (.cells #[.int .i64 (ch.length:Nat),.slice la y.ts.length lc,.slice pa l.length pc] 361);generalize K.alloc (.cells #[.int .i64 (ch.length:Nat),.slice la y.ts.length lc,.slice pa l.length pc] 361)=bf at bk cR |-;obtain⟨fq,fr,fs,_⟩:=Ksp cR;have fy:Hid (Below K.heap.size K bf/\bf.heap[K.heap.size]?=some (.cells #[.int .i64 (ch.length:Nat),.slice la y.ts.length lc,.slice pa l.length pc] 361 (0,0))):=⟨bk,cR⟩;have fp:=Ja bk q1;have pr:=Ja bk qr;clear bk cR q1 qr;refine Kwb 10 (S:=fun X=>X.cell? ⟨w.heap.size+1,0,none⟩=some (.pointer (some ⟨m.rb,0,none⟩))/\X.cell? ⟨m.rb,1,none⟩=some (.slice I.ba I.R.bs.length I.bc)/\X.cell? ⟨K.heap.size,0,none⟩=some (.int .i64 (ch.length:Nat))/\X.cell? ⟨K.heap.size,1,none⟩=some (.slice la y.ts.length lc)/\X.cell? ⟨K.heap.size,2,none⟩=some (.slice pa l.length pc)) zK zK ⟨Jh fp,Jh pr,Jh fq,Jh fr,Jh fs⟩ (fun O=>?_);clear fp pr fq fr fs;refine tkm 0 rfl O ?_;refine tkm 1 rfl O ?_;refine tkm 2 rfl O ?_;refine tkn ?_;refine tkm 3 rfl O ?_;refine tkm 4 rfl O ?_;refine tkm 5 rfl O ?_;refine tkn ?_;refine Ksc 6 rfl (fun bK bz=>?_);go_simp;have bI:Below bf.heap.size bf (bf.alloc (.cells #[.int .i64 (ch.length:Nat),.slice la y.ts.length lc,.slice pa l.length pc] 361)).drew:=Jj (Jc (Oa5 _ _) _);have dg:(bf.alloc (.cells #[.int .i64 (ch.length:Nat),.slice la y.ts.length lc,.slice pa l.length pc] 361)).drew.heap[bf.heap.size]?=some (.cells #[.int .i64 (ch.length:Nat),.slice la y.ts.length lc,.slice pa l.length pc] 361 (0,0)):=heap_alloc_new bf _;have cU:(bf.alloc (.cells #[.int .i64 (ch.length:Nat),.slice la y.ts.length lc,.slice pa l.length pc] 361)).drew.heap.size=bf.heap.size+1:=Oa7 _ _;generalize (bf.alloc (.cells #[.int .i64 (ch.length:Nat),.slice la y.ts.length lc,.slice pa l.length pc] 361)).drew=bG at bI dg cU |-;refine bz.out _ _ ⟨Ja bI O.1,Ja bI O.2.1,Ja bI O.2.2.1,Ja bI O.2.2.2.1,Ja bI O.2.2.2.2⟩ (fun O=>?_);clear bz bK;have br:=cD.out;have fI:I.R.bs.length<=200000:=by
    have cH:=congrArg List.length br.ids;simp only[Oa6,Oa8]at cH;have:=cY.out.2.2.2.2.1;omega
   have cb:Below K.heap.size K bG:=Jb fy.out.1 bI;have bA:=br.sw.si.runs I (Of6 br.sw.at_);have bh:=dx.out.1;have fZ:=cb.size;have fX:=bh.size;have fY:=br.size;have dY:Kvu bG y.w0.heap.size y.ts.length (.slice I.ba I.R.bs.length I.bc) I.R.bs:=br.sw.own.of_block fun g U=>by
    have bP:=br.sw.abN U;rw[cb.block g zo,bh.block g bP.2 (bA.2.2 g bP.1)]
   have cJ:∀ g,I.ab=some g->g<W.heap.size/\g≠w.heap.size+1/\g≠m.rb:=fun g U=>by
    have bP:=br.sw.abN U;refine⟨bP.2,fun e=>?_,fun e=>bA.1.nr (by rw[br.rb];exact e▸bP.1)⟩;rcases br.afr g U with bO|bO
    ·have:=(bi.out.abN bO).2;omega
    omega
   have fT:m.rb<W.heap.size:=by rw[<-br.rb];exact Jd bA.1.cells
   obtain⟨fm,dS,fj,fk,fl⟩:=info_parts Qdb;refine Ksc 7 rfl (fun bK bz=>?_);refine step_append_lies bG rfl (.tmp 32) (.tmp 34) 357 rfl y.w0.heap.size 361 fm (.agg #[.int .i64 0,.slice none 0 0,.slice none 0 0]) 3 56 zK dS fj fk fl rfl zd (.slice I.ba I.R.bs.length I.bc) I.R.bs.length (I.R.bs.flatMap (Bk.cells y.ts.length)) rfl dY ⟨bf.heap.size,0,none⟩ 1 1 [.int .i64 (ch.length:Nat),.slice la y.ts.length lc,.slice pa l.length pc] rfl rfl (fun j u cV=>World.news_of_block (w:=bG) dg j u (by simpa using cV)) (fun u cV=>by simp at cV;rcases cV with rfl|rfl|rfl<;>rfl) zd (by unfold maxLen;omega) zo zo (bf.heap.size+1) cU (fun db fz cE dX cj dN fN=>?_);have dl:=(cj.block m.rb zo fun e=>(cJ _ e.symm).2.2 rfl).trans ((cb.block _ zo).trans fx.out);have cw:=zc 1 dl;have fB:cE.frozen? ⟨m.rb,1,none⟩=false:=by simp[World.frozen?,dl]
   have cG:∀ o u,bG.cell? ⟨K.heap.size,o,none⟩=some u->cE.cell? ⟨K.heap.size,o,none⟩=some u:=fun o u cK=>(cj.cell_far ⟨K.heap.size,o,none⟩ (by have:=Jb0 cK;exact this) fun e=>by have gj:K.heap.size<W.heap.size:=(cJ _ e.symm).1;omega).trans cK;refine bz.out _ _ ⟨(cj.cell_far ⟨w.heap.size+1,0,none⟩ (Jb0 O.1) fun e=>(cJ _ e.symm).2.1 rfl).trans O.1,cw,cG _ _ O.2.2.1,cG _ _ O.2.2.2.1,cG _ _ O.2.2.2.2⟩ (fun O=>?_);have fv:Hid (bG.grownBy cE I.ab/\(I.ab=some db\/db=bf.heap.size+1)/\Kvu cE y.w0.heap.size y.ts.length (.slice (some ⟨db,0,none⟩) (I.R.bs.length+1) fz) (I.R.bs++[⟨ch,l,la,lc,pa,pc⟩])/\Below K.heap.size K bG/\bG.heap.size=bf.heap.size+1):=⟨cj,dN,by
    unfold Kvu;rw[Oa8,List.length_singleton];simpa [Bk.cells] using dX,cb,cU⟩
   clear bz bK cj dN dX bI dg cU cb dY dl cG fI fZ fX fY fN br bA bh cJ dS fj fk fl fm;simp only[Act.put,List.getElem_toArray,List.getElem_cons_zero,List.getElem_cons_succ,Oa1,List.set_cons_zero,List.set_cons_succ];refine Ksc 8 rfl (fun bK bz=>?_);go_simp;refine bz.out _ _ O (fun O=>?_);clear bz bK;refine tkm 9 rfl O ?_;refine tkn ?_;refine Ktx rfl (fun bK bz=>?_);go_simp;refine bz.out _ _ ?_;clear bz bK O cw fB;have hI:=cD.out;have bH:=dx.out;have ca:=fv.out;have dd:=cY.out;have cv:=Jrh (Qu (Kr6 y.ts (Jba ch y.cs) y.ts.length)) M;have dU:=(Jc1 (Qu (Kr6 y.ts (Jba ch y.cs) y.ts.length)) M).1;obtain⟨_,fR,fS,dj⟩:=dw.out;have dR:=(Qa3 (Qu (Kr6 y.ts (Jba ch y.cs) y.ts.length)) M dj).1;rw[cZ.out]at cv dU dR;have dW:=WrI.next bi.out hI (Oa2 _) ⟨ch,l,la,lc,pa,pc⟩ (f,Z) fu.out.symm dd.2.1 (by show 1<=ch.length/\ch.length<=64;omega) bH.1 bH.2.1 bH.2.2.1 bH.2.2.2.1 (dU rfl) (by show l.length<=1000000;have:=cv.2;dsimp only at this;omega) bH.2.2.2.2.1 bH.2.2.2.2.2.1 bH.2.2.2.2.2.2.1 bH.2.2.2.2.2.2.2 ca.2.2.2.1 ca.2.2.1 ca.1 (ca.2.1.imp (fun e=>e.symm) fun e=>by rw[e,ca.2.2.2.2];rfl) (by dsimp only at dR;omega);rw[hI.rb]at dW;obtain⟨⟨ft,m2,fV⟩,fM,dT⟩:=dW;have cP:=bi.out;have gt:m.rb<w.heap.size:=Jd (cP.si.runs m (Of6 cP.at_)).1.cells;have fU:=hI.size;refine⟨by rw[dy.out];exact fM,⟨dT.size,fun k H=>dT.block k zo fun e=>?_⟩,ft,bW,m2,by rw[Ob8];exact fV⟩;rcases e with e|e|e
   ·rcases hI.ffr k e with e|e
    ·have:=cP.si.flt k e;rcases H with H|H|H
     ·omega
     ·omega
     exact H.2 (.inl e)
    omega
   ·rcases H with H|H|H
    ·omega
    ·omega
    exact H.2 (.inr (.inl e))
   rcases hI.afr k e with e|e
   ·have:=(cP.abN e).2;rcases H with H|H|H
    ·omega
    ·omega
    exact H.2 (.inr (.inr e))
   omega
  |some x=>
   gi_wp2_with (first|(refine⟨trivial,?_⟩;gi_at_call 281;refine(CallsIn.inRound fo (callsIn_wide.2 cx)).mono ?_;rintro e K ⟨bh,FD,cM,ci,cO,bb,rfl,gm,dd,fH⟩;obtain⟨_,q2,_⟩:=cC.out K bh;have cA:=((Jc (Oa5 _ K) (.cells #[.int .i64 0,.slice none 0 0,.slice none 0 0] 361)).block _ (Jd q2)).trans q2;have gD:(K.alloc (.cells #[.int .i64 0,.slice none 0 0,.slice none 0 0] 361)).cell? ⟨w.heap.size+1+1,0,none⟩=some .nilIface:=(by simp[World.cell?,cA]);have gE:(K.alloc (.cells #[.int .i64 0,.slice none 0 0,.slice none 0 0] 361)).frozen? ⟨w.heap.size+1+1,0,none⟩=false:=(by simp[World.frozen?,cA]);clear q2 cA))
   have hI:=cD.out;have bk:Below K.heap.size K (K.alloc (.cells #[.int .i64 0,.slice none 0 0,.slice none 0 0] 361)):=Jc (Oa5 _ K) _;obtain⟨_,q2,_⟩:=cC.out K bh;have cA:=(bk.block _ (Jd q2)).trans q2;have bA:=hI.sw.si.runs I (Of6 hI.sw.at_);have fT:m.rb<w.heap.size:=Jd (bi.out.si.runs m (Of6 bi.out.at_)).1.cells;have fU:=hI.size;have gu:=bh.size;have gw:=bk.size;have fe:=Jso (D:=M) (ps:=Qu (Kr6 y.ts (Jba ch y.cs) y.ts.length)) (x:=x) (by rw[cZ.out]);obtain⟨_,fR,fS,dj⟩:=dw.out;obtain⟨cv,ff⟩:=Qa3 (Qu (Kr6 y.ts (Jba ch y.cs) y.ts.length)) M dj;rw[cZ.out]at fe cv ff;have gp:=cY.out;have bV:SW y K FD (Jf4 bW l) (bx.set i I) mv (z:Int) i I:=⟨hI.sw.si.disk_same bh ci cO cM fe.1,hI.sw.at_,hI.sw.own.of_block fun g U=>bh.block g (hI.sw.abN U).2 (bA.2.2 g (hI.sw.abN U).1),hI.sw.held,hI.sw.arr,hI.sw.lst⟩;have ge:SW y (K.alloc (.cells #[.int .i64 0,.slice none 0 0,.slice none 0 0] 361)) FD (Jf4 bW l) (bx.set i I) mv (z:Int) i I:=⟨bV.si.keep (G:=fun _=>False) (Ju.of_below bk) (fun k H=>H.elim) id (fun _ _=>id) (fun _ _=>id) (fun _ _=>⟨id,fun _ _=>id⟩),bV.at_,Jaw bV.own bk,bV.held,bV.arr,bV.lst⟩;have ffr:∀ k,FD k->F k\/w.heap.size+5<=k:=fun k H=>(ci k H).elim (hI.ffr k) fun e=>.inr zo;have gg:=SW.box bi.out ge (Oa2 _) hI.rb ffr hI.nfr hI.afr (w.heap.size+1+1) zo (.iface 158 (.pointer (some ⟨bb,0,none⟩)));have ds:Ju (fun k=>Y k\/k=w.heap.size+1+1) W ((K.alloc (.cells #[.int .i64 0,.slice none 0 0,.slice none 0 0] 361)).setCell ⟨w.heap.size+1+1,0,none⟩ (.iface 158 (.pointer (some ⟨bb,0,none⟩)))):=Ju.set (F:=fun k=>Y k\/k=w.heap.size+1+1) ((bh.trans (Ju.of_below bk)).mono fun k _ H=>.inl H) (.inr rfl) 0 _;obtain⟨bU,q1⟩:=dd.disk_at;have bQ:((K.alloc (.cells #[.int .i64 0,.slice none 0 0,.slice none 0 0] 361)).setCell ⟨w.heap.size+1+1,0,none⟩ (.iface 158 (.pointer (some ⟨bb,0,none⟩)))).heap[bb]?=K.heap[bb]?:=(Oa4 _ _ _ _ (show bb≠w.heap.size+1+1 by omega)).trans (bk.block bb (Jb0 bU));refine⟨by rw[dy.out];exact hI.from (b:=w.heap.size+1+1) zo (ds.mono fun k _ H=>H.imp id fun e=>.inr (.inr e)),rfl,FD,Jf4 bW l,I,x,bb,gg,hI.rb,hI.place,ffr,hI.nfr,hI.afr,by rw[Jk cA];simp,.disk bb _ _ ((Oc3 bQ).trans bU) ((Oc3 bQ).trans q1),⟨zo,fH,fun cQ=>by have:=bA.1.lt _ cQ;omega⟩,hI.keep.trans' ds fun k H e=>?_,by have:=ds.size;omega,?_,(ff x rfl).of hI.sw.si.top.quota hI.sw.si.top.fail⟩
   ·rcases e with e|e
    ·exact .inl ((hI.ffr k e).resolve_right zo)
    omega
   rw[Kyw];dsimp only at cv;omega
theorem SW.next {K w w' F E Y H mv bl i j m Z I b}(h:SW K w F E H mv bl j I)(U:Ksx K w F E H mv bl i m Z b Y w')(hi:H[i]?=some m)(M:i≠j):SW K w' F Y (H.set i Z) mv bl j I:=by
 have bj:=h.si.runs I (Of6 h.at_);refine⟨U.si,by rw[Od1 M];exact h.at_,h.own.of_block fun g y=>U.keep.block g (h.abN y).2 fun e=>?_,h.held,fun g y k mk O bi=>?_,h.lst⟩
 ·rcases e with e|e
  ·exact bj.2.2 g (h.abN y).1 e
  exact(h.si.sep j i I m h.at_ hi fun bf=>M bf.symm).2 (e▸(h.abN y).1)
 rcases getElem?_set_cases O with⟨_,rfl⟩|⟨_,O⟩
 ·intro bh;rcases U.new g bh with e|e
  ·exact h.arr g y i m hi M e
  have:=(h.abN y).2;omega
 exact h.arr g y k mk O bi
theorem SW.keep {y w w' F G E H mv bl i m}(h:SW y w F E H mv bl i m)(K:Ju G w w')(M:∀ k,G k->y.w0.heap.size<=k)(U:¬ G y.sb)(O:∀ g,mv.ownBlock=some g->¬ G g)(hF:∀ k,F k->¬ G k)(hM:∀ m∈H,¬ G m.rb/\∀ k,m.N k->¬ G k):SW y w' F E H mv bl i m:=
 ⟨h.si.keep K M U O hF hM,h.at_,h.own.of_block fun g I=>K.block g (h.abN I).2 ((hM m (Of6 h.at_)).2 g (h.abN I).1),h.held,h.arr,h.lst⟩
theorem Kw4.ret {y w w' F E H mv z i m ids I}{e:Ending}(h:Kw4 y w F E H mv z i m ids I e w'):∃ v,e=.returned v:=by
 obtain⟨_,_,_,_,_,_,_,_,_,_,_,hv|⟨_,_,hv,_⟩⟩:=h
 ·exact⟨_,hv.1⟩
 exact⟨_,hv⟩
theorem Kv8 y(hK:SK y)w F E K mv(z i:Nat)m(H cp:Nat)hs ids(h:SW y w F E K mv (z:Int) i m)(bj:1<=z)(bk:z<=64)(hC:Qd w H hs (Jba ids y.cs))(M:Jbo H hs y.cs.length (fun b=>b<w.heap.size/\¬ (F b\/b=m.rb\/m.ab=some b)))(O:∀ t∈ids,t<nR y.cs)(bh:1<=ids.length)(bf:ids.length<=50000)(Z:m.R.bs.length<=100000)(I:Nat)(U:∀ ch:List Nat,(∀ t∈ch,t<nR y.cs)->1<=ch.length->ch.length<=z->ch.length<=ids.length->(Qu (Kr6 y.ts (Jba ch y.cs) y.ts.length)).length<=I)(Y:dz E+I*ckN ids.length z<=930000)(b1 b2:Nat)(bx:w.cell? ⟨b1,0,none⟩=some (.pointer (some ⟨y.sb,0,none⟩)))(bz:w.cell? ⟨b2,0,none⟩=some (.pointer (some ⟨m.rb,0,none⟩))):
  Calls prog 244 #[.slice (some ⟨H,0,none⟩) y.cs.length cp,.pointer (some ⟨b1,0,none⟩),.pointer (some ⟨b2,0,none⟩)] w (Kw4 y w F E K mv z i m ids I):=by
 have bi:=Ku9 y hK w F E K mv z i m H cp hs ids h bj bk hC M O bh bf Z I U Y;clear h hC M O U Y;go_enter func244,ntmps244
 go_wp2_with (go_at_call 242;refine bi.mono ?_;intro e br hp;obtain⟨v,hv⟩:∃ v,e=.returned v:=hp.ret;subst hv)
 go_ret
 exact hp
theorem Qac cs l H:Jdi (Jba l cs) (Jba H cs) cs.length=Jba (l++H) cs:=by
 refine Oh4 (by rw[Jf9,Krw,Krw]) fun j M K=>?_;have y:j<cs.length:=by rw[Krw]at K;exact K
 have I:=Jlm (Jba l cs) (Jba H cs) cs.length j (by rw[Krw];exact y);rw[if_pos y,Kr8 l y,Kr8 H y,<-Ob8,<-Kr8 (l++H) y]at I;rw[Oa0,Oa3 M,Oa0,Oa3 K]at I;exact I
theorem Kx2 (y:SC)w(B g cap:Nat)(I:List Value)(l ids:List Nat)(g2 O ob:Nat)(hs:List (Option Addr×Nat))(bz:w.cell? ⟨ob,0,none⟩=some (.slice (some ⟨g,0,none⟩) y.cs.length cap))(Y:Jar w B g I (Jba l y.cs))(U:Qd w g2 hs (Jba ids y.cs))(br:y.cs.length<=1000)(bh:l.length+ids.length<=1000000)(bk:B<=w.heap.size)(bf:∀ j b,j<y.cs.length->(Uq I j).ownBlock=some b->b≠g2/\∀ k H M,k<y.cs.length->(Yo hs k).1=some ⟨H,M,none⟩->b≠H)(bi:g≠g2/\∀ k H M,k<y.cs.length->(Yo hs k).1=some ⟨H,M,none⟩->g≠H):
  Calls prog 159 #[.slice (some ⟨g2,0,none⟩) y.cs.length O,.pointer (some ⟨ob,0,none⟩)] w fun e w'=>e=.returned .nilIface/\(∃ bj,Jar w' B g bj (Jba (l++ids) y.cs)/\∀ j b,j<y.cs.length->(Uq bj j).ownBlock=some b->(Uq I j).ownBlock=some b\/w.heap.size<=b)/\Below B w w'/\w.heap.size<=w'.heap.size/\∀ x,x<w.heap.size->x≠g->(∀ j,j<y.cs.length->(Uq I j).ownBlock≠some x)->w'.heap[x]?=w.heap[x]?:=by
 have Z:=Kb4 B g cap I (Jba l y.cs) g2 O hs (Jba ids y.cs) w Y U.loose (by rw[Krw,Krw]) (fun j K=>by rw[Krw]at K;rw[Kr1 l K,Kr1 ids K];exact bh) bk (by rw[Krw];exact br) (by rw[Krw,Krw];exact bf) (by rw[Krw];exact bi);rw[Krw,Krw,Qac]at Z;clear Y U bf bi bh;go_enter func159,ntmps159
 go_wp2_with (go_at_call 110;refine Z.mono ?_;rintro e bx ⟨rfl,hp⟩)
 go_ret
 exact⟨rfl,hp⟩
end
section
open Go.RowKit Go.Shelf
def Krz (y:List Mr)(idx:List Nat):List (List Nat):=idx.map fun i=>((y[i]?).map fun m=>m.R.rem).getD []
theorem Ksr {y idx}{j i:Nat}{m}(H:idx[j]?=some i)(hi:y[i]?=some m):(Krz y idx)[j]?=some m.R.rem:=by
 unfold Krz;rw[Ob1,H];simp[hi]
theorem Ktp {y idx}(Y:idx.Nodup){j i m K}(H:idx[j]?=some i)(hi:y[i]?=some m):Krz (y.set i K) idx=(Krz y idx).set j K.R.rem:=by
 have I:=(Ob9.1 H).1;have U:=(Ob9.1 hi).1;refine Oi8 fun k=>?_;by_cases e:k=j
 ·subst e;rw[Ksr H (Oh0 U),Oh0 (by unfold Krz;rw[Oa6];exact I)]
 rw[Od1 (fun M=>e M.symm)];unfold Krz;rw[Ob1,Ob1];cases hk:idx[k]? with
 |none=>rfl
 |some bf=>
  have Z:i≠bf:=fun O=>e ((List.getElem?_inj I Y).1 (by rw[H,hk,O])).symm;simp only[Option.map_some];rw[Od1 Z]
theorem Ksx.tail {I w w' F E H K mv bl i m y b}(h:Ksx I w F E K mv bl i m y b H w')(hh:m.R.held≠[]):m.R.rem=m.R.held.headD 0::y.R.rem:=by
 rw[h.rem];unfold Rn.rem;cases hl:m.R.held with
 |nil=>exact absurd hl hh
 |cons a l=>rfl
theorem Ksx.whole {I w w' F E H K mv bl i m y b}(h:Ksx I w F E K mv bl i m y b H w')(hh:m.R.held=[]):y.R.rem=m.R.rem:=by
 rw[h.rem];unfold Rn.rem;rw[hh];rfl
theorem Ksx.sub {K w w' F E I M mv bl i m H b}(h:Ksx K w F E M mv bl i m H b I w'):∀ a∈H.R.rem,a∈m.R.rem:=fun a y=>by
 by_cases hh:m.R.held=[]
 ·exact h.whole hh▸y
 rw[h.tail hh];exact Og1 _ y
theorem Ktt.next {bj w w' F E bi I mv bl idx i m K b}(hM:Ktt I idx)(h:Ksx bj w F E I mv bl i m K b bi w')(hi:I[i]?=some m):Ktt (I.set i K) idx:=by
 have old:∀ (k:Nat) (mk:Mr),(I.set i K)[k]?=some mk->∃ H,I[k]?=some H/\mk.R.place=H.R.place/\∀ a∈mk.R.rem,a∈H.R.rem:=fun k mk y=>by
  rcases getElem?_set_cases y with⟨e,rfl⟩|⟨_,y⟩
  ·exact⟨m,e▸hi,h.place,h.sub⟩
  exact⟨mk,y,rfl,fun a U=>U⟩
 refine⟨hM.nd,fun k y=>?_,fun k l mk ml y hl M O hp a U bh hb=>?_,fun k l mk ml y hl M O br=>?_⟩
 ·obtain⟨H,bk⟩:=hM.ex k y;by_cases e:i=k
  ·exact⟨K,by rw[<-e,Oh0 (Ob9.1 hi).1]⟩
  exact⟨H,by rw[Od1 e];exact bk⟩
 ·obtain⟨H,ho,Z,s1⟩:=old k mk M;obtain⟨no,Y,bf,s2⟩:=old l ml O;exact hM.pl k l H no y hl ho Y (by rw[<-Z,<-bf];exact hp) a (s1 a U) bh (s2 bh hb)
 obtain⟨H,ho,Z,_⟩:=old k mk M;obtain⟨no,Y,bf,_⟩:=old l ml O;rw[Z,bf];exact hM.pd k l H no y hl ho Y br
structure Std (Ms:List Mr) (idx:List Nat) (n:Nat) (f:Nat->Nat):Prop where
 mg:Ktt Ms idx
 sep:∀ (i j:Nat) mi mj,Ms[i]?=some mi->Ms[j]?=some mj->i≠j->mi.rb≠mj.rb
 at_:∀ j,j<n->Kv4 Ms idx (f j)
 cov:∀ (i:Nat) m,i∈idx->Ms[i]?=some m->m.R.rem≠[]->m.R.held≠[]/\∃ j,j<n/\f j=m.rb
 inj:Inj n f
structure Mgg (c:Nat->Nat->Int) (all taken:List Nat) (Ms:List Mr) (idx:List Nat) (n:Nat) (f:Nat->Nat):Prop extends Std Ms idx n f where
 mrg:Mrg c all taken (Krz Ms idx)
 hp:Hp c n (fun j=>Ksf Ms (f j))
theorem Mgg.top {c}(ho:Ksg c){all bj H idx n f}(h:Mgg c all bj H idx n f)(bz:1<=n):
  ∃ k i m,idx[k]?=some i/\H[i]?=some m/\m.rb=f 0/\m.R.held≠[]/\∀ r,m.R.rem=m.R.held.headD 0::r->Mrg c all (bj++[m.R.held.headD 0]) ((Krz H idx).set k r):=by
 obtain⟨i,m,hi,M,hr,hh⟩:=h.at_ 0 bz;obtain⟨k,bi,bx⟩:=Od5 hi;have U:idx[k]?=some i:=by rw[Oa3 bi,bx]
 refine⟨k,i,m,U,M,hr,hh,fun r bD=>h.mrg.take ho (by rw[Ksr U M,bD]) fun j bk s bf bA=>?_⟩;have I:j<idx.length:=by have:=(Ob9.1 bf).1;unfold Krz at this;rw[Oa6]at this;exact this
 have bh:idx[j]?=some (idx[j]'(I)):=Oa3 I;obtain⟨K,O⟩:=h.mg.ex _ (Ob3 I);have y:=Ksr bh O;rw[bf]at y;have y:bk::s=K.R.rem:=Oj6 y;obtain⟨br,q,hq,Z⟩:=h.cov _ K (Ob3 I) O (by rw[<-y];simp);have bB:i≠idx[j]'(I):=fun e=>bA ((List.getElem?_inj bi h.mg.nd).1 (by rw[U,bh,e])).symm;have bC:0<q:=by
  rcases Oj2 q with e|e
  ·subst e;exact absurd (hr.trans Z) (h.sep i _ m K M O bB)
  exact e
 have Y:Lt c (Ksf H (f 0)) (Ksf H (f q)):=h.hp.min ho q bC hq;rw[<-hr,Z,Ksj h.sep M,Ksj h.sep O]at Y;have hy:K.R.held.headD 0=bk:=by
  unfold Rn.rem at y;cases hl:K.R.held with
  |nil=>exact absurd hl br
  |cons a l=>rw[hl]at y;simp at y;exact y.1.symm
 rw[hy]at Y;exact Y
theorem Mgg.done {c}(ho:Ksg c){all H I idx f}(h:Mgg c all H I idx 0 f):H=Ksi c all:=by
 refine h.mrg.done ho fun r hr=>?_;unfold Krz at hr;obtain⟨i,hi,rfl⟩:=Of0.1 hr;obtain⟨m,y⟩:=h.mg.ex i hi;rw[y];simp only[Option.map_some,Option.getD_some];by_cases e:m.R.rem=[]
 ·exact e
 obtain⟨_,j,K,_⟩:=h.cov i m hi y e;exact absurd K (Oe0 _)
theorem Arr.lt {n f g}(h:Arr 0 n f g):∃ p q:Nat->Nat,(∀ k,q (p k)=k)/\(∀ k,p (q k)=k)/\(∀ k,k<n->p k<n)/\(∀ k,k<n->q k<n)/\∀ k,g k=f (p k):=by
 obtain⟨p,q,H,I,K,O⟩:=h;have hp:∀ k,k<n->p k<n:=fun k U=>by
  rcases Oc1 (p k) n with e|e
  ·exact e
  have y:=K (p k) (.inr e);have M:=congrArg q y;rw[H,H]at M;omega
 refine⟨p,q,H,I,hp,fun k U=>?_,O⟩;rcases Oc1 (q k) n with e|e
 ·exact e
 have y:=K (q k) (.inr e);rw[I]at y;omega
theorem Std.arr {K idx n f M}(h:Std K idx n f)(H:Arr 0 n f M):Std K idx n M:=by
 obtain⟨p,q,O,U,hp,hq,y⟩:=H.lt;refine⟨h.mg,h.sep,fun j I=>by rw[y];exact h.at_ _ (hp j I),fun i m hi Y hr=>?_,fun a b H hb e=>?_⟩
 ·obtain⟨hh,j,I,e⟩:=h.cov i m hi Y hr;exact⟨hh,q j,hq j I,by rw[y,U];exact e⟩
 rw[y,y]at e;have:=congrArg q (h.inj _ _ (hp a H) (hp b hb) e);rw[O,O]at this;exact this
theorem Ktt.apart {I idx}(h:Ktt I idx){i j y H}(hi:i∈idx)(O:j∈idx)(K:I[i]?=some y)(M:I[j]?=some H)(Y:i≠j){a}(U:a∈y.R.rem)(hb:a∈H.R.rem):False:=by
 have hp:=h.pd i j y H hi O K M Y;rcases Nat.lt_or_gt_of_ne hp with e|e
 ·exact absurd (h.pl i j y H hi O K M e a U a hb) (Oe3 _)
 exact absurd (h.pl j i H y O hi M K e a hb a U) (Oe3 _)
theorem Std.keys {y idx n f}(h:Std y idx n f):Inj n (fun j=>Ksf y (f j)):=fun a b M hb e=>by
 obtain⟨i,m,hi,I,er,hh⟩:=h.at_ a M;obtain⟨Z,m2,Y,H,K,U⟩:=h.at_ b hb;have e:Ksf y (f a)=Ksf y (f b):=e;rw[<-er,<-K,Ksj h.sep I,Ksj h.sep H]at e;by_cases O:i=Z
 ·subst O;rw[I]at H;cases H
  exact h.inj a b M hb (er.symm.trans K)
 exact(h.mg.apart hi Y I H O (Kuy hh).2 (e▸(Kuy U).2)).elim
theorem Kus {y:List Mr}{i:Nat}{m I:Mr}(hs:∀ (i j:Nat) M H,y[i]?=some M->y[j]?=some H->i≠j->M.rb≠H.rb)(hi:y[i]?=some m)(bj:I.rb=m.rb):∀ (k j:Nat) mk H,(y.set i I)[k]?=some mk->(y.set i I)[j]?=some H->k≠j->mk.rb≠H.rb:=by
 have old:∀ (k:Nat) (mk:Mr),(y.set i I)[k]?=some mk->∃ O,y[k]?=some O/\mk.rb=O.rb:=fun k mk K=>by
  rcases getElem?_set_cases K with⟨e,rfl⟩|⟨_,K⟩
  ·exact⟨m,e▸hi,bj⟩
  exact⟨mk,K,rfl⟩
 intro k j mk H Z bf bi;obtain⟨a,bh,U⟩:=old k mk Z;obtain⟨b,hb,Y⟩:=old j H bf;rw[U,Y];exact hs k j a b bh hb bi
section
variable {K:SC} {w w':World} {F:Nat->Prop} {E E':DS} {Ms:List Mr} {mv:Value} {bl:Int} {idx:List Nat} {n i:Nat} {f:Nat->Nat} {m m':Mr}
theorem Std.next_yes (h:Std Ms idx n f)(y:Ksx K w F E Ms mv bl i m m' true E' w')(hi:Ms[i]?=some m)(U:i∈idx)(bf:1<=n)(h0:m.rb=f 0):Std (Ms.set i m') idx n f:=by
 have bh:(Ms.set i m')[i]?=some m':=Oh0 (Ob9.1 hi).1;refine⟨h.mg.next y hi,Kus h.sep hi y.rb,fun j Y=>?_,fun k mk Z I hr=>?_,h.inj⟩
 ·obtain⟨M,m2,O,H,er,hh⟩:=h.at_ j Y;by_cases e:i=M
  ·subst e;rw[hi]at H;cases H
   exact⟨i,m',U,bh,y.rb.trans er,y.yes rfl⟩
  exact⟨M,m2,O,by rw[Od1 e];exact H,er,hh⟩
 rcases getElem?_set_cases I with⟨_,rfl⟩|⟨_,I⟩
 ·exact⟨y.yes rfl,0,bf,(y.rb.trans h0).symm⟩
 exact h.cov k mk Z I hr
theorem Std.next_no (h:Std Ms idx (n+1) f)(U:Ksx K w F E Ms mv bl i m m' false E' w')(hi:Ms[i]?=some m)(h0:m.rb=f 0):Std (Ms.set i m') idx n (fun j=>if j=0 then f n else f j):=by
 have oth:∀ j,j<n+1->j≠0->Kv4 (Ms.set i m') idx (f j):=fun j H y=>by
  obtain⟨Y,m2,bh,O,er,hh⟩:=h.at_ j H;by_cases e:i=Y
  ·subst e;rw[hi]at O;cases O
   exact absurd (h.inj j 0 H zo (er.symm.trans h0)) y
  exact⟨Y,m2,bh,by rw[Od1 e];exact O,er,hh⟩
 refine⟨h.mg.next U hi,Kus h.sep hi U.rb,fun j H=>?_,fun k mk bj I hr=>?_,fun a b br hb e=>?_⟩
 ·show Kv4 _ _ (if j=0 then f n else f j);split
  ·exact oth n zo zo
  rename_i y
  exact oth j zo y
 ·rcases getElem?_set_cases I with⟨_,rfl⟩|⟨bk,I⟩
  ·exact absurd (U.no rfl) hr
  obtain⟨hh,j,H,e⟩:=h.cov k mk bj I hr;have y:j≠0:=fun bf=>by
   subst bf;exact h.sep i k m mk hi I (fun Z=>bk Z.symm) (h0.trans e)
  refine⟨hh,?_⟩;by_cases bi:j=n
  ·exact⟨0,zo,by rw[if_pos rfl,<-bi];exact e⟩
  exact⟨j,zo,by rw[if_neg y];exact e⟩
 have e:(if a=0 then f n else f a)=(if b=0 then f n else f b):=e;by_cases M:a=0
 ·by_cases eb:b=0
  ·omega
  rw[if_pos M,if_neg eb]at e;have:=h.inj n b zo zo e;omega
 by_cases eb:b=0
 ·rw[if_neg M,if_pos eb]at e;have:=h.inj a n zo zo e;omega
 rw[if_neg M,if_neg eb]at e;exact h.inj a b zo zo e
theorem Std.key_far (h:Std Ms idx n f)(I:m'.rb=m.rb)(hi:Ms[i]?=some m)(h0:m.rb=f 0){j}(U:0<j)(H:j<n):Ksf (Ms.set i m') (f j)=Ksf Ms (f j):=by
 obtain⟨M,m2,O,y,er,hh⟩:=h.at_ j H;have K:i≠M:=fun e=>by
  subst e;rw[hi]at y;cases y
  have:=h.inj j 0 H zo (er.symm.trans h0);omega
 rw[<-er,Ksj h.sep y,Ksj (Kus h.sep hi I) (by rw[Od1 K];exact y)]
end
theorem Ktt.sub {K idx M}(h:Ktt K idx)(hs:M.Sublist idx):Ktt K M:=
 ⟨h.nd.sublist hs,fun i hi=>h.ex i (hs.subset hi),fun i j H I hi y=>h.pl i j H I (hs.subset hi) (hs.subset y),fun i j H I hi y=>h.pd i j H I (hs.subset hi) (hs.subset y)⟩
theorem Ksx.stands {K w w' F E I M mv bl i m H b}(y:Ksx K w F E M mv bl i m H b I w')(hh:m.R.held=[])(hr:m.R.rem≠[]):H.R.held≠[]:=by
 cases b with
 |true=>exact y.yes rfl
 |false=>exact absurd ((y.whole hh).symm.trans (y.no rfl)) hr
section
variable {K:SC} {w w':World} {F:Nat->Prop} {E E':DS} {Ms:List Mr} {mv:Value} {bl:Int} {idx:List Nat} {k i:Nat} {f:Nat->Nat} {m m':Mr} {b:Bool}
theorem Qae (K:idx.Nodup)(y:idx[k]?=some i):i∉idx.take k:=fun hi=>by
 obtain⟨j,H,e⟩:=Od5 hi;have M:j<k:=by rw[Oc7]at H;omega
 have I:=(Ob9.1 y).1;rw[List.getElem_take]at e;have:=(List.getElem?_inj I K).1 (show idx[k]?=idx[j]? by rw[y,Oa3 zo,e]);omega
theorem Std.oth (h:Std Ms (idx.take k) k f)(O:idx.Nodup)(I:idx[k]?=some i){j}(K:j<k):∃ y m2,y∈idx.take k/\i≠y/\Ms[y]?=some m2/\m2.rb=f j/\m2.R.held≠[]:=by
 obtain⟨y,m2,H,M,er,hh⟩:=h.at_ j K;exact⟨y,m2,H,fun e=>Qae O I (e▸H),M,er,hh⟩
theorem Std.push (h:Std Ms (idx.take k) k f)(hM:Ktt Ms idx)(y:Ksx K w F E Ms mv bl i m m' b E' w')(H:idx[k]?=some i)(hi:Ms[i]?=some m)(hh:m.R.held=[])(hr:m.R.rem≠[]):Std (Ms.set i m') (idx.take (k+1)) (k+1) (fun j=>if j=k then m.rb else f j):=by
 have bA:(Ms.set i m')[i]?=some m':=Oh0 (Ob9.1 hi).1;have bG:=(Ob9.1 H).1;have bk:i∈idx.take (k+1):=Of6 (i:=k) (by rw[Oh3 zo];exact H);have br:∀ x,x∈idx.take k->x∈idx.take (k+1):=fun x bB=>by rw[Oi7];exact List.mem_append_left _ bB
 refine⟨(hM.next y hi).sub (List.take_sublist _ _),Kus h.sep hi y.rb,fun j Y=>?_,fun q bC hq bf bz=>?_,fun a c bD bE e=>?_⟩
 ·show Kv4 _ _ (if j=k then m.rb else f j);split
  ·exact⟨i,m',bk,bA,y.rb,y.stands hh hr⟩
  obtain⟨O,m2,bj,I,Z,er,bh⟩:=h.oth hM.nd H (j:=j) zo;exact⟨O,m2,br O bj,by rw[Od1 I];exact Z,er,bh⟩
 ·rcases getElem?_set_cases bf with⟨_,rfl⟩|⟨I,bf⟩
  ·exact⟨y.stands hh hr,k,zo,by rw[if_pos rfl];exact y.rb.symm⟩
  have bx:q∈idx.take k:=by
   rw[Oi7,H]at hq;rcases Od2.1 hq with hq|hq
   ·exact hq
   ·simp at hq;exact absurd hq I
  obtain⟨bi,j,Y,e⟩:=h.cov q bC bx bf bz;exact⟨bi,j,zo,by rw[if_neg zo];exact e⟩
 have far:∀ j,j<k->m.rb≠f j:=fun j Y e=>by
  obtain⟨O,m2,_,I,Z,er,_⟩:=h.oth hM.nd H Y;exact h.sep i O m m2 hi Z I (e.trans er.symm)
 have e:(if a=k then m.rb else f a)=(if c=k then m.rb else f c):=e;by_cases U:a=k
 ·by_cases M:c=k
  ·omega
  rw[if_pos U,if_neg M]at e;exact absurd e (far c zo)
 by_cases M:c=k
 ·rw[if_neg U,if_pos M]at e;exact absurd e.symm (far a zo)
 rw[if_neg U,if_neg M]at e;exact h.inj a c zo zo e
theorem Std.key_old (h:Std Ms (idx.take k) k f)(K:idx.Nodup)(O:m'.rb=m.rb)(H:idx[k]?=some i)(hi:Ms[i]?=some m){j}(I:j<k):Ksf (Ms.set i m') (f j)=Ksf Ms (f j):=by
 obtain⟨U,m2,_,M,y,er,_⟩:=h.oth K H I;rw[<-er,Ksj h.sep y,Ksj (Kus h.sep hi O) (by rw[Od1 M];exact y)]
end
theorem Std.nil {y idx f}(hM:Ktt y idx)(hs:∀ (i j:Nat) H I,y[i]?=some H->y[j]?=some I->i≠j->H.rb≠I.rb):Std y (idx.take 0) 0 f:=
 ⟨hM.sub (List.take_sublist _ _),hs,fun j M=>absurd M (Oe0 _),fun i m hi=>by simp at hi,fun a _ K=>absurd K (Oe0 _)⟩
section
variable {Ms Ms':List Mr} {idx:List Nat}
theorem Ktt.same (h:Ktt Ms idx)(hs:∀ i∈idx,Ms'[i]?=Ms[i]?):Ktt Ms' idx:=
 ⟨h.nd,fun i hi=>by rw[hs i hi];exact h.ex i hi,fun i j K M hi y H I=>h.pl i j K M hi y (by rw[<-hs i hi];exact H) (by rw[<-hs j y];exact I),fun i j K M hi y H I=>h.pd i j K M hi y (by rw[<-hs i hi];exact H) (by rw[<-hs j y];exact I)⟩
theorem Kvc (hs:∀ i∈idx,Ms'[i]?=Ms[i]?):Krz Ms' idx=Krz Ms idx:=by
 unfold Krz;exact Oj9 fun i hi=>by rw[hs i hi]
theorem Kv5 (hs:∀ i∈idx,Ms'[i]?=Ms[i]?)(K:∀ (i j:Nat) y H,Ms[i]?=some y->Ms[j]?=some H->i≠j->y.rb≠H.rb)(M:∀ (i j:Nat) y H,Ms'[i]?=some y->Ms'[j]?=some H->i≠j->y.rb≠H.rb){r}(hr:Kv4 Ms idx r):Ksf Ms' r=Ksf Ms r:=by
 obtain⟨i,m,hi,I,rfl,_⟩:=hr;rw[Ksj K I,Ksj M (by rw[hs i hi];exact I)]
theorem Std.same {n f}(h:Std Ms idx n f)(hs:∀ i∈idx,Ms'[i]?=Ms[i]?)(K:∀ (i j:Nat) H I,Ms'[i]?=some H->Ms'[j]?=some I->i≠j->H.rb≠I.rb):Std Ms' idx n f:=
 ⟨h.mg.same hs,K,fun j M=>by
  obtain⟨i,m,hi,y,e⟩:=h.at_ j M;exact⟨i,m,hi,by rw[hs i hi];exact y,e⟩,fun i m hi y=>h.cov i m hi (by rw[<-hs i hi];exact y),h.inj⟩
theorem Mgg.same {c all M n f}(h:Mgg c all M Ms idx n f)(hs:∀ i∈idx,Ms'[i]?=Ms[i]?)(y:∀ (i j:Nat) I K,Ms'[i]?=some I->Ms'[j]?=some K->i≠j->I.rb≠K.rb):Mgg c all M Ms' idx n f:=
 ⟨h.toStd.same hs y,by rw[Kvc hs];exact h.mrg,fun j h0 H=>by
  show Lt c (Ksf Ms' (f ((j-1) / 2))) (Ksf Ms' (f j));rw[Kv5 hs h.sep y (h.at_ j H),Kv5 hs h.sep y (h.at_ _ zo)];exact h.hp j h0 H⟩
end
theorem Mgg.start {c all y idx f}(h:Std y (idx.take idx.length) idx.length f)(hp:Hp c idx.length (fun j=>Ksf y (f j)))(H:(Krz y idx).flatten.Perm all)(hr:∀ r∈Krz y idx,r.Pairwise (Lt c)):Mgg c all [] y idx idx.length f:=by
 rw[Of2]at h;exact⟨h,Mrg.start H hr,hp⟩
section
variable {c:Nat->Nat->Int} {K:SC} {w w':World} {F:Nat->Prop} {E E':DS} {Ms:List Mr} {mv:Value} {bl:Int} {idx all taken:List Nat} {n k i:Nat} {f f':Nat->Nat} {m m':Mr}
theorem Mgg.yes (h:Mgg c all taken Ms idx n f)(M:1<=n)(y:idx[k]?=some i)(hi:Ms[i]?=some m)(h0:m.rb=f 0)(hh:m.R.held≠[])(H:Ksx K w F E Ms mv bl i m m' true E' w')(ht:∀ r,m.R.rem=m.R.held.headD 0::r->Mrg c all (taken++[m.R.held.headD 0]) ((Krz Ms idx).set k r))(I:Arr 0 n f f')(hp:Hp c n (fun j=>Ksf (Ms.set i m') (f' j))):Mgg c all (taken++[m.R.held.headD 0]) (Ms.set i m') idx n f':=
 ⟨(h.toStd.next_yes H hi (Of6 y) M h0).arr I,by rw[Ktp h.mg.nd y hi];exact ht _ (H.tail hh),hp⟩
theorem Mgg.no (h:Mgg c all taken Ms idx (n+1) f)(I:idx[k]?=some i)(hi:Ms[i]?=some m)(h0:m.rb=f 0)(hh:m.R.held≠[])(y:Ksx K w F E Ms mv bl i m m' false E' w')(ht:∀ r,m.R.rem=m.R.held.headD 0::r->Mrg c all (taken++[m.R.held.headD 0]) ((Krz Ms idx).set k r))(H:Arr 0 n (fun j=>if j=0 then f n else f j) f')(hp:Hp c n (fun j=>Ksf (Ms.set i m') (f' j))):Mgg c all (taken++[m.R.held.headD 0]) (Ms.set i m') idx n f':=
 ⟨(h.toStd.next_no y hi h0).arr H,by rw[Ktp h.mg.nd I hi];exact ht _ (y.tail hh),hp⟩
end
end
section
open Go.RowKit Go.Shelf Tryz
abbrev TkQ:=List Nat->(Nat->Prop)->World->(Nat->Prop)->DS->List Mr->Prop
structure Kyz (K:SC) (mv:Value) (bl:Int) (idx:List Nat) (T:Nat->Prop) (W:World) (F:Nat->Prop) (Ms:List Mr) (T':Nat->Prop) (W':World) (F':Nat->Prop) (E':DS) (Ms':List Mr):Prop where
 keep:Ju (fun k=>F k\/T k) W W'
 si:SI K W' F' E' Ms' mv bl
 ffr:∀ k,F' k->F k\/W.heap.size<=k
 tfr:∀ k,T' k->T k\/W.heap.size<=k
 same:∀ i∈idx,Ms'[i]?=Ms[i]?
 rbs:Ms'.map (·.rb)=Ms.map (·.rb)
 new:∀ (i:Nat) m',Ms'[i]?=some m'->∃ m,Ms[i]?=some m/\∀ k,m'.N k->m.N k\/W.heap.size<=k
structure Qb4 (K:SC) (mv:Value) (bl:Int) (idx:List Nat) (fn tot lim:Nat) (caps:Array Value) (Q:TkQ):Prop where
 si:∀ {t T W F E Ms},Q t T W F E Ms->SI K W F E Ms mv bl
 lt:∀ {t T W F E Ms},Q t T W F E Ms->∀ k,T k->k<W.heap.size
 off:∀ {t T W F E Ms},Q t T W F E Ms->¬ T K.sb/\(∀ g,mv.ownBlock=some g->¬ T g)/\(∀ k,F k->¬ T k)/\∀ i m,i∈idx->Ms[i]?=some m->¬ T m.rb/\∀ k,m.N k->¬ T k
 next:∀ {t T W F E Ms i m m' b E' W'},Q t T W F E Ms->i∈idx->Ms[i]?=some m->Ksx K W F E Ms mv bl i m m' b E' W'->Q t T W' F E' (Ms.set i m')
 keep:∀ {t T W F E Ms G W'},Q t T W F E Ms->Ju G W W'->(∀ k,G k->K.w0.heap.size<=k)->¬ G K.sb->(∀ g,mv.ownBlock=some g->¬ G g)->(∀ k,F k->¬ G k)->(∀ m∈Ms,¬ G m.rb/\∀ k,m.N k->¬ G k)->(∀ k,T k->¬ G k)->Q t T W' F E Ms
 take:∀ {t T W F E Ms x cb cp hs},Q t T W F E Ms->t.length<tot->x<nR K.cs->Qd W cb hs (Jba [x] K.cs)->Jbo cb hs K.cs.length (fun b=>b<W.heap.size/\¬ (F b\/T b)) ->
  Calls prog fn (#[.slice (some ⟨cb,0,none⟩) K.cs.length cp]++caps) W fun e W'=>∃ T' F' E' Ms',Kyz K mv bl idx T W F Ms T' W' F' E' Ms' /\
   ((e=.returned .nilIface/\Q (t++[x]) T' W' F' E' Ms')\/∃ y b,e=.returned (.iface 158 (.pointer (some ⟨b,0,none⟩)))/\Yu W' (.iface 158 (.pointer (some ⟨b,0,none⟩))) (if y=true then K.q else K.qw) none (some (-1))/\W.heap.size<=b/\¬ F' b/\Ks1 K.D0 y/\dz E'<=lim)
theorem Kvt {y:List Mr}{i:Nat}{m H:Mr}(hi:y[i]?=some m)(I:H.rb=m.rb):(y.set i H).map (·.rb)=y.map (·.rb):=by
 refine Oi8 fun k=>?_;rw[Ob1,Ob1];by_cases e:i=k
 ·subst e;rw[Oh0 (Ob9.1 hi).1,hi];simp[I]
 rw[Od1 e]
end
open Go.RowKit Go.Shelf
theorem Kxk:∀ (bs:List Bk),(∀ b∈bs,1<=b.ids.length)->bs.length<=(bs.flatMap (·.ids)).length
 |[],_=>Oa2 _
 |b::bs,h=>by
  have H:=Kxk bs fun x y=>h x (Og1 _ y);have I:=h b Of4;rw[Og7,Oa8,List.length_cons];omega
structure Bx (K:SC) (W:World) (F:Nat->Prop) (Ms:List Mr) (mv:Value) (b:Nat) (v:Value):Prop where
 cell:W.cell? ⟨b,0,none⟩=some v
 sb:b≠K.sb
 mv:mv.ownBlock≠some b
 nf:¬ F b
 ms:∀ m∈Ms,m.rb≠b/\¬ m.N b
def NrT (b1 b2:Nat)(m:Mr):Nat->Prop:=fun k=>k=b1\/k=b2\/k=m.rb\/m.ab=some k
structure NrI (K:SC) (mv:Value) (z j rb0 b1 b2 pb tot lim:Nat) (idx:List Nat) (Ms0:List Mr) (p0:Nat) (t:List Nat) (T:Nat->Prop) (W:World) (F:Nat->Prop) (E:DS) (Ms:List Mr) (m:Mr):Prop where
 sw:SW K W F E Ms mv (z:Int) j m
 rb:m.rb=rb0
 pl:m.R.place=p0
 ids:m.R.bs.flatMap (·.ids)=t
 own:T=NrT b1 b2 m
 x1:Bx K W F Ms mv b1 (.pointer (some ⟨K.sb,0,none⟩))
 x2:Bx K W F Ms mv b2 (.pointer (some ⟨rb0,0,none⟩))
 pgs:dz E+pb*(tot-t.length)<=lim
 oth:∀ i,i∉idx->i≠j->Ms[i]?=Ms0[i]?
def NrQ (y:SC)(mv:Value)(z j O b1 b2 M U lim:Nat)(idx:List Nat)(I:List Mr)(K:Nat):TkQ:=fun t T W F E H=>∃ m,NrI y mv z j O b1 b2 M U lim idx I K t T W F E H m
theorem Kt1 {y:List Mr}{i:Nat}{m I x:Mr}(hi:y[i]?=some m)(U:I.rb=m.rb){S:Nat}(M:∀ k,I.N k->m.N k\/S<=k)(H:x∈y.set i I):∃ K∈y,x.rb=K.rb/\∀ k,x.N k->K.N k\/S<=k:=by
 rcases List.mem_or_eq_of_mem_set H with H|rfl
 ·exact⟨x,H,rfl,fun k O=>.inl O⟩
 exact⟨m,Of6 hi,U,M⟩
theorem Bx.turn {I W O F H G K M mv v b}(h:Bx I W F K mv b v)(bf:Ju G W O)(U:¬ G b)(hF:∀ k,H k->F k\/W.heap.size<=k)(hM:∀ x∈M,∃ y∈K,x.rb=y.rb/\∀ k,x.N k->y.N k\/W.heap.size<=k):Bx I O H M mv b v:=by
 have hl:b<W.heap.size:=Jb0 h.cell;refine⟨(Oc3 (bf.block b hl U)).trans h.cell,h.sb,h.mv,fun Z=>(hF b Z).elim h.nf fun e=>zo,fun x bi=>?_⟩;obtain⟨y,hy,e,Y⟩:=hM x bi;exact⟨by rw[e];exact(h.ms y hy).1,fun bh=>(Y b bh).elim (h.ms y hy).2 fun e=>zo⟩
theorem NrQ.ok U(hK:SK U)mv(z j cA b1 b2 K Z lim:Nat)(cE:lim<=930000)idx bS(cz:Nat)(bQ:1<=z)(cx:z<=64)(bf:j∉idx)(htot:Z<=100000)(cn:∀ x,x<nR U.cs->(Qu (Kr6 U.ts (Jba [x] U.cs) U.ts.length)).length<=K):Qb4 U mv (z:Int) idx 244 Z lim #[.pointer (some ⟨b1,0,none⟩),.pointer (some ⟨b2,0,none⟩)] (NrQ U mv z j cA b1 b2 K Z lim idx bS cz):=by
 refine⟨fun ⟨m,h⟩=>h.sw.si,fun ⟨m,h⟩ k y=>?_,fun ⟨m,h⟩=>?_,fun ⟨cy,h⟩ hi Y H=>?_,fun ⟨m,h⟩ y g1 g2 bU bV bW bJ=>?_,fun {t T W F E bB x bT cp hs} ⟨m,h⟩ ht I hC bL=>?_⟩
 ·rw[h.own]at y;rcases y with rfl|rfl|rfl|y
  ·exact Jb0 h.x1.cell
  ·exact Jb0 h.x2.cell
  ·exact Jd (h.sw.si.runs m (Of6 h.sw.at_)).1.cells
  exact(h.sw.abN y).2
 ·have Y:=h.sw.si.runs m (Of6 h.sw.at_);have ho:=h.sw.si.off m (Of6 h.sw.at_);rw[h.own];refine⟨?_,fun g bz=>?_,fun k bx=>?_,fun i O hi M=>⟨?_,fun k H=>?_⟩⟩
  ·rintro(e|e|e|e)
   ·exact h.x1.sb e.symm
   ·exact h.x2.sb e.symm
   ·exact ho.sb e.symm
   exact ho.nsb (h.sw.abN e).1
  ·rintro(e|e|e|e)
   ·exact h.x1.mv (e▸bz)
   ·exact h.x2.mv (e▸bz)
   ·exact ho.made (e▸bz)
   exact ho.nmade g bz (h.sw.abN e).1
  ·rintro(e|e|e|e)
   ·exact h.x1.nf (e▸bx)
   ·exact h.x2.nf (e▸bx)
   ·exact Y.2.1 (e▸bx)
   exact Y.2.2 k (h.sw.abN e).1 bx
  ·have bj:j≠i:=fun e=>bf (e▸hi);have bi:=Of6 M;rintro(e|e|e|e)
   ·exact(h.x1.ms O bi).1 e
   ·exact(h.x2.ms O bi).1 e
   ·exact(h.sw.si.sep j i m O h.sw.at_ M bj).1 e.symm
   exact(h.sw.si.sep j i m O h.sw.at_ M bj).2 (h.sw.abN e).1
  have bj:j≠i:=fun e=>bf (e▸hi);have bi:=Of6 M;rintro(e|e|e|e)
  ·exact(h.x1.ms O bi).2 (e▸H)
  ·exact(h.x2.ms O bi).2 (e▸H)
  ·exact(h.sw.si.sep i j O m M h.sw.at_ fun bC=>bj bC.symm).2 (e▸H)
  exact h.sw.arr k e i O M (fun bC=>bj bC.symm) H
 ·have bh:=Of6 Y;exact⟨cy,h.sw.next H Y (fun e=>bf (e▸hi)),h.rb,h.pl,h.ids,h.own,h.x1.turn H.keep (fun e=>e.elim h.x1.nf fun e=>(h.x1.ms _ bh).1 e.symm) (fun k y=>.inl y) (fun x I=>Kt1 Y H.rb H.new I),h.x2.turn H.keep (fun e=>e.elim h.x2.nf fun e=>(h.x2.ms _ bh).1 e.symm) (fun k y=>.inl y) (fun x I=>Kt1 Y H.rb H.new I),by rw[H.pgs];exact h.pgs,fun a bk br=>(Od1 (fun e=>bk (by rw[<-e];exact hi))).trans (h.oth a bk br)⟩
 ·exact⟨m,h.sw.keep y g1 g2 bU bV bW,h.rb,h.pl,h.ids,h.own,h.x1.turn y (bJ b1 (by rw[h.own];exact .inl rfl)) (fun k y=>.inl y) (fun x I=>⟨x,I,rfl,fun k y=>.inl y⟩),h.x2.turn y (bJ b2 (by rw[h.own];exact .inr (.inl rfl))) (fun k y=>.inl y) (fun x I=>⟨x,I,rfl,fun k y=>.inl y⟩),h.pgs,h.oth⟩
 have bh:=Of6 h.sw.at_;have cc:ckN 1 z<=1:=Kg4 _ _ bQ;have cF:K*ckN 1 z<=K:=Ob2 (Nat.mul_le_mul_left K cc) (Oo0 (Nat.mul_one _));have cH:K*(Z-t.length)=K*(Z-(t.length+1))+K:=by
  rw[show Z-t.length=(Z-(t.length+1))+1 by omega,Nat.mul_add,Nat.mul_one]
 have cG:=h.pgs;have bY:m.R.bs.length<=100000:=by
  have:=Kxk m.R.bs fun b hb=>(h.sw.si.blks m bh b hb).2.1.1;rw[h.ids]at this;omega
 have mono:∀ b,(b<W.heap.size/\¬ (F b\/T b))->b<W.heap.size/\¬ (F b\/b=m.rb\/m.ab=some b):=fun b hb=>⟨hb.1,fun e=>hb.2 (e.imp id fun e=>by rw[h.own];exact .inr (.inr e))⟩;have ca:=Kv8 U hK W F E bB mv z j m bT cp hs [x] h.sw bQ cx hC ⟨mono _ bL.1,fun j bf b o e=>mono b (bL.2 j bf b o e)⟩ (fun t ht=>by rw[Oc6.1 ht];exact I) (Oa2 _) zS bY K (fun ch bZ cD _ bK=>by
  obtain⟨a,rfl⟩:∃ a,ch=[a]:=List.length_eq_one_iff.1 (by have bK:ch.length<=1:=bK;omega);exact cn a (bZ a (Oc6.2 rfl))) (by show dz E+K*ckN 1 z<=930000;omega) b1 b2 h.x1.cell (by rw[h.rb];exact h.x2.cell)
 refine Calls.mono ca fun e cC hp=>?_;obtain⟨bG,bR,bI,bH,bP,bA,cu,bE,bN,bX,bO,cf⟩:=hp;have bO:dz bI<=dz E+K*ckN 1 z:=bO;have bM:=fun x I=>Kt1 (S:=W.heap.size) (x:=x) h.sw.at_ bA bN I;have nb:∀ b v,Bx U W F bB mv b v->¬ (F b\/b=m.rb\/m.ab=some b):=fun b v hb e=>by
  rcases e with e|e|e
  ·exact hb.nf e
  ·exact(hb.ms m bh).1 e.symm
  exact(hb.ms m bh).2 (h.sw.abN e).1
 refine⟨NrT b1 b2 bH,bR,bI,bB.set j bH,⟨bG.mono fun k _ y=>y.imp id fun e=>by rw[h.own];exact .inr (.inr e),bP.si,bE,fun k y=>?_,fun i hi=>Od1 (fun e:j=i=>bf (e▸hi)),Kvt h.sw.at_ bA,fun i O M=>?_⟩,?_⟩
 ·rw[h.own];rcases y with e|e|e|e
  ·exact .inl (.inl e)
  ·exact .inl (.inr (.inl e))
  ·exact .inl (.inr (.inr (.inl (e.trans bA))))
  exact(bX k e).imp (fun e=>.inr (.inr (.inr e))) id
 ·rcases getElem?_set_cases M with⟨e,rfl⟩|⟨_,M⟩
  ·exact⟨m,e▸h.sw.at_,bN⟩
  exact⟨O,M,fun k y=>.inl y⟩
 rcases cf with⟨bD,ci⟩|⟨cB,b,bD,cb,hb,cj,_,cv⟩
 ·exact .inl ⟨bD,bH,bP,bA.trans h.rb,cu.trans h.pl,by rw[ci,h.ids],rfl,h.x1.turn bG (nb _ _ h.x1) bE bM,h.x2.turn bG (nb _ _ h.x2) bE bM,by rw[Oa8,List.length_singleton];omega,fun a bk br=>(Od1 (fun e=>br e.symm)).trans (h.oth a bk br)⟩
 exact .inr ⟨cB,b,bD,cb,hb,cj,cv,zo⟩
structure NoS (K:SC) (W:World) (F:Nat->Prop) (Ms:List Mr) (mv:Value) (b:Nat):Prop where
 lt:b<W.heap.size
 lo:K.w0.heap.size<=b
 sb:b≠K.sb
 mv:mv.ownBlock≠some b
 nf:¬ F b
 ms:∀ m∈Ms,m.rb≠b/\¬ m.N b
theorem NoS.turn {H W M F I K mv b}(h:NoS H W F I mv b)(hs:W.heap.size<=M.heap.size)(hM:∀ x∈K,∃ y∈I,x.rb=y.rb/\∀ k,x.N k->y.N k\/W.heap.size<=k):NoS H M F K mv b:=by
 have hl:=h.lt;refine⟨Oc2 hl hs,h.lo,h.sb,h.mv,h.nf,fun x Y=>?_⟩;obtain⟨y,hy,e,O⟩:=hM x Y;exact⟨by rw[e];exact(h.ms y hy).1,fun U=>(O b U).elim (h.ms y hy).2 fun e=>zo⟩
theorem SI.noS {y W I F E H mv bl}(h:SI y W F E H mv bl){b}(hb:W.heap.size<=b)(hl:b<I.heap.size):NoS y I F H mv b:=by
 have M:=Jd h.st;refine⟨hl,Ob2 h.old.size hb,zo,fun e=>?_,fun e=>?_,fun m K=>⟨fun e=>?_,fun e=>?_⟩⟩
 ·have:=Qk h.own e;omega
 ·have:=h.flt b e;omega
 ·have:=Jd (h.runs m K).1.cells;omega
 have:=(h.runs m K).1.lt b e;omega
def SrT (n ob g:Nat)(y:List Value):Nat->Prop:=fun k=>k=ob\/k=g\/∃ j,j<n/\(Uq y j).ownBlock=some k
structure SrI (K:SC) (mv:Value) (bl:Int) (ob g cap lim:Nat) (t:List Nat) (T:Nat->Prop) (W:World) (F:Nat->Prop) (E:DS) (Ms:List Mr) (svs:List Value):Prop where
 si:SI K W F E Ms mv bl
 col:Jar W K.w0.heap.size g svs (Jba t K.cs)
 box:W.cell? ⟨ob,0,none⟩=some (.slice (some ⟨g,0,none⟩) K.cs.length cap)
 own:T=SrT K.cs.length ob g svs
 no:∀ k,T k->NoS K W F Ms mv k
 ob:ob≠g/\∀ j,j<K.cs.length->(Uq svs j).ownBlock≠some ob
 pgs:dz E<=lim
def SrQ (y:SC)(mv:Value)(bl:Int)(ob g cap lim:Nat):TkQ:=fun t T W F E H=>∃ I,SrI y mv bl ob g cap lim t T W F E H I
theorem Jar.on {w w' B g y cs}(h:Jar w B g y cs)(H:∀ k,(k=g\/∃ j,j<cs.length/\(Uq y j).ownBlock=some k)->w'.heap[k]?=w.heap[k]?):Jar w' B g y cs:=
 ⟨h.row.of_block (H g (.inl rfl)),h.low,h.len,fun i hi=>Jl (h.own i hi) fun b hb=>H b (.inr ⟨i,hi,hb⟩),h.ne,h.apart⟩
theorem SrI.on {K mv bl ob g cap lim t T W y F E I O M Z}(h:SrI K mv bl ob g cap lim t T W F E O Z)(bi:dz I<=lim)(hs:SI K y F I M mv bl){G}(Y:Ju G W y)(bh:∀ k,T k->¬ G k)(hM:∀ x∈M,∃ bf∈O,x.rb=bf.rb/\∀ k,x.N k->bf.N k\/W.heap.size<=k):SrI K mv bl ob g cap lim t T y F I M Z:=by
 have same:∀ k,T k->y.heap[k]?=W.heap[k]?:=fun k H=>Y.block k (h.no k H).lt (bh k H);refine⟨hs,h.col.on fun k bj=>same k ?_,(Oc3 (same ob ?_)).trans h.box,h.own,fun k H=>(h.no k H).turn Y.size hM,h.ob,bi⟩
 ·rw[h.own];rcases bj with e|⟨j,U,e⟩
  ·exact .inr (.inl e)
  exact .inr (.inr ⟨j,by rw[Krw]at U;exact U,e⟩)
 rw[h.own];exact .inl rfl
theorem SrQ.ok U(hK:SK U)mv bl ob g cap bI lim idx(htot:bI<=100000):Qb4 U mv bl idx 159 bI lim #[.pointer (some ⟨ob,0,none⟩)] (SrQ U mv bl ob g cap lim):=by
 refine⟨fun ⟨_,h⟩=>h.si,fun ⟨_,h⟩ k y=>(h.no k y).lt,fun ⟨_,h⟩=>⟨fun e=>(h.no _ e).sb rfl,fun g bA e=>(h.no _ e).mv bA,fun k bz e=>(h.no _ e).nf bz,fun i m _ O=>⟨fun e=>((h.no _ e).ms m (Of6 O)).1 rfl,fun k M e=>((h.no _ e).ms m (Of6 O)).2 M⟩⟩,fun ⟨Y,h⟩ _ O M=>⟨Y,h.on (by rw[M.pgs];exact h.pgs) M.si M.keep (fun k H e=>e.elim (h.no k H).nf fun e=>((h.no k H).ms _ (Of6 O)).1 e.symm) fun x Z=>Kt1 O M.rb M.new Z⟩,fun ⟨Y,h⟩ y g1 g2 bM bN bO bP=>⟨Y,h.on h.pgs (h.si.keep y g1 g2 bM bN bO) y bP fun x Z=>⟨x,Z,rfl,fun k y=>.inl y⟩⟩,fun {t T W F E bi x bL cp hs} ⟨Y,h⟩ ht _ hC bf=>?_⟩;have H:∀ k,(k=g\/∃ j,j<U.cs.length/\(Uq Y j).ownBlock=some k)->T k:=fun k y=>by rw[h.own];exact .inr y
 have bR:=Kx2 U W U.w0.heap.size g cap Y t [x] bL cp ob hs h.box h.col hC hK.sg.good.few (by rw[List.length_singleton];omega) h.si.old.size (fun j b I e=>⟨fun K=>bf.1.2 (.inr (K▸H b (.inr ⟨j,I,e⟩))),fun k bj bD y bk K=>(bf.2 k y bj bD bk).2 (.inr (K▸H b (.inr ⟨j,I,e⟩)))⟩) ⟨fun K=>bf.1.2 (.inr (K▸H g (.inl rfl))),fun k bj bD y bk K=>(bf.2 k y bj bD bk).2 (.inr (K▸H g (.inl rfl)))⟩;refine Calls.mono bR fun e bK hp=>?_;obtain⟨bS,⟨bH,bE,bC⟩,bx,bh,bQ⟩:=hp;have bB:Ju (fun k=>k=g\/∃ j,j<U.cs.length/\(Uq Y j).ownBlock=some k) W bK:=⟨bx.os,bx.tape,bx.output,bh,fun k y M=>bQ k y (fun e=>M (.inl e)) fun j I e=>M (.inr ⟨j,I,e⟩)⟩;have bG:=h.si.keep bB (fun k y=>(h.no k (H k y)).lo) (fun e=>(h.no _ (H _ e)).sb rfl) (fun g bA e=>(h.no _ (H _ e)).mv bA) (fun k bz e=>(h.no _ (H _ e)).nf bz) (fun m O=>⟨fun e=>((h.no _ (H _ e)).ms m O).1 rfl,fun k M e=>((h.no _ (H _ e)).ms m O).2 M⟩);have br:T ob:=by rw[h.own];exact .inl rfl
 have bT:=(h.no ob br).lt;refine⟨SrT U.cs.length ob g bH,F,E,bi,⟨bB.mono fun k _ y=>.inr (H k y),bG,fun k y=>.inl y,fun k y=>?_,fun i _=>rfl,rfl,fun i m O=>⟨m,O,fun k y=>.inl y⟩⟩,.inl ⟨bS,bH,bG,bE,?_,rfl,fun k y=>?_,⟨h.ob.1,fun j I e=>?_⟩,h.pgs⟩⟩
 ·rcases y with e|e|⟨j,I,e⟩
  ·exact .inl (e▸br)
  ·exact .inl (H k (.inl e))
  exact(bC j k I e).imp (fun e=>H k (.inr ⟨j,I,e⟩)) id
 ·exact(Oc3 (bB.block ob bT fun e=>e.elim h.ob.1 fun ⟨j,I,e⟩=>h.ob.2 j I e)).trans h.box
 ·have same:=fun (x:Mr) (Z:x∈bi)=>(⟨x,Z,rfl,fun k y=>.inl y⟩:∃ bJ∈bi,x.rb=bJ.rb/\∀ k,x.N k->bJ.N k\/W.heap.size<=k);rcases y with e|e|⟨j,I,e⟩
  ·exact(h.no k (e▸br)).turn bh same
  ·exact(h.no k (H k (.inl e))).turn bh same
  rcases bC j k I e with K|K
  ·exact(h.no k (H k (.inr ⟨j,I,K⟩))).turn bh same
  exact h.si.noS K (Je (bE.own j (by rw[Krw];exact I)) e).2
 rcases bC j ob I e with K|K
 ·exact h.ob.2 j I K
 omega
def HpO (y:SC)(W:World)(F:Nat->Prop)(H:List Mr)(mv:Value)(T:Nat->Prop)(hb:Nat):Prop:=∀ k,HpF W hb k->NoS y W F H mv k/\¬ T k
theorem HpF.back {W y hb k}(e:y.heap[hb]?=W.heap[hb]?)(h:HpF y hb k):HpF W hb k:=by
 unfold HpF at h |-;rw[Oc3 e]at h;exact h
theorem HpP.on {W y hb sb n f}(h:HpP W hb sb n f)(hs:W.heap.size<=y.heap.size)(I:∀ k,HpF W hb k->y.heap[k]?=W.heap[k]?):HpP y hb sb n f:=by
 rcases h with⟨e,h⟩|⟨H,cap,h⟩
 ·exact .inl ⟨e,(I hb (.inl rfl)).trans h⟩
 exact .inr ⟨H,cap,h.on hs (I hb (.inl rfl)) (I H ((h.foot H).2 (.inr rfl)))⟩
section
variable {K:SC} {W W':World} {F F' T T':Nat->Prop} {E E':DS} {Ms Ms':List Mr} {mv:Value} {bl:Int} {idx:List Nat} {hb n i:Nat} {f:Nat->Nat} {m m':Mr} {b:Bool}
theorem HpO.next (h:HpO K W F Ms mv T hb)(hp:HpP W hb K.sb n f)(H:Ksx K W F E Ms mv bl i m m' b E' W')(hi:Ms[i]?=some m):HpO K W' F (Ms.set i m') mv T hb/\HpP W' hb K.sb n f:=by
 have same:∀ k,HpF W hb k->W'.heap[k]?=W.heap[k]?:=fun k y=>H.keep.block k (h k y).1.lt fun e=>e.elim (h k y).1.nf fun e=>((h k y).1.ms m (Of6 hi)).1 e.symm;refine⟨fun k y=>?_,hp.on H.keep.size same⟩;have I:=HpF.back (same hb (.inl rfl)) y;exact⟨(h k I).1.turn H.keep.size fun x M=>Kt1 hi H.rb H.new M,(h k I).2⟩
theorem HpO.took (h:HpO K W F Ms mv T hb)(hp:HpP W hb K.sb n f)(hl:Kyz K mv bl idx T W F Ms T' W' F' E' Ms'):HpO K W' F' Ms' mv T' hb/\HpP W' hb K.sb n f:=by
 have same:∀ k,HpF W hb k->W'.heap[k]?=W.heap[k]?:=fun k H=>hl.keep.block k (h k H).1.lt fun e=>e.elim (h k H).1.nf (h k H).2;refine⟨fun k H=>?_,hp.on hl.keep.size same⟩;have O:=HpF.back (same hb (.inl rfl)) H;have y:=(h k O).1;have Y:=y.lt;refine⟨⟨Oc2 Y hl.keep.size,y.lo,y.sb,y.mv,fun e=>(hl.ffr k e).elim y.nf fun e=>zo,fun x bh=>?_⟩,fun e=>(hl.tfr k e).elim (h k O).2 fun e=>zo⟩;obtain⟨q,hq,e⟩:=Od5 bh;obtain⟨I,hy,U⟩:=hl.new q x (by rw[Oa3 hq,e]);have bf:x.rb=I.rb:=by
  have M:=congrArg (fun l=>l[q]?) hl.rbs;simp only[Ob1,Oa3 hq,e,hy,Option.map_some]at M;exact Oj6 M
 exact⟨by rw[bf];exact(y.ms I (Of6 hy)).1,fun Z=>(U k Z).elim (y.ms I (Of6 hy)).2 fun e=>zo⟩
theorem HpO.turn (h:HpO K W F Ms mv T hb)(hs:SI K W F E Ms mv bl)(ht:∀ k,T k->k<W.heap.size)(y:Ju (HpF W hb) W W')(O:∀ k,HpF W' hb k->k<W'.heap.size)(M:∀ k,HpF W' hb k->HpF W hb k\/W.heap.size<=k):HpO K W' F Ms mv T hb:=fun k H=>by
 rcases M k H with e|e
 ·exact⟨(h k e).1.turn y.size fun x U=>⟨x,U,rfl,fun k y=>.inl y⟩,(h k e).2⟩
 exact⟨hs.noS e (O k H),fun I=>by have:=ht k I;omega⟩
theorem HpO.keepQ {fn Z lim I}{Q:TkQ}{t}(hQ:Qb4 K mv bl idx fn Z lim I Q)(h:HpO K W F Ms mv T hb)(hq:Q t T W F E Ms)(y:Ju (HpF W hb) W W'):Q t T W' F E Ms:=
 hQ.keep hq y (fun k y=>(h k y).1.lo) (fun e=>(h _ e).1.sb rfl) (fun _ U e=>(h _ e).1.mv U) (fun _ O e=>(h _ e).1.nf O) (fun x H=>⟨fun e=>((h _ e).1.ms x H).1 rfl,fun _ Y e=>((h _ e).1.ms x H).2 Y⟩) (fun _ M e=>(h _ e).2 M)
theorem HpO.ahOk (h:HpO K W F Ms mv T hb)(hs:SI K W F E Ms mv bl)(hK:SK K)(hM:Ktt Ms idx):Ku8 W (HpF W hb) K.sb (Kv4 Ms idx) (Ksf Ms) (Kr7 K.ks K.cs):=
 hs.ahOk hK hM (fun k M=>(h k M).1.lo) (fun e=>(h _ e).1.sb rfl) (fun _ I e=>(h _ e).1.mv I) (fun _ H e=>(h _ e).1.nf H) (fun x y=>⟨fun e=>((h _ e).1.ms x y).1 rfl,fun _ O e=>((h _ e).1.ms x y).2 O⟩)
end
theorem Krx {p}(h:p):Hid p:=h
def MgB (y:List Mr)(idx:List Nat):Nat->Prop:=fun k=>∃ i m,i∈idx/\y[i]?=some m/\k=m.rb
structure MgL (w:World) (F0 T0:Nat->Prop) (Ms0:List Mr) (idx:List Nat) (W:World) (F T:Nat->Prop) (Ms:List Mr):Prop where
 keep:Ju (fun k=>F0 k\/T0 k\/MgB Ms0 idx k) w W
 ffr:∀ k,F k->F0 k\/w.heap.size<=k
 tfr:∀ k,T k->T0 k\/w.heap.size<=k
 rbs:Ms.map (·.rb)=Ms0.map (·.rb)
 new:∀ (i:Nat) m',Ms[i]?=some m'->∃ m,Ms0[i]?=some m/\∀ k,m'.N k->m.N k\/w.heap.size<=k
theorem Qbx {y H:List Mr}(h:y.map (·.rb)=H.map (·.rb)){i:Nat}{m K:Mr}(M:y[i]?=some m)(O:H[i]?=some K):m.rb=K.rb:=by
 have I:=congrArg (fun l=>l[i]?) h;simp only[Ob1,M,O,Option.map_some]at I;exact Oj6 I
section
variable {K:SC} {w W W':World} {F F' T T' F0 T0 G:Nat->Prop} {E E':DS} {Ms Ms' Ms0:List Mr} {mv:Value} {bl:Int} {idx:List Nat} {i:Nat} {m m':Mr} {b:Bool}
theorem MgL.refl:MgL w F0 T0 Ms0 idx w F0 T0 Ms0:=⟨Ju.refl _ _,fun _ h=>.inl h,fun _ h=>.inl h,rfl,fun _ m h=>⟨m,h,fun _ h=>.inl h⟩⟩
theorem MgL.next (h:MgL w F0 T0 Ms0 idx W F T Ms)(H:Ksx K W F E Ms mv bl i m m' b E' W')(hi:Ms[i]?=some m)(Y:i∈idx):MgL w F0 T0 Ms0 idx W' F T (Ms.set i m'):=by
 have hs:=h.keep.size;obtain⟨O,y,U⟩:=h.new i m hi;refine⟨h.keep.trans' H.keep fun k M e=>?_,h.ffr,h.tfr,(Kvt hi H.rb).trans h.rbs,fun j x I=>?_⟩
 ·rcases e with e|e
  ·exact .inl ((h.ffr k e).resolve_right zo)
  exact .inr (.inr ⟨i,O,Y,y,e.trans (Qbx h.rbs hi y)⟩)
 rcases getElem?_set_cases I with⟨e,rfl⟩|⟨_,I⟩
 ·subst e;exact⟨O,y,fun k M=>(H.new k M).elim (U k) fun e=>.inr zo⟩
 exact h.new j x I
theorem MgL.took (h:MgL w F0 T0 Ms0 idx W F T Ms)(hl:Kyz K mv bl idx T W F Ms T' W' F' E' Ms'):MgL w F0 T0 Ms0 idx W' F' T' Ms':=by
 have hs:=h.keep.size;refine⟨h.keep.trans' hl.keep fun k y e=>?_,fun k y=>(hl.ffr k y).elim (h.ffr k) fun e=>.inr zo,fun k y=>(hl.tfr k y).elim (h.tfr k) fun e=>.inr zo,hl.rbs.trans h.rbs,fun j x M=>?_⟩
 ·rcases e with e|e
  ·exact .inl ((h.ffr k e).resolve_right zo)
  exact .inr (.inl ((h.tfr k e).resolve_right zo))
 obtain⟨U,hy,H⟩:=hl.new j x M;obtain⟨z,O,I⟩:=h.new j U hy;exact⟨z,O,fun k y=>(H k y).elim (I k) fun e=>.inr zo⟩
theorem MgL.turn (h:MgL w F0 T0 Ms0 idx W F T Ms)(H:Ju G W W')(y:∀ k,G k->w.heap.size<=k):MgL w F0 T0 Ms0 idx W' F T Ms:=
 ⟨h.keep.trans' H fun k I e=>absurd (y k e) zo,h.ffr,h.tfr,h.rbs,h.new⟩
end
