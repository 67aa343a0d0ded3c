/- A Join: each row's number with what its key is found by, as an iterator. -/
import Derived.Test.YtpchafocmlhmbaaGreatDoorJd
import Derived.Test.YtpchafocmlhmbaaGreatDoorGn
set_option maxHeartbeats 4000000
set_option maxRecDepth 100000
namespace Go.Proofs.YtpchafocmlhmbaaGreatDoor
open Go.RowKit Go.Shelf Tryz
attribute [local go_sem] Oc0
theorem Kuy (a b:List (Nat×Nat)):Kma (a++b)=Kma a++Kma b:=by simp[Kma]
theorem Ktq {m m' l:Nat}{P:Program}{args:Array Value}{W:World}{y:Ending→World→Prop}(h:YieldAt Fence.wide m P l args W y):YieldAt Fence.wide m' P l args W y:=by
 obtain⟨fn,t,a,b,H,D,E⟩:=h;exact⟨fn,t,a,b,H,D,fun c cs _=>E c cs (room_wide _)⟩
def hxE (cols:List (List V))(ns:List Nat)(sd:Int)(r:Nat):Nat×(Int×Bool):=(r,hxR cols ns sd r)
def Kxa (x:Nat×(Int×Bool)):Array Value:=#[.int .i64 (x.1:Nat),.agg #[.int .u64 x.2.1,.bool x.2.2]]
def JG (jb z:Nat)(sd:Int)(W:World):Prop:=W.cell? ⟨jb,3,none⟩=some (.int .i64 (z:Nat))∧W.cell? ⟨jb,6,none⟩=some (.int .i64 sd)
theorem Kt8 (n rb pb bx jb g cap:Nat)(hs:List (Option Addr×Nat))(cols:List (List V))(bn:Option Addr)(bR:Nat)(ns:List Nat)(N z:Nat)(sd:Int)(w:World)(cA:1≤z)(fr:z≤1000)(fd:N≤100000)(dE:1≤cols.length)(fh:cols.length≤1000)
  (hC:Qd w g hs cols) (dt:∀ j,j<cols.length→(cols.getD j []).length=N) (dz:∀ c∈ns,c<cols.length) (ff:ns.length≤1000) (cf:∀ c∈ns,∀ v∈cols.getD c [],Jg v.n∧v.s.size≤maxLen) (dC:Jg sd)
  (dB:w.cell? ⟨rb,0,none⟩=some (.slice (some ⟨g,0,none⟩) cols.length cap)) (dA:w.cell? ⟨pb,0,none⟩=some (.pointer (some ⟨jb,0,none⟩))) (dy:w.cell? ⟨bx,0,none⟩=some (.slice bn ns.length bR)) (hI:Kc w bn (ns.map fun (x:Nat)=>(x:Int)))
  (Fx:Nat→Prop) (hF:Fx rb∧Fx pb∧Fx bx∧Jbo g hs cols.length Fx∧∀ b o,bn=some ⟨b,o,none⟩→Fx b) (de:∀ k,Fx k→k<w.heap.size) :
  Kx1 Fence.wide n prog 190 #[.pointer (some ⟨rb,0,none⟩),.pointer (some ⟨pb,0,none⟩),.pointer (some ⟨bx,0,none⟩)] Kxa (fun x _=>Kr3 x.2.1∧x.1<N∧x.2=hxR cols ns (sd % 18446744073709551616) x.1) Fx (JG jb z sd) (fun xs=>xs=(List.range N).map (hxE cols ns (sd % 18446744073709551616))) (fun K=>K <+: (List.range N).map (hxE cols ns (sd % 18446744073709551616))) (N+z) w:=by
 intro l J cj bi W bN dd dj cG dh hG dr h0;have bZ:=hG _ _ h0;have dX:Hid (∀ K M x Z,J (K,M) Z→(Kr3 x.2.1∧x.1<N∧x.2=hxR cols ns (sd % 18446744073709551616) x.1)→(∀ k,M k→k<Z.heap.size)→K.length<N+z→YieldAt Fence.wide (n-1) prog l (Kxa x) Z fun e bU=>KeepsFrom W.heap.size Z bU∧((e=.returned (.bool true)∧∃ M',J (K++[x],M') bU∧Krx M Z bU∧Kr0 M M' Z bU)∨(e=.returned (.bool false)∧∃ M',cj (K++[x],M') bU))):=fun K M x Z ba fg U br=>dr K M x Z ba fg U br;have dg:∀ s A bh,Below A.heap.size A bh→J s A→J s bh:=fun s A bh O h=>cG s A bh none h ⟨O.os,O.tape,O.output,O.size,fun k y _=>O.block k y⟩ (fun r e=>by cases e);have bA:Hid ((∀ s A bh,Below A.heap.size A bh→J s A→J s bh)∧OwnFrom W.heap.size J∧OwnFrom W.heap.size cj∧∀ s W,J s W→JG jb z sd W):=⟨dg,cG,dh,hG⟩;have bL:Hid (Qd W g hs cols∧(∀ j,j<cols.length→(cols.getD j []).length=N)∧(∀ c∈ns,c<cols.length)∧(∀ c∈ns,∀ v∈cols.getD c [],Jg v.n∧v.s.size≤maxLen)∧Kc W bn (ns.map fun (x:Nat)=>(x:Int))∧Jg sd):=⟨hC.below bN,dt,dz,cf,hI.below bN,dC⟩;have Y:Hid ((Fx rb∧Fx pb∧Fx bx∧Jbo g hs cols.length Fx∧∀ b o,bn=some ⟨b,o,none⟩→Fx b)∧∀ k,Fx k→¬ bi k∧k<W.heap.size):=⟨hF,fun k y=>⟨dd k y,Oc2 (de k y) bN.size⟩⟩;have bS:Hid (∀ k,bi k→k<W.heap.size):=dj;have cW:Hid (J ([],bi) W):=h0;have c1:=Ja bN dB;have c2:=Ja bN dA;have c3:=Ja bN dy;have dQ:=bZ.1;clear dg dr hC dt dz cf hI hF de dd dj dB dA dy cG dh hG h0 dC;refine callsIn_wide.2 ?_;show Calls _ _ #[.func (.yield l) #[] #[],.pointer (some ⟨rb,0,none⟩),.pointer (some ⟨pb,0,none⟩),.pointer (some ⟨bx,0,none⟩)] W _;have bO:Below W.heap.size W (W.alloc (.cells #[.func (.yield l) #[] #[]] 336)):=Jc (Oa5 _ _) _;have bJ:=heap_alloc_new W (.cells #[.func (.yield l) #[] #[]] 336);have cu:=Ja bO c1;have bV:=Ja bO c2;have cv:=Ja bO dQ;refine(callsIn_wide (n:=3)).1 ?_;refine callsIn_of_wp_marks func190 rfl trivial ?_ rfl;simp only[ntmps190,Om3,List.length_cons,List.length_nil,Nat.reduceAdd,Nat.reduceSub,Ok9,Array.replicate_zero,Om4,Ol2,List.nil_append,List.cons_append];refine wpIn_wide.2 ?_;go_upto_region 1 with fail
 have cB:=Oa7 W (.cells #[.func (.yield l) #[] #[]] 336);generalize W.alloc (.cells #[.func (.yield l) #[] #[]] 336)=Z at bO bJ cu bV cv cB ⊢;have ds:=fun R=>Jh4 (.slice (some ⟨g,0,none⟩) cols.length cap) (z:Int) (some ⟨g,0,none⟩) cols.length cap rfl R;clear c1 c2 dQ bZ;refine wp_mono ?_ Jpf.imp;refine wp_region_held_drew (S:=fun R=>R.cell? ⟨rb,0,none⟩=some (.slice (some ⟨g,0,none⟩) cols.length cap)∧R.cell? ⟨pb,0,none⟩=some (.pointer (some ⟨jb,0,none⟩))∧R.cell? ⟨jb,3,none⟩=some (.int .i64 (z:Nat))) (by kernel_rfl) ⟨Jh cu,Jh bV,Jh cv⟩ (fun H=>?_);refine tkj 0 rfl H ?_;refine tkj 1 rfl H ?_;refine tkj 2 rfl H ?_;refine tkj 3 rfl H ?_;refine tkj 4 rfl H ?_;refine tkj 5 rfl H ?_;refine tkn ?_;refine tkr 6 rfl fun cn bf=>?_;go_simp;refine(ds _).mono ?_;rintro e E ⟨rfl,dq⟩;have bT:Hid _:=dq;clear dq;have bH:Below Z.heap.size Z E:=by rw[bT.out];exact Jc (Jc (Jj (Oa5 _ _)) _) _
 go_simp;refine bf.out _ _ ⟨Ja bH cu,Ja bH bV,Ja bH cv⟩ (fun _=>?_);clear bf cn H ds;refine wpAnyH_done (by kernel_rfl) ?_ _;have db:E.heap[W.heap.size+1]?=some (.cells #[.slice (some ⟨g,0,none⟩) cols.length cap] 72 (0,0)):=by
  rw[bT.out,Oa9 _ _ _ (by rw[Oa7];show W.heap.size+1<Z.heap.size+1;omega),←cB];exact heap_alloc_new Z.drew _
 have da:E.heap[W.heap.size+2]?=some (.cells #[.int .i64 (z:Int)] 3 (0,0)):=by
  have:=heap_alloc_new (Z.drew.alloc (.cells #[.slice (some ⟨g,0,none⟩) cols.length cap] 72)) (.cells #[.int .i64 (z:Int)] 3);rw[Oa7,show Z.drew.heap.size=W.heap.size+1 from cB]at this;rw[bT.out];exact this
 have cQ:E.heap.size=W.heap.size+3:=by rw[bT.out,Oa7,Oa7];show Z.heap.size+1+1=_;omega
 have bW:Below W.heap.size W E:=Jb bO bH;have dL:=(bH.block _ (Jd bJ)).trans bJ;have dc:Qd E g hs cols:=bL.out.1.below bW;have bC:Hid (Below W.heap.size W E∧E.heap.size=W.heap.size+3∧E.heap[W.heap.size]?=some (.cells #[.func (.yield l) #[] #[]] 336 (0,0))∧E.cell? ⟨pb,0,none⟩=some (.pointer (some ⟨jb,0,none⟩))∧E.cell? ⟨bx,0,none⟩=some (.slice bn ns.length bR)):=⟨bW,cQ,dL,Ja bH bV,Ja bW c3⟩;have dS:Hid (J ([],bi) E):=bA.out.1 _ _ _ bW cW.out;clear cu bV cv bO bH bJ dL c3 bT cB bW cW;dsimp only[Jpf];go_wp2_with fail
 refine(wpIn_wide (n:=3)).1 ?_;refine Jg8 rfl (by omega) (gf:=138) (lb:=#[.pointer (some ⟨W.heap.size+1,0,none⟩),.pointer (some ⟨W.heap.size+2,0,none⟩)]) rfl trivial (enters_of func138 (by kernel_rfl) rfl)
  (Jjx 2 (by omega) (W.heap.size+1) (W.heap.size+2) g cap hs cols N z cA (by omega) fd dE fh E dc bL.out.2.1 (by simp[World.cell?,db]) (by simp[World.cell?,da]) (fun k=>k<E.heap.size∧¬ bi k) ⟨⟨by omega,fun h=>by have:=bS.out _ h;omega⟩,⟨by omega,fun h=>by have:=bS.out _ h;omega⟩,⟨by have:=Y.out.2 _ Y.out.1.2.2.2.1.1;omega,(Y.out.2 _ Y.out.1.2.2.2.1.1).1⟩,fun j bY b o e=>⟨by have:=(Y.out.2 _ (Y.out.1.2.2.2.1.2 j bY b o e)).2;omega,(Y.out.2 _ (Y.out.1.2.2.2.1.2 j bY b o e)).1⟩⟩ (fun k y=>y.1))
  (fun h k=>h.trans k) ?hKb (Oa5 _ _) (fun _=>rfl)
  (fun K bz=>(∀ x∈K.map (fun x=>(x.1,x.2.1)),x.2≤z)∧∃ M,J ((Kma (K.map fun x=>(x.1,x.2.1))).map (hxE cols ns (sd % 18446744073709551616)),M) bz∧Krx bi E bz∧Kr0 bi M E bz)
  (fun c K bz=>c=Code.ret∧∃ s,s.1 <+: (Kma (K.map fun x=>(x.1,x.2.1))).map (hxE cols ns (sd % 18446744073709551616))∧cj s bz)
  ?hI ?hIx ?hR ⟨fun x bc=>by simp at bc,bi,dS.out,Krx.refl _ _,Kr0.refl fun k y=>by have:=bS.out k y;omega⟩ (fun x=>{tmps:=#[.func (.yield l) #[] #[],.pointer (some ⟨rb,0,none⟩),.pointer (some ⟨pb,0,none⟩),.pointer (some ⟨bx,0,none⟩),.pointer (some ⟨W.heap.size,0,none⟩),.int .i64 (x.1:Int),.slice (some ⟨x.2.2,0,none⟩) cols.length cols.length,undef,undef,.slice (some ⟨g,0,none⟩) cols.length cap,.pointer (some ⟨jb,0,none⟩),.pointer (some ⟨jb,0,none⟩),.pointer (some ⟨jb,3,none⟩),.pointer (some ⟨jb,3,none⟩),.int .i64 (z:Nat),.func (.func 138) #[] #[.pointer (some ⟨W.heap.size+1,0,none⟩),.pointer (some ⟨W.heap.size+2,0,none⟩)],.int .i64 (x.1:Int),.slice (some ⟨x.2.2,0,none⟩) cols.length cols.length,undef,undef,undef,undef,undef,undef,undef,undef,undef,undef,undef,undef,undef,undef,undef,undef,undef,undef,undef,undef,undef,undef,undef],defers:=[]}) ?assign ?body ?done ?stop
 case hKb=>
  intro bz fm o ft hl fq _ _;exact⟨by simp,fun k y=>World.putObj_heap_other (by omega)⟩
 case hI=>
  rintro s A bh row ⟨h0,M,ba,U,br⟩ bj hr;refine⟨h0,M,bA.out.2.1 _ A bh row ba bj fun r e=>⟨by have:=(hr r e).1;omega,(hr r e).2⟩,⟨Ob2 U.1 bj.size,fun k y hn=>(bj.block k (Oc2 y U.1) fun e=>by have:=(hr k e.symm).1;omega).trans (U.2 k y hn),bj.os.trans U.out.1,bj.tape.trans U.out.2.1,bj.output.trans U.out.2.2⟩,br.1,br.2.1,fun k y=>Oc2 (br.2.2 k y) bj.size⟩
 case hIx=>
  rintro c s A bh row ⟨ba,fo,dY,U⟩ bj hr;exact⟨ba,fo,dY,bA.out.2.2.1 _ A bh row U bj fun r e=>⟨by have:=(hr r e).1;omega,(hr r e).2⟩⟩
 case hR=>
  rintro x A bh row ⟨ba,U,br,cF⟩ bj hr;exact⟨ba,U,br,cF.ck (CK.of_grown bj fun r e=>(hr r e).2)⟩
 case assign=>
  clear cQ;intro fm x bz cn bf;gi_wp2
  exact bf
 case stop=>
  rintro dR c K bz dZ ⟨k,y,cb⟩ ⟨rfl,s,dD,fc⟩ bf;have dU:Hid (s.1 <+: (List.range N).map (hxE cols ns (sd % 18446744073709551616))):=by
   obtain⟨fw,fj⟩:=Jvd N z k _ y;have e:=Kqk N z cA;rw[fj,Kuy]at e;refine List.IsPrefix.trans dD ?_;rw[←e,cb,Ob8];exact List.prefix_append _ _
  clear dD cb y;gi_wp2
  refine⟨by simp,.inl ⟨_,_,rfl,run_takeDeferred bf,?_⟩⟩;exact⟨.tuple #[],by simp[results,Tryz.f190,go_sem],⟨_,rfl⟩,.inr ⟨s.1,s.2,dU.out,bA.out.2.2.1.putObj _ fc (by omega) bf rfl⟩⟩
 case done=>
  rintro dR fv bz dZ fi ⟨_,M,ba,U,br⟩ bf;rw[fi,Kqk N z cA]at ba;go_wp2_with fail
  refine⟨by simp,.inl ⟨_,_,rfl,run_takeDeferred bf,?_⟩⟩;exact⟨.tuple #[],by simp[results,Tryz.f190,go_sem],⟨_,rfl⟩,.inl ⟨_,M,rfl,bA.out.2.1.putObj _ ba (by omega) bf rfl⟩⟩
 case body=>
  rintro fk K ⟨f,m,cE⟩ D ⟨cS,M,cH,cy,dx⟩ ⟨bI,⟨ch,cT⟩,dG,cU⟩ cb;simp only at bI ch cT dG cU;have ca:(cols.map (Jbx f (f+m))).length=cols.length:=by rw[Oa6]
  have hcut:∀ j,j<(cols.map (Jbx f (f+m))).length→((cols.map (Jbx f (f+m))).getD j []).length=m:=fun j bY=>by
   rw[ca]at bY;rw[Kn6,Jca (by rw[bL.out.2.1 j bY];exact bI)];omega
  have dv:(Kma (K.map fun x=>(x.1,x.2.1))).length≤N:=by
   have ba:=Kqe z _ cS;rw[Oa6]at ba;have U:=Jxx (N:=N) cA cb;omega
  have dV:Hid (∀ x∈K.map (fun x=>(x.1,x.2.1)),x.2≤z):=cS;have cc:∀ k,k<E.heap.size→¬ bi k→D.heap[k]?=E.heap[k]?:=cy.2;have bZ:=bA.out.2.2.2 _ _ cH;have dO:=bZ.2;have bK:∀ k,Fx k→k<E.heap.size∧¬ bi k:=fun k y=>⟨by have:=(Y.out.2 k y).2;omega,(Y.out.2 k y).1⟩;have dM:D.cell? ⟨pb,0,none⟩=some (.pointer (some ⟨jb,0,none⟩)):=(Oc3 (cc pb (bK _ Y.out.1.2.1).1 (bK _ Y.out.1.2.1).2)).trans bC.out.2.2.2.1;have dN:D.cell? ⟨bx,0,none⟩=some (.slice bn ns.length bR):=(Oc3 (cc bx (bK _ Y.out.1.2.2.1).1 (bK _ Y.out.1.2.2.1).2)).trans bC.out.2.2.2.2;have dP:D.heap[W.heap.size]?=some (.cells #[.func (.yield l) #[] #[]] 336 (0,0)):=(cc _ (by omega) fun h=>by have:=bS.out _ h;omega).trans bC.out.2.2.1;have dw:Kc D bn (ns.map fun (x:Nat)=>(x:Int)):=Uh.of_block (bL.out.2.2.2.2.1.below bC.out.1) cy.1 fun b o e _=>cc b (bK _ (Y.out.1.2.2.2.2 b o e)).1 (bK _ (Y.out.1.2.2.2.2 b o e)).2;have cX:Hid (∀ R,Below D.heap.size D R→Calls prog 191 #[.slice (some ⟨cE,0,none⟩) cols.length cols.length,.slice bn ns.length bR,.int .u64 (sd % 18446744073709551616)] R fun e w'=>Below R.heap.size R w'∧∃ b,e=.returned (.slice (some ⟨b,0,none⟩) m m)∧R.heap.size≤b∧HsF w' b m (fun r=>hxR cols ns (sd % 18446744073709551616) (f+r))):=fun R dp=>by
   have:=Kvg cE cols.length m (Jnt hs cols.length f (f+m)) (cols.map (Jbx f (f+m))) bn bR ns (sd % 18446744073709551616) R (cU.below dp) (by rw[ca];exact dE) hcut (by omega) (dw.below dp) (fun c cN=>by rw[ca];exact bL.out.2.2.1 c cN) ff ⟨by omega,by omega⟩ (fun c cN v cf=>?_)
   ·rw[ca]at this;refine this.mono fun e w' ⟨ba,b,U,br,cF⟩=>⟨ba,b,U,br,cF.congr fun r hr=>?_⟩;unfold hxR;congr 1
    funext x c
    rw[Kn6,Kpq f m _ hr]
   rw[Kn6]at cf;exact bL.out.2.2.2.1 c cN v (Om9 (Oh7 cf))
  have X:Hid (J ((Kma (K.map fun x=>(x.1,x.2.1))).map (hxE cols ns (sd % 18446744073709551616)),M) D∧Krx bi E D∧Kr0 bi M E D∧f+m≤N∧m≤z∧(Kma (K.map fun x=>(x.1,x.2.1))).length≤N∧D.heap[W.heap.size]?=some (.cells #[.func (.yield l) #[] #[]] 336 (0,0))):=⟨cH,cy,dx,bI,cT,dv,dP⟩;clear cS cH cy dx bI ch cT dG cU cb ca hcut dv cc bZ bK dP dw cQ db da dc;gi_wp2_with fail
  refine Kix (S:=fun R=>R.cell? ⟨pb,0,none⟩=some (.pointer (some ⟨jb,0,none⟩))∧R.cell? ⟨bx,0,none⟩=some (.slice bn ns.length bR)∧R.cell? ⟨jb,6,none⟩=some (.int .i64 sd)) (by kernel_rfl) (by kernel_rfl) ⟨Jh dM,Jh dN,Jh dO⟩ (fun H=>?_);refine tkj 0 rfl H ?_;refine tkj 1 rfl H ?_;refine tkj 2 rfl H ?_;refine tkj 3 rfl H ?_;refine tkj 4 rfl H ?_;refine tkj 5 rfl H ?_;refine tkj 6 rfl H ?_;refine tkj 7 rfl H ?_;refine tkj 10 rfl H ?_;refine tkn ?_;refine tkr 8 rfl fun cn bf=>?_;go_simp;refine(cX.out D.drew (Jj (Oa5 _ _))).mono ?_;rintro e cZ ⟨bX,O,rfl,bP,df⟩;have bM:Hid (Below D.heap.size D cZ∧D.heap.size≤O∧HsF cZ O m (fun r=>hxR cols ns (sd % 18446744073709551616) (f+r))):=⟨Jw bX,bP,df⟩;go_simp;refine bf.out _ _ ⟨Ja bX H.1,Ja bX H.2.1,Ja bX H.2.2⟩ (fun H=>?_);clear bf cn bX bP df;refine tkj 9 rfl H ?_;refine tkn ?_;refine wpAnyH_done (by kernel_rfl) ?_ _;dsimp only[Jpf];clear H dM dN dO cX;gi_wp2_with fail
  obtain⟨bD,cJ⟩:∃ bD,bD=(Kma (K.map fun x=>(x.1,x.2.1))).map (hxE cols ns (sd % 18446744073709551616)):=⟨_,rfl⟩;have fp:bD.length≤N:=by rw[cJ,Oa6];exact X.out.2.2.2.2.2.1
  have cC:Hid (bD=(Kma (K.map fun x=>(x.1,x.2.1))).map (hxE cols ns (sd % 18446744073709551616))):=cJ;have dm:∀ k,M k→k<D.heap.size:=X.out.2.2.1.2.2;have cY:Hid (∀ k,M k→k<D.heap.size):=dm;clear cJ dm;gi_loopw [28] (fun s wr=>∃ (i:Nat) (bE:Nat→Prop),i≤m∧s=.int .i64 (i:Nat)∧Hid (J (bD++(List.range i).map (fun j=>hxE cols ns (sd % 18446744073709551616) (f+j)),bE) wr∧Krx M D wr∧Kr0 M bE D wr∧KeepsFrom E.heap.size D wr∧HsF wr O m (fun r=>hxR cols ns (sd % 18446744073709551616) (f+r))∧¬ bE O)) (fun s _=>m-(intOf s).toNat)
  case atStart=>
   refine⟨0,M,Ob7 _,rfl,?_,Krx.of_below bM.out.1,⟨fun _ h=>h,fun _ h=>.inl h,fun k y=>Oc2 (cY.out k y) bM.out.1.size⟩,Krz bM.out.1,bM.out.2.2,fun h=>by have:=cY.out _ h;have:=bM.out.2.1;omega⟩;rw[cC.out,List.range_zero,Oi4,Od7];exact bA.out.1 _ _ _ bM.out.1 X.out.1
  case round=>
   obtain⟨i,bE,hi,rfl,hI⟩:=hrel;by_cases fe:i<m
   ·have cM:=hI.out.2.2.2.2.1.at fe;have c0:wr.cell? ⟨O,i*2,none⟩=some (.int .u64 (hxR cols ns (sd % 18446744073709551616) (f+i)).1):=Klb (i:=0) cM (Ksu _ i) rfl;have c1:wr.cell? ⟨O,i*2+1,none⟩=some (.bool (hxR cols ns (sd % 18446744073709551616) (f+i)).2):=Klb (i:=1) cM (Ksu _ i) rfl;have dH:¬ M W.heap.size:=fun h=>by
     have fs:=bC.out.2.1;rcases X.out.2.2.1.2.1 _ h with h|h
     ·have:=bS.out _ h;omega
     omega
    have dI:W.heap.size<D.heap.size:=Jd X.out.2.2.2.2.2.2;have bJ:=(hI.out.2.1.2 _ dI dH).trans X.out.2.2.2.2.2.2;have c2:wr.cell? ⟨W.heap.size,0,none⟩=some (.func (.yield l) #[] #[]):=by simp[World.cell?,bJ]
    clear cM bJ dH dI;obtain⟨x,bc⟩:∃ x,x=hxE cols ns (sd % 18446744073709551616) (f+i):=⟨_,rfl⟩;have ch:hxR cols ns (sd % 18446744073709551616) (f+i)=x.2:=by rw[bc];rfl
    have bI:x.1=f+i:=by rw[bc];rfl
    rw[ch]at c0 c1;have cD:Hid (x=hxE cols ns (sd % 18446744073709551616) (f+i)):=bc;have dW:Hid (Kr3 x.2.1):=by show Kr3 _;rw[bc];exact Kuv cols ⟨by omega,by omega⟩ (f+i) ns
    clear bc ch;obtain⟨fu,h,nl⟩:=x;simp only at bI c0 c1;subst bI;have cx:Below wr.heap.size wr (wr.alloc (.cells #[.int .u64 h,.bool nl] 285)):=Jc (Oa5 _ _) _;have cV:=heap_alloc_new wr (.cells #[.int .u64 h,.bool nl] 285);have dk:∀ k,bE k→k<(wr.alloc (.cells #[.int .u64 h,.bool nl] 285)).heap.size:=fun k y=>Oc2 (hI.out.2.2.1.2.2 k y) cx.size;obtain⟨fn,tmps,assign,body,cz,hR⟩:=Ktq (m':=0) (dX.out _ bE (f+i,h,nl) (wr.alloc (.cells #[.int .u64 h,.bool nl] 285)) (bA.out.1 _ _ _ cx hI.out.1) ⟨dW.out,by have:=X.out.2.2.2.1;show f+i<N;omega,by have:=cD.out;simp only[hxE]at this;injection this with _ U⟩ dk (by rw[Oa8,Oa6,Op1];have:=X.out.2.2.2.2.1;omega));unfold Kxa at cz;simp only[Int.natCast_add]at cz;have dT:Hid _:=hR;have bB:Hid (Below wr.heap.size wr (wr.alloc (.cells #[.int .u64 h,.bool nl] 285))):=cx;clear hR dk cx;have c3:=Ja bB.out c2;have dJ:(wr.alloc (.cells #[.int .u64 h,.bool nl] 285)).cell? ⟨wr.heap.size,0,none⟩=some (.int .u64 h):=by simp only[World.cell?,cV];rfl
    have dK:(wr.alloc (.cells #[.int .u64 h,.bool nl] 285)).cell? ⟨wr.heap.size,1,none⟩=some (.bool nl):=by simp only[World.cell?,cV];rfl
    have j1:(i:Int)<(m:Int):=(by omega);have j2:=X.out.2.2.2.1;clear cV;gi_wp2_with fail
    refine RoundIn.mono (show RoundIn (Fence.wide.inRound fk) 0 _ _ _ _ _ _ _ _ from dT.out) ?_;rintro e bG ⟨bQ,⟨rfl,M',cI,cO,cP⟩|⟨rfl,M',di⟩⟩
    ·have bP:=Jd hI.out.2.2.2.2.1;have du:O<(wr.alloc (.cells #[.int .u64 h,.bool nl] 285)).heap.size:=Oc2 bP bB.out.size;have ci:Hid (J (bD++(List.range (i+1)).map (fun j=>hxE cols ns (sd % 18446744073709551616) (f+j)),M') bG∧Krx M D bG∧Kr0 M M' D bG∧KeepsFrom E.heap.size D bG∧HsF bG O m (fun r=>hxR cols ns (sd % 18446744073709551616) (f+r))∧¬ M' O):=by
      refine⟨?_,(hI.out.2.1.trans (Krx.of_below (M:=M) bB.out) fun _=>.inl).trans cO hI.out.2.2.1.2.1,hI.out.2.2.1.trans cP (Ob2 hI.out.2.1.1 bB.out.size),(hI.out.2.2.2.1.trans (Krz bB.out)).trans ⟨bQ.size,fun k o y=>bQ.same k o (by have:=bC.out.1.size;omega)⟩,hI.out.2.2.2.2.1.block ((cO.2 O du hI.out.2.2.2.2.2).trans (bB.out.block O bP)),fun cK=>(cP.2.1 O cK).elim hI.out.2.2.2.2.2 fun hl=>by omega⟩;rw[Od8]at cI;rw[Oj7,Ob8,List.map_singleton,←cD.out];exact cI
     clear bQ cI cO cP bP du c0 c1 c2 c3 dJ dK cz;gi_wp2
     exact⟨⟨i+1,M',by omega,by go_num,ci.out⟩,by simp[intOf];omega⟩
    have ci:Hid (KeepsFrom E.heap.size D bG∧∃ s:List (Nat×(Int×Bool))×(Nat→Prop),s.1 <+: (Kma ((K++[(f,m,cE)]).map fun x=>(x.1,x.2.1))).map (hxE cols ns (sd % 18446744073709551616))∧cj s bG):=by
     refine⟨(hI.out.2.2.2.1.trans (Krz bB.out)).trans ⟨bQ.size,fun k o y=>bQ.same k o (by have:=bC.out.1.size;omega)⟩,_,?_,di⟩;show bD++_++_ <+: _;rw[cC.out,Ob8,List.map_singleton,Knn,Ob8,Od8];refine(List.prefix_append_right_inj _).2 ?_;obtain⟨d,rfl⟩:∃ d,m=i+1+d:=⟨m-(i+1),by omega⟩;rw[cD.out,List.range_add,Ob8,Ob8,Oi6,Oj7,Ob8];exact List.prefix_append _ _
    clear bQ di c0 c1 c2 c3 dJ dK cz;gi_wp2
    exact⟨ci.out.1,rfl,ci.out.2⟩
   obtain rfl:i=m:=by omega
   gi_wp2
   refine⟨hI.out.2.2.2.1,⟨hI.out.2.1.1,fun k y=>hI.out.2.1.2 k (Oc2 y.1 X.out.2.1.1) fun cK=>(X.out.2.2.1.2.1 k cK).elim y.2 fun h=>by omega⟩,fun x bc=>?_,bE,?_,X.out.2.1.trans hI.out.2.1 X.out.2.2.1.2.1,X.out.2.2.1.trans hI.out.2.2.1 X.out.2.1.1⟩
   ·rw[Ob8,List.map_singleton]at bc;rcases Od2.1 bc with bc|bc
    ·exact dV.out x bc
    rw[Oc6.1 bc];exact X.out.2.2.2.2.1
   have:=hI.out.1;rw[cC.out]at this;rw[Ob8,List.map_singleton,Knn,Ob8,Oi6];exact this
end Go.Proofs.YtpchafocmlhmbaaGreatDoor
