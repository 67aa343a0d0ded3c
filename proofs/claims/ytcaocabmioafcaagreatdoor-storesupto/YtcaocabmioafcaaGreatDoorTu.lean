/- Load of a set: the table is there. -/
import Derived.Test.YtcaocabmioafcaaGreatDoorTt
import Derived.Deep.AppendLies
set_option maxHeartbeats 4000000
set_option maxRecDepth 100000
namespace Go.Proofs.YtcaocabmioafcaaGreatDoor
open Go.RowKit Go.Shelf Tryz
theorem Ked (s d:Nat)(F G:Nat→Prop)(D:DS)(I:List TS)(sv:Value)(bs:List Nat)(name:ByteArray)(at_ ar ah:Option Addr)(ct cr ch:Nat)(ts hs:List Int)(xs:List (Option Addr×Nat))(rs:List (List V))(g:Nat)(w:World)(h:Jqy w s d F G D I sv bs name at_ ar ah cr ts hs xs rs g)(da db dc:Addr)(dQ:Jf0 w da db dc)
  (T:List (List UInt8)) (du:Jfg rs ts hs (cks rs.length g (ckN rs.length g))=.inl T) (q dE:Addr) (dx:w.cell? ⟨4,0,none⟩=some (.iface 528 (.pointer (some q)))) (hw:w.cell? ⟨5,0,none⟩=some (.iface 528 (.pointer (some dE)))) (dN:¬ F 4) (dO:¬ F 5) (dA:(Jq D T).2.2=none) :
  Calls prog 62 #[.pointer (some ⟨s,0,none⟩),Jvc name at_ ar ct cr ts rs,.slice ah hs.length ch,.int .i64 (g:Int)] w fun e w'=>e=.returned .nilIface∧Jdl w s d F G D I sv bs name ts rs g T w':=by
 have dP:Below w.heap.size w (w.alloc (Jln name at_ ar ct cr ts rs)):=(Oa5 _ w).alloc (Oa2 _) _
 obtain⟨ds,hW,hF,dq,dp⟩:=h.hid ct ch da db dc dQ T du q dE dx hw dN dO
 have cZ:Hid (∀ W,Below w.heap.size w W→Calls prog 89 #[.slice ah hs.length ch,.slice at_ ts.length ct] W fun e w'=>e=.returned (.bool true)∧w'=W):=hW
 have cV:Hid (∀ W,Below w.heap.size w W→Calls prog 73 #[.pointer (some ⟨s,0,none⟩),.string name] W fun e w'=>e=.returned (.int .i64 (-1))∧Below W.heap.size W w'):=hF
 have cX:Hid (∀ W,Below w.heap.size w W→Calls prog 90 #[.agg #[.string name,.slice at_ ts.length ct,.slice ar rs.length cr],.slice ah hs.length ch,.int .i64 (g:Int)] W fun e w'=>Below W.heap.size W w'∧∃ a cap,e=.returned (.tuple #[.slice a T.length cap,.nilIface])∧Uh w' a (T.map tv)∧∀ b o,a=some ⟨b,o,none⟩→W.heap.size≤b):=dq
 have cW:Hid (∀ W a cap,Below w.heap.size w W→Uh W a (T.map tv)→(∀ b o,a=some ⟨b,o,none⟩→w.heap.size≤b)→Calls prog 91 #[.pointer (some ⟨s,0,none⟩),.slice a T.length cap] W fun e w'=>Ju F W w'∧∃ FD:Nat→Prop,Zb w' FD d (Jq D T).1∧(∀ k,FD k→F k∨W.heap.size≤k)∧(∀ k,FD k→k<w'.heap.size)∧∃ L M cS,e=.returned (.tuple #[.slice L (Jq D T).2.1.length M,.nilIface])∧Jaf w' (fun k=>W.heap.size≤k∧k<w'.heap.size∧¬ FD k) L cS (Jq D T).2.1∧(Jq D T).2.1.length≤M):=fun W a cap dK dL dM=>
  (dp W a cap dK dL dM).mono fun e w' cQ=>by
   unfold Jxo at cQ
   rw[dA]at cQ
   exact cQ
 have dB:(w.alloc (Jln name at_ ar ct cr ts rs)).cell? ⟨w.heap.size,0,none⟩=some (.string name):=by simp
 have dC:(w.alloc (Jln name at_ ar ct cr ts rs)).cell? ⟨w.heap.size,1,none⟩=some (.slice at_ ts.length ct):=by simp
 have dD:(w.alloc (Jln name at_ ar ct cr ts rs)).cell? ⟨w.heap.size,2,none⟩=some (.slice ar rs.length cr):=by simp
 have cP:¬ F w.heap.size:=fun dR=>Oe3 _ (h.lt _ (.inl dR))
 have U:Hid (Jqy w s d F G D I sv bs name at_ ar ah cr ts hs xs rs g):=h
 obtain⟨_,c1⟩:=h.set.field
 obtain⟨a,cap,dz,_⟩:=h.set.own.cells
 rw[Oa6,h.set.len]at dz
 subst dz
 have dX:=h.few
 have dY:=h.g1
 have dZ:=h.g2
 have dS:=h.sF
 have cA:ts≠[]:=fun e=>by have:=h.tab.2.1.1.1;rw[e]at this;simp at this
 obtain⟨cc,cf,rfl⟩:∃ b o,at_=some ⟨b,o,none⟩:=by
  rcases h.args.types with h0|⟨b,o,cM,_⟩
  ·simp at h0;exact absurd h0 cA
  exact⟨b,o,cM⟩
 have dU:Hid (ts≠[]):=cA
 have fa:rs.length≤200:=h.tab.2.2.1
 generalize dr:(Jq D T).2.1=N at *
 have ci:Hid ((Jq D T).2.1=N):=dr
 clear dr
 have cY:Hid (∀ W,Calls prog 92 #[.string name] W fun e w'=>e=.returned (.string name)∧Below W.heap.size W w'):=fun W=>by
  have:=Jhm name.toList W (by have:=h.tab.1.2;rw[←Jb2,Zf];omega)
  rwa [Zf]at this
 have cI:Hid (∀ W,Kc W (some ⟨cc,cf,none⟩) ts→Calls prog 93 #[.slice (some ⟨cc,cf,none⟩) ts.length ct] W fun e w'=>Below W.heap.size W w'∧∃ g c,e=.returned (.slice (some ⟨g,0,none⟩) ts.length c)∧W.heap.size≤g∧g<w'.heap.size∧Kc w' (some ⟨g,0,none⟩) ts):=fun W hI=>Jhe cc cf ct ts W cA (by have:=h.tab.2.1.1.2;omega) hI
 obtain⟨cF,cy,cC,cD,cE⟩:=info_parts Jru
 clear h du hW hF dq dp dx hw dA cA
 go_enter func62,ntmps62
 go_wp2_with (first|(go_at_call 88;refine ds.mono ?_;rintro e dG ⟨rfl,ck⟩;have cN:=Jb dP ck;have de:=Ja ck dB;have df:=Ja ck dC;have dg:=Ja ck dD)|(go_at_call 89;refine(cZ.out dG cN).mono ?_;rintro e dV ⟨rfl,rfl⟩)|(go_at_call 73;refine(cV.out _ cN).mono ?_;rintro e dW ⟨rfl,cl⟩;have cn:=Jb cN cl;have dI:=Ja cn c1;have dh:=Ja cl de;have bE:=Ja cl df;have di:=Ja cl dg)|(go_at_call 90;refine(cX.out _ cn).mono ?_;rintro e dH ⟨cu,pa,pc,rfl,dw,dv⟩;have bf:=Jb cn cu;have dj:=Ja cu dh;have dk:=Ja cu bE;have dl:=Ja cu di;have dm:=Ja bf c1;have dT:=cn.size)|(go_at_call 91;refine(cW.out _ pa pc bf dw (fun b o cM=>Ob2 dT (dv b o cM))).mono ?_;rintro e Z ⟨ba,FD,cv,cx,cz,L,M,cS,rfl,dy,cB⟩;have dJ:=ba.cell dj cP;have g1:=ba.cell dk cP;have g2:=ba.cell dl cP;have gc:=ba.cell dm dS))
 have dn:Kc Z (some ⟨cc,cf,none⟩) ts:=(U.out.args.types.below bf).of_block ba.size fun b o dt bO=>by
  simp at dt
  obtain⟨rfl,rfl⟩:=dt
  exact ba.block _ bO (U.out.tF _ _ rfl)
 have cJ:Hid (Kc Z (some ⟨cc,cf,none⟩) ts):=dn
 have cj:Hid (Jaf Z (fun k=>dH.heap.size≤k∧k<Z.heap.size∧¬ FD k) L cS N):=dy
 clear dn dy ds dB dC dD de df dg dh bE di dj dk dl dm dI c1 dw dv cZ cV cX cW
 refine wp_region_held_drew (S:=fun cK=>cK.cell? ⟨w.heap.size,0,none⟩=some (.string name)∧cK.cell? ⟨w.heap.size,1,none⟩=some (.slice (some ⟨cc,cf,none⟩) ts.length ct)∧cK.cell? ⟨w.heap.size,2,none⟩=some (.slice ar rs.length cr)) (by kernel_rfl) ⟨dJ,g1,g2⟩ (fun H=>?_)
 refine Kn 0 rfl H ?_
 refine Kn 1 rfl H ?_
 refine Kn 2 rfl H ?_
 refine Kn 3 rfl H ?_
 refine Kn 5 rfl H ?_
 refine Kn 6 rfl H ?_
 refine Kn 8 rfl H ?_
 refine Kn 9 rfl H ?_
 refine Kn 11 rfl H ?_
 refine Kn 12 rfl H ?_
 refine Kn 13 rfl H ?_
 refine Kn 14 rfl H ?_
 refine Kn 15 rfl H ?_
 refine tkn ?_
 refine wpAnyH_ready (rs:=[4,7]) (by kernel_rfl) (by simp) (AllReadyH.cons rfl (fun R J=>?_) (AllReadyH.cons rfl (fun R J=>?_) AllReadyH.nil))
 ·go_simp
  refine J.out _ _ H (fun H=>?_)
  clear J R
  refine tkr 7 rfl fun R J=>?_
  go_simp
  refine(cY.out _).mono ?_
  rintro e bG ⟨rfl,bh⟩
  have cG:=Ja bh (show Z.drew.cell? _=_ from gc)
  go_simp
  refine J.out _ _ ⟨Ja bh H.1,Ja bh H.2.1,Ja bh H.2.2⟩ (fun H=>?_)
  clear J R
  refine tkr 10 rfl fun R J=>?_
  go_simp
  refine(cI.out _ ((cJ.out.of_block (w':=bG) bh.size fun b o _ bO=>bh.block b bO))).mono ?_
  rintro e A ⟨br,K,O,rfl,bZ,ca,bH⟩
  have bY:Hid (Kc A (some ⟨K,0,none⟩) ts):=bH
  clear bH
  have cb:=Ja br cG
  go_simp
  refine J.out _ _ ⟨Ja br H.1,Ja br H.2.1,Ja br H.2.2⟩ (fun H=>?_)
  clear J R
  refine Kn 16 rfl H ?_
  refine tkn ?_
  refine tkr 17 rfl fun R J=>?_
  go_simp
  have bi:Below A.heap.size A (A.alloc (Jr name K O ts rs g L N.length M)):=(Oa5 _ _).alloc (Oa2 _) _
  have bI:=Ja bi cb
  refine J.out _ _ ⟨Ja bi H.1,Ja bi H.2.1,Ja bi H.2.2⟩ (fun H=>?_)
  clear J R
  refine tkr 18 rfl fun R J=>?_
  go_simp
  have Y:Below (A.alloc (Jr name K O ts rs g L N.length M)).heap.size (A.alloc (Jr name K O ts rs g L N.length M)) ((A.alloc (Jr name K O ts rs g L N.length M)).alloc (.cells #[.pointer (some ⟨A.heap.size,0,none⟩)] 158)):=(Oa5 _ _).alloc (Oa2 _) _
  have cH:=Ja Y bI
  refine J.out _ _ ⟨Ja Y H.1,Ja Y H.2.1,Ja Y H.2.2⟩ (fun H=>?_)
  clear J R
  refine tkr 19 rfl fun R J=>?_
  have bV:Z.heap.size≤bG.heap.size:=bh.size
  have bu:Below Z.heap.size Z A:=Jw (Jb bh br)
  have bx:∀ k,k<Z.heap.size→((A.alloc (Jr name K O ts rs g L N.length M)).alloc (.cells #[.pointer (some ⟨A.heap.size,0,none⟩)] 158)).heap[k]?=Z.heap[k]?:=fun k hk=>by
   have cT:=bu.size
   rw[Y.block k (by simp;omega),bi.block k (by omega),bu.block k hk]
  have bA:Jo ((A.alloc (Jr name K O ts rs g L N.length M)).alloc (.cells #[.pointer (some ⟨A.heap.size,0,none⟩)] 158)) 0 158 (.slice a I.length cap) (bs.map Jcp):=Yd U.out.set.own fun k hk=>by
   have bN:=Qk U.out.set.own hk
   have bX:=bf.size
   have bW:=ba.size
   rw[bx k (by omega),ba.block k (by omega) (U.out.gF k hk),bf.block k bN]
  have bS:((A.alloc (Jr name K O ts rs g L N.length M)).alloc (.cells #[.pointer (some ⟨A.heap.size,0,none⟩)] 158)).ownsRow 0 158 1 (.slice a I.length cap) I.length (bs.map Jcp):=by
   have:=bA
   unfold Jo at this
   rwa [Oa6,U.out.set.len]at this
  have bB:((A.alloc (Jr name K O ts rs g L N.length M)).alloc (.cells #[.pointer (some ⟨A.heap.size,0,none⟩)] 158)).heap[s]?=some (.cells #[.pointer (some ⟨d,0,none⟩),.slice a I.length cap] 143 (0,0)):=by
   have bT:=Jd U.out.set.cells
   have bX:=bf.size
   have bW:=ba.size
   rw[bx s (by omega),ba.block s (by omega) U.out.sF,bf.block s bT]
   exact U.out.set.cells
  have bM:((A.alloc (Jr name K O ts rs g L N.length M)).alloc (.cells #[.pointer (some ⟨A.heap.size,0,none⟩)] 158)).heap[A.heap.size+1]?=some (.cells #[.pointer (some ⟨A.heap.size,0,none⟩)] 158 (0,0)):=by
   have:=heap_alloc_new (A.alloc (Jr name K O ts rs g L N.length M)) (.cells #[.pointer (some ⟨A.heap.size,0,none⟩)] 158)
   rwa [Oa7]at this
  refine step_append_lies ((A.alloc (Jr name K O ts rs g L N.length M)).alloc (.cells #[.pointer (some ⟨A.heap.size,0,none⟩)] 158)) rfl (.tmp 73) (.tmp 87) 141 rfl 0 158 cF (.pointer none) 1 8 underlying141 cy cC cD cE rfl (by decide) (.slice a I.length cap) I.length (bs.map Jcp) rfl bS ⟨A.heap.size+1,0,none⟩ 1 1 [Jcp A.heap.size] rfl rfl (fun j u bn=>World.news_of_block bM j u (by simpa [Jcp] using bn)) (fun u bn=>by simp at bn;subst bn;rfl) (by decide) (by unfold maxLen;omega) (by omega) (Ob7 _) (A.heap.size+2) (by simp) (fun bc bb X bR bl bL cO=>?_)
  have cU:=bl.size
  have bP:(Value.slice a I.length cap).ownBlock≠some s:=fun e=>(U.out.set.gF s e).2 rfl
  have bQ:(Value.slice a I.length cap).ownBlock≠some w.heap.size:=fun e=>Oe3 _ (Qk U.out.set.own e)
  have bC:X.heap[s]?=some (.cells #[.pointer (some ⟨d,0,none⟩),.slice a I.length cap] 143 (0,0)):=(bl.block s (Jd bB) (Oc5 bP)).trans bB
  have bD:X.heap[w.heap.size]?=((A.alloc (Jr name K O ts rs g L N.length M)).alloc (.cells #[.pointer (some ⟨A.heap.size,0,none⟩)] 158)).heap[w.heap.size]?:=bl.block w.heap.size (Jm H.1) (Oc5 bQ)
  have bk:∀ o:Nat,X.cell? ⟨w.heap.size,o,none⟩=((A.alloc (Jr name K O ts rs g L N.length M)).alloc (.cells #[.pointer (some ⟨A.heap.size,0,none⟩)] 158)).cell? ⟨w.heap.size,o,none⟩:=fun o=>by simp only[World.cell?,bD]
  have cR:s≠w.heap.size:=fun e=>by have:=Jd U.out.set.cells;omega
  refine J.out _ _ ⟨(bk 0).trans H.1,(bk 1).trans H.2.1,(bk 2).trans H.2.2⟩ (fun H=>?_)
  clear J R bk bD bA bx
  have bU:X.cell? ⟨s,1,none⟩=some (.slice a I.length cap):=by simp[World.cell?,bC]
  have bK:X.frozen? ⟨s,1,none⟩=false:=by simp[World.frozen?,bC]
  simp only[Act.put,List.getElem_toArray,List.getElem_cons_zero,List.getElem_cons_succ,Oa1,List.set_cons_zero,List.set_cons_succ]
  refine Kn 20 rfl H ?_
  refine Kn 21 rfl H ?_
  refine tkn ?_
  refine tkr 22 rfl fun R J=>?_
  go_simp
  have bj:∀ o:Nat,(X.setCell ⟨s,1,none⟩ (.slice (some ⟨bc,0,none⟩) (I.length+1) bb)).cell? ⟨w.heap.size,o,none⟩=X.cell? ⟨w.heap.size,o,none⟩:=fun o=>Ob5 _ _ _ _ (by intro e;injection e with bE;exact absurd bE (by omega))
  refine J.out _ _ ⟨(bj 0).trans H.1,(bj 1).trans H.2.1,(bj 2).trans H.2.2⟩ (fun H=>?_)
  clear J R bj
  refine wpAnyH_done (by kernel_rfl) ?_ _
  clear H bU bK
  have bz:Jdl w s d F G D I (.slice a I.length cap) bs name ts rs g T (X.setCell ⟨s,1,none⟩ (.slice (some ⟨bc,0,none⟩) (I.length+1) bb)):=by
   obtain rfl:=ci.out
   refine Jgq U.out bf ba cv cx cz cj.out cB bu (Ob2 bV bZ) ca bY.out (sv':=.slice (some ⟨bc,0,none⟩) (I.length+1) bb) ?_ bl (by rcases bL with e|e;exact .inl (by rw[e];rfl);exact .inr (by rw[e];rfl))
   unfold Jo
   rw[Oa8,Oa6,U.out.set.len]
   exact bR
  have bJ:Hid (Jdl w s d F G D I (.slice a I.length cap) bs name ts rs g T (X.setCell ⟨s,1,none⟩ (.slice (some ⟨bc,0,none⟩) (I.length+1) bb))):=bz
  clear bz
  generalize X.setCell ⟨s,1,none⟩ (.slice (some ⟨bc,0,none⟩) (I.length+1) bb)=cL at *
  go_wp2
  go_ret
  exact⟨rfl,bJ.out⟩
 go_simp
 refine(cY.out _).mono ?_
 rintro e bG ⟨rfl,bh⟩
 have cG:=Ja bh (show Z.drew.cell? _=_ from gc)
 go_simp
 refine J.out _ _ ⟨Ja bh H.1,Ja bh H.2.1,Ja bh H.2.2⟩ (fun H=>?_)
 clear J R
 refine wpAnyH_ready (rs:=[4,10]) (by kernel_rfl) (by simp) (AllReadyH.cons rfl (fun R J=>?_) (AllReadyH.cons rfl (fun R J=>?_) AllReadyH.nil))
 ·go_simp
  refine J.out _ _ H (fun H=>?_)
  clear J R
  refine tkr 10 rfl fun R J=>?_
  go_simp
  refine(cI.out _ ((cJ.out.of_block (w':=bG) bh.size fun b o _ bO=>bh.block b bO))).mono ?_
  rintro e A ⟨br,K,O,rfl,bZ,ca,bH⟩
  have bY:Hid (Kc A (some ⟨K,0,none⟩) ts):=bH
  clear bH
  have cb:=Ja br cG
  go_simp
  refine J.out _ _ ⟨Ja br H.1,Ja br H.2.1,Ja br H.2.2⟩ (fun H=>?_)
  clear J R
  refine Kn 16 rfl H ?_
  refine tkn ?_
  refine tkr 17 rfl fun R J=>?_
  go_simp
  have bi:Below A.heap.size A (A.alloc (Jr name K O ts rs g L N.length M)):=(Oa5 _ _).alloc (Oa2 _) _
  have bI:=Ja bi cb
  refine J.out _ _ ⟨Ja bi H.1,Ja bi H.2.1,Ja bi H.2.2⟩ (fun H=>?_)
  clear J R
  refine tkr 18 rfl fun R J=>?_
  go_simp
  have Y:Below (A.alloc (Jr name K O ts rs g L N.length M)).heap.size (A.alloc (Jr name K O ts rs g L N.length M)) ((A.alloc (Jr name K O ts rs g L N.length M)).alloc (.cells #[.pointer (some ⟨A.heap.size,0,none⟩)] 158)):=(Oa5 _ _).alloc (Oa2 _) _
  have cH:=Ja Y bI
  refine J.out _ _ ⟨Ja Y H.1,Ja Y H.2.1,Ja Y H.2.2⟩ (fun H=>?_)
  clear J R
  refine tkr 19 rfl fun R J=>?_
  have bV:Z.heap.size≤bG.heap.size:=bh.size
  have bu:Below Z.heap.size Z A:=Jw (Jb bh br)
  have bx:∀ k,k<Z.heap.size→((A.alloc (Jr name K O ts rs g L N.length M)).alloc (.cells #[.pointer (some ⟨A.heap.size,0,none⟩)] 158)).heap[k]?=Z.heap[k]?:=fun k hk=>by
   have cT:=bu.size
   rw[Y.block k (by simp;omega),bi.block k (by omega),bu.block k hk]
  have bA:Jo ((A.alloc (Jr name K O ts rs g L N.length M)).alloc (.cells #[.pointer (some ⟨A.heap.size,0,none⟩)] 158)) 0 158 (.slice a I.length cap) (bs.map Jcp):=Yd U.out.set.own fun k hk=>by
   have bN:=Qk U.out.set.own hk
   have bX:=bf.size
   have bW:=ba.size
   rw[bx k (by omega),ba.block k (by omega) (U.out.gF k hk),bf.block k bN]
  have bS:((A.alloc (Jr name K O ts rs g L N.length M)).alloc (.cells #[.pointer (some ⟨A.heap.size,0,none⟩)] 158)).ownsRow 0 158 1 (.slice a I.length cap) I.length (bs.map Jcp):=by
   have:=bA
   unfold Jo at this
   rwa [Oa6,U.out.set.len]at this
  have bB:((A.alloc (Jr name K O ts rs g L N.length M)).alloc (.cells #[.pointer (some ⟨A.heap.size,0,none⟩)] 158)).heap[s]?=some (.cells #[.pointer (some ⟨d,0,none⟩),.slice a I.length cap] 143 (0,0)):=by
   have bT:=Jd U.out.set.cells
   have bX:=bf.size
   have bW:=ba.size
   rw[bx s (by omega),ba.block s (by omega) U.out.sF,bf.block s bT]
   exact U.out.set.cells
  have bM:((A.alloc (Jr name K O ts rs g L N.length M)).alloc (.cells #[.pointer (some ⟨A.heap.size,0,none⟩)] 158)).heap[A.heap.size+1]?=some (.cells #[.pointer (some ⟨A.heap.size,0,none⟩)] 158 (0,0)):=by
   have:=heap_alloc_new (A.alloc (Jr name K O ts rs g L N.length M)) (.cells #[.pointer (some ⟨A.heap.size,0,none⟩)] 158)
   rwa [Oa7]at this
  refine step_append_lies ((A.alloc (Jr name K O ts rs g L N.length M)).alloc (.cells #[.pointer (some ⟨A.heap.size,0,none⟩)] 158)) rfl (.tmp 73) (.tmp 87) 141 rfl 0 158 cF (.pointer none) 1 8 underlying141 cy cC cD cE rfl (by decide) (.slice a I.length cap) I.length (bs.map Jcp) rfl bS ⟨A.heap.size+1,0,none⟩ 1 1 [Jcp A.heap.size] rfl rfl (fun j u bn=>World.news_of_block bM j u (by simpa [Jcp] using bn)) (fun u bn=>by simp at bn;subst bn;rfl) (by decide) (by unfold maxLen;omega) (by omega) (Ob7 _) (A.heap.size+2) (by simp) (fun bc bb X bR bl bL cO=>?_)
  have cU:=bl.size
  have bP:(Value.slice a I.length cap).ownBlock≠some s:=fun e=>(U.out.set.gF s e).2 rfl
  have bQ:(Value.slice a I.length cap).ownBlock≠some w.heap.size:=fun e=>Oe3 _ (Qk U.out.set.own e)
  have bC:X.heap[s]?=some (.cells #[.pointer (some ⟨d,0,none⟩),.slice a I.length cap] 143 (0,0)):=(bl.block s (Jd bB) (Oc5 bP)).trans bB
  have bD:X.heap[w.heap.size]?=((A.alloc (Jr name K O ts rs g L N.length M)).alloc (.cells #[.pointer (some ⟨A.heap.size,0,none⟩)] 158)).heap[w.heap.size]?:=bl.block w.heap.size (Jm H.1) (Oc5 bQ)
  have bk:∀ o:Nat,X.cell? ⟨w.heap.size,o,none⟩=((A.alloc (Jr name K O ts rs g L N.length M)).alloc (.cells #[.pointer (some ⟨A.heap.size,0,none⟩)] 158)).cell? ⟨w.heap.size,o,none⟩:=fun o=>by simp only[World.cell?,bD]
  have cR:s≠w.heap.size:=fun e=>by have:=Jd U.out.set.cells;omega
  refine J.out _ _ ⟨(bk 0).trans H.1,(bk 1).trans H.2.1,(bk 2).trans H.2.2⟩ (fun H=>?_)
  clear J R bk bD bA bx
  have bU:X.cell? ⟨s,1,none⟩=some (.slice a I.length cap):=by simp[World.cell?,bC]
  have bK:X.frozen? ⟨s,1,none⟩=false:=by simp[World.frozen?,bC]
  simp only[Act.put,List.getElem_toArray,List.getElem_cons_zero,List.getElem_cons_succ,Oa1,List.set_cons_zero,List.set_cons_succ]
  refine Kn 20 rfl H ?_
  refine Kn 21 rfl H ?_
  refine tkn ?_
  refine tkr 22 rfl fun R J=>?_
  go_simp
  have bj:∀ o:Nat,(X.setCell ⟨s,1,none⟩ (.slice (some ⟨bc,0,none⟩) (I.length+1) bb)).cell? ⟨w.heap.size,o,none⟩=X.cell? ⟨w.heap.size,o,none⟩:=fun o=>Ob5 _ _ _ _ (by intro e;injection e with bE;exact absurd bE (by omega))
  refine J.out _ _ ⟨(bj 0).trans H.1,(bj 1).trans H.2.1,(bj 2).trans H.2.2⟩ (fun H=>?_)
  clear J R bj
  refine wpAnyH_done (by kernel_rfl) ?_ _
  clear H bU bK
  have bz:Jdl w s d F G D I (.slice a I.length cap) bs name ts rs g T (X.setCell ⟨s,1,none⟩ (.slice (some ⟨bc,0,none⟩) (I.length+1) bb)):=by
   obtain rfl:=ci.out
   refine Jgq U.out bf ba cv cx cz cj.out cB bu (Ob2 bV bZ) ca bY.out (sv':=.slice (some ⟨bc,0,none⟩) (I.length+1) bb) ?_ bl (by rcases bL with e|e;exact .inl (by rw[e];rfl);exact .inr (by rw[e];rfl))
   unfold Jo
   rw[Oa8,Oa6,U.out.set.len]
   exact bR
  have bJ:Hid (Jdl w s d F G D I (.slice a I.length cap) bs name ts rs g T (X.setCell ⟨s,1,none⟩ (.slice (some ⟨bc,0,none⟩) (I.length+1) bb))):=bz
  clear bz
  generalize X.setCell ⟨s,1,none⟩ (.slice (some ⟨bc,0,none⟩) (I.length+1) bb)=cL at *
  go_wp2
  go_ret
  exact⟨rfl,bJ.out⟩
 go_simp
 refine(cI.out _ ((cJ.out.of_block (w':=bG) bh.size fun b o _ bO=>bh.block b bO))).mono ?_
 rintro e A ⟨br,K,O,rfl,bZ,ca,bH⟩
 have bY:Hid (Kc A (some ⟨K,0,none⟩) ts):=bH
 clear bH
 have cb:=Ja br cG
 go_simp
 refine J.out _ _ ⟨Ja br H.1,Ja br H.2.1,Ja br H.2.2⟩ (fun H=>?_)
 clear J R
 refine Kn 16 rfl H ?_
 refine tkn ?_
 refine wpAnyH_ready (rs:=[4,17]) (by kernel_rfl) (by simp) (AllReadyH.cons rfl (fun R J=>?_) (AllReadyH.cons rfl (fun R J=>?_) AllReadyH.nil))
 ·go_simp
  refine J.out _ _ H (fun H=>?_)
  clear J R
  refine tkr 17 rfl fun R J=>?_
  go_simp
  have bi:Below A.heap.size A (A.alloc (Jr name K O ts rs g L N.length M)):=(Oa5 _ _).alloc (Oa2 _) _
  have bI:=Ja bi cb
  refine J.out _ _ ⟨Ja bi H.1,Ja bi H.2.1,Ja bi H.2.2⟩ (fun H=>?_)
  clear J R
  refine tkr 18 rfl fun R J=>?_
  go_simp
  have Y:Below (A.alloc (Jr name K O ts rs g L N.length M)).heap.size (A.alloc (Jr name K O ts rs g L N.length M)) ((A.alloc (Jr name K O ts rs g L N.length M)).alloc (.cells #[.pointer (some ⟨A.heap.size,0,none⟩)] 158)):=(Oa5 _ _).alloc (Oa2 _) _
  have cH:=Ja Y bI
  refine J.out _ _ ⟨Ja Y H.1,Ja Y H.2.1,Ja Y H.2.2⟩ (fun H=>?_)
  clear J R
  refine tkr 19 rfl fun R J=>?_
  have bV:Z.heap.size≤bG.heap.size:=bh.size
  have bu:Below Z.heap.size Z A:=Jw (Jb bh br)
  have bx:∀ k,k<Z.heap.size→((A.alloc (Jr name K O ts rs g L N.length M)).alloc (.cells #[.pointer (some ⟨A.heap.size,0,none⟩)] 158)).heap[k]?=Z.heap[k]?:=fun k hk=>by
   have cT:=bu.size
   rw[Y.block k (by simp;omega),bi.block k (by omega),bu.block k hk]
  have bA:Jo ((A.alloc (Jr name K O ts rs g L N.length M)).alloc (.cells #[.pointer (some ⟨A.heap.size,0,none⟩)] 158)) 0 158 (.slice a I.length cap) (bs.map Jcp):=Yd U.out.set.own fun k hk=>by
   have bN:=Qk U.out.set.own hk
   have bX:=bf.size
   have bW:=ba.size
   rw[bx k (by omega),ba.block k (by omega) (U.out.gF k hk),bf.block k bN]
  have bS:((A.alloc (Jr name K O ts rs g L N.length M)).alloc (.cells #[.pointer (some ⟨A.heap.size,0,none⟩)] 158)).ownsRow 0 158 1 (.slice a I.length cap) I.length (bs.map Jcp):=by
   have:=bA
   unfold Jo at this
   rwa [Oa6,U.out.set.len]at this
  have bB:((A.alloc (Jr name K O ts rs g L N.length M)).alloc (.cells #[.pointer (some ⟨A.heap.size,0,none⟩)] 158)).heap[s]?=some (.cells #[.pointer (some ⟨d,0,none⟩),.slice a I.length cap] 143 (0,0)):=by
   have bT:=Jd U.out.set.cells
   have bX:=bf.size
   have bW:=ba.size
   rw[bx s (by omega),ba.block s (by omega) U.out.sF,bf.block s bT]
   exact U.out.set.cells
  have bM:((A.alloc (Jr name K O ts rs g L N.length M)).alloc (.cells #[.pointer (some ⟨A.heap.size,0,none⟩)] 158)).heap[A.heap.size+1]?=some (.cells #[.pointer (some ⟨A.heap.size,0,none⟩)] 158 (0,0)):=by
   have:=heap_alloc_new (A.alloc (Jr name K O ts rs g L N.length M)) (.cells #[.pointer (some ⟨A.heap.size,0,none⟩)] 158)
   rwa [Oa7]at this
  refine step_append_lies ((A.alloc (Jr name K O ts rs g L N.length M)).alloc (.cells #[.pointer (some ⟨A.heap.size,0,none⟩)] 158)) rfl (.tmp 73) (.tmp 87) 141 rfl 0 158 cF (.pointer none) 1 8 underlying141 cy cC cD cE rfl (by decide) (.slice a I.length cap) I.length (bs.map Jcp) rfl bS ⟨A.heap.size+1,0,none⟩ 1 1 [Jcp A.heap.size] rfl rfl (fun j u bn=>World.news_of_block bM j u (by simpa [Jcp] using bn)) (fun u bn=>by simp at bn;subst bn;rfl) (by decide) (by unfold maxLen;omega) (by omega) (Ob7 _) (A.heap.size+2) (by simp) (fun bc bb X bR bl bL cO=>?_)
  have cU:=bl.size
  have bP:(Value.slice a I.length cap).ownBlock≠some s:=fun e=>(U.out.set.gF s e).2 rfl
  have bQ:(Value.slice a I.length cap).ownBlock≠some w.heap.size:=fun e=>Oe3 _ (Qk U.out.set.own e)
  have bC:X.heap[s]?=some (.cells #[.pointer (some ⟨d,0,none⟩),.slice a I.length cap] 143 (0,0)):=(bl.block s (Jd bB) (Oc5 bP)).trans bB
  have bD:X.heap[w.heap.size]?=((A.alloc (Jr name K O ts rs g L N.length M)).alloc (.cells #[.pointer (some ⟨A.heap.size,0,none⟩)] 158)).heap[w.heap.size]?:=bl.block w.heap.size (Jm H.1) (Oc5 bQ)
  have bk:∀ o:Nat,X.cell? ⟨w.heap.size,o,none⟩=((A.alloc (Jr name K O ts rs g L N.length M)).alloc (.cells #[.pointer (some ⟨A.heap.size,0,none⟩)] 158)).cell? ⟨w.heap.size,o,none⟩:=fun o=>by simp only[World.cell?,bD]
  have cR:s≠w.heap.size:=fun e=>by have:=Jd U.out.set.cells;omega
  refine J.out _ _ ⟨(bk 0).trans H.1,(bk 1).trans H.2.1,(bk 2).trans H.2.2⟩ (fun H=>?_)
  clear J R bk bD bA bx
  have bU:X.cell? ⟨s,1,none⟩=some (.slice a I.length cap):=by simp[World.cell?,bC]
  have bK:X.frozen? ⟨s,1,none⟩=false:=by simp[World.frozen?,bC]
  simp only[Act.put,List.getElem_toArray,List.getElem_cons_zero,List.getElem_cons_succ,Oa1,List.set_cons_zero,List.set_cons_succ]
  refine Kn 20 rfl H ?_
  refine Kn 21 rfl H ?_
  refine tkn ?_
  refine tkr 22 rfl fun R J=>?_
  go_simp
  have bj:∀ o:Nat,(X.setCell ⟨s,1,none⟩ (.slice (some ⟨bc,0,none⟩) (I.length+1) bb)).cell? ⟨w.heap.size,o,none⟩=X.cell? ⟨w.heap.size,o,none⟩:=fun o=>Ob5 _ _ _ _ (by intro e;injection e with bE;exact absurd bE (by omega))
  refine J.out _ _ ⟨(bj 0).trans H.1,(bj 1).trans H.2.1,(bj 2).trans H.2.2⟩ (fun H=>?_)
  clear J R bj
  refine wpAnyH_done (by kernel_rfl) ?_ _
  clear H bU bK
  have bz:Jdl w s d F G D I (.slice a I.length cap) bs name ts rs g T (X.setCell ⟨s,1,none⟩ (.slice (some ⟨bc,0,none⟩) (I.length+1) bb)):=by
   obtain rfl:=ci.out
   refine Jgq U.out bf ba cv cx cz cj.out cB bu (Ob2 bV bZ) ca bY.out (sv':=.slice (some ⟨bc,0,none⟩) (I.length+1) bb) ?_ bl (by rcases bL with e|e;exact .inl (by rw[e];rfl);exact .inr (by rw[e];rfl))
   unfold Jo
   rw[Oa8,Oa6,U.out.set.len]
   exact bR
  have bJ:Hid (Jdl w s d F G D I (.slice a I.length cap) bs name ts rs g T (X.setCell ⟨s,1,none⟩ (.slice (some ⟨bc,0,none⟩) (I.length+1) bb))):=bz
  clear bz
  generalize X.setCell ⟨s,1,none⟩ (.slice (some ⟨bc,0,none⟩) (I.length+1) bb)=cL at *
  go_wp2
  go_ret
  exact⟨rfl,bJ.out⟩
 go_simp
 have bi:Below A.heap.size A (A.alloc (Jr name K O ts rs g L N.length M)):=(Oa5 _ _).alloc (Oa2 _) _
 have bI:=Ja bi cb
 refine J.out _ _ ⟨Ja bi H.1,Ja bi H.2.1,Ja bi H.2.2⟩ (fun H=>?_)
 clear J R
 refine wpAnyH_ready (rs:=[4,18]) (by kernel_rfl) (by simp) (AllReadyH.cons rfl (fun R J=>?_) (AllReadyH.cons rfl (fun R J=>?_) AllReadyH.nil))
 focus
  go_simp
  refine J.out _ _ H (fun H=>?_)
  clear J R
  refine tkr 18 rfl fun R J=>?_
  go_simp
  have Y:Below (A.alloc (Jr name K O ts rs g L N.length M)).heap.size (A.alloc (Jr name K O ts rs g L N.length M)) ((A.alloc (Jr name K O ts rs g L N.length M)).alloc (.cells #[.pointer (some ⟨A.heap.size,0,none⟩)] 158)):=(Oa5 _ _).alloc (Oa2 _) _
  have cH:=Ja Y bI
  refine J.out _ _ ⟨Ja Y H.1,Ja Y H.2.1,Ja Y H.2.2⟩ (fun H=>?_)
 rotate_left 1
 focus
  go_simp
  have Y:Below (A.alloc (Jr name K O ts rs g L N.length M)).heap.size (A.alloc (Jr name K O ts rs g L N.length M)) ((A.alloc (Jr name K O ts rs g L N.length M)).alloc (.cells #[.pointer (some ⟨A.heap.size,0,none⟩)] 158)):=(Oa5 _ _).alloc (Oa2 _) _
  have cH:=Ja Y bI
  refine J.out _ _ ⟨Ja Y H.1,Ja Y H.2.1,Ja Y H.2.2⟩ (fun H=>?_)
  clear J R
  refine tkr 4 rfl fun R J=>?_
  go_simp
  refine J.out _ _ H (fun H=>?_)
 all_goals
  clear J R
  refine tkr 19 rfl fun R J=>?_
  have bV:Z.heap.size≤bG.heap.size:=bh.size
  have bu:Below Z.heap.size Z A:=Jw (Jb bh br)
  have bx:∀ k,k<Z.heap.size→((A.alloc (Jr name K O ts rs g L N.length M)).alloc (.cells #[.pointer (some ⟨A.heap.size,0,none⟩)] 158)).heap[k]?=Z.heap[k]?:=fun k hk=>by
   have cT:=bu.size
   rw[Y.block k (by simp;omega),bi.block k (by omega),bu.block k hk]
  have bA:Jo ((A.alloc (Jr name K O ts rs g L N.length M)).alloc (.cells #[.pointer (some ⟨A.heap.size,0,none⟩)] 158)) 0 158 (.slice a I.length cap) (bs.map Jcp):=Yd U.out.set.own fun k hk=>by
   have bN:=Qk U.out.set.own hk
   have bX:=bf.size
   have bW:=ba.size
   rw[bx k (by omega),ba.block k (by omega) (U.out.gF k hk),bf.block k bN]
  have bS:((A.alloc (Jr name K O ts rs g L N.length M)).alloc (.cells #[.pointer (some ⟨A.heap.size,0,none⟩)] 158)).ownsRow 0 158 1 (.slice a I.length cap) I.length (bs.map Jcp):=by
   have:=bA
   unfold Jo at this
   rwa [Oa6,U.out.set.len]at this
  have bB:((A.alloc (Jr name K O ts rs g L N.length M)).alloc (.cells #[.pointer (some ⟨A.heap.size,0,none⟩)] 158)).heap[s]?=some (.cells #[.pointer (some ⟨d,0,none⟩),.slice a I.length cap] 143 (0,0)):=by
   have bT:=Jd U.out.set.cells
   have bX:=bf.size
   have bW:=ba.size
   rw[bx s (by omega),ba.block s (by omega) U.out.sF,bf.block s bT]
   exact U.out.set.cells
  have bM:((A.alloc (Jr name K O ts rs g L N.length M)).alloc (.cells #[.pointer (some ⟨A.heap.size,0,none⟩)] 158)).heap[A.heap.size+1]?=some (.cells #[.pointer (some ⟨A.heap.size,0,none⟩)] 158 (0,0)):=by
   have:=heap_alloc_new (A.alloc (Jr name K O ts rs g L N.length M)) (.cells #[.pointer (some ⟨A.heap.size,0,none⟩)] 158)
   rwa [Oa7]at this
  refine step_append_lies ((A.alloc (Jr name K O ts rs g L N.length M)).alloc (.cells #[.pointer (some ⟨A.heap.size,0,none⟩)] 158)) rfl (.tmp 73) (.tmp 87) 141 rfl 0 158 cF (.pointer none) 1 8 underlying141 cy cC cD cE rfl (by decide) (.slice a I.length cap) I.length (bs.map Jcp) rfl bS ⟨A.heap.size+1,0,none⟩ 1 1 [Jcp A.heap.size] rfl rfl (fun j u bn=>World.news_of_block bM j u (by simpa [Jcp] using bn)) (fun u bn=>by simp at bn;subst bn;rfl) (by decide) (by unfold maxLen;omega) (by omega) (Ob7 _) (A.heap.size+2) (by simp) (fun bc bb X bR bl bL cO=>?_)
  have cU:=bl.size
  have bP:(Value.slice a I.length cap).ownBlock≠some s:=fun e=>(U.out.set.gF s e).2 rfl
  have bQ:(Value.slice a I.length cap).ownBlock≠some w.heap.size:=fun e=>Oe3 _ (Qk U.out.set.own e)
  have bC:X.heap[s]?=some (.cells #[.pointer (some ⟨d,0,none⟩),.slice a I.length cap] 143 (0,0)):=(bl.block s (Jd bB) (Oc5 bP)).trans bB
  have bD:X.heap[w.heap.size]?=((A.alloc (Jr name K O ts rs g L N.length M)).alloc (.cells #[.pointer (some ⟨A.heap.size,0,none⟩)] 158)).heap[w.heap.size]?:=bl.block w.heap.size (Jm H.1) (Oc5 bQ)
  have bk:∀ o:Nat,X.cell? ⟨w.heap.size,o,none⟩=((A.alloc (Jr name K O ts rs g L N.length M)).alloc (.cells #[.pointer (some ⟨A.heap.size,0,none⟩)] 158)).cell? ⟨w.heap.size,o,none⟩:=fun o=>by simp only[World.cell?,bD]
  have cR:s≠w.heap.size:=fun e=>by have:=Jd U.out.set.cells;omega
  refine J.out _ _ ⟨(bk 0).trans H.1,(bk 1).trans H.2.1,(bk 2).trans H.2.2⟩ (fun H=>?_)
  clear J R bk bD bA bx
  have bU:X.cell? ⟨s,1,none⟩=some (.slice a I.length cap):=by simp[World.cell?,bC]
  have bK:X.frozen? ⟨s,1,none⟩=false:=by simp[World.frozen?,bC]
  simp only[Act.put,List.getElem_toArray,List.getElem_cons_zero,List.getElem_cons_succ,Oa1,List.set_cons_zero,List.set_cons_succ]
  refine Kn 20 rfl H ?_
  refine Kn 21 rfl H ?_
  refine tkn ?_
  refine tkr 22 rfl fun R J=>?_
  go_simp
  have bj:∀ o:Nat,(X.setCell ⟨s,1,none⟩ (.slice (some ⟨bc,0,none⟩) (I.length+1) bb)).cell? ⟨w.heap.size,o,none⟩=X.cell? ⟨w.heap.size,o,none⟩:=fun o=>Ob5 _ _ _ _ (by intro e;injection e with bE;exact absurd bE (by omega))
  refine J.out _ _ ⟨(bj 0).trans H.1,(bj 1).trans H.2.1,(bj 2).trans H.2.2⟩ (fun H=>?_)
  clear J R bj
  refine wpAnyH_done (by kernel_rfl) ?_ _
  clear H bU bK
  have bz:Jdl w s d F G D I (.slice a I.length cap) bs name ts rs g T (X.setCell ⟨s,1,none⟩ (.slice (some ⟨bc,0,none⟩) (I.length+1) bb)):=by
   obtain rfl:=ci.out
   refine Jgq U.out bf ba cv cx cz cj.out cB bu (Ob2 bV bZ) ca bY.out (sv':=.slice (some ⟨bc,0,none⟩) (I.length+1) bb) ?_ bl (by rcases bL with e|e;exact .inl (by rw[e];rfl);exact .inr (by rw[e];rfl))
   unfold Jo
   rw[Oa8,Oa6,U.out.set.len]
   exact bR
  have bJ:Hid (Jdl w s d F G D I (.slice a I.length cap) bs name ts rs g T (X.setCell ⟨s,1,none⟩ (.slice (some ⟨bc,0,none⟩) (I.length+1) bb))):=bz
  clear bz
  generalize X.setCell ⟨s,1,none⟩ (.slice (some ⟨bc,0,none⟩) (I.length+1) bb)=cL at *
  go_wp2
  go_ret
  exact⟨rfl,bJ.out⟩
end Go.Proofs.YtcaocabmioafcaaGreatDoor
