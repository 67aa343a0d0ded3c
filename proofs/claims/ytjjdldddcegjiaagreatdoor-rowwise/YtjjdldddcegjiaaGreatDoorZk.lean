/- The law Rowwise, walked. -/
import Derived.Test.YtjjdldddcegjiaaGreatDoorZl
import Derived.Test.YtjjdldddcegjiaaGreatDoorZg
import Derived.Test.YtjjdldddcegjiaaGreatDoorYi
set_option maxHeartbeats 40000000
set_option maxRecDepth 100000
namespace Go.Proofs.YtjjdldddcegjiaaGreatDoor
open Go.RowKit Go.Shelf Tryz
attribute [local go_sem] Oc0
theorem Kk3 (cn:ByteArray)(bU bT fu ft:Option Addr)(ct cc fv jZ:Nat)(ns:List Int)(xs:List (Option Addr×Nat))(bM:List (List V))(cx cW:List Pt)(oz ob ol os:Int)(w:World)(hn:ns.length≤maxLen)(jK:∀ r∈bM,r.length≤maxLen)(ju:∀ r∈bM,∀ v∈r,Jg v.k∧Jg v.n)(cu:Kc w bU ns)(jW:Zd w bT xs bM)
  (jg:Jfe w fu cx) (ji:∀ p∈cx,Jko p) (jj:cx.length≤maxLen) (jh:cx.length≤fv) (hL:Jfe w ft cW) (jd:∀ p∈cW,Jko p) (je:cW.length≤maxLen) (jE:Jg oz) (jA:Jg ob) (jC:Jg ol)
  (cD cY cZ dk q wr pg di ex dj:Addr) (jf:Jax w cD cY cZ dk q wr pg di ex dj) :
  Calls prog 3 #[.agg #[.string cn,.slice bU ns.length ct,.slice bT bM.length cc],.slice fu cx.length fv,.slice ft cW.length jZ,.agg #[.int .i64 oz,.int .i64 ob,.int .i64 ol,.int .i64 os]] w fun e w'=>e=.returned (.bool true)∧Below w.heap.size w w':=by
 have fB:Hid (Jax w cD cY cZ dk q wr pg di ex dj):=jf
 have gN:Hid (∀ W,Below w.heap.size w W→Calls prog 5 #[.agg #[.string cn,.slice bU ns.length ct,.slice bT bM.length cc],.string ⟨#[116]⟩,.int .i64 ((200:Nat):Int)] W fun e w'=>∃ E rs bf bn X Z cH,e=.returned (.agg #[.string ⟨#[116]⟩,.slice bf E.length bn,.slice X rs.length Z])∧Uw w' Zu bf X Z E cH rs∧Below W.heap.size W w'):=fun W bc=>(Jt8 cn Zu bU bT ct cc 200 ns xs bM W (by omega) hn jK ju (cu.below bc) (jW.below bc)).mono fun e w' ⟨E,rs,v,gg,fs,gm,bY⟩=>by
  obtain⟨bf,bn,X,Z,cH,rfl,dP⟩:=fs.right gm (by decide)
  exact⟨E,rs,bf,bn,X,Z,cH,gg,dP,bY⟩
 have cy:Hid (Jfe w fu cx∧(∀ p∈cx,Jko p)∧cx.length≤maxLen∧cx.length≤fv∧Jfe w ft cW∧(∀ p∈cW,Jko p)∧cW.length≤maxLen∧Jg oz∧Jg ob∧Jg ol):=⟨jg,ji,jj,jh,hL,jd,je,jE,jA,jC⟩
 clear jf hn jK ju cu jW jg ji jj jh hL jd je jE jA jC
 go_enter func3,ntmps3
 go_upto_region 1 with fail
 have fj:Below w.heap.size w ((w.alloc (.cells #[.string cn,.slice bU ns.length ct,.slice bT bM.length cc] 25)).alloc (.cells #[.int .i64 oz,.int .i64 ob,.int .i64 ol,.int .i64 os] 28)):=Jc (Jc (Oa5 _ _) _) _
 have cV:((w.alloc (.cells #[.string cn,.slice bU ns.length ct,.slice bT bM.length cc] 25)).alloc (.cells #[.int .i64 oz,.int .i64 ob,.int .i64 ol,.int .i64 os] 28)).heap[w.heap.size]?=some (.cells #[.string cn,.slice bU ns.length ct,.slice bT bM.length cc] 25 (0,0)):=(Oa9 _ _ _ (by simp)).trans (heap_alloc_new w _)
 have gA:((w.alloc (.cells #[.string cn,.slice bU ns.length ct,.slice bT bM.length cc] 25)).alloc (.cells #[.int .i64 oz,.int .i64 ob,.int .i64 ol,.int .i64 os] 28)).heap[w.heap.size+1]?=some (.cells #[.int .i64 oz,.int .i64 ob,.int .i64 ol,.int .i64 os] 28 (0,0)):=by
  have:=heap_alloc_new (w.alloc (.cells #[.string cn,.slice bU ns.length ct,.slice bT bM.length cc] 25)) (.cells #[.int .i64 oz,.int .i64 ob,.int .i64 ol,.int .i64 os] 28)
  rw[Oa7]at this
  exact this
 generalize ((w.alloc (.cells #[.string cn,.slice bU ns.length ct,.slice bT bM.length cc] 25)).alloc (.cells #[.int .i64 oz,.int .i64 ob,.int .i64 ol,.int .i64 os] 28))=fg at fj cV gA ⊢
 have dr:Hid (Below w.heap.size w fg∧fg.heap[w.heap.size]?=some (.cells #[.string cn,.slice bU ns.length ct,.slice bT bM.length cc] 25 (0,0))∧fg.heap[w.heap.size+1]?=some (.cells #[.int .i64 oz,.int .i64 ob,.int .i64 ol,.int .i64 os] 28 (0,0))):=⟨fj,cV,gA⟩
 have jM:=Jy2 fg cD cY cZ dk q wr pg di ex dj (fB.out.below fj)
 clear fj cV gA
 go_upto_region 2 with(go_at_call 4;refine jM.mono ?_;rintro ch du ⟨rfl,bQ⟩)
 have cV:=(bQ.block _ (Jd dr.out.2.1)).trans dr.out.2.1
 have mo:du.cell? ⟨w.heap.size,0,none⟩=some (.string cn):=by simp[World.cell?,cV]
 have mp:du.cell? ⟨w.heap.size,1,none⟩=some (.slice bU ns.length ct):=by simp[World.cell?,cV]
 have mq:du.cell? ⟨w.heap.size,2,none⟩=some (.slice bT bM.length cc):=by simp[World.cell?,cV]
 have ds:Hid (Below w.heap.size w du∧du.heap[w.heap.size+1]?=some (.cells #[.int .i64 oz,.int .i64 ob,.int .i64 ol,.int .i64 os] 28 (0,0))):=⟨Jb dr.out.1 bQ,(bQ.block _ (Jd dr.out.2.2)).trans dr.out.2.2⟩
 have jQ:=gN.out du ds.out.1
 clear cV bQ jM dr gN
 go_upto_region 3 with(go_at_call 5;refine jQ.mono ?_;rintro ch cC ⟨E,rs,bf,bn,X,Z,cH,rfl,hR,cj⟩)
 have fl:Below cC.heap.size cC (cC.alloc (.cells #[.string ⟨#[116]⟩,.slice bf E.length bn,.slice X rs.length Z] 25)):=Jc (Oa5 _ _) _
 have dB:=heap_alloc_new cC (.cells #[.string ⟨#[116]⟩,.slice bf E.length bn,.slice X rs.length Z] 25)
 obtain⟨bN,gv⟩:∃ bN,bN=cC.heap.size:=⟨_,rfl⟩
 rw[←gv]at dB ⊢
 have cJ:Hid (Below w.heap.size w (cC.alloc (.cells #[.string ⟨#[116]⟩,.slice bf E.length bn,.slice X rs.length Z] 25))∧(cC.alloc (.cells #[.string ⟨#[116]⟩,.slice bf E.length bn,.slice X rs.length Z] 25)).heap[w.heap.size+1]?=some (.cells #[.int .i64 oz,.int .i64 ob,.int .i64 ol,.int .i64 os] 28 (0,0))∧w.heap.size≤bN):=⟨Jb ds.out.1 (Jb cj fl),((Jb cj fl).block _ (Jd ds.out.2)).trans ds.out.2,by rw[gv];exact(Jb ds.out.1 cj).size⟩
 have ca:Hid (Uw (cC.alloc (.cells #[.string ⟨#[116]⟩,.slice bf E.length bn,.slice X rs.length Z] 25)) Zu bf X Z E cH rs):=hR.below fl
 generalize cC.alloc (.cells #[.string ⟨#[116]⟩,.slice bf E.length bn,.slice X rs.length Z] 25)=W at dB cJ ca ⊢
 have gB:W.cell? ⟨bN,0,none⟩=some (.string ⟨#[116]⟩):=by simp[World.cell?,dB]
 have dC:W.cell? ⟨bN,1,none⟩=some (.slice bf E.length bn):=by simp[World.cell?,dB]
 have dD:W.cell? ⟨bN,2,none⟩=some (.slice X rs.length Z):=by simp[World.cell?,dB]
 have fC:Hid (Jax W cD cY cZ dk q wr pg di ex dj):=fB.out.below cJ.out.1
 have fE:Hid (W.cell? ⟨bN,1,none⟩=some (.slice bf E.length bn)∧W.cell? ⟨bN,2,none⟩=some (.slice X rs.length Z)):=⟨dC,dD⟩
 clear hR cj fl dB gv jQ ds mo mp mq fB
 have gM:Hid (∀ z b,Below W.heap.size W z→z.heap[b]?=some (.cells #[.string ⟨#[116]⟩,.slice bf E.length bn,.slice X rs.length Z] 25 (0,0))→Calls prog 6 #[.agg #[.int .i64 1048576,.int .i64 0],.slice (some ⟨b,0,none⟩) 1 1] z fun e fG=>∃ st,e=.returned (.pointer (some ⟨st,0,none⟩))∧Jhr W fG st Zu E rs∧Below z.heap.size z fG):=fun z b fW bc=>
  (Jl3 b Zu bf X bn Z E cH rs z (ca.out.below fW) (by simp[World.cell?,bc]) (by simp[World.cell?,bc]) (by simp[World.cell?,bc]) cD cY cZ dk q wr pg di ex dj (fC.out.below fW)).mono fun e fG ⟨bY,st,ff,gg,gm,mz⟩=>⟨st,gg,Jlx gm fW bY,bY⟩
 go_cut [11] from 29 to 32 (fun s dX=>∃ st:Nat,s=.pointer (some ⟨st,0,none⟩)∧Jhr W dX st Zu E rs)
 case first=>
  refine wp_region_held_drew (S:=fun z=>z.cell? ⟨bN,0,none⟩=some (.string ⟨#[116]⟩)∧z.cell? ⟨bN,1,none⟩=some (.slice bf E.length bn)∧z.cell? ⟨bN,2,none⟩=some (.slice X rs.length Z)) (by kernel_rfl) ⟨gB,dC,dD⟩ (fun y=>?_)
  refine tk 1 ?_ rfl y ?_ ?_
  rotate_left 1
  ·intro w bh;(try dsimp only at bh);go_simp;try rfl
  simp only[Act.put,List.getElem_toArray,List.getElem_cons_zero,List.getElem_cons_succ,Oa1,List.set_cons_zero,List.set_cons_succ]
  have jr:Below W.heap.size W W.drew:=⟨rfl,rfl,rfl,Oa2 _,fun _ _=>rfl⟩
  refine wpAnyH_ready (rs:=[0,2]) (by kernel_rfl) (by simp) (AllReadyH.cons rfl (fun br A=>?_) (AllReadyH.cons rfl (fun br A=>?_) AllReadyH.nil))
  focus
   go_simp
   refine(Jen _).mono ?_
   rintro e cb ⟨rfl,cv⟩
   have gb:Below W.heap.size W cb:=Jb jr cv
   go_simp
   refine A.out _ _ ⟨Ja cv y.1,Ja cv y.2.1,Ja cv y.2.2⟩ (fun y=>?_)
   clear A br
   refine wpAnyH_ready (rs:=[2]) (by kernel_rfl) (by simp) (AllReadyH.cons rfl (fun br A=>?_) AllReadyH.nil)
   go_simp
   have cF:Below cb.heap.size cb (cb.alloc (.cells #[.string ⟨#[116]⟩,.slice bf E.length bn,.slice X rs.length Z] 25)):=(Oa5 _ _).alloc (Oa2 _) _
   have fm:=heap_alloc_new cb (.cells #[.string ⟨#[116]⟩,.slice bf E.length bn,.slice X rs.length Z] 25)
   refine A.out _ _ ⟨Ja cF y.1,Ja cF y.2.1,Ja cF y.2.2⟩ (fun y=>?_)
   clear A br
   refine wpAnyH_ready (rs:=[3]) (by kernel_rfl) (by simp) (AllReadyH.cons rfl (fun br A=>?_) AllReadyH.nil)
   go_simp
   refine(gM.out _ _ (Jb gb cF) fm).mono ?_
  rotate_left 1
  focus
   go_simp
   have cF:Below W.heap.size W ((W.alloc (.cells #[.string ⟨#[116]⟩,.slice bf E.length bn,.slice X rs.length Z] 25)).drew):=Jb jr ((Oa5 _ W.drew).alloc (Oa2 _) (.cells #[.string ⟨#[116]⟩,.slice bf E.length bn,.slice X rs.length Z] 25))
   have fm:((W.alloc (.cells #[.string ⟨#[116]⟩,.slice bf E.length bn,.slice X rs.length Z] 25)).drew).heap[W.heap.size]?=_:=heap_alloc_new W (.cells #[.string ⟨#[116]⟩,.slice bf E.length bn,.slice X rs.length Z] 25)
   refine A.out _ _ ⟨Ja cF gB,Ja cF dC,Ja cF dD⟩ (fun y=>?_)
   clear A br
   refine wpAnyH_ready (rs:=[0]) (by kernel_rfl) (by simp) (AllReadyH.cons rfl (fun br A=>?_) AllReadyH.nil)
   go_simp
   refine(Jen _).mono ?_
   rintro e cb ⟨rfl,cv⟩
   have gb:Below W.heap.size W cb:=Jb cF cv
   have kR:cb.heap[W.heap.size]?=_:=(cv.block _ (Jd fm)).trans fm
   go_simp
   refine A.out _ _ ⟨Ja cv y.1,Ja cv y.2.1,Ja cv y.2.2⟩ (fun y=>?_)
   clear A br
   refine wpAnyH_ready (rs:=[3]) (by kernel_rfl) (by simp) (AllReadyH.cons rfl (fun br A=>?_) AllReadyH.nil)
   go_simp
   refine(gM.out _ _ gb kR).mono ?_
  all_goals
   rintro e dt ⟨st,rfl,jN,dA⟩
   have kw:Hid (Jhr W dt st Zu E rs):=jN
   clear jN
   go_simp
   refine A.out _ _ ⟨Ja dA y.1,Ja dA y.2.1,Ja dA y.2.2⟩ (fun y=>?_)
   clear A br
   refine tk 4 ?_ rfl y ?_ ?_
   rotate_left 1
   ·intro w bh;(try dsimp only at bh);go_simp;try rfl
   simp only[Act.put,List.getElem_toArray,List.getElem_cons_zero,List.getElem_cons_succ,Oa1,List.set_cons_zero,List.set_cons_succ]
   refine wpAnyH_done (by kernel_rfl) ?_ _
   go_wp2_with fail
   go_meet
   case rel=>exact⟨st,rfl,kw.out⟩
 case rest=>
  obtain⟨st,rfl,bJ,ff,cI,T,jP,jO,jx,jS⟩:=hcut
  obtain⟨cs,js⟩:=Jx2 jO jx jS ca.out.tab ca.out.vals
  have cz:Hid (Sto ff wc st cI [T]∧Kd3 cI T Zu E rs cs∧Below W.heap.size W wc):=⟨jP,js,bJ⟩
  have u1:=Ja bJ fE.out.1
  have cA:Hid ((1≤E.length∧E.length≤6)∧(∀ i,i<E.length→Jpr (E.getD i 0))∧rs.length≤200):=⟨ca.out.tab.2.1.1,fun i hi=>by
   have:=ca.out.tok (E.getD i 0) (by rw[Oa0,Oa3 hi];exact Ob3 hi)
   unfold tOk at this
   unfold Jpr
   omega,ca.out.tab.2.2.1⟩
  have jG:=Jm3 cx fu fv E bf bn wc (cy.out.1.below (Jb cJ.out.1 bJ)) cy.out.2.1 cy.out.2.2.1 cy.out.2.2.2.1 (ca.out.types.below bJ) cA.out.1.1 (by have:=cA.out.1.2;omega) cA.out.2.1
  clear jP jO jx jS js bJ gB dC dD
  go_upto_region 7 with(go_at_call 8;refine jG.mono ?_;rintro ch fH ⟨kC,O,rfl,kg,kh,kc,kd,ke,fk⟩)
  have u16:=Ja fk u1
  have ga:=Jb cz.out.2.2 fk
  have jt:=Joq cW ft jZ E bf bn fH (cy.out.2.2.2.2.1.below (Jb cJ.out.1 ga)) cy.out.2.2.2.2.2.1 cy.out.2.2.2.2.2.2.1 (ca.out.types.below ga) cA.out.1.1 (by have:=cA.out.1.2;omega) cA.out.2.1
  have cM:Hid (Je6 fH wc.heap.size kC O∧Uj E O∧1≤O.length∧O.length≤12∧Jbk E O=2∧Below wc.heap.size wc fH):=⟨kg,kh,kc,kd,ke,fk⟩
  clear jG kg kh kc kd ke fk ga u1
  go_upto_region 8 with(go_at_call 9;refine jt.mono ?_;rintro ch bO ⟨mx,U,rfl,eo,et,bV,gT,_,fZ⟩)
  obtain⟨gp,gc,me,_,_,_,jm⟩:=Je6.at cM.out.1 cM.out.2.2.1
  obtain⟨ge,gd,md,_,_,_,jl⟩:=Je6.at eo bV
  subst me md
  have dd:=Jb cM.out.2.2.2.2.2 fZ
  have bz:Hid (Sto ff bO st cI [T]∧Kd3 cI T Zu E rs cs∧Below w.heap.size w bO∧Jax bO cD cY cZ dk q wr pg di ex dj∧Uw bO Zu bf X Z E cH rs∧bO.cell? ⟨bN,2,none⟩=some (.slice X rs.length Z)):=⟨cz.out.1.below dd,cz.out.2.1,Jb cJ.out.1 (Jb cz.out.2.2 dd),fC.out.below (Jb cz.out.2.2 dd),ca.out.below (Jb cz.out.2.2 dd),Ja (Jb cz.out.2.2 dd) fE.out.2⟩
  have bj:Hid ((Uj E O∧1≤O.length∧O.length≤12∧Jbk E O=2∧∀ k p,O[k]?=some p→Qi bO gp (0+k*7) p)∧(Uj E U∧1≤U.length∧U.length≤12∧∀ k p,U[k]?=some p→Qi bO ge (0+k*7) p)∧bO.heap[w.heap.size+1]?=some (.cells #[.int .i64 oz,.int .i64 ob,.int .i64 ol,.int .i64 os] 28 (0,0))):=⟨⟨cM.out.2.1,cM.out.2.2.1,cM.out.2.2.2.1,cM.out.2.2.2.2.1,fun k p bD=>(jm k p bD).below fZ⟩,⟨et,bV,gT,jl⟩,((Jb cz.out.2.2 dd).block _ (Jd cJ.out.2.1)).trans cJ.out.2.1⟩
  have fD:Hid (Jg oz∧Jg ob∧Jg ol):=cy.out.2.2.2.2.2.2.2
  clear jt eo et bV gT fZ dd jm jl u16 cM cz fC fE ca cJ cy
  go_cut [14,15] from 47 to 64 (fun l f dX=>∃ (fa:Nat) (c nd row col C:Int) (Y:World) (g:Nat) (bs:List Nat),f=.pointer (some ⟨fa,0,none⟩)∧dX.heap[fa]?=some (.cells #[.int .i64 c,.int .i64 nd,.int .i64 row,.int .i64 col,.int .i64 C] 40 (0,0))∧Jjg (Ye cI [T]) (Ql O U) Y l c nd row col C g bs dX∧Below bO.heap.size bO dX)
  case first=>
   refine Jkk (fun cD dW R a x=>∃ r:RX,a=Jc5 cD r∧RI ⟨st,O,U,gp,gc,ge,gd,oz,ob,ol,os,Ye cI [T]⟩ dW R r x) [0,1,2,3,4,5,6,7,8,9,10,11,12,13,14,15,16,17,18,19,20] (by kernel_rfl) (by kernel_rfl) (by kernel_rfl) ?_ (Kh.cons rfl ?_ (Kh.cons rfl ?_ (Kh.cons rfl ?_ (Kh.cons rfl ?_ (Kh.cons rfl ?_ (Kh.cons rfl ?_ (Kh.cons rfl ?_ (Kh.cons rfl ?_ (Kh.cons rfl ?_ (Kh.cons rfl ?_ (Kh.cons rfl ?_ (Kh.cons rfl ?_ (Kh.cons rfl ?_ (Kh.cons rfl ?_ (Kh.cons rfl ?_ (Kh.cons rfl ?_ (Kh.cons rfl ?_ (Kh.cons rfl ?_ (Kh.cons rfl ?_ (Kh.cons rfl ?_ (Kh.cons rfl ?_ (Kh.nil)))))))))))))))))))))) ?_
   ·exact⟨⟨undef,undef,undef,undef,undef,undef,undef,undef,undef,undef,undef,undef,undef,undef,undef,undef,undef,undef,undef,undef,0,[],0,bO,undef,0,0,0,0,0⟩,(by kernel_rfl),⟨Jj (Oa5 _ _),Nat.lt_of_le_of_lt (Ob7 _) (Jd bj.out.2.2),fun k bD=>absurd bD Kf6⟩⟩
   ·intro R b x hI H K bA A
    obtain⟨⟨x47,x48,x49,x50,x51,x52,x53,x54,x55,x56,x57,x58,x59,x60,x61,x62,x63,x64,x14,x15,g,bs,fa,Y,ll,c,nd,row,col,C⟩,rfl,hI⟩:=hI
    simp only[Jc5,Act.put,Oa1,List.set_cons_zero,List.set_cons_succ]
    go_simp
    exact A.out _ _ ⟨⟨x47,.pointer (some ⟨st,0,none⟩),x49,x50,x51,x52,x53,x54,x55,x56,x57,x58,x59,x60,x61,x62,x63,x64,x14,x15,g,bs,fa,Y,ll,c,nd,row,col,C⟩,(by kernel_rfl),(hI).op0 H _ rfl⟩
   ·intro R b x hI H K bA A
    obtain⟨⟨x47,x48,x49,x50,x51,x52,x53,x54,x55,x56,x57,x58,x59,x60,x61,x62,x63,x64,x14,x15,g,bs,fa,Y,ll,c,nd,row,col,C⟩,rfl,hI⟩:=hI
    simp only[Jc5,Act.put,Oa1,List.set_cons_zero,List.set_cons_succ]
    go_simp
    refine(Jor _ _).mono ?_
    rintro ch cb ⟨rfl,bc⟩
    go_simp
    exact A.out _ _ ⟨⟨x47,x48,Nd.val ⟨0,0,0,Zu,(none,0,0),(none,0,0),0⟩,x50,x51,x52,x53,x54,x55,x56,x57,x58,x59,x60,x61,x62,x63,x64,x14,x15,g,bs,fa,Y,ll,c,nd,row,col,C⟩,(by kernel_rfl),(hI.grow bc).op1 H _ rfl⟩
   ·intro R b x hI H K bA A
    obtain⟨⟨x47,x48,x49,x50,x51,x52,x53,x54,x55,x56,x57,x58,x59,x60,x61,x62,x63,x64,x14,x15,g,bs,fa,Y,ll,c,nd,row,col,C⟩,rfl,hI⟩:=hI
    simp only[Jc5,Act.put,Oa1,List.set_cons_zero,List.set_cons_succ]
    go_simp
    exact A.out _ _ ⟨⟨x47,x48,x49,.slice (some ⟨gp,0,none⟩) O.length gc,x51,x52,x53,x54,x55,x56,x57,x58,x59,x60,x61,x62,x63,x64,x14,x15,g,bs,fa,Y,ll,c,nd,row,col,C⟩,(by kernel_rfl),(hI).op2 H _ rfl⟩
   ·intro R b x hI H K bA A
    obtain⟨⟨x47,x48,x49,x50,x51,x52,x53,x54,x55,x56,x57,x58,x59,x60,x61,x62,x63,x64,x14,x15,g,bs,fa,Y,ll,c,nd,row,col,C⟩,rfl,hI⟩:=hI
    have dx:x50=.slice (some ⟨gp,0,none⟩) O.length gc:=hI.f2 (K ⟨2,.data⟩ (by simp) (by rfl))
    subst dx
    simp only[Jc5,Act.put,Oa1,List.set_cons_zero,List.set_cons_succ]
    go_simp
    exact A.out _ _ ⟨⟨x47,x48,x49,.slice (some ⟨gp,0,none⟩) O.length gc,.slice (some ⟨x.heap.size,0,none⟩) 1 1,x52,x53,x54,x55,x56,x57,x58,x59,x60,x61,x62,x63,x64,x14,x15,g,bs,fa,Y,ll,c,nd,row,col,C⟩,(by kernel_rfl),(hI.grow (Jc (Oa5 _ _) _)).op3 H _ ⟨x.heap.size,rfl,fun _=>heap_alloc_new x _⟩⟩
   ·intro R b x hI H K bA A
    obtain⟨⟨x47,x48,x49,x50,x51,x52,x53,x54,x55,x56,x57,x58,x59,x60,x61,x62,x63,x64,x14,x15,g,bs,fa,Y,ll,c,nd,row,col,C⟩,rfl,hI⟩:=hI
    obtain⟨bW,fO,bc⟩:=hI.f3 (K ⟨3,.data⟩ (by simp) (by rfl))
    have fO:x51=.slice (some ⟨bW,0,none⟩) 1 1:=fO
    subst fO
    simp only[Jc5,Act.put,Oa1,List.set_cons_zero,List.set_cons_succ]
    go_simp
    exact A.out _ _ ⟨⟨x47,x48,x49,x50,.slice (some ⟨bW,0,none⟩) 1 1,Nd.val ⟨1,0,0,⟨#[]⟩,(some ⟨bW,0,none⟩,1,1),(none,0,0),0⟩,x53,x54,x55,x56,x57,x58,x59,x60,x61,x62,x63,x64,x14,x15,g,bs,fa,Y,ll,c,nd,row,col,C⟩,(by kernel_rfl),(hI).op4 H _ ⟨bW,rfl,fun hn=>bc fun bi=>hn (Kq bi)⟩⟩
   ·intro R b x hI H K bA A
    obtain⟨⟨x47,x48,x49,x50,x51,x52,x53,x54,x55,x56,x57,x58,x59,x60,x61,x62,x63,x64,x14,x15,g,bs,fa,Y,ll,c,nd,row,col,C⟩,rfl,hI⟩:=hI
    simp only[Jc5,Act.put,Oa1,List.set_cons_zero,List.set_cons_succ]
    go_simp
    exact A.out _ _ ⟨⟨x47,x48,x49,x50,x51,x52,.slice (some ⟨ge,0,none⟩) U.length gd,x54,x55,x56,x57,x58,x59,x60,x61,x62,x63,x64,x14,x15,g,bs,fa,Y,ll,c,nd,row,col,C⟩,(by kernel_rfl),(hI).op5 H _ rfl⟩
   ·intro R b x hI H K bA A
    obtain⟨⟨x47,x48,x49,x50,x51,x52,x53,x54,x55,x56,x57,x58,x59,x60,x61,x62,x63,x64,x14,x15,g,bs,fa,Y,ll,c,nd,row,col,C⟩,rfl,hI⟩:=hI
    simp only[Jc5,Act.put,Oa1,List.set_cons_zero,List.set_cons_succ]
    go_simp
    exact A.out _ _ ⟨⟨x47,x48,x49,x50,x51,x52,x53,Jsa,x55,x56,x57,x58,x59,x60,x61,x62,x63,x64,x14,x15,g,bs,fa,Y,ll,c,nd,row,col,C⟩,(by kernel_rfl),(hI).op6 H _ rfl⟩
   ·intro R b x hI H K bA A
    obtain⟨⟨x47,x48,x49,x50,x51,x52,x53,x54,x55,x56,x57,x58,x59,x60,x61,x62,x63,x64,x14,x15,g,bs,fa,Y,ll,c,nd,row,col,C⟩,rfl,hI⟩:=hI
    have kJ:x54=Jsa:=hI.f6 (K ⟨6,.data⟩ (by simp) (by rfl))
    subst kJ
    simp only[Jc5,Act.put,Oa1,List.set_cons_zero,List.set_cons_succ]
    go_simp
    exact A.out _ _ ⟨⟨x47,x48,x49,x50,x51,x52,x53,Jsa,.slice (some ⟨x.heap.size,0,none⟩) 1 1,x56,x57,x58,x59,x60,x61,x62,x63,x64,x14,x15,g,bs,fa,Y,ll,c,nd,row,col,C⟩,(by kernel_rfl),(hI.grow (Jc (Oa5 _ _) _)).op7 H _ ⟨x.heap.size,rfl,fun _=>heap_alloc_new x _⟩⟩
   ·intro R b x hI H K bA A
    obtain⟨⟨x47,x48,x49,x50,x51,x52,x53,x54,x55,x56,x57,x58,x59,x60,x61,x62,x63,x64,x14,x15,g,bs,fa,Y,ll,c,nd,row,col,C⟩,rfl,hI⟩:=hI
    have dy:x53=.slice (some ⟨ge,0,none⟩) U.length gd:=hI.f5 (K ⟨5,.data⟩ (by simp) (by rfl))
    obtain⟨ci,fR,bc⟩:=hI.f7 (K ⟨7,.data⟩ (by simp) (by rfl))
    have fR:x55=.slice (some ⟨ci,0,none⟩) 1 1:=fR
    subst dy fR
    simp only[Jc5,Act.put,Oa1,List.set_cons_zero,List.set_cons_succ]
    go_simp
    exact A.out _ _ ⟨⟨x47,x48,x49,x50,x51,x52,.slice (some ⟨ge,0,none⟩) U.length gd,x54,.slice (some ⟨ci,0,none⟩) 1 1,.slice (some ⟨x.heap.size,0,none⟩) 2 2,x57,x58,x59,x60,x61,x62,x63,x64,x14,x15,g,bs,fa,Y,ll,c,nd,row,col,C⟩,(by kernel_rfl),(hI.grow (Jc (Oa5 _ _) _)).op8 H _ ⟨x.heap.size,ci,rfl,fun hn=>⟨heap_alloc_new x _,(bc fun bi=>hn (Kq bi)).grow (Jc (Oa5 _ _) _)⟩⟩⟩
   ·intro R b x hI H K bA A
    obtain⟨⟨x47,x48,x49,x50,x51,x52,x53,x54,x55,x56,x57,x58,x59,x60,x61,x62,x63,x64,x14,x15,g,bs,fa,Y,ll,c,nd,row,col,C⟩,rfl,hI⟩:=hI
    obtain⟨bX,ci,fS,bc⟩:=hI.f8 (K ⟨8,.data⟩ (by simp) (by rfl))
    have fS:x56=.slice (some ⟨bX,0,none⟩) 2 2:=fS
    subst fS
    simp only[Jc5,Act.put,Oa1,List.set_cons_zero,List.set_cons_succ]
    go_simp
    exact A.out _ _ ⟨⟨x47,x48,x49,x50,x51,x52,x53,x54,x55,.slice (some ⟨bX,0,none⟩) 2 2,Nd.val ⟨2,1,0,⟨#[]⟩,(some ⟨bX,0,none⟩,2,2),(none,0,0),0⟩,x58,x59,x60,x61,x62,x63,x64,x14,x15,g,bs,fa,Y,ll,c,nd,row,col,C⟩,(by kernel_rfl),(hI).op9 H _ ⟨bX,ci,rfl,fun hn=>bc fun bi=>hn (Kq bi)⟩⟩
   ·intro R b x hI H K bA A
    obtain⟨⟨x47,x48,x49,x50,x51,x52,x53,x54,x55,x56,x57,x58,x59,x60,x61,x62,x63,x64,x14,x15,g,bs,fa,Y,ll,c,nd,row,col,C⟩,rfl,hI⟩:=hI
    have bP:x49=Nd.val ⟨0,0,0,Zu,(none,0,0),(none,0,0),0⟩:=hI.f1 (K ⟨1,.data⟩ (by simp) (by rfl))
    obtain⟨bW,fP,bc⟩:=hI.f4 (K ⟨4,.data⟩ (by simp) (by rfl))
    obtain⟨bX,ci,fT,bK⟩:=hI.f9 (K ⟨9,.data⟩ (by simp) (by rfl))
    have fP:x52=Nd.val ⟨1,0,0,⟨#[]⟩,(some ⟨bW,0,none⟩,1,1),(none,0,0),0⟩:=fP
    have fT:x57=Nd.val ⟨2,1,0,⟨#[]⟩,(some ⟨bX,0,none⟩,2,2),(none,0,0),0⟩:=fT
    subst bP fP fT
    simp only[Jc5,Act.put,Oa1,List.set_cons_zero,List.set_cons_succ]
    go_simp
    exact A.out _ _ ⟨⟨x47,x48,Nd.val ⟨0,0,0,Zu,(none,0,0),(none,0,0),0⟩,x50,x51,Nd.val ⟨1,0,0,⟨#[]⟩,(some ⟨bW,0,none⟩,1,1),(none,0,0),0⟩,x53,x54,x55,x56,Nd.val ⟨2,1,0,⟨#[]⟩,(some ⟨bX,0,none⟩,2,2),(none,0,0),0⟩,.slice (some ⟨x.heap.size,0,none⟩) 3 3,x59,x60,x61,x62,x63,x64,x14,x15,g,bs,fa,Y,ll,c,nd,row,col,C⟩,(by kernel_rfl),(hI.grow (Jc (Oa5 _ _) _)).op10 H _ ⟨x.heap.size,bW,bX,ci,rfl,fun hn=>⟨heap_alloc_new x _,(bc fun bi=>hn (Kq bi)).grow (Jc (Oa5 _ _) _),(bK fun bi=>hn (Kq bi)).grow (Jc (Oa5 _ _) _)⟩⟩⟩
   ·intro R b x hI H K bA A
    obtain⟨⟨x47,x48,x49,x50,x51,x52,x53,x54,x55,x56,x57,x58,x59,x60,x61,x62,x63,x64,x14,x15,g,bs,fa,Y,ll,c,nd,row,col,C⟩,rfl,hI⟩:=hI
    obtain⟨cS,bW,bX,ci,fI,bc⟩:=hI.f10 (K ⟨10,.data⟩ (by simp) (by rfl))
    have fI:x58=.slice (some ⟨cS,0,none⟩) 3 3:=fI
    subst fI
    simp only[Jc5,Act.put,Oa1,List.set_cons_zero,List.set_cons_succ]
    go_simp
    exact A.out _ _ ⟨⟨x47,x48,x49,x50,x51,x52,x53,x54,x55,x56,x57,.slice (some ⟨cS,0,none⟩) 3 3,.agg #[.slice (some ⟨cS,0,none⟩) 3 3],x60,x61,x62,x63,x64,x14,x15,g,bs,fa,Y,ll,c,nd,row,col,C⟩,(by kernel_rfl),(hI).op11 H _ ⟨cS,bW,bX,ci,rfl,fun hn=>bc fun bi=>hn (Kq bi)⟩⟩
   ·intro R b x hI H K bA A
    obtain⟨⟨x47,x48,x49,x50,x51,x52,x53,x54,x55,x56,x57,x58,x59,x60,x61,x62,x63,x64,x14,x15,g,bs,fa,Y,ll,c,nd,row,col,C⟩,rfl,hI⟩:=hI
    have dV:=(hI.low.block _ (Jd bj.out.2.2)).trans bj.out.2.2
    have mM:x.cell? ⟨w.heap.size+1,0,none⟩=some (.int .i64 oz):=by simp[World.cell?,dV]
    have mN:x.cell? ⟨w.heap.size+1,1,none⟩=some (.int .i64 ob):=by simp[World.cell?,dV]
    have ms:x.cell? ⟨w.heap.size+1,2,none⟩=some (.int .i64 ol):=by simp[World.cell?,dV]
    have mO:x.cell? ⟨w.heap.size+1,3,none⟩=some (.int .i64 os):=by simp[World.cell?,dV]
    clear dV
    simp only[Jc5,Act.put,Oa1,List.set_cons_zero,List.set_cons_succ]
    go_simp
    exact A.out _ _ ⟨⟨x47,x48,x49,x50,x51,x52,x53,x54,x55,x56,x57,x58,x59,.agg #[.int .i64 oz,.int .i64 ob,.int .i64 ol,.int .i64 os],x61,x62,x63,x64,x14,x15,g,bs,fa,Y,ll,c,nd,row,col,C⟩,(by kernel_rfl),(hI).op12 H _ rfl⟩
   ·intro R b x hI H K bA A
    obtain⟨⟨x47,x48,x49,x50,x51,x52,x53,x54,x55,x56,x57,x58,x59,x60,x61,x62,x63,x64,x14,x15,g,bs,fa,Y,ll,c,nd,row,col,C⟩,rfl,hI⟩:=hI
    have kG:x60=.agg #[.int .i64 oz,.int .i64 ob,.int .i64 ol,.int .i64 os]:=hI.f12 (K ⟨12,.data⟩ (by simp) (by rfl))
    subst kG
    simp only[Jc5,Act.put,Oa1,List.set_cons_zero,List.set_cons_succ]
    go_simp
    refine(Jqk oz ob ol os x fD.out.1 fD.out.2.1 fD.out.2.2).mono ?_
    rintro ch cb ⟨⟨dH,dw,dv,rfl,dT,dU,gw,gx,gn,go⟩,bc⟩
    go_simp
    exact A.out _ _ ⟨⟨x47,x48,x49,x50,x51,x52,x53,x54,x55,x56,x57,x58,x59,.agg #[.int .i64 oz,.int .i64 ob,.int .i64 ol,.int .i64 os],.agg #[.int .i64 dH,.int .i64 dw,.int .i64 dv,.int .i64 os],x62,x63,x64,x14,x15,g,bs,fa,Y,ll,c,nd,row,col,C⟩,(by kernel_rfl),(hI.grow bc).op13 H _ ⟨dH,dw,dv,rfl,dT,dU,gw,gx,gn,go⟩⟩
   ·intro R b x hI H K bA A
    obtain⟨⟨x47,x48,x49,x50,x51,x52,x53,x54,x55,x56,x57,x58,x59,x60,x61,x62,x63,x64,x14,x15,g,bs,fa,Y,ll,c,nd,row,col,C⟩,rfl,hI⟩:=hI
    have h0:x48=.pointer (some ⟨st,0,none⟩):=hI.f0 (K ⟨0,.data⟩ (by simp) (by rfl))
    obtain⟨cS,bW,bX,ci,fJ,gX⟩:=hI.f11 (K ⟨11,.data⟩ (by simp) (by rfl))
    obtain⟨dH,dw,dv,fK,dT,dU,gw,gx,gn,go⟩:=hI.f13 (K ⟨13,.data⟩ (by simp) (by rfl))
    have fJ:x59=.agg #[.slice (some ⟨cS,0,none⟩) 3 3]:=fJ
    have fK:x61=.agg #[.int .i64 dH,.int .i64 dw,.int .i64 dv,.int .i64 os]:=fK
    subst h0 fJ fK
    obtain⟨gY,gZ,jb,ja⟩:=gX (Yb H)
    have jL:=Kfs ff st cI T cs E rs x (bz.out.1.below hI.low) bz.out.2.1 cA.out.2.2 cD cY cZ dk q wr pg di ex dj (bz.out.2.2.2.1.below hI.low) O U bj.out.1.1 bj.out.1.2.1 bj.out.1.2.2.1 bj.out.1.2.2.2.1 bj.out.2.1.1 bj.out.2.1.2.1 bj.out.2.1.2.2.1 cS bW bX ci gp gc ge gd gY gZ (fun k p bD=>(bj.out.1.2.2.2.2 k p bD).below hI.low) jb (fun k p bD=>(bj.out.2.1.2.2.2 k p bD).below hI.low) ja dH dw dv os dT dU gw gx gn go
    clear gY gZ jb ja gX
    simp only[Jc5,Act.put,Oa1,List.set_cons_zero,List.set_cons_succ]
    go_simp
    refine jL.mono ?_
    rintro ch cb ⟨bc,kz,ka,gR,kb,ki,gS,kf,kN,rfl,hR⟩
    obtain⟨dL,bs',cE⟩:=hR.g
    have kp:Hid _:=cE
    have kn:Hid (dn R 18→fa≠dL∧fa∉bs'):=fun bi=>by
     have db:bO.heap.size≤fa:=(hI.f18 bi).2.1
     have gV:fa<x.heap.size:=(hI.f18 bi).2.2.1
     exact cE.from (by have:=hI.pos;omega) (by have:=kN.size;omega)
    clear hR cE jL
    go_simp
    exact A.out _ _ ⟨⟨x47,.pointer (some ⟨st,0,none⟩),x49,x50,x51,x52,x53,x54,x55,x56,x57,x58,.agg #[.slice (some ⟨cS,0,none⟩) 3 3],x60,.agg #[.int .i64 dH,.int .i64 dw,.int .i64 dv,.int .i64 os],.tuple #[ka,Ko gR kb ki gS kf],x63,x64,x14,x15,dL,bs',fa,kz,ka,gR,kb,ki,gS,kf⟩,(by kernel_rfl),(hI.grow bc).op14 H _ _ _ _ _ _ _ _ _ _ kn.out ⟨rfl,kp.out⟩⟩
   ·intro R b x hI H K bA A
    obtain⟨⟨x47,x48,x49,x50,x51,x52,x53,x54,x55,x56,x57,x58,x59,x60,x61,x62,x63,x64,x14,x15,g,bs,fa,Y,ll,c,nd,row,col,C⟩,rfl,hI⟩:=hI
    have gW:=hI.f14 (K ⟨14,.data⟩ (by simp) (by rfl))
    have kH:x62=.tuple #[ll,Ko c nd row col C]:=gW.1
    clear gW
    subst kH
    simp only[Jc5,Act.put,Oa1,List.set_cons_zero,List.set_cons_succ]
    go_simp
    exact A.out _ _ ⟨⟨.tuple #[ll,Ko c nd row col C],x48,x49,x50,x51,x52,x53,x54,x55,x56,x57,x58,x59,x60,x61,.tuple #[ll,Ko c nd row col C],x63,x64,x14,x15,g,bs,fa,Y,ll,c,nd,row,col,C⟩,(by kernel_rfl),(hI).op15 H _ ⟨Kq (K ⟨14,.data⟩ (by simp) (by rfl)),rfl⟩⟩
   ·intro R b x hI H K bA A
    obtain⟨⟨x47,x48,x49,x50,x51,x52,x53,x54,x55,x56,x57,x58,x59,x60,x61,x62,x63,x64,x14,x15,g,bs,fa,Y,ll,c,nd,row,col,C⟩,rfl,hI⟩:=hI
    have dc:=hI.f15 (K ⟨15,.data⟩ (by simp) (by rfl))
    have cf:=dc.1
    have fQ:x47=.tuple #[ll,Ko c nd row col C]:=dc.2
    clear dc
    subst fQ
    have dI:Hid (dn R 14):=cf
    clear cf
    simp only[Jc5,Act.put,Oa1,List.set_cons_zero,List.set_cons_succ]
    go_simp
    exact A.out _ _ ⟨⟨.tuple #[ll,Ko c nd row col C],x48,x49,x50,x51,x52,x53,x54,x55,x56,x57,x58,x59,x60,x61,x62,ll,x64,x14,x15,g,bs,fa,Y,ll,c,nd,row,col,C⟩,(by kernel_rfl),(hI).op16 H _ ⟨Kq dI.out,rfl⟩⟩
   ·intro R b x hI H K bA A
    obtain⟨⟨x47,x48,x49,x50,x51,x52,x53,x54,x55,x56,x57,x58,x59,x60,x61,x62,x63,x64,x14,x15,g,bs,fa,Y,ll,c,nd,row,col,C⟩,rfl,hI⟩:=hI
    have dc:=hI.f15 (K ⟨15,.data⟩ (by simp) (by rfl))
    have cf:=dc.1
    have fQ:x47=.tuple #[ll,Ko c nd row col C]:=dc.2
    clear dc
    subst fQ
    have dI:Hid (dn R 14):=cf
    clear cf
    simp only[Jc5,Act.put,Oa1,List.set_cons_zero,List.set_cons_succ]
    go_simp
    exact A.out _ _ ⟨⟨.tuple #[ll,Ko c nd row col C],x48,x49,x50,x51,x52,x53,x54,x55,x56,x57,x58,x59,x60,x61,x62,x63,Ko c nd row col C,x14,x15,g,bs,fa,Y,ll,c,nd,row,col,C⟩,(by kernel_rfl),(hI).op17 H _ ⟨Kq dI.out,rfl⟩⟩
   ·intro R b x hI H K bA A
    obtain⟨⟨x47,x48,x49,x50,x51,x52,x53,x54,x55,x56,x57,x58,x59,x60,x61,x62,x63,x64,x14,x15,g,bs,fa,Y,ll,c,nd,row,col,C⟩,rfl,hI⟩:=hI
    have gL:Hid (dn R 14→g<x.heap.size∧∀ b∈bs,b<x.heap.size):=fun bi=>(hI.f14 bi).2.lt (by have:=hI.pos;have:=hI.low.size;omega)
    simp only[Jc5,Act.put,Oa1,List.set_cons_zero,List.set_cons_succ]
    go_simp
    exact A.out _ _ ⟨⟨x47,x48,x49,x50,x51,x52,x53,x54,x55,x56,x57,x58,x59,x60,x61,x62,x63,x64,x14,.pointer (some ⟨x.heap.size,0,none⟩),g,bs,x.heap.size,Y,ll,c,nd,row,col,C⟩,(by kernel_rfl),(hI.grow (Jc (Oa5 _ _) _)).op18 H _ _ ⟨rfl,hI.low.size,by simp,fun _=>heap_alloc_new x _,fun bi=>⟨fun e=>by have:=(gL.out (Ki bi (by omega))).1;have e:x.heap.size=g:=e;omega,fun bc=>Oe3 _ ((gL.out (Ki bi (by omega))).2 _ bc)⟩⟩⟩
   ·intro R b x hI H K bA A
    obtain⟨⟨x47,x48,x49,x50,x51,x52,x53,x54,x55,x56,x57,x58,x59,x60,x61,x62,x63,x64,x14,x15,g,bs,fa,Y,ll,c,nd,row,col,C⟩,rfl,hI⟩:=hI
    have fL:=hI.f16 (K ⟨16,.data⟩ (by simp) (by rfl))
    have cf:=fL.1
    have kK:x63=ll:=fL.2
    clear fL
    subst kK
    have dI:Hid (dn R 14):=cf
    clear cf
    simp only[Jc5,Act.put,Oa1,List.set_cons_zero,List.set_cons_succ]
    go_simp
    exact A.out _ _ ⟨⟨x47,x48,x49,x50,x51,x52,x53,x54,x55,x56,x57,x58,x59,x60,x61,x62,x63,x64,x63,x15,g,bs,fa,Y,x63,c,nd,row,col,C⟩,(by kernel_rfl),(hI).op19 H _ ⟨Kq dI.out,rfl⟩⟩
   ·intro R b x hI H K bA A
    obtain⟨⟨x47,x48,x49,x50,x51,x52,x53,x54,x55,x56,x57,x58,x59,x60,x61,x62,x63,x64,x14,x15,g,bs,fa,Y,ll,c,nd,row,col,C⟩,rfl,hI⟩:=hI
    have fh:=hI.f18 (K ⟨18,.data⟩ (by simp) (by rfl))
    have fM:=hI.f17 (K ⟨17,.data⟩ (by simp) (by rfl))
    have cf:=fM.1
    have kL:x64=Ko c nd row col C:=fM.2
    have fN:x15=.pointer (some ⟨fa,0,none⟩):=fh.1
    have db:=fh.2.1
    have fi:=fh.2.2.2.1
    clear fM fh
    subst fN kL
    have bZ:x.heap[fa]?=some (.cells #[.int .i64 0,.int .i64 0,.int .i64 0,.int .i64 0,.int .i64 0] 40 (0,0)):=fi (Yb H)
    have db:bO.heap.size≤fa:=db
    have mG:x.cell? ⟨fa,0,none⟩=some (.int .i64 0):=by simp[World.cell?,bZ]
    have mH:x.cell? ⟨fa,1,none⟩=some (.int .i64 0):=by simp[World.cell?,bZ]
    have mI:x.cell? ⟨fa,2,none⟩=some (.int .i64 0):=by simp[World.cell?,bZ]
    have mJ:x.cell? ⟨fa,3,none⟩=some (.int .i64 0):=by simp[World.cell?,bZ]
    have mK:x.cell? ⟨fa,4,none⟩=some (.int .i64 0):=by simp[World.cell?,bZ]
    have mT:x.frozen? ⟨fa,0,none⟩=false:=by simp[World.frozen?,bZ]
    have mU:x.frozen? ⟨fa,1,none⟩=false:=by simp[World.frozen?,bZ]
    have mV:x.frozen? ⟨fa,2,none⟩=false:=by simp[World.frozen?,bZ]
    have mW:x.frozen? ⟨fa,3,none⟩=false:=by simp[World.frozen?,bZ]
    have mX:x.frozen? ⟨fa,4,none⟩=false:=by simp[World.frozen?,bZ]
    have gt:=Jk (Jk (Jk (Jk (Jk bZ 0 (.int .i64 c)) 1 (.int .i64 nd)) 2 (.int .i64 row)) 3 (.int .i64 col)) 4 (.int .i64 C)
    simp only[Oa1,List.set_cons_zero,List.set_cons_succ]at gt
    have kv:Hid _:=gt
    have km:Hid _:=Um hI.low db (.int .i64 c) (.int .i64 nd) (.int .i64 row) (.int .i64 col) (.int .i64 C)
    have kl:Hid (dn R 14):=cf
    clear gt db fi bZ cf
    simp only[Jc5,Act.put,Oa1,List.set_cons_zero,List.set_cons_succ]
    go_simp
    exact A.out _ _ ⟨⟨x47,x48,x49,x50,x51,x52,x53,x54,x55,x56,x57,x58,x59,x60,x61,x62,x63,Ko c nd row col C,x14,.pointer (some ⟨fa,0,none⟩),g,bs,fa,Y,ll,c,nd,row,col,C⟩,(by kernel_rfl),(hI).op20 H kl.out (K ⟨18,.data⟩ (by simp) (by rfl)) km.out (by simp[World.setCell]) kv.out (fun k bD=>Jib _ _ _ _ _ _ _ k bD)⟩
   intro R b x hI kO fr
   obtain⟨⟨x47,x48,x49,x50,x51,x52,x53,x54,x55,x56,x57,x58,x59,x60,x61,x62,x63,x64,x14,x15,g,bs,fa,Y,ll,c,nd,row,col,C⟩,rfl,hI⟩:=hI
   have bi:∀ k,k<21→dn R k:=fun k bD=>by
    have bP:=kO k bD
    have dx:k<R.size:=by rw[fr];exact bD
    unfold dn
    simp[dx]at bP ⊢
    exact bP
   have cE:=(hI.f14 (bi 14 (by omega))).2
   have fN:x15=.pointer (some ⟨fa,0,none⟩):=(hI.f18 (bi 18 (by omega))).1
   have kI:x14=ll:=(hI.f19 (bi 19 (by omega))).2
   have dN:=(hI.f20 (bi 20 (by omega))).2.2
   subst fN kI
   have cK:Hid _:=dN
   have kq:Hid _:=cE
   have ks:Hid _:=hI.low
   clear dN cE hI
   simp only[Jc5,Act.put,Oa1,List.set_cons_zero,List.set_cons_succ]
   go_wp2_with fail
   go_meet
   case rel=>exact⟨fa,_,_,_,_,_,Y,g,bs,rfl,cK.out,kq.out,ks.out⟩
  case rest=>
   obtain⟨fa,c,nd,row,col,C,Y,g,bs,rfl,dN,cE,bJ⟩:=hcut
   have fF:Hid (Jnv (Ye cI [T]) (Ql O U) Y u14 c nd row col C wc):=cE.run
   have cK:Hid (wc.heap[fa]?=some (.cells #[.int .i64 c,.int .i64 nd,.int .i64 row,.int .i64 col,.int .i64 C] 40 (0,0))):=dN
   have jc:Zd wc X cH rs∧wc.cell? ⟨bN,2,none⟩=some (.slice X rs.length Z)∧(∀ k p,O[k]?=some p→Qi wc gp (0+k*7) p)∧(∀ k p,U[k]?=some p→Qi wc ge (0+k*7) p)∧(∀ i (hi:i<rs.length),Jee E rs[i])∧Below w.heap.size w wc:=⟨bz.out.2.2.2.2.1.rows.below bJ,Ja bJ bz.out.2.2.2.2.2,fun k p bD=>(bj.out.1.2.2.2.2 k p bD).below bJ,fun k p bD=>(bj.out.2.1.2.2.2 k p bD).below bJ,fun i hi=>by
    have bP:=bz.out.2.1.good.ty i (by rw[bz.out.2.1.len];exact hi)
    rw[bz.out.2.1.row i hi,Oa0,Oa3 hi]at bP
    exact bP,Jb bz.out.2.2.1 bJ⟩
   have bS:Hid (Zd wc X cH rs∧wc.cell? ⟨bN,2,none⟩=some (.slice X rs.length Z)∧(∀ k p,O[k]?=some p→Qi wc gp (0+k*7) p)∧(∀ k p,U[k]?=some p→Qi wc ge (0+k*7) p)∧(∀ i (hi:i<rs.length),Jee E rs[i])∧Below w.heap.size w wc):=jc
   have mA:rs.length≤200:=cA.out.2.2
   clear dN cE bJ jc
   go_wp2
   go_loopw [16,17] (fun mn i wr=>∃ (k:Nat) (bE:List (Option Addr×Nat)),k≤rs.length∧i=.int .i64 (k:Int)∧Jfi wc mn bE (Qy O (rs.take k)) wr∧Hid (∀ j,j<k→∃ v,Kl O (rs.getD j [])=.inl v)) (fun _ i _=>rs.length-(intOf i).toNat)
   case atStart=>exact⟨0,[],Ob7 _,rfl,Jfi.nil wc,fun j cr=>absurd cr (Oe0 _)⟩
   case round=>
    obtain⟨k,bE,bD,rfl,A,fc⟩:=hrel
    have fy:Hid _:=A
    have mt:=Ja A.low bS.out.2.1
    by_cases bx:k<rs.length
    ·obtain⟨b,o,dE,fw,dQ,bc,bK,jT⟩:=(bS.out.1.below A.low).at bx
     have dg:Jv wc dE rs[k]:=by
      obtain⟨b2,ms,mQ,mR,kZ,_,kQ,mc⟩:=bS.out.1.at bx
      rw[kZ]at dQ
      cases dQ
      have:=Ja A.low kQ
      rw[this]at bK
      simp only[Oc9,On8]at bK
      rw[←bK.1]
      exact mc
     have dh:=(Jls O rs[k] E gp 0 gc dE fw wr (fun j p cr=>(bS.out.2.2.1 j p cr).below A.low) bj.out.1.1 jT (bS.out.2.2.2.2.1 k bx) (fun e=>by have:=bj.out.1.2.1;rw[e]at this;simp at this) (by have:=bj.out.1.2.2.1;omega)).mono fun e w' h=>Jj5 h
     have dJ:Hid (Jv wc dE rs[k]∧k<rs.length):=⟨dg,bx⟩
     obtain⟨x,cu⟩:∃ x,x=rs[k]:=⟨_,rfl⟩
     have cB:Hid (x=rs[k]):=cu
     rw[←cu]at bK dh
     have mj:(0:Int)≤(k:Int):=by omega
     have ml:(k:Int)<(rs.length:Int):=by omega
     subst dQ
     clear jT dg cu A
     go_upto_region 14 with(go_at_call 13;refine dh.mono ?_;rintro ch bI ⟨bQ,v,bH,rfl,dM⟩)
     have cX:Hid ((bH=0∧Kl O x=.inl v)∨(bH≠0∧Kl O x=.inr bH)):=dM
     have bY:Below bI.heap.size bI (bI.alloc (.cells #[.int .i64 v.k,.int .i64 v.n,.string v.s] 49)):=Jc (Oa5 _ _) _
     have bR:=heap_alloc_new bI (.cells #[.int .i64 v.k,.int .i64 v.n,.string v.s] 49)
     have cG:=Ja (Jb bQ bY) bK
     have bu:Hid (Jfi wc _ bE (Qy O (rs.take k)) (bI.alloc (.cells #[.int .i64 v.k,.int .i64 v.n,.string v.s] 49))):=fy.out.below (Jb bQ bY)
     obtain⟨bG,dR⟩:∃ bG,bG=bI.heap.size:=⟨_,rfl⟩
     rw[←dR]at bR ⊢
     generalize bI.alloc (.cells #[.int .i64 v.k,.int .i64 v.n,.string v.s] 49)=z at bR bu cG ⊢
     have dG:z.cell? ⟨bG,0,none⟩=some (.int .i64 v.k):=by simp[World.cell?,bR]
     have dY:z.cell? ⟨bG,1,none⟩=some (.int .i64 v.n):=by simp[World.cell?,bR]
     have dZ:z.cell? ⟨bG,2,none⟩=some (.string v.s):=by simp[World.cell?,bR]
     have gC:=Ja bu.out.low bS.out.2.1
     clear bQ bY dR bR dM dh fy mt bK
     have dS:rs.getD k []=x:=by rw[cB.out,Oa0,Oa3 bx];rfl
     have dK:Hid (rs.getD k []=x):=dS
     clear dS
     rcases cX.out with⟨h0,bL⟩|⟨h0,bL⟩
     ·subst h0
      have mv:Hid (Kl O x=.inl v):=bL
      have dO:=Jj7 v z
      have dq:Hid ((∀ j,j<k+1→∃ v,Kl O (rs.getD j [])=.inl v)∧Qy O (rs.take (k+1))=Qy O (rs.take k)++(if isT v=true then [rs[k]]else [])):=by
       refine⟨fun j cr=>?_,?_⟩
       ·by_cases e:j=k
        ·subst e
         exact⟨v,by rw[dK.out];exact bL⟩
        exact fc.out j (by omega)
       have dA:rs[k]=x:=cB.out.symm
       have jB:=(Jp2 bj.out.1.1 (by rw[←dA];exact bS.out.2.2.2.2.1 k bx) bj.out.1.2.1 bL).1
       rw[bj.out.1.2.2.2.1]at jB
       rw[Jxh bx,dA,Jgd bL,Khv jB]
       simp
      clear bL cX
      cases hT:isT v
      ·rw[hT]at dO dq
       go_wp2_with (go_at_call 15;refine dO.mono ?_;rintro ch dt ⟨rfl,cj⟩)
       go_roundw
       case rel=>exact⟨k+1,bE,bx,by go_num,by rw[dq.out.2,if_neg (by simp),Od7];exact bu.out.below cj,dq.out.1⟩
       case measure=>simp[intOf];omega
      rw[hT]at dO dq
      go_upto_region 18 with(go_at_call 15;refine dO.mono ?_;rintro ch dt ⟨rfl,cj⟩)
      have fz:Hid (Jfi wc _ bE (Qy O (rs.take k)) dt):=bu.out.below cj
      have mS:=Ja cj gC
      have my:=Ja cj cG
      have jv:(List.zipWith Je1 bE (Qy O (rs.take k))).length≤200:=by
       rw[Oj8]
       have bP:=Ok1 (fun x=>decide ((pv1 O x).n=1)) (rs.take k)
       have dx:(Qy O (rs.take k)).length≤(rs.take k).length:=bP
       rw[Oc7]at dx
       omega
      have kr:Hid ((List.zipWith Je1 bE (Qy O (rs.take k))).length≤200):=jv
      clear jv bu cj dG dY dZ gC cG dO
      go_wp2_with (at_builtin;go_must (refine Ul (by rfl) _ _ 23 59 _ 24 Jip (by rfl) (by decide) (by kernel_rfl) (by rfl) wc.heap.size _ _ (by rfl) (Jo.alloc fz.out.own _) ⟨dt.heap.size,0,none⟩ 1 [Je1 (dE,fw) x] (by rfl) (by exact Ua dt _ _) (by intro u cl;simp at cl;subst cl;rfl) (by have:=kr.out;simp only[List.length_cons,List.length_nil];omega) (by have:=fz.out.low.size;simp;omega) ?_);intro kv' w4 dC dD mP)
      go_roundw
      case rel=>exact⟨k+1,bE++[(dE,fw)],bx,by go_num,by rw[dq.out.2,if_pos trivial];have:=cB.out;rw[←this];exact fz.out.more (dE,fw) x (by rw[this];exact dJ.out.1) _ dC dD,dq.out.1⟩
      case measure=>simp[intOf];omega
     obtain⟨bV,cN,cO,cP,cQ,da⟩:=Jzi rfl bz.out.2.1.tab bz.out.2.1.len bz.out.2.1.row fF.out bx (by rw[dK.out];exact bL) fc.out
     have bl:=(bu.out.low.block _ (Jd cK.out)).trans cK.out
     rw[cN,cO,cP,cQ,da]at bl
     have cl:u14=.slice none 0 0:=bV
     have fA:Hid (Below w.heap.size w z):=Jb bS.out.2.2.2.2.2 bu.out.low
     clear bV cN cO cP cQ da
     subst cl
     have kS:¬ ((bH:Int)=0):=by omega
     have dW:z.cell? ⟨fa,0,none⟩=some (.int .i64 (bH:Int)):=by simp[World.cell?,bl]
     have w1:z.cell? ⟨fa,1,none⟩=some (.int .i64 1):=by simp[World.cell?,bl]
     have gD:z.cell? ⟨fa,2,none⟩=some (.int .i64 (k:Int)):=by simp[World.cell?,bl]
     have gE:z.cell? ⟨fa,3,none⟩=some (.int .i64 (-1)):=by simp[World.cell?,bl]
     have w4:z.cell? ⟨fa,4,none⟩=some (.int .i64 (-1)):=by simp[World.cell?,bl]
     clear bl bL cX bu dG dY dZ gC cG
     go_upto_region 15 with fail
     have jH:=Jmf (bH:Int) 1 (k:Int) (-1) (-1)
     refine wp_region_held_drew (S:=fun z=>z.cell? ⟨fa,0,none⟩=some (.int .i64 (bH:Int))∧z.cell? ⟨fa,1,none⟩=some (.int .i64 1)∧z.cell? ⟨fa,2,none⟩=some (.int .i64 (k:Int))∧z.cell? ⟨fa,3,none⟩=some (.int .i64 (-1))∧z.cell? ⟨fa,4,none⟩=some (.int .i64 (-1))) (by kernel_rfl) ⟨Jh dW,Jh w1,Jh gD,Jh gE,Jh w4⟩ (fun y=>?_)
     refine tk 0 ?_ rfl y ?_ (tk 1 ?_ rfl y ?_ (tk 2 ?_ rfl y ?_ (tk 3 ?_ rfl y ?_ ?_)))
     iterate 4
      rotate_left 1
      ·intro w bh;(try dsimp only at bh);go_simp;try rfl
     simp only[Act.put,List.getElem_toArray,List.getElem_cons_zero,List.getElem_cons_succ,Oa1,List.set_cons_zero,List.set_cons_succ]
     refine tk 4 ?_ rfl y ?_ (tk 5 ?_ rfl y ?_ (tk 6 ?_ rfl y ?_ ?_))
     iterate 3
      rotate_left 1
      ·intro w bh;(try dsimp only at bh);go_simp;try rfl
     simp only[Act.put,List.getElem_toArray,List.getElem_cons_zero,List.getElem_cons_succ,Oa1,List.set_cons_zero,List.set_cons_succ]
     refine wpAnyH_ready (rs:=[7]) (by kernel_rfl) (by simp) (AllReadyH.cons rfl (fun br A=>?_) AllReadyH.nil)
     go_simp
     refine(Jxv _ _ _ _).mono ?_
     rintro e gO ⟨rfl,bB⟩
     go_simp
     refine A.out _ _ ⟨Ja bB y.1,Ja bB y.2.1,Ja bB y.2.2.1,Ja bB y.2.2.2.1,Ja bB y.2.2.2.2⟩ (fun y=>?_)
     clear A br
     refine tk 8 ?_ rfl y ?_ (tk 9 ?_ rfl y ?_ (tk 10 ?_ rfl y ?_ ?_))
     iterate 3
      rotate_left 1
      ·intro w bh;(try dsimp only at bh);go_simp;try rfl
     simp only[Act.put,List.getElem_toArray,List.getElem_cons_zero,List.getElem_cons_succ,Oa1,List.set_cons_zero,List.set_cons_succ]
     refine wpAnyH_done (by kernel_rfl) ?_ _
     go_wp2
     go_ret
     exact⟨rfl,Jb fA.out (Jw bB)⟩
    obtain rfl:k=rs.length:=by omega
    rw[Of2]at A
    have kM:(Qy O rs).length≤200:=by
     have bP:(Qy O rs).length≤rs.length:=Ok1 _ _
     omega
    have fV:∀ r∈Qy O rs,Jee E r:=fun r dP=>by
     have bP:r∈rs:=(Om0.1 dP).1
     obtain⟨i,hi,rfl⟩:=Od5 bP
     exact bS.out.2.2.2.2.1 i hi
    obtain⟨mm,mL,gj,gi⟩:=A.own.cells
    rw[Jhl bE _ A.len]at gj
    obtain⟨M,fU⟩:∃ M,M=Qy O rs:=⟨_,rfl⟩
    rw[←fU]at gj gi kM fV A
    obtain⟨wk,rfl⟩:∃ wk:World,wk=wr:=⟨wr,rfl⟩
    have bC:Hid (Uh wk mm (List.zipWith Je1 bE M)∧bE.length=M.length∧(∀ (i:Nat) x r,bE[i]?=some x→M[i]?=some r→Jv wc x.1 r)∧Below wc.heap.size wc wk∧M=Qy O rs∧∀ r∈M,Jee E r):=⟨gi,A.len,A.vals,A.low,fU,fV⟩
    subst gj
    have mE:¬ ((rs.length:Int)<(rs.length:Int)):=by omega
    clear gi A fU fV fy
    go_wp2
    go_loopw [21,22] (fun mu i wr=>∃ (k:Nat) (bw:List Nat),k≤M.length∧i=.int .i64 (k:Int)∧Jda wk mu bw ((M.take k).map (Jcl U)) wr∧Hid (∀ j,j<k→∃ v,Kl U (M.getD j [])=.inl v)) (fun _ i _=>M.length-(intOf i).toNat)
    case atStart=>exact⟨0,[],Ob7 _,rfl,Jda.nil wk,fun j cr=>absurd cr (Oe0 _)⟩
    case round=>
     obtain⟨k,bw,bD,rfl,hW,fb⟩:=hrel
     have fe:Hid _:=hW
     by_cases bx:k<M.length
     ·have kW:k<bE.length:=by rw[bC.out.2.1];exact bx
      obtain⟨b,o,dQ,bc,bK⟩:=(bC.out.1.below hW.low).at (i:=k) (by rw[Jhl bE M bC.out.2.1];exact bx)
      rw[List.getElem_zipWith]at bK
      have dg:Jv wc bE[k].1 M[k]:=bC.out.2.2.1 k _ _ (Oa3 kW) (Oa3 bx)
      have de:=Jb bC.out.2.2.2.1 hW.low
      obtain⟨gH,jX⟩:∃ gH,gH=bE[k]:=⟨_,rfl⟩
      rw[←jX]at bK dg
      clear jX
      obtain⟨gG,kj⟩:=gH
      have dh:=(Jls U M[k] E ge 0 gd gG kj wr (fun j p cr=>(bS.out.2.2.2.1 j p cr).below de) bj.out.2.1.1 (dg.below de) (bC.out.2.2.2.2.2 _ (Ob3 bx)) (fun e=>by have:=bj.out.2.1.2.1;rw[e]at this;simp at this) (by have:=bj.out.2.1.2.2.1;omega)).mono fun e w' h=>Jj5 h
      have jR:=bC.out.2.2.2.2.2 _ (Ob3 bx)
      have dJ:Hid (Jv wc gG M[k]∧k<M.length∧Jee E M[k]):=⟨dg,bx,jR⟩
      obtain⟨x,cu⟩:∃ x,x=M[k]:=⟨_,rfl⟩
      have cB:Hid (x=M[k]):=cu
      rw[←cu]at bK dh
      have mj:(0:Int)≤(k:Int):=by omega
      have ml:(k:Int)<(M.length:Int):=by omega
      subst dQ
      unfold Je1 at bK
      clear dg cu hW jR
      go_upto_region 24 with(go_at_call 13;refine dh.mono ?_;rintro ch bI ⟨bQ,v,bH,rfl,dM⟩)
      have cX:Hid ((bH=0∧Kl U x=.inl v)∨(bH≠0∧Kl U x=.inr bH)):=dM
      have bY:Below bI.heap.size bI (bI.alloc (.cells #[.int .i64 v.k,.int .i64 v.n,.string v.s] 49)):=Jc (Oa5 _ _) _
      have bR:=heap_alloc_new bI (.cells #[.int .i64 v.k,.int .i64 v.n,.string v.s] 49)
      have cG:=Ja (Jb bQ bY) bK
      have bu:Hid (Jda wk _ bw ((M.take k).map (Jcl U)) (bI.alloc (.cells #[.int .i64 v.k,.int .i64 v.n,.string v.s] 49))):=fe.out.below (Jb bQ bY)
      obtain⟨bG,dR⟩:∃ bG,bG=bI.heap.size:=⟨_,rfl⟩
      have kx:Hid (u21.ownBlock≠some bG):=fun e=>by
       have bP:=(Je fe.out.own e).2
       have dx:=bQ.size
       omega
      rw[←dR]at bR ⊢
      generalize bI.alloc (.cells #[.int .i64 v.k,.int .i64 v.n,.string v.s] 49)=z at bR bu cG ⊢
      have dG:z.cell? ⟨bG,0,none⟩=some (.int .i64 v.k):=by simp[World.cell?,bR]
      have dY:z.cell? ⟨bG,1,none⟩=some (.int .i64 v.n):=by simp[World.cell?,bR]
      have dZ:z.cell? ⟨bG,2,none⟩=some (.string v.s):=by simp[World.cell?,bR]
      clear bQ bY dR bR dM dh fe bK
      have dS:M.getD k []=x:=by rw[cB.out,Oa0,Oa3 bx];rfl
      have dK:Hid (M.getD k []=x):=dS
      clear dS
      rcases cX.out with⟨h0,bL⟩|⟨h0,bL⟩
      ·subst h0
       have gz:0<x.length:=by rw[cB.out,dJ.out.2.2.1];exact cA.out.1.1
       have jq:=Jb bC.out.2.2.2.1 bu.out.low
       have jV:Jv z gG x:=by rw[cB.out];exact dJ.out.1.below jq
       obtain⟨dp,fx,mg,mB,gI,gJ,gK⟩:=jV.at gz
       subst mg
       rw[Nat.zero_mul,Nat.add_zero]at gI gJ gK
       obtain⟨D,gh⟩:∃ D,D=x[0]:=⟨_,rfl⟩
       rw[←gh]at gI gJ gK
       obtain⟨dm,gy⟩:∃ dm,dm=x.length:=⟨_,rfl⟩
       rw[←gy]at cG
       have fd:Hid (x.getD 0 Jf=D∧Kl U x=.inl v∧dm=x.length):=⟨by rw[gh,Oa0,Oa3 gz];rfl,bL,gy⟩
       have mC:(0:Int)<(dm:Int):=by omega
       have mD:¬ (dm=0):=by omega
       have mi:0<dm:=by omega
       clear jV jq gh bL gy gz cX
       go_upto_region 26 with fail
       refine wp_region_held_drew (S:=fun z=>z.cell? ⟨bG,0,none⟩=some (.int .i64 v.k)∧z.cell? ⟨bG,1,none⟩=some (.int .i64 v.n)∧z.cell? ⟨bG,2,none⟩=some (.string v.s)∧z.cell? ⟨b,o+k,none⟩=some (.slice (some ⟨dp,fx,none⟩) dm kj)∧z.cell? ⟨dp,fx,none⟩=some (.int .i64 D.k)∧z.cell? ⟨dp,fx+1,none⟩=some (.int .i64 D.n)∧z.cell? ⟨dp,fx+2,none⟩=some (.string D.s)) (by kernel_rfl) ⟨Jh dG,Jh dY,Jh dZ,Jh cG,Jh gI,Jh gJ,Jh gK⟩ (fun y=>?_)
       refine tk 0 ?_ rfl y ?_ (tk 1 ?_ rfl y ?_ (tk 2 ?_ rfl y ?_ (tk 3 ?_ rfl y ?_ (tk 4 ?_ rfl y ?_ (tk 5 ?_ rfl y ?_ (tk 6 ?_ rfl y ?_ (tk 7 ?_ rfl y ?_ ?_)))))))
       iterate 8
        rotate_left 1
        ·intro w bh;(try dsimp only at bh);go_simp;try rfl
       simp only[Act.put,List.getElem_toArray,List.getElem_cons_zero,List.getElem_cons_succ,Oa1,List.set_cons_zero,List.set_cons_succ]
       refine wpAnyH_ready (rs:=[8]) (by kernel_rfl) (by simp) (AllReadyH.cons rfl (fun br A=>?_) AllReadyH.nil)
       go_simp
       have cT:Below z.drew.heap.size z.drew ((z.alloc (.cells #[.int .i64 v.k,.int .i64 v.n,.string v.s,.int .i64 D.k,.int .i64 D.n,.string D.s] 49)).drew):=by
        have:=Jc (Oa5 _ z) (.cells #[.int .i64 v.k,.int .i64 v.n,.string v.s,.int .i64 D.k,.int .i64 D.n,.string D.s] 49)
        exact⟨this.os,this.tape,this.output,this.size,this.block⟩
       refine A.out _ _ ⟨Ja cT y.1,Ja cT y.2.1,Ja cT y.2.2.1,Ja cT y.2.2.2.1,Ja cT y.2.2.2.2.1,Ja cT y.2.2.2.2.2.1,Ja cT y.2.2.2.2.2.2⟩ (fun y=>?_)
       clear A br cT
       refine wpAnyH_ready (rs:=[9]) (by kernel_rfl) (by simp) (AllReadyH.cons rfl (fun br A=>?_) AllReadyH.nil)
       go_simp
       have cU:Below (z.alloc (.cells #[.int .i64 v.k,.int .i64 v.n,.string v.s,.int .i64 D.k,.int .i64 D.n,.string D.s] 49)).drew.heap.size (z.alloc (.cells #[.int .i64 v.k,.int .i64 v.n,.string v.s,.int .i64 D.k,.int .i64 D.n,.string D.s] 49)).drew (((z.alloc (.cells #[.int .i64 v.k,.int .i64 v.n,.string v.s,.int .i64 D.k,.int .i64 D.n,.string D.s] 49)).alloc (.cells #[.slice (some ⟨z.heap.size,0,none⟩) 2 2] 59)).drew):=by
        have:=Jc (Oa5 _ (z.alloc (.cells #[.int .i64 v.k,.int .i64 v.n,.string v.s,.int .i64 D.k,.int .i64 D.n,.string D.s] 49))) (.cells #[.slice (some ⟨z.heap.size,0,none⟩) 2 2] 59)
        exact⟨this.os,this.tape,this.output,this.size,this.block⟩
       refine A.out _ _ ⟨Ja cU y.1,Ja cU y.2.1,Ja cU y.2.2.1,Ja cU y.2.2.2.1,Ja cU y.2.2.2.2.1,Ja cU y.2.2.2.2.2.1,Ja cU y.2.2.2.2.2.2⟩ (fun y=>?_)
       clear A br cU
       have jn:Below z.heap.size z (((z.alloc (.cells #[.int .i64 v.k,.int .i64 v.n,.string v.s,.int .i64 D.k,.int .i64 D.n,.string D.s] 49)).alloc (.cells #[.slice (some ⟨z.heap.size,0,none⟩) 2 2] 59)).drew):=Jj (Jc (Jc (Oa5 _ _) _) _)
       have gq:(List.zipWith Jad bw ((M.take k).map (Jcl U))).length=k:=by
        rw[Oj8,bu.out.len,Nat.min_self,Oa6,Oc7]
        omega
       have jD:(((z.alloc (.cells #[.int .i64 v.k,.int .i64 v.n,.string v.s,.int .i64 D.k,.int .i64 D.n,.string D.s] 49)).alloc (.cells #[.slice (some ⟨z.heap.size,0,none⟩) 2 2] 59)).drew).ownsRow wk.heap.size 59 1 u21 k (List.zipWith Jad bw ((M.take k).map (Jcl U))):=by
        have:=Jaw bu.out.own jn
        rw[gq]at this
        exact this
       have jo:(((z.alloc (.cells #[.int .i64 v.k,.int .i64 v.n,.string v.s,.int .i64 D.k,.int .i64 D.n,.string D.s] 49)).alloc (.cells #[.slice (some ⟨z.heap.size,0,none⟩) 2 2] 59)).drew).heap[z.heap.size+1]?=some (.cells #[.slice (some ⟨z.heap.size,0,none⟩) 2 2] 59 (0,0)):=by
        have:=heap_alloc_new (z.alloc (.cells #[.int .i64 v.k,.int .i64 v.n,.string v.s,.int .i64 D.k,.int .i64 D.n,.string D.s] 49)) (.cells #[.slice (some ⟨z.heap.size,0,none⟩) 2 2] 59)
        rw[Oa7]at this
        exact this
       obtain⟨mh,kV,mf,dT,dU⟩:=info_parts Jip
       refine wpAnyH_ready (rs:=[10]) (by kernel_rfl) (by simp) (AllReadyH.cons rfl (fun br A=>?_) AllReadyH.nil)
       refine step_append_lies (((z.alloc (.cells #[.int .i64 v.k,.int .i64 v.n,.string v.s,.int .i64 D.k,.int .i64 D.n,.string D.s] 49)).alloc (.cells #[.slice (some ⟨z.heap.size,0,none⟩) 2 2] 59)).drew) rfl (.tmp 132) (.tmp 141) 23 rfl wk.heap.size 59 mh (.slice none 0 0) 1 24 underlying23 kV mf dT dU rfl (by decide) u21 k (List.zipWith Jad bw ((M.take k).map (Jcl U))) rfl jD ⟨z.heap.size+1,0,none⟩ 1 1 [.slice (some ⟨z.heap.size,0,none⟩) 2 2] rfl rfl (fun j u cl=>World.news_of_block jo j u (by simpa using cl)) (fun u cl=>by simp at cl;subst cl;rfl) (by decide) (by unfold maxLen;omega) (by omega) (by have:=bu.out.low.size;rw[heap_drew,Oa7,Oa7];omega) (z.heap.size+2) (by rw[heap_drew,Oa7,Oa7]) (fun kF kB gP jz df jk kX=>?_)
       have bJ:b<wk.heap.size:=by
        obtain⟨kA,mr,fX,fY,_⟩:=bC.out.1.at (i:=k) (by rw[Jhl bE M bC.out.2.1];exact bx)
        cases fX
        exact fY
       have jY:dp<wk.heap.size:=by
        obtain⟨kA,mr,fX,fY,_⟩:=dJ.out.1.at (i:=0) (by rw[←cB.out,←fd.out.2.2];exact mi)
        cases fX
        exact Oc2 fY bC.out.2.2.2.1.size
       have gs:∀ g,g<wk.heap.size→some g≠u21.ownBlock:=fun g kU e=>by
        have:=(Je bu.out.own e.symm).1
        omega
       have fr:=bu.out.low.size
       have jU:bG<z.heap.size:=Jm dG
       have fo:∀ g,g<z.heap.size→some g≠u21.ownBlock→∀ o:Nat,gP.cell? ⟨g,o,none⟩=(((z.alloc (.cells #[.int .i64 v.k,.int .i64 v.n,.string v.s,.int .i64 D.k,.int .i64 D.n,.string D.s] 49)).alloc (.cells #[.slice (some ⟨z.heap.size,0,none⟩) 2 2] 59)).drew).cell? ⟨g,o,none⟩:=fun g kU kY o=>by
        simp only[World.cell?,df.block g (by rw[heap_drew,Oa7,Oa7];omega) kY]
       have fp:=fo bG jU (fun e=>kx.out e.symm)
       have jF:=fo b (by omega) (gs b bJ)
       have fq:=fo dp (by omega) (gs dp jY)
       refine A.out _ _ ⟨(fp 0).trans y.1,(fp 1).trans y.2.1,(fp 2).trans y.2.2.1,(jF _).trans y.2.2.2.1,(fq _).trans y.2.2.2.2.1,(fq _).trans y.2.2.2.2.2.1,(fq _).trans y.2.2.2.2.2.2⟩ (fun y=>?_)
       clear A br fp jF fq fo
       simp only[Act.put,List.getElem_toArray,List.getElem_cons_zero,List.getElem_cons_succ,Oa1,List.set_cons_zero,List.set_cons_succ]
       refine tk 11 ?_ rfl y ?_ ?_
       rotate_left 1
       ·intro w bh;(try dsimp only at bh);go_simp;try rfl
       simp only[Act.put,List.getElem_toArray,List.getElem_cons_zero,List.getElem_cons_succ,Oa1,List.set_cons_zero,List.set_cons_succ]
       refine wpAnyH_done (by kernel_rfl) ?_ _
       have jp:=Jc (Oa5 _ z) (.cells #[.int .i64 v.k,.int .i64 v.n,.string v.s,.int .i64 D.k,.int .i64 D.n,.string D.s] 49)
       have jy:=heap_alloc_new z (.cells #[.int .i64 v.k,.int .i64 v.n,.string v.s,.int .i64 D.k,.int .i64 D.n,.string D.s] 49)
       have ku:Hid (Jda wk (.slice (some ⟨kF,0,none⟩) (k+1) kB) (bw++[z.heap.size]) ((M.take (k+1)).map (Jcl U)) gP):=by
        show Jda _ _ _ _ _
        have mb:(M.take (k+1)).map (Jcl U)=(M.take k).map (Jcl U)++[[v,D]]:=by
         rw[Oi7,Oa3 bx,Option.toList_some,Ob8,←cB.out]
         show _++[Jcl U x]=_
         unfold Jcl
         rw[Jgd fd.out.2.1,fd.out.1]
        rw[mb]
        refine(bu.out.below jp).more z.heap.size [v,D] ⟨_,jy,rfl⟩ fr (fun e=>?_) (.cells #[.slice (some ⟨z.heap.size,0,none⟩) 2 2] 59) ?_ ⟨df.os,df.tape,df.output,df.size,df.block⟩ ?_
        ·have:=(Je bu.out.own e).2
         omega
        ·show World.ownsRow _ _ _ _ _ _ _
         rw[Oa8,gq]
         exact jz
        rcases jk with h|h
        ·exact .inl (by rw[h];rfl)
        right
        rw[Oa7,Oa7,h]
        rfl
       have ko:Hid (∀ j,j<k+1→∃ v,Kl U (M.getD j [])=.inl v):=fun j cr=>by
        rcases Nat.lt_succ_iff_lt_or_eq.1 cr with h|rfl
        ·exact fb.out j h
        exact⟨v,by rw[dK.out];exact fd.out.2.1⟩
       clear y jz jk kX jD jo df gq jn jp jy gs fr jU bJ jY
       go_wp2
       go_roundw
       case rel=>exact⟨k+1,_,by omega,by go_num,ku.out,ko⟩
       case measure=>simp[intOf];omega
      obtain⟨bV,cN,cO,cP,cQ,da⟩:=Kbk (rs:=rs) rfl bz.out.2.1.tab bz.out.2.1.good.one bz.out.2.1.len bz.out.2.1.row fF.out fc.out (i:=k) (x:=bH) (by rw[←bC.out.2.2.2.2.1];exact bx) (by rw[←bC.out.2.2.2.2.1,dK.out];exact bL) (by rw[←bC.out.2.2.2.2.1];exact fb.out)
      have bl:=((Jb bC.out.2.2.2.1 bu.out.low).block _ (Jd cK.out)).trans cK.out
      rw[cN,cO,cP,cQ,da]at bl
      have cl:u14=.slice none 0 0:=bV
      have fA:Hid (Below w.heap.size w z):=Jb bS.out.2.2.2.2.2 (Jb bC.out.2.2.2.1 bu.out.low)
      clear bV cN cO cP cQ da
      subst cl
      have kS:¬ ((bH:Int)=0):=by omega
      have dW:z.cell? ⟨fa,0,none⟩=some (.int .i64 (bH:Int)):=by simp[World.cell?,bl]
      have w1:z.cell? ⟨fa,1,none⟩=some (.int .i64 2):=by simp[World.cell?,bl]
      have gD:z.cell? ⟨fa,2,none⟩=some (.int .i64 (k:Int)):=by simp[World.cell?,bl]
      have gE:z.cell? ⟨fa,3,none⟩=some (.int .i64 (-1)):=by simp[World.cell?,bl]
      have w4:z.cell? ⟨fa,4,none⟩=some (.int .i64 (-1)):=by simp[World.cell?,bl]
      clear bl bL cX bu dG dY dZ cG
      go_upto_region 25 with fail
      have jH:=Jmf (bH:Int) 2 (k:Int) (-1) (-1)
      refine wp_region_held_drew (S:=fun z=>z.cell? ⟨fa,0,none⟩=some (.int .i64 (bH:Int))∧z.cell? ⟨fa,1,none⟩=some (.int .i64 2)∧z.cell? ⟨fa,2,none⟩=some (.int .i64 (k:Int))∧z.cell? ⟨fa,3,none⟩=some (.int .i64 (-1))∧z.cell? ⟨fa,4,none⟩=some (.int .i64 (-1))) (by kernel_rfl) ⟨Jh dW,Jh w1,Jh gD,Jh gE,Jh w4⟩ (fun y=>?_)
      refine tk 0 ?_ rfl y ?_ (tk 1 ?_ rfl y ?_ (tk 2 ?_ rfl y ?_ (tk 3 ?_ rfl y ?_ ?_)))
      iterate 4
       rotate_left 1
       ·intro w bh;(try dsimp only at bh);go_simp;try rfl
      simp only[Act.put,List.getElem_toArray,List.getElem_cons_zero,List.getElem_cons_succ,Oa1,List.set_cons_zero,List.set_cons_succ]
      refine tk 4 ?_ rfl y ?_ (tk 5 ?_ rfl y ?_ (tk 6 ?_ rfl y ?_ ?_))
      iterate 3
       rotate_left 1
       ·intro w bh;(try dsimp only at bh);go_simp;try rfl
      simp only[Act.put,List.getElem_toArray,List.getElem_cons_zero,List.getElem_cons_succ,Oa1,List.set_cons_zero,List.set_cons_succ]
      refine wpAnyH_ready (rs:=[7]) (by kernel_rfl) (by simp) (AllReadyH.cons rfl (fun br A=>?_) AllReadyH.nil)
      go_simp
      refine(Jxv _ _ _ _).mono ?_
      rintro e gO ⟨rfl,bB⟩
      go_simp
      refine A.out _ _ ⟨Ja bB y.1,Ja bB y.2.1,Ja bB y.2.2.1,Ja bB y.2.2.2.1,Ja bB y.2.2.2.2⟩ (fun y=>?_)
      clear A br
      refine tk 8 ?_ rfl y ?_ (tk 9 ?_ rfl y ?_ (tk 10 ?_ rfl y ?_ ?_))
      iterate 3
       rotate_left 1
       ·intro w bh;(try dsimp only at bh);go_simp;try rfl
      simp only[Act.put,List.getElem_toArray,List.getElem_cons_zero,List.getElem_cons_succ,Oa1,List.set_cons_zero,List.set_cons_succ]
      refine wpAnyH_done (by kernel_rfl) ?_ _
      go_wp2
      go_ret
      exact⟨rfl,Jb fA.out (Jw bB)⟩
     obtain rfl:k=M.length:=by omega
     rw[Of2]at hW
     have fs:=Kb2 (rs:=rs) rfl bz.out.2.1.tab bz.out.2.1.good.one bz.out.2.1.len bz.out.2.1.row fF.out fc.out (by rw[←bC.out.2.2.2.2.1];exact fb.out)
     rw[←bC.out.2.2.2.2.1]at fs
     obtain⟨bV,cN,cO,cP,cQ,dL,bs',da,gU⟩:=fs
     have de:=Jb bC.out.2.2.2.1 hW.low
     have bl:=(de.block _ (Jd cK.out)).trans cK.out
     rw[bV,cN,cO,cP,cQ]at bl
     have kt:Hid (Below w.heap.size w wr):=Jb bS.out.2.2.2.2.2 de
     have jI:=(gU.below de).rowsAt
     obtain⟨gQ,c5,dy,_⟩:=hW.own.cells
     rw[dy]at hW
     obtain⟨jw,jJ⟩:=hW.rowsAt
     rw[jw]at dy
     have gu:=Jn2 (some ⟨dL,0,none⟩) gQ M.length c5 _ _ (M.map (Jcl U)) (M.map (Jcl U)) wr (by rw[Oa6];unfold maxLen;omega) (fun r dP=>by
      obtain⟨mY,_,rfl⟩:=Of0.1 dP
      unfold Jcl maxLen
      simp) jI jJ true (by simp)
     rw[Oa6]at gu dy
     have ma:Calls prog 16 #[.slice (some ⟨dL,0,none⟩) M.length M.length,.slice gQ M.length c5] wr fun e w'=>e=.returned (.bool true)∧Below wr.heap.size wr w':=gu
     have kD:wr.cell? ⟨fa,0,none⟩=some (.int .i64 0):=by simp[World.cell?,bl]
     have kE:wr.cell? ⟨fa,1,none⟩=some (.int .i64 (-1)):=by simp[World.cell?,bl]
     have db:wr.cell? ⟨fa,2,none⟩=some (.int .i64 (-1)):=by simp[World.cell?,bl]
     have gV:wr.cell? ⟨fa,3,none⟩=some (.int .i64 (-1)):=by simp[World.cell?,bl]
     have fi:wr.cell? ⟨fa,4,none⟩=some (.int .i64 (-1)):=by simp[World.cell?,bl]
     have mF:¬ ((M.length:Int)<(M.length:Int)):=by omega
     clear bV cN cO cP cQ gU bl de jI jJ jw gu hW fe fb
     subst da dy
     go_upto_region 28 with(go_at_call 16;refine ma.mono ?_;rintro ch mw ⟨rfl,dz⟩)
     have jH:=Jjl 0
     refine wp_region_held_drew (S:=fun z=>z.cell? ⟨fa,0,none⟩=some (.int .i64 0)∧z.cell? ⟨fa,1,none⟩=some (.int .i64 (-1))∧z.cell? ⟨fa,2,none⟩=some (.int .i64 (-1))∧z.cell? ⟨fa,3,none⟩=some (.int .i64 (-1))∧z.cell? ⟨fa,4,none⟩=some (.int .i64 (-1))) (by kernel_rfl) ⟨Jh (Ja dz kD),Jh (Ja dz kE),Jh (Ja dz db),Jh (Ja dz gV),Jh (Ja dz fi)⟩ (fun y=>?_)
     refine tk 0 ?_ rfl y ?_ ?_
     rotate_left 1
     ·intro w bh;(try dsimp only at bh);go_simp;try rfl
     simp only[Act.put,List.getElem_toArray,List.getElem_cons_zero,Oa1,List.set_cons_zero,List.set_cons_succ]
     refine wpAnyH_ready (rs:=[1]) (by kernel_rfl) (by simp) (AllReadyH.cons rfl (fun br A=>?_) AllReadyH.nil)
     go_simp
     refine(Jfu _).mono ?_
     rintro e gO ⟨rfl,bB⟩
     go_simp
     refine A.out _ _ ⟨Ja bB y.1,Ja bB y.2.1,Ja bB y.2.2.1,Ja bB y.2.2.2.1,Ja bB y.2.2.2.2⟩ (fun y=>?_)
     clear A br
     refine tk 2 ?_ rfl y ?_ (tk 3 ?_ rfl y ?_ ?_)
     iterate 2
      rotate_left 1
      ·intro w bh;(try dsimp only at bh);go_simp;try rfl
     simp only[Act.put,List.getElem_toArray,List.getElem_cons_zero,List.getElem_cons_succ,Oa1,List.set_cons_zero,List.set_cons_succ]
     refine tk 4 ?_ rfl y ?_ (tk 5 ?_ rfl y ?_ (tk 6 ?_ rfl y ?_ ?_))
     iterate 3
      rotate_left 1
      ·intro w bh;(try dsimp only at bh);go_simp;try rfl
     simp only[Act.put,List.getElem_toArray,List.getElem_cons_zero,List.getElem_cons_succ,Oa1,List.set_cons_zero,List.set_cons_succ]
     refine wpAnyH_done (by kernel_rfl) ?_ _
     go_wp2
     go_ret
     exact⟨rfl,Jb kt.out (Jb dz (Jw bB))⟩
end Go.Proofs.YtjjdldddcegjiaaGreatDoor
