/- The law Grouped, walked. -/
import Derived.Test.YtdlgbphkaicfaaaGreatDoorZl
import Derived.Test.YtdlgbphkaicfaaaGreatDoorZg
import Derived.Test.YtdlgbphkaicfaaaGreatDoorYi
set_option maxHeartbeats 40000000
set_option maxRecDepth 100000
namespace Go.Proofs.YtdlgbphkaicfaaaGreatDoor
open Go.RowKit Go.Shelf Tryz
attribute [local go_sem] Oc0
theorem Knu (w:World){a a':Int}(b c d e A D E H:Int)(h:a≠a'):(Op.equal 42 (Ko a b c d e) (Ko a' A D E H)).run prog w=.ok false w:=by
 rw[Op.equal,Op.maxDepth,run_equalIn_struct w 9999 42 _ _ Kef Kh3]
 have h0:=Jyf
 generalize (prog.fieldsOf 42).toList=y at h0
 rcases y with _|⟨bj,_|⟨bk,_|⟨bl,_|⟨bn,_|⟨br,_|⟨bu,y⟩⟩⟩⟩⟩⟩
 ·simp at h0
 ·simp at h0
 ·simp at h0
 ·simp at h0
 ·simp at h0
 ·simp at h0
  obtain⟨⟨h1,h2,K⟩,⟨M,O,R⟩,⟨U,X,Z⟩,⟨ba,bb,bc⟩,bf,bh,bi⟩:=h0
  simp[Op.eqFields,h1,h2,K,M,O,R,U,X,Z,ba,bb,bc,bf,bh,bi,part,sizeOf,go_sem,h]
 simp at h0
theorem Kow {a a':Int}(b c d e y A D E:Int)(h:a≠a')(w:World):(binOp .eql 42 (Ko a b c d e) (Ko a' y A D E)).run prog w=.ok (.bool false) w:=by
 simp[binOp,Knu w b c d e y A D E h]
theorem Kox (n:Nat)(hn:n≤100000)(W:World):(Instr.makeSlice 53 (.int .i64 (n:Int)) (.int .i64 (n:Int))).run prog W=.ok (.slice (some ⟨W.heap.size,0,none⟩) n n) (W.alloc (.cells (madeCells #[.bool false] n) 4)):=by
 exact run_make_row' 53 4 (.bool false) 1 (by kernel_rfl) (by kernel_rfl) rfl .i64 .i64 n (by omega) (by omega) W
theorem Koy (n:Nat):madeCells #[.bool false] n=((List.replicate n false).map Value.bool).toArray:=by
 apply Array.ext
 ·simp[madeCells]
 intro i h1 h2
 simp[madeCells,Nat.mod_one]
theorem grouped_any (bR:ByteArray)(bH bG:Option Addr)(ct bK:Nat)(ns:List Int)(xs:List (Option Addr×Nat))(bx:List (List V))(dq dr:Int)(oz ob ol os:Int)(w:World)(hn:ns.length≤maxLen)(gv:∀ r∈bx,r.length≤maxLen)(gg:∀ r∈bx,∀ v∈r,Jg v.k∧Jg v.n)(gJ:Kc w bH ns)(gK:Zd w bG xs bx)
  (gH:Jg dq) (gI:Jg dr) (gq:Jg oz) (gn:Jg ob) (go:Jg ol)
  (bX cy cz cI q wr pg cG ex cH:Addr) (fT:Jax w bX cy cz cI q wr pg cG ex cH) :
  Calls prog 3 #[.agg #[.string bR,.slice bH ns.length ct,.slice bG bx.length bK],.int .i64 dq,.int .i64 dr,.agg #[.int .i64 oz,.int .i64 ob,.int .i64 ol,.int .i64 os]] w fun e w'=>e=.returned (.bool true)∧Below w.heap.size w w':=by
 have dS:Hid (Jax w bX cy cz cI q wr pg cG ex cH):=fT
 have fK:Hid (∀ W,Below w.heap.size w W→Calls prog 5 #[.agg #[.string bR,.slice bH ns.length ct,.slice bG bx.length bK],.string ⟨#[116]⟩,.int .i64 ((60:Nat):Int)] W fun e w'=>∃ E rs Z bb R U cb,e=.returned (.agg #[.string ⟨#[116]⟩,.slice Z E.length bb,.slice R rs.length U])∧Uw w' Zu Z R U E cb rs∧Below W.heap.size W w'∧rs.length≤60):=fun W bh=>(Jt8 bR Zu bH bG ct bK 60 ns xs bx W (by omega) hn gv gg (gJ.below bh) (gK.below bh)).mono fun e w' ⟨E,rs,v,dg,ju,fm,cF⟩=>by
  obtain⟨Z,bb,R,U,cb,rfl,dm⟩:=ju.right (by omega) (by decide)
  exact⟨E,rs,Z,bb,R,U,cb,dg,dm,cF,fm⟩
 have dv:Hid (Jg dq∧Jg dr∧Jg oz∧Jg ob∧Jg ol):=⟨gH,gI,gq,gn,go⟩
 clear fT hn gv gg gJ gK gH gI gq gn go
 go_enter func3,ntmps3
 go_upto_region 1 with fail
 have dE:Below w.heap.size w ((w.alloc (.cells #[.string bR,.slice bH ns.length ct,.slice bG bx.length bK] 25)).alloc (.cells #[.int .i64 oz,.int .i64 ob,.int .i64 ol,.int .i64 os] 27)):=Jc (Jc (Oa5 _ _) _) _
 have cr:((w.alloc (.cells #[.string bR,.slice bH ns.length ct,.slice bG bx.length bK] 25)).alloc (.cells #[.int .i64 oz,.int .i64 ob,.int .i64 ol,.int .i64 os] 27)).heap[w.heap.size]?=some (.cells #[.string bR,.slice bH ns.length ct,.slice bG bx.length bK] 25 (0,0)):=(Oa9 _ _ _ (by simp)).trans (heap_alloc_new w _)
 have fA:((w.alloc (.cells #[.string bR,.slice bH ns.length ct,.slice bG bx.length bK] 25)).alloc (.cells #[.int .i64 oz,.int .i64 ob,.int .i64 ol,.int .i64 os] 27)).heap[w.heap.size+1]?=some (.cells #[.int .i64 oz,.int .i64 ob,.int .i64 ol,.int .i64 os] 27 (0,0)):=by
  have:=heap_alloc_new (w.alloc (.cells #[.string bR,.slice bH ns.length ct,.slice bG bx.length bK] 25)) (.cells #[.int .i64 oz,.int .i64 ob,.int .i64 ol,.int .i64 os] 27)
  rw[Oa7]at this
  exact this
 generalize ((w.alloc (.cells #[.string bR,.slice bH ns.length ct,.slice bG bx.length bK] 25)).alloc (.cells #[.int .i64 oz,.int .i64 ob,.int .i64 ol,.int .i64 os] 27))=dA at dE cr fA ⊢
 have cO:Hid (Below w.heap.size w dA∧dA.heap[w.heap.size]?=some (.cells #[.string bR,.slice bH ns.length ct,.slice bG bx.length bK] 25 (0,0))∧dA.heap[w.heap.size+1]?=some (.cells #[.int .i64 oz,.int .i64 ob,.int .i64 ol,.int .i64 os] 27 (0,0))):=⟨dE,cr,fA⟩
 have gx:=Jy2 dA bX cy cz cI q wr pg cG ex cH (dS.out.below dE)
 clear dE cr fA
 go_upto_region 2 with(go_at_call 4;refine gx.mono ?_;rintro bS cQ ⟨rfl,cj⟩)
 have cr:=(cj.block _ (Jd cO.out.2.1)).trans cO.out.2.1
 have jA:cQ.cell? ⟨w.heap.size,0,none⟩=some (.string bR):=by simp[World.cell?,cr]
 have jB:cQ.cell? ⟨w.heap.size,1,none⟩=some (.slice bH ns.length ct):=by simp[World.cell?,cr]
 have jC:cQ.cell? ⟨w.heap.size,2,none⟩=some (.slice bG bx.length bK):=by simp[World.cell?,cr]
 have cP:Hid (Below w.heap.size w cQ∧cQ.heap[w.heap.size+1]?=some (.cells #[.int .i64 oz,.int .i64 ob,.int .i64 ol,.int .i64 os] 27 (0,0))):=⟨Jb cO.out.1 cj,(cj.block _ (Jd cO.out.2.2)).trans cO.out.2.2⟩
 have gC:=fK.out cQ cP.out.1
 clear cr cj gx cO fK
 go_upto_region 3 with(go_at_call 5;refine gC.mono ?_;rintro bS bW ⟨E,rs,Z,bb,R,U,cb,rfl,hR,dG,gi⟩)
 have dJ:Below bW.heap.size bW (bW.alloc (.cells #[.string ⟨#[116]⟩,.slice Z E.length bb,.slice R rs.length U] 25)):=Jc (Oa5 _ _) _
 have cY:=heap_alloc_new bW (.cells #[.string ⟨#[116]⟩,.slice Z E.length bb,.slice R rs.length U] 25)
 obtain⟨bD,ft⟩:∃ bD,bD=bW.heap.size:=⟨_,rfl⟩
 rw[←ft]at cY ⊢
 have cK:Hid (Below w.heap.size w (bW.alloc (.cells #[.string ⟨#[116]⟩,.slice Z E.length bb,.slice R rs.length U] 25))∧(bW.alloc (.cells #[.string ⟨#[116]⟩,.slice Z E.length bb,.slice R rs.length U] 25)).heap[w.heap.size+1]?=some (.cells #[.int .i64 oz,.int .i64 ob,.int .i64 ol,.int .i64 os] 27 (0,0))∧w.heap.size≤bD):=⟨Jb cP.out.1 (Jb dG dJ),((Jb dG dJ).block _ (Jd cP.out.2)).trans cP.out.2,by rw[ft];exact(Jb cP.out.1 dG).size⟩
 have cf:Hid (Uw (bW.alloc (.cells #[.string ⟨#[116]⟩,.slice Z E.length bb,.slice R rs.length U] 25)) Zu Z R U E cb rs):=hR.below dJ
 generalize bW.alloc (.cells #[.string ⟨#[116]⟩,.slice Z E.length bb,.slice R rs.length U] 25)=W at cY cK cf ⊢
 have fB:W.cell? ⟨bD,0,none⟩=some (.string ⟨#[116]⟩):=by simp[World.cell?,cY]
 have dO:W.cell? ⟨bD,1,none⟩=some (.slice Z E.length bb):=by simp[World.cell?,cY]
 have dP:W.cell? ⟨bD,2,none⟩=some (.slice R rs.length U):=by simp[World.cell?,cY]
 have dT:Hid (Jax W bX cy cz cI q wr pg cG ex cH):=dS.out.below cK.out.1
 have dw:Hid (W.cell? ⟨bD,1,none⟩=some (.slice Z E.length bb)∧W.cell? ⟨bD,2,none⟩=some (.slice R rs.length U)∧rs.length≤60):=⟨dO,dP,gi⟩
 clear hR dG dJ cY ft gC cP jA jB jC dS gi
 have fJ:Hid (∀ y b,Below W.heap.size W y→y.heap[b]?=some (.cells #[.string ⟨#[116]⟩,.slice Z E.length bb,.slice R rs.length U] 25 (0,0))→Calls prog 6 #[.agg #[.int .i64 1048576,.int .i64 0],.slice (some ⟨b,0,none⟩) 1 1] y fun e dW=>∃ st,e=.returned (.pointer (some ⟨st,0,none⟩))∧Jhr W dW st Zu E rs∧Below y.heap.size y dW):=fun y b cD bh=>
  (Jl3 b Zu Z R bb U E cb rs y (cf.out.below cD) (by simp[World.cell?,bh]) (by simp[World.cell?,bh]) (by simp[World.cell?,bh]) bX cy cz cI q wr pg cG ex cH (dT.out.below cD)).mono fun e dW ⟨cF,st,dz,dg,fm,dN⟩=>⟨st,dg,Jlx fm cD cF,cF⟩
 go_cut [11] from 28 to 31 (fun s cJ=>∃ st:Nat,s=.pointer (some ⟨st,0,none⟩)∧Jhr W cJ st Zu E rs)
 case first=>
  refine wp_region_held_drew (S:=fun y=>y.cell? ⟨bD,0,none⟩=some (.string ⟨#[116]⟩)∧y.cell? ⟨bD,1,none⟩=some (.slice Z E.length bb)∧y.cell? ⟨bD,2,none⟩=some (.slice R rs.length U)) (by kernel_rfl) ⟨fB,dO,dP⟩ (fun A=>?_)
  refine tk 1 ?_ rfl A ?_ ?_
  rotate_left 1
  ·intro w bj;(try dsimp only at bj);go_simp;try rfl
  simp only[Act.put,List.getElem_toArray,List.getElem_cons_zero,List.getElem_cons_succ,Oa1,List.set_cons_zero,List.set_cons_succ]
  have fY:Below W.heap.size W W.drew:=⟨rfl,rfl,rfl,Oa2 _,fun _ _=>rfl⟩
  refine wpAnyH_ready (rs:=[0,2]) (by kernel_rfl) (by simp) (AllReadyH.cons rfl (fun bk D=>?_) (AllReadyH.cons rfl (fun bk D=>?_) AllReadyH.nil))
  focus
   go_simp
   refine(Jen _).mono ?_
   rintro e bf ⟨rfl,bT⟩
   have cV:Below W.heap.size W bf:=Jb fY bT
   go_simp
   refine D.out _ _ ⟨Ja bT A.1,Ja bT A.2.1,Ja bT A.2.2⟩ (fun A=>?_)
   clear D bk
   refine wpAnyH_ready (rs:=[2]) (by kernel_rfl) (by simp) (AllReadyH.cons rfl (fun bk D=>?_) AllReadyH.nil)
   go_simp
   have ca:Below bf.heap.size bf (bf.alloc (.cells #[.string ⟨#[116]⟩,.slice Z E.length bb,.slice R rs.length U] 25)):=(Oa5 _ _).alloc (Oa2 _) _
   have dL:=heap_alloc_new bf (.cells #[.string ⟨#[116]⟩,.slice Z E.length bb,.slice R rs.length U] 25)
   refine D.out _ _ ⟨Ja ca A.1,Ja ca A.2.1,Ja ca A.2.2⟩ (fun A=>?_)
   clear D bk
   refine wpAnyH_ready (rs:=[3]) (by kernel_rfl) (by simp) (AllReadyH.cons rfl (fun bk D=>?_) AllReadyH.nil)
   go_simp
   refine(fJ.out _ _ (Jb cV ca) dL).mono ?_
  rotate_left 1
  focus
   go_simp
   have ca:Below W.heap.size W ((W.alloc (.cells #[.string ⟨#[116]⟩,.slice Z E.length bb,.slice R rs.length U] 25)).drew):=Jb fY ((Oa5 _ W.drew).alloc (Oa2 _) (.cells #[.string ⟨#[116]⟩,.slice Z E.length bb,.slice R rs.length U] 25))
   have dL:((W.alloc (.cells #[.string ⟨#[116]⟩,.slice Z E.length bb,.slice R rs.length U] 25)).drew).heap[W.heap.size]?=_:=heap_alloc_new W (.cells #[.string ⟨#[116]⟩,.slice Z E.length bb,.slice R rs.length U] 25)
   refine D.out _ _ ⟨Ja ca fB,Ja ca dO,Ja ca dP⟩ (fun A=>?_)
   clear D bk
   refine wpAnyH_ready (rs:=[0]) (by kernel_rfl) (by simp) (AllReadyH.cons rfl (fun bk D=>?_) AllReadyH.nil)
   go_simp
   refine(Jen _).mono ?_
   rintro e bf ⟨rfl,bT⟩
   have cV:Below W.heap.size W bf:=Jb ca bT
   have jq:bf.heap[W.heap.size]?=_:=(bT.block _ (Jd dL)).trans dL
   go_simp
   refine D.out _ _ ⟨Ja bT A.1,Ja bT A.2.1,Ja bT A.2.2⟩ (fun A=>?_)
   clear D bk
   refine wpAnyH_ready (rs:=[3]) (by kernel_rfl) (by simp) (AllReadyH.cons rfl (fun bk D=>?_) AllReadyH.nil)
   go_simp
   refine(fJ.out _ _ cV jq).mono ?_
  all_goals
   rintro e ci ⟨st,rfl,gz,fw⟩
   have jd:Hid (Jhr W ci st Zu E rs):=gz
   clear gz
   go_simp
   refine D.out _ _ ⟨Ja fw A.1,Ja fw A.2.1,Ja fw A.2.2⟩ (fun A=>?_)
   clear D bk
   refine tk 4 ?_ rfl A ?_ ?_
   rotate_left 1
   ·intro w bj;(try dsimp only at bj);go_simp;try rfl
   simp only[Act.put,List.getElem_toArray,List.getElem_cons_zero,List.getElem_cons_succ,Oa1,List.set_cons_zero,List.set_cons_succ]
   refine wpAnyH_done (by kernel_rfl) ?_ _
   go_wp2_with fail
   go_meet
   case rel=>exact⟨st,rfl,jd.out⟩
 case rest=>
  obtain⟨st,rfl,cn,dz,bV,T,gB,gA,gj,gD⟩:=hcut
  obtain⟨cs,ga⟩:=Jx2 gA gj gD cf.out.tab cf.out.vals
  have db:Hid (Sto dz wc st bV [T]∧Kd3 bV T Zu E rs cs∧Below W.heap.size W wc):=⟨gB,ga,cn⟩
  have u1:=Ja cn dw.out.1
  have dy:Hid (1≤E.length∧E.length≤6):=cf.out.tab.2.1.1
  have gs:Calls prog 8 #[.int .i64 dq,.int .i64 (E.length:Nat)] wc fun e w'=>(∃ r:Nat,e=.returned (.int .i64 (r:Nat))∧r<E.length)∧Below wc.heap.size wc w':=(Jfw dq E.length wc dv.out.1 dy.out.1 (by have:=dy.out.2;omega)).mono fun e w' h=>⟨h.1,by rw[h.2];exact Oa5 _ _⟩
  clear gB gA gj gD ga cn fB dO dP
  go_upto_region 7 with(go_at_call 8;refine gs.mono ?_;rintro bS dB ⟨⟨b,rfl,bh⟩,dH⟩)
  have u16:=Ja dH u1
  have gt:Calls prog 8 #[.int .i64 dr,.int .i64 (E.length:Nat)] dB fun e w'=>(∃ r:Nat,e=.returned (.int .i64 (r:Nat))∧r<E.length)∧Below dB.heap.size dB w':=(Jfw dr E.length dB dv.out.2.1 dy.out.1 (by have:=dy.out.2;omega)).mono fun e w' h=>⟨h.1,by rw[h.2];exact Oa5 _ _⟩
  clear u1 gs
  go_upto_region 8 with(go_at_call 8;refine gt.mono ?_;rintro bS dc ⟨⟨c,rfl,dK⟩,dI⟩)
  have u17:=Ja dI u16
  have fW:=Jb db.out.2.2 (Jb dH dI)
  have fG:Hid (Below wc.heap.size wc dc):=Jb dH dI
  obtain⟨jw,jx,jr,_,fZ⟩:=Kc.at (cf.out.types.below fW) dK
  have dV:Hid (E[c]=E.getD c 0):=by show _=_;rw[Oa0,Oa3 dK];rfl
  generalize E[c]=jD at fZ dV
  have cx:Hid (b<E.length∧c<E.length):=⟨bh,dK⟩
  clear gt dH dI fW u16
  have jy:(0:Int)≤(c:Int):=by omega
  have jz:(c:Int)<(E.length:Int):=by omega
  clear bh dK
  subst jr
  go_upto_if 53 with fail
  go_cut [14] from 48 to 53 (fun s cJ=>∃ fn:Nat,s=.int .i64 (fn:Nat)∧(fn=2∨fn=3∧E.getD c 0=1)∧Below dc.heap.size dc cJ)
  case first=>
   by_cases jv:jD=1
   ·go_wp2_with fail
    go_meet
    case rel=>exact⟨3,rfl,.inr ⟨rfl,by rw[←dV.out];exact jv⟩,Oa5 _ _⟩
   go_wp2_with fail
   go_meet
   case rel=>exact⟨2,rfl,.inl rfl,Oa5 _ _⟩
  case rest=>
   obtain⟨fn,rfl,gd,fV⟩:=hcut
   have dQ:Hid (fn=2∨fn=3∧E.getD c 0=1):=gd
   have fH:Hid (Below dc.heap.size dc wc):=fV
   clear gd fV u17 fZ jy jz
   go_upto_region 12 with fail
   have mk:=heap_alloc_new wc (.cells #[.int .i64 (b:Nat),.int .i64 0,.bool false,.int .i64 0,.int .i64 0,.int .i64 0,.bool false,.int .i64 1,.int .i64 (c:Nat),.int .i64 0,.bool false,.int .i64 (fn:Nat),.int .i64 (c:Nat),.int .i64 0,.bool false,.int .i64 5] 38)
   have fj:Below wc.heap.size wc (wc.alloc (.cells #[.int .i64 (b:Nat),.int .i64 0,.bool false,.int .i64 0,.int .i64 0,.int .i64 0,.bool false,.int .i64 1,.int .i64 (c:Nat),.int .i64 0,.bool false,.int .i64 (fn:Nat),.int .i64 (c:Nat),.int .i64 0,.bool false,.int .i64 5] 38)):=Jc (Oa5 _ _) _
   obtain⟨kb,gh⟩:∃ kb,kb=wc.heap.size:=⟨_,rfl⟩
   rw[←gh]at mk ⊢
   clear gh
   generalize wc.alloc (.cells #[.int .i64 (b:Nat),.int .i64 0,.bool false,.int .i64 0,.int .i64 0,.int .i64 0,.bool false,.int .i64 1,.int .i64 (c:Nat),.int .i64 0,.bool false,.int .i64 (fn:Nat),.int .i64 (c:Nat),.int .i64 0,.bool false,.int .i64 5] 38)=bE at mk fj ⊢
   have fh:=Jb fG.out (Jb fH.out fj)
   have cU:=Jb db.out.2.2 fh
   have bB:Hid (Sto dz bE st bV [T]∧Kd3 bV T Zu E rs cs∧Below w.heap.size w bE∧Jax bE bX cy cz cI q wr pg cG ex cH∧Uw bE Zu (some ⟨jw,jx,none⟩) R U E cb rs∧bE.cell? ⟨bD,2,none⟩=some (.slice R rs.length U)∧rs.length≤60):=⟨db.out.1.below fh,db.out.2.1,Jb cK.out.1 cU,dT.out.below cU,cf.out.below cU,Ja cU dw.out.2.1,dw.out.2.2⟩
   have cM:Hid (bE.heap[kb]?=some (.cells ((Kk7 b c fn).flatMap kyC).toArray 38 (0,0))∧bE.heap[w.heap.size+1]?=some (.cells #[.int .i64 oz,.int .i64 ob,.int .i64 ol,.int .i64 os] 27 (0,0))):=⟨mk,(cU.block _ (Jd cK.out.2.1)).trans cK.out.2.1⟩
   have du:Hid (Jg oz∧Jg ob∧Jg ol):=dv.out.2.2
   clear mk fj fh cU db dT dw cf cK dv fG fH
   go_cut [16,17] from 63 to 74 (fun l f cJ=>∃ (fa:Nat) (dd nd row col H:Int) (Y:World) (g:Nat) (bs:List Nat),f=.pointer (some ⟨fa,0,none⟩)∧cJ.heap[fa]?=some (.cells #[.int .i64 dd,.int .i64 nd,.int .i64 row,.int .i64 col,.int .i64 H] 42 (0,0))∧Jjg (Ye bV [T]) (Kla b c fn) Y l dd nd row col H g bs cJ∧Below bE.heap.size bE cJ)
   case first=>
    refine Jkk (fun bX bU X a x=>∃ r:QX,a=Kl4 bX r∧QI ⟨st,kb,b,c,fn,oz,ob,ol,os,Ye bV [T]⟩ bU X r x) [0,1,2,3,4,5,6,7,8,9,10,11,12,13,14] (by kernel_rfl) (by kernel_rfl) (by kernel_rfl) ?_ (Kh.cons rfl ?_ (Kh.cons rfl ?_ (Kh.cons rfl ?_ (Kh.cons rfl ?_ (Kh.cons rfl ?_ (Kh.cons rfl ?_ (Kh.cons rfl ?_ (Kh.cons rfl ?_ (Kh.cons rfl ?_ (Kh.cons rfl ?_ (Kh.cons rfl ?_ (Kh.cons rfl ?_ (Kh.cons rfl ?_ (Kh.cons rfl ?_ (Kh.cons rfl ?_ Kh.nil))))))))))))))) ?_
    ·exact⟨⟨undef,undef,undef,undef,undef,undef,undef,undef,undef,undef,undef,undef,undef,undef,0,[],0,bE,undef,0,0,0,0,0⟩,(by kernel_rfl),⟨Jj (Oa5 _ _),Nat.lt_of_le_of_lt (Ob7 _) (Jd cM.out.2),fun k M=>absurd M Kf6⟩⟩
    ·intro X b0 x hI bi O br D
     obtain⟨⟨x63,x64,x65,x66,x67,x68,x69,x70,x71,x72,x73,x74,x16,x17,g,bs,fa,Y,ll,K,nd,row,col,H⟩,rfl,hI⟩:=hI
     simp only[Kl4,Act.put,Oa1,List.set_cons_zero,List.set_cons_succ]
     go_simp
     exact D.out _ _ ⟨⟨x63,.pointer (some ⟨st,0,none⟩),x65,x66,x67,x68,x69,x70,x71,x72,x73,x74,x16,x17,g,bs,fa,Y,ll,K,nd,row,col,H⟩,(by kernel_rfl),(hI).op 0 _ (by omega) (fun k M h=>by rcases k with _|_|_|_|_|_|_|_|_|_|_|_|_|_|_|k<;>first|exact h|exact absurd rfl M) rfl⟩
    ·intro X b0 x hI bi O br D
     obtain⟨⟨x63,x64,x65,x66,x67,x68,x69,x70,x71,x72,x73,x74,x16,x17,g,bs,fa,Y,ll,K,nd,row,col,H⟩,rfl,hI⟩:=hI
     simp only[Kl4,Act.put,Oa1,List.set_cons_zero,List.set_cons_succ]
     go_simp
     refine(Jor _ _).mono ?_
     rintro bS bf ⟨rfl,bh⟩
     go_simp
     exact D.out _ _ ⟨⟨x63,x64,Nd.val ⟨0,0,0,Zu,(none,0,0),(none,0,0),0⟩,x66,x67,x68,x69,x70,x71,x72,x73,x74,x16,x17,g,bs,fa,Y,ll,K,nd,row,col,H⟩,(by kernel_rfl),(hI.grow bh).op 1 _ (by omega) (fun k M h=>by rcases k with _|_|_|_|_|_|_|_|_|_|_|_|_|_|_|k<;>first|exact h|exact absurd rfl M) rfl⟩
    ·intro X b0 x hI bi O br D
     obtain⟨⟨x63,x64,x65,x66,x67,x68,x69,x70,x71,x72,x73,x74,x16,x17,g,bs,fa,Y,ll,K,nd,row,col,H⟩,rfl,hI⟩:=hI
     simp only[Kl4,Act.put,Oa1,List.set_cons_zero,List.set_cons_succ]
     go_simp
     exact D.out _ _ ⟨⟨x63,x64,x65,.slice (some ⟨kb,0,none⟩) 4 4,x67,x68,x69,x70,x71,x72,x73,x74,x16,x17,g,bs,fa,Y,ll,K,nd,row,col,H⟩,(by kernel_rfl),(hI).op 2 _ (by omega) (fun k M h=>by rcases k with _|_|_|_|_|_|_|_|_|_|_|_|_|_|_|k<;>first|exact h|exact absurd rfl M) rfl⟩
    ·intro X b0 x hI bi O br D
     obtain⟨⟨x63,x64,x65,x66,x67,x68,x69,x70,x71,x72,x73,x74,x16,x17,g,bs,fa,Y,ll,K,nd,row,col,H⟩,rfl,hI⟩:=hI
     have h2:x66=.slice (some ⟨kb,0,none⟩) 4 4:=hI.facts 2 (O ⟨2,.data⟩ (by simp) (by rfl))
     subst h2
     simp only[Kl4,Act.put,Oa1,List.set_cons_zero,List.set_cons_succ]
     go_simp
     exact D.out _ _ ⟨⟨x63,x64,x65,.slice (some ⟨kb,0,none⟩) 4 4,Nd.val ⟨4,0,0,⟨#[]⟩,(none,0,0),(some ⟨kb,0,none⟩,4,4),0⟩,x68,x69,x70,x71,x72,x73,x74,x16,x17,g,bs,fa,Y,ll,K,nd,row,col,H⟩,(by kernel_rfl),(hI).op 3 _ (by omega) (fun k M h=>by rcases k with _|_|_|_|_|_|_|_|_|_|_|_|_|_|_|k<;>first|exact h|exact absurd rfl M) rfl⟩
    ·intro X b0 x hI bi O br D
     obtain⟨⟨x63,x64,x65,x66,x67,x68,x69,x70,x71,x72,x73,x74,x16,x17,g,bs,fa,Y,ll,K,nd,row,col,H⟩,rfl,hI⟩:=hI
     have h1:x65=Nd.val ⟨0,0,0,Zu,(none,0,0),(none,0,0),0⟩:=hI.facts 1 (O ⟨1,.data⟩ (by simp) (by rfl))
     have cA:x67=Nd.val ⟨4,0,0,⟨#[]⟩,(none,0,0),(some ⟨kb,0,none⟩,4,4),0⟩:=hI.facts 3 (O ⟨3,.data⟩ (by simp) (by rfl))
     subst h1 cA
     simp only[Kl4,Act.put,Oa1,List.set_cons_zero,List.set_cons_succ]
     go_simp
     exact D.out _ _ ⟨⟨x63,x64,Nd.val ⟨0,0,0,Zu,(none,0,0),(none,0,0),0⟩,x66,Nd.val ⟨4,0,0,⟨#[]⟩,(none,0,0),(some ⟨kb,0,none⟩,4,4),0⟩,.slice (some ⟨x.heap.size,0,none⟩) 2 2,x69,x70,x71,x72,x73,x74,x16,x17,g,bs,fa,Y,ll,K,nd,row,col,H⟩,(by kernel_rfl),(hI.grow (Jc (Oa5 _ _) _)).op 4 _ (by omega) (fun k M h=>by rcases k with _|_|_|_|_|_|_|_|_|_|_|_|_|_|_|k<;>first|exact h|exact absurd rfl M) ⟨x.heap.size,rfl,fun _=>heap_alloc_new x _⟩⟩
    ·intro X b0 x hI bi O br D
     obtain⟨⟨x63,x64,x65,x66,x67,x68,x69,x70,x71,x72,x73,x74,x16,x17,g,bs,fa,Y,ll,K,nd,row,col,H⟩,rfl,hI⟩:=hI
     obtain⟨dD,cB,bh⟩:=hI.facts 4 (O ⟨4,.data⟩ (by simp) (by rfl))
     have cB:x68=.slice (some ⟨dD,0,none⟩) 2 2:=cB
     subst cB
     simp only[Kl4,Act.put,Oa1,List.set_cons_zero,List.set_cons_succ]
     go_simp
     exact D.out _ _ ⟨⟨x63,x64,x65,x66,x67,.slice (some ⟨dD,0,none⟩) 2 2,.agg #[.slice (some ⟨dD,0,none⟩) 2 2],x70,x71,x72,x73,x74,x16,x17,g,bs,fa,Y,ll,K,nd,row,col,H⟩,(by kernel_rfl),(hI).op 5 _ (by omega) (fun k M h=>by rcases k with _|_|_|_|_|_|_|_|_|_|_|_|_|_|_|k<;>first|exact h|exact absurd rfl M) ⟨dD,rfl,fun hn=>bh fun bu=>hn (Kq bu)⟩⟩
    ·intro X b0 x hI bi O br D
     obtain⟨⟨x63,x64,x65,x66,x67,x68,x69,x70,x71,x72,x73,x74,x16,x17,g,bs,fa,Y,ll,K,nd,row,col,H⟩,rfl,hI⟩:=hI
     have dp:=(hI.low.block _ (Jd cM.out.2)).trans cM.out.2
     have jP:x.cell? ⟨w.heap.size+1,0,none⟩=some (.int .i64 oz):=by simp[World.cell?,dp]
     have jQ:x.cell? ⟨w.heap.size+1,1,none⟩=some (.int .i64 ob):=by simp[World.cell?,dp]
     have jR:x.cell? ⟨w.heap.size+1,2,none⟩=some (.int .i64 ol):=by simp[World.cell?,dp]
     have jS:x.cell? ⟨w.heap.size+1,3,none⟩=some (.int .i64 os):=by simp[World.cell?,dp]
     clear dp
     simp only[Kl4,Act.put,Oa1,List.set_cons_zero,List.set_cons_succ]
     go_simp
     exact D.out _ _ ⟨⟨x63,x64,x65,x66,x67,x68,x69,.agg #[.int .i64 oz,.int .i64 ob,.int .i64 ol,.int .i64 os],x71,x72,x73,x74,x16,x17,g,bs,fa,Y,ll,K,nd,row,col,H⟩,(by kernel_rfl),(hI).op 6 _ (by omega) (fun k M h=>by rcases k with _|_|_|_|_|_|_|_|_|_|_|_|_|_|_|k<;>first|exact h|exact absurd rfl M) rfl⟩
    ·intro X b0 x hI bi O br D
     obtain⟨⟨x63,x64,x65,x66,x67,x68,x69,x70,x71,x72,x73,x74,x16,x17,g,bs,fa,Y,ll,K,nd,row,col,H⟩,rfl,hI⟩:=hI
     have fe:x70=.agg #[.int .i64 oz,.int .i64 ob,.int .i64 ol,.int .i64 os]:=hI.facts 6 (O ⟨6,.data⟩ (by simp) (by rfl))
     subst fe
     simp only[Kl4,Act.put,Oa1,List.set_cons_zero,List.set_cons_succ]
     go_simp
     refine(Jqk oz ob ol os x du.out.1 du.out.2.1 du.out.2.2).mono ?_
     rintro bS bf ⟨⟨z,cT,cS,rfl,fy,fz,fu,fv,fo,fp⟩,bh⟩
     go_simp
     exact D.out _ _ ⟨⟨x63,x64,x65,x66,x67,x68,x69,.agg #[.int .i64 oz,.int .i64 ob,.int .i64 ol,.int .i64 os],.agg #[.int .i64 z,.int .i64 cT,.int .i64 cS,.int .i64 os],x72,x73,x74,x16,x17,g,bs,fa,Y,ll,K,nd,row,col,H⟩,(by kernel_rfl),(hI.grow bh).op 7 _ (by omega) (fun k M h=>by rcases k with _|_|_|_|_|_|_|_|_|_|_|_|_|_|_|k<;>first|exact h|exact absurd rfl M) ⟨z,cT,cS,rfl,fy,fz,fu,fv,fo,fp⟩⟩
    ·intro X b0 x hI bi O br D
     obtain⟨⟨x63,x64,x65,x66,x67,x68,x69,x70,x71,x72,x73,x74,x16,x17,g,bs,fa,Y,ll,K,nd,row,col,H⟩,rfl,hI⟩:=hI
     have h0:x64=.pointer (some ⟨st,0,none⟩):=hI.facts 0 (O ⟨0,.data⟩ (by simp) (by rfl))
     obtain⟨dY,fd,fR⟩:=hI.facts 5 (O ⟨5,.data⟩ (by simp) (by rfl))
     obtain⟨z,cT,cS,fg,fy,fz,fu,fv,fo,fp⟩:=hI.facts 7 (O ⟨7,.data⟩ (by simp) (by rfl))
     have fd:x69=.agg #[.slice (some ⟨dY,0,none⟩) 2 2]:=fd
     have fg:x71=.agg #[.int .i64 z,.int .i64 cT,.int .i64 cS,.int .i64 os]:=fg
     subst h0 fd fg
     have fS:=fR (Yb bi)
     have gw:=Kq3 dz st bV T cs E rs x (bB.out.1.below hI.low) bB.out.2.1 bB.out.2.2.2.2.2.2 bX cy cz cI q wr pg cG ex cH (bB.out.2.2.2.1.below hI.low) b c fn cx.out.1 cx.out.2 dQ.out dY kb fS ((hI.low.block _ (Jd cM.out.1)).trans cM.out.1) z cT cS os fy fz fu fv fo fp
     clear fS fR
     simp only[Kl4,Act.put,Oa1,List.set_cons_zero,List.set_cons_succ]
     go_simp
     refine gw.mono ?_
     rintro bS bf ⟨bh,jh,gM,c1,gO,gR,fM,gP,jo,rfl,hR⟩
     obtain⟨fP,bs',bZ⟩:=hR.g
     have gX:Hid _:=bZ
     have gW:Hid (dn X 12→fa≠fP∧fa∉bs'):=fun bu=>by
      have de:bE.heap.size≤fa:=(hI.f12 bu).2.1
      have jG:fa<x.heap.size:=(hI.f12 bu).2.2.1
      exact bZ.from (by have:=hI.pos;omega) (by have:=jo.size;omega)
     clear hR bZ gw
     go_simp
     exact D.out _ _ ⟨⟨x63,.pointer (some ⟨st,0,none⟩),x65,x66,x67,x68,.agg #[.slice (some ⟨dY,0,none⟩) 2 2],x70,.agg #[.int .i64 z,.int .i64 cT,.int .i64 cS,.int .i64 os],.tuple #[gM,Ko c1 gO gR fM gP],x73,x74,x16,x17,fP,bs',fa,jh,gM,c1,gO,gR,fM,gP⟩,(by kernel_rfl),(hI.grow bh).op8 bi _ _ _ _ _ _ _ _ _ _ gW.out ⟨rfl,gX.out⟩⟩
    ·intro X b0 x hI bi O br D
     obtain⟨⟨x63,x64,x65,x66,x67,x68,x69,x70,x71,x72,x73,x74,x16,x17,g,bs,fa,Y,ll,K,nd,row,col,H⟩,rfl,hI⟩:=hI
     have fQ:=hI.f8 (O ⟨8,.data⟩ (by simp) (by rfl))
     have jn:x72=.tuple #[ll,Ko K nd row col H]:=fQ.1
     clear fQ
     subst jn
     simp only[Kl4,Act.put,Oa1,List.set_cons_zero,List.set_cons_succ]
     go_simp
     exact D.out _ _ ⟨⟨.tuple #[ll,Ko K nd row col H],x64,x65,x66,x67,x68,x69,x70,x71,.tuple #[ll,Ko K nd row col H],x73,x74,x16,x17,g,bs,fa,Y,ll,K,nd,row,col,H⟩,(by kernel_rfl),(hI).op 9 _ (by omega) (fun k M h=>by rcases k with _|_|_|_|_|_|_|_|_|_|_|_|_|_|_|k<;>first|exact h|exact absurd rfl M) ⟨Kq (O ⟨8,.data⟩ (by simp) (by rfl)),rfl⟩⟩
    ·intro X b0 x hI bi O br D
     obtain⟨⟨x63,x64,x65,x66,x67,x68,x69,x70,x71,x72,x73,x74,x16,x17,g,bs,fa,Y,ll,K,nd,row,col,H⟩,rfl,hI⟩:=hI
     have cC:=hI.f9 (O ⟨9,.data⟩ (by simp) (by rfl))
     have bL:=cC.1
     have ff:x63=.tuple #[ll,Ko K nd row col H]:=cC.2
     clear cC
     subst ff
     have da:Hid (dn X 8):=bL
     clear bL
     simp only[Kl4,Act.put,Oa1,List.set_cons_zero,List.set_cons_succ]
     go_simp
     exact D.out _ _ ⟨⟨.tuple #[ll,Ko K nd row col H],x64,x65,x66,x67,x68,x69,x70,x71,x72,ll,x74,x16,x17,g,bs,fa,Y,ll,K,nd,row,col,H⟩,(by kernel_rfl),(hI).op 10 _ (by omega) (fun k M h=>by rcases k with _|_|_|_|_|_|_|_|_|_|_|_|_|_|_|k<;>first|exact h|exact absurd rfl M) ⟨Kq da.out,rfl⟩⟩
    ·intro X b0 x hI bi O br D
     obtain⟨⟨x63,x64,x65,x66,x67,x68,x69,x70,x71,x72,x73,x74,x16,x17,g,bs,fa,Y,ll,K,nd,row,col,H⟩,rfl,hI⟩:=hI
     have cC:=hI.f9 (O ⟨9,.data⟩ (by simp) (by rfl))
     have bL:=cC.1
     have ff:x63=.tuple #[ll,Ko K nd row col H]:=cC.2
     clear cC
     subst ff
     have da:Hid (dn X 8):=bL
     clear bL
     simp only[Kl4,Act.put,Oa1,List.set_cons_zero,List.set_cons_succ]
     go_simp
     exact D.out _ _ ⟨⟨.tuple #[ll,Ko K nd row col H],x64,x65,x66,x67,x68,x69,x70,x71,x72,x73,Ko K nd row col H,x16,x17,g,bs,fa,Y,ll,K,nd,row,col,H⟩,(by kernel_rfl),(hI).op 11 _ (by omega) (fun k M h=>by rcases k with _|_|_|_|_|_|_|_|_|_|_|_|_|_|_|k<;>first|exact h|exact absurd rfl M) ⟨Kq da.out,rfl⟩⟩
    ·intro X b0 x hI bi O br D
     obtain⟨⟨x63,x64,x65,x66,x67,x68,x69,x70,x71,x72,x73,x74,x16,x17,g,bs,fa,Y,ll,K,nd,row,col,H⟩,rfl,hI⟩:=hI
     have fI:Hid (dn X 8→g<x.heap.size∧∀ b∈bs,b<x.heap.size):=fun bu=>(hI.f8 bu).2.lt (by have:=hI.pos;have:=hI.low.size;omega)
     simp only[Kl4,Act.put,Oa1,List.set_cons_zero,List.set_cons_succ]
     go_simp
     exact D.out _ _ ⟨⟨x63,x64,x65,x66,x67,x68,x69,x70,x71,x72,x73,x74,x16,.pointer (some ⟨x.heap.size,0,none⟩),g,bs,x.heap.size,Y,ll,K,nd,row,col,H⟩,(by kernel_rfl),(hI.grow (Jc (Oa5 _ _) _)).op12 bi _ _ ⟨rfl,hI.low.size,by simp,fun _=>heap_alloc_new x _,fun bu=>⟨fun e=>by have:=(fI.out (Ki bu (by omega))).1;have e:x.heap.size=g:=e;omega,fun bh=>Oe3 _ ((fI.out (Ki bu (by omega))).2 _ bh)⟩⟩⟩
    ·intro X b0 x hI bi O br D
     obtain⟨⟨x63,x64,x65,x66,x67,x68,x69,x70,x71,x72,x73,x74,x16,x17,g,bs,fa,Y,ll,K,nd,row,col,H⟩,rfl,hI⟩:=hI
     have dZ:=hI.f10 (O ⟨10,.data⟩ (by simp) (by rfl))
     have bL:=dZ.1
     have jl:x73=ll:=dZ.2
     clear dZ
     subst jl
     have da:Hid (dn X 8):=bL
     clear bL
     simp only[Kl4,Act.put,Oa1,List.set_cons_zero,List.set_cons_succ]
     go_simp
     exact D.out _ _ ⟨⟨x63,x64,x65,x66,x67,x68,x69,x70,x71,x72,x73,x74,x73,x17,g,bs,fa,Y,x73,K,nd,row,col,H⟩,(by kernel_rfl),(hI).op 13 _ (by omega) (fun k M h=>by rcases k with _|_|_|_|_|_|_|_|_|_|_|_|_|_|_|k<;>first|exact h|exact absurd rfl M) ⟨Kq da.out,rfl⟩⟩
    ·intro X b0 x hI bi O br D
     obtain⟨⟨x63,x64,x65,x66,x67,x68,x69,x70,x71,x72,x73,x74,x16,x17,g,bs,fa,Y,ll,K,nd,row,col,H⟩,rfl,hI⟩:=hI
     have dC:=hI.f12 (O ⟨12,.data⟩ (by simp) (by rfl))
     have fb:=hI.f11 (O ⟨11,.data⟩ (by simp) (by rfl))
     have bL:=fb.1
     have jm:x74=Ko K nd row col H:=fb.2
     have fc:x17=.pointer (some ⟨fa,0,none⟩):=dC.1
     have de:=dC.2.1
     have fO:=dC.2.2.2.1
     clear fb dC
     subst fc jm
     have bJ:x.heap[fa]?=some (.cells #[.int .i64 0,.int .i64 0,.int .i64 0,.int .i64 0,.int .i64 0] 42 (0,0)):=fO (Yb bi)
     have de:bE.heap.size≤fa:=de
     have jJ:x.cell? ⟨fa,0,none⟩=some (.int .i64 0):=by simp[World.cell?,bJ]
     have jK:x.cell? ⟨fa,1,none⟩=some (.int .i64 0):=by simp[World.cell?,bJ]
     have jL:x.cell? ⟨fa,2,none⟩=some (.int .i64 0):=by simp[World.cell?,bJ]
     have gL:x.cell? ⟨fa,3,none⟩=some (.int .i64 0):=by simp[World.cell?,bJ]
     have jM:x.cell? ⟨fa,4,none⟩=some (.int .i64 0):=by simp[World.cell?,bJ]
     have jT:x.frozen? ⟨fa,0,none⟩=false:=by simp[World.frozen?,bJ]
     have jU:x.frozen? ⟨fa,1,none⟩=false:=by simp[World.frozen?,bJ]
     have jV:x.frozen? ⟨fa,2,none⟩=false:=by simp[World.frozen?,bJ]
     have gS:x.frozen? ⟨fa,3,none⟩=false:=by simp[World.frozen?,bJ]
     have jW:x.frozen? ⟨fa,4,none⟩=false:=by simp[World.frozen?,bJ]
     have fs:=Jk (Jk (Jk (Jk (Jk bJ 0 (.int .i64 K)) 1 (.int .i64 nd)) 2 (.int .i64 row)) 3 (.int .i64 col)) 4 (.int .i64 H)
     simp only[Oa1,List.set_cons_zero,List.set_cons_succ]at fs
     have jc:Hid _:=fs
     have gU:Hid _:=Um hI.low de (.int .i64 K) (.int .i64 nd) (.int .i64 row) (.int .i64 col) (.int .i64 H)
     have gT:Hid (dn X 8):=bL
     clear fs de fO bJ bL
     simp only[Kl4,Act.put,Oa1,List.set_cons_zero,List.set_cons_succ]
     go_simp
     exact D.out _ _ ⟨⟨x63,x64,x65,x66,x67,x68,x69,x70,x71,x72,x73,Ko K nd row col H,x16,.pointer (some ⟨fa,0,none⟩),g,bs,fa,Y,ll,K,nd,row,col,H⟩,(by kernel_rfl),(hI).op14 bi gT.out (O ⟨12,.data⟩ (by simp) (by rfl)) gU.out (by simp[World.setCell]) jc.out (fun k M=>Jib _ _ _ _ _ _ _ k M)⟩
    intro X b0 x hI jp jt
    obtain⟨⟨x63,x64,x65,x66,x67,x68,x69,x70,x71,x72,x73,x74,x16,x17,g,bs,fa,Y,ll,K,nd,row,col,H⟩,rfl,hI⟩:=hI
    have bu:∀ k,k<15→dn X k:=fun k M=>by
     have h1:=jp k M
     have h2:k<X.size:=by rw[jt];exact M
     unfold dn
     simp[h2]at h1 ⊢
     exact h1
    have bZ:=(hI.f8 (bu 8 (by omega))).2
    have fc:x17=.pointer (some ⟨fa,0,none⟩):=(hI.f12 (bu 12 (by omega))).1
    have jj:x16=ll:=(hI.f13 (bu 13 (by omega))).2
    have dh:=(hI.f14 (bu 14 (by omega))).2.2
    subst fc jj
    have cc:Hid _:=dh
    have gY:Hid _:=bZ
    have jb:Hid _:=hI.low
    clear dh bZ hI
    simp only[Kl4,Act.put,Oa1,List.set_cons_zero,List.set_cons_succ]
    go_wp2_with fail
    go_meet
    case rel=>exact⟨fa,_,_,_,_,_,Y,g,bs,rfl,cc.out,gY.out,jb.out⟩
   case rest=>
    obtain⟨fa,dd,nd,row,col,H,Y,g,bs,rfl,dh,bZ,cn⟩:=hcut
    have dU:Hid (Jnv (Ye bV [T]) (Kla b c fn) Y u16 dd nd row col H wc):=bZ.run
    have cc:Hid (wc.heap[fa]?=some (.cells #[.int .i64 dd,.int .i64 nd,.int .i64 row,.int .i64 col,.int .i64 H] 42 (0,0))):=dh
    have cZ:Hid (Zd wc R cb rs∧wc.cell? ⟨bD,2,none⟩=some (.slice R rs.length U)∧Below w.heap.size w wc):=⟨bB.out.2.2.2.2.1.rows.below cn,Ja cn bB.out.2.2.2.2.2.1,Jb bB.out.2.2.1 cn⟩
    have bA:Hid (Ye bV [T] Zu=.inl cs∧Klr rs cs b c∧(fn=2∨fn=3)∧(∀ r∈rs,b<r.length∧c<r.length)∧(∀ r∈rs,okV (E.getD c 0) (r.getD c Jf)∧Jg (r.getD c Jf).n)):=⟨bB.out.2.1.tab,bB.out.2.1.byRows cx.out.1 cx.out.2,dQ.out.elim .inl fun h=>.inr h.1,fun r dm=>by
     rw[(bB.out.2.1.vals r dm).1]
     exact cx.out,fun r dm=>(bB.out.2.1.vals r dm).2 c cx.out.2⟩
    have jk:rs.length≤60:=bB.out.2.2.2.2.2.2
    have fD:=cZ.out.2.1
    have js:∀ W,_:=Kox rs.length (by omega)
    clear dh bZ cn bB cM du dQ cx dV
    go_upto_region 14 with fail
    clear js fD
    have dM:(wc.alloc (.cells (madeCells #[.bool false] rs.length) 4)).heap[wc.heap.size]?=some (.cells ((List.replicate rs.length false).map Value.bool).toArray 4 (0,0)):=by
     rw[←Koy]
     exact heap_alloc_new wc _
    have fi:Below wc.heap.size wc (wc.alloc (.cells (madeCells #[.bool false] rs.length) 4)):=Jc (Oa5 _ _) _
    obtain⟨bI,fk⟩:∃ bI,bI=wc.heap.size:=⟨_,rfl⟩
    rw[←fk]at dM ⊢
    have gV:Hid (bI=wc.heap.size):=fk
    generalize wc.alloc (.cells (madeCells #[.bool false] rs.length) 4)=jF at dM fi ⊢
    clear fk
    go_upto_region 16 with fail
    go_loopw [19,20] (fun jE fE wr=>∃ (n i:Nat) (bC:List Bool),i≤rs.length∧n≤i∧jE=.int .i64 (n:Int)∧fE=.int .i64 (i:Int)∧Hid (Klu rs b c fn cs i n bC∧Below wc.heap.size wc wr)∧wr.heap[bI]?=some (.cells (bC.map Value.bool).toArray 4 (0,0))) (fun _ fE _=>rs.length-(intOf fE).toNat)
    case atStart=>exact⟨0,0,_,Ob7 _,Oa2 _,rfl,rfl,⟨Klu.start ..,fi⟩,dM⟩
    case round=>
     obtain⟨n,i,bC,hi,jH,rfl,rfl,hI,cW⟩:=hrel
     clear dM fi
     have fD:=Ja hI.out.2 cZ.out.2.1
     by_cases cX:i<rs.length
     ·have fl:i<bC.length:=by rw[hI.out.1.len];exact cX
      have dX:wr.cell? ⟨bI,i,none⟩=some (.bool (bC.getD i false)):=by
       rw[Oa0,Oa3 fl]
       simp[World.cell?,cW,fl]
      have j1:(0:Int)≤(i:Int):=by omega
      have j2:(i:Int)<(rs.length:Int):=by omega
      cases hdi:bC.getD i false
      ·rw[hdi]at dX
       obtain⟨m,dN⟩:∃ m,m=(rs.getD i []).getD b Jf:=⟨_,rfl⟩
       have dR:Hid (∀ y,Ju (·=bI) wr y→Below wc.heap.size wc y):=fun y cD=>hI.out.2.trans (cD.below (fun k M e=>by have:=gV.out;have e:k=bI:=e;omega) hI.out.2.size)
       have di:=Kou R U cb rs i bI b c fn bC (E.getD c 0) wr (fun y cD=>cZ.out.1.below (dR.out y cD)) jk cX cW hI.out.1.len bA.out.2.2.2.1 bA.out.2.2.2.2 bA.out.2.2.1
       rw[←dN]at di
       have cN:Hid (m=(rs.getD i []).getD b Jf∧bC.getD i false=false):=⟨dN,hdi⟩
       clear dN hdi fl
       cases htd:(Kk8 (Klp b c m (rs.drop i)) fn).2
       ·obtain⟨bY,bM,bN,bO,bP,bQ⟩:=hI.out.1.bad bA.out.2.1 bA.out.2.2.1 cX cN.out.2 cN.out.1 htd rfl bA.out.1 dU.out
        have dj:Calls prog 12 #[.slice R rs.length U,.int .i64 (i:Nat),.slice (some ⟨bI,0,none⟩) rs.length rs.length,.int .i64 (b:Nat),.int .i64 (c:Nat),.int .i64 (fn:Nat)] wr fun e y=>e=.returned (.tuple #[.slice none 0 0,.int .i64 10])∧Below wc.heap.size wc y:=di.mono fun e y h=>by
         obtain⟨h1,_,⟨cA,_⟩|⟨_,cB⟩⟩:=h
         ·rw[htd]at cA;cases cA
         exact⟨cB,dR.out y h1⟩
        clear di htd cW
        subst bY
        go_upto_region 21 with(go_at_call 12;refine dj.mono ?_;rintro bS y ⟨rfl,cE⟩)
        go_upto_region 22 with(go_at_call 13;refine(Jxv _ _ _ _).mono ?_;rintro bS bf ⟨rfl,cj⟩)
        have bl:=heap_alloc_new bf (.cells #[.int .i64 10,.int .i64 1,.int .i64 (n:Int),.int .i64 (-1),.int .i64 (-1)] 42)
        have cF:Below bf.heap.size bf (bf.alloc (.cells #[.int .i64 10,.int .i64 1,.int .i64 (n:Int),.int .i64 (-1),.int .i64 (-1)] 42)):=Jc (Oa5 _ _) _
        have cl:Below wc.heap.size wc (bf.alloc (.cells #[.int .i64 10,.int .i64 1,.int .i64 (n:Int),.int .i64 (-1),.int .i64 (-1)] 42)):=Jb cE (Jb cj cF)
        obtain⟨bz,fx⟩:∃ bz,bz=bf.heap.size:=⟨_,rfl⟩
        rw[←fx]at bl ⊢
        have jf:Hid (wc.heap.size≤bz):=by show _≤_;rw[fx];exact(Jb cE cj).size
        generalize bf.alloc (.cells #[.int .i64 10,.int .i64 1,.int .i64 (n:Int),.int .i64 (-1),.int .i64 (-1)] 42)=ci at bl cl ⊢
        have gL:ci.cell? ⟨bz,3,none⟩=some (.int .i64 (-1)):=by simp[World.cell?,bl]
        have gS:ci.frozen? ⟨bz,3,none⟩=false:=by simp[World.frozen?,bl]
        have fL:Hid (ci.heap[bz]?=some (.cells #[.int .i64 10,.int .i64 1,.int .i64 (n:Int),.int .i64 (-1),.int .i64 (-1)] 42 (0,0))∧Below wc.heap.size wc ci):=⟨bl,cl⟩
        clear bl cF cE cj cl fx
        go_upto_region 23 with fail
        have bl:=Jk fL.out.1 3 (.int .i64 2)
        simp only[Oa1,List.set_cons_zero,List.set_cons_succ]at bl
        have cl:Below wc.heap.size wc (ci.setCell ⟨bz,3,none⟩ (.int .i64 2)):=fL.out.2.setCell (p:=⟨bz,3,none⟩) jf.out _
        have mf:=(cl.block _ (Jd cc.out)).trans cc.out
        rw[bM,bN,bO,bP,bQ]at mf
        generalize ci.setCell ⟨bz,3,none⟩ (.int .i64 2)=bc at bl cl mf ⊢
        have bU:bc.cell? ⟨fa,0,none⟩=some (.int .i64 10):=by simp[World.cell?,mf]
        have w1:bc.cell? ⟨fa,1,none⟩=some (.int .i64 1):=by simp[World.cell?,mf]
        have cu:bc.cell? ⟨fa,2,none⟩=some (.int .i64 (n:Int)):=by simp[World.cell?,mf]
        have cv:bc.cell? ⟨fa,3,none⟩=some (.int .i64 2):=by simp[World.cell?,mf]
        have w4:bc.cell? ⟨fa,4,none⟩=some (.int .i64 (-1)):=by simp[World.cell?,mf]
        have jX:bc.cell? ⟨bz,0,none⟩=some (.int .i64 10):=by simp[World.cell?,bl]
        have jY:bc.cell? ⟨bz,1,none⟩=some (.int .i64 1):=by simp[World.cell?,bl]
        have jZ:bc.cell? ⟨bz,2,none⟩=some (.int .i64 (n:Int)):=by simp[World.cell?,bl]
        have ka:bc.cell? ⟨bz,3,none⟩=some (.int .i64 2):=by simp[World.cell?,bl]
        have kc:bc.cell? ⟨bz,4,none⟩=some (.int .i64 (-1)):=by simp[World.cell?,bl]
        have ja:Hid (Below w.heap.size w bc):=Jb cZ.out.2.2 cl
        have fq:=Jmf 10 1 (n:Int) 2 (-1)
        clear bl mf cl gL gS bM bN bO bP bQ
        go_wp2
        go_ret
        exact⟨rfl,ja.out⟩
       have dj:Calls prog 12 #[.slice R rs.length U,.int .i64 (i:Nat),.slice (some ⟨bI,0,none⟩) rs.length rs.length,.int .i64 (b:Nat),.int .i64 (c:Nat),.int .i64 (fn:Nat)] wr fun e y=>∃ g2,e=.returned (.tuple #[.slice (some ⟨g2,0,none⟩) 4 4,.int .i64 0])∧Below wc.heap.size wc y∧y.heap[bI]?=some (.cells ((dnL rs b m bC i rs.length).map Value.bool).toArray 4 (0,0))∧Jv y (some ⟨g2,0,none⟩) [m,Jbg ((Klp b c m (rs.drop i)).rows:Nat),(Kk8 (Klp b c m (rs.drop i)) fn).1,(Klp b c m (rs.drop i)).most]:=di.mono fun e y h=>by
        obtain⟨h1,h2,⟨_,g2,cB,_,fe⟩|⟨cA,_⟩⟩:=h
        ·exact⟨g2,cB,dR.out y h1,h2,fe⟩
        ·rw[htd]at cA;cases cA
       have dt:Hid (Klu rs b c fn cs (i+1) (n+1) (dnL rs b m bC i rs.length)):=(hI.out.1.new bA.out.2.1 bA.out.2.2.1 cX cN.out.2 cN.out.1).2.2 htd
       obtain⟨dk,gu⟩:=hI.out.1.row bA.out.2.1 bA.out.2.2.1 cX cN.out.2 cN.out.1
       have dx:Hid _:=gu
       clear di htd cW gu
       generalize (Klp b c m (rs.drop i))=bn at dj dx
       go_upto_region 20 with(go_at_call 12;refine dj.mono ?_;rintro bS y ⟨g2,rfl,cE,gb,gG⟩)
       have ch:Hid (Below wc.heap.size wc y∧y.heap[bI]?=some (.cells ((dnL rs b m bC i rs.length).map Value.bool).toArray 4 (0,0))∧Jv y (some ⟨g2,0,none⟩) [m,Jbg (bn.rows:Nat),(Kk8 bn fn).1,bn.most]):=⟨cE,gb,gG⟩
       have mf:=(cE.block _ (Jd cc.out)).trans cc.out
       clear cE gb gG dj fD dX
       rcases Km4 rfl bA.out.1 dU.out with⟨bY,bM,bN,bO,bP,_,g1,ji,bQ,fN⟩|⟨bY,bM,bN,bO,bP,x,jO,bQ,_⟩
       ·rw[bY,bM,bN,bO,bP]at mf
        have fr:=((fN.below ch.out.1).rowsAt).at (i:=n) (by rw[Uu];exact dk)
        have gZ:Hid (n<(Kk9 (Kk7 b c fn) cs).length):=dk
        have ge:(Qf (Kk9 (Kk7 b c fn) cs).length (Kln (Kk7 b c fn) cs))[n]'(by rw[Uu];exact dk)=[m,Jbg (bn.rows:Nat),(Kk8 bn fn).1,bn.most]:=by
         have:=dx.out
         rw[Oa3 (by rw[Uu];exact dk)]at this
         exact Oj6 this
        rw[ge]at fr
        generalize (Kk9 (Kk7 b c fn) cs).length=gN at bQ fr gZ dk
        obtain⟨_,_,fC,gQ,dg,_,cV,gE⟩:=fr
        cases dg
        have je:Hid (Jv y fC [m,Jbg (bn.rows:Nat),(Kk8 bn fn).1,bn.most]):=gE
        have bU:y.cell? ⟨fa,0,none⟩=some (.int .i64 0):=by simp[World.cell?,mf]
        have w1:y.cell? ⟨fa,1,none⟩=some (.int .i64 (-1)):=by simp[World.cell?,mf]
        have cu:y.cell? ⟨fa,2,none⟩=some (.int .i64 (-1)):=by simp[World.cell?,mf]
        have cv:y.cell? ⟨fa,3,none⟩=some (.int .i64 (-1)):=by simp[World.cell?,mf]
        have w4:y.cell? ⟨fa,4,none⟩=some (.int .i64 (-1)):=by simp[World.cell?,mf]
        clear mf bY bM bN bO bP fN gE dx ge
        subst bQ
        have fq:=Jjl 0
        go_upto_region 24 with fail
        refine wp_region_held_drew (S:=fun y=>y.cell? ⟨fa,0,none⟩=some (.int .i64 0)∧y.cell? ⟨fa,1,none⟩=some (.int .i64 (-1))∧y.cell? ⟨fa,2,none⟩=some (.int .i64 (-1))∧y.cell? ⟨fa,3,none⟩=some (.int .i64 (-1))∧y.cell? ⟨fa,4,none⟩=some (.int .i64 (-1))) (by kernel_rfl) ⟨Jh bU,Jh w1,Jh cu,Jh cv,Jh w4⟩ (fun A=>?_)
        refine tk 0 ?_ rfl A ?_ ?_
        rotate_left 1
        ·intro w bj;(try dsimp only at bj);go_simp;try rfl
        simp only[Act.put,List.getElem_toArray,List.getElem_cons_zero,Oa1,List.set_cons_zero,List.set_cons_succ]
        refine wpAnyH_ready (rs:=[1]) (by kernel_rfl) (by simp) (AllReadyH.cons rfl (fun bk D=>?_) AllReadyH.nil)
        go_simp
        refine(Jfu _).mono ?_
        rintro e bc ⟨rfl,ba⟩
        go_simp
        refine D.out _ _ ⟨Ja ba A.1,Ja ba A.2.1,Ja ba A.2.2.1,Ja ba A.2.2.2.1,Ja ba A.2.2.2.2⟩ (fun A=>?_)
        clear D bk
        refine tk 2 ?_ rfl A ?_ ?_
        rotate_left 1
        ·intro w bj;(try dsimp only at bj);go_simp;try rfl
        simp only[Act.put,List.getElem_toArray,List.getElem_cons_zero,List.getElem_cons_succ,Oa1,List.set_cons_zero,List.set_cons_succ]
        refine wpAnyH_done (by kernel_rfl) ?_ _
        have df:=Jw ba
        have fX:=Ja df cV
        rw[Od0]at fX
        have gy:Calls prog 15 #[.slice fC 4 gQ,.slice (some ⟨g2,0,none⟩) 4 4] bc fun e w'=>e=.returned (.bool true)∧Below bc.heap.size bc w':=Jqj fC (some ⟨g2,0,none⟩) gQ 4 [m,Jbg (bn.rows:Nat),(Kk8 bn fn).1,bn.most] [m,Jbg (bn.rows:Nat),(Kk8 bn fn).1,bn.most] bc (by unfold maxLen;simp) (je.out.below df) (ch.out.2.2.below df) true (by simp)
        have ds:Hid (Below y.heap.size y bc):=df
        have l1:¬ ((gN:Int)≤(n:Int)):=by omega
        have l2:(n:Int)<(gN:Int):=by omega
        have jN:(0:Int)≤(n:Int):=by omega
        clear ba A cV bU w1 cu cv w4 df
        go_upto_region 28 with(go_at_call 15;refine gy.mono ?_;rintro bS jg ⟨rfl,fU⟩)
        have fF:Hid (Below y.heap.size y jg):=Jb ds.out fU
        clear fU gy fX
        go_wp2
        go_roundw
        case rel=>exact⟨n+1,i+1,_,by omega,by omega,by go_num,by go_num,⟨dt.out,Jb ch.out.1 fF.out⟩,(fF.out.block _ (Jd ch.out.2.1)).trans ch.out.2.1⟩
        case measure=>simp[intOf];omega
       rw[bM,bN,bO,bP,bQ]at mf
       have bU:y.cell? ⟨fa,0,none⟩=some (.int .i64 10):=by simp[World.cell?,mf]
       have w1:y.cell? ⟨fa,1,none⟩=some (.int .i64 1):=by simp[World.cell?,mf]
       have cu:y.cell? ⟨fa,2,none⟩=some (.int .i64 (x:Int)):=by simp[World.cell?,mf]
       have cv:y.cell? ⟨fa,3,none⟩=some (.int .i64 2):=by simp[World.cell?,mf]
       have w4:y.cell? ⟨fa,4,none⟩=some (.int .i64 (-1)):=by simp[World.cell?,mf]
       clear mf bY bM bN bO bP bQ dx
       have fq:=Kow (a:=10) (a':=0) 1 (x:Int) 2 (-1) (-1) (-1) (-1) (-1) (by omega)
       go_upto_region 24 with fail
       refine wp_region_held_drew (S:=fun y=>y.cell? ⟨fa,0,none⟩=some (.int .i64 10)∧y.cell? ⟨fa,1,none⟩=some (.int .i64 1)∧y.cell? ⟨fa,2,none⟩=some (.int .i64 (x:Int))∧y.cell? ⟨fa,3,none⟩=some (.int .i64 2)∧y.cell? ⟨fa,4,none⟩=some (.int .i64 (-1))) (by kernel_rfl) ⟨Jh bU,Jh w1,Jh cu,Jh cv,Jh w4⟩ (fun A=>?_)
       refine tk 0 ?_ rfl A ?_ ?_
       rotate_left 1
       ·intro w bj;(try dsimp only at bj);go_simp;try rfl
       simp only[Act.put,List.getElem_toArray,List.getElem_cons_zero,Oa1,List.set_cons_zero,List.set_cons_succ]
       refine wpAnyH_ready (rs:=[1]) (by kernel_rfl) (by simp) (AllReadyH.cons rfl (fun bk D=>?_) AllReadyH.nil)
       go_simp
       refine(Jfu _).mono ?_
       rintro e bc ⟨rfl,ba⟩
       go_simp
       refine D.out _ _ ⟨Ja ba A.1,Ja ba A.2.1,Ja ba A.2.2.1,Ja ba A.2.2.2.1,Ja ba A.2.2.2.2⟩ (fun A=>?_)
       clear D bk
       refine tk 2 ?_ rfl A ?_ ?_
       rotate_left 1
       ·intro w bj;(try dsimp only at bj);go_simp;try rfl
       simp only[Act.put,List.getElem_toArray,List.getElem_cons_zero,List.getElem_cons_succ,Oa1,List.set_cons_zero,List.set_cons_succ]
       refine wpAnyH_done (by kernel_rfl) ?_ _
       have ds:Hid (Below y.heap.size y bc):=Jw ba
       clear ba A bU w1 cu cv w4
       go_wp2
       go_roundw
       case rel=>exact⟨n+1,i+1,_,by omega,by omega,by go_num,by go_num,⟨dt.out,Jb ch.out.1 ds.out⟩,(ds.out.block _ (Jd ch.out.2.1)).trans ch.out.2.1⟩
       case measure=>simp[intOf];omega
      rw[hdi]at dX
      have dt:Hid (Klu rs b c fn cs (i+1) n bC):=hI.out.1.old cX hdi
      clear hdi
      go_wp2
      go_roundw
      case rel=>exact⟨n,i+1,bC,by omega,by omega,by go_num,by go_num,⟨dt.out,hI.out.2⟩,cW⟩
      case measure=>simp[intOf];omega
     obtain rfl:i=rs.length:=by omega
     obtain⟨bY,bM,bN,bO,bP,gm,g1,ji,bQ,_⟩:=hI.out.1.end bA.out.2.1 rfl bA.out.1 dU.out
     rw[←gm]at bQ
     have mf:=(hI.out.2.block _ (Jd cc.out)).trans cc.out
     rw[bY,bM,bN,bO,bP]at mf
     have bU:wr.cell? ⟨fa,0,none⟩=some (.int .i64 0):=by simp[World.cell?,mf]
     have w1:wr.cell? ⟨fa,1,none⟩=some (.int .i64 (-1)):=by simp[World.cell?,mf]
     have cu:wr.cell? ⟨fa,2,none⟩=some (.int .i64 (-1)):=by simp[World.cell?,mf]
     have cv:wr.cell? ⟨fa,3,none⟩=some (.int .i64 (-1)):=by simp[World.cell?,mf]
     have w4:wr.cell? ⟨fa,4,none⟩=some (.int .i64 (-1)):=by simp[World.cell?,mf]
     clear mf bY bM bN bO bP gm cW
     subst bQ
     have fq:=Jjl 0
     have jI:¬ ((rs.length:Int)<(rs.length:Int)):=by omega
     go_upto_region 31 with fail
     refine wp_region_held_drew (S:=fun y=>y.cell? ⟨fa,0,none⟩=some (.int .i64 0)∧y.cell? ⟨fa,1,none⟩=some (.int .i64 (-1))∧y.cell? ⟨fa,2,none⟩=some (.int .i64 (-1))∧y.cell? ⟨fa,3,none⟩=some (.int .i64 (-1))∧y.cell? ⟨fa,4,none⟩=some (.int .i64 (-1))) (by kernel_rfl) ⟨Jh bU,Jh w1,Jh cu,Jh cv,Jh w4⟩ (fun A=>?_)
     refine tk 0 ?_ rfl A ?_ ?_
     rotate_left 1
     ·intro w bj;(try dsimp only at bj);go_simp;try rfl
     simp only[Act.put,List.getElem_toArray,List.getElem_cons_zero,Oa1,List.set_cons_zero,List.set_cons_succ]
     refine wpAnyH_ready (rs:=[1]) (by kernel_rfl) (by simp) (AllReadyH.cons rfl (fun bk D=>?_) AllReadyH.nil)
     go_simp
     refine(Jfu _).mono ?_
     rintro e bc ⟨rfl,ba⟩
     go_simp
     refine D.out _ _ ⟨Ja ba A.1,Ja ba A.2.1,Ja ba A.2.2.1,Ja ba A.2.2.2.1,Ja ba A.2.2.2.2⟩ (fun A=>?_)
     clear D bk
     refine tk 2 ?_ rfl A ?_ (tk 3 ?_ rfl A ?_ ?_)
     iterate 2
      rotate_left 1
      ·intro w bj;(try dsimp only at bj);go_simp;try rfl
     simp only[Act.put,List.getElem_toArray,List.getElem_cons_zero,List.getElem_cons_succ,Oa1,List.set_cons_zero,List.set_cons_succ]
     refine tk 4 ?_ rfl A ?_ (tk 5 ?_ rfl A ?_ (tk 6 ?_ rfl A ?_ (tk 7 ?_ rfl A ?_ (tk 8 ?_ rfl A ?_ (tk 9 ?_ rfl A ?_ ?_)))))
     iterate 6
      rotate_left 1
      ·intro w bj;(try dsimp only at bj);go_simp;try rfl
     simp only[Act.put,List.getElem_toArray,List.getElem_cons_zero,List.getElem_cons_succ,Oa1,List.set_cons_zero,List.set_cons_succ]
     refine wpAnyH_done (by kernel_rfl) ?_ _
     go_wp2
     go_ret
     exact⟨rfl,Jb cZ.out.2.2 (Jb hI.out.2 (Jw ba))⟩
end Go.Proofs.YtdlgbphkaicfaaaGreatDoor
