/- A Join: the right side is laid into buckets. -/
import Derived.Test.YtpchafocmlhmbaaGreatDoorJf
set_option maxHeartbeats 4000000
set_option maxRecDepth 100000
namespace Go.Proofs.YtpchafocmlhmbaaGreatDoor
open Go.RowKit Go.Shelf Go.Maps Tryz
attribute [local go_sem] Oc0
theorem Kt2 (jb:Nat)(rv nv:Value)(E y:Option Addr)(H rc nl D:Nat)(hr:rv=.slice E H rc)(hn:nv=.slice y nl D)(w:World):Calls prog 144 #[.pointer (some ⟨jb,0,none⟩),rv,nv] w fun e w'=>e=.returned (.func (.func 190) #[] #[.pointer (some ⟨w.heap.size+1,0,none⟩),.pointer (some ⟨w.heap.size,0,none⟩),.pointer (some ⟨w.heap.size+2,0,none⟩)])∧w'=((w.alloc (.cells #[.pointer (some ⟨jb,0,none⟩)] 270)).alloc (.cells #[rv] 72)).alloc (.cells #[nv] 22):=by
 subst hr hn;go_enter func144,ntmps144
 go_wp2;go_ret
 exact⟨rfl,rfl⟩
def Ksb (l:List (Nat×(Int×Bool)))(h:Int):List Nat:=(l.filter fun x=>!x.2.2&&decide (x.2.1=h)).map (·.1)
theorem Kwh {l:List (Nat×(Int×Bool))}{x:Nat×(Int×Bool)}(y:x.2.2=true):Ksb (l++[x])=Ksb l:=by
 funext h
 unfold Ksb;rw[List.filter_append];simp[y]
theorem Kwv {l:List (Nat×(Int×Bool))}{x:Nat×(Int×Bool)}(y:x.2.2=false)(h:Int):Ksb (l++[x]) h=if h=x.2.1 then Ksb l x.2.1++[x.1]else Ksb l h:=by
 unfold Ksb;rw[List.filter_append,Ob8];by_cases e:h=x.2.1
 ·subst e;simp[y]
 have D:decide (x.2.1=h)=false:=decide_eq_false (Oc5 e);rw[if_neg e];simp[y,D]
theorem Kt7 (l:List (Nat×(Int×Bool)))(h:Int):(Ksb l h).length≤l.length:=by
 unfold Ksb;rw[Oa6];exact Ok1 _ _
def Kti (s:Nat)(bs:List Nat)(l:List (Nat×(Int×Bool))):Prop:=∀ x∈l,x.2.2=false→Ksv s bs x.2.1.toNat=true
theorem Kti.null {s:Nat}{bs:List Nat}{l:List (Nat×(Int×Bool))}{x:Nat×(Int×Bool)}(h:Kti s bs l)(D:x.2.2=true):Kti s bs (l++[x]):=fun E y hn=>by
 rcases Od2.1 y with y|y
 ·exact h E y hn
 rw[Oc6.1 y,D]at hn;cases hn
theorem Kti.more {s:Nat}{bs:List Nat}{l:List (Nat×(Int×Bool))}{x:Nat×(Int×Bool)}(h:Kti s bs l)(hl:bs.length=(s+63) / 64):Kti s (Ks8 s bs x.2.1.toNat) (l++[x]):=fun D y hn=>by
 rcases Od2.1 y with y|y
 ·exact Kvs hl _ (h D y hn)
 rw[Oc6.1 y];exact Kvo hl _
structure Ktb (w:World) (fb bb mb s:Nat) (M:Nat→Prop) (l:List (Nat×(Int×Bool))):Prop where
 fl:∃ bs,Ksj w fb bb s bs∧Kti s bs l
 bk:∃ n bv,Ksp w mb (mb+1) n M bv (Ksb l)∧n≤l.length
 inM:M bb∧¬ M fb∧bb≠mb∧fb≠mb
 size:mb<w.heap.size
theorem Ktb.blocks {w w':World}{fb bb mb s:Nat}{M:Nat→Prop}{l:List (Nat×(Int×Bool))}(h:Ktb w fb bb mb s M l)(O:w.heap.size≤w'.heap.size)(hf:w'.heap[fb]?=w.heap[fb]?)(y:∀ k,M k→w'.heap[k]?=w.heap[k]?):Ktb w' fb bb mb s M l:=by
 obtain⟨bs,D,E⟩:=h.fl;obtain⟨n,bv,H,K⟩:=h.bk;exact⟨⟨bs,D.keep hf (y bb h.inM.1),E⟩,⟨n,bv,H.blocks y,K⟩,h.inM,by have:=h.size;omega⟩
theorem Ks4 {w:World}{B:Nat}{e:TypeId}{z n:Nat}{sv:Value}{xs:List Value}(h:w.ownsRow B e z sv n xs){g:Nat}(D:sv.ownBlock=some g):∃ o:Obj,w.heap[g]?=some o∧o.isCells=true:=by
 obtain⟨E,y⟩:=Ja4 h D;exact⟨_,y,rfl⟩
theorem Ksp.grown {w w':World}{mb D n:Nat}{M:Nat→Prop}{bv:Int→Value}{bk:Int→List Nat}{row:Option Nat}(h:Ksp w mb D n M bv bk)(O:w.grownBy w' row)(hr:∀ r,row=some r→r≠mb∧∃ o:Obj,w.heap[r]?=some o∧o.isCells=false):Ksp w' mb D n M bv bk:=by
 obtain⟨U,E,X⟩:=h.map;have ba:mb<w.heap.size:=by obtain⟨es,bf,Y,_⟩:=E;exact(Oe2.1 Y).1
 refine⟨⟨U,Ktf E (O.block mb ba fun e=>(hr mb e.symm).1 rfl),X⟩,fun x y=>Jl (h.own x y) fun g K=>O.block g (Je (h.own x y) K).2 fun e=>?_,h.inM,h.apart,h.low⟩;obtain⟨o,bc,Z⟩:=Ks4 (h.own x y) K;obtain⟨_,bh,R,H⟩:=hr g e.symm;rw[bc]at R;cases R
 rw[Z]at H;cases H
theorem Ktb.grown {w w':World}{fb bb mb s:Nat}{M:Nat→Prop}{l:List (Nat×(Int×Bool))}{row:Option Nat}(h:Ktb w fb bb mb s M l)(D:w.grownBy w' row)(hr:∀ r,row=some r→r≠mb∧∃ o:Obj,w.heap[r]?=some o∧o.isCells=false):Ktb w' fb bb mb s M l:=by
 obtain⟨bs,y,H⟩:=h.fl;obtain⟨n,bv,K,O⟩:=h.bk;have E:=CK.of_grown D fun r e=>(hr r e).2;exact⟨⟨bs,⟨E.cells _ _ _ _ y.cells,E.cells _ _ _ _ y.bits,y.len,y.lt,y.few⟩,H⟩,⟨n,bv,K.grown D hr,O⟩,h.inM,Oc2 h.size D.size⟩
theorem Kt1 {M:Nat→Prop}{A B:World}{row:Option Nat}(h:A.grownBy B row)(hr:∀ r,row=some r→M r):Krx M A B:=⟨h.size,fun k y hn=>h.block k y fun e=>hn (hr k e.symm),h.os,h.tape,h.output⟩
theorem Ks6 {B:Nat}{A E:World}{row:Option Nat}(h:A.grownBy E row)(hr:∀ r,row=some r→r<B∨∃ o:Obj,A.heap[r]?=some o∧o.isCells=true):KeepsFrom B A E:=⟨h.size,fun k o O D K=>(h.block k (Oe2.1 D).1 fun e=>by
 rcases hr k e.symm with y|⟨R,y,H⟩
 ·omega
 rw[D]at y;cases y
 rw[K]at H;cases H).trans D⟩
theorem Kvq {M:Nat→Prop}{A B:World}{b:Nat}(h:Ju (·=b) A B)(y:M b):Krx M A B:=⟨h.size,fun k D hn=>h.block k D fun e=>hn ((show k=b from e)▸y),h.os,h.tape,h.output⟩
theorem Kub {B:Nat}{A y:World}{b:Nat}(h:Ju (·=b) A y)(H:b<B):KeepsFrom B A y:=⟨h.size,fun k _ E D _=>(h.block k (Oe2.1 D).1 fun e=>by have e:k=b:=e;omega).trans D⟩
theorem Kxt {w:World}{B bb:Nat}{sv:Value}{xs:List Value}{C:Array Value}{f:Nat×Nat}(h:Jo w B 3 sv xs)(D:w.heap[bb]?=some (.cells C 244 f)):sv.ownBlock≠some bb:=fun e=>by
 obtain⟨E,y⟩:=Ja4 h e;rw[D]at y;simp only[Oc9,Obj.cells.injEq]at y;exact absurd y.2.1 (by decide)
theorem Kvx (jb rb cr fb bb mb s bG N z:Nat)(bn:Option Addr)(hs:List (Option Addr×Nat))(cols:List (List V))(ns:List Nat)(lv kv cG cK:Value)(bu bl sd:Int)(R:Nat→Prop)(w:World)
  (bL:w.heap[jb]?=some (.cells (jnC lv (.slice (some ⟨rb,0,none⟩) cols.length cr) kv (z:Nat) bu bl sd (.pointer (some ⟨fb,0,none⟩)) (.map (some mb)) cG cK).toArray 275 (0,0)))
  (fj:1≤z) (cW:z≤1000) (dQ:N≤100000) (ff:1≤cols.length) (fg:cols.length≤1000) (hC:Qd w rb hs cols) (dt:∀ j,j<cols.length→(cols.getD j []).length=N) (dB:∀ c∈ns,c<cols.length) (fd:ns.length≤1000) (dH:∀ c∈ns,∀ v∈cols.getD c [],Jg v.n∧v.s.size≤maxLen) (dG:Jg sd) (hI:Kc w bn (ns.map fun (x:Nat)=>(x:Int)))
  (di:Ktb w fb bb mb s R []) (dj:∀ k,R k→k<w.heap.size) (hF:¬ R jb∧Jbo rb hs cols.length (fun k=>¬ R k∧k<w.heap.size)∧∀ b o,bn=some ⟨b,o,none⟩→¬ R b∧b<w.heap.size) :
  Calls prog 142 #[.pointer (some ⟨jb,0,none⟩),.slice bn ns.length bG] w fun e w'=>e=.returned (.tuple #[])∧∃ M,Ktb w' fb bb mb s M ((List.range N).map (hxE cols ns (sd % 18446744073709551616)))∧Krx R w w'∧Kr0 R M w w':=by
 have dN:Hid (w.heap[jb]?=some (.cells (jnC lv (.slice (some ⟨rb,0,none⟩) cols.length cr) kv (z:Nat) bu bl sd (.pointer (some ⟨fb,0,none⟩)) (.map (some mb)) cG cK).toArray 275 (0,0))):=bL;have bP:Hid (Qd w rb hs cols∧(∀ j,j<cols.length→(cols.getD j []).length=N)∧(∀ c∈ns,c<cols.length)∧(∀ c∈ns,∀ v∈cols.getD c [],Jg v.n∧v.s.size≤maxLen)∧Kc w bn (ns.map fun (x:Nat)=>(x:Int))∧Jg sd):=⟨hC,dt,dB,dH,hI,dG⟩;have Y:Hid (Ktb w fb bb mb s R []∧(∀ k,R k→k<w.heap.size)∧¬ R jb∧Jbo rb hs cols.length (fun k=>¬ R k∧k<w.heap.size)∧∀ b o,bn=some ⟨b,o,none⟩→¬ R b∧b<w.heap.size):=⟨di,dj,hF⟩;have c1:w.cell? ⟨jb,1,none⟩=some (.slice (some ⟨rb,0,none⟩) cols.length cr):=by simp[World.cell?,bL,jnC]
 have dV:=Jd bL;clear bL hC dt dB dH hI di dj hF dG;have cA:Below w.heap.size w (w.alloc (.cells #[.pointer (some ⟨jb,0,none⟩)] 270)):=Jc (Oa5 _ _) _;have cj:=heap_alloc_new w (.cells #[.pointer (some ⟨jb,0,none⟩)] 270);have cz:=Ja cA c1;have cy:(w.alloc (.cells #[.pointer (some ⟨jb,0,none⟩)] 270)).cell? ⟨w.heap.size,0,none⟩=some (.pointer (some ⟨jb,0,none⟩)):=by simp only[World.cell?,cj];rfl
 have ch:=Oa7 w (.cells #[.pointer (some ⟨jb,0,none⟩)] 270);refine(callsIn_wide (n:=3)).1 ?_;refine callsIn_of_wp_marks func142 rfl trivial ?_ rfl;simp only[ntmps142,Om3,List.length_cons,List.length_nil,Nat.reduceAdd,Nat.reduceSub,Ok9,Array.replicate_zero,Om4,Ol2,List.nil_append,List.cons_append];refine wpIn_wide.2 ?_;go_upto_region 1 with fail
 generalize w.alloc (.cells #[.pointer (some ⟨jb,0,none⟩)] 270)=bS at cA cj cy cz ch ⊢;have dx:=fun ba=>Kt2 jb (.slice (some ⟨rb,0,none⟩) cols.length cr) (.slice bn ns.length bG) (some ⟨rb,0,none⟩) bn cols.length cr ns.length bG rfl rfl ba;clear c1;refine wp_mono ?_ Jpf.imp;refine wp_region_held_drew (S:=fun ba=>ba.cell? ⟨w.heap.size,0,none⟩=some (.pointer (some ⟨jb,0,none⟩))∧ba.cell? ⟨jb,1,none⟩=some (.slice (some ⟨rb,0,none⟩) cols.length cr)) (by kernel_rfl) ⟨Jh cy,Jh cz⟩ (fun y=>?_);refine tkj 0 rfl y ?_;refine tkj 1 rfl y ?_;refine tkj 2 rfl y ?_;refine tkj 3 rfl y ?_;refine tkj 4 rfl y ?_;refine tkj 5 rfl y ?_;refine tkn ?_;refine tkr 6 rfl fun Z H=>?_;go_simp;refine(dx _).mono ?_;rintro e X ⟨rfl,dm⟩;have bR:Hid _:=dm;clear dm;have ca:Below bS.heap.size bS X:=by rw[bR.out];exact Jc (Jc (Jc (Jj (Oa5 _ _)) _) _) _
 go_simp;refine H.out _ _ ⟨Ja ca cy,Ja ca cz⟩ (fun _=>?_);clear H Z y dx;refine wpAnyH_done (by kernel_rfl) ?_ _;dsimp only[Jpf];have cF:bS.drew.heap.size=w.heap.size+1:=ch;have df:X.heap[w.heap.size+1]?=some (.cells #[.pointer (some ⟨jb,0,none⟩)] 270 (0,0)):=by
  rw[bR.out,Oa9 _ _ _ (by rw[Oa7,Oa7];omega),Oa9 _ _ _ (by rw[Oa7];omega),←cF];exact heap_alloc_new bS.drew _
 have dh:X.heap[w.heap.size+1+1]?=some (.cells #[.slice (some ⟨rb,0,none⟩) cols.length cr] 72 (0,0)):=by
  have:=heap_alloc_new (bS.drew.alloc (.cells #[.pointer (some ⟨jb,0,none⟩)] 270)) (.cells #[.slice (some ⟨rb,0,none⟩) cols.length cr] 72);rw[Oa7,cF]at this;rw[bR.out,Oa9 _ _ _ (by rw[Oa7,Oa7];omega)];exact this
 have dg:X.heap[w.heap.size+1+2]?=some (.cells #[.slice bn ns.length bG] 22 (0,0)):=by
  have:=heap_alloc_new ((bS.drew.alloc (.cells #[.pointer (some ⟨jb,0,none⟩)] 270)).alloc (.cells #[.slice (some ⟨rb,0,none⟩) cols.length cr] 72)) (.cells #[.slice bn ns.length bG] 22);rw[Oa7,Oa7,cF]at this;rw[bR.out];exact this
 have cV:X.heap.size=w.heap.size+4:=by rw[bR.out,Oa7,Oa7,Oa7];omega
 have bx:Below w.heap.size w X:=Jb cA ca;have dI:=(ca.block _ (Jd cj)).trans cj;have cx:Hid (Below w.heap.size w X∧X.heap.size=w.heap.size+4∧X.heap[w.heap.size]?=some (.cells #[.pointer (some ⟨jb,0,none⟩)] 270 (0,0))∧X.heap[jb]?=some (.cells (jnC lv (.slice (some ⟨rb,0,none⟩) cols.length cr) kv (z:Nat) bu bl sd (.pointer (some ⟨fb,0,none⟩)) (.map (some mb)) cG cK).toArray 275 (0,0))):=⟨bx,cV,dI,(bx.block _ dV).trans dN.out⟩;have dd:Hid (∀ W,Krx R X W→JG jb z sd W∧W.heap[jb]?=some (.cells (jnC lv (.slice (some ⟨rb,0,none⟩) cols.length cr) kv (z:Nat) bu bl sd (.pointer (some ⟨fb,0,none⟩)) (.map (some mb)) cG cK).toArray 275 (0,0))∧W.heap[w.heap.size]?=some (.cells #[.pointer (some ⟨jb,0,none⟩)] 270 (0,0))):=fun W dk=>by
  have bc:=(dk.2 jb (by omega) Y.out.2.2.1).trans cx.out.2.2.2;refine⟨⟨by simp[World.cell?,bc,jnC],by simp[World.cell?,bc,jnC]⟩,bc,(dk.2 _ (by omega) fun h=>by have:=Y.out.2.1 _ h;omega).trans cx.out.2.2.1⟩
 have cu:Hid (Ktb X fb bb mb s R []):=Y.out.1.blocks bx.size (bx.block _ (by obtain⟨bs,bc,_⟩:=Y.out.1.fl;exact Jd bc.cells)) fun k D=>bx.block k (Y.out.2.1 k D);have hseq:=Kt8 2 (w.heap.size+1+1) (w.heap.size+1) (w.heap.size+1+2) jb rb cr hs cols bn bG ns N z sd X fj cW dQ ff fg (bP.out.1.below bx) bP.out.2.1 bP.out.2.2.1 fd bP.out.2.2.2.1 bP.out.2.2.2.2.2 (by simp[World.cell?,dh]) (by simp[World.cell?,df]) (by simp[World.cell?,dg]) (bP.out.2.2.2.2.1.below bx) (fun k=>k<X.heap.size∧¬ R k)
  ⟨⟨by omega,fun h=>by have:=Y.out.2.1 _ h;omega⟩,⟨by omega,fun h=>by have:=Y.out.2.1 _ h;omega⟩,⟨by omega,fun h=>by have:=Y.out.2.1 _ h;omega⟩,⟨⟨by have:=Y.out.2.2.2.1.1.2;omega,Y.out.2.2.2.1.1.1⟩,fun j bL b o e=>⟨by have:=(Y.out.2.2.2.1.2 j bL b o e).2;omega,(Y.out.2.2.2.1.2 j bL b o e).1⟩⟩,fun b o e=>⟨by have:=(Y.out.2.2.2.2 b o e).2;omega,(Y.out.2.2.2.2 b o e).1⟩⟩ (fun k D=>D.1)
 clear cy cz cA ca cj dI bR ch cF bx df dh dg;go_wp2_with fail
 refine(wpIn_wide (n:=3)).1 ?_;refine Ksl rfl (by omega) (gf:=190) (lb:=#[.pointer (some ⟨w.heap.size+1+1,0,none⟩),.pointer (some ⟨w.heap.size+1,0,none⟩),.pointer (some ⟨w.heap.size+1+2,0,none⟩)]) rfl trivial (enters_of func190 (by kernel_rfl) rfl)
  hseq (Oa5 _ _) (fun _=>rfl) R (fun k D=>⟨D.2,D.1⟩) (fun k D=>by have:=Y.out.2.1 k D;omega)
  (fun t W=>Ktb W fb bb mb s t.2 t.1∧Krx R X W∧Kr0 R t.2 X W) (fun _ _ _=>False)
  ?hI ?hIx (fun t W h=>(dd.out W h.2.1).1) ⟨cu.out,Krx.refl _ _,Kr0.refl fun k D=>by have:=Y.out.2.1 k D;omega⟩
  (fun x M cM W=>∃ kb,cM={tmps:=#[.pointer (some ⟨jb,0,none⟩),.slice bn ns.length bG,.pointer (some ⟨w.heap.size,0,none⟩),undef,.int .i64 (x.1:Nat),.pointer (some ⟨kb,0,none⟩),.pointer (some ⟨jb,0,none⟩),.pointer (some ⟨jb,0,none⟩),.pointer (some ⟨jb,0,none⟩),.pointer (some ⟨jb,1,none⟩),.slice (some ⟨rb,0,none⟩) cols.length cr,.slice bn ns.length bG,.func (.func 190) #[] #[.pointer (some ⟨w.heap.size+1+1,0,none⟩),.pointer (some ⟨w.heap.size+1,0,none⟩),.pointer (some ⟨w.heap.size+1+2,0,none⟩)],.int .i64 (x.1:Nat),.agg #[.int .u64 x.2.1,.bool x.2.2],undef,undef,undef,undef,undef,undef,undef,undef,undef,undef,undef,undef,undef,undef,undef,undef,undef,undef,undef,undef,undef,undef,undef,undef,undef,undef],defers:=[]}∧W.heap[kb]?=some (.cells #[.int .u64 x.2.1,.bool x.2.2] 285 (0,0))∧¬ M kb∧kb≠mb∧Kr3 x.2.1) ?hAx ?assign ?body ?done ?stop
 case hI=>
  rintro⟨l,M⟩ A dc row ⟨bc,bi,br⟩ bA hr;refine⟨bc.grown bA fun r e=>⟨by have:=(hr r e).1;have:=cu.out.size;omega,(hr r e).2⟩,⟨Ob2 bi.1 bA.size,fun k D hn=>(bA.block k (Oc2 D bi.1) fun e=>by have:=(hr k e.symm).1;omega).trans (bi.2 k D hn),bA.os.trans bi.out.1,bA.tape.trans bi.out.2.1,bA.output.trans bi.out.2.2⟩,br.1,br.2.1,fun k D=>Oc2 (br.2.2 k D) bA.size⟩
 case hIx=>
  rintro c t A dc row h;exact h.elim
 case hAx=>
  rintro x M cM t A dc row ⟨kb,bc,bi,br⟩ bA hr;exact⟨kb,bc,(CK.of_grown bA fun r e=>(hr r e).2).cells _ _ _ _ bi,br⟩
 case assign=>
  clear cV hseq;rintro fx U M ⟨r,h,nl⟩ bz Z ⟨hI,dy,cU⟩ dR bJ H;dsimp only[Kxa];have bK:Below bz.heap.size bz (bz.alloc (.cells #[.int .u64 h,.bool nl] 285)):=Jc (Oa5 _ _) _;have cB:fb<bz.heap.size:=by obtain⟨bs,bc,_⟩:=hI.fl;exact Jd bc.cells
  have dO:Hid (Z _ (bz.alloc (.cells #[.int .u64 h,.bool nl] 285))):=H _ _ bK ⟨hI.blocks bK.size (bK.block _ cB) fun k D=>bK.block k (bJ k D),dy.trans (Krx.of_below (M:=R) bK) fun _=>.inl,cU.1,cU.2.1,fun k D=>Oc2 (bJ k D) bK.size⟩ ⟨bz.heap.size,rfl,heap_alloc_new bz _,fun h=>Oe3 _ (bJ _ h),by have:=hI.size;omega,dR.1⟩;clear H bK cB hI dy cU bJ;gi_wp2
  exact dO.out
 case stop=>
  rintro cn c U M bz dP _ h;exact h.elim
 case done=>
  rintro cn xs M bz dP fh ⟨bc,bi,br⟩ H;subst fh;go_wp2_with fail
  refine⟨by simp,.inl ⟨_,_,rfl,run_takeDeferred H,?_⟩⟩;have bx:=cx.out.1;refine⟨.tuple #[],by simp[results,Tryz.f142,go_sem],rfl,M,bc.grown (grownBy_putObj' _ cn (.deferred none)) (fun r e=>by cases e;exact⟨by have:=cu.out.size;omega,_,H,rfl⟩),?_,?_⟩
  ·refine((Krx.of_below (M:=R) bx).trans bi fun _=>.inl).trans (M':=fun k=>k=cn) ⟨by simp,fun k _ hn=>World.putObj_heap_other hn,rfl,rfl,rfl⟩ fun k D=>.inr (by have e:k=cn:=D;omega)
  exact⟨br.1,fun k D=>(br.2.1 k D).elim .inl fun h=>.inr (by omega),fun k D=>by simpa using br.2.2 k D⟩
 case body=>
  rintro fw U M ⟨r,h,nl⟩ cM K ⟨hI,cS,cf⟩ ⟨kb,rfl,cc,cb,dW,bh⟩ bJ dE;simp only at cc bh hI cf;obtain⟨_,cH,cX⟩:=dd.out K cS;have cJ:K.cell? ⟨kb,0,none⟩=some (.int .u64 h):=by simp[World.cell?,cc]
  have fq:K.cell? ⟨kb,1,none⟩=some (.bool nl):=by simp[World.cell?,cc]
  have cI:K.cell? ⟨w.heap.size,0,none⟩=some (.pointer (some ⟨jb,0,none⟩)):=by simp[World.cell?,cX]
  have cY:K.cell? ⟨jb,7,none⟩=some (.pointer (some ⟨fb,0,none⟩)):=by simp[World.cell?,cH,jnC]
  have dJ:K.cell? ⟨jb,8,none⟩=some (.map (some mb)):=by simp[World.cell?,cH,jnC]
  have E:Hid (Ktb K fb bb mb s M U∧Krx R X K∧Kr0 R M X K∧(∀ k,M k→k<K.heap.size)∧U.length<N+z∧Kr3 h):=⟨hI,cS,cf,bJ,dE,bh⟩;have cv:Hid (kb<K.heap.size∧jb<K.heap.size∧w.heap.size<K.heap.size∧¬ M jb∧¬ M w.heap.size∧¬ M kb):=⟨Jd cc,Jd cH,Jd cX,fun cN=>by
   rcases cf.2.1 _ cN with e|e
   ·exact Y.out.2.2.1 e
   ·omega,fun cN=>by
   rcases cf.2.1 _ cN with e|e
   ·have:=Y.out.2.1 _ e;omega
   omega,cb⟩
  clear hI cS cf cc cb dW bJ dE cH cX cV hseq;obtain⟨hn,dT⟩:∃ hn:Nat,h=(hn:Int):=⟨h.toNat,by have:=bh.1;omega⟩;subst dT;have fc:hn<18446744073709551616:=by have:=bh.2;omega
  clear bh;cases nl
  ·obtain⟨bs,dw,du⟩:=E.out.1.fl;obtain⟨n,bv,dq,dA⟩:=E.out.1.bk;have bD:Hid (Ksj K fb bb s bs∧Kti s bs U∧Ksp K mb (mb+1) n M bv (Ksb U)∧n≤U.length):=⟨dw,du,dq,dA⟩;have bH:Hid (bb≠w.heap.size∧bb≠jb∧bb≠kb∧bb<K.heap.size):=⟨fun e=>cv.out.2.2.2.2.1 (e▸E.out.1.inM.1),fun e=>cv.out.2.2.2.1 (e▸E.out.1.inM.1),fun e=>cv.out.2.2.2.2.2 (e▸E.out.1.inM.1),E.out.2.2.2.1 _ E.out.1.inM.1⟩;clear dw du dq dA;gi_wp2_with fail
   refine Kix (S:=fun ba=>ba.cell? ⟨w.heap.size,0,none⟩=some (.pointer (some ⟨jb,0,none⟩))∧ba.cell? ⟨jb,7,none⟩=some (.pointer (some ⟨fb,0,none⟩))∧ba.cell? ⟨kb,0,none⟩=some (.int .u64 (hn:Int))) (by kernel_rfl) (by kernel_rfl) ⟨Jh cI,Jh cY,Jh cJ⟩ (fun y=>?_);refine tkj 0 rfl y ?_;refine tkj 1 rfl y ?_;refine tkj 2 rfl y ?_;refine tkj 3 rfl y ?_;refine tkj 4 rfl y ?_;refine tkj 5 rfl y ?_;refine tkn ?_;refine tkr 6 rfl fun Z H=>?_;go_simp;refine(Kxs fb bb s hn bs K.drew (bD.out.1.keep rfl rfl) fc).mono ?_;rintro e O ⟨rfl,bU,dv⟩;have bC:Ju (·=bb) K O:=⟨bU.os,bU.tape,bU.output,bU.size,bU.block⟩;go_simp;refine H.out _ _ ⟨bC.cell cI (Oc5 bH.out.1),bC.cell cY (Oc5 bH.out.2.1),bC.cell cJ (Oc5 bH.out.2.2.1)⟩ (fun y=>?_);clear H Z;refine wpAnyH_done (by kernel_rfl) ?_ _;dsimp only[Jpf];have bW:=bC.cell cI (Oc5 bH.out.1);have bX:=bC.cell dJ (Oc5 bH.out.2.1);have bY:=bC.cell cJ (Oc5 bH.out.2.2.1);have bQ:Hid (Ju (·=bb) K O∧Ksj O fb bb s (Ks8 s bs hn)):=⟨bC,dv⟩;have bO:Hid (Ksp O mb (mb+1) n M bv (Ksb U)):=bD.out.2.2.1.bits bC bD.out.1.bits E.out.1.inM.2.2.1;clear y bU dv bC cI cY dJ cJ fq;gi_wp2_with fail
   have cT:∀ ba,Below O.heap.size O ba→(Instr.lookup 273 (.map (some mb)) (.int .u64 (hn:Int)) false).run prog ba=.ok (bv hn) ba:=fun ba dS=>(bO.out.blocks fun k D=>dS.block k (Oc2 (E.out.2.2.2.1 k D) bQ.out.1.size)).look E.out.2.2.2.2.2;have bf:Below O.heap.size O ((O.alloc (.cells #[.int .i64 (r:Nat)] 3)).drew):=Jj (Jc (Oa5 _ _) _);have dX:=cT O.drew (Jj (Oa5 _ _));have dY:=cT _ bf;have de:=heap_alloc_new O (.cells #[.int .i64 (r:Nat)] 3);have ci:=Oa7 O (.cells #[.int .i64 (r:Nat)] 3);refine Kix (S:=fun ba=>ba.cell? ⟨w.heap.size,0,none⟩=some (.pointer (some ⟨jb,0,none⟩))∧ba.cell? ⟨jb,8,none⟩=some (.map (some mb))∧ba.cell? ⟨kb,0,none⟩=some (.int .u64 (hn:Int))) (by kernel_rfl) (by kernel_rfl) ⟨Jh bW,Jh bX,Jh bY⟩ (fun y=>?_);refine tkj 0 rfl y ?_;refine tkj 1 rfl y ?_;refine tkj 2 rfl y ?_;refine tkj 3 rfl y ?_;refine tkn ?_;refine tkj 4 rfl y ?_;refine tkj 5 rfl y ?_;refine tkj 6 rfl y ?_;refine tkj 7 rfl y ?_;refine tkj 8 rfl y ?_;refine tkj 9 rfl y ?_;refine tkn ?_;refine tkj 10 rfl y ?_;refine tkj 11 rfl y ?_;refine tkj 13 rfl y ?_;refine tkn ?_;clear y;refine wpAnyH_ready (rs:=[12,14]) (by kernel_rfl) (by simp) (AllReadyH.cons rfl (fun Z H=>?_) (AllReadyH.cons rfl (fun Z H=>?_) AllReadyH.nil));focus
    go_simp;refine H.out _ _ ⟨Jh bW,Jh bX,Jh bY⟩ (fun y=>?_);clear H Z;refine tkr 14 rfl fun Z H=>?_;go_simp;refine H.out _ _ ⟨Ja bf bW,Ja bf bX,Ja bf bY⟩ (fun y=>?_);clear H Z
   rotate_left 1;focus
    go_simp;refine H.out _ _ ⟨Ja bf bW,Ja bf bX,Ja bf bY⟩ (fun y=>?_);clear H Z;refine tkr 12 rfl fun Z H=>?_;go_simp;refine H.out _ _ y (fun y=>?_);clear H Z
   all_goals
    have bh:=E.out.2.2.2.2.2;have cE:=Jaw (bO.out.own _ bh) bf;have fs:=Kt7 U (hn:Int);have dD:((O.alloc (.cells #[.int .i64 (r:Nat)] 3)).drew).ownsRow (mb+1) 3 1 (bv (hn:Int)) (Ksb U (hn:Int)).length ((Ksb U (hn:Int)).map fun (x:Nat)=>Value.int .i64 (x:Nat)):=by rw[Oa6]at cE;exact cE
    have fu:=E.out.2.2.2.2.1;have ft:=E.out.1.size;have fi:=bQ.out.1.size;obtain⟨fp,dU,fk,ch,fm⟩:=info_parts Kp4;refine tkr 15 rfl fun Z H=>?_;refine step_append_lies ((O.alloc (.cells #[.int .i64 (r:Nat)] 3)).drew) rfl (.tmp 37) (.tmp 39) 22 rfl (mb+1) 3 fp (.int .i64 0) 1 8 underlying22 dU fk ch fm rfl (by decide) (bv (hn:Int)) _ _ rfl dD ⟨O.heap.size,0,none⟩ 1 1 [.int .i64 (r:Nat)] rfl rfl (fun j u bh=>World.news_of_block (w:=(O.alloc (.cells #[.int .i64 (r:Nat)] 3)).drew) de j u (by simpa using bh)) (fun u bh=>by simp at bh;subst bh;rfl) (by decide) (by unfold maxLen;omega) (by omega) (by rw[heap_drew,ci];omega) (O.heap.size+1) (by rw[heap_drew];exact ci) (fun bj bT bI dC bB cO dZ=>?_);have bV:∀ g,(bv (hn:Int)).ownBlock=some g→M g:=fun g e=>bO.out.inM.2 _ g bh e;have hL:=cv.out;have cZ:bI.cell? ⟨w.heap.size,0,none⟩=some (.pointer (some ⟨jb,0,none⟩)):=(bB.cell_far ⟨w.heap.size,0,none⟩ (by show w.heap.size<(O.alloc (.cells #[.int .i64 (r:Nat)] 3)).heap.size;omega) fun e=>hL.2.2.2.2.1 (bV _ e.symm)).trans (Ja bf bW);have da:bI.cell? ⟨jb,8,none⟩=some (.map (some mb)):=(bB.cell_far ⟨jb,8,none⟩ (by show jb<(O.alloc (.cells #[.int .i64 (r:Nat)] 3)).heap.size;omega) fun e=>hL.2.2.2.1 (bV _ e.symm)).trans (Ja bf bX);have db:bI.cell? ⟨kb,0,none⟩=some (.int .u64 (hn:Int)):=(bB.cell_far ⟨kb,0,none⟩ (by show kb<(O.alloc (.cells #[.int .i64 (r:Nat)] 3)).heap.size;omega) fun e=>hL.2.2.2.2.2 (bV _ e.symm)).trans (Ja bf bY);have ds:Ksp ((O.alloc (.cells #[.int .i64 (r:Nat)] 3)).drew) mb (mb+1) n M bv (Ksb U):=bO.out.blocks fun k D=>bf.block k (Oc2 (E.out.2.2.2.1 k D) fi);have cD:(Value.slice (some ⟨bj,0,none⟩) ((Ksb U (hn:Int)).length+1) bT).ownBlock=some bj:=rfl;obtain⟨bM,fe,bE,dr⟩:=ds.put bh (by have:=bD.out.2.2.2;omega) bB (v':=.slice (some ⟨bj,0,none⟩) ((Ksb U (hn:Int)).length+1) bT) (r:=r) (by
     show World.ownsRow _ _ _ _ _ _ _;rw[Oa6,Ob8,Oa8];exact dC) (by
     rw[cD];rcases cO with e|e
     ·exact .inl e.symm
     exact .inr ⟨bj,rfl,by rw[heap_drew,ci];omega⟩)
    have cC:=bO.out.inM.1;have fo:=bB.size;have fv:=bE.size;rw[heap_drew,ci]at fo;have dK:=(bE.cell_far ⟨w.heap.size,0,none⟩ (by show w.heap.size<bI.heap.size;omega) fun e=>by cases e;exact hL.2.2.2.2.1 cC).trans cZ;have dL:=(bE.cell_far ⟨jb,8,none⟩ (by show jb<bI.heap.size;omega) fun e=>by cases e;exact hL.2.2.2.1 cC).trans da;have dM:=(bE.cell_far ⟨kb,0,none⟩ (by show kb<bI.heap.size;omega) fun e=>by cases e;exact hL.2.2.2.2.2 cC).trans db;have cQ:bj<bI.heap.size∧(M bj∨O.heap.size+1≤bj):=⟨dZ,cO.elim (fun e=>.inl (bV bj e)) fun e=>.inr (by omega)⟩;have cb:Krx M K bM:=(((Kvq bQ.out.1 E.out.1.inM.1).trans (Krx.of_below (M:=M) bf) fun _=>.inl).trans (Kt1 bB bV) fun _=>.inl).trans (Kt1 bE fun q e=>by cases e;exact cC) fun _=>.inl;have dz:Kr0 M (fun k=>M k∨(Value.slice (some ⟨bj,0,none⟩) ((Ksb U (hn:Int)).length+1) bT).ownBlock=some k) K bM:=⟨fun k D=>.inl D,fun k D=>D.elim .inl fun e=>by
      rw[cD]at e;cases e
      exact cQ.2.elim .inl fun h=>.inr (by omega),fun k D=>D.elim (fun h=>by have:=E.out.2.2.2.1 k h;omega) fun e=>by
      rw[cD]at e;cases e
      omega⟩
    have cB:fb<K.heap.size:=Jd bD.out.1.cells;have dp:bb<X.heap.size∧mb<X.heap.size:=⟨by have:=Y.out.2.1 bb Y.out.1.inM.1;have:=cx.out.2.1;omega,by have:=cu.out.size;exact this⟩;have cP:∀ k,k<K.heap.size→(bv (hn:Int)).ownBlock≠some k→k≠mb→bM.heap[k]?=O.heap[k]?:=fun k D bc bi=>by
     rw[bE.block k (by omega) (fun e=>bi (by cases e;rfl)),bB.block k (by rw[heap_drew,ci];omega) (fun e=>bc e.symm)];exact bf.block k (by omega)
    have bZ:Hid (KeepsFrom X.heap.size K bM∧Ktb bM fb bb mb s (fun k=>M k∨(Value.slice (some ⟨bj,0,none⟩) ((Ksb U (hn:Int)).length+1) bT).ownBlock=some k) (U++[(r,((hn:Int),false))])∧Krx M K bM∧Kr0 M (fun k=>M k∨(Value.slice (some ⟨bj,0,none⟩) ((Ksb U (hn:Int)).length+1) bT).ownBlock=some k) K bM):=by
     refine⟨(((Kub bQ.out.1 dp.1).trans (Krz bf)).trans (Ks6 bB fun q e=>.inr (Ks4 cE e))).trans (Ks6 bE fun q e=>by cases e;exact .inl dp.2),⟨⟨Ks8 s bs hn,bQ.out.2.keep (cP fb cB (fun e=>E.out.1.inM.2.1 (bV _ e)) E.out.1.inM.2.2.2) (cP bb bH.out.2.2.2 (Kxt (bO.out.own _ bh) bQ.out.2.bits) E.out.1.inM.2.2.1),?_⟩,⟨n+1,(fun bN=>if bN=(hn:Int)then (Value.slice (some ⟨bj,0,none⟩) ((Ksb U (hn:Int)).length+1) bT)else bv bN),?_,?_⟩,⟨.inl E.out.1.inM.1,fun h=>?_,E.out.1.inM.2.2⟩,by omega⟩,cb,dz⟩
     ·have:=bD.out.2.1.more (x:=(r,((hn:Int),false))) bD.out.1.len;simpa using this
     ·have e:Ksb (U++[(r,((hn:Int),false))])=fun bN=>if bN=(hn:Int)then Ksb U (hn:Int)++[r]else Ksb U bN:=funext fun bN=>Kwv rfl bN
      rw[e];exact dr
     ·have:=bD.out.2.2.2;rw[Oa8];simp;omega
     rcases h with h|h
     ·exact E.out.1.inM.2.1 h
     rw[cD]at h;cases h
     rcases cQ.2 with h|h
     ·exact E.out.1.inM.2.1 h
     omega
    refine H.out _ _ ⟨cZ,da,db⟩ (fun y=>?_);clear H Z;simp only[Act.put,List.getElem_toArray,List.getElem_cons_zero,List.getElem_cons_succ,Oa1,List.set_cons_zero,List.set_cons_succ];refine tkr 16 rfl fun Z H=>?_;go_simp;refine H.out _ _ ⟨dK,dL,dM⟩ (fun _=>?_);clear H Z y;refine wpAnyH_done (by kernel_rfl) ?_ _;dsimp only[Jpf];clear fe dr ds bE bB dC cO cP cb dz cQ dK dL dM cZ da db cE dD dX dY cT bW bX bY de bf;gi_wp2
    have cW:=E.out.2.1.1;exact⟨bZ.out.1,trivial,_,⟨bZ.out.2.1,E.out.2.1.trans bZ.out.2.2.1 E.out.2.2.1.2.1,E.out.2.2.1.trans bZ.out.2.2.2 cW⟩,bZ.out.2.2⟩
  gi_wp2
  exact⟨KeepsFrom.refl _ _,trivial,M,⟨by
   obtain⟨bs,bc,bi⟩:=E.out.1.fl;obtain⟨n,bv,br,fr⟩:=E.out.1.bk;exact⟨⟨bs,bc,bi.null rfl⟩,⟨n,bv,by rw[Kwh rfl];exact br,by simp only[Oa8];omega⟩,E.out.1.inM,E.out.1.size⟩,E.out.2.1,E.out.2.2.1⟩,Krx.refl _ _,Kr0.refl E.out.2.2.2.1⟩
end Go.Proofs.YtpchafocmlhmbaaGreatDoor
