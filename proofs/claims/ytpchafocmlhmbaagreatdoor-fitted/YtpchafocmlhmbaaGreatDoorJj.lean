/- A Join: the rows that fit are taken. -/
import Derived.Test.YtpchafocmlhmbaaGreatDoorJi
set_option maxHeartbeats 4000000
set_option maxRecDepth 100000
namespace Go.Proofs.YtpchafocmlhmbaaGreatDoor
open Go.RowKit Go.Shelf Go.Maps Tryz
attribute [local go_sem] Oc0
theorem Kum (jb:Nat)(row h:Int)(y:Bool)(w:World):Calls prog 145 #[.pointer (some ⟨jb,0,none⟩),.int .i64 row,.agg #[.int .u64 h,.bool y]] w fun e w'=>e=.returned (.func (.func 192) #[] #[.pointer (some ⟨w.heap.size+2,0,none⟩),.pointer (some ⟨w.heap.size,0,none⟩),.pointer (some ⟨w.heap.size+1,0,none⟩)])∧w'=((w.alloc (.cells #[.pointer (some ⟨jb,0,none⟩)] 270)).alloc (.cells #[.int .i64 row] 3)).alloc (.cells #[.int .u64 h,.bool y] 285):=by
 go_enter func145,ntmps145
 go_wp2;go_ret
 exact⟨rfl,rfl⟩
def tkL (k:Nat)(row:Nat)(f:List Nat):List Int:=match k with
 |0=>f.map fun _=>(row:Int)
 |1=>if f=[]then [(row:Int)]else f.map fun _=>(row:Int)
 |2=>if f=[]then []else [(row:Int)]
 |_=>if f=[]then [(row:Int)]else []
def tkR (k:Nat)(f:List Nat):List Int:=match k with
 |0=>f.map fun (x:Nat)=>(x:Int)
 |1=>if f=[]then [-1]else f.map fun (x:Nat)=>(x:Int)
 |_=>[]
structure Ks2 (j:JnE) (MB:Nat→Prop) (l:List (Nat×(Int×Bool))) (nl nr:Nat) (bs:List Nat) (h:Int) (nul:Bool) (row kyb pjb rwb:Nat) (M:Nat→Prop) (w:World):Prop where
 jr:JnR j MB l nl nr w
 fl:Ksj w j.fb j.bb j.s bs
 u:Kr3 h
 rowl:row<nl
 few:l.length≤200000
 c1:w.heap[kyb]?=some (.cells #[.int .u64 h,.bool nul] 285 (0,0))
 c2:w.cell? ⟨pjb,0,none⟩=some (.pointer (some ⟨j.jb,0,none⟩))
 c3:w.cell? ⟨rwb,0,none⟩=some (.int .i64 (row:Nat))
 far:¬ M kyb∧¬ M pjb∧¬ M rwb∧∀ k,JnB j MB k→¬ M k
 size:kyb<w.heap.size∧pjb<w.heap.size∧rwb<w.heap.size∧∀ k,JnB j MB k→k<w.heap.size
def ftV (y D E:Nat):Value:=.func (.func 192) #[] #[.pointer (some ⟨y,0,none⟩),.pointer (some ⟨D,0,none⟩),.pointer (some ⟨E,0,none⟩)]
section
variable {j:JnE} {MB M:Nat→Prop} {l:List (Nat×(Int×Bool))} {nl nr row kyb pjb rwb:Nat} {bs:List Nat} {h:Int} {nul:Bool} {w:World}
theorem Ks2.below {w':World}(y:Ks2 j MB l nl nr bs h nul row kyb pjb rwb M w)(D:Below w.heap.size w w'):Ks2 j MB l nl nr bs h nul row kyb pjb rwb M w':=
 ⟨y.jr.blocks D.size fun k E=>D.block k (y.size.2.2.2 k E),y.fl.keep (D.block _ (Jd y.fl.cells)) (D.block _ (Jd y.fl.bits)),y.u,y.rowl,y.few,(D.block _ y.size.1).trans y.c1,Ja D y.c2,Ja D y.c3,y.far,Oc2 y.size.1 D.size,Oc2 y.size.2.1 D.size,Oc2 y.size.2.2.1 D.size,fun k E=>Oc2 (y.size.2.2.2 k E) D.size⟩
def FtB (j:JnE)(y:Nat→Prop)(D E H k:Nat):Prop:=k=D∨k=E∨k=H∨JnB j y k
theorem Ks2.seq (n:Nat)(y:Ks2 j MB l nl nr bs h nul row kyb pjb rwb M w):Kx1 Fence.wide n prog 192 #[.pointer (some ⟨kyb,0,none⟩),.pointer (some ⟨pjb,0,none⟩),.pointer (some ⟨rwb,0,none⟩)] (fun x:Nat=>#[.int .i64 (x:Nat)]) (fun x _=>x<nr) (FtB j MB kyb pjb rwb) (Kv4 j) (fun xs=>xs=Krw j bs l row (h,nul)) (fun E=>E <+: Krw j bs l row (h,nul)) (l.length+1) w:=
 Ku6 n kyb pjb rwb row nl nr j MB l bs h nul w y.jr y.fl y.u y.rowl y.few y.c1 y.c2 y.c3 _ ⟨.inl rfl,.inr (.inl rfl),.inr (.inr (.inl rfl)),fun _ D=>.inr (.inr (.inr D))⟩ (fun k D=>by
  rcases D with rfl|rfl|rfl|D
  ·exact y.size.1
  ·exact y.size.2.1
  ·exact y.size.2.2.1
  exact y.size.2.2.2 k D)
theorem Ks2.out (y:Ks2 j MB l nl nr bs h nul row kyb pjb rwb M w)(k:Nat)(D:FtB j MB kyb pjb rwb k):¬ M k∧k<w.heap.size:=by
 rcases D with rfl|rfl|rfl|D
 ·exact⟨y.far.1,y.size.1⟩
 ·exact⟨y.far.2.1,y.size.2.1⟩
 ·exact⟨y.far.2.2.1,y.size.2.2.1⟩
 exact⟨y.far.2.2.2 k D,y.size.2.2.2 k D⟩
end
def Kr7 (j:JnE)(M:Nat→Prop)(D:Nat)(L y:List Int)(w:World)(w':World):Prop:=∃ M',Ks5 j M' D L y w'∧Krx M w w'∧Kr0 M M' w w'∧∀ B,KeepsFrom B w w'
theorem Kuc (j:JnE)(de bf:Nat→Prop)(l:List (Nat×(Int×Bool)))(nl nr row bV bW bY U:Nat)(bs:List Nat)(h:Int)(cG:Bool)(L bJ:List Int)(w:World)(hF:Ks2 j de l nl nr bs h cG row bV bW bY bf w)(cA:Ks5 j bf U L bJ w)(cO:∀ k,bf k→k<w.heap.size)(di:U≤w.heap.size)(hL:L.length≤100000∧bJ.length≤100000) :
  Calls prog 186 #[.pointer (some ⟨j.jb,0,none⟩),.int .i64 (row:Nat),ftV bV bW bY] w fun e w'=>e=.returned (.tuple #[])∧Kr7 j bf U (L++tkL 0 row (Krw j bs l row (h,cG))) (bJ++tkR 0 (Krw j bs l row (h,cG))) w w':=by
 have dR:j.jb<U:=by obtain⟨lv,rv,bz⟩:=cA;exact bz.low
 have dq:j.jb<w.heap.size:=by obtain⟨lv,rv,bz⟩:=cA;exact Jd bz.cells
 obtain⟨H,bT⟩:∃ H,H=(w.alloc (.cells #[.pointer (some ⟨j.jb,0,none⟩)] 270)).alloc (.cells #[.int .i64 (row:Nat)] 3):=⟨_,rfl⟩;have cC:Below w.heap.size w H:=by rw[bT];exact Jc (Jc (Oa5 _ _) _) _
 have dv:H.heap.size=w.heap.size+2:=by rw[bT,Oa7,Oa7]
 have dw:H.heap[w.heap.size]?=some (.cells #[.pointer (some ⟨j.jb,0,none⟩)] 270 (0,0)):=by
  rw[bT,Oa9 _ _ _ (by rw[Oa7];omega)];exact heap_alloc_new w _
 have dx:H.heap[w.heap.size+1]?=some (.cells #[.int .i64 (row:Nat)] 3 (0,0)):=by
  have:=heap_alloc_new (w.alloc (.cells #[.pointer (some ⟨j.jb,0,none⟩)] 270)) (.cells #[.int .i64 (row:Nat)] 3);rw[Oa7]at this;rw[bT];exact this
 have dc:Hid (Ks2 j de l nl nr bs h cG row bV bW bY bf H):=hF.below cC;have bc:Hid ((∀ k,bf k→k<w.heap.size)∧Below w.heap.size w H∧H.heap.size=w.heap.size+2∧U≤w.heap.size∧j.jb<w.heap.size∧l.length≤200000):=⟨cO,cC,dv,di,dq,hF.few⟩;have dA:Hid (Ks5 j bf U L bJ H):=by
  obtain⟨lv,rv,bz⟩:=cA;exact⟨lv,rv,bz.blocks fun k X=>cC.block k (cO k X)⟩
 have dd:Hid (H.heap[w.heap.size]?=some (.cells #[.pointer (some ⟨j.jb,0,none⟩)] 270 (0,0))∧H.heap[w.heap.size+1]?=some (.cells #[.int .i64 (row:Nat)] 3 (0,0))):=⟨dw,dx⟩;have dz:Hid (L.length≤100000∧bJ.length≤100000):=hL;unfold ftV;clear hF cA cO cC dv di dq dw dx hL;refine(callsIn_wide (n:=3)).1 ?_;refine callsIn_of_wp_marks func186 rfl trivial ?_ rfl;simp only[ntmps186,Om3,List.length_cons,List.length_nil,Nat.reduceAdd,Nat.reduceSub,Ok9,Array.replicate_zero,Om4,Ol2,List.nil_append,List.cons_append];refine wpIn_wide.2 ?_;go_wp2_with fail
 rw[←bT];clear bT;refine(wpIn_wide (n:=3)).1 ?_;refine Ksl rfl (by omega) (gf:=192) (lb:=#[.pointer (some ⟨bV,0,none⟩),.pointer (some ⟨bW,0,none⟩),.pointer (some ⟨bY,0,none⟩)]) rfl trivial (enters_of func192 (by kernel_rfl) rfl)
  (dc.out.seq 2) (Oa5 _ _) (fun _=>rfl) bf (fun k X=>dc.out.out k X) (fun k X=>by have:=bc.out.1 k X;have:=bc.out.2.2.1;omega)
  (fun t W=>Ks5 j t.2 U (L++t.1.map fun _=>(row:Int)) (bJ++t.1.map fun (x:Nat)=>(x:Int)) W∧Krx bf H W∧Kr0 bf t.2 H W∧∀ B,KeepsFrom B H W) (fun _ _ _=>False)
  ?hI ?hIx (fun t W h=>by obtain⟨⟨lv,rv,bz⟩,_⟩:=h;exact bz.jn) ⟨by have:=dA.out;rwa [Oi4,Oi4,Od7,Od7],Krx.refl _ _,Kr0.refl (fun k X=>by have:=bc.out.1 k X;have:=bc.out.2.2.1;omega),fun B=>KeepsFrom.refl _ _⟩
  (fun x M cH W=>cH={tmps:=#[.pointer (some ⟨j.jb,0,none⟩),.int .i64 (row:Nat),.func (.func 192) #[] #[.pointer (some ⟨bV,0,none⟩),.pointer (some ⟨bW,0,none⟩),.pointer (some ⟨bY,0,none⟩)],.pointer (some ⟨w.heap.size,0,none⟩),.pointer (some ⟨w.heap.size+1,0,none⟩),undef,.int .i64 (x:Nat),.func (.func 192) #[] #[.pointer (some ⟨bV,0,none⟩),.pointer (some ⟨bW,0,none⟩),.pointer (some ⟨bY,0,none⟩)],.int .i64 (x:Nat),undef,undef,undef,undef,undef,undef,undef,undef,undef,undef,undef,undef,undef,undef,undef,undef,undef,undef,undef,undef],defers:=[]}) ?hAx ?assign ?body ?done ?stop
 case hI=>
  rintro⟨l,M⟩ A da row ⟨⟨lv,rv,bM⟩,bj,bP,cM⟩ bG hr;refine⟨⟨lv,rv,bM.grown bG fun r e=>(hr r e).2⟩,⟨Ob2 bj.1 bG.size,fun k X hn=>(bG.block k (Oc2 X bj.1) fun e=>by have:=(hr k e.symm).1;omega).trans (bj.2 k X hn),bG.os.trans bj.out.1,bG.tape.trans bj.out.2.1,bG.output.trans bj.out.2.2⟩,⟨bP.1,bP.2.1,fun k X=>Oc2 (bP.2.2 k X) bG.size⟩,fun B=>⟨Ob2 bj.1 bG.size,fun k o cN X bz=>?_⟩⟩;have cQ:=(Oe2.1 X).1;exact(bG.block k (Oc2 cQ bj.1) fun e=>by have:=(hr k e.symm).1;omega).trans ((cM B).2 k o cN X bz)
 case hIx=>
  rintro c t A da row h;exact h.elim
 case hAx=>
  rintro x M cH t A da row h bG hr;exact h
 case assign=>
  rintro dT bX M x D R hI dQ cz y;have dy:Hid (R _ D):=y _ _ (Oa5 _ _) hI rfl;clear y hI cz;gi_wp2
  exact dy.out
 case stop=>
  rintro cv c bX M D dI _ h;exact h.elim
 case done=>
  rintro cv xs M D dI cD ⟨⟨lv,rv,bM⟩,bj,bP,cM⟩ y;subst cD;go_wp2_with fail
  refine⟨by simp,.inl ⟨_,_,rfl,run_takeDeferred y,?_⟩⟩;have dh:=bc.out.2.1;have cD:=bc.out.2.2.1;refine⟨.tuple #[],by simp[results,Tryz.f186,go_sem],rfl,M,⟨lv,rv,bM.grown (grownBy_putObj' _ cv (.deferred none)) (fun r e=>by cases e;exact⟨_,y,rfl⟩)⟩,?_,?_,fun B=>?_⟩
  ·refine((Krx.of_below (M:=bf) dh).trans bj fun _=>.inl).trans (M':=fun k=>k=cv) ⟨by simp,fun k _ hn=>World.putObj_heap_other hn,rfl,rfl,rfl⟩ fun k X=>.inr (by have e:k=cv:=X;omega)
  ·exact⟨bP.1,fun k X=>(bP.2.1 k X).elim .inl fun h=>.inr (by omega),fun k X=>by simpa using bP.2.2 k X⟩
  refine⟨by have:=bj.1;simp;omega,fun k o cN X bz=>?_⟩;have cQ:=(Oe2.1 X).1;exact(World.putObj_heap_other (by omega)).trans ((cM B).2 k o cN ((dh.block k cQ).trans X) bz)
 case body=>
  rintro dS bX M x cH E ⟨⟨lv,rv,bM⟩,ch,cU,dj⟩ rfl cz dJ;have bU:=ch.1;have cD:=bc.out.2.2.1;have cV:∀ k,w.heap.size≤k→k<H.heap.size→¬ M k:=fun k dO dP e=>by
   rcases cU.2.1 _ e with e|e
   ·have:=bc.out.1 _ e;omega
   omega
  have bN:E.cell? ⟨w.heap.size,0,none⟩=some (.pointer (some ⟨j.jb,0,none⟩)):=by
   have:=(ch.2 _ (by omega) (fun e=>by have:=bc.out.1 _ e;omega)).trans dd.out.1;simp[World.cell?,this]
  have bO:E.cell? ⟨w.heap.size+1,0,none⟩=some (.int .i64 (row:Nat)):=by
   have:=(ch.2 _ (by omega) (fun e=>by have:=bc.out.1 _ e;omega)).trans dd.out.2;simp[World.cell?,this]
  obtain⟨O,bi⟩:∃ O,O=L++bX.map fun _=>(row:Int):=⟨_,rfl⟩;obtain⟨Y,cB⟩:∃ Y,Y=bJ++bX.map fun (x:Nat)=>(x:Int):=⟨_,rfl⟩;simp only at bM;rw[←bi,←cB]at bM;have cy:Hid (O.length≤300001∧Y.length≤300001):=by
   have:=dz.out;have:=bc.out.2.2.2.2.2;constructor
   ·rw[bi,Oa8,Oa6];omega
   rw[cB,Oa8,Oa6];omega
  have db:Hid (L++(bX++[x]).map (fun _=>(row:Int))=O++[(row:Int)]∧bJ++(bX++[x]).map (fun (x:Nat)=>(x:Int))=Y++[(x:Int)]):=by
   show _∧_;rw[bi,cB];simp
  have ca:Hid (Krx bf H E∧Kr0 bf M H E∧(∀ B,KeepsFrom B H E)∧H.heap.size≤E.heap.size):=⟨ch,cU,dj,bU⟩;have bA:Hid (Ksd j M U O Y lv rv E∧w.heap.size+1<E.heap.size∧¬ M w.heap.size∧¬ M (w.heap.size+1)∧(∀ k,M k→k<E.heap.size)∧U≤E.heap.size∧j.jb<E.heap.size):=⟨bM,by omega,cV _ (Oa2 _) (by omega),cV _ (by omega) (by omega),cz,by have:=bc.out.2.2.2.1;omega,by have:=bc.out.2.2.2.2.1;omega⟩;clear bM ch cU dj cz dJ bU cD cV bi cB;gi_wp2_with fail
  have bn:Below E.heap.size E ((E.alloc (.cells #[.int .i64 (row:Nat)] 3)).drew):=Jj (Jc (Oa5 _ _) _);have df:=heap_alloc_new E (.cells #[.int .i64 (row:Nat)] 3);have cE:=Oa7 E (.cells #[.int .i64 (row:Nat)] 3);have dm:=bA.out.1.cells;have cI:E.cell? ⟨j.jb,9,none⟩=some lv:=by simp[World.cell?,dm,JnE.cells,jnC]
  have dD:=Jh cI;have dG:=Ja bn cI;clear dm;refine Kix (S:=fun cb=>cb.cell? ⟨w.heap.size,0,none⟩=some (.pointer (some ⟨j.jb,0,none⟩))∧cb.cell? ⟨w.heap.size+1,0,none⟩=some (.int .i64 (row:Nat))) (by kernel_rfl) (by kernel_rfl) ⟨Jh bN,Jh bO⟩ (fun K=>?_);refine tkj 0 rfl K ?_;refine tkj 1 rfl K ?_;refine tkj 2 rfl K ?_;refine tkj 3 rfl K ?_;refine tkn ?_;refine tkj 5 rfl K ?_;refine tkn ?_;clear K;refine wpAnyH_ready (rs:=[4,6]) (by kernel_rfl) (by simp) (AllReadyH.cons rfl (fun R y=>?_) (AllReadyH.cons rfl (fun R y=>?_) AllReadyH.nil));focus
   go_simp;refine y.out _ _ ⟨Jh bN,Jh bO⟩ (fun K=>?_);clear y R;refine tkr 6 rfl fun R y=>?_;go_simp;refine y.out _ _ ⟨Ja bn bN,Ja bn bO⟩ (fun K=>?_);clear y R
  rotate_left 1;focus
   go_simp;refine y.out _ _ ⟨Ja bn bN,Ja bn bO⟩ (fun K=>?_);clear y R;refine tkr 4 rfl fun R y=>?_;go_simp;refine y.out _ _ K (fun K=>?_);clear y R
  all_goals
   have dt:((E.alloc (.cells #[.int .i64 (row:Nat)] 3)).drew).ownsRow U 3 1 lv (O).length ((O).map Ksh):=by
    have:=Jaw bA.out.1.left bn;rw[Oa6]at this;exact this
   obtain⟨cY,cP,cW,bU,cX⟩:=info_parts Kp4;refine tkr 7 rfl fun R y=>?_;refine step_append_lies ((E.alloc (.cells #[.int .i64 (row:Nat)] 3)).drew) rfl (.tmp 13) (.tmp 15) 22 rfl U 3 cY (.int .i64 0) 1 8 underlying22 cP cW bU cX rfl (by decide) lv _ _ rfl dt ⟨E.heap.size,0,none⟩ 1 1 [.int .i64 (row:Nat)] rfl rfl (fun j u bI=>World.news_of_block (w:=(E.alloc (.cells #[.int .i64 (row:Nat)] 3)).drew) df j u (by simpa using bI)) (fun u bI=>by simp at bI;subst bI;rfl) (by decide) (by unfold maxLen;have:=cy.out;omega) (by have:=cy.out;omega) (by rw[heap_drew,cE];have:=bA.out.2.2.2.2.2.1;omega) (E.heap.size+1) (by rw[heap_drew];exact cE) (fun g1 bh bE ci bx cc cS=>?_);have cj:Jo bE U 3 (Value.slice (some ⟨g1,0,none⟩) (O.length+1) bh) (O.map Ksh++[Ksh (row:Int)]):=by
    show World.ownsRow _ _ _ _ _ _ _;rw[Oa8,Oa6];exact ci
   have cT:=bA.out.1.low;have cf:∀ b,lv.ownBlock=some b→U≤b:=fun b e=>(Je bA.out.1.left e).1;have bS:∀ b,lv.ownBlock=some b→M b:=bA.out.1.inM.2.1;have bi:=bA.out.2;have cn:bE.cell? ⟨w.heap.size,0,none⟩=some (.pointer (some ⟨j.jb,0,none⟩)):=(bx.cell_far ⟨w.heap.size,0,none⟩ (by show w.heap.size<(E.alloc (.cells #[.int .i64 (row:Nat)] 3)).heap.size;omega) fun e=>bi.2.1 (bS _ e.symm)).trans (Ja bn bN);have cu:bE.cell? ⟨w.heap.size+1,0,none⟩=some (.int .i64 (row:Nat)):=(bx.cell_far ⟨w.heap.size+1,0,none⟩ (by show w.heap.size+1<(E.alloc (.cells #[.int .i64 (row:Nat)] 3)).heap.size;omega) fun e=>bi.2.2.1 (bS _ e.symm)).trans (Ja bn bO);have bR:bE.heap[j.jb]?=some (.cells (j.cells lv rv).toArray 275 (0,0)):=(bx.block j.jb (by rw[heap_drew];omega) fun e=>by have:=cf j.jb e.symm;omega).trans ((bn.block _ (by omega)).trans bA.out.1.cells);have cZ:bE.cell? ⟨j.jb,9,none⟩=some lv:=by simp[World.cell?,bR,JnE.cells,jnC]
   have cK:=Lib.frozen_of_heap bR 9;clear bR;obtain⟨ba,Z⟩:∃ ba,Ksd j ba U (O++[(row:Int)]) Y (Value.slice (some ⟨g1,0,none⟩) (O.length+1) bh) rv (bE.setCell ⟨j.jb,9,none⟩ (Value.slice (some ⟨g1,0,none⟩) (O.length+1) bh))∧Krx M E (bE.setCell ⟨j.jb,9,none⟩ (Value.slice (some ⟨g1,0,none⟩) (O.length+1) bh))∧Kr0 M ba E (bE.setCell ⟨j.jb,9,none⟩ (Value.slice (some ⟨g1,0,none⟩) (O.length+1) bh))∧∀ B,KeepsFrom B E (bE.setCell ⟨j.jb,9,none⟩ (Value.slice (some ⟨g1,0,none⟩) (O.length+1) bh)):=⟨_,bA.out.1.pushL bA.out.2.2.2.2.1 bn bx cj (cc.elim (fun e=>.inl e.symm) fun e=>.inr (by rw[e,heap_drew,cE];rfl))⟩;refine y.out _ _ ⟨cn,cu⟩ (fun K=>?_);clear y R;simp only[Act.put,List.getElem_toArray,List.getElem_cons_zero,List.getElem_cons_succ,Oa1,List.set_cons_zero,List.set_cons_succ];refine tkj 8 rfl K ?_;refine tkj 9 rfl K ?_;refine tkn ?_;refine tkr 10 rfl fun R y=>?_;go_simp;generalize bE.setCell ⟨j.jb,9,none⟩ (Value.slice (some ⟨g1,0,none⟩) (O.length+1) bh)=D at Z ⊢;have bK:=(Oc3 (Z.2.1.2 w.heap.size (by omega) bi.2.1)).trans bN;have bL:=(Oc3 (Z.2.1.2 (w.heap.size+1) (by omega) bi.2.2.1)).trans bO;refine y.out _ _ ⟨bK,bL⟩ (fun _=>?_);clear y R K;refine wpAnyH_done (by kernel_rfl) ?_ _;dsimp only[Jpf];have bZ:Hid (Ksd j ba U (O++[(row:Int)]) Y (Value.slice (some ⟨g1,0,none⟩) (O.length+1) bh) rv D∧Krx M E D∧Kr0 M ba E D∧∀ B,KeepsFrom B E D):=Z;have bB:Hid (Ksd j ba U (O++[(row:Int)]) Y (Value.slice (some ⟨g1,0,none⟩) (O.length+1) bh) rv D∧w.heap.size+1<D.heap.size∧¬ ba w.heap.size∧¬ ba (w.heap.size+1)∧(∀ k,ba k→k<D.heap.size)∧U≤D.heap.size∧j.jb<D.heap.size):=by
    have dM:=Z.2.1.1;refine⟨Z.1,by omega,fun e=>?_,fun e=>?_,Z.2.2.1.2.2,by omega,by omega⟩
    ·rcases Z.2.2.1.2.1 _ e with e|e
     ·exact bi.2.1 e
     omega
    rcases Z.2.2.1.2.1 _ e with e|e
    ·exact bi.2.2.1 e
    omega
   clear Z cn cu cZ cK bx ci cc cS cj cT cf bS bi dt cI dD dG df cE bn bN bO;gi_wp2_with fail
   have br:Below D.heap.size D ((D.alloc (.cells #[.int .i64 (x:Nat)] 3)).drew):=Jj (Jc (Oa5 _ _) _);have dg:=heap_alloc_new D (.cells #[.int .i64 (x:Nat)] 3);have cF:=Oa7 D (.cells #[.int .i64 (x:Nat)] 3);have dp:=bB.out.1.cells;have cJ:D.cell? ⟨j.jb,10,none⟩=some rv:=by simp[World.cell?,dp,JnE.cells,jnC]
   have dE:=Jh cJ;have dH:=Ja br cJ;clear dp;refine Kix (S:=fun cb=>cb.cell? ⟨w.heap.size,0,none⟩=some (.pointer (some ⟨j.jb,0,none⟩))∧cb.cell? ⟨w.heap.size+1,0,none⟩=some (.int .i64 (row:Nat))) (by kernel_rfl) (by kernel_rfl) ⟨Jh bK,Jh bL⟩ (fun K=>?_);refine tkj 0 rfl K ?_;refine tkj 1 rfl K ?_;refine tkj 2 rfl K ?_;refine tkj 3 rfl K ?_;refine tkn ?_;refine tkj 5 rfl K ?_;refine tkn ?_;clear K;refine wpAnyH_ready (rs:=[4,6]) (by kernel_rfl) (by simp) (AllReadyH.cons rfl (fun R y=>?_) (AllReadyH.cons rfl (fun R y=>?_) AllReadyH.nil));focus
    go_simp;refine y.out _ _ ⟨Jh bK,Jh bL⟩ (fun K=>?_);clear y R;refine tkr 6 rfl fun R y=>?_;go_simp;refine y.out _ _ ⟨Ja br bK,Ja br bL⟩ (fun K=>?_);clear y R
   rotate_left 1;focus
    go_simp;refine y.out _ _ ⟨Ja br bK,Ja br bL⟩ (fun K=>?_);clear y R;refine tkr 4 rfl fun R y=>?_;go_simp;refine y.out _ _ K (fun K=>?_);clear y R
   all_goals
    have du:((D.alloc (.cells #[.int .i64 (x:Nat)] 3)).drew).ownsRow U 3 1 rv (Y).length ((Y).map Ksh):=by
     have:=Jaw bB.out.1.right br;rw[Oa6]at this;exact this
    obtain⟨cY,cP,cW,bU,cX⟩:=info_parts Kp4;refine tkr 7 rfl fun R y=>?_;refine step_append_lies ((D.alloc (.cells #[.int .i64 (x:Nat)] 3)).drew) rfl (.tmp 23) (.tmp 25) 22 rfl U 3 cY (.int .i64 0) 1 8 underlying22 cP cW bU cX rfl (by decide) rv _ _ rfl du ⟨D.heap.size,0,none⟩ 1 1 [.int .i64 (x:Nat)] rfl rfl (fun j u bI=>World.news_of_block (w:=(D.alloc (.cells #[.int .i64 (x:Nat)] 3)).drew) dg j u (by simpa using bI)) (fun u bI=>by simp at bI;subst bI;rfl) (by decide) (by unfold maxLen;have:=cy.out;omega) (by have:=cy.out;omega) (by rw[heap_drew,cF];have:=bB.out.2.2.2.2.2.1;omega) (D.heap.size+1) (by rw[heap_drew];exact cF) (fun g2 bH H ci bx cc cS=>?_);have cj:Jo H U 3 (Value.slice (some ⟨g2,0,none⟩) (Y.length+1) bH) (Y.map Ksh++[Ksh (x:Int)]):=by
     show World.ownsRow _ _ _ _ _ _ _;rw[Oa8,Oa6];exact ci
    have cT:=bB.out.1.low;have cf:∀ b,rv.ownBlock=some b→U≤b:=fun b e=>(Je bB.out.1.right e).1;have bS:∀ b,rv.ownBlock=some b→ba b:=bB.out.1.inM.2.2;have bQ:=bB.out.2;have cn:H.cell? ⟨w.heap.size,0,none⟩=some (.pointer (some ⟨j.jb,0,none⟩)):=(bx.cell_far ⟨w.heap.size,0,none⟩ (by show w.heap.size<(D.alloc (.cells #[.int .i64 (x:Nat)] 3)).heap.size;omega) fun e=>bQ.2.1 (bS _ e.symm)).trans (Ja br bK);have cu:H.cell? ⟨w.heap.size+1,0,none⟩=some (.int .i64 (row:Nat)):=(bx.cell_far ⟨w.heap.size+1,0,none⟩ (by show w.heap.size+1<(D.alloc (.cells #[.int .i64 (x:Nat)] 3)).heap.size;omega) fun e=>bQ.2.2.1 (bS _ e.symm)).trans (Ja br bL);have bR:H.heap[j.jb]?=some (.cells (j.cells (Value.slice (some ⟨g1,0,none⟩) (O.length+1) bh) rv).toArray 275 (0,0)):=(bx.block j.jb (by rw[heap_drew];omega) fun e=>by have:=cf j.jb e.symm;omega).trans ((br.block _ (by omega)).trans bB.out.1.cells);have cZ:H.cell? ⟨j.jb,10,none⟩=some rv:=by simp[World.cell?,bR,JnE.cells,jnC]
    have cK:=Lib.frozen_of_heap bR 10;clear bR;obtain⟨bC,Z⟩:∃ bC,Ksd j bC U (O++[(row:Int)]) (Y++[(x:Int)]) (Value.slice (some ⟨g1,0,none⟩) (O.length+1) bh) (Value.slice (some ⟨g2,0,none⟩) (Y.length+1) bH) (H.setCell ⟨j.jb,10,none⟩ (Value.slice (some ⟨g2,0,none⟩) (Y.length+1) bH))∧Krx ba D (H.setCell ⟨j.jb,10,none⟩ (Value.slice (some ⟨g2,0,none⟩) (Y.length+1) bH))∧Kr0 ba bC D (H.setCell ⟨j.jb,10,none⟩ (Value.slice (some ⟨g2,0,none⟩) (Y.length+1) bH))∧∀ B,KeepsFrom B D (H.setCell ⟨j.jb,10,none⟩ (Value.slice (some ⟨g2,0,none⟩) (Y.length+1) bH)):=⟨_,bB.out.1.pushR bB.out.2.2.2.2.1 br bx cj (cc.elim (fun e=>.inl e.symm) fun e=>.inr (by rw[e,heap_drew,cF];rfl))⟩;refine y.out _ _ ⟨cn,cu⟩ (fun K=>?_);clear y R;simp only[Act.put,List.getElem_toArray,List.getElem_cons_zero,List.getElem_cons_succ,Oa1,List.set_cons_zero,List.set_cons_succ];refine tkj 8 rfl K ?_;refine tkj 9 rfl K ?_;refine tkn ?_;refine tkr 10 rfl fun R y=>?_;go_simp;generalize H.setCell ⟨j.jb,10,none⟩ (Value.slice (some ⟨g2,0,none⟩) (Y.length+1) bH)=bD at Z ⊢;have dB:=(Oc3 (Z.2.1.2 w.heap.size (by omega) bQ.2.1)).trans bK;have dC:=(Oc3 (Z.2.1.2 (w.heap.size+1) (by omega) bQ.2.2.1)).trans bL;refine y.out _ _ ⟨dB,dC⟩ (fun _=>?_);clear y R K;refine wpAnyH_done (by kernel_rfl) ?_ _;dsimp only[Jpf];have cx:Hid (Ksd j bC U (O++[(row:Int)]) (Y++[(x:Int)]) (Value.slice (some ⟨g1,0,none⟩) (O.length+1) bh) (Value.slice (some ⟨g2,0,none⟩) (Y.length+1) bH) bD∧Krx ba D bD∧Kr0 ba bC D bD∧∀ B,KeepsFrom B D bD):=Z;have dN:Hid (Ksd j bC U (O++[(row:Int)]) (Y++[(x:Int)]) (Value.slice (some ⟨g1,0,none⟩) (O.length+1) bh) (Value.slice (some ⟨g2,0,none⟩) (Y.length+1) bH) bD∧w.heap.size+1<bD.heap.size∧¬ bC w.heap.size∧¬ bC (w.heap.size+1)∧(∀ k,bC k→k<bD.heap.size)∧U≤bD.heap.size∧j.jb<bD.heap.size):=by
     have dM:=Z.2.1.1;refine⟨Z.1,by omega,fun e=>?_,fun e=>?_,Z.2.2.1.2.2,by omega,by omega⟩
     ·rcases Z.2.2.1.2.1 _ e with e|e
      ·exact bQ.2.1 e
      omega
     rcases Z.2.2.1.2.1 _ e with e|e
     ·exact bQ.2.2.1 e
     omega
    clear Z cn cu cZ cK bx ci cc cS cj cT cf bS bQ du cJ dE dH dg cF br bK bL;gi_wp2
    have dK:=ca.out.2.2.2;have dL:=bZ.out.2.1.1;have dr:=bZ.out.2.1.trans cx.out.2.1 bZ.out.2.2.1.2.1;have ds:=bZ.out.2.2.1.trans cx.out.2.2.1 dL;have dk:∀ B,KeepsFrom B E bD:=fun B=>(bZ.out.2.2.2 B).trans (cx.out.2.2.2 B);exact⟨dk _,trivial,bC,⟨⟨_,_,by rw[db.out.1,db.out.2];exact cx.out.1⟩,ca.out.1.trans dr ca.out.2.1.2.1,ca.out.2.1.trans ds dK,fun B=>(ca.out.2.2.1 B).trans (dk B)⟩,dr,ds⟩
end Go.Proofs.YtpchafocmlhmbaaGreatDoor
