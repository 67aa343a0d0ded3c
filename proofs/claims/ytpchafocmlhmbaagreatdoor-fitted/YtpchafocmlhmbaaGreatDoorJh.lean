/- A Join: the rows that fit, as an iterator. -/
import Derived.Test.YtpchafocmlhmbaaGreatDoorJg
set_option maxHeartbeats 4000000
set_option maxRecDepth 100000
namespace Go.Proofs.YtpchafocmlhmbaaGreatDoor
open Go.RowKit Go.Shelf Go.Maps Tryz
attribute [local go_sem] Oc0
structure JnE where
 jb:Nat
 lb:Nat
 rb:Nat
 kb:Nat
 ko:Nat
 kc:Nat
 cl:Nat
 cr:Nat
 fb:Nat
 bb:Nat
 mb:Nat
 s:Nat
 z:Nat
 bu:Int
 bl:Int
 sd:Int
 hl:List (Option Addr×Nat)
 hr:List (Option Addr×Nat)
 lc:List (List V)
 rc:List (List V)
 ks:List Krv
def JnE.cells (j:JnE)(y D:Value):List Value:=jnC (.slice (some ⟨j.lb,0,none⟩) j.lc.length j.cl) (.slice (some ⟨j.rb,0,none⟩) j.rc.length j.cr) (.slice (some ⟨j.kb,j.ko,none⟩) j.ks.length j.kc) (j.z:Nat) j.bu j.bl j.sd (.pointer (some ⟨j.fb,0,none⟩)) (.map (some j.mb)) y D
def Kv4 (j:JnE)(W:World):Prop:=∃ y D,W.heap[j.jb]?=some (.cells (j.cells y D).toArray 275 (0,0))
structure JnR (j:JnE) (MB:Nat→Prop) (l:List (Nat×(Int×Bool))) (nl nr:Nat) (w:World):Prop where
 bd:Ktb w j.fb j.bb j.mb j.s MB l
 left:Qd w j.lb j.hl j.lc
 right:Qd w j.rb j.hr j.rc
 keys:Klj w j.kb j.ko j.ks
 few:j.ks.length≤4
 cols:∀ k∈j.ks,k.c<j.lc.length∧0≤k.o∧k.o.toNat<j.rc.length
 lenl:∀ i,i<j.lc.length→(j.lc.getD i []).length=nl
 lenr:∀ i,i<j.rc.length→(j.rc.getD i []).length=nr
 rows:∀ x∈l,x.1<nr∧Kr3 x.2.1
def JnB (j:JnE)(y:Nat→Prop)(k:Nat):Prop:=y k∨k=j.fb∨k=j.kb∨k=j.lb∨k=j.rb∨(∃ i,i<j.lc.length∧∃ o,(Yo j.hl i).1=some ⟨k,o,none⟩)∨(∃ i,i<j.rc.length∧∃ o,(Yo j.hr i).1=some ⟨k,o,none⟩)
theorem Klj.block {w w':World}{kb ko:Nat}{ks:List Krv}(h:Klj w kb ko ks)(y:w'.heap[kb]?=w.heap[kb]?):Klj w' kb ko ks:=fun j k K=>by
 obtain⟨h0,D,E,H⟩:=h j k K;exact⟨(Oc3 y).trans h0,(Oc3 y).trans D,(Oc3 y).trans E,(Oc3 y).trans H⟩
theorem JnR.blocks {j:JnE}{y:Nat→Prop}{l:List (Nat×(Int×Bool))}{nl nr:Nat}{w w':World}(h:JnR j y l nl nr w)(E:w.heap.size≤w'.heap.size)(D:∀ k,JnB j y k→w'.heap[k]?=w.heap[k]?):JnR j y l nl nr w':=
 ⟨h.bd.blocks E (D _ (.inr (.inl rfl))) fun k H=>D k (.inl H),h.left.kp (Fx:=JnB j y) ⟨E,D⟩ ⟨.inr (.inr (.inr (.inl rfl))),fun i hi _ o e=>.inr (.inr (.inr (.inr (.inr (.inl ⟨i,hi,o,e⟩)))))⟩,h.right.kp (Fx:=JnB j y) ⟨E,D⟩ ⟨.inr (.inr (.inr (.inr (.inl rfl)))),fun i hi _ o e=>.inr (.inr (.inr (.inr (.inr (.inr ⟨i,hi,o,e⟩)))))⟩,h.keys.block (D _ (.inr (.inr (.inl rfl)))),h.few,h.cols,h.lenl,h.lenr,h.rows⟩
def Krw (j:JnE)(bs:List Nat)(l:List (Nat×(Int×Bool)))(row:Nat)(x:Int×Bool):List Nat:=if x.2=true∨Ksv j.s bs x.1.toNat=false then []else (Ksb l x.1).filter (Kss j.ks j.lc j.rc row)
theorem Kx0 {j:JnE}{D:Nat→Prop}{l:List (Nat×(Int×Bool))}{nl nr:Nat}{w:World}(h:JnR j D l nl nr w)(y:Kv4 j w){row other:Nat}(hr:row<nl)(E:other<nr):Calls prog 194 #[.pointer (some ⟨j.jb,0,none⟩),.int .i64 (row:Nat),.int .i64 (other:Nat)] w fun e w'=>e=.returned (.bool (Kss j.ks j.lc j.rc row other))∧Below w.heap.size w w':=by
 obtain⟨H,K,y⟩:=y;exact Kxk j.jb j.lb j.rb j.kb j.ko j.kc j.cl j.cr j.hl j.hr j.lc j.rc j.ks row other nl nr (j.z:Nat) j.bu j.bl j.sd _ _ H K w y h.left h.right h.keys h.few h.cols h.lenl h.lenr hr E
theorem Ku6 (n U X bj row nl nr:Nat)(j:JnE)(bx:Nat→Prop)(l:List (Nat×(Int×Bool)))(bs:List Nat)(h:Int)(bA:Bool)(w:World)(hR:JnR j bx l nl nr w)(bL:Ksj w j.fb j.bb j.s bs)(cZ:Kr3 h)(cY:row<nl)(cW:l.length≤200000)
  (c1:w.heap[U]?=some (.cells #[.int .u64 h,.bool bA] 285 (0,0))) (c2:w.cell? ⟨X,0,none⟩=some (.pointer (some ⟨j.jb,0,none⟩))) (c3:w.cell? ⟨bj,0,none⟩=some (.int .i64 (row:Nat)))
  (Fx:Nat→Prop) (hF:Fx U∧Fx X∧Fx bj∧∀ k,JnB j bx k→Fx k) (bV:∀ k,Fx k→k<w.heap.size) :
  Kx1 Fence.wide n prog 192 #[.pointer (some ⟨U,0,none⟩),.pointer (some ⟨X,0,none⟩),.pointer (some ⟨bj,0,none⟩)] (fun x:Nat=>#[.int .i64 (x:Nat)]) (fun x _=>x<nr) Fx (Kv4 j) (fun xs=>xs=Krw j bs l row (h,bA)) (fun bf=>bf <+: Krw j bs l row (h,bA)) (l.length+1) w:=by
 intro dt J cn H W bc cE cM cF dj hG cO h0;have dr:=hG _ _ h0;have df:Hid (∀ bf M x ba,J (bf,M) ba→x<nr→(∀ k,M k→k<ba.heap.size)→bf.length<l.length+1→YieldAt Fence.wide (n-1) prog dt #[.int .i64 (x:Nat)] ba fun e bB=>KeepsFrom W.heap.size ba bB∧((e=.returned (.bool true)∧∃ M',J (bf++[x],M') bB∧Krx M ba bB∧Kr0 M M' ba bB)∨(e=.returned (.bool false)∧∃ M',cn (bf++[x],M') bB))):=fun bf M x ba bC bT bU di=>cO bf M x ba bC bT bU di;have cH:∀ s A bh,Below A.heap.size A bh→J s A→J s bh:=fun s A bh bD h=>cF s A bh none h ⟨bD.os,bD.tape,bD.output,bD.size,fun k D _=>bD.block k D⟩ (fun r e=>by cases e);have bn:Hid ((∀ s A bh,Below A.heap.size A bh→J s A→J s bh)∧∀ s W,J s W→Kv4 j W):=⟨cH,hG⟩;have K:Hid ((Fx U∧Fx X∧Fx bj∧∀ k,JnB j bx k→Fx k)∧∀ k,Fx k→¬ H k∧k<W.heap.size):=⟨hF,fun k D=>⟨cE k D,Oc2 (bV k D) bc.size⟩⟩;have dd:Hid (∀ k,H k→k<W.heap.size):=cM;have bP:Hid (J ([],H) W):=h0;have bY:j.fb<w.heap.size∧j.bb<w.heap.size:=⟨Jd bL.cells,Jd bL.bits⟩;have O:Hid (JnR j bx l nl nr W∧Ksj W j.fb j.bb j.s bs∧Kr3 h∧row<nl∧l.length≤200000):=⟨hR.blocks bc.size fun k D=>bc.block k (bV k (hF.2.2.2 k D)),bL.keep (bc.block _ bY.1) (bc.block _ bY.2),cZ,cY,cW⟩;have bO:=(bc.block _ (Jd c1)).trans c1;have bS:W.cell? ⟨U,0,none⟩=some (.int .u64 h):=by simp[World.cell?,bO]
 have cx:W.cell? ⟨U,1,none⟩=some (.bool bA):=by simp[World.cell?,bO]
 have bK:=Ja bc c2;have cy:=Ja bc c3;obtain⟨dx,dy,cf⟩:=dr;have cz:W.cell? ⟨j.jb,7,none⟩=some (.pointer (some ⟨j.fb,0,none⟩)):=by simp[World.cell?,cf,JnE.cells,jnC]
 have cA:W.cell? ⟨j.jb,8,none⟩=some (.map (some j.mb)):=by simp[World.cell?,cf,JnE.cells,jnC]
 have cj:Hid (W.heap[U]?=some (.cells #[.int .u64 h,.bool bA] 285 (0,0))∧W.cell? ⟨X,0,none⟩=some (.pointer (some ⟨j.jb,0,none⟩))∧W.cell? ⟨bj,0,none⟩=some (.int .i64 (row:Nat))):=⟨bO,bK,cy⟩;clear cH cO hR bL cZ hF bV cE cM cF dj hG h0 c1 c2 c3 bO cf bY cY cW;obtain⟨hn,dq⟩:∃ hn:Nat,h=(hn:Int):=⟨h.toNat,by have:=O.out.2.2.1.1;omega⟩;subst dq;refine callsIn_of_wp func192 rfl trivial ?_ rfl;simp only[ntmps192,Om3,List.length_cons,List.length_nil,Nat.reduceAdd,Nat.reduceSub,Ok9,Array.replicate_zero,Om4,Ol2,List.nil_append,List.cons_append];refine wpIn_wide.2 ?_;cases bA
 ·go_upto_region 0 with fail
  refine wp_region_held_drew (S:=fun E=>E.cell? ⟨U,0,none⟩=some (.int .u64 (hn:Int))∧E.cell? ⟨U,1,none⟩=some (.bool false)∧E.cell? ⟨X,0,none⟩=some (.pointer (some ⟨j.jb,0,none⟩))∧E.cell? ⟨j.jb,7,none⟩=some (.pointer (some ⟨j.fb,0,none⟩))) (by kernel_rfl) ⟨Jh bS,Jh cx,Jh bK,Jh cz⟩ (fun y=>?_);refine tkj 0 rfl y ?_;refine tkj 1 rfl y ?_;refine tkj 2 rfl y ?_;refine tkn ?_;refine tkj 3 rfl y ?_;refine tkj 4 rfl y ?_;refine tkj 5 rfl y ?_;refine tkj 6 rfl y ?_;refine tkj 7 rfl y ?_;refine tkj 8 rfl y ?_;refine tkn ?_;refine tkr 9 rfl fun dg cJ=>?_;go_simp;refine(Kw7 j.fb j.bb j.s hn bs W.drew (O.out.2.1.keep rfl rfl) (by have:=O.out.2.2.1.2;omega)).mono ?_;rintro e R ⟨rfl,bz⟩;go_simp;refine cJ.out _ _ ⟨Ja bz y.1,Ja bz y.2.1,Ja bz y.2.2.1,Ja bz y.2.2.2⟩ (fun y=>?_);clear cJ dg;refine tkj 10 rfl y ?_;refine tkj 11 rfl y ?_;refine tkn ?_;refine wpAnyH_done (by kernel_rfl) ?_ _;have bE:Below W.heap.size W R:=Jw bz;have cB:=Ja bE bS;have cC:=Ja bE bK;have cD:=Ja bE cA;have Z:Hid (Below W.heap.size W R):=bE;clear y bz bE bS cx bK cy cz cA;cases hfh:Ksv j.s bs hn
  ·have bi:Hid (Krw j bs l row ((hn:Int),false)=[]):=by show _=_;unfold Krw;rw[if_pos (.inr (by simpa using hfh))]
   go_wp2;exact bodyPost_ret (results_none rfl _ _ _) rfl ⟨⟨_,rfl⟩,.inl ⟨_,H,bi.out.symm,bn.out.1 _ _ _ Z.out bP.out⟩⟩
  have bi:Hid (Krw j bs l row ((hn:Int),false)=(Ksb l (hn:Int)).filter (Kss j.ks j.lc j.rc row)):=by
   show _=_;unfold Krw;rw[if_neg (fun e=>e.elim (fun e=>by cases e) (fun e=>by rw[show ((hn:Int)).toNat=hn by simp,hfh]at e;cases e))]
  obtain⟨du,bv,bW,ds⟩:=O.out.1.bd.bk;have cT:=bW.inM;have bX:Ksp R j.mb (j.mb+1) du bx bv (Ksb l):=bW.blocks fun k D=>Z.out.block k (K.out.2 k (K.out.1.2.2.2 k (.inl D))).2;obtain⟨bR,cv,cc,cS⟩:=Ji8 (bX.own _ O.out.2.2.1);rw[Oa6]at cc;have bZ:∀ E,Below R.heap.size R E→(Instr.lookup 273 (.map (some j.mb)) (.int .u64 (hn:Int)) false).run prog E=.ok (.slice bR (Ksb l (hn:Int)).length cv) E:=fun E dm=>by
   rw[←cc];exact(bX.blocks fun k D=>dm.block k (Oc2 (K.out.2 k (K.out.1.2.2.2 k (.inl D))).2 Z.out.size)).look O.out.2.2.1
  have ch:Hid (∀ i,i<(Ksb l (hn:Int)).length→∃ g,bR=some ⟨g,0,none⟩∧bx g∧R.cell? ⟨g,i,none⟩=some (.int .i64 (((Ksb l (hn:Int)).getD i 0:Nat):Int))):=fun i hi=>by
   obtain⟨g,bC,bT,bU,_⟩:=cS i (.int .i64 (((Ksb l (hn:Int)).getD i 0:Nat):Int)) (by rw[Ob1,Oa3 hi,Oa0,Oa3 hi];rfl);exact⟨g,bC,cT.2 _ g O.out.2.2.1 bT,bU⟩
  have dk:(Ksb l (hn:Int)).length≤l.length:=Kt7 _ _;have ci:Hid (∀ x∈Ksb l (hn:Int),x<nr):=fun x da=>by
   unfold Ksb at da;obtain⟨dv,bN,rfl⟩:=Of0.1 da;exact(O.out.1.rows dv (Om0.1 bN).1).1
  clear bW ds cT bX cc cS hfh;have dw:=O.out.2.2.2.2;obtain⟨bl,cP⟩:∃ bl,bl=Ksb l (hn:Int):=⟨_,rfl⟩;rw[←cP]at bi bZ ch dk ci;clear cP;go_upto_region 1 with fail
  refine wp_region_held_drew (S:=fun E=>E.cell? ⟨U,0,none⟩=some (.int .u64 (hn:Int))∧E.cell? ⟨X,0,none⟩=some (.pointer (some ⟨j.jb,0,none⟩))∧E.cell? ⟨j.jb,8,none⟩=some (.map (some j.mb))∧(Instr.lookup 273 (.map (some j.mb)) (.int .u64 (hn:Int)) false).run prog E=.ok (.slice bR bl.length cv) E) (by kernel_rfl) ⟨Jh cB,Jh cC,Jh cD,bZ _ (Jj (Oa5 _ _))⟩ (fun y=>?_);refine tkj 0 rfl y ?_;refine tkj 1 rfl y ?_;refine tkj 2 rfl y ?_;refine tkj 3 rfl y ?_;refine tkj 4 rfl y ?_;refine tkj 5 rfl y ?_;refine tkn ?_;refine tkj 6 rfl y ?_;refine tkj 7 rfl y ?_;refine tkj 8 rfl y ?_;refine tkn ?_;refine wpAnyH_done (by kernel_rfl) ?_ _;clear y cB cC cD bZ;go_wp2_with fail
  refine(wpIn_wide (n:=1)).1 ?_;simp only[Bool.not_true];gi_loopw [27] (fun v wr=>∃ (i:Nat) (M:Nat→Prop),i≤bl.length∧v=.int .i64 (i:Nat)∧Hid (J ((bl.take i).filter (Kss j.ks j.lc j.rc row),M) wr∧Krx H R wr∧Kr0 H M R wr)) (fun v _=>bl.length-(intOf v).toNat)
  case atStart=>exact⟨0,H,Ob7 _,rfl,bn.out.1 _ _ _ (Jj Z.out) bP.out,Krx.of_below (Jj (Oa5 _ _)),fun _ h=>h,fun _ h=>.inl h,fun k D=>Oc2 (dd.out k D) Z.out.size⟩
  case round=>
   obtain⟨i,M,hi,rfl,hI⟩:=hrel;by_cases bI:i<bl.length
   ·obtain⟨g,dp,cN,cQ⟩:=ch.out i bI;have cb:∀ k,Fx k→wr.heap[k]?=R.heap[k]?:=fun k D=>hI.out.2.1.2 k (Oc2 (K.out.2 k D).2 Z.out.size) (K.out.2 k D).1;have bM:∀ k,Fx k→wr.heap[k]?=W.heap[k]?:=fun k D=>(cb k D).trans (Z.out.block k (K.out.2 k D).2);have dh:wr.cell? ⟨g,i,none⟩=some (.int .i64 ((bl.getD i 0:Nat):Int)):=(Oc3 (cb g (K.out.1.2.2.2 g (.inl cN)))).trans cQ;have g1:wr.cell? ⟨X,0,none⟩=some (.pointer (some ⟨j.jb,0,none⟩)):=(Oc3 (bM X K.out.1.2.1)).trans cj.out.2.1;have g2:wr.cell? ⟨bj,0,none⟩=some (.int .i64 (row:Nat)):=(Oc3 (bM bj K.out.1.2.2.1)).trans cj.out.2.2;have ca:bl.getD i 0<nr:=ci.out _ (by rw[Oa0,Oa3 bI];exact Ob3 bI);have bH:=Kx0 (O.out.1.blocks (Ob2 Z.out.size hI.out.2.1.1) fun k D=>bM k (K.out.1.2.2.2 k D)) (bn.out.2 _ _ hI.out.1) O.out.2.2.2.1 ca;have br:Hid ((bl.take (i+1)).filter (Kss j.ks j.lc j.rc row)=if Kss j.ks j.lc j.rc row (bl.getD i 0)=true then (bl.take i).filter (Kss j.ks j.lc j.rc row)++[bl.getD i 0]else (bl.take i).filter (Kss j.ks j.lc j.rc row)):=by
     show _=_;have e:bl.getD i 0=bl[i]:=by rw[Oa0,Oa3 bI];rfl
     rw[Oi7,Oa3 bI,Option.toList_some,List.filter_append,e];cases hq:Kss j.ks j.lc j.rc row bl[i]<;>simp[hq]
    have cK:∀ k,M k→k<wr.heap.size:=hI.out.2.2.2.2;have db:Hid (((bl.take i).filter (Kss j.ks j.lc j.rc row)).length<l.length+1):=by
     show _<_;have bC:=Ok1 (Kss j.ks j.lc j.rc row) (bl.take i);rw[Oc7]at bC;omega
    have dc:Hid (∀ k,M k→k<wr.heap.size):=cK;generalize bl.getD i 0=o at dh bH br ca;subst dp;clear cQ cb bM cN cK;have j1:(i:Int)<(bl.length:Int):=(by omega);cases hf:Kss j.ks j.lc j.rc row o
    ·rw[hf]at bH br;gi_wp2_with (first|(refine⟨trivial,?_⟩;gi_at_call 194;refine(callsIn_wide.2 bH).mono ?_;rintro e cu ⟨rfl,bG⟩;have Y:Hid _:=bG;clear bG))
     refine⟨fun f hf=>(by cases hf),?_⟩;gi_wp2
     exact⟨⟨i+1,M,by omega,by go_num,by rw[br.out];exact bn.out.1 _ _ _ Y.out hI.out.1,hI.out.2.1.trans (Krx.of_below (M:=H) Y.out) fun _=>.inl,hI.out.2.2.1,hI.out.2.2.2.1,fun k D=>Oc2 (hI.out.2.2.2.2 k D) Y.out.size⟩,by simp[intOf];omega⟩
    rw[hf]at bH br;gi_wp2_with (first|(refine⟨trivial,?_⟩;gi_at_call 194;refine(callsIn_wide.2 bH).mono ?_;rintro e cu ⟨rfl,bG⟩;have Y:Hid _:=bG;clear bG;obtain⟨fn,tmps,assign,body,bN,hR⟩:=Ktq (m':=0) (df.out _ M o cu (bn.out.1 _ _ _ Y.out hI.out.1) ca (fun k D=>Oc2 (dc.out k D) Y.out.size) db.out);have de:Hid _:=hR;clear hR))
    refine RoundIn.mono (show RoundIn Fence.wide 0 _ _ _ _ _ _ _ _ from de.out) ?_;rintro e bJ ⟨cU,⟨rfl,M',cG,cV,cX⟩|⟨rfl,M',cI⟩⟩
    ·have bQ:Hid (J ((bl.take (i+1)).filter (Kss j.ks j.lc j.rc row),M') bJ∧Krx H R bJ∧Kr0 H M' R bJ):=by
      rw[br.out];exact⟨cG,(hI.out.2.1.trans (Krx.of_below (M:=H) Y.out) fun _=>.inl).trans cV hI.out.2.2.2.1,hI.out.2.2.trans cX (Ob2 hI.out.2.1.1 Y.out.size)⟩
     clear cU cG cV cX bN;gi_wp2
     exact⟨⟨i+1,M',by omega,by go_num,bQ.out⟩,by simp[intOf];omega⟩
    have bQ:Hid (cn ((bl.take i).filter (Kss j.ks j.lc j.rc row)++[o],M') bJ):=cI;clear cU cI bN;gi_wp2
    exact bodyPost_ret (results_none rfl _ _ _) rfl ⟨⟨_,rfl⟩,.inr ⟨_,_,by
     have e:=br.out;rw[if_pos trivial]at e;rw[bi.out,←e];exact(List.take_prefix _ _).filter _,bQ.out⟩⟩
   obtain rfl:i=bl.length:=by omega
   gi_wp2
   go_end0
   refine⟨⟨_,rfl⟩,.inl ⟨_,M,bi.out.symm,?_⟩⟩;have:=hI.out.1;rw[Of2]at this;exact this
 have bi:Hid (Krw j bs l row ((hn:Int),true)=[]):=by show _=_;unfold Krw;rw[if_pos (.inl rfl)]
 go_upto_region 0 with fail
 go_quiet (fail)
 go_wp2;exact bodyPost_ret (results_none rfl _ _ _) rfl ⟨⟨_,rfl⟩,.inl ⟨_,H,bi.out.symm,bn.out.1 _ _ _ (Jp (Oa5 _ _) _) bP.out⟩⟩
end Go.Proofs.YtpchafocmlhmbaaGreatDoor
