/- Plans that are right: the schemas of all nodes. -/
import Derived.Test.YtjbenncelbpbnaaGreatDoorXv
import Derived.Test.YtjbenncelbpbnaaGreatDoorJe
set_option maxHeartbeats 4000000
set_option maxRecDepth 100000
namespace Go.Proofs.YtjbenncelbpbnaaGreatDoor
section
open Go.RowKit Go.Shelf Tryz
attribute [local go_sem] Oc0
theorem Jrx g cap n w(hn:n<=1000)(hk:∀ i,i<n->∃ s:Sch,w.cell? ⟨g,i*2,none⟩=some (Jbl s)/\w.cell? ⟨g,i*2+1,none⟩=some (.bool true)):
  Calls prog 52 #[.slice (some ⟨g,0,none⟩) n cap,.func (.func 53) #[] #[]] w fun e w'=>e=.returned (.int .i64 (-1))/\Below w.heap.size w w':=by
 have K:Hid _:=hk;clear hk;go_enter func52,ntmps52
 go_wp2;go_loopw [8] (fun i wr=>∃ k:Nat,k<=n/\i=.int .i64 k/\Below w.heap.size w wr) (fun i _=>n-(intOf i).toNat)
 case atStart=>exact⟨0,Ob7 _,rfl,Oa5 _ _⟩
 case round=>
  obtain⟨k,hk,rfl,y⟩:=hrel;by_cases I:k<n
  ·obtain⟨s,c0,c1⟩:=K.out k I;have M:=Ja y c0;have O:=Ja y c1;have H:=zh I;go_wp2;go_roundw
   case rel=>exact⟨k+1,H.out,by have:=H.out;go_num,Jc y _⟩
   case measure=>have:=H.out;simp[intOf];omega
  go_wp2;exact bodyPost_ret (v:=.int .i64 (-1)) (by simp[results,results52,go_sem]) rfl ⟨rfl,y⟩
structure Kh1 (scs:List (List Int)) (fl:Nat->Bool) (j:Nat) (ks:List Kn):Prop where
 len:ks.length=j
 sch:∀ (i:Nat) (k:Kn),ks[i]?=some k->scs[i]?=some k.1.2.2
 flg:∀ (i:Nat) (k:Kn),ks[i]?=some k->k.2=fl i
structure Jrm (w:World) (tf nv0:Value) (scs:List (List Int)) (fl:Nat->Nat->Bool) (j:Nat) (ev sv:Value) (ks:List Kn) (W:World):Prop where
 chk:Jed (w.heap.size+2) (w.heap.size+1) tf ev ks W
 kso:Kh1 scs (fl j) j ks
 own:Jo W (w.heap.size+2) 22 sv (ks.map fun k=>Jbl k.1)
 sep:∀ g,sv.ownBlock=some g->ev.ownBlock≠some g
 off:∀ k∈ks,∀ g o,k.1.1=some ⟨g,o,none⟩->sv.ownBlock≠some g/\w.heap.size<=g
 plan:W.heap[w.heap.size]?=some (.cells #[nv0] 47 (0,0))
 low:Below w.heap.size w W
def Jvz (w:World)(K:Value)(I:List (List Int))(H:Nat->Nat->Bool)(nd:Nd)(j:Nat):Prop:=
 0<=nd.op/\nd.op<=7/\∃ sch,I[j]?=some sch/\∀ W ev ks,Below w.heap.size w W->(∀ g,ev.ownBlock=some g->w.heap.size<=g)->Jed (w.heap.size+2) (w.heap.size+1) K ev ks W->Kh1 I (H j) j ks ->
  Calls prog (Jm5 nd.op) #[.pointer (some ⟨w.heap.size+1,0,none⟩),nd.val] W fun e M=>∃ y,y.map (·.1)=ks.map (·.1)/\(∀ (i:Nat) (k:Kn),y[i]?=some k->k.2=H (j+1) i)/\Jq3 (w.heap.size+2) (w.heap.size+1) K ev y sch W e M
theorem Jw8:(prog.info? 138).map (fun i=>(i.zero,i.size,i.bytes))=some (some (.agg #[.slice none 0 0,.bool false]),2,32):=zK
structure Jyq (w:World) (tf nv0:Value) (scs:List (List Int)) (fl:Nat->Nat->Bool) (j:Nat) (ev sv:Value) (ks:List Kn) (a:Option Addr) (c:Nat) (sch:List Int) (W:World):Prop where
 chk:Jed (w.heap.size+2) (w.heap.size+1) tf ev ks W
 len:ks.length=j
 sch1:∀ (i:Nat) (k:Kn),ks[i]?=some k->scs[i]?=some k.1.2.2
 sch2:scs[j]?=some sch
 flg:∀ (i:Nat) (k:Kn),ks[i]?=some k->k.2=fl (j+1) i
 own:Jo W (w.heap.size+2) 22 sv (ks.map fun k=>Jbl k.1)
 sep:∀ g,sv.ownBlock=some g->ev.ownBlock≠some g
 off:∀ k∈ks,∀ g o,k.1.1=some ⟨g,o,none⟩->sv.ownBlock≠some g/\w.heap.size<=g
 ints:Kc W a sch
 aoff:∀ g o,a=some ⟨g,o,none⟩->ev.ownBlock≠some g/\g≠w.heap.size+1/\g<W.heap.size/\sv.ownBlock≠some g/\w.heap.size<=g
 plan:W.heap[w.heap.size]?=some (.cells #[nv0] 47 (0,0))
 low:Below w.heap.size w W
theorem Jrm.node {w br bA bk Z j ev sv ks H W X M sch}(h:Jrm w br bA bk Z j ev sv ks W)(hb:Below W.heap.size W X)(Y:H.map (·.1)=ks.map (·.1))(hf:∀ (i:Nat) (k:Kn),H[i]?=some k->k.2=Z (j+1) i)(hs:bk[j]?=some sch){a c}(bC:Jed (w.heap.size+2) (w.heap.size+1) br ev H M)(bD:X.grownBy M ev.ownBlock)(hi:Kc M a sch)(ho:∀ g o,a=some ⟨g,o,none⟩->ev.ownBlock≠some g/\g≠w.heap.size+1/\g<M.heap.size/\(X.heap.size<=g\/∃ k∈H,k.1.1=some ⟨g,o,none⟩)):Jyq w br bA bk Z j ev sv H a c sch M:=by
 have bi:=Ut (Qq hb) bD;have bj:∀ k∈H,∃ y∈ks,k.1=y.1:=fun k hk=>by
  have:k.1∈ks.map (·.1):=by rw[<-Y];exact List.mem_map_of_mem hk
  obtain⟨y,I,K⟩:=Of0.1 this;exact⟨y,I,K.symm⟩
 have bE:H.length=ks.length:=by have:=congrArg List.length Y;simpa using this
 have bG:H.map (fun k=>Jbl k.1)=ks.map fun k=>Jbl k.1:=by
  have:=congrArg (List.map Jbl) Y;rw[Oi6,Oi6]at this;exact this
 have bz:∀ g,ev.ownBlock=some g->w.heap.size+2<=g:=fun g e=>(Je h.chk.own e).1;refine⟨bC,bE.trans h.kso.len,fun i k hk=>?_,hs,hf,?_,h.sep,fun k hk g o e=>?_,hi,fun g o e=>?_,?_,?_⟩
 ·have:(ks.map (·.1))[i]?=some k.1:=by rw[<-Y,Ob1,hk];rfl
  rw[Ob1,Oe9]at this;obtain⟨y,I,K⟩:=this;rw[<-K];exact h.kso.sch i y I
 ·unfold Jo;rw[bG];exact Jl h.own fun g e=>bi.block g (Je h.own e).2 (Oc5 (h.sep g e))
 ·obtain⟨y,I,K⟩:=bj k hk;rw[K]at e;exact h.off y I g o e
 ·obtain⟨I,K,bB,U⟩:=ho g o e;refine⟨I,K,bB,fun bx=>?_,?_⟩
  ·rcases U with U|⟨k,hk,O⟩
   ·have:=(Je h.own bx).2;have:=hb.size;omega
   obtain⟨y,bf,bh⟩:=bj k hk;rw[bh]at O;exact(h.off y bf g o O).1 bx
  rcases U with U|⟨k,hk,O⟩
  ·have:=h.low.size;have:=hb.size;omega
  obtain⟨y,bf,bh⟩:=bj k hk;rw[bh]at O;exact(h.off y bf g o O).2
 ·rw[bi.block _ (Jd h.plan) (fun e=>by have:=bz _ e.symm;omega)];exact h.plan
 exact Jy h.low bi fun k hk=>by have:=bz k hk;omega
theorem Jyq.done {w bC bM bO bi j ev ev' sv sv' ks a c sch W w4 K}(h:Jyq w bC bM bO bi j ev sv ks a c sch W)(bS:bi (j+1) j=false)bx bz(bN:w4.ownsRow (w.heap.size+2) 138 2 ev' (ks.length+1) (ks.flatMap knC++[Jbl (a,c,sch),.bool false]))(bB:(W.alloc bx).grownBy w4 ev.ownBlock)(U:ev'.ownBlock=ev.ownBlock\/ev'.ownBlock=some (W.alloc bx).heap.size)(bT:Jo K (w.heap.size+2) 22 sv' ((ks.map fun k=>Jbl k.1)++[Jbl (a,c,sch)]))(Y:((w4.setCell ⟨w.heap.size+1,1,none⟩ ev').alloc bz).grownBy K sv.ownBlock)(Z:sv'.ownBlock=sv.ownBlock\/sv'.ownBlock=some ((w4.setCell ⟨w.heap.size+1,1,none⟩ ev').alloc bz).heap.size):
  Jrm w bC bM bO bi (j+1) ev' sv' (ks++[((a,c,sch),false)]) K:=by
 have bf:∀ g,ev.ownBlock=some g->w.heap.size+2<=g/\g<W.heap.size:=fun g e=>Je h.chk.own e;have M:∀ g,sv.ownBlock=some g->w.heap.size+2<=g/\g<W.heap.size:=fun g e=>Je h.own e;have bh:∀ g,ev'.ownBlock=some g->w.heap.size+2<=g/\g<w4.heap.size:=fun g e=>Je bN e;have bU:=bB.size;have bP:=Y.size;rw[Oa7]at bU bP U Z;have O:(w4.setCell ⟨w.heap.size+1,1,none⟩ ev').heap.size=w4.heap.size:=by simp[World.setCell]
 rw[O]at bP Z;have bD:∀ k,k<W.heap.size->ev.ownBlock≠some k->w4.heap[k]?=W.heap[k]?:=fun k y I=>(bB.block k (by rw[Oa7];omega) (Oc5 I)).trans (Oa9 _ _ _ y);have bE:∀ k,k<w4.heap.size->k≠w.heap.size+1->sv.ownBlock≠some k->K.heap[k]?=w4.heap[k]?:=fun k y I bj=>(Y.block k (by rw[Oa7,O];omega) (Oc5 bj)).trans ((Oa9 _ _ _ (by rw[O];exact y)).trans (Oa4 _ _ _ _ I));have bG:∀ k,k<W.heap.size->ev.ownBlock≠some k->k≠w.heap.size+1->sv.ownBlock≠some k->K.heap[k]?=W.heap[k]?:=fun k y I bj bk=>(bE k zo bj bk).trans (bD k y I);have br:w4.heap[w.heap.size+1]?=_:=(bD _ (Jd h.chk.ck) (fun e=>by have:=bf _ e;omega)).trans h.chk.ck;have bI:=Jk br 1 ev';simp only[Oa1,List.set_cons_zero,List.set_cons_succ]at bI;have bR:K.heap[w.heap.size+1]?=some (.cells #[bC,ev'] 134 (0,0)):=by
  rw[Y.block _ (by rw[Oa7,O];have:=Jd br;omega) (fun e=>by have:=M _ e.symm;omega),Oa9 _ _ _ (by rw[O];exact Jd br)];exact bI
 have bK:∀ g,ev.ownBlock≠some g->g<W.heap.size->ev'.ownBlock≠some g:=fun g y I e=>by
  rcases U with q|q
  ·exact y (q.symm.trans e)
  rw[q]at e;cases e;omega
 have bL:∀ g,sv.ownBlock≠some g->g<W.heap.size->sv'.ownBlock≠some g:=fun g y I e=>by
  rcases Z with q|q
  ·exact y (q.symm.trans e)
  rw[q]at e;cases e;omega
 have bJ:∀ (a:Option Addr) (s:List Int),Kc W a s->(∀ g o,a=some ⟨g,o,none⟩->ev.ownBlock≠some g/\g≠w.heap.size+1/\sv.ownBlock≠some g)->Kc K a s:=fun a s hi ho=>hi.of_block zo fun b o e hl=>bG b hl (ho b o e).1 (ho b o e).2.1 (ho b o e).2.2;refine⟨⟨bR,?_,fun k hk=>?_,fun k hk g o e=>?_,h.chk.low⟩,⟨?_,fun i k hk=>?_,fun i k hk=>?_⟩,?_,fun g e H=>?_,fun k hk g o e=>?_,?_,?_⟩
 ·rw[Oa8,List.length_singleton,Oe8,List.flatMap_singleton];refine Jl bN fun g e=>bE g (bh g e).2 (by have:=bh g e;omega) (fun H=>?_);rcases U with q|q
  ·exact h.sep g H (q.symm.trans e)
  rw[q]at e;cases e
  have:=M _ H;omega
 ·rw[Od2,Oc6]at hk;rcases hk with hk|rfl
  ·exact bJ _ _ (h.chk.ints k hk) fun g o e=>⟨(h.chk.off k hk g o e).1,(h.chk.off k hk g o e).2.1,(h.off k hk g o e).1⟩
  exact bJ _ _ h.ints fun g o e=>⟨(h.aoff g o e).1,(h.aoff g o e).2.1,(h.aoff g o e).2.2.2.1⟩
 ·rw[Od2,Oc6]at hk;rcases hk with hk|rfl
  ·have:=h.chk.off k hk g o e;exact⟨bK g this.1 this.2.2,this.2.1,zo⟩
  have:=h.aoff g o e;exact⟨bK g this.1 this.2.2.1,this.2.1,zo⟩
 ·rw[Oa8,List.length_singleton,h.len]
 ·rw[Om7]at hk;split at hk
  ·exact h.sch1 i k hk
  rename_i bV
  have hi:i=j:=by
   have:i-ks.length<1:=(Ob9.1 hk).1;have:=h.len;omega
  subst hi;rw[h.len,Oe1]at hk;cases hk
  exact h.sch2
 ·rw[Om7]at hk;split at hk
  ·exact h.flg i k hk
  have hi:i=j:=by
   have:i-ks.length<1:=(Ob9.1 hk).1;have:=h.len;omega
  subst hi;rw[h.len,Oe1]at hk;cases hk
  exact bS.symm
 ·rw[Ob8];exact bT
 ·rcases Z with q|q
  ·have bH:=q.symm.trans e;have:=M g bH;rcases U with bA|bA
   ·exact h.sep g bH (bA.symm.trans H)
   rw[bA]at H;cases H;omega
  rw[q]at e;cases e
  have:=(bh _ H).2;omega
 ·rw[Od2,Oc6]at hk;rcases hk with hk|rfl
  ·exact⟨bL g (h.off k hk g o e).1 (h.chk.off k hk g o e).2.2,(h.off k hk g o e).2⟩
  exact⟨bL g (h.aoff g o e).2.2.2.1 (h.aoff g o e).2.2.1,(h.aoff g o e).2.2.2.2⟩
 ·rw[bG _ (Jd h.plan) (fun e=>by have:=bf _ e;omega) zo (fun e=>by have:=M _ e;omega)];exact h.plan
 have hl:=h.low;have bk:Below w.heap.size w w4:=Jy (Jc hl bx) bB fun k hk=>by have:=bf k hk;omega
 have bQ:Below w.heap.size w (w4.setCell ⟨w.heap.size+1,1,none⟩ ev'):=bk.setCell (p:=⟨w.heap.size+1,1,none⟩) zS _;exact Jy (Jc bQ bz) Y fun k hk=>by have:=M k hk;omega
theorem Jrm.below {w M I K H j ev sv ks W y}(h:Jrm w M I K H j ev sv ks W)(hb:Below W.heap.size W y):Jrm w M I K H j ev sv ks y:=
 ⟨h.chk.below hb,h.kso,Jl h.own fun g e=>hb.block g (Je h.own e).2,h.sep,h.off,(hb.block _ (Jd h.plan)).trans h.plan,Jb h.low hb⟩
theorem Jyq.mid {w I Y bf M j ev ev' sv ks a c sch W w4}(h:Jyq w I Y bf M j ev sv ks a c sch W)Z(H:(W.alloc Z).grownBy w4 ev.ownBlock):
  w4.heap[w.heap.size+1]?=some (.cells #[I,ev] 134 (0,0))/\Jo (w4.setCell ⟨w.heap.size+1,1,none⟩ ev') (w.heap.size+2) 22 sv (ks.map fun k=>Jbl k.1)/\w.heap.size+2<=w4.heap.size:=by
 have K:∀ g,ev.ownBlock=some g->w.heap.size+2<=g/\g<W.heap.size:=fun g e=>Je h.chk.own e;have bh:=H.size;rw[Oa7]at bh;have y:∀ k,k<W.heap.size->ev.ownBlock≠some k->w4.heap[k]?=W.heap[k]?:=fun k O U=>(H.block k (by rw[Oa7];omega) (Oc5 U)).trans (Oa9 _ _ _ O);refine⟨(y _ (Jd h.chk.ck) (fun e=>by have:=K _ e;omega)).trans h.chk.ck,Jl h.own fun g e=>?_,by have:=Jd h.chk.ck;omega⟩;have:=Je h.own e;rw[Oa4 _ _ _ _ zt];exact y g this.2 (h.sep g e)
theorem Kex (w:World)(u v:Value)(e:TypeId):∀ (j:Nat) (x:Value),[u,v][j]?=some x->(w.alloc (.cells #[u,v] e)).cell? ((⟨w.heap.size,0,none⟩:Addr).add j)=some x:=by
 intro j x y;have hn:=heap_alloc_new w (.cells #[u,v] e);match j,y with
 |0,y=>cases y;unfold World.cell?;rw[show ((⟨w.heap.size,0,none⟩:Addr).add 0).block=w.heap.size from rfl,hn];rfl
 |1,y=>cases y;unfold World.cell?;rw[show ((⟨w.heap.size,0,none⟩:Addr).add 1).block=w.heap.size from rfl,hn];rfl
theorem Jrc (nb no bf:Nat)(y:List Nd)(I:Nat)(K:Array Value)(O:List (List Int))(M:Nat->Nat->Bool)w(bT:∀ j nd,y[j]?=some nd->Zm w nb (no+j*7) nd)(dd:1<=y.length)(de:y.length<=12)(ca:O.length=y.length)(ci:∀ j nd,y[j]?=some nd->Jvz w (.func (.func I) K #[]) O M nd j)(bX:∀ j,M (j+1) j=false)(bW:∀ i,i+1<y.length->M y.length i=true):
  Calls prog 32 #[.agg #[.slice (some ⟨nb,no,none⟩) y.length bf],.func (.func I) K #[]] w fun e w'=>∃ (bO:List Sch) (sv:Value),e=.returned (.tuple #[sv,.nilIface])/\Below w.heap.size w w'/\Jo w' (w.heap.size+2) 22 sv (bO.map Jbl)/\bO.map (·.2.2)=O/\∀ s∈bO,Kc w' s.1 s.2.2/\∀ g o,s.1=some ⟨g,o,none⟩->w.heap.size<=g:=by
 have bk:Hid ((∀ j nd,y[j]?=some nd->Zm w nb (no+j*7) nd)/\O.length=y.length/\(∀ j nd,y[j]?=some nd->Jvz w (.func (.func I) K #[]) O M nd j)/\(∀ j,M (j+1) j=false)/\∀ i,i+1<y.length->M y.length i=true):=⟨bT,ca,ci,bX,bW⟩;have di:=run_neq_nil_nil (P:=prog);have dj:∀ (a:Addr) (X:World),(store a (.func (.func I) K #[])).run prog X=stored prog X a (.func (.func I) K #[]) .plain:=fun a X=>run_store _ _ _ _ _ rfl;clear bT ca ci bX bW;go_enter func32,ntmps32
 go_upto_region 5 with fail
 have bU:Jrm w (.func (.func I) K #[]) (.slice (some ⟨nb,no,none⟩) y.length bf) O M 0 (.slice none 0 0) (.slice none 0 0) [] ((w.alloc (.cells #[(.slice (some ⟨nb,no,none⟩) y.length bf)] 47)).alloc (.cells #[(.func (.func I) K #[]),.slice none 0 0] 134)):=by
  refine⟨⟨?_,⟨rfl,.inl ⟨rfl,rfl⟩⟩,fun k hk=>(by cases hk),fun k hk=>(by cases hk),zo⟩,⟨rfl,fun i k hk=>(by simp at hk),fun i k hk=>(by simp at hk)⟩,Jo.nil _ _ _,fun g e=>(by simp[Value.ownBlock]at e),fun k hk=>(by cases hk),?_,Jc (Jc (Oa5 _ _) _) _⟩
  ·have:=heap_alloc_new (w.alloc (.cells #[(.slice (some ⟨nb,no,none⟩) y.length bf)] 47)) (.cells #[(.func (.func I) K #[]),.slice none 0 0] 134);rw[Oa7]at this;exact this
  exact(Oa9 _ _ _ zS).trans (heap_alloc_new w _)
 have bG:Hid _:=bU;generalize (w.alloc (.cells #[(.slice (some ⟨nb,no,none⟩) y.length bf)] 47)).alloc (.cells #[(.func (.func I) K #[]),.slice none 0 0] 134)=cA at bG |-;have dq:cA.cell? ⟨w.heap.size,0,none⟩=some (.slice (some ⟨nb,no,none⟩) y.length bf):=by simp[World.cell?,bG.out.plan]
 clear bU;go_wp2;go_loopw [7,34] (fun sv i wr=>∃ (j:Nat) (ev:Value) (ks:List Kn),j<=y.length/\i=.int .i64 (j:Int)/\Jrm w (.func (.func I) K #[]) (.slice (some ⟨nb,no,none⟩) y.length bf) O M j ev sv ks wr) (fun _ i _=>y.length-(intOf i).toNat)
 case atStart=>exact⟨0,_,_,Ob7 _,rfl,bG.out⟩
 case round=>
  obtain⟨j,ev,ks,dg,rfl,H⟩:=hrel;have bP:Hid _:=H;have bY:=H.kso.len;obtain⟨da,db,bI⟩:=Jcz H.chk.own;obtain⟨cW,sc,bC⟩:=Jcz H.own;rw[Oa6]at bC;rw[bY]at bI bC;by_cases cb:j<y.length
  ·obtain⟨nd,bM⟩:∃ nd,y[j]?=some nd:=⟨_,Oa3 cb⟩;obtain⟨cx,cy,sch,cj,bV⟩:=bk.out.2.2.1 j nd bM;obtain⟨ds,dt,du,dv,dw,dx,dy⟩:=(bk.out.1 j nd bM).below H.low;have bx:Below wr.heap.size wr (Jam wr nd):=Jc (Oa5 _ _) _;have bK:∀ g,ev.ownBlock=some g->w.heap.size+2<=g/\g<wr.heap.size:=fun g e=>Je H.chk.own e;have cN:=Kbz (w.heap.size+1) nd (Jam wr nd) (fun X v w'=>∃ Z,Z.map (·.1)=ks.map (·.1)/\(∀ (i:Nat) (k:Kn),Z[i]?=some k->k.2=M (j+1) i)/\Jq3 (w.heap.size+2) (w.heap.size+1) (.func (.func I) K #[]) ev Z sch X (.returned v) w') cx cy (fun X bA=>by
    refine(bV X ev ks (Jb H.low (Jb bx bA)) (fun g e=>by have:=bK g e;omega) (H.chk.below (Jb bx bA)) H.kso).mono ?_;rintro e cX ⟨Z,bj,hf,a,c,rfl,bB,bi,hi,ho⟩;exact⟨_,_,rfl,⟨Z,bj,hf,a,c,rfl,bB,bi,hi,ho⟩,bi.size,fun k bN bE=>bi.block k bE (fun e=>by have:=bK k e.symm;have:=bx.size;omega)⟩)
   have bh:Hid (O[j]?=some sch/\j<y.length/\Below wr.heap.size wr (Jam wr nd)):=⟨cj,cb,bx⟩;subst bI bC;obtain⟨cR,cL,cO,cP,cQ⟩:=info_parts Jw8;clear H bV bM cx cy cj bx bK;go_wp2_with (first|(go_at_call 51;refine cN.mono ?_;rintro cC bH ⟨X,bA,v,rfl,Z,bj,hf,a,c,hv,bB,bi,hi,ho⟩;injection hv with hv;subst hv;have U:Hid (Jyq w (.func (.func I) K #[]) (.slice (some ⟨nb,no,none⟩) y.length bf) O M j _ _ Z a c sch bH):=bP.out.node (Jb bh.out.2.2 bA) bj hf bh.out.1 bB bi hi ho;obtain⟨_,c1⟩:=U.out.chk.cells;clear bB bi hi ho bj hf)|(at_builtin;refine wpList_append_own_at _ zR _ _ 132 zR (w.heap.size+2) 138 cR _ 2 32 zK cL cO cP cQ zR zd _ _ _ zR (Jbm U.out.chk.own _) ⟨bH.heap.size,0,none⟩ 1 1 [Jbl (a,c,sch),.bool false] zR zR (by exact Kex bH _ _ _) (by intro u bz;simp at bz;rcases bz with rfl|rfl<;>rfl) (by have:=U.out.len;have:=bh.out;unfold maxLen;omega) (by have:=U.out.len;have:=bh.out;omega) (by simp;have:=Jd U.out.chk.ck;omega) ?_;intro ev' w4 bN bE _ cS;go_must (obtain⟨cv,m2,m3⟩:=U.out.mid (ev':=ev') _ bE);go_must (obtain⟨bS,bQ,cu⟩:=ownsRow_succ bN);obtain⟨bD,cc⟩:∃ bD,bD=Z.length+1:=⟨_,rfl⟩;rw[<-cc]at cu;clear cc;subst cu;have cZ:w4.cell? ⟨w.heap.size+1,1,none⟩=some _:=(by simp[World.cell?,cv];rfl);have dc:w4.frozen? ⟨w.heap.size+1,1,none⟩=false:=(by simp[World.frozen?,cv]);have cn:(w4.setCell ⟨w.heap.size+1,1,none⟩ (.slice (some ⟨bS,0,none⟩) bD bQ)).heap.size=w4.heap.size:=(by simp[World.setCell]);have cf:=Ua (w4.setCell ⟨w.heap.size+1,1,none⟩ (.slice (some ⟨bS,0,none⟩) bD bQ)) (Jbl (a,c,sch)) 22;rw[cn]at cf)|(at_builtin;go_must (refine Ul zR _ _ 91 22 _ 24 Jzf zR zd zK zR (w.heap.size+2) _ _ zR (Jo.alloc m2 _) ⟨w4.heap.size,0,none⟩ 1 [Jbl (a,c,sch)] zR (by exact cf) (by intro u bz;simp at bz;subst bz;rfl) (by have:=U.out.len;have:=bh.out;simp only[List.length_cons,List.length_nil,Oa6];omega) (by rw[Oa7,cn];omega) ?_);intro sv' dr cT cU cV;go_must (have cF:=U.out.done (bk.out.2.2.2.1 j) _ _ bN bE cS cT cU cV)))
   go_roundw
   case rel=>exact⟨j+1,_,_,bh.out.2.1,rfl,cF⟩
   case measure=>have:=bh.out.2.1;simp[intOf];omega
  have bL:j=y.length:=zo;obtain⟨g,cap,Y,cJ,cK,_⟩:=H.chk.at (i:=0) zo;rw[bY]at Y;have bZ:∀ i,i<y.length-1->∃ s:Sch,wr.cell? ⟨g,i*2,none⟩=some (Jbl s)/\wr.cell? ⟨g,i*2+1,none⟩=some (.bool true):=fun i hi=>by
   obtain⟨cE,cB,bJ,_,_,cD,bR,_⟩:=H.chk.at (i:=i) zo;rw[Y]at bJ;simp only[On8,Oc9,Oh2,and_true]at bJ;have hf:=H.kso.flg i ks[i] (Oa3 zo);have cI:M j i=true:=by rw[bL];exact bk.out.2.2.2.2 i zo
   rw[hf.trans cI]at bR;rw[bJ.1];exact⟨_,cD,bR⟩
  obtain⟨m,bj⟩:∃ m,y.length=m+1:=⟨y.length-1,zo⟩;have cM:=Jrx g cap m wr zo (fun i hi=>bZ i zo);have cH:m<=cap:=by
   rcases H.chk.own with⟨_,⟨h0,_⟩|⟨cE,cB,_,h0,_,_,df,_⟩⟩
   ·rw[h0]at Y;cases Y
   rw[h0]at Y;simp only[On8,Oc9,Oh2,and_true]at Y;omega
  obtain⟨_,c1⟩:=H.chk.cells;rw[Y]at c1;have cz:Hid (ks.map (·.1.2.2)=O):=by
   show _=_;have hl:=bk.out.2.1;refine Oi8 fun i=>?_;rw[Ob1];cases hki:ks[i]? with
   |some k=>rw[H.kso.sch i k hki];rfl
   |none=>
    have:ks.length<=i:=List.getElem?_eq_none_iff.1 hki;exact(List.getElem?_eq_none_iff.2 zo).symm
  have dl:(y.length:Int)-1=(m:Int):=zo;have dm:(0:Int)<=(m:Int):=zo;have dp:(m:Int)<=(cap:Int):=zo;have dh:m<=11:=zo;subst bC;rw[bL]at c1 |-;clear bZ Y bI H cJ cK cH bj;go_wp2_with (go_at_call 52;refine cM.mono ?_;rintro cC cY ⟨rfl,cG⟩)
  have br:=bP.out.below cG;rw[bL]at br;refine bodyPost_ret (v:=.tuple #[.slice cW y.length sc,.nilIface]) (by simp[results,results32,go_sem]) rfl ⟨ks.map (·.1),_,rfl,br.low,?_,?_,fun s hs=>?_⟩
  ·rw[Oi6];exact br.own
  ·rw[Oi6];exact cz.out
  obtain⟨k,hk,rfl⟩:=Of0.1 hs;exact⟨br.chk.ints k hk,fun g o e=>(br.off k hk g o e).2⟩
attribute [local go_sem] Oc0
abbrev Dn:=Option (Nat×List (Option Addr×Nat)×List (List V))
def Kul (hs:List (Option Addr×Nat))(n:Nat):Nat:=match hs[n]? with|none=>n|some x=>x.2
theorem Kuf {hs n}(h:hs.length<=n):Kul hs n=n:=by
 unfold Kul;rw[Ob4 h]
theorem Qd.cut {w g hs cs}(h:Qd w g hs cs):Qd w g (hs.take cs.length) cs/\∀ j,j<cs.length->Yo (hs.take cs.length) j=Yo hs j:=by
 have e:∀ j,j<cs.length->Yo (hs.take cs.length) j=Yo hs j:=fun j y=>by
  show (hs.take cs.length).getD j (none,0)=hs.getD j (none,0);rw[Oa0,Oa0,Oh3 y]
 exact⟨⟨h.row.congr fun j y=>by rw[e j y],fun j y=>by rw[e j y];exact h.vals j y,fun j y=>by rw[e j y];exact h.cap j y⟩,e⟩
def dnV (d:Dn):Value:=match d with|none=>.slice none 0 0|some x=>.slice (some ⟨x.1,0,none⟩) x.2.2.length (Kul x.2.1 x.2.2.length)
def Jfk (rb:Nat)(y:Value)(x:Nat×List (Option Addr×Nat)×List (List V))(W:World):Prop:=Qd W x.1 x.2.1 x.2.2/\Jbo x.1 x.2.1 x.2.2.length (fun b=>b≠rb/\y.ownBlock≠some b/\b<W.heap.size)
structure Jd6 (L rb:Nat) (z bu bl:Int) (se tp dp sc dv:Value) (ds:List Dn) (W:World):Prop where
 run:Jck W rb z (.int .i64 bu) (.int .i64 bl) se tp dp sc dv
 own:Jo W L 76 dv (ds.map dnV)
 cols:∀ x,some x∈ds->Jfk rb dv x W
 low:rb<L
theorem Qd.blocks {W y g hs cs}(h:Qd W g hs cs)(H:W.heap.size<=y.heap.size)(hF:Jbo g hs cs.length fun b=>y.heap[b]?=W.heap[b]?):Qd y g hs cs:=
 h.kp (Fx:=fun b=>y.heap[b]?=W.heap[b]?) ⟨H,fun _ h=>h⟩ hF
theorem Jfk.move {rb K M x W H}(h:Jfk rb K x W)(I:W.heap.size<=H.heap.size)(hk:∀ b,b≠rb->K.ownBlock≠some b->b<W.heap.size->H.heap[b]?=W.heap[b]?/\M.ownBlock≠some b):Jfk rb M x H:=
 ⟨h.1.blocks I ⟨(hk _ h.2.1.1 h.2.1.2.1 h.2.1.2.2).1,fun j y b o e=>(hk b (h.2.2 j y b o e).1 (h.2.2 j y b o e).2.1 (h.2.2 j y b o e).2.2).1⟩,⟨h.2.1.1,(hk _ h.2.1.1 h.2.1.2.1 h.2.1.2.2).2,Oc2 h.2.1.2.2 I⟩,fun j y b o e=>⟨(h.2.2 j y b o e).1,(hk b (h.2.2 j y b o e).1 (h.2.2 j y b o e).2.1 (h.2.2 j y b o e).2.2).2,Oc2 (h.2.2 j y b o e).2.2 I⟩⟩
theorem Jfk.below {rb H x W y}(h:Jfk rb H x W)(hb:Below W.heap.size W y):Jfk rb H x y:=h.move hb.size fun b _ I K=>⟨hb.block b K,I⟩
theorem Jd6.below {L rb z bu bl M O H sc K I W y}(h:Jd6 L rb z bu bl M O H sc K I W)(hb:Below W.heap.size W y):Jd6 L rb z bu bl M O H sc K I y:=
 ⟨h.run.below hb,Jl h.own fun g e=>hb.block g (Je h.own e).2,fun x U=>(h.cols x U).below hb,h.low⟩
theorem Jd6.more {L rb z bu bl O U K sc y H Y W w4 x}(h:Jd6 L rb z bu bl O U K sc y Y W)(bD:Jfk rb y x W)bk(br:Jo w4 L 76 H (Y.map dnV++[dnV (some x)]))(bx:(W.alloc bk).grownBy w4 y.ownBlock)(bz:H.ownBlock=y.ownBlock\/H.ownBlock=some (W.alloc bk).heap.size):
  Jd6 L rb z bu bl O U K sc H (Y++[some x]) (w4.setCell ⟨rb,7,none⟩ H)/\Jck w4 rb z (.int .i64 bu) (.int .i64 bl) O U K sc y:=by
 have bA:∀ g,y.ownBlock=some g->L<=g/\g<W.heap.size:=fun g e=>Je h.own e;have bB:∀ g,H.ownBlock=some g->L<=g/\g<w4.heap.size:=fun g e=>Je br e;have hl:=h.low;have bE:=bx.size;rw[Oa7]at bE bz;have bf:∀ k,k<W.heap.size->y.ownBlock≠some k->w4.heap[k]?=W.heap[k]?:=fun k Z M=>(bx.block k (by rw[Oa7];omega) (Oc5 M)).trans (Oa9 _ _ _ Z);have bi:Jck w4 rb z (.int .i64 bu) (.int .i64 bl) O U K sc y:=(bf rb (Jd h.run) (fun e=>by have:=bA _ e;omega)).trans h.run;have bj:=Jk bi 7 H;simp only[Oa1,List.set_cons_zero,List.set_cons_succ]at bj;have bh:∀ I,Jfk rb y I W->Jfk rb H I (w4.setCell ⟨rb,7,none⟩ H):=fun I hy=>hy.move (by simp[World.setCell];omega) fun b Z M bC=>⟨(Oa4 _ _ _ _ Z).trans (bf b bC M),fun e=>by
  rcases bz with q|q
  ·exact M (q.symm.trans e)
  rw[q]at e;cases e;omega⟩
 refine⟨⟨bj,?_,fun I hy=>?_,hl⟩,bi⟩
 ·rw[Ob8];exact Jl br fun g e=>Oa4 _ _ _ _ (by have:=bB g e;simp;omega)
 rw[Od2,Oc6]at hy;rcases hy with hy|hy
 ·exact bh I (h.cols I hy)
 cases hy
 exact bh x bD
def Kw8 (W:World)(H:List Dn)(x:Nat×List (Option Addr×Nat)×List (List V)):Prop:=∀ F:Nat->Prop,(∀ k,F k->k<W.heap.size)->(∀ y,some y∈H->Jbo y.1 y.2.1 y.2.2.length fun b=>¬ F b)->Jbo x.1 x.2.1 x.2.2.length fun b=>¬ F b
theorem Kw8.new {W y x}(h:Jbo x.1 x.2.1 x.2.2.length fun b=>W.heap.size<=b):Kw8 W y x:=fun F hF _=>⟨fun e=>by have:=hF _ e;have:=h.1;omega,fun j I b o e H=>by have:=hF _ H;have:=h.2 j I b o e;omega⟩
def Ju1 (w:World)(L rb:Nat)(z bu bl:Int)(U Y O sc:Value)(M:Nat->List Dn->Prop)(bf:Nat->Value->World->Prop)(nd:Nd)(j:Nat):Prop:=
 0<=nd.op/\nd.op<=7/\∀ W H y,Below w.heap.size w W->(∀ g,H.ownBlock=some g->w.heap.size<=g)->Jd6 L rb z bu bl U Y O sc H y W->y.length=j->M j y ->
  Calls prog (Jej nd.op) #[.pointer (some ⟨rb,0,none⟩),nd.val] W fun e I=>W.grownBy I H.ownBlock /\
   ((∃ (x:Nat×List (Option Addr×Nat)×List (List V)) (K:List Dn),e=.returned (.tuple #[dnV (some x),.nilIface])/\Jd6 L rb z bu bl U Y O sc H K I/\Jfk rb H x I/\K.length=j/\M (j+1) (K++[some x])/\Kw8 W y x/\∀ Z,some Z∈K->some Z∈y) \/
    (∃ (ty b:Nat),e=.returned (.tuple #[.slice none 0 0,.iface ty (.pointer (some ⟨b,0,none⟩))])/\bf j (.iface ty (.pointer (some ⟨b,0,none⟩))) I))
attribute [local go_sem] Oc0
theorem Jzj:(prog.info? 76).map (fun i=>(i.zero,i.size,i.bytes))=some (some (.slice none 0 0),1,24):=zK
attribute [local go_sem] Oc0
theorem Jd6.take {L rb:Nat}{z bu bl:Int}{bz bA bk sc I H W}(h:Jd6 L rb z bu bl bz bA bk sc I H W){i:Nat}{x}(hi:H[i]?=some (some x)):
  ∃ y U,I=.slice (some ⟨y,0,none⟩) H.length U/\i<H.length/\L<=y/\y<W.heap.size/\W.cell? ⟨y,i,none⟩=some (.slice (some ⟨x.1,0,none⟩) x.2.2.length (Kul x.2.1 x.2.2.length))/\W.frozen? ⟨y,i,none⟩=false/\Jfk rb I x W /\
   ∀ O,W.grownBy O (some y)->O.heap[y]?=Jdc W y i->Jd6 L rb z bu bl bz bA bk sc I (H.set i none) O:=by
 have bE:i<H.length:=(Ob9.1 hi).1;have hl:=h.low;rcases h.own with⟨bL,⟨M,Y⟩|⟨y,U,bj,M,Y,Z,bx,bI,bJ,bi⟩⟩
 ·rw[Oa6]at Y;omega
 rw[Oa6]at M bx;have bD:bj[i]?=some (dnV (some x)):=by
  have K:(H.map dnV)[i]?=some (dnV (some x)):=by rw[Ob1,hi];rfl
  rw[<-bi,Oe7]at K;split at K
  ·rw[Oe6]at K;exact K
  cases K
 have bG:some x∈H:=Of6 hi;have hob:I.ownBlock=some y:=by rw[M];rfl
 refine⟨y,U,M,bE,Y,Jd Z,?_,by simp[World.frozen?,Z],h.cols x bG,fun O bh bf=>?_⟩
 ·simp only[World.cell?,Z];exact bD
 have hs:=Jk Z i (.slice none 0 0);unfold Jdc at bf;rw[hs]at bf;refine⟨(bh.block rb (Jd h.run) (fun e=>by cases e;omega)).trans h.run,⟨?_,.inr ⟨y,U,bj.setIfInBounds i (.slice none 0 0),?_,Y,bf,?_,bI,?_,?_⟩⟩,fun bB hy=>?_,hl⟩
 ·rw[Oa6,Of8];omega
 ·rw[Oa6,Of8];exact M
 ·rw[Oa6,Of8];exact bx
 ·simpa using bJ
 ·rw[Oa6,Of8,Ok0,List.take_set];rw[Oa6]at bi;rw[bi,Op0];rfl
 have bH:some bB∈H:=by
  rcases List.mem_or_eq_of_mem_set hy with h|h
  ·exact h
  ·cases h
 exact(h.cols bB bH).move bh.size fun b bK br bC=>⟨bh.block b bC (fun e=>br (hob.trans e.symm)),br⟩
theorem Jgr {y w w'}(h:Ju (·=y) w w'):w.grownBy w' (some y):=⟨h.os,h.tape,h.output,h.size,fun k hk H=>h.block k hk fun e=>H (by rw[show k=y from e])⟩
def slH (v:Value):Option Addr×Nat:=match v with|.slice a _ c=>(a,c)|_=>(none,0)
theorem Jo6 {w B g H cs}(h:Jar w B g H cs):Qd w g (H.map slH) cs/\∀ j,j<cs.length->∀ b o,(Yo (H.map slH) j).1=some ⟨b,o,none⟩->B<=b/\b<w.heap.size:=by
 have U:∀ j,j<cs.length->Yo (H.map slH) j=slH (Uq H j):=fun j y=>by
  unfold Yo Uq;rw[Oa0,Oa0,Ob1,Oa3 (by rw[h.len];exact y)];rfl
 have I:∀ j,j<cs.length->Uq H j=.slice (Yo (H.map slH) j).1 (cs.getD j []).length (Yo (H.map slH) j).2/\Jv w (Yo (H.map slH) j).1 (cs.getD j [])/\(cs.getD j []).length<=(Yo (H.map slH) j).2:=fun j y=>by
  obtain⟨a,cap,e,hv⟩:=(h.own j y).vals;rw[U j y,e];refine⟨rfl,hv,?_⟩;rcases h.own j y with⟨_,⟨K,M⟩|⟨Z,Y,_,K,_,_,O,_⟩⟩
  ·rw[M];exact Ob7 _
  rw[e]at K;cases K
  exact O
 refine⟨⟨?_,fun j y=>(I j y).2.1,fun j y=>(I j y).2.2⟩,fun j y b o e=>?_⟩
 ·rw[<-h.len];exact(Kua h.row).congr fun j y=>(I j (by rw[<-h.len];exact y)).1
 refine Je (h.own j y) ?_;rw[(I j y).1,e];rfl
theorem Kdz {L rb s:Nat}{z bu bl:Int}{Y K sc H}{Z:List Dn}{W}(h:Jd6 L rb z bu bl Y (.pointer (some ⟨s,0,none⟩)) K sc H Z W)(nd:Nd)cols(br:∀ X,Below W.heap.size W X->Calls prog 38 #[.pointer (some ⟨s,0,none⟩),.string nd.tn] X fun e w'=>Below X.heap.size X w'/\∃ g y,e=.returned (.tuple #[.slice (some ⟨g,0,none⟩) cols.length cols.length,.nilIface])/\Jar w' X.heap.size g y cols):
  Calls prog 71 #[.pointer (some ⟨rb,0,none⟩),nd.val] W fun bf I=>Below W.heap.size W I/\∃ (g:Nat) (hs:List (Option Addr×Nat)),bf=.returned (.tuple #[dnV (some (g,hs,cols)),.nilIface])/\Jd6 L rb z bu bl Y (.pointer (some ⟨s,0,none⟩)) K sc H Z I/\Jfk rb H (g,hs,cols) I/\Jbo g hs cols.length fun b=>W.heap.size<=b:=by
 have:=Jos rb s z (.int .i64 bu) (.int .i64 bl) Y K sc H nd.op nd.l nd.r nd.tn (.slice nd.xs.1 nd.xs.2.1 nd.xs.2.2) (.slice nd.ky.1 nd.ky.2.1 nd.ky.2.2) nd.kk W (fun X a b w'=>∃ g y,a=.slice (some ⟨g,0,none⟩) cols.length cols.length/\b=.nilIface/\Jar w' X.heap.size g y cols) h.run (fun X O=>(br X O).mono fun e w' hp=>by
  obtain⟨bj,g,y,rfl,bk⟩:=hp;exact⟨bj,_,_,rfl,g,y,rfl,rfl,bk⟩)
 refine this.mono fun bf I hp=>?_;obtain⟨hb,X,O,a,b,rfl,g,y,rfl,rfl,M⟩:=hp;obtain⟨hC,bi⟩:=Jo6 M;have bA:=O.size;have bx:=M.low;have bz:=Jd h.run;have bh:∀ k,H.ownBlock=some k->k<W.heap.size:=fun k e=>(Je h.own e).2;refine⟨hb,g,y.map slH,by simp only[dnV];rw[Kuf (by rw[Oa6,M.len];exact Oa2 _)],h.below hb,⟨hC,⟨zo,fun e=>by have:=bh _ e;omega,hC.row.lt⟩,fun j U b o e=>?_⟩,zo,fun j U b o e=>by have:=bi j U b o e;omega⟩;have:=bi j U b o e;exact⟨zo,fun e=>by have:=bh _ e;omega,this.2⟩
end
open Go.RowKit Go.Shelf Go.Maps
attribute [local go_sem] Oc0
structure Kn7 (sch:List Int) (k:Krv):Prop where
 c:k.c<sch.length
 f:k.f<=5
 t:k.f=3->sch.getD k.c 0=1
def tyK (sch:List Int)(k:Krv):Int:=if k.f=1\/k.f=2\/k.f=3 then 1 else sch.getD k.c 0
