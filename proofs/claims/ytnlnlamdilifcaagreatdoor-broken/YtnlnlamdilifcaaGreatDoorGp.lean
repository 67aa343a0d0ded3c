/- Plans that are right: the schemas of all nodes. -/
import Derived.Test.YtnlnlamdilifcaaGreatDoorXv
import Derived.Test.YtnlnlamdilifcaaGreatDoorJe
set_option maxHeartbeats 4000000
set_option maxRecDepth 100000
namespace Go.Proofs.YtnlnlamdilifcaaGreatDoor
section
open Go.RowKit Go.Shelf Tryz
attribute [local go_sem] Oc0
theorem Jrx g cap n w(Y:n<=1000)(I:∀ i,i<n->∃ s:Sch,w.cell? (Ar g (i*2))=some (Jbl s)/\w.cell? (Ar g (i*2+1))=some (.bool true)):
  Cq 68 #[Sq g n cap,.func (.func 69) #[] #[]] w fun e w'=>e=.returned iM /\Bq w w':=by
 have M:Hid _:=I;clear I;go_enter func68,ntmps68
 go_wp2;go_loopw [8] (fun i wr=>∃ k:Nat,k<=n/\i=Iq k/\Bq w wr) (fun i _=>n-(intOf i).toNat)
 case atStart=>exact⟨0,Ob7 _,rfl,Oa5 _ _⟩
 case round=>
  obtain⟨k,I,rfl,y⟩:=hrel;by_cases K:k<n
  ·obtain⟨s,c0,c1⟩:=M.out k K;have O:=Ja y c0;have U:=Ja y c1;have H:=zh K;go_wp2;go_roundw
   case rel=>exact⟨k+1,H.out,by have:=H.out;go_num,Jc y _⟩
   case measure=>have:=H.out;simp[intOf];omega
  go_wp2;exact bodyPost_ret (v:=iM) (by simp[results,results68,go_sem]) rfl ⟨rfl,y⟩
structure Kh1 (scs:List (List Int)) (fl:Nat->Bool) (j:Nat) (ks:List Kn):Prop where
 len:ks.length=j
 sch:∀ (i:Nat) (k:Kn),ks[i]?=some k->scs[i]?=some k.1.2.2
 flg:∀ (i:Nat) (k:Kn),ks[i]?=some k->k.2=fl i
structure Jrm (w:World) (tf nv0:Value) (scs:List (List Int)) (fl:Nat->Nat->Bool) (j:Nat) (ev sv:Value) (ks:List Kn) (W:World):Prop where
 chk:Jed (w.heap.size+2) (w.heap.size+1) tf ev ks W
 kso:Kh1 scs (fl j) j ks
 own:Jo W (w.heap.size+2) 22 sv (ks.map fun k=>Jbl k.1)
 sep:∀ g,sv.ownBlock=some g->ev.ownBlock≠some g
 off:∀ k∈ks,∀ g o,k.1.1=some (Ar g o)->sv.ownBlock≠some g/\w.heap.size<=g
 plan:W.heap[w.heap.size]?=some (.cells #[nv0] 60 (0,0))
 low:Bq w W
def Jvz (w:World)(K:Value)(I:List (List Int))(H:Nat->Nat->Bool)(nd:Nd)(j:Nat):Prop:=
 0<=nd.op/\nd.op<=7/\∃ sch,I[j]?=some sch/\∀ W ev ks,Bq w W->(∀ g,ev.ownBlock=some g->w.heap.size<=g)->Jed (w.heap.size+2) (w.heap.size+1) K ev ks W->Kh1 I (H j) j ks ->
  Cq (Jm5 nd.op) #[Pq (w.heap.size+1),nd.val] W fun e M=>∃ y,y.map (·.1)=ks.map (·.1)/\(∀ (i:Nat) (k:Kn),y[i]?=some k->k.2=H (j+1) i)/\Jq3 (w.heap.size+2) (w.heap.size+1) K ev y sch W e M
theorem Jw8:(prog.info? 173).map (fun i=>(i.zero,i.size,i.bytes))=some (some (.agg #[Sz,.bool false]),2,32):=zK
structure Jyq (w:World) (tf nv0:Value) (scs:List (List Int)) (fl:Nat->Nat->Bool) (j:Nat) (ev sv:Value) (ks:List Kn) (a:Option Addr) (c:Nat) (sch:List Int) (W:World):Prop where
 chk:Jed (w.heap.size+2) (w.heap.size+1) tf ev ks W
 len:ks.length=j
 sch1:∀ (i:Nat) (k:Kn),ks[i]?=some k->scs[i]?=some k.1.2.2
 sch2:scs[j]?=some sch
 flg:∀ (i:Nat) (k:Kn),ks[i]?=some k->k.2=fl (j+1) i
 own:Jo W (w.heap.size+2) 22 sv (ks.map fun k=>Jbl k.1)
 sep:∀ g,sv.ownBlock=some g->ev.ownBlock≠some g
 off:∀ k∈ks,∀ g o,k.1.1=some (Ar g o)->sv.ownBlock≠some g/\w.heap.size<=g
 ints:Kc W a sch
 aoff:∀ g o,a=some (Ar g o)->ev.ownBlock≠some g/\g≠w.heap.size+1/\g<W.heap.size/\sv.ownBlock≠some g/\w.heap.size<=g
 plan:W.heap[w.heap.size]?=some (.cells #[nv0] 60 (0,0))
 low:Bq w W
theorem Jrm.node {w bx bB br bf j ev sv ks I W X O sch}(h:Jrm w bx bB br bf j ev sv ks W)(hb:Bq W X)(Z:I.map (·.1)=ks.map (·.1))(bE:∀ (i:Nat) (k:Kn),I[i]?=some k->k.2=bf (j+1) i)(hs:br[j]?=some sch){a c}(bD:Jed (w.heap.size+2) (w.heap.size+1) bx ev I O)(bG:X.grownBy O ev.ownBlock)(hi:Kc O a sch)(ho:∀ g o,a=some (Ar g o)->ev.ownBlock≠some g/\g≠w.heap.size+1/\g<O.heap.size/\(X.heap.size<=g\/∃ k∈I,k.1.1=some (Ar g o))):Jyq w bx bB br bf j ev sv I a c sch O:=by
 have bj:=Ut (Qq hb) bG;have bk:∀ k∈I,∃ H∈ks,k.1=H.1:=fun k y=>by
  have:k.1∈ks.map (·.1):=by rw[<-Z];exact List.mem_map_of_mem y
  obtain⟨H,K,M⟩:=Of0.1 this;exact⟨H,K,M.symm⟩
 have bH:I.length=ks.length:=by have:=congrArg List.length Z;simpa using this
 have bI:I.map (fun k=>Jbl k.1)=ks.map fun k=>Jbl k.1:=by
  have:=congrArg (List.map Jbl) Z;rw[Oi6,Oi6]at this;exact this
 have bA:∀ g,ev.ownBlock=some g->w.heap.size+2<=g:=fun g e=>(Je h.chk.own e).1;refine⟨bD,bH.trans h.kso.len,fun i k y=>?_,hs,bE,?_,h.sep,fun k y g o e=>?_,hi,fun g o e=>?_,?_,?_⟩
 ·have:(ks.map (·.1))[i]?=some k.1:=by rw[<-Z,Ob1,y];rfl
  rw[Ob1,Oe9]at this;obtain⟨H,K,M⟩:=this;rw[<-M];exact h.kso.sch i H K
 ·unfold Jo;rw[bI];exact Jl h.own fun g e=>bj.block g (Je h.own e).2 (Oc5 (h.sep g e))
 ·obtain⟨H,K,M⟩:=bk k y;rw[M]at e;exact h.off H K g o e
 ·obtain⟨K,M,bC,Y⟩:=ho g o e;refine⟨K,M,bC,fun bz=>?_,?_⟩
  ·rcases Y with Y|⟨k,y,U⟩
   ·have:=(Je h.own bz).2;have:=hb.size;omega
   obtain⟨H,bh,bi⟩:=bk k y;rw[bi]at U;exact(h.off H bh g o U).1 bz
  rcases Y with Y|⟨k,y,U⟩
  ·have:=h.low.size;have:=hb.size;omega
  obtain⟨H,bh,bi⟩:=bk k y;rw[bi]at U;exact(h.off H bh g o U).2
 ·rw[bj.block _ (Jd h.plan) (fun e=>by have:=bA _ e.symm;omega)];exact h.plan
 exact Jy h.low bj fun k y=>by have:=bA k y;omega
theorem Jyq.done {w bD bN bP bj j ev ev' sv sv' ks a c sch W w4 M}(h:Jyq w bD bN bP bj j ev sv ks a c sch W)(bT:bj (j+1) j=false)bz bA(bO:w4.ownsRow (w.heap.size+2) 173 2 ev' (ks.length+1) (ks.flatMap knC++[Jbl (a,c,sch),.bool false]))(bC:(W.alloc bz).grownBy w4 ev.ownBlock)(Y:ev'.ownBlock=ev.ownBlock\/ev'.ownBlock=some (W.alloc bz).heap.size)(bU:Jo M (w.heap.size+2) 22 sv' ((ks.map fun k=>Jbl k.1)++[Jbl (a,c,sch)]))(Z:((w4.setCell (Ar (w.heap.size+1) 1) ev').alloc bA).grownBy M sv.ownBlock)(bf:sv'.ownBlock=sv.ownBlock\/sv'.ownBlock=some ((w4.setCell (Ar (w.heap.size+1) 1) ev').alloc bA).heap.size):
  Jrm w bD bN bP bj (j+1) ev' sv' (ks++[((a,c,sch),false)]) M:=by
 have bh:∀ g,ev.ownBlock=some g->w.heap.size+2<=g/\g<W.heap.size:=fun g e=>Je h.chk.own e;have O:∀ g,sv.ownBlock=some g->w.heap.size+2<=g/\g<W.heap.size:=fun g e=>Je h.own e;have bi:∀ g,ev'.ownBlock=some g->w.heap.size+2<=g/\g<w4.heap.size:=fun g e=>Je bO e;have bV:=bC.size;have bQ:=Z.size;rw[Oa7]at bV bQ Y bf;have U:(w4.setCell (Ar (w.heap.size+1) 1) ev').heap.size=w4.heap.size:=by simp[World.setCell]
 rw[U]at bQ bf;have bE:∀ k,k<W.heap.size->ev.ownBlock≠some k->w4.heap[k]?=W.heap[k]?:=fun k H K=>(bC.block k (by rw[Oa7];omega) (Oc5 K)).trans (Oa9 _ _ _ H);have bG:∀ k,k<w4.heap.size->k≠w.heap.size+1->sv.ownBlock≠some k->M.heap[k]?=w4.heap[k]?:=fun k H K bk=>(Z.block k (by rw[Oa7,U];omega) (Oc5 bk)).trans ((Oa9 _ _ _ (by rw[U];exact H)).trans (Oa4 _ _ _ _ K));have bH:∀ k,k<W.heap.size->ev.ownBlock≠some k->k≠w.heap.size+1->sv.ownBlock≠some k->M.heap[k]?=W.heap[k]?:=fun k H K bk br=>(bG k zo bk br).trans (bE k H K);have bx:w4.heap[w.heap.size+1]?=_:=(bE _ (Jd h.chk.ck) (fun e=>by have:=bh _ e;omega)).trans h.chk.ck;have bJ:=Jk bx 1 ev';simp only[Oa1,List.set_cons_zero,List.set_cons_succ]at bJ;have bS:M.heap[w.heap.size+1]?=some (.cells #[bD,ev'] 170 (0,0)):=by
  rw[Z.block _ (by rw[Oa7,U];have:=Jd bx;omega) (fun e=>by have:=O _ e.symm;omega),Oa9 _ _ _ (by rw[U];exact Jd bx)];exact bJ
 have bL:∀ g,ev.ownBlock≠some g->g<W.heap.size->ev'.ownBlock≠some g:=fun g H K e=>by
  rcases Y with q|q
  ·exact H (q.symm.trans e)
  rw[q]at e;cases e;omega
 have bM:∀ g,sv.ownBlock≠some g->g<W.heap.size->sv'.ownBlock≠some g:=fun g H K e=>by
  rcases bf with q|q
  ·exact H (q.symm.trans e)
  rw[q]at e;cases e;omega
 have bK:∀ (a:Option Addr) (s:List Int),Kc W a s->(∀ g o,a=some (Ar g o)->ev.ownBlock≠some g/\g≠w.heap.size+1/\sv.ownBlock≠some g)->Kc M a s:=fun a s hi ho=>hi.of_block zo fun b o e hl=>bH b hl (ho b o e).1 (ho b o e).2.1 (ho b o e).2.2;refine⟨⟨bS,?_,fun k y=>?_,fun k y g o e=>?_,h.chk.low⟩,⟨?_,fun i k y=>?_,fun i k y=>?_⟩,?_,fun g e I=>?_,fun k y g o e=>?_,?_,?_⟩
 ·rw[Oa8,List.length_singleton,Oe8,List.flatMap_singleton];refine Jl bO fun g e=>bG g (bi g e).2 (by have:=bi g e;omega) (fun I=>?_);rcases Y with q|q
  ·exact h.sep g I (q.symm.trans e)
  rw[q]at e;cases e
  have:=O _ I;omega
 ·rw[Od2,Oc6]at y;rcases y with y|rfl
  ·exact bK _ _ (h.chk.ints k y) fun g o e=>⟨(h.chk.off k y g o e).1,(h.chk.off k y g o e).2.1,(h.off k y g o e).1⟩
  exact bK _ _ h.ints fun g o e=>⟨(h.aoff g o e).1,(h.aoff g o e).2.1,(h.aoff g o e).2.2.2.1⟩
 ·rw[Od2,Oc6]at y;rcases y with y|rfl
  ·have:=h.chk.off k y g o e;exact⟨bL g this.1 this.2.2,this.2.1,zo⟩
  have:=h.aoff g o e;exact⟨bL g this.1 this.2.2.1,this.2.1,zo⟩
 ·rw[Oa8,List.length_singleton,h.len]
 ·rw[Om7]at y;split at y
  ·exact h.sch1 i k y
  rename_i bW
  have hi:i=j:=by
   have:i-ks.length<1:=(Ob9.1 y).1;have:=h.len;omega
  subst hi;rw[h.len,Oe1]at y;cases y
  exact h.sch2
 ·rw[Om7]at y;split at y
  ·exact h.flg i k y
  have hi:i=j:=by
   have:i-ks.length<1:=(Ob9.1 y).1;have:=h.len;omega
  subst hi;rw[h.len,Oe1]at y;cases y
  exact bT.symm
 ·rw[Ob8];exact bU
 ·rcases bf with q|q
  ·have bI:=q.symm.trans e;have:=O g bI;rcases Y with bB|bB
   ·exact h.sep g bI (bB.symm.trans I)
   rw[bB]at I;cases I;omega
  rw[q]at e;cases e
  have:=(bi _ I).2;omega
 ·rw[Od2,Oc6]at y;rcases y with y|rfl
  ·exact⟨bM g (h.off k y g o e).1 (h.chk.off k y g o e).2.2,(h.off k y g o e).2⟩
  exact⟨bM g (h.aoff g o e).2.2.2.1 (h.aoff g o e).2.2.1,(h.aoff g o e).2.2.2.2⟩
 ·rw[bH _ (Jd h.plan) (fun e=>by have:=bh _ e;omega) zo (fun e=>by have:=O _ e;omega)];exact h.plan
 have hl:=h.low;have br:Bq w w4:=Jy (Jc hl bz) bC fun k y=>by have:=bh k y;omega
 have bR:Bq w (w4.setCell (Ar (w.heap.size+1) 1) ev'):=br.setCell (p:=Ar (w.heap.size+1) 1) zS _;exact Jy (Jc bR bA) Z fun k y=>by have:=O k y;omega
theorem Jrm.below {w M I K H j ev sv ks W y}(h:Jrm w M I K H j ev sv ks W)(hb:Bq W y):Jrm w M I K H j ev sv ks y:=
 ⟨h.chk.below hb,h.kso,Jl h.own fun g e=>hb.block g (Je h.own e).2,h.sep,h.off,(hb.block _ (Jd h.plan)).trans h.plan,Jb h.low hb⟩
theorem Jyq.mid {w I Y bf M j ev ev' sv ks a c sch W w4}(h:Jyq w I Y bf M j ev sv ks a c sch W)Z(H:(W.alloc Z).grownBy w4 ev.ownBlock):
  w4.heap[w.heap.size+1]?=some (.cells #[I,ev] 170 (0,0))/\Jo (w4.setCell (Ar (w.heap.size+1) 1) ev') (w.heap.size+2) 22 sv (ks.map fun k=>Jbl k.1)/\w.heap.size+2<=w4.heap.size:=by
 have K:∀ g,ev.ownBlock=some g->w.heap.size+2<=g/\g<W.heap.size:=fun g e=>Je h.chk.own e;have bh:=H.size;rw[Oa7]at bh;have y:∀ k,k<W.heap.size->ev.ownBlock≠some k->w4.heap[k]?=W.heap[k]?:=fun k O U=>(H.block k (by rw[Oa7];omega) (Oc5 U)).trans (Oa9 _ _ _ O);refine⟨(y _ (Jd h.chk.ck) (fun e=>by have:=K _ e;omega)).trans h.chk.ck,Jl h.own fun g e=>?_,by have:=Jd h.chk.ck;omega⟩;have:=Je h.own e;rw[Oa4 _ _ _ _ zt];exact y g this.2 (h.sep g e)
theorem Kex (w:World)(u v:Value)(e:TypeId):∀ (j:Nat) (x:Value),[u,v][j]?=some x->(w.alloc (.cells #[u,v] e)).cell? ((⟨w.heap.size,0,none⟩:Addr).add j)=some x:=by
 intro j x y;have H:=heap_alloc_new w (.cells #[u,v] e);match j,y with
 |0,y=>cases y;unfold World.cell?;rw[show ((⟨w.heap.size,0,none⟩:Addr).add 0).block=w.heap.size from rfl,H];rfl
 |1,y=>cases y;unfold World.cell?;rw[show ((⟨w.heap.size,0,none⟩:Addr).add 1).block=w.heap.size from rfl,H];rfl
theorem Jrc (nb no bh:Nat)(y:List Nd)(K:Nat)(M:Array Value)(U:List (List Int))(O:Nat->Nat->Bool)w(bV:∀ j nd,y[j]?=some nd->Zm w nb (no+j*7) nd)(df:1<=y.length)(dg:y.length<=12)(cc:U.length=y.length)(cn:∀ j nd,y[j]?=some nd->Jvz w (.func (.func K) M #[]) U O nd j)(bZ:∀ j,O (j+1) j=false)(bY:∀ i,i+1<y.length->O y.length i=true):
  Cq 47 #[.agg #[Sr nb no y.length bh],.func (.func K) M #[]] w fun e w'=>∃ (bQ:List Sch) (sv:Value),e=.returned (.tuple #[sv,.nilIface])/\Bq w w'/\Jo w' (w.heap.size+2) 22 sv (bQ.map Jbl)/\bQ.map (·.2.2)=U/\∀ s∈bQ,Kc w' s.1 s.2.2/\∀ g o,s.1=some (Ar g o)->w.heap.size<=g:=by
 have bx:Hid ((∀ j nd,y[j]?=some nd->Zm w nb (no+j*7) nd)/\U.length=y.length/\(∀ j nd,y[j]?=some nd->Jvz w (.func (.func K) M #[]) U O nd j)/\(∀ j,O (j+1) j=false)/\∀ i,i+1<y.length->O y.length i=true):=⟨bV,cc,cn,bZ,bY⟩;have dl:=run_neq_nil_nil (P:=prog);have dm:∀ (a:Addr) (X:World),(store a (.func (.func K) M #[])).run prog X=stored prog X a (.func (.func K) M #[]) .plain:=fun a X=>run_store _ _ _ _ _ rfl;clear bV cc cn bZ bY;go_enter func47,ntmps47
 go_upto_region 5 with fail
 have bW:Jrm w (.func (.func K) M #[]) (Sr nb no y.length bh) U O 0 Sz Sz  [] ((w.alloc (.cells #[(Sr nb no y.length bh)] 60)).alloc (.cells #[(.func (.func K) M #[]),Sz] 170)):=by
  refine⟨⟨?_,⟨rfl,.inl ⟨rfl,rfl⟩⟩,fun k I=>(by cases I),fun k I=>(by cases I),zo⟩,⟨rfl,fun i k I=>(by simp at I),fun i k I=>(by simp at I)⟩,Jo.nil _ _ _,fun g e=>(by simp[Value.ownBlock]at e),fun k I=>(by cases I),?_,Jc (Jc (Oa5 _ _) _) _⟩
  ·have:=heap_alloc_new (w.alloc (.cells #[(Sr nb no y.length bh)] 60)) (.cells #[(.func (.func K) M #[]),Sz] 170);rw[Oa7]at this;exact this
  exact(Oa9 _ _ _ zS).trans (heap_alloc_new w _)
 have bI:Hid _:=bW;generalize (w.alloc (.cells #[(Sr nb no y.length bh)] 60)).alloc (.cells #[(.func (.func K) M #[]),Sz] 170)=cC at bI |-;have ds:cC.cell? (Aq w.heap.size)=some (Sr nb no y.length bh):=by simp[World.cell?,bI.out.plan]
 clear bW;go_wp2;go_loopw [7,34] (fun sv i wr=>∃ (j:Nat) (ev:Value) (ks:List Kn),j<=y.length/\i=Iq (j:Int)/\Jrm w (.func (.func K) M #[]) (Sr nb no y.length bh) U O j ev sv ks wr) (fun _ i _=>y.length-(intOf i).toNat)
 case atStart=>exact⟨0,_,_,Ob7 _,rfl,bI.out⟩
 case round=>
  obtain⟨j,ev,ks,di,rfl,H⟩:=hrel;have bR:Hid _:=H;have ca:=H.kso.len;obtain⟨dc,dd,bK⟩:=Jcz H.chk.own;obtain⟨cY,sc,bE⟩:=Jcz H.own;rw[Oa6]at bE;rw[ca]at bK bE;by_cases cf:j<y.length
  ·obtain⟨nd,bO⟩:∃ nd,y[j]?=some nd:=⟨_,Oa3 cf⟩;obtain⟨cz,cA,sch,cu,bX⟩:=bx.out.2.2.1 j nd bO;obtain⟨du,dv,dw,dx,dy,dA,dB⟩:=(bx.out.1 j nd bO).below H.low;have bA:Bq wr (Jam wr nd):=Jc (Oa5 _ _) _;have bM:∀ g,ev.ownBlock=some g->w.heap.size+2<=g/\g<wr.heap.size:=fun g e=>Je H.chk.own e;have cP:=Kbz (w.heap.size+1) nd (Jam wr nd) (fun X v w'=>∃ bf,bf.map (·.1)=ks.map (·.1)/\(∀ (i:Nat) (k:Kn),bf[i]?=some k->k.2=O (j+1) i)/\Jq3 (w.heap.size+2) (w.heap.size+1) (.func (.func K) M #[]) ev bf sch X (.returned v) w') cz cA (fun X bC=>by
    refine(bX X ev ks (Jb H.low (Jb bA bC)) (fun g e=>by have:=bM g e;omega) (H.chk.below (Jb bA bC)) H.kso).mono ?_;rintro e cZ ⟨bf,br,bj,a,c,rfl,bD,bk,hi,ho⟩;exact⟨_,_,rfl,⟨bf,br,bj,a,c,rfl,bD,bk,hi,ho⟩,bk.size,fun k bP bH=>bk.block k bH (fun e=>by have:=bM k e.symm;have:=bA.size;omega)⟩)
   have bi:Hid (U[j]?=some sch/\j<y.length/\Bq wr (Jam wr nd)):=⟨cu,cf,bA⟩;subst bK bE;obtain⟨cT,cN,cQ,cR,cS⟩:=info_parts Jw8;clear H bX bO cz cA cu bA bM;go_wp2_with (first|(go_at_call 67;refine cP.mono ?_;rintro cE bJ ⟨X,bC,v,rfl,bf,br,bj,a,c,hv,bD,bk,hi,ho⟩;injection hv with hv;subst hv;have Y:Hid (Jyq w (.func (.func K) M #[]) (Sr nb no y.length bh) U O j _ _ bf a c sch bJ):=bR.out.node (Jb bi.out.2.2 bC) br bj bi.out.1 bD bk hi ho;obtain⟨_,c1⟩:=Y.out.chk.cells;clear bD bk hi ho br bj)|(at_builtin;refine wpList_append_own_at _ zR _ _ 168 zR (w.heap.size+2) 173 cT _ 2 32 zK cN cQ cR cS zR zd _ _ _ zR (Jbm Y.out.chk.own _) ⟨bJ.heap.size,0,none⟩ 1 1 [Jbl (a,c,sch),.bool false] zR zR (by exact Kex bJ _ _ _) (by intro u bB;simp at bB;rcases bB with rfl|rfl<;>rfl) (by have:=Y.out.len;have:=bi.out;unfold maxLen;omega) (by have:=Y.out.len;have:=bi.out;omega) (by simp;have:=Jd Y.out.chk.ck;omega) ?_;intro ev' w4 bP bH _ cU;go_must (obtain⟨cy,m2,m3⟩:=Y.out.mid (ev':=ev') _ bH);go_must (obtain⟨bU,bS,cx⟩:=ownsRow_succ bP);obtain⟨bG,ci⟩:∃ bG,bG=bf.length+1:=⟨_,rfl⟩;rw[<-ci]at cx;clear ci;subst cx;have db:w4.cell? (Ar (w.heap.size+1) 1)=some _:=(by simp[World.cell?,cy];rfl);have de:w4.frozen? ⟨w.heap.size+1,1,none⟩=false:=(by simp[World.frozen?,cy]);have cv:(w4.setCell (Ar (w.heap.size+1) 1) (Sq bU bG bS)).heap.size=w4.heap.size:=(by simp[World.setCell]);have cj:=Ua (w4.setCell (Ar (w.heap.size+1) 1) (Sq bU bG bS)) (Jbl (a,c,sch)) 22;rw[cv]at cj)|(at_builtin;go_must (refine Ul zR _ _ 103 22 _ 24 Jzf zR zd zK zR (w.heap.size+2) _ _ zR (Jo.alloc m2 _) ⟨w4.heap.size,0,none⟩ 1 [Jbl (a,c,sch)] zR (by exact cj) (by intro u bB;simp at bB;subst bB;rfl) (by have:=Y.out.len;have:=bi.out;simp only[List.length_cons,List.length_nil,Oa6];omega) (by rw[Oa7,cv];omega) ?_);intro sv' dt cV cW cX;go_must (have cH:=Y.out.done (bx.out.2.2.2.1 j) _ _ bP bH cU cV cW cX)))
   go_roundw
   case rel=>exact⟨j+1,_,_,bi.out.2.1,rfl,cH⟩
   case measure=>have:=bi.out.2.1;simp[intOf];omega
  have bN:j=y.length:=zo;obtain⟨g,cap,Z,cL,cM,_⟩:=H.chk.at (i:=0) zo;rw[ca]at Z;have cb:∀ i,i<y.length-1->∃ s:Sch,wr.cell? (Ar g (i*2))=some (Jbl s)/\wr.cell? (Ar g (i*2+1))=some (.bool true):=fun i hi=>by
   obtain⟨cG,cD,bL,_,_,cF,bT,_⟩:=H.chk.at (i:=i) zo;rw[Z]at bL;simp only[On8,Oc9,Oh2,and_true]at bL;have bj:=H.kso.flg i ks[i] (Oa3 zo);have cK:O j i=true:=by rw[bN];exact bx.out.2.2.2.2 i zo
   rw[bj.trans cK]at bT;rw[bL.1];exact⟨_,cF,bT⟩
  obtain⟨m,br⟩:∃ m,y.length=m+1:=⟨y.length-1,zo⟩;have cO:=Jrx g cap m wr zo (fun i hi=>cb i zo);have cJ:m<=cap:=by
   rcases H.chk.own with⟨_,⟨h0,_⟩|⟨cG,cD,_,h0,_,_,dh,_⟩⟩
   ·rw[h0]at Z;cases Z
   rw[h0]at Z;simp only[On8,Oc9,Oh2,and_true]at Z;omega
  obtain⟨_,c1⟩:=H.chk.cells;rw[Z]at c1;have cB:Hid (ks.map (·.1.2.2)=U):=by
   show _=_;have hl:=bx.out.2.1;refine Oi8 fun i=>?_;rw[Ob1];cases hki:ks[i]? with
   |some k=>rw[H.kso.sch i k hki];rfl
   |none=>
    have:ks.length<=i:=List.getElem?_eq_none_iff.1 hki;exact(List.getElem?_eq_none_iff.2 zo).symm
  have dp:(y.length:Int)-1=(m:Int):=zo;have dq:(0:Int)<=(m:Int):=zo;have dr:(m:Int)<=(cap:Int):=zo;have dj:m<=11:=zo;subst bE;rw[bN]at c1 |-;clear cb Z bK H cL cM cJ br;go_wp2_with (go_at_call 68;refine cO.mono ?_;rintro cE da ⟨rfl,cI⟩)
  have bz:=bR.out.below cI;rw[bN]at bz;refine bodyPost_ret (v:=.tuple #[.slice cY y.length sc,.nilIface]) (by simp[results,results47,go_sem]) rfl ⟨ks.map (·.1),_,rfl,bz.low,?_,?_,fun s hs=>?_⟩
  ·rw[Oi6];exact bz.own
  ·rw[Oi6];exact cB.out
  obtain⟨k,I,rfl⟩:=Of0.1 hs;exact⟨bz.chk.ints k I,fun g o e=>(bz.off k I g o e).2⟩
attribute [local go_sem] Oc0
abbrev Dn:=Option (Nat×List (Option Addr×Nat)×List (List V))
def Kut (hs:List (Option Addr×Nat))(n:Nat):Nat:=match hs[n]? with|none=>n|some x=>x.2
theorem Kuk {hs n}(h:hs.length<=n):Kut hs n=n:=by
 unfold Kut;rw[Ob4 h]
theorem Qd.cut {w g hs cs}(h:Qd w g hs cs):Qd w g (hs.take cs.length) cs/\∀ j,j<cs.length->Yo (hs.take cs.length) j=Yo hs j:=by
 have e:∀ j,j<cs.length->Yo (hs.take cs.length) j=Yo hs j:=fun j y=>by
  show (hs.take cs.length).getD j (none,0)=hs.getD j (none,0);rw[Oa0,Oa0,Oh3 y]
 exact⟨⟨h.row.congr fun j y=>by rw[e j y],fun j y=>by rw[e j y];exact h.vals j y,fun j y=>by rw[e j y];exact h.cap j y⟩,e⟩
def dnV (d:Dn):Value:=match d with|none=>Sz|some x=>Sq x.1 x.2.2.length (Kut x.2.1 x.2.2.length)
def Jfk (rb:Nat)(y:Value)(x:Nat×List (Option Addr×Nat)×List (List V))(W:World):Prop:=Qd W x.1 x.2.1 x.2.2/\Jbo x.1 x.2.1 x.2.2.length (fun b=>b≠rb/\y.ownBlock≠some b/\b<W.heap.size)
structure Jd6 (L rb:Nat) (z bu bl:Int) (se tp dp sc dv:Value) (ds:List Dn) (W:World):Prop where
 run:Jck W rb z (Iq bu) (Iq bl) se tp dp sc dv
 own:Jo W L 84 dv (ds.map dnV)
 cols:∀ x,some x∈ds->Jfk rb dv x W
 low:rb<L
theorem Qd.blocks {W y g hs cs}(h:Qd W g hs cs)(H:W.heap.size<=y.heap.size)(hF:Jbo g hs cs.length fun b=>y.heap[b]?=W.heap[b]?):Qd y g hs cs:=
 h.kp (Fx:=fun b=>y.heap[b]?=W.heap[b]?) ⟨H,fun _ h=>h⟩ hF
theorem Jfk.move {rb M O x W I}(h:Jfk rb M x W)(K:W.heap.size<=I.heap.size)(H:∀ b,b≠rb->M.ownBlock≠some b->b<W.heap.size->I.heap[b]?=W.heap[b]?/\O.ownBlock≠some b):Jfk rb O x I:=
 ⟨h.1.blocks K ⟨(H _ h.2.1.1 h.2.1.2.1 h.2.1.2.2).1,fun j y b o e=>(H b (h.2.2 j y b o e).1 (h.2.2 j y b o e).2.1 (h.2.2 j y b o e).2.2).1⟩,⟨h.2.1.1,(H _ h.2.1.1 h.2.1.2.1 h.2.1.2.2).2,Oc2 h.2.1.2.2 K⟩,fun j y b o e=>⟨(h.2.2 j y b o e).1,(H b (h.2.2 j y b o e).1 (h.2.2 j y b o e).2.1 (h.2.2 j y b o e).2.2).2,Oc2 (h.2.2 j y b o e).2.2 K⟩⟩
theorem Jfk.below {rb H x W y}(h:Jfk rb H x W)(hb:Bq W y):Jfk rb H x y:=h.move hb.size fun b _ I K=>⟨hb.block b K,I⟩
theorem Jd6.below {L rb z bu bl M O H sc K I W y}(h:Jd6 L rb z bu bl M O H sc K I W)(hb:Bq W y):Jd6 L rb z bu bl M O H sc K I y:=
 ⟨h.run.below hb,Jl h.own fun g e=>hb.block g (Je h.own e).2,fun x U=>(h.cols x U).below hb,h.low⟩
theorem Jd6.more {L rb z bu bl O U K sc y H Y W w4 x}(h:Jd6 L rb z bu bl O U K sc y Y W)(bD:Jfk rb y x W)bk(br:Jo w4 L 84 H (Y.map dnV++[dnV (some x)]))(bx:(W.alloc bk).grownBy w4 y.ownBlock)(bz:H.ownBlock=y.ownBlock\/H.ownBlock=some (W.alloc bk).heap.size):
  Jd6 L rb z bu bl O U K sc H (Y++[some x]) (w4.setCell (Ar rb 7) H)/\Jck w4 rb z (Iq bu) (Iq bl) O U K sc y:=by
 have bA:∀ g,y.ownBlock=some g->L<=g/\g<W.heap.size:=fun g e=>Je h.own e;have bB:∀ g,H.ownBlock=some g->L<=g/\g<w4.heap.size:=fun g e=>Je br e;have hl:=h.low;have bE:=bx.size;rw[Oa7]at bE bz;have bf:∀ k,k<W.heap.size->y.ownBlock≠some k->w4.heap[k]?=W.heap[k]?:=fun k Z M=>(bx.block k (by rw[Oa7];omega) (Oc5 M)).trans (Oa9 _ _ _ Z);have bi:Jck w4 rb z (Iq bu) (Iq bl) O U K sc y:=(bf rb (Jd h.run) (fun e=>by have:=bA _ e;omega)).trans h.run;have bj:=Jk bi 7 H;simp only[Oa1,List.set_cons_zero,List.set_cons_succ]at bj;have bh:∀ I,Jfk rb y I W->Jfk rb H I (w4.setCell (Ar rb 7) H):=fun I hy=>hy.move (by simp[World.setCell];omega) fun b Z M bC=>⟨(Oa4 _ _ _ _ Z).trans (bf b bC M),fun e=>by
  rcases bz with q|q
  ·exact M (q.symm.trans e)
  rw[q]at e;cases e;omega⟩
 refine⟨⟨bj,?_,fun I hy=>?_,hl⟩,bi⟩
 ·rw[Ob8];exact Jl br fun g e=>Oa4 _ _ _ _ (by have:=bB g e;simp;omega)
 rw[Od2,Oc6]at hy;rcases hy with hy|hy
 ·exact bh I (h.cols I hy)
 cases hy
 exact bh x bD
def Kxl (W:World)(H:List Dn)(x:Nat×List (Option Addr×Nat)×List (List V)):Prop:=∀ F:Nat->Prop,(∀ k,F k->k<W.heap.size)->(∀ y,some y∈H->Jbo y.1 y.2.1 y.2.2.length fun b=>¬ F b)->Jbo x.1 x.2.1 x.2.2.length fun b=>¬ F b
theorem Kxl.new {W y x}(h:Jbo x.1 x.2.1 x.2.2.length fun b=>W.heap.size<=b):Kxl W y x:=fun F hF _=>⟨fun e=>by have:=hF _ e;have:=h.1;omega,fun j I b o e H=>by have:=hF _ H;have:=h.2 j I b o e;omega⟩
def Ju1 (w:World)(L rb:Nat)(z bu bl:Int)(U Y O sc:Value)(M:Nat->List Dn->Prop)(bf:Nat->Value->World->Prop)(nd:Nd)(j:Nat):Prop:=
 0<=nd.op/\nd.op<=7/\∀ W H y,Bq w W->(∀ g,H.ownBlock=some g->w.heap.size<=g)->Jd6 L rb z bu bl U Y O sc H y W->y.length=j->M j y ->
  Cq (Jej nd.op) #[Pq rb,nd.val] W fun e I=>W.grownBy I H.ownBlock /\
   ((∃ (x:Nat×List (Option Addr×Nat)×List (List V)) (K:List Dn),e=.returned (.tuple #[dnV (some x),.nilIface])/\Jd6 L rb z bu bl U Y O sc H K I/\Jfk rb H x I/\K.length=j/\M (j+1) (K++[some x])/\Kxl W y x/\∀ Z,some Z∈K->some Z∈y) \/
    (∃ (ty b:Nat),e=.returned (.tuple #[Sz,.iface ty (Pq b)])/\bf j (.iface ty (Pq b)) I))
attribute [local go_sem] Oc0
theorem Jzj:(prog.info? 84).map (fun i=>(i.zero,i.size,i.bytes))=some (some Sz,1,24):=zK
attribute [local go_sem] Oc0
theorem Jd6.take {L rb:Nat}{z bu bl:Int}{bz bA bk sc I H W}(h:Jd6 L rb z bu bl bz bA bk sc I H W){i:Nat}{x}(hi:H[i]?=some (some x)):
  ∃ y U,I=Sq y H.length U/\i<H.length/\L<=y/\y<W.heap.size/\W.cell? (Ar y i)=some (Sq x.1 x.2.2.length (Kut x.2.1 x.2.2.length))/\W.frozen? ⟨y,i,none⟩=false/\Jfk rb I x W /\
   ∀ O,W.grownBy O (some y)->O.heap[y]?=Jdc W y i->Jd6 L rb z bu bl bz bA bk sc I (H.set i none) O:=by
 have bE:i<H.length:=(Ob9.1 hi).1;have hl:=h.low;rcases h.own with⟨bL,⟨M,Y⟩|⟨y,U,bj,M,Y,Z,bx,bI,bJ,bi⟩⟩
 ·rw[Oa6]at Y;omega
 rw[Oa6]at M bx;have bD:bj[i]?=some (dnV (some x)):=by
  have K:(H.map dnV)[i]?=some (dnV (some x)):=by rw[Ob1,hi];rfl
  rw[<-bi,Oe7]at K;split at K
  ·rw[Oe6]at K;exact K
  cases K
 have bG:some x∈H:=Of6 hi;have hob:I.ownBlock=some y:=by rw[M];rfl
 refine⟨y,U,M,bE,Y,Jd Z,?_,by simp[World.frozen?,Z],h.cols x bG,fun O bh bf=>?_⟩
 ·simp only[World.cell?,Z];exact bD
 have hs:=Jk Z i Sz;unfold Jdc at bf;rw[hs]at bf;refine⟨(bh.block rb (Jd h.run) (fun e=>by cases e;omega)).trans h.run,⟨?_,.inr ⟨y,U,bj.setIfInBounds i Sz,?_,Y,bf,?_,bI,?_,?_⟩⟩,fun bB hy=>?_,hl⟩
 ·rw[Oa6,Of8];omega
 ·rw[Oa6,Of8];exact M
 ·rw[Oa6,Of8];exact bx
 ·simpa using bJ
 ·rw[Oa6,Of8,Ok0,List.take_set];rw[Oa6]at bi;rw[bi,Op0];rfl
 have bH:some bB∈H:=by
  rcases List.mem_or_eq_of_mem_set hy with h|h
  ·exact h
  ·cases h
 exact(h.cols bB bH).move bh.size fun b bK br bC=>⟨bh.block b bC (fun e=>br (hob.trans e.symm)),br⟩
theorem Jgr {y w w'}(h:Ju (·=y) w w'):w.grownBy w' (some y):=⟨h.os,h.tape,h.output,h.size,fun k H I=>h.block k H fun e=>I (by rw[show k=y from e])⟩
def slH (v:Value):Option Addr×Nat:=match v with|.slice a _ c=>(a,c)|_=>(none,0)
theorem Jo6 {w B g H cs}(h:Jar w B g H cs):Qd w g (H.map slH) cs/\∀ j,j<cs.length->∀ b o,(Yo (H.map slH) j).1=some (Ar b o)->B<=b/\b<w.heap.size:=by
 have U:∀ j,j<cs.length->Yo (H.map slH) j=slH (Uq H j):=fun j y=>by
  unfold Yo Uq;rw[Oa0,Oa0,Ob1,Oa3 (by rw[h.len];exact y)];rfl
 have I:∀ j,j<cs.length->Uq H j=.slice (Yo (H.map slH) j).1 (cs.getD j []).length (Yo (H.map slH) j).2/\Jv w (Yo (H.map slH) j).1 (cs.getD j [])/\(cs.getD j []).length<=(Yo (H.map slH) j).2:=fun j y=>by
  obtain⟨a,cap,e,hv⟩:=(h.own j y).vals;rw[U j y,e];refine⟨rfl,hv,?_⟩;rcases h.own j y with⟨_,⟨K,M⟩|⟨Z,Y,_,K,_,_,O,_⟩⟩
  ·rw[M];exact Ob7 _
  rw[e]at K;cases K
  exact O
 refine⟨⟨?_,fun j y=>(I j y).2.1,fun j y=>(I j y).2.2⟩,fun j y b o e=>?_⟩
 ·rw[<-h.len];exact(Kud h.row).congr fun j y=>(I j (by rw[<-h.len];exact y)).1
 refine Je (h.own j y) ?_;rw[(I j y).1,e];rfl
theorem Kdz {L rb s:Nat}{z bu bl:Int}{Y K sc H}{Z:List Dn}{W}(h:Jd6 L rb z bu bl Y (Pq s) K sc H Z W)(nd:Nd)cols(br:∀ X,Bq W X->Cq 30 #[Pq s,.string nd.tn] X fun e w'=>Bq X w'/\∃ g y,e=.returned (.tuple #[Sq g cols.length cols.length,.nilIface])/\Jar w' X.heap.size g y cols):
  Cq 91 #[Pq rb,nd.val] W fun bf I=>Bq W I/\∃ (g:Nat) (hs:List (Option Addr×Nat)),bf=.returned (.tuple #[dnV (some (g,hs,cols)),.nilIface])/\Jd6 L rb z bu bl Y (Pq s) K sc H Z I/\Jfk rb H (g,hs,cols) I/\Jbo g hs cols.length fun b=>W.heap.size<=b:=by
 have:=Jos rb s z (Iq bu) (Iq bl) Y K sc H nd.op nd.l nd.r nd.tn (.slice nd.xs.1 nd.xs.2.1 nd.xs.2.2) (.slice nd.ky.1 nd.ky.2.1 nd.ky.2.2) nd.kk W (fun X a b w'=>∃ g y,a=Sq g cols.length cols.length/\b=.nilIface/\Jar w' X.heap.size g y cols) h.run (fun X O=>(br X O).mono fun e w' hp=>by
  obtain⟨bj,g,y,rfl,bk⟩:=hp;exact⟨bj,_,_,rfl,g,y,rfl,rfl,bk⟩)
 refine this.mono fun bf I hp=>?_;obtain⟨hb,X,O,a,b,rfl,g,y,rfl,rfl,M⟩:=hp;obtain⟨hC,bi⟩:=Jo6 M;have bA:=O.size;have bx:=M.low;have bz:=Jd h.run;have bh:∀ k,H.ownBlock=some k->k<W.heap.size:=fun k e=>(Je h.own e).2;refine⟨hb,g,y.map slH,by simp only[dnV];rw[Kuk (by rw[Oa6,M.len];exact Oa2 _)],h.below hb,⟨hC,⟨zo,fun e=>by have:=bh _ e;omega,hC.row.lt⟩,fun j U b o e=>?_⟩,zo,fun j U b o e=>by have:=bi j U b o e;omega⟩;have:=bi j U b o e;exact⟨zo,fun e=>by have:=bh _ e;omega,this.2⟩
end
open Go.RowKit Go.Shelf Go.Maps
attribute [local go_sem] Oc0
structure Kn7 (sch:List Int) (k:Krv):Prop where
 c:k.c<sch.length
 f:k.f<=5
 t:k.f=3->sch.getD k.c 0=1
def tyK (sch:List Int)(k:Krv):Int:=if k.f=1\/k.f=2\/k.f=3 then 1 else sch.getD k.c 0
