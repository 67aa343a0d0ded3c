/- The type of an expression, as the program tells it. -/
import Derived.Test.YtnlnlamdilifcaaGreatDoorVa
import Derived.Test.YtnlnlamdilifcaaGreatDoorXp
set_option maxHeartbeats 1000000
set_option maxRecDepth 100000
namespace Go.Proofs.YtnlnlamdilifcaaGreatDoor
section
open Go.RowKit Go.Shelf
attribute [local go_sem] Oc0
def Jbk (sch:List Int)(es:List Pt):Int:=(es.map (tyP sch)).getD (es.length-1) 0
end
section
open Go.RowKit Go.Shelf Tryz
attribute [local go_sem] Oc0
theorem Kbe n w G s d Ts sv bs(h:Jfl w G s d Ts sv bs)k(Y:Ub Ts n=k)(Z:k<Ts.length)(H:Ts[k].types≠[])(hl:Ts[k].types.length<=1000):
  Cq 48 #[Pq s,.string n] w fun e w'=>Bq w w'/\∃ g c,e=.returned (.tuple #[Sq g Ts[k].types.length c,.bool true])/\w.heap.size<=g/\g<w'.heap.size/\Kc w' (some (Aq g)) Ts[k].types:=by
 have O:=Jo8 n w G s d Ts sv bs h;have U:Jhc Ts n=(k:Int):=by unfold Jhc;rw[Y,if_pos Z]
 rw[U]at O;obtain⟨b,o,bf,c2,ht⟩:=h.at Z;obtain⟨_,c1⟩:=h.field;obtain⟨a,cap,bh,_⟩:=h.own.cells;rw[Oa6,h.len]at bh;subst bh;simp at bf;subst bf;have bG:=h.few;generalize bs[k]'_=tk at c2 ht;generalize Ts[k]=T at ht H hl |-;obtain⟨ta,tc,bJ,sc,hs,K⟩:=ht;have I:=K.types;have c3:w.cell? (Ar tk 1)=some (.slice ta T.types.length tc):=by simp[World.cell?,K.cells]
 obtain⟨b2,bA,rfl,_,_⟩:=Kc.at I (i:=0) (Oi9.2 H);have M:=fun W (hb:Bq w W)=>Jhe b2 bA tc T.types W H hl (I.below hb);have bH:(0:Int)<=(k:Int):=zo;have bI:(k:Int)<(Ts.length:Int):=zo;have bi:Hid _:=M;clear K I Y U h M;go_enter func48,ntmps48
 go_wp2_with (first|(go_at_call 41;refine O.mono ?_;rintro e bj ⟨rfl,y⟩;have bC:=Ja y c1;have bD:=Ja y c2;have bE:=Ja y c3)|(go_at_call 45;refine(bi.out bj y).mono ?_;rintro e bB ⟨bk,g,gc,rfl,br,bx,bz⟩))
 go_ret2
 exact⟨Jb y bk,g,gc,rfl,Ob2 y.size br,bx,bz⟩
abbrev Sch:=Option Addr×Nat×List Int
abbrev Jbl (s:Sch):Value:=.slice s.1 s.2.2.length s.2.1
abbrev Kn:=Sch×Bool
def knC (k:Kn):List Value:=[Jbl k.1,.bool k.2]
theorem Jx7 (k:Kn):(knC k).length=2:=rfl
structure Jed (L cb:Nat) (tf ev:Value) (ks:List Kn) (W:World):Prop where
 ck:W.heap[cb]?=some (.cells #[tf,ev] 170 (0,0))
 own:W.ownsRow L 173 2 ev ks.length (ks.flatMap knC)
 ints:∀ k∈ks,Kc W k.1.1 k.1.2.2
 off:∀ k∈ks,∀ g o,k.1.1=some (Ar g o)->ev.ownBlock≠some g/\g≠cb/\g<W.heap.size
 low:cb<L
theorem Jed.below {L I K ev ks W H}(h:Jed L I K ev ks W)(hb:Bq W H):Jed L I K ev ks H:=
 ⟨(hb.block _ (Jd h.ck)).trans h.ck,Jl h.own fun g e=>hb.block g (Je h.own e).2,fun k y=>(h.ints k y).below hb,fun k y g o e=>⟨(h.off k y g o e).1,(h.off k y g o e).2.1,Oc2 (h.off k y g o e).2.2 hb.size⟩,h.low⟩
theorem Jed.cells {L y H ev ks W}(h:Jed L y H ev ks W):W.cell? (Aq y)=some H/\W.cell? (Ar y 1)=some ev:=by
 have:=h.ck;constructor<;>simp[World.cell?,this]
theorem Jed.at {L K bx ev ks W}(h:Jed L K bx ev ks W){i}(hi:i<ks.length):
  ∃ g cap,ev=Sq g ks.length cap/\g≠K/\g<W.heap.size/\W.cell? (Ar g (i*2))=some (Jbl ks[i].1)/\W.cell? (Ar g (i*2+1))=some (.bool ks[i].2)/\W.frozen? ⟨g,i*2+1,none⟩=false /\
   (∀ b,Jed L K bx ev (ks.set i (ks[i].1,b)) (W.setCell (Ar g (i*2+1)) (.bool b))):=by
 have hl:=h.low;rcases h.own with⟨h0,⟨M,bf⟩|⟨g,cap,Z,M,bf,I,bC,bD,bE,bh⟩⟩
 ·omega
 have bj:∀ j,j<2->Z[i*2+j]?=(knC ks[i])[j]?:=fun j bG=>by
  have:=Jek knC 2 Jx7 ks i j ks[i] (Oa3 hi) bG;rw[<-bh,Oe7,if_pos zo,Oe6]at this;exact this
 refine⟨g,cap,M,zo,Jd I,?_,?_,?_,fun b=>?_⟩
 ·have:=bj 0 zo;simp[World.cell?,I];simpa [knC] using this
 ·have:=bj 1 zo;simp[World.cell?,I];simpa [knC] using this
 ·simp[World.frozen?,I]
 have hs:=Jk I (i*2+1) (.bool b);have br:∀ k,k≠g->(W.setCell (Ar g (i*2+1)) (.bool b)).heap[k]?=W.heap[k]?:=fun k y=>Oa4 _ _ _ _ y;have bk:∀ k∈ks.set i (ks[i].1,b),∃ H∈ks,k.1=H.1:=fun k y=>by
  rcases List.mem_or_eq_of_mem_set y with h|h
  ·exact⟨k,h,rfl⟩
  exact⟨ks[i],Ob3 hi,by rw[h]⟩
 have hob:ev.ownBlock=some g:=by rw[M];rfl
 have bi:(ks.set i (ks[i].1,b)).flatMap knC=(ks.flatMap knC).set (i*2+1) (.bool b):=by
  have bA:ks=ks.take i++ks[i]::ks.drop (i+1):=by rw[<-Oi1 hi,Ok3]
  have U:ks.set i (ks[i].1,b)=ks.take i++(ks[i].1,b)::ks.drop (i+1):=by
   rw[On0,if_pos hi]
  have hlen:((ks.take i).flatMap knC).length=i*2:=by rw[Kci knC 2 Jx7,Oc7,Oj1 zo]
  rw[U,Oe8,Og7];conv=>rhs;rw[bA,Oe8,Og7]
  rw[Ok4 _ _ (by rw[hlen];omega),hlen,show i*2+1-i*2=1 by omega];rfl
 refine⟨(br K zo).trans h.ck,⟨?_,.inr ⟨g,cap,Z.setIfInBounds (i*2+1) (.bool b),?_,bf,hs,?_,bD,?_,?_⟩⟩,fun k y=>?_,fun k y bB o e=>?_,hl⟩
 ·rw[bi,Of8,Of8];exact h0
 ·rw[Of8];exact M
 ·rw[Of8];exact bC
 ·simpa using bE
 ·rw[bi,<-bh,Of8,Ok0,List.take_set]
 ·obtain⟨H,O,e⟩:=bk k y;rw[e];exact(h.ints H O).of_block (by simp[World.setCell]) fun Y bH bz _=>br Y fun hb=>(h.off H O Y bH bz).1 (by rw[hob,hb])
 obtain⟨H,O,U⟩:=bk k y;rw[U]at e;have:=h.off H O bB o e;exact⟨this.1,this.2.1,by simpa [World.setCell] using this.2.2⟩
theorem Jr1 L y O ev ks i W(h:Jed L y O ev ks W)(hi:i<ks.length)(M:ks[i].2=false):
  Cq 145 #[Pq y,Iq (i:Int)] W fun e I=>e=.returned (.tuple #[Jbl ks[i].1,.nilIface])/\Jed L y O ev (ks.set i (ks[i].1,true)) I/\W.grownBy I ev.ownBlock/\I.heap.size=W.heap.size:=by
 obtain⟨g,cap,rfl,Y,bf,U,z1,z2,H⟩:=h.at hi;obtain⟨_,c1⟩:=h.cells;have H:=H true;have K:Hid _:=H;have bh:(W.setCell (Ar g (i*2+1)) (.bool true)).cell? (Ar y 1)=some (Sq g ks.length cap):=Uc (fun e=>Y (congrArg Addr.block e)) c1;have Z:(W.setCell (Ar g (i*2+1)) (.bool true)).cell? (Ar g (i*2))=some (Jbl ks[i].1):=Uc (fun e=>by have:=congrArg Addr.off e;simp at this) U;generalize ks[i].1=s at U Z K |-;rw[M]at z1;have bi:(0:Int)<=(i:Int):=zo;have bj:(i:Int)<(ks.length:Int):=zo;clear H M h;go_enter func145,ntmps145
 go_wp2;exact bodyPost_ret (v:=.tuple #[Jbl s,.nilIface]) (by simp[results,results145,go_sem]) rfl ⟨rfl,K.out,Ka4 ⟨rfl,rfl,rfl,Oa2 _,fun _ _ _=>rfl⟩ _ _,by simp[World.setCell]⟩
attribute [local go_sem] Oc0
def Jq3 (L H:Nat)(K ev:Value)(I:List Kn)(sch:List Int)(W:World):Ending->World->Prop:=fun e y=>
 ∃ (a:Option Addr) (c:Nat),e=.returned (.tuple #[Jbl (a,c,sch),.nilIface])/\Jed L H K ev I y/\W.grownBy y ev.ownBlock/\Kc y a sch/\∀ g o,a=some (Ar g o)->ev.ownBlock≠some g/\g≠H/\g<y.heap.size/\(W.heap.size<=g\/∃ k∈I,k.1.1=some (Ar g o))
abbrev Jam (w:World)(nd:Nd):World:=(w.alloc (.cells #[Iq nd.op,Iq nd.l,Iq nd.r,.string nd.tn,.slice nd.xs.1 nd.xs.2.1 nd.xs.2.2,.slice nd.ky.1 nd.ky.2.1 nd.ky.2.2,Iq nd.kk] 54))
theorem Jh0 w nd:Zm (Jam w nd) w.heap.size 0 nd:=by
 have:=heap_alloc_new w (.cells #[Iq nd.op,Iq nd.l,Iq nd.r,.string nd.tn,.slice nd.xs.1 nd.xs.2.1 nd.xs.2.2,.slice nd.ky.1 nd.ky.2.1 nd.ky.2.2,Iq nd.kk] 54);refine⟨?_,?_,?_,?_,?_,?_,?_⟩<;>(unfold World.cell?;rw[this];rfl)
theorem Kc7 (L H s:Nat)ev(ks:List Kn)(nd:Nd)(sch:List Int)w(h:Jed L H (.func (.func 48) #[Pq s] #[]) ev ks w)(U:∀ X,Bq w X->Cq 48 #[Pq s,.string nd.tn] X fun e w'=>Bq X w'/\∃ g c,e=.returned (.tuple #[Sq g sch.length c,.bool true])/\X.heap.size<=g/\g<w'.heap.size/\Kc w' (some (Aq g)) sch):
  Cq 114 #[Pq H,nd.val] w (Jq3 L H (.func (.func 48) #[Pq s] #[]) ev ks sch w):=by
 have Y:Hid _:=U;have I:Hid _:=h;obtain⟨c0,_⟩:=h.cells;have M:Bq w (Jam w nd):=Jc (Oa5 _ _) _;obtain⟨_,_,_,b3,_,_,_⟩:=Jh0 w nd;clear h U;go_enter func114,ntmps114
 go_upto_region 1 with fail
 refine wp_region_held_drew (S:=fun X=>X.cell? (Aq H)=some (.func (.func 48) #[Pq s] #[])/\X.cell? (Ar w.heap.size 3)=some (.string nd.tn)) zK ⟨Jh (Kf c0),Jh b3⟩ (fun y=>?_);refine tkj 0 rfl y ?_;refine tkj 1 rfl y ?_;refine tkj 2 rfl y ?_;refine tkj 3 rfl y ?_;refine tkj 4 rfl y ?_;refine tkj 5 rfl y ?_;refine tkn ?_;refine tkr 6 rfl fun Z hK=>?_;go_simp;refine(Y.out (Jam w nd).drew (Jj M)).mono ?_;rintro e bf ⟨K,g,gc,rfl,bh,bi,bj⟩;go_simp;refine hK.out _ _ ⟨Ja K y.1,Ja K y.2⟩ (fun y=>?_);clear hK Z;refine tkj 7 rfl y ?_;refine tkj 8 rfl y ?_;refine tkj 9 rfl y ?_;refine tkj 10 rfl y ?_;refine tkj 11 rfl y ?_;refine tkn ?_;refine wpAnyH_done zK ?_ _;have O:Bq w bf:=Jb (Jj M) K;have bk:w.heap.size<g:=by have:(Jam w nd).drew.heap.size=w.heap.size+1:=(by simp[World.drew]);omega
 clear bh;go_wp2;refine bodyPost_ret (v:=.tuple #[Jbl (some (Aq g),gc,sch),.nilIface]) (by simp[results,results114,go_sem]) rfl ⟨some (Aq g),gc,rfl,I.out.below O,Qq O,bj,fun br o e=>?_⟩;cases e
 exact⟨fun e=>by have:=(Je I.out.own e).2;omega,by have:=Jd I.out.ck;omega,bi,.inl (Nat.le_of_lt bk)⟩
def Jm5 (op:Int):Nat:=if op=0 then 114 else if op=1 then 115 else if op=2 then 116 else if op=3 then 117 else if op=4 then 118 else if op=5 then 119 else if op=6 then 120 else 121
abbrev Jwq (y:Nat):Array Value:=#[.func (.func 114) #[Pq y] #[],.func (.func 115) #[Pq y] #[],.func (.func 116) #[Pq y] #[],.func (.func 117) #[Pq y] #[],.func (.func 118) #[Pq y] #[],.func (.func 119) #[Pq y] #[],.func (.func 120) #[Pq y] #[],.func (.func 121) #[Pq y] #[]]
theorem Jvy op args W:(callFunc (Jm5 op) args).run prog W=.ok (.enter (Jm5 op) args) W:=by
 unfold Jm5;repeat' split
 all_goals kernel_rfl
theorem Kgg y n(H:n<8):(Jwq y)[n]?=some (.func (.func (Jm5 (n:Int))) #[Pq y] #[]):=by
 have:n=0\/n=1\/n=2\/n=3\/n=4\/n=5\/n=6\/n=7:=zo;rcases this with rfl|rfl|rfl|rfl|rfl|rfl|rfl|rfl<;>rfl
theorem Jxd y w:Cq 90 #[Pq y] w fun e w'=>e=.returned (.agg (Jwq y))/\Bq w w':=by
 have H:∀ (f:Nat) (a:Addr) (W:World),(store a (.func (.func f) #[Pq y] #[])).run prog W=stored prog W a (.func (.func f) #[Pq y] #[]) .plain:=fun f a W=>run_store _ _ _ _ _ rfl;go_enter func90,ntmps90
 go_wp2;exact bodyPost_ret (v:=.agg (Jwq y)) (by simp[results,results90,go_sem]) rfl ⟨rfl,(by repeat (first|exact Oa5 _ _|refine Jc ?_ _|refine Jj ?_))⟩
theorem Kbz (H:Nat)(nd:Nd)w(Q:World->Value->World->Prop)(h0:0<=nd.op)(bP:nd.op<=7)(bD:∀ X,Bq w X->Cq (Jm5 nd.op) #[Pq H,nd.val] X fun e w'=>∃ a b,e=.returned (.tuple #[a,b])/\Q X (.tuple #[a,b]) w'/\X.heap.size<=w'.heap.size/\∀ k,w.heap.size<=k->k<X.heap.size->w'.heap[k]?=X.heap[k]?):
  Cq 67 #[Pq H,nd.val] w fun e w'=>∃ X,Bq w X/\∃ v,e=.returned v/\Q X v w':=by
 have bf:Hid _:=bD;clear bD;obtain⟨n,O⟩:∃ n:Nat,nd.op=(n:Int):=⟨nd.op.toNat,zo⟩;have bS:n<8:=zo;have bK:=zh O;clear O h0 bP;have bT:∀ (f:Nat) (a:Addr) (X:World),(store a (.func (.func f) #[Pq H] #[])).run prog X=stored prog X a (.func (.func f) #[Pq H] #[]) .plain:=fun f a X=>run_store _ _ _ _ _ rfl;have br:Bq w (Jam w nd):=Jc (Oa5 _ _) _;have hq:=Jh0 w nd;have bC:=Jxd H (Jam w nd);go_enter func67,ntmps67
 go_upto_region 2 with(go_at_call 90;refine bC.mono ?_;rintro e I ⟨rfl,Z⟩)
 have O:=bK.out;have bh:Bq I (I.alloc (.cells (Jwq H) 210)):=Jc (Oa5 _ _) _;have Y:=heap_alloc_new I (.cells (Jwq H) 210);have bE:=(hq.below Z).below bh;have bi:Bq w (I.alloc (.cells (Jwq H) 210)):=Jb (Jb br Z) bh;have bz:w.heap.size<I.heap.size:=Oc2 zS Z.size;obtain⟨kb,bA⟩:∃ kb,kb=I.heap.size:=⟨_,rfl⟩;rw[<-bA]at Y bz |-;clear bA;generalize I.alloc (.cells (Jwq H) 210)=M at Y bE bi |-;obtain⟨bj,z1,z2,bG,bH,bI,bJ⟩:=bE;simp only[Od0]at z1 z2 bG bH bI bJ;rw[O]at bj;have bB:M.cell? (Ar kb n)=some (.func (.func (Jm5 nd.op)) #[Pq H] #[]):=by
  have:=Kgg H n bS;rw[<-O]at this;rw[<-this];simp only[World.cell?,Y];rfl
 have bQ:=Jvy nd.op;obtain⟨f,bx⟩:∃ f,f=Jm5 nd.op:=⟨_,rfl⟩;rw[<-bx]at bB bQ bf;rw[Nd.val,O]at bf;have bX:(0:Int)<=(n:Int):=zo;have bY:(n:Int)<8:=zo;have bR:kb<M.heap.size:=Jd Y;have U:w.heap.size<M.heap.size:=by have:=Jm bj;exact this
 clear bx O bh Z bC hq Y br bT I;go_upto_region 4 with fail
 refine wp_region_held_drew (S:=fun X=>X.cell? (Aq w.heap.size)=some (Iq (n:Int))/\X.cell? (Ar w.heap.size 1)=some (Iq nd.l)/\X.cell? (Ar w.heap.size 2)=some (Iq nd.r)/\X.cell? (Ar w.heap.size 3)=some (.string nd.tn)/\X.cell? (Ar w.heap.size 4)=some (.slice nd.xs.1 nd.xs.2.1 nd.xs.2.2)/\X.cell? (Ar w.heap.size 5)=some (.slice nd.ky.1 nd.ky.2.1 nd.ky.2.2)/\X.cell? (Ar w.heap.size 6)=some (Iq nd.kk)/\X.cell? (Ar kb n)=some (.func (.func f) #[Pq H] #[])) zK ⟨Jh bj,Jh z1,Jh z2,Jh bG,Jh bH,Jh bI,Jh bJ,Jh bB⟩ (fun y=>?_);refine tkj 0 rfl y ?_;refine tkj 1 rfl y ?_;refine tkj 2 rfl y ?_;refine tkj 3 rfl y ?_;refine tkj 4 rfl y ?_;refine tkn ?_;refine tkr 5 rfl fun bL hK=>?_;go_simp;refine(bf.out M.drew (Jj bi)).mono ?_;rintro e bk ⟨bV,rb,rfl,hQ,bW,bU⟩;have K:∀ (g o:Nat) (u:Value),w.heap.size<=g->g<M.heap.size->M.drew.cell? (Ar g o)=some u->bk.cell? (Ar g o)=some u:=fun g o u bM bN bO=>by
  rw[<-bO];unfold World.cell?;rw[show bk.heap[(⟨g,o,none⟩:Addr).block]?=M.drew.heap[(⟨g,o,none⟩:Addr).block]? from bU g bM bN]
 go_simp;refine hK.out _ _ ⟨K _ _ _ (Oa2 _) U y.1,K _ _ _ (Oa2 _) U y.2.1,K _ _ _ (Oa2 _) U y.2.2.1,K _ _ _ (Oa2 _) U y.2.2.2.1,K _ _ _ (Oa2 _) U y.2.2.2.2.1,K _ _ _ (Oa2 _) U y.2.2.2.2.2.1,K _ _ _ (Oa2 _) U y.2.2.2.2.2.2.1,K _ _ _ (Nat.le_of_lt bz) bR y.2.2.2.2.2.2.2⟩ (fun y=>?_);clear hK bL;refine tkj 6 rfl y ?_;refine tkj 7 rfl y ?_;refine tkj 8 rfl y ?_;refine tkj 9 rfl y ?_;refine tkn ?_;refine wpAnyH_done zK ?_ _;go_wp2;exact bodyPost_ret (v:=.tuple #[bV,rb]) (by simp[results,results67,go_sem]) rfl ⟨_,Jj bi,_,rfl,hQ⟩
end
open Go.RowKit Go.Shelf
attribute [local go_sem] Oc0
theorem Jmi {w W r g o nd}(h:Zm w g o nd)(H:w.grownBy W r)(hr:r≠some g):Zm W g o nd:=by
 have y:∀ o v,w.cell? (Ar g o)=some v->W.cell? (Ar g o)=some v:=fun o v hv=>by
  rw[<-hv];unfold World.cell?;rw[show W.heap[(⟨g,o,none⟩:Addr).block]?=w.heap[(⟨g,o,none⟩:Addr).block]? from H.block g (by have:=Jm hv;exact this) (Oc5 hr)]
 exact⟨y _ _ h.1,y _ _ h.2.1,y _ _ h.2.2.1,y _ _ h.2.2.2.1,y _ _ h.2.2.2.2.1,y _ _ h.2.2.2.2.2.1,y _ _ h.2.2.2.2.2.2⟩
