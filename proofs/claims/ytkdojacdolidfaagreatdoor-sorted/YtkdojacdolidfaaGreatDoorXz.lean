/- Plans that are right: the tables' types, the state of a check, take. -/
import Derived.Test.YtkdojacdolidfaaGreatDoorXs
set_option maxHeartbeats 4000000
set_option maxRecDepth 100000
namespace Go.Proofs.YtkdojacdolidfaaGreatDoor
section
open Go.RowKit Go.Shelf Tryz
attribute [local go_sem] Oc0
theorem Kbe n w G s d Ts sv bs(h:Jfl w G s d Ts sv bs)k(Y:Ub Ts n=k)(Z:k<Ts.length)(H:Ts[k].types≠[])(hl:Ts[k].types.length<=1000):
  Calls prog 34 #[.pointer (some ⟨s,0,none⟩),.string n] w fun e w'=>Below w.heap.size w w'/\∃ g c,e=.returned (.tuple #[.slice (some ⟨g,0,none⟩) Ts[k].types.length c,.bool true])/\w.heap.size<=g/\g<w'.heap.size/\Kc w' (some ⟨g,0,none⟩) Ts[k].types:=by
 have O:=Jo8 n w G s d Ts sv bs h;have U:Jhc Ts n=(k:Int):=by unfold Jhc;rw[Y,if_pos Z]
 rw[U]at O;obtain⟨b,o,bf,c2,ht⟩:=h.at Z;obtain⟨_,c1⟩:=h.field;obtain⟨a,cap,bh,_⟩:=h.own.cells;rw[Oa6,h.len]at bh;subst bh;simp at bf;subst bf;have bH:=h.few;generalize bs[k]'_=tk at c2 ht;generalize Ts[k]=T at ht H hl |-;obtain⟨bB,tc,bK,sc,hs,K⟩:=ht;have I:=K.types;have c3:w.cell? ⟨tk,1,none⟩=some (.slice bB T.types.length tc):=by simp[World.cell?,K.cells]
 obtain⟨b2,bA,rfl,_,_⟩:=Kc.at I (i:=0) (Oi9.2 H);have M:=fun W (hb:Below w.heap.size w W)=>Jhe b2 bA tc T.types W H hl (I.below hb);have bI:(0:Int)<=(k:Int):=zo;have bJ:(k:Int)<(Ts.length:Int):=zo;have bi:Hid _:=M;clear K I Y U h M;go_enter func34,ntmps34
 go_wp2_with (first|(go_at_call 47;refine O.mono ?_;rintro e bj ⟨rfl,y⟩;have bD:=Ja y c1;have bE:=Ja y c2;have bG:=Ja y c3)|(go_at_call 51;refine(bi.out bj y).mono ?_;rintro e bC ⟨bk,g,gc,rfl,br,bx,bz⟩))
 go_ret2
 exact⟨Jb y bk,g,gc,rfl,Ob2 y.size br,bx,bz⟩
abbrev Sch:=Option Addr×Nat×List Int
abbrev Jbl (s:Sch):Value:=.slice s.1 s.2.2.length s.2.1
abbrev Kn:=Sch×Bool
def knC (k:Kn):List Value:=[Jbl k.1,.bool k.2]
theorem Jx7 (k:Kn):(knC k).length=2:=rfl
structure Jed (L cb:Nat) (tf ev:Value) (ks:List Kn) (W:World):Prop where
 ck:W.heap[cb]?=some (.cells #[tf,ev] 136 (0,0))
 own:W.ownsRow L 140 2 ev ks.length (ks.flatMap knC)
 ints:∀ k∈ks,Kc W k.1.1 k.1.2.2
 off:∀ k∈ks,∀ g o,k.1.1=some ⟨g,o,none⟩->ev.ownBlock≠some g/\g≠cb/\g<W.heap.size
 low:cb<L
theorem Jed.below {L I K ev ks W H}(h:Jed L I K ev ks W)(hb:Below W.heap.size W H):Jed L I K ev ks H:=
 ⟨(hb.block _ (Jd h.ck)).trans h.ck,Jl h.own fun g e=>hb.block g (Je h.own e).2,fun k y=>(h.ints k y).below hb,fun k y g o e=>⟨(h.off k y g o e).1,(h.off k y g o e).2.1,Oc2 (h.off k y g o e).2.2 hb.size⟩,h.low⟩
theorem Jed.cells {L y H ev ks W}(h:Jed L y H ev ks W):W.cell? ⟨y,0,none⟩=some H/\W.cell? ⟨y,1,none⟩=some ev:=by
 have:=h.ck;constructor<;>simp[World.cell?,this]
theorem Jed.at {L K bx ev ks W}(h:Jed L K bx ev ks W){i}(hi:i<ks.length):
  ∃ g cap,ev=.slice (some ⟨g,0,none⟩) ks.length cap/\g≠K/\g<W.heap.size/\W.cell? ⟨g,i*2,none⟩=some (Jbl ks[i].1)/\W.cell? ⟨g,i*2+1,none⟩=some (.bool ks[i].2)/\W.frozen? ⟨g,i*2+1,none⟩=false /\
   (∀ b,Jed L K bx ev (ks.set i (ks[i].1,b)) (W.setCell ⟨g,i*2+1,none⟩ (.bool b))):=by
 have hl:=h.low;rcases h.own with⟨h0,⟨M,bf⟩|⟨g,cap,Z,M,bf,I,bC,bD,bE,bh⟩⟩
 ·omega
 have bj:∀ j,j<2->Z[i*2+j]?=(knC ks[i])[j]?:=fun j bG=>by
  have:=Jek knC 2 Jx7 ks i j ks[i] (Oa3 hi) bG;rw[<-bh,Oe7,if_pos zo,Oe6]at this;exact this
 refine⟨g,cap,M,zo,Jd I,?_,?_,?_,fun b=>?_⟩
 ·have:=bj 0 zo;simp[World.cell?,I];simpa [knC] using this
 ·have:=bj 1 zo;simp[World.cell?,I];simpa [knC] using this
 ·simp[World.frozen?,I]
 have hs:=Jk I (i*2+1) (.bool b);have br:∀ k,k≠g->(W.setCell ⟨g,i*2+1,none⟩ (.bool b)).heap[k]?=W.heap[k]?:=fun k y=>Oa4 _ _ _ _ y;have bk:∀ k∈ks.set i (ks[i].1,b),∃ H∈ks,k.1=H.1:=fun k y=>by
  rcases List.mem_or_eq_of_mem_set y with h|h
  ·exact⟨k,h,rfl⟩
  exact⟨ks[i],Ob3 hi,by rw[h]⟩
 have bH:ev.ownBlock=some g:=by rw[M];rfl
 have bi:(ks.set i (ks[i].1,b)).flatMap knC=(ks.flatMap knC).set (i*2+1) (.bool b):=by
  have bA:ks=ks.take i++ks[i]::ks.drop (i+1):=by rw[<-Oi1 hi,Ok3]
  have U:ks.set i (ks[i].1,b)=ks.take i++(ks[i].1,b)::ks.drop (i+1):=by
   rw[On0,if_pos hi]
  have hlen:((ks.take i).flatMap knC).length=i*2:=by rw[Kci knC 2 Jx7,Oc7,Oj1 zo]
  rw[U,Oe8,Og7];conv=>rhs;rw[bA,Oe8,Og7]
  rw[Ok4 _ _ (by rw[hlen];omega),hlen,show i*2+1-i*2=1 by omega];rfl
 refine⟨(br K zo).trans h.ck,⟨?_,.inr ⟨g,cap,Z.setIfInBounds (i*2+1) (.bool b),?_,bf,hs,?_,bD,?_,?_⟩⟩,fun k y=>?_,fun k y bB o e=>?_,hl⟩
 ·rw[bi,Of8,Of8];exact h0
 ·rw[Of8];exact M
 ·rw[Of8];exact bC
 ·simpa using bE
 ·rw[bi,<-bh,Of8,Ok0,List.take_set]
 ·obtain⟨H,O,e⟩:=bk k y;rw[e];exact(h.ints H O).of_block (by simp[World.setCell]) fun Y bI bz _=>br Y fun hb=>(h.off H O Y bI bz).1 (by rw[bH,hb])
 obtain⟨H,O,U⟩:=bk k y;rw[U]at e;have:=h.off H O bB o e;exact⟨this.1,this.2.1,by simpa [World.setCell] using this.2.2⟩
theorem Jr1 L y O ev ks i W(h:Jed L y O ev ks W)(hi:i<ks.length)(M:ks[i].2=false):
  Calls prog 131 #[.pointer (some ⟨y,0,none⟩),.int .i64 (i:Int)] W fun e I=>e=.returned (.tuple #[Jbl ks[i].1,.nilIface])/\Jed L y O ev (ks.set i (ks[i].1,true)) I/\W.grownBy I ev.ownBlock/\I.heap.size=W.heap.size:=by
 obtain⟨g,cap,rfl,Y,bf,U,z1,z2,H⟩:=h.at hi;obtain⟨_,c1⟩:=h.cells;have H:=H true;have K:Hid _:=H;have bh:(W.setCell ⟨g,i*2+1,none⟩ (.bool true)).cell? ⟨y,1,none⟩=some (.slice (some ⟨g,0,none⟩) ks.length cap):=Uc (fun e=>Y (congrArg Addr.block e)) c1;have Z:(W.setCell ⟨g,i*2+1,none⟩ (.bool true)).cell? ⟨g,i*2,none⟩=some (Jbl ks[i].1):=Uc (fun e=>by have:=congrArg Addr.off e;simp at this) U;generalize ks[i].1=s at U Z K |-;rw[M]at z1;have bi:(0:Int)<=(i:Int):=zo;have bj:(i:Int)<(ks.length:Int):=zo;clear H M h;go_enter func131,ntmps131
 go_wp2;exact bodyPost_ret (v:=.tuple #[Jbl s,.nilIface]) (by simp[results,results131,go_sem]) rfl ⟨rfl,K.out,Ka4 ⟨rfl,rfl,rfl,Oa2 _,fun _ _ _=>rfl⟩ _ _,by simp[World.setCell]⟩
attribute [local go_sem] Oc0
def Jq3 (L H:Nat)(K ev:Value)(I:List Kn)(sch:List Int)(W:World):Ending->World->Prop:=fun e y=>
 ∃ (a:Option Addr) (c:Nat),e=.returned (.tuple #[Jbl (a,c,sch),.nilIface])/\Jed L H K ev I y/\W.grownBy y ev.ownBlock/\Kc y a sch/\∀ g o,a=some ⟨g,o,none⟩->ev.ownBlock≠some g/\g≠H/\g<y.heap.size/\(W.heap.size<=g\/∃ k∈I,k.1.1=some ⟨g,o,none⟩)
abbrev Jam (w:World)(nd:Nd):World:=(w.alloc (.cells #[.int .i64 nd.op,.int .i64 nd.l,.int .i64 nd.r,.string nd.tn,.slice nd.xs.1 nd.xs.2.1 nd.xs.2.2,.slice nd.ky.1 nd.ky.2.1 nd.ky.2.2,.int .i64 nd.kk] 48))
theorem Jh0 w nd:Zm (Jam w nd) w.heap.size 0 nd:=by
 have:=heap_alloc_new w (.cells #[.int .i64 nd.op,.int .i64 nd.l,.int .i64 nd.r,.string nd.tn,.slice nd.xs.1 nd.xs.2.1 nd.xs.2.2,.slice nd.ky.1 nd.ky.2.1 nd.ky.2.2,.int .i64 nd.kk] 48);refine⟨?_,?_,?_,?_,?_,?_,?_⟩<;>(unfold World.cell?;rw[this];rfl)
theorem Kc7 (L H s:Nat)ev(ks:List Kn)(nd:Nd)(sch:List Int)w(h:Jed L H (.func (.func 34) #[.pointer (some ⟨s,0,none⟩)] #[]) ev ks w)(U:∀ X,Below w.heap.size w X->Calls prog 34 #[.pointer (some ⟨s,0,none⟩),.string nd.tn] X fun e w'=>Below X.heap.size X w'/\∃ g c,e=.returned (.tuple #[.slice (some ⟨g,0,none⟩) sch.length c,.bool true])/\X.heap.size<=g/\g<w'.heap.size/\Kc w' (some ⟨g,0,none⟩) sch):
  Calls prog 98 #[.pointer (some ⟨H,0,none⟩),nd.val] w (Jq3 L H (.func (.func 34) #[.pointer (some ⟨s,0,none⟩)] #[]) ev ks sch w):=by
 have Y:Hid _:=U;have I:Hid _:=h;obtain⟨c0,_⟩:=h.cells;have M:Below w.heap.size w (Jam w nd):=Jc (Oa5 _ _) _;obtain⟨_,_,_,b3,_,_,_⟩:=Jh0 w nd;clear h U;go_enter func98,ntmps98
 go_upto_region 1 with fail
 refine wp_region_held_drew (S:=fun X=>X.cell? ⟨H,0,none⟩=some (.func (.func 34) #[.pointer (some ⟨s,0,none⟩)] #[])/\X.cell? ⟨w.heap.size,3,none⟩=some (.string nd.tn)) zK ⟨Jh (Kf c0),Jh b3⟩ (fun y=>?_);refine tkj 0 rfl y ?_;refine tkj 1 rfl y ?_;refine tkj 2 rfl y ?_;refine tkj 3 rfl y ?_;refine tkj 4 rfl y ?_;refine tkj 5 rfl y ?_;refine tkn ?_;refine tkr 6 rfl fun Z hK=>?_;go_simp;refine(Y.out (Jam w nd).drew (Jj M)).mono ?_;rintro e bf ⟨K,g,gc,rfl,bh,bi,bj⟩;go_simp;refine hK.out _ _ ⟨Ja K y.1,Ja K y.2⟩ (fun y=>?_);clear hK Z;refine tkj 7 rfl y ?_;refine tkj 8 rfl y ?_;refine tkj 9 rfl y ?_;refine tkj 10 rfl y ?_;refine tkj 11 rfl y ?_;refine tkn ?_;refine wpAnyH_done zK ?_ _;have O:Below w.heap.size w bf:=Jb (Jj M) K;have bk:w.heap.size<g:=by have:(Jam w nd).drew.heap.size=w.heap.size+1:=(by simp[World.drew]);omega
 clear bh;go_wp2;refine bodyPost_ret (v:=.tuple #[Jbl (some ⟨g,0,none⟩,gc,sch),.nilIface]) (by simp[results,results98,go_sem]) rfl ⟨some ⟨g,0,none⟩,gc,rfl,I.out.below O,Qq O,bj,fun br o e=>?_⟩;cases e
 exact⟨fun e=>by have:=(Je I.out.own e).2;omega,by have:=Jd I.out.ck;omega,bi,.inl (Nat.le_of_lt bk)⟩
def Jm5 (op:Int):Nat:=if op=0 then 98 else if op=1 then 99 else if op=2 then 100 else if op=3 then 101 else if op=4 then 102 else if op=5 then 103 else if op=6 then 104 else 105
abbrev Jwq (y:Nat):Array Value:=#[.func (.func 98) #[.pointer (some ⟨y,0,none⟩)] #[],.func (.func 99) #[.pointer (some ⟨y,0,none⟩)] #[],.func (.func 100) #[.pointer (some ⟨y,0,none⟩)] #[],.func (.func 101) #[.pointer (some ⟨y,0,none⟩)] #[],.func (.func 102) #[.pointer (some ⟨y,0,none⟩)] #[],.func (.func 103) #[.pointer (some ⟨y,0,none⟩)] #[],.func (.func 104) #[.pointer (some ⟨y,0,none⟩)] #[],.func (.func 105) #[.pointer (some ⟨y,0,none⟩)] #[]]
theorem Jvy op args W:(callFunc (Jm5 op) args).run prog W=.ok (.enter (Jm5 op) args) W:=by
 unfold Jm5;repeat' split
 all_goals kernel_rfl
theorem Kgg y n(H:n<8):(Jwq y)[n]?=some (.func (.func (Jm5 (n:Int))) #[.pointer (some ⟨y,0,none⟩)] #[]):=by
 have:n=0\/n=1\/n=2\/n=3\/n=4\/n=5\/n=6\/n=7:=zo;rcases this with rfl|rfl|rfl|rfl|rfl|rfl|rfl|rfl<;>rfl
theorem Jxd y w:Calls prog 71 #[.pointer (some ⟨y,0,none⟩)] w fun e w'=>e=.returned (.agg (Jwq y))/\Below w.heap.size w w':=by
 have H:∀ (f:Nat) (a:Addr) (W:World),(store a (.func (.func f) #[.pointer (some ⟨y,0,none⟩)] #[])).run prog W=stored prog W a (.func (.func f) #[.pointer (some ⟨y,0,none⟩)] #[]) .plain:=fun f a W=>run_store _ _ _ _ _ rfl;go_enter func71,ntmps71
 go_wp2;exact bodyPost_ret (v:=.agg (Jwq y)) (by simp[results,results71,go_sem]) rfl ⟨rfl,(by repeat (first|exact Oa5 _ _|refine Jc ?_ _|refine Jj ?_))⟩
theorem Kbz (H:Nat)(nd:Nd)w(Q:World->Value->World->Prop)(h0:0<=nd.op)(bP:nd.op<=7)(bD:∀ X,Below w.heap.size w X->Calls prog (Jm5 nd.op) #[.pointer (some ⟨H,0,none⟩),nd.val] X fun e w'=>∃ a b,e=.returned (.tuple #[a,b])/\Q X (.tuple #[a,b]) w'/\X.heap.size<=w'.heap.size/\∀ k,w.heap.size<=k->k<X.heap.size->w'.heap[k]?=X.heap[k]?):
  Calls prog 52 #[.pointer (some ⟨H,0,none⟩),nd.val] w fun e w'=>∃ X,Below w.heap.size w X/\∃ v,e=.returned v/\Q X v w':=by
 have bf:Hid _:=bD;clear bD;obtain⟨n,O⟩:∃ n:Nat,nd.op=(n:Int):=⟨nd.op.toNat,zo⟩;have bS:n<8:=zo;have bK:=zh O;clear O h0 bP;have bT:∀ (f:Nat) (a:Addr) (X:World),(store a (.func (.func f) #[.pointer (some ⟨H,0,none⟩)] #[])).run prog X=stored prog X a (.func (.func f) #[.pointer (some ⟨H,0,none⟩)] #[]) .plain:=fun f a X=>run_store _ _ _ _ _ rfl;have br:Below w.heap.size w (Jam w nd):=Jc (Oa5 _ _) _;have hq:=Jh0 w nd;have bC:=Jxd H (Jam w nd);go_enter func52,ntmps52
 go_upto_region 2 with(go_at_call 71;refine bC.mono ?_;rintro e I ⟨rfl,Z⟩)
 have O:=bK.out;have bh:Below I.heap.size I (I.alloc (.cells (Jwq H) 175)):=Jc (Oa5 _ _) _;have Y:=heap_alloc_new I (.cells (Jwq H) 175);have bE:=(hq.below Z).below bh;have bi:Below w.heap.size w (I.alloc (.cells (Jwq H) 175)):=Jb (Jb br Z) bh;have bz:w.heap.size<I.heap.size:=Oc2 zS Z.size;obtain⟨kb,bA⟩:∃ kb,kb=I.heap.size:=⟨_,rfl⟩;rw[<-bA]at Y bz |-;clear bA;generalize I.alloc (.cells (Jwq H) 175)=M at Y bE bi |-;obtain⟨bj,z1,z2,bG,bH,bI,bJ⟩:=bE;simp only[Od0]at z1 z2 bG bH bI bJ;rw[O]at bj;have bB:M.cell? ⟨kb,n,none⟩=some (.func (.func (Jm5 nd.op)) #[.pointer (some ⟨H,0,none⟩)] #[]):=by
  have:=Kgg H n bS;rw[<-O]at this;rw[<-this];simp only[World.cell?,Y];rfl
 have bQ:=Jvy nd.op;obtain⟨f,bx⟩:∃ f,f=Jm5 nd.op:=⟨_,rfl⟩;rw[<-bx]at bB bQ bf;rw[Nd.val,O]at bf;have bX:(0:Int)<=(n:Int):=zo;have bY:(n:Int)<8:=zo;have bR:kb<M.heap.size:=Jd Y;have U:w.heap.size<M.heap.size:=by have:=Jm bj;exact this
 clear bx O bh Z bC hq Y br bT I;go_upto_region 4 with fail
 refine wp_region_held_drew (S:=fun X=>X.cell? ⟨w.heap.size,0,none⟩=some (.int .i64 (n:Int))/\X.cell? ⟨w.heap.size,1,none⟩=some (.int .i64 nd.l)/\X.cell? ⟨w.heap.size,2,none⟩=some (.int .i64 nd.r)/\X.cell? ⟨w.heap.size,3,none⟩=some (.string nd.tn)/\X.cell? ⟨w.heap.size,4,none⟩=some (.slice nd.xs.1 nd.xs.2.1 nd.xs.2.2)/\X.cell? ⟨w.heap.size,5,none⟩=some (.slice nd.ky.1 nd.ky.2.1 nd.ky.2.2)/\X.cell? ⟨w.heap.size,6,none⟩=some (.int .i64 nd.kk)/\X.cell? ⟨kb,n,none⟩=some (.func (.func f) #[.pointer (some ⟨H,0,none⟩)] #[])) zK ⟨Jh bj,Jh z1,Jh z2,Jh bG,Jh bH,Jh bI,Jh bJ,Jh bB⟩ (fun y=>?_);refine tkj 0 rfl y ?_;refine tkj 1 rfl y ?_;refine tkj 2 rfl y ?_;refine tkj 3 rfl y ?_;refine tkj 4 rfl y ?_;refine tkn ?_;refine tkr 5 rfl fun bL hK=>?_;go_simp;refine(bf.out M.drew (Jj bi)).mono ?_;rintro e bk ⟨bV,rb,rfl,hQ,bW,bU⟩;have K:∀ (g o:Nat) (u:Value),w.heap.size<=g->g<M.heap.size->M.drew.cell? ⟨g,o,none⟩=some u->bk.cell? ⟨g,o,none⟩=some u:=fun g o u bM bN bO=>by
  rw[<-bO];unfold World.cell?;rw[show bk.heap[(⟨g,o,none⟩:Addr).block]?=M.drew.heap[(⟨g,o,none⟩:Addr).block]? from bU g bM bN]
 go_simp;refine hK.out _ _ ⟨K _ _ _ (Oa2 _) U y.1,K _ _ _ (Oa2 _) U y.2.1,K _ _ _ (Oa2 _) U y.2.2.1,K _ _ _ (Oa2 _) U y.2.2.2.1,K _ _ _ (Oa2 _) U y.2.2.2.2.1,K _ _ _ (Oa2 _) U y.2.2.2.2.2.1,K _ _ _ (Oa2 _) U y.2.2.2.2.2.2.1,K _ _ _ (Nat.le_of_lt bz) bR y.2.2.2.2.2.2.2⟩ (fun y=>?_);clear hK bL;refine tkj 6 rfl y ?_;refine tkj 7 rfl y ?_;refine tkj 8 rfl y ?_;refine tkj 9 rfl y ?_;refine tkn ?_;refine wpAnyH_done zK ?_ _;go_wp2;exact bodyPost_ret (v:=.tuple #[bV,rb]) (by simp[results,results52,go_sem]) rfl ⟨_,Jj bi,_,rfl,hQ⟩
end
section
open Go.RowKit Go.Shelf
attribute [local go_sem] Oc0
theorem Jmi {w W r g o nd}(h:Zm w g o nd)(H:w.grownBy W r)(hr:r≠some g):Zm W g o nd:=by
 have y:∀ o v,w.cell? ⟨g,o,none⟩=some v->W.cell? ⟨g,o,none⟩=some v:=fun o v hv=>by
  rw[<-hv];unfold World.cell?;rw[show W.heap[(⟨g,o,none⟩:Addr).block]?=w.heap[(⟨g,o,none⟩:Addr).block]? from H.block g (by have:=Jm hv;exact this) (Oc5 hr)]
 exact⟨y _ _ h.1,y _ _ h.2.1,y _ _ h.2.2.1,y _ _ h.2.2.2.1,y _ _ h.2.2.2.2.1,y _ _ h.2.2.2.2.2.1,y _ _ h.2.2.2.2.2.2⟩
end
open Go.RowKit Go.Shelf Tryz
attribute [local go_sem] Oc0
theorem Jrx g cap n w(Y:n<=1000)(I:∀ i,i<n->∃ s:Sch,w.cell? ⟨g,i*2,none⟩=some (Jbl s)/\w.cell? ⟨g,i*2+1,none⟩=some (.bool true)):
  Calls prog 53 #[.slice (some ⟨g,0,none⟩) n cap,.func (.func 54) #[] #[]] w fun e w'=>e=.returned (.int .i64 (-1))/\Below w.heap.size w w':=by
 have M:Hid _:=I;clear I;go_enter func53,ntmps53
 go_wp2;go_loopw [8] (fun i wr=>∃ k:Nat,k<=n/\i=.int .i64 k/\Below w.heap.size w wr) (fun i _=>n-(intOf i).toNat)
 case atStart=>exact⟨0,Ob7 _,rfl,Oa5 _ _⟩
 case round=>
  obtain⟨k,I,rfl,y⟩:=hrel;by_cases K:k<n
  ·obtain⟨s,c0,c1⟩:=M.out k K;have O:=Ja y c0;have U:=Ja y c1;have H:=zh K;go_wp2;go_roundw
   case rel=>exact⟨k+1,H.out,by have:=H.out;go_num,Jc y _⟩
   case measure=>have:=H.out;simp[intOf];omega
  go_wp2;exact bodyPost_ret (v:=.int .i64 (-1)) (by simp[results,results53,go_sem]) rfl ⟨rfl,y⟩
structure Kh1 (scs:List (List Int)) (fl:Nat->Bool) (j:Nat) (ks:List Kn):Prop where
 len:ks.length=j
 sch:∀ (i:Nat) (k:Kn),ks[i]?=some k->scs[i]?=some k.1.2.2
 flg:∀ (i:Nat) (k:Kn),ks[i]?=some k->k.2=fl i
structure Jrm (w:World) (tf nv0:Value) (scs:List (List Int)) (fl:Nat->Nat->Bool) (j:Nat) (ev sv:Value) (ks:List Kn) (W:World):Prop where
 chk:Jed (w.heap.size+2) (w.heap.size+1) tf ev ks W
 kso:Kh1 scs (fl j) j ks
 own:Jo W (w.heap.size+2) 22 sv (ks.map fun k=>Jbl k.1)
 sep:∀ g,sv.ownBlock=some g->ev.ownBlock≠some g
 off:∀ k∈ks,∀ g o,k.1.1=some ⟨g,o,none⟩->sv.ownBlock≠some g/\w.heap.size<=g
 plan:W.heap[w.heap.size]?=some (.cells #[nv0] 57 (0,0))
 low:Below w.heap.size w W
def Jvz (w:World)(K:Value)(I:List (List Int))(H:Nat->Nat->Bool)(nd:Nd)(j:Nat):Prop:=
 0<=nd.op/\nd.op<=7/\∃ sch,I[j]?=some sch/\∀ W ev ks,Below w.heap.size w W->(∀ g,ev.ownBlock=some g->w.heap.size<=g)->Jed (w.heap.size+2) (w.heap.size+1) K ev ks W->Kh1 I (H j) j ks ->
  Calls prog (Jm5 nd.op) #[.pointer (some ⟨w.heap.size+1,0,none⟩),nd.val] W fun e M=>∃ y,y.map (·.1)=ks.map (·.1)/\(∀ (i:Nat) (k:Kn),y[i]?=some k->k.2=H (j+1) i)/\Jq3 (w.heap.size+2) (w.heap.size+1) K ev y sch W e M
theorem Jw8:(prog.info? 140).map (fun i=>(i.zero,i.size,i.bytes))=some (some (.agg #[.slice none 0 0,.bool false]),2,32):=zK
structure Jyq (w:World) (tf nv0:Value) (scs:List (List Int)) (fl:Nat->Nat->Bool) (j:Nat) (ev sv:Value) (ks:List Kn) (a:Option Addr) (c:Nat) (sch:List Int) (W:World):Prop where
 chk:Jed (w.heap.size+2) (w.heap.size+1) tf ev ks W
 len:ks.length=j
 sch1:∀ (i:Nat) (k:Kn),ks[i]?=some k->scs[i]?=some k.1.2.2
 sch2:scs[j]?=some sch
 flg:∀ (i:Nat) (k:Kn),ks[i]?=some k->k.2=fl (j+1) i
 own:Jo W (w.heap.size+2) 22 sv (ks.map fun k=>Jbl k.1)
 sep:∀ g,sv.ownBlock=some g->ev.ownBlock≠some g
 off:∀ k∈ks,∀ g o,k.1.1=some ⟨g,o,none⟩->sv.ownBlock≠some g/\w.heap.size<=g
 ints:Kc W a sch
 aoff:∀ g o,a=some ⟨g,o,none⟩->ev.ownBlock≠some g/\g≠w.heap.size+1/\g<W.heap.size/\sv.ownBlock≠some g/\w.heap.size<=g
 plan:W.heap[w.heap.size]?=some (.cells #[nv0] 57 (0,0))
 low:Below w.heap.size w W
theorem Jrm.node {w bx bB br bf j ev sv ks I W X O sch}(h:Jrm w bx bB br bf j ev sv ks W)(hb:Below W.heap.size W X)(Z:I.map (·.1)=ks.map (·.1))(bE:∀ (i:Nat) (k:Kn),I[i]?=some k->k.2=bf (j+1) i)(hs:br[j]?=some sch){a c}(bD:Jed (w.heap.size+2) (w.heap.size+1) bx ev I O)(bG:X.grownBy O ev.ownBlock)(hi:Kc O a sch)(ho:∀ g o,a=some ⟨g,o,none⟩->ev.ownBlock≠some g/\g≠w.heap.size+1/\g<O.heap.size/\(X.heap.size<=g\/∃ k∈I,k.1.1=some ⟨g,o,none⟩)):Jyq w bx bB br bf j ev sv I a c sch O:=by
 have bj:=Ut (Qq hb) bG;have bk:∀ k∈I,∃ H∈ks,k.1=H.1:=fun k y=>by
  have:k.1∈ks.map (·.1):=by rw[<-Z];exact List.mem_map_of_mem y
  obtain⟨H,K,M⟩:=Of0.1 this;exact⟨H,K,M.symm⟩
 have bH:I.length=ks.length:=by have:=congrArg List.length Z;simpa using this
 have bI:I.map (fun k=>Jbl k.1)=ks.map fun k=>Jbl k.1:=by
  have:=congrArg (List.map Jbl) Z;rw[Oi6,Oi6]at this;exact this
 have bA:∀ g,ev.ownBlock=some g->w.heap.size+2<=g:=fun g e=>(Je h.chk.own e).1;refine⟨bD,bH.trans h.kso.len,fun i k y=>?_,hs,bE,?_,h.sep,fun k y g o e=>?_,hi,fun g o e=>?_,?_,?_⟩
 ·have:(ks.map (·.1))[i]?=some k.1:=by rw[<-Z,Ob1,y];rfl
  rw[Ob1,Oe9]at this;obtain⟨H,K,M⟩:=this;rw[<-M];exact h.kso.sch i H K
 ·unfold Jo;rw[bI];exact Jl h.own fun g e=>bj.block g (Je h.own e).2 (Oc5 (h.sep g e))
 ·obtain⟨H,K,M⟩:=bk k y;rw[M]at e;exact h.off H K g o e
 ·obtain⟨K,M,bC,Y⟩:=ho g o e;refine⟨K,M,bC,fun bz=>?_,?_⟩
  ·rcases Y with Y|⟨k,y,U⟩
   ·have:=(Je h.own bz).2;have:=hb.size;omega
   obtain⟨H,bh,bi⟩:=bk k y;rw[bi]at U;exact(h.off H bh g o U).1 bz
  rcases Y with Y|⟨k,y,U⟩
  ·have:=h.low.size;have:=hb.size;omega
  obtain⟨H,bh,bi⟩:=bk k y;rw[bi]at U;exact(h.off H bh g o U).2
 ·rw[bj.block _ (Jd h.plan) (fun e=>by have:=bA _ e.symm;omega)];exact h.plan
 exact Jy h.low bj fun k y=>by have:=bA k y;omega
theorem Jyq.done {w bB bL bM bi j ev ev' sv sv' ks a c sch W w4 M}(h:Jyq w bB bL bM bi j ev sv ks a c sch W)(bQ:bi (j+1) j=false)bx bz(q1:w4.ownsRow (w.heap.size+2) 140 2 ev' (ks.length+1) (ks.flatMap knC++[Jbl (a,c,sch),.bool false]))(q2:(W.alloc bx).grownBy w4 ev.ownBlock)(Y:ev'.ownBlock=ev.ownBlock\/ev'.ownBlock=some (W.alloc bx).heap.size)(bR:Jo M (w.heap.size+2) 22 sv' ((ks.map fun k=>Jbl k.1)++[Jbl (a,c,sch)]))(r2:((w4.setCell ⟨w.heap.size+1,1,none⟩ ev').alloc bz).grownBy M sv.ownBlock)(Z:sv'.ownBlock=sv.ownBlock\/sv'.ownBlock=some ((w4.setCell ⟨w.heap.size+1,1,none⟩ ev').alloc bz).heap.size):
  Jrm w bB bL bM bi (j+1) ev' sv' (ks++[((a,c,sch),false)]) M:=by
 have bf:∀ g,ev.ownBlock=some g->w.heap.size+2<=g/\g<W.heap.size:=fun g e=>Je h.chk.own e;have O:∀ g,sv.ownBlock=some g->w.heap.size+2<=g/\g<W.heap.size:=fun g e=>Je h.own e;have bh:∀ g,ev'.ownBlock=some g->w.heap.size+2<=g/\g<w4.heap.size:=fun g e=>Je q1 e;have bS:=q2.size;have bN:=r2.size;rw[Oa7]at bS bN Y Z;have U:(w4.setCell ⟨w.heap.size+1,1,none⟩ ev').heap.size=w4.heap.size:=by simp[World.setCell]
 rw[U]at bN Z;have bC:∀ k,k<W.heap.size->ev.ownBlock≠some k->w4.heap[k]?=W.heap[k]?:=fun k H K=>(q2.block k (by rw[Oa7];omega) (Oc5 K)).trans (Oa9 _ _ _ H);have bD:∀ k,k<w4.heap.size->k≠w.heap.size+1->sv.ownBlock≠some k->M.heap[k]?=w4.heap[k]?:=fun k H K bj=>(r2.block k (by rw[Oa7,U];omega) (Oc5 bj)).trans ((Oa9 _ _ _ (by rw[U];exact H)).trans (Oa4 _ _ _ _ K));have bE:∀ k,k<W.heap.size->ev.ownBlock≠some k->k≠w.heap.size+1->sv.ownBlock≠some k->M.heap[k]?=W.heap[k]?:=fun k H K bj bk=>(bD k zo bj bk).trans (bC k H K);have br:w4.heap[w.heap.size+1]?=_:=(bC _ (Jd h.chk.ck) (fun e=>by have:=bf _ e;omega)).trans h.chk.ck;have bH:=Jk br 1 ev';simp only[Oa1,List.set_cons_zero,List.set_cons_succ]at bH;have bP:M.heap[w.heap.size+1]?=some (.cells #[bB,ev'] 136 (0,0)):=by
  rw[r2.block _ (by rw[Oa7,U];have:=Jd br;omega) (fun e=>by have:=O _ e.symm;omega),Oa9 _ _ _ (by rw[U];exact Jd br)];exact bH
 have bJ:∀ g,ev.ownBlock≠some g->g<W.heap.size->ev'.ownBlock≠some g:=fun g H K e=>by
  rcases Y with q|q
  ·exact H (q.symm.trans e)
  rw[q]at e;cases e;omega
 have bK:∀ g,sv.ownBlock≠some g->g<W.heap.size->sv'.ownBlock≠some g:=fun g H K e=>by
  rcases Z with q|q
  ·exact H (q.symm.trans e)
  rw[q]at e;cases e;omega
 have bI:∀ (a:Option Addr) (s:List Int),Kc W a s->(∀ g o,a=some ⟨g,o,none⟩->ev.ownBlock≠some g/\g≠w.heap.size+1/\sv.ownBlock≠some g)->Kc M a s:=fun a s hi ho=>hi.of_block zo fun b o e hl=>bE b hl (ho b o e).1 (ho b o e).2.1 (ho b o e).2.2;refine⟨⟨bP,?_,fun k y=>?_,fun k y g o e=>?_,h.chk.low⟩,⟨?_,fun i k y=>?_,fun i k y=>?_⟩,?_,fun g e I=>?_,fun k y g o e=>?_,?_,?_⟩
 ·rw[Oa8,List.length_singleton,Oe8,List.flatMap_singleton];refine Jl q1 fun g e=>bD g (bh g e).2 (by have:=bh g e;omega) (fun I=>?_);rcases Y with q|q
  ·exact h.sep g I (q.symm.trans e)
  rw[q]at e;cases e
  have:=O _ I;omega
 ·rw[Od2,Oc6]at y;rcases y with y|rfl
  ·exact bI _ _ (h.chk.ints k y) fun g o e=>⟨(h.chk.off k y g o e).1,(h.chk.off k y g o e).2.1,(h.off k y g o e).1⟩
  exact bI _ _ h.ints fun g o e=>⟨(h.aoff g o e).1,(h.aoff g o e).2.1,(h.aoff g o e).2.2.2.1⟩
 ·rw[Od2,Oc6]at y;rcases y with y|rfl
  ·have:=h.chk.off k y g o e;exact⟨bJ g this.1 this.2.2,this.2.1,zo⟩
  have:=h.aoff g o e;exact⟨bJ g this.1 this.2.2.1,this.2.1,zo⟩
 ·rw[Oa8,List.length_singleton,h.len]
 ·rw[Om7]at y;split at y
  ·exact h.sch1 i k y
  rename_i bT
  have hi:i=j:=by
   have:i-ks.length<1:=(Ob9.1 y).1;have:=h.len;omega
  subst hi;rw[h.len,Oe1]at y;cases y
  exact h.sch2
 ·rw[Om7]at y;split at y
  ·exact h.flg i k y
  have hi:i=j:=by
   have:i-ks.length<1:=(Ob9.1 y).1;have:=h.len;omega
  subst hi;rw[h.len,Oe1]at y;cases y
  exact bQ.symm
 ·rw[Ob8];exact bR
 ·rcases Z with q|q
  ·have bG:=q.symm.trans e;have:=O g bG;rcases Y with bA|bA
   ·exact h.sep g bG (bA.symm.trans I)
   rw[bA]at I;cases I;omega
  rw[q]at e;cases e
  have:=(bh _ I).2;omega
 ·rw[Od2,Oc6]at y;rcases y with y|rfl
  ·exact⟨bK g (h.off k y g o e).1 (h.chk.off k y g o e).2.2,(h.off k y g o e).2⟩
  exact⟨bK g (h.aoff g o e).2.2.2.1 (h.aoff g o e).2.2.1,(h.aoff g o e).2.2.2.2⟩
 ·rw[bE _ (Jd h.plan) (fun e=>by have:=bf _ e;omega) zo (fun e=>by have:=O _ e;omega)];exact h.plan
 have hl:=h.low;have bk:Below w.heap.size w w4:=Jy (Jc hl bx) q2 fun k y=>by have:=bf k y;omega
 have bO:Below w.heap.size w (w4.setCell ⟨w.heap.size+1,1,none⟩ ev'):=bk.setCell (p:=⟨w.heap.size+1,1,none⟩) zS _;exact Jy (Jc bO bz) r2 fun k y=>by have:=O k y;omega
theorem Jrm.below {w M I K H j ev sv ks W y}(h:Jrm w M I K H j ev sv ks W)(hb:Below W.heap.size W y):Jrm w M I K H j ev sv ks y:=
 ⟨h.chk.below hb,h.kso,Jl h.own fun g e=>hb.block g (Je h.own e).2,h.sep,h.off,(hb.block _ (Jd h.plan)).trans h.plan,Jb h.low hb⟩
theorem Jyq.mid {w H U Z K j ev ev' sv ks a c sch W w4}(h:Jyq w H U Z K j ev sv ks a c sch W)Y(q2:(W.alloc Y).grownBy w4 ev.ownBlock):
  w4.heap[w.heap.size+1]?=some (.cells #[H,ev] 136 (0,0))/\Jo (w4.setCell ⟨w.heap.size+1,1,none⟩ ev') (w.heap.size+2) 22 sv (ks.map fun k=>Jbl k.1)/\w.heap.size+2<=w4.heap.size:=by
 have I:∀ g,ev.ownBlock=some g->w.heap.size+2<=g/\g<W.heap.size:=fun g e=>Je h.chk.own e;have bf:=q2.size;rw[Oa7]at bf;have y:∀ k,k<W.heap.size->ev.ownBlock≠some k->w4.heap[k]?=W.heap[k]?:=fun k M O=>(q2.block k (by rw[Oa7];omega) (Oc5 O)).trans (Oa9 _ _ _ M);refine⟨(y _ (Jd h.chk.ck) (fun e=>by have:=I _ e;omega)).trans h.chk.ck,Jl h.own fun g e=>?_,by have:=Jd h.chk.ck;omega⟩;have:=Je h.own e;rw[Oa4 _ _ _ _ zt];exact y g this.2 (h.sep g e)
theorem Kex (w:World)(u v:Value)(e:TypeId):∀ (j:Nat) (x:Value),[u,v][j]?=some x->(w.alloc (.cells #[u,v] e)).cell? ((⟨w.heap.size,0,none⟩:Addr).add j)=some x:=by
 intro j x y;have H:=heap_alloc_new w (.cells #[u,v] e);match j,y with
 |0,y=>cases y;unfold World.cell?;rw[show ((⟨w.heap.size,0,none⟩:Addr).add 0).block=w.heap.size from rfl,H];rfl
 |1,y=>cases y;unfold World.cell?;rw[show ((⟨w.heap.size,0,none⟩:Addr).add 1).block=w.heap.size from rfl,H];rfl
theorem Jrc (nb no bh:Nat)(y:List Nd)(K:Nat)(M:Array Value)(U:List (List Int))(O:Nat->Nat->Bool)w(bT:∀ j nd,y[j]?=some nd->Zm w nb (no+j*7) nd)(dc:1<=y.length)(dd:y.length<=12)(ca:U.length=y.length)(ci:∀ j nd,y[j]?=some nd->Jvz w (.func (.func K) M #[]) U O nd j)(bX:∀ j,O (j+1) j=false)(bW:∀ i,i+1<y.length->O y.length i=true):
  Calls prog 33 #[.agg #[.slice (some ⟨nb,no,none⟩) y.length bh],.func (.func K) M #[]] w fun e w'=>∃ (bO:List Sch) (sv:Value),e=.returned (.tuple #[sv,.nilIface])/\Below w.heap.size w w'/\Jo w' (w.heap.size+2) 22 sv (bO.map Jbl)/\bO.map (·.2.2)=U/\∀ s∈bO,Kc w' s.1 s.2.2/\∀ g o,s.1=some ⟨g,o,none⟩->w.heap.size<=g:=by
 have bx:Hid ((∀ j nd,y[j]?=some nd->Zm w nb (no+j*7) nd)/\U.length=y.length/\(∀ j nd,y[j]?=some nd->Jvz w (.func (.func K) M #[]) U O nd j)/\(∀ j,O (j+1) j=false)/\∀ i,i+1<y.length->O y.length i=true):=⟨bT,ca,ci,bX,bW⟩;have dh:=run_neq_nil_nil (P:=prog);have di:∀ (a:Addr) (X:World),(store a (.func (.func K) M #[])).run prog X=stored prog X a (.func (.func K) M #[]) .plain:=fun a X=>run_store _ _ _ _ _ rfl;clear bT ca ci bX bW;go_enter func33,ntmps33
 go_upto_region 5 with fail
 have bU:Jrm w (.func (.func K) M #[]) (.slice (some ⟨nb,no,none⟩) y.length bh) U O 0 (.slice none 0 0) (.slice none 0 0) [] ((w.alloc (.cells #[(.slice (some ⟨nb,no,none⟩) y.length bh)] 57)).alloc (.cells #[(.func (.func K) M #[]),.slice none 0 0] 136)):=by
  refine⟨⟨?_,⟨rfl,.inl ⟨rfl,rfl⟩⟩,fun k I=>(by cases I),fun k I=>(by cases I),zo⟩,⟨rfl,fun i k I=>(by simp at I),fun i k I=>(by simp at I)⟩,Jo.nil _ _ _,fun g e=>(by simp[Value.ownBlock]at e),fun k I=>(by cases I),?_,Jc (Jc (Oa5 _ _) _) _⟩
  ·have:=heap_alloc_new (w.alloc (.cells #[(.slice (some ⟨nb,no,none⟩) y.length bh)] 57)) (.cells #[(.func (.func K) M #[]),.slice none 0 0] 136);rw[Oa7]at this;exact this
  exact(Oa9 _ _ _ zS).trans (heap_alloc_new w _)
 have bH:Hid _:=bU;generalize (w.alloc (.cells #[(.slice (some ⟨nb,no,none⟩) y.length bh)] 57)).alloc (.cells #[(.func (.func K) M #[]),.slice none 0 0] 136)=cA at bH |-;have dp:cA.cell? ⟨w.heap.size,0,none⟩=some (.slice (some ⟨nb,no,none⟩) y.length bh):=by simp[World.cell?,bH.out.plan]
 clear bU;go_wp2;go_loopw [7,34] (fun sv i wr=>∃ (j:Nat) (ev:Value) (ks:List Kn),j<=y.length/\i=.int .i64 (j:Int)/\Jrm w (.func (.func K) M #[]) (.slice (some ⟨nb,no,none⟩) y.length bh) U O j ev sv ks wr) (fun _ i _=>y.length-(intOf i).toNat)
 case atStart=>exact⟨0,_,_,Ob7 _,rfl,bH.out⟩
 case round=>
  obtain⟨j,ev,ks,df,rfl,H⟩:=hrel;have bP:Hid _:=H;have bY:=H.kso.len;obtain⟨cZ,da,bJ⟩:=Jcz H.chk.own;obtain⟨cV,sc,bE⟩:=Jcz H.own;rw[Oa6]at bE;rw[bY]at bJ bE;by_cases cb:j<y.length
  ·obtain⟨nd,bN⟩:∃ nd,y[j]?=some nd:=⟨_,Oa3 cb⟩;obtain⟨cx,cy,sch,cj,bV⟩:=bx.out.2.2.1 j nd bN;obtain⟨dr,ds,dt,du,dv,dw,dx⟩:=(bx.out.1 j nd bN).below H.low;have bA:Below wr.heap.size wr (Jam wr nd):=Jc (Oa5 _ _) _;have bL:∀ g,ev.ownBlock=some g->w.heap.size+2<=g/\g<wr.heap.size:=fun g e=>Je H.chk.own e;have cN:=Kbz (w.heap.size+1) nd (Jam wr nd) (fun X v w'=>∃ bf,bf.map (·.1)=ks.map (·.1)/\(∀ (i:Nat) (k:Kn),bf[i]?=some k->k.2=O (j+1) i)/\Jq3 (w.heap.size+2) (w.heap.size+1) (.func (.func K) M #[]) ev bf sch X (.returned v) w') cx cy (fun X bC=>by
    refine(bV X ev ks (Jb H.low (Jb bA bC)) (fun g e=>by have:=bL g e;omega) (H.chk.below (Jb bA bC)) H.kso).mono ?_;rintro e cW ⟨bf,br,bj,a,c,rfl,bD,bk,hi,ho⟩;exact⟨_,_,rfl,⟨bf,br,bj,a,c,rfl,bD,bk,hi,ho⟩,bk.size,fun k q1 q2=>bk.block k q2 (fun e=>by have:=bL k e.symm;have:=bA.size;omega)⟩)
   have bi:Hid (U[j]?=some sch/\j<y.length/\Below wr.heap.size wr (Jam wr nd)):=⟨cj,cb,bA⟩;subst bJ bE;obtain⟨cR,cL,cO,cP,cQ⟩:=info_parts Jw8;clear H bV bN cx cy cj bA bL;go_wp2_with (first|(go_at_call 52;refine cN.mono ?_;rintro cC bI ⟨X,bC,v,rfl,bf,br,bj,a,c,hv,bD,bk,hi,ho⟩;injection hv with hv;subst hv;have Y:Hid (Jyq w (.func (.func K) M #[]) (.slice (some ⟨nb,no,none⟩) y.length bh) U O j _ _ bf a c sch bI):=bP.out.node (Jb bi.out.2.2 bC) br bj bi.out.1 bD bk hi ho;obtain⟨_,c1⟩:=Y.out.chk.cells;clear bD bk hi ho br bj)|(at_builtin;refine wpList_append_own_at _ zR _ _ 134 zR (w.heap.size+2) 140 cR _ 2 32 zK cL cO cP cQ zR zd _ _ _ zR (Jbm Y.out.chk.own _) ⟨bI.heap.size,0,none⟩ 1 1 [Jbl (a,c,sch),.bool false] zR zR (by exact Kex bI _ _ _) (by intro u bB;simp at bB;rcases bB with rfl|rfl<;>rfl) (by have:=Y.out.len;have:=bi.out;unfold maxLen;omega) (by have:=Y.out.len;have:=bi.out;omega) (by simp;have:=Jd Y.out.chk.ck;omega) ?_;intro ev' w4 q1 q2 _ cS;go_must (obtain⟨cv,m2,m3⟩:=Y.out.mid (ev':=ev') _ q2);go_must (obtain⟨bS,bQ,cu⟩:=ownsRow_succ q1);obtain⟨bG,cc⟩:∃ bG,bG=bf.length+1:=⟨_,rfl⟩;rw[<-cc]at cu;clear cc;subst cu;have cY:w4.cell? ⟨w.heap.size+1,1,none⟩=some _:=(by simp[World.cell?,cv];rfl);have db:w4.frozen? ⟨w.heap.size+1,1,none⟩=false:=(by simp[World.frozen?,cv]);have cn:(w4.setCell ⟨w.heap.size+1,1,none⟩ (.slice (some ⟨bS,0,none⟩) bG bQ)).heap.size=w4.heap.size:=(by simp[World.setCell]);have cf:=Ua (w4.setCell ⟨w.heap.size+1,1,none⟩ (.slice (some ⟨bS,0,none⟩) bG bQ)) (Jbl (a,c,sch)) 22;rw[cn]at cf)|(at_builtin;go_must (refine Ul zR _ _ 93 22 _ 24 Jzf zR zd zK zR (w.heap.size+2) _ _ zR (Jo.alloc m2 _) ⟨w4.heap.size,0,none⟩ 1 [Jbl (a,c,sch)] zR (by exact cf) (by intro u bB;simp at bB;subst bB;rfl) (by have:=Y.out.len;have:=bi.out;simp only[List.length_cons,List.length_nil,Oa6];omega) (by rw[Oa7,cn];omega) ?_);intro sv' dq cT r2 cU;go_must (have cF:=Y.out.done (bx.out.2.2.2.1 j) _ _ q1 q2 cS cT r2 cU)))
   go_roundw
   case rel=>exact⟨j+1,_,_,bi.out.2.1,rfl,cF⟩
   case measure=>have:=bi.out.2.1;simp[intOf];omega
  have bM:j=y.length:=zo;obtain⟨g,cap,Z,cJ,cK,_⟩:=H.chk.at (i:=0) zo;rw[bY]at Z;have bZ:∀ i,i<y.length-1->∃ s:Sch,wr.cell? ⟨g,i*2,none⟩=some (Jbl s)/\wr.cell? ⟨g,i*2+1,none⟩=some (.bool true):=fun i hi=>by
   obtain⟨cE,cB,bK,_,_,cD,bR,_⟩:=H.chk.at (i:=i) zo;rw[Z]at bK;simp only[On8,Oc9,Oh2,and_true]at bK;have bj:=H.kso.flg i ks[i] (Oa3 zo);have cI:O j i=true:=by rw[bM];exact bx.out.2.2.2.2 i zo
   rw[bj.trans cI]at bR;rw[bK.1];exact⟨_,cD,bR⟩
  obtain⟨m,br⟩:∃ m,y.length=m+1:=⟨y.length-1,zo⟩;have cM:=Jrx g cap m wr zo (fun i hi=>bZ i zo);have cH:m<=cap:=by
   rcases H.chk.own with⟨_,⟨h0,_⟩|⟨cE,cB,_,h0,_,_,de,_⟩⟩
   ·rw[h0]at Z;cases Z
   rw[h0]at Z;simp only[On8,Oc9,Oh2,and_true]at Z;omega
  obtain⟨_,c1⟩:=H.chk.cells;rw[Z]at c1;have cz:Hid (ks.map (·.1.2.2)=U):=by
   show _=_;have hl:=bx.out.2.1;refine Oi8 fun i=>?_;rw[Ob1];cases hki:ks[i]? with
   |some k=>rw[H.kso.sch i k hki];rfl
   |none=>
    have:ks.length<=i:=List.getElem?_eq_none_iff.1 hki;exact(List.getElem?_eq_none_iff.2 zo).symm
  have dj:(y.length:Int)-1=(m:Int):=zo;have dl:(0:Int)<=(m:Int):=zo;have dm:(m:Int)<=(cap:Int):=zo;have dg:m<=11:=zo;subst bE;rw[bM]at c1 |-;clear bZ Z bJ H cJ cK cH br;go_wp2_with (go_at_call 53;refine cM.mono ?_;rintro cC cX ⟨rfl,cG⟩)
  have bz:=bP.out.below cG;rw[bM]at bz;refine bodyPost_ret (v:=.tuple #[.slice cV y.length sc,.nilIface]) (by simp[results,results33,go_sem]) rfl ⟨ks.map (·.1),_,rfl,bz.low,?_,?_,fun s hs=>?_⟩
  ·rw[Oi6];exact bz.own
  ·rw[Oi6];exact cz.out
  obtain⟨k,I,rfl⟩:=Of0.1 hs;exact⟨bz.chk.ints k I,fun g o e=>(bz.off k I g o e).2⟩
attribute [local go_sem] Oc0
abbrev Dn:=Option (Nat×List (Option Addr×Nat)×List (List V))
def Ku1 (hs:List (Option Addr×Nat))(n:Nat):Nat:=match hs[n]? with|none=>n|some x=>x.2
theorem Kuo {hs n}(h:hs.length<=n):Ku1 hs n=n:=by
 unfold Ku1;rw[Ob4 h]
theorem Qd.cut {w g hs cs}(h:Qd w g hs cs):Qd w g (hs.take cs.length) cs/\∀ j,j<cs.length->Yo (hs.take cs.length) j=Yo hs j:=by
 have e:∀ j,j<cs.length->Yo (hs.take cs.length) j=Yo hs j:=fun j y=>by
  show (hs.take cs.length).getD j (none,0)=hs.getD j (none,0);rw[Oa0,Oa0,Oh3 y]
 exact⟨⟨h.row.congr fun j y=>by rw[e j y],fun j y=>by rw[e j y];exact h.vals j y,fun j y=>by rw[e j y];exact h.cap j y⟩,e⟩
def dnV (d:Dn):Value:=match d with|none=>.slice none 0 0|some x=>.slice (some ⟨x.1,0,none⟩) x.2.2.length (Ku1 x.2.1 x.2.2.length)
def Jfk (rb:Nat)(y:Value)(x:Nat×List (Option Addr×Nat)×List (List V))(W:World):Prop:=Qd W x.1 x.2.1 x.2.2/\Jbo x.1 x.2.1 x.2.2.length (fun b=>b≠rb/\y.ownBlock≠some b/\b<W.heap.size)
structure Jd6 (L rb:Nat) (z bu bl:Int) (se tp dp sc dv:Value) (ds:List Dn) (W:World):Prop where
 run:Jck W rb z (.int .i64 bu) (.int .i64 bl) se tp dp sc dv
 own:Jo W L 78 dv (ds.map dnV)
 cols:∀ x,some x∈ds->Jfk rb dv x W
 low:rb<L
theorem Qd.blocks {W y g hs cs}(h:Qd W g hs cs)(H:W.heap.size<=y.heap.size)(hF:Jbo g hs cs.length fun b=>y.heap[b]?=W.heap[b]?):Qd y g hs cs:=
 h.kp (Fx:=fun b=>y.heap[b]?=W.heap[b]?) ⟨H,fun _ h=>h⟩ hF
theorem Jfk.move {rb M O x W I}(h:Jfk rb M x W)(K:W.heap.size<=I.heap.size)(H:∀ b,b≠rb->M.ownBlock≠some b->b<W.heap.size->I.heap[b]?=W.heap[b]?/\O.ownBlock≠some b):Jfk rb O x I:=
 ⟨h.1.blocks K ⟨(H _ h.2.1.1 h.2.1.2.1 h.2.1.2.2).1,fun j y b o e=>(H b (h.2.2 j y b o e).1 (h.2.2 j y b o e).2.1 (h.2.2 j y b o e).2.2).1⟩,⟨h.2.1.1,(H _ h.2.1.1 h.2.1.2.1 h.2.1.2.2).2,Oc2 h.2.1.2.2 K⟩,fun j y b o e=>⟨(h.2.2 j y b o e).1,(H b (h.2.2 j y b o e).1 (h.2.2 j y b o e).2.1 (h.2.2 j y b o e).2.2).2,Oc2 (h.2.2 j y b o e).2.2 K⟩⟩
theorem Jfk.below {rb H x W y}(h:Jfk rb H x W)(hb:Below W.heap.size W y):Jfk rb H x y:=h.move hb.size fun b _ I K=>⟨hb.block b K,I⟩
theorem Jd6.below {L rb z bu bl M O H sc K I W y}(h:Jd6 L rb z bu bl M O H sc K I W)(hb:Below W.heap.size W y):Jd6 L rb z bu bl M O H sc K I y:=
 ⟨h.run.below hb,Jl h.own fun g e=>hb.block g (Je h.own e).2,fun x U=>(h.cols x U).below hb,h.low⟩
theorem Jd6.more {L rb z bu bl O U K sc y H Y W w4 x}(h:Jd6 L rb z bu bl O U K sc y Y W)(bB:Jfk rb y x W)bk(q1:Jo w4 L 78 H (Y.map dnV++[dnV (some x)]))(q2:(W.alloc bk).grownBy w4 y.ownBlock)(br:H.ownBlock=y.ownBlock\/H.ownBlock=some (W.alloc bk).heap.size):
  Jd6 L rb z bu bl O U K sc H (Y++[some x]) (w4.setCell ⟨rb,7,none⟩ H)/\Jck w4 rb z (.int .i64 bu) (.int .i64 bl) O U K sc y:=by
 have bx:∀ g,y.ownBlock=some g->L<=g/\g<W.heap.size:=fun g e=>Je h.own e;have bz:∀ g,H.ownBlock=some g->L<=g/\g<w4.heap.size:=fun g e=>Je q1 e;have hl:=h.low;have bC:=q2.size;rw[Oa7]at bC br;have bf:∀ k,k<W.heap.size->y.ownBlock≠some k->w4.heap[k]?=W.heap[k]?:=fun k Z M=>(q2.block k (by rw[Oa7];omega) (Oc5 M)).trans (Oa9 _ _ _ Z);have bi:Jck w4 rb z (.int .i64 bu) (.int .i64 bl) O U K sc y:=(bf rb (Jd h.run) (fun e=>by have:=bx _ e;omega)).trans h.run;have bj:=Jk bi 7 H;simp only[Oa1,List.set_cons_zero,List.set_cons_succ]at bj;have bh:∀ I,Jfk rb y I W->Jfk rb H I (w4.setCell ⟨rb,7,none⟩ H):=fun I hy=>hy.move (by simp[World.setCell];omega) fun b Z M bA=>⟨(Oa4 _ _ _ _ Z).trans (bf b bA M),fun e=>by
  rcases br with q|q
  ·exact M (q.symm.trans e)
  rw[q]at e;cases e;omega⟩
 refine⟨⟨bj,?_,fun I hy=>?_,hl⟩,bi⟩
 ·rw[Ob8];exact Jl q1 fun g e=>Oa4 _ _ _ _ (by have:=bz g e;simp;omega)
 rw[Od2,Oc6]at hy;rcases hy with hy|hy
 ·exact bh I (h.cols I hy)
 cases hy
 exact bh x bB
def Kxp (W:World)(H:List Dn)(x:Nat×List (Option Addr×Nat)×List (List V)):Prop:=∀ F:Nat->Prop,(∀ k,F k->k<W.heap.size)->(∀ y,some y∈H->Jbo y.1 y.2.1 y.2.2.length fun b=>¬ F b)->Jbo x.1 x.2.1 x.2.2.length fun b=>¬ F b
theorem Kxp.new {W y x}(h:Jbo x.1 x.2.1 x.2.2.length fun b=>W.heap.size<=b):Kxp W y x:=fun F hF _=>⟨fun e=>by have:=hF _ e;have:=h.1;omega,fun j I b o e H=>by have:=hF _ H;have:=h.2 j I b o e;omega⟩
def Ju1 (w:World)(L rb:Nat)(z bu bl:Int)(U Y O sc:Value)(M:Nat->List Dn->Prop)(bf:Nat->Value->World->Prop)(nd:Nd)(j:Nat):Prop:=
 0<=nd.op/\nd.op<=7/\∀ W H y,Below w.heap.size w W->(∀ g,H.ownBlock=some g->w.heap.size<=g)->Jd6 L rb z bu bl U Y O sc H y W->y.length=j->M j y ->
  Calls prog (Jej nd.op) #[.pointer (some ⟨rb,0,none⟩),nd.val] W fun e I=>W.grownBy I H.ownBlock /\
   ((∃ (x:Nat×List (Option Addr×Nat)×List (List V)) (K:List Dn),e=.returned (.tuple #[dnV (some x),.nilIface])/\Jd6 L rb z bu bl U Y O sc H K I/\Jfk rb H x I/\K.length=j/\M (j+1) (K++[some x])/\Kxp W y x/\∀ Z,some Z∈K->some Z∈y) \/
    (∃ (ty b:Nat),e=.returned (.tuple #[.slice none 0 0,.iface ty (.pointer (some ⟨b,0,none⟩))])/\bf j (.iface ty (.pointer (some ⟨b,0,none⟩))) I))
attribute [local go_sem] Oc0
theorem Jzj:(prog.info? 78).map (fun i=>(i.zero,i.size,i.bytes))=some (some (.slice none 0 0),1,24):=zK
attribute [local go_sem] Oc0
theorem Jd6.take {L rb:Nat}{z bu bl:Int}{bz bA bk sc I H W}(h:Jd6 L rb z bu bl bz bA bk sc I H W){i:Nat}{x}(hi:H[i]?=some (some x)):
  ∃ y U,I=.slice (some ⟨y,0,none⟩) H.length U/\i<H.length/\L<=y/\y<W.heap.size/\W.cell? ⟨y,i,none⟩=some (.slice (some ⟨x.1,0,none⟩) x.2.2.length (Ku1 x.2.1 x.2.2.length))/\W.frozen? ⟨y,i,none⟩=false/\Jfk rb I x W /\
   ∀ O,W.grownBy O (some y)->O.heap[y]?=Jdc W y i->Jd6 L rb z bu bl bz bA bk sc I (H.set i none) O:=by
 have bE:i<H.length:=(Ob9.1 hi).1;have hl:=h.low;rcases h.own with⟨bM,⟨M,Y⟩|⟨y,U,bj,M,Y,Z,bx,bJ,bK,bi⟩⟩
 ·rw[Oa6]at Y;omega
 rw[Oa6]at M bx;have bD:bj[i]?=some (dnV (some x)):=by
  have K:(H.map dnV)[i]?=some (dnV (some x)):=by rw[Ob1,hi];rfl
  rw[<-bi,Oe7]at K;split at K
  ·rw[Oe6]at K;exact K
  cases K
 have bG:some x∈H:=Of6 hi;have bH:I.ownBlock=some y:=by rw[M];rfl
 refine⟨y,U,M,bE,Y,Jd Z,?_,by simp[World.frozen?,Z],h.cols x bG,fun O bh bf=>?_⟩
 ·simp only[World.cell?,Z];exact bD
 have hs:=Jk Z i (.slice none 0 0);unfold Jdc at bf;rw[hs]at bf;refine⟨(bh.block rb (Jd h.run) (fun e=>by cases e;omega)).trans h.run,⟨?_,.inr ⟨y,U,bj.setIfInBounds i (.slice none 0 0),?_,Y,bf,?_,bJ,?_,?_⟩⟩,fun bB hy=>?_,hl⟩
 ·rw[Oa6,Of8];omega
 ·rw[Oa6,Of8];exact M
 ·rw[Oa6,Of8];exact bx
 ·simpa using bK
 ·rw[Oa6,Of8,Ok0,List.take_set];rw[Oa6]at bi;rw[bi,Op0];rfl
 have bI:some bB∈H:=by
  rcases List.mem_or_eq_of_mem_set hy with h|h
  ·exact h
  ·cases h
 exact(h.cols bB bI).move bh.size fun b bL br bC=>⟨bh.block b bC (fun e=>br (bH.trans e.symm)),br⟩
theorem Jgr {y w w'}(h:Ju (·=y) w w'):w.grownBy w' (some y):=⟨h.os,h.tape,h.output,h.size,fun k H I=>h.block k H fun e=>I (by rw[show k=y from e])⟩
def slH (v:Value):Option Addr×Nat:=match v with|.slice a _ c=>(a,c)|_=>(none,0)
theorem Jo6 {w B g H cs}(h:Jar w B g H cs):Qd w g (H.map slH) cs/\∀ j,j<cs.length->∀ b o,(Yo (H.map slH) j).1=some ⟨b,o,none⟩->B<=b/\b<w.heap.size:=by
 have U:∀ j,j<cs.length->Yo (H.map slH) j=slH (Uq H j):=fun j y=>by
  unfold Yo Uq;rw[Oa0,Oa0,Ob1,Oa3 (by rw[h.len];exact y)];rfl
 have I:∀ j,j<cs.length->Uq H j=.slice (Yo (H.map slH) j).1 (cs.getD j []).length (Yo (H.map slH) j).2/\Jv w (Yo (H.map slH) j).1 (cs.getD j [])/\(cs.getD j []).length<=(Yo (H.map slH) j).2:=fun j y=>by
  obtain⟨a,cap,e,hv⟩:=(h.own j y).vals;rw[U j y,e];refine⟨rfl,hv,?_⟩;rcases h.own j y with⟨_,⟨K,M⟩|⟨Z,Y,_,K,_,_,O,_⟩⟩
  ·rw[M];exact Ob7 _
  rw[e]at K;cases K
  exact O
 refine⟨⟨?_,fun j y=>(I j y).2.1,fun j y=>(I j y).2.2⟩,fun j y b o e=>?_⟩
 ·rw[<-h.len];exact(Kun h.row).congr fun j y=>(I j (by rw[<-h.len];exact y)).1
 refine Je (h.own j y) ?_;rw[(I j y).1,e];rfl
theorem Kdz {L rb s:Nat}{z bu bl:Int}{Y K sc H}{Z:List Dn}{W}(h:Jd6 L rb z bu bl Y (.pointer (some ⟨s,0,none⟩)) K sc H Z W)(nd:Nd)cols(br:∀ X,Below W.heap.size W X->Calls prog 39 #[.pointer (some ⟨s,0,none⟩),.string nd.tn] X fun e w'=>Below X.heap.size X w'/\∃ g y,e=.returned (.tuple #[.slice (some ⟨g,0,none⟩) cols.length cols.length,.nilIface])/\Jar w' X.heap.size g y cols):
  Calls prog 72 #[.pointer (some ⟨rb,0,none⟩),nd.val] W fun bf I=>Below W.heap.size W I/\∃ (g:Nat) (hs:List (Option Addr×Nat)),bf=.returned (.tuple #[dnV (some (g,hs,cols)),.nilIface])/\Jd6 L rb z bu bl Y (.pointer (some ⟨s,0,none⟩)) K sc H Z I/\Jfk rb H (g,hs,cols) I/\Jbo g hs cols.length fun b=>W.heap.size<=b:=by
 have:=Jos rb s z (.int .i64 bu) (.int .i64 bl) Y K sc H nd.op nd.l nd.r nd.tn (.slice nd.xs.1 nd.xs.2.1 nd.xs.2.2) (.slice nd.ky.1 nd.ky.2.1 nd.ky.2.2) nd.kk W (fun X a b w'=>∃ g y,a=.slice (some ⟨g,0,none⟩) cols.length cols.length/\b=.nilIface/\Jar w' X.heap.size g y cols) h.run (fun X O=>(br X O).mono fun e w' hp=>by
  obtain⟨bj,g,y,rfl,bk⟩:=hp;exact⟨bj,_,_,rfl,g,y,rfl,rfl,bk⟩)
 refine this.mono fun bf I hp=>?_;obtain⟨hb,X,O,a,b,rfl,g,y,rfl,rfl,M⟩:=hp;obtain⟨hC,bi⟩:=Jo6 M;have bA:=O.size;have bx:=M.low;have bz:=Jd h.run;have bh:∀ k,H.ownBlock=some k->k<W.heap.size:=fun k e=>(Je h.own e).2;refine⟨hb,g,y.map slH,by simp only[dnV];rw[Kuo (by rw[Oa6,M.len];exact Oa2 _)],h.below hb,⟨hC,⟨zo,fun e=>by have:=bh _ e;omega,hC.row.lt⟩,fun j U b o e=>?_⟩,zo,fun j U b o e=>by have:=bi j U b o e;omega⟩;have:=bi j U b o e;exact⟨zo,fun e=>by have:=bh _ e;omega,this.2⟩
