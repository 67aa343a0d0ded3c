/- The type of an expression, as the program tells it. -/
import Derived.Test.YtjbenncelbpbnaaGreatDoorVa
import Derived.Test.YtjbenncelbpbnaaGreatDoorXp
set_option maxHeartbeats 1000000
set_option maxRecDepth 100000
namespace Go.Proofs.YtjbenncelbpbnaaGreatDoor
section
open Go.RowKit Go.Shelf
attribute [local go_sem] Oc0
def Jbk (sch:List Int)(es:List Pt):Int:=(es.map (tyP sch)).getD (es.length-1) 0
end
section
open Go.RowKit Go.Shelf Tryz
attribute [local go_sem] Oc0
theorem Kbe n w G s d Ts sv bs(h:Jfl w G s d Ts sv bs)k(hk:Ub Ts n=k)(O:k<Ts.length)(H:Ts[k].types≠[])(hl:Ts[k].types.length<=1000):
  Calls prog 33 #[.pointer (some ⟨s,0,none⟩),.string n] w fun e w'=>Below w.heap.size w w'/\∃ g c,e=.returned (.tuple #[.slice (some ⟨g,0,none⟩) Ts[k].types.length c,.bool true])/\w.heap.size<=g/\g<w'.heap.size/\Kc w' (some ⟨g,0,none⟩) Ts[k].types:=by
 have hf:=Jo8 n w G s d Ts sv bs h;have M:Jhc Ts n=(k:Int):=by unfold Jhc;rw[hk,if_pos O]
 rw[M]at hf;obtain⟨b,o,U,c2,ht⟩:=h.at O;obtain⟨_,c1⟩:=h.field;obtain⟨a,cap,Y,_⟩:=h.own.cells;rw[Oa6,h.len]at Y;subst Y;simp at U;subst U;have bD:=h.few;generalize bs[k]'_=tk at c2 ht;generalize Ts[k]=T at ht H hl |-;obtain⟨bx,tc,bH,sc,hs,I⟩:=ht;have hty:=I.types;have c3:w.cell? ⟨tk,1,none⟩=some (.slice bx T.types.length tc):=by simp[World.cell?,I.cells]
 obtain⟨b2,br,rfl,_,_⟩:=Kc.at hty (i:=0) (Oi9.2 H);have K:=fun W (hb:Below w.heap.size w W)=>Jhe b2 br tc T.types W H hl (hty.below hb);have bE:(0:Int)<=(k:Int):=zo;have bG:(k:Int)<(Ts.length:Int):=zo;have Z:Hid _:=K;clear I hty hk M h K;go_enter func33,ntmps33
 go_wp2_with (first|(go_at_call 46;refine hf.mono ?_;rintro e bf ⟨rfl,y⟩;have bA:=Ja y c1;have bB:=Ja y c2;have bC:=Ja y c3)|(go_at_call 50;refine(Z.out bf y).mono ?_;rintro e bz ⟨bh,g,gc,rfl,bi,bj,bk⟩))
 go_ret2
 exact⟨Jb y bh,g,gc,rfl,Ob2 y.size bi,bj,bk⟩
abbrev Sch:=Option Addr×Nat×List Int
abbrev Jbl (s:Sch):Value:=.slice s.1 s.2.2.length s.2.1
abbrev Kn:=Sch×Bool
def knC (k:Kn):List Value:=[Jbl k.1,.bool k.2]
theorem Jx7 (k:Kn):(knC k).length=2:=rfl
structure Jed (L cb:Nat) (tf ev:Value) (ks:List Kn) (W:World):Prop where
 ck:W.heap[cb]?=some (.cells #[tf,ev] 134 (0,0))
 own:W.ownsRow L 138 2 ev ks.length (ks.flatMap knC)
 ints:∀ k∈ks,Kc W k.1.1 k.1.2.2
 off:∀ k∈ks,∀ g o,k.1.1=some ⟨g,o,none⟩->ev.ownBlock≠some g/\g≠cb/\g<W.heap.size
 low:cb<L
theorem Jed.below {L H I ev ks W y}(h:Jed L H I ev ks W)(hb:Below W.heap.size W y):Jed L H I ev ks y:=
 ⟨(hb.block _ (Jd h.ck)).trans h.ck,Jl h.own fun g e=>hb.block g (Je h.own e).2,fun k hk=>(h.ints k hk).below hb,fun k hk g o e=>⟨(h.off k hk g o e).1,(h.off k hk g o e).2.1,Oc2 (h.off k hk g o e).2.2 hb.size⟩,h.low⟩
theorem Jed.cells {L y H ev ks W}(h:Jed L y H ev ks W):W.cell? ⟨y,0,none⟩=some H/\W.cell? ⟨y,1,none⟩=some ev:=by
 have:=h.ck;constructor<;>simp[World.cell?,this]
theorem Jed.at {L I br ev ks W}(h:Jed L I br ev ks W){i}(hi:i<ks.length):
  ∃ g cap,ev=.slice (some ⟨g,0,none⟩) ks.length cap/\g≠I/\g<W.heap.size/\W.cell? ⟨g,i*2,none⟩=some (Jbl ks[i].1)/\W.cell? ⟨g,i*2+1,none⟩=some (.bool ks[i].2)/\W.frozen? ⟨g,i*2+1,none⟩=false /\
   (∀ b,Jed L I br ev (ks.set i (ks[i].1,b)) (W.setCell ⟨g,i*2+1,none⟩ (.bool b))):=by
 have hl:=h.low;rcases h.own with⟨h0,⟨K,Z⟩|⟨g,cap,Y,K,Z,H,bB,bC,bD,bf⟩⟩
 ·omega
 have bi:∀ j,j<2->Y[i*2+j]?=(knC ks[i])[j]?:=fun j bE=>by
  have:=Jek knC 2 Jx7 ks i j ks[i] (Oa3 hi) bE;rw[<-bf,Oe7,if_pos zo,Oe6]at this;exact this
 refine⟨g,cap,K,zo,Jd H,?_,?_,?_,fun b=>?_⟩
 ·have:=bi 0 zo;simp[World.cell?,H];simpa [knC] using this
 ·have:=bi 1 zo;simp[World.cell?,H];simpa [knC] using this
 ·simp[World.frozen?,H]
 have hs:=Jk H (i*2+1) (.bool b);have bk:∀ k,k≠g->(W.setCell ⟨g,i*2+1,none⟩ (.bool b)).heap[k]?=W.heap[k]?:=fun k hk=>Oa4 _ _ _ _ hk;have bj:∀ k∈ks.set i (ks[i].1,b),∃ y∈ks,k.1=y.1:=fun k hk=>by
  rcases List.mem_or_eq_of_mem_set hk with h|h
  ·exact⟨k,h,rfl⟩
  exact⟨ks[i],Ob3 hi,by rw[h]⟩
 have hob:ev.ownBlock=some g:=by rw[K];rfl
 have bh:(ks.set i (ks[i].1,b)).flatMap knC=(ks.flatMap knC).set (i*2+1) (.bool b):=by
  have bz:ks=ks.take i++ks[i]::ks.drop (i+1):=by rw[<-Oi1 hi,Ok3]
  have O:ks.set i (ks[i].1,b)=ks.take i++(ks[i].1,b)::ks.drop (i+1):=by
   rw[On0,if_pos hi]
  have hlen:((ks.take i).flatMap knC).length=i*2:=by rw[Kci knC 2 Jx7,Oc7,Oj1 zo]
  rw[O,Oe8,Og7];conv=>rhs;rw[bz,Oe8,Og7]
  rw[Ok4 _ _ (by rw[hlen];omega),hlen,show i*2+1-i*2=1 by omega];rfl
 refine⟨(bk I zo).trans h.ck,⟨?_,.inr ⟨g,cap,Y.setIfInBounds (i*2+1) (.bool b),?_,Z,hs,?_,bC,?_,?_⟩⟩,fun k hk=>?_,fun k hk bA o e=>?_,hl⟩
 ·rw[bh,Of8,Of8];exact h0
 ·rw[Of8];exact K
 ·rw[Of8];exact bB
 ·simpa using bD
 ·rw[bh,<-bf,Of8,Ok0,List.take_set]
 ·obtain⟨y,M,e⟩:=bj k hk;rw[e];exact(h.ints y M).of_block (by simp[World.setCell]) fun U bG bx _=>bk U fun hb=>(h.off y M U bG bx).1 (by rw[hob,hb])
 obtain⟨y,M,O⟩:=bj k hk;rw[O]at e;have:=h.off y M bA o e;exact⟨this.1,this.2.1,by simpa [World.setCell] using this.2.2⟩
theorem Jr1 L y M ev ks i W(h:Jed L y M ev ks W)(hi:i<ks.length)(hn:ks[i].2=false):
  Calls prog 130 #[.pointer (some ⟨y,0,none⟩),.int .i64 (i:Int)] W fun e I=>e=.returned (.tuple #[Jbl ks[i].1,.nilIface])/\Jed L y M ev (ks.set i (ks[i].1,true)) I/\W.grownBy I ev.ownBlock/\I.heap.size=W.heap.size:=by
 obtain⟨g,cap,rfl,U,Z,O,z1,z2,H⟩:=h.at hi;obtain⟨_,c1⟩:=h.cells;have H:=H true;have K:Hid _:=H;have bf:(W.setCell ⟨g,i*2+1,none⟩ (.bool true)).cell? ⟨y,1,none⟩=some (.slice (some ⟨g,0,none⟩) ks.length cap):=Uc (fun e=>U (congrArg Addr.block e)) c1;have Y:(W.setCell ⟨g,i*2+1,none⟩ (.bool true)).cell? ⟨g,i*2,none⟩=some (Jbl ks[i].1):=Uc (fun e=>by have:=congrArg Addr.off e;simp at this) O;generalize ks[i].1=s at O Y K |-;rw[hn]at z1;have bh:(0:Int)<=(i:Int):=zo;have bi:(i:Int)<(ks.length:Int):=zo;clear H hn h;go_enter func130,ntmps130
 go_wp2;exact bodyPost_ret (v:=.tuple #[Jbl s,.nilIface]) (by simp[results,results130,go_sem]) rfl ⟨rfl,K.out,Ka4 ⟨rfl,rfl,rfl,Oa2 _,fun _ _ _=>rfl⟩ _ _,by simp[World.setCell]⟩
attribute [local go_sem] Oc0
def Jq3 (L H:Nat)(K ev:Value)(I:List Kn)(sch:List Int)(W:World):Ending->World->Prop:=fun e y=>
 ∃ (a:Option Addr) (c:Nat),e=.returned (.tuple #[Jbl (a,c,sch),.nilIface])/\Jed L H K ev I y/\W.grownBy y ev.ownBlock/\Kc y a sch/\∀ g o,a=some ⟨g,o,none⟩->ev.ownBlock≠some g/\g≠H/\g<y.heap.size/\(W.heap.size<=g\/∃ k∈I,k.1.1=some ⟨g,o,none⟩)
abbrev Jam (w:World)(nd:Nd):World:=(w.alloc (.cells #[.int .i64 nd.op,.int .i64 nd.l,.int .i64 nd.r,.string nd.tn,.slice nd.xs.1 nd.xs.2.1 nd.xs.2.2,.slice nd.ky.1 nd.ky.2.1 nd.ky.2.2,.int .i64 nd.kk] 41))
theorem Jh0 w nd:Zm (Jam w nd) w.heap.size 0 nd:=by
 have:=heap_alloc_new w (.cells #[.int .i64 nd.op,.int .i64 nd.l,.int .i64 nd.r,.string nd.tn,.slice nd.xs.1 nd.xs.2.1 nd.xs.2.2,.slice nd.ky.1 nd.ky.2.1 nd.ky.2.2,.int .i64 nd.kk] 41);refine⟨?_,?_,?_,?_,?_,?_,?_⟩<;>(unfold World.cell?;rw[this];rfl)
theorem Kc7 (L H s:Nat)ev(ks:List Kn)(nd:Nd)(sch:List Int)w(h:Jed L H (.func (.func 33) #[.pointer (some ⟨s,0,none⟩)] #[]) ev ks w)(hty:∀ X,Below w.heap.size w X->Calls prog 33 #[.pointer (some ⟨s,0,none⟩),.string nd.tn] X fun e w'=>Below X.heap.size X w'/\∃ g c,e=.returned (.tuple #[.slice (some ⟨g,0,none⟩) sch.length c,.bool true])/\X.heap.size<=g/\g<w'.heap.size/\Kc w' (some ⟨g,0,none⟩) sch):
  Calls prog 97 #[.pointer (some ⟨H,0,none⟩),nd.val] w (Jq3 L H (.func (.func 33) #[.pointer (some ⟨s,0,none⟩)] #[]) ev ks sch w):=by
 have U:Hid _:=hty;have I:Hid _:=h;obtain⟨c0,_⟩:=h.cells;have M:Below w.heap.size w (Jam w nd):=Jc (Oa5 _ _) _;obtain⟨_,_,_,b3,_,_,_⟩:=Jh0 w nd;clear h hty;go_enter func97,ntmps97
 go_upto_region 1 with fail
 refine wp_region_held_drew (S:=fun X=>X.cell? ⟨H,0,none⟩=some (.func (.func 33) #[.pointer (some ⟨s,0,none⟩)] #[])/\X.cell? ⟨w.heap.size,3,none⟩=some (.string nd.tn)) zK ⟨Jh (Kf c0),Jh b3⟩ (fun y=>?_);refine tkj 0 rfl y ?_;refine tkj 1 rfl y ?_;refine tkj 2 rfl y ?_;refine tkj 3 rfl y ?_;refine tkj 4 rfl y ?_;refine tkj 5 rfl y ?_;refine tkn ?_;refine tkr 6 rfl fun Y hK=>?_;go_simp;refine(U.out (Jam w nd).drew (Jj M)).mono ?_;rintro e Z ⟨K,g,gc,rfl,bf,bh,bi⟩;go_simp;refine hK.out _ _ ⟨Ja K y.1,Ja K y.2⟩ (fun y=>?_);clear hK Y;refine tkj 7 rfl y ?_;refine tkj 8 rfl y ?_;refine tkj 9 rfl y ?_;refine tkj 10 rfl y ?_;refine tkj 11 rfl y ?_;refine tkn ?_;refine wpAnyH_done zK ?_ _;have O:Below w.heap.size w Z:=Jb (Jj M) K;have bj:w.heap.size<g:=by have:(Jam w nd).drew.heap.size=w.heap.size+1:=(by simp[World.drew]);omega
 clear bf;go_wp2;refine bodyPost_ret (v:=.tuple #[Jbl (some ⟨g,0,none⟩,gc,sch),.nilIface]) (by simp[results,results97,go_sem]) rfl ⟨some ⟨g,0,none⟩,gc,rfl,I.out.below O,Qq O,bi,fun bk o e=>?_⟩;cases e
 exact⟨fun e=>by have:=(Je I.out.own e).2;omega,by have:=Jd I.out.ck;omega,bh,.inl (Nat.le_of_lt bj)⟩
def Jm5 (op:Int):Nat:=if op=0 then 97 else if op=1 then 98 else if op=2 then 99 else if op=3 then 100 else if op=4 then 101 else if op=5 then 102 else if op=6 then 103 else 104
abbrev Jwq (y:Nat):Array Value:=#[.func (.func 97) #[.pointer (some ⟨y,0,none⟩)] #[],.func (.func 98) #[.pointer (some ⟨y,0,none⟩)] #[],.func (.func 99) #[.pointer (some ⟨y,0,none⟩)] #[],.func (.func 100) #[.pointer (some ⟨y,0,none⟩)] #[],.func (.func 101) #[.pointer (some ⟨y,0,none⟩)] #[],.func (.func 102) #[.pointer (some ⟨y,0,none⟩)] #[],.func (.func 103) #[.pointer (some ⟨y,0,none⟩)] #[],.func (.func 104) #[.pointer (some ⟨y,0,none⟩)] #[]]
theorem Jvy op args W:(callFunc (Jm5 op) args).run prog W=.ok (.enter (Jm5 op) args) W:=by
 unfold Jm5;repeat' split
 all_goals kernel_rfl
theorem Kgg y n(H:n<8):(Jwq y)[n]?=some (.func (.func (Jm5 (n:Int))) #[.pointer (some ⟨y,0,none⟩)] #[]):=by
 have:n=0\/n=1\/n=2\/n=3\/n=4\/n=5\/n=6\/n=7:=zo;rcases this with rfl|rfl|rfl|rfl|rfl|rfl|rfl|rfl<;>rfl
theorem Jxd y w:Calls prog 70 #[.pointer (some ⟨y,0,none⟩)] w fun e w'=>e=.returned (.agg (Jwq y))/\Below w.heap.size w w':=by
 have H:∀ (f:Nat) (a:Addr) (W:World),(store a (.func (.func f) #[.pointer (some ⟨y,0,none⟩)] #[])).run prog W=stored prog W a (.func (.func f) #[.pointer (some ⟨y,0,none⟩)] #[]) .plain:=fun f a W=>run_store _ _ _ _ _ rfl;go_enter func70,ntmps70
 go_wp2;exact bodyPost_ret (v:=.agg (Jwq y)) (by simp[results,results70,go_sem]) rfl ⟨rfl,(by repeat (first|exact Oa5 _ _|refine Jc ?_ _|refine Jj ?_))⟩
theorem Kbz (H:Nat)(nd:Nd)w(Q:World->Value->World->Prop)(h0:0<=nd.op)(bN:nd.op<=7)(bB:∀ X,Below w.heap.size w X->Calls prog (Jm5 nd.op) #[.pointer (some ⟨H,0,none⟩),nd.val] X fun e w'=>∃ a b,e=.returned (.tuple #[a,b])/\Q X (.tuple #[a,b]) w'/\X.heap.size<=w'.heap.size/\∀ k,w.heap.size<=k->k<X.heap.size->w'.heap[k]?=X.heap[k]?):
  Calls prog 51 #[.pointer (some ⟨H,0,none⟩),nd.val] w fun e w'=>∃ X,Below w.heap.size w X/\∃ v,e=.returned v/\Q X v w':=by
 have Z:Hid _:=bB;clear bB;obtain⟨n,hn⟩:∃ n:Nat,nd.op=(n:Int):=⟨nd.op.toNat,zo⟩;have bQ:n<8:=zo;have bI:=zh hn;clear hn h0 bN;have bR:∀ (f:Nat) (a:Addr) (X:World),(store a (.func (.func f) #[.pointer (some ⟨H,0,none⟩)] #[])).run prog X=stored prog X a (.func (.func f) #[.pointer (some ⟨H,0,none⟩)] #[]) .plain:=fun f a X=>run_store _ _ _ _ _ rfl;have bk:Below w.heap.size w (Jam w nd):=Jc (Oa5 _ _) _;have hq:=Jh0 w nd;have bA:=Jxd H (Jam w nd);go_enter func51,ntmps51
 go_upto_region 2 with(go_at_call 70;refine bA.mono ?_;rintro e I ⟨rfl,Y⟩)
 have hn:=bI.out;have bf:Below I.heap.size I (I.alloc (.cells (Jwq H) 173)):=Jc (Oa5 _ _) _;have U:=heap_alloc_new I (.cells (Jwq H) 173);have bC:=(hq.below Y).below bf;have bh:Below w.heap.size w (I.alloc (.cells (Jwq H) 173)):=Jb (Jb bk Y) bf;have br:w.heap.size<I.heap.size:=Oc2 zS Y.size;obtain⟨kb,bx⟩:∃ kb,kb=I.heap.size:=⟨_,rfl⟩;rw[<-bx]at U br |-;clear bx;generalize I.alloc (.cells (Jwq H) 173)=M at U bC bh |-;obtain⟨bi,z1,z2,bD,bE,bG,bH⟩:=bC;simp only[Od0]at z1 z2 bD bE bG bH;rw[hn]at bi;have bz:M.cell? ⟨kb,n,none⟩=some (.func (.func (Jm5 nd.op)) #[.pointer (some ⟨H,0,none⟩)] #[]):=by
  have:=Kgg H n bQ;rw[<-hn]at this;rw[<-this];simp only[World.cell?,U];rfl
 have bO:=Jvy nd.op;obtain⟨f,hf⟩:∃ f,f=Jm5 nd.op:=⟨_,rfl⟩;rw[<-hf]at bz bO Z;rw[Nd.val,hn]at Z;have bV:(0:Int)<=(n:Int):=zo;have bW:(n:Int)<8:=zo;have bP:kb<M.heap.size:=Jd U;have O:w.heap.size<M.heap.size:=by have:=Jm bi;exact this
 clear hf hn bf Y bA hq U bk bR I;go_upto_region 4 with fail
 refine wp_region_held_drew (S:=fun X=>X.cell? ⟨w.heap.size,0,none⟩=some (.int .i64 (n:Int))/\X.cell? ⟨w.heap.size,1,none⟩=some (.int .i64 nd.l)/\X.cell? ⟨w.heap.size,2,none⟩=some (.int .i64 nd.r)/\X.cell? ⟨w.heap.size,3,none⟩=some (.string nd.tn)/\X.cell? ⟨w.heap.size,4,none⟩=some (.slice nd.xs.1 nd.xs.2.1 nd.xs.2.2)/\X.cell? ⟨w.heap.size,5,none⟩=some (.slice nd.ky.1 nd.ky.2.1 nd.ky.2.2)/\X.cell? ⟨w.heap.size,6,none⟩=some (.int .i64 nd.kk)/\X.cell? ⟨kb,n,none⟩=some (.func (.func f) #[.pointer (some ⟨H,0,none⟩)] #[])) zK ⟨Jh bi,Jh z1,Jh z2,Jh bD,Jh bE,Jh bG,Jh bH,Jh bz⟩ (fun y=>?_);refine tkj 0 rfl y ?_;refine tkj 1 rfl y ?_;refine tkj 2 rfl y ?_;refine tkj 3 rfl y ?_;refine tkj 4 rfl y ?_;refine tkn ?_;refine tkr 5 rfl fun bJ hK=>?_;go_simp;refine(Z.out M.drew (Jj bh)).mono ?_;rintro e bj ⟨bT,rb,rfl,hQ,bU,bS⟩;have K:∀ (g o:Nat) (u:Value),w.heap.size<=g->g<M.heap.size->M.drew.cell? ⟨g,o,none⟩=some u->bj.cell? ⟨g,o,none⟩=some u:=fun g o u bK bL bM=>by
  rw[<-bM];unfold World.cell?;rw[show bj.heap[(⟨g,o,none⟩:Addr).block]?=M.drew.heap[(⟨g,o,none⟩:Addr).block]? from bS g bK bL]
 go_simp;refine hK.out _ _ ⟨K _ _ _ (Oa2 _) O y.1,K _ _ _ (Oa2 _) O y.2.1,K _ _ _ (Oa2 _) O y.2.2.1,K _ _ _ (Oa2 _) O y.2.2.2.1,K _ _ _ (Oa2 _) O y.2.2.2.2.1,K _ _ _ (Oa2 _) O y.2.2.2.2.2.1,K _ _ _ (Oa2 _) O y.2.2.2.2.2.2.1,K _ _ _ (Nat.le_of_lt br) bP y.2.2.2.2.2.2.2⟩ (fun y=>?_);clear hK bJ;refine tkj 6 rfl y ?_;refine tkj 7 rfl y ?_;refine tkj 8 rfl y ?_;refine tkj 9 rfl y ?_;refine tkn ?_;refine wpAnyH_done zK ?_ _;go_wp2;exact bodyPost_ret (v:=.tuple #[bT,rb]) (by simp[results,results51,go_sem]) rfl ⟨_,Jj bh,_,rfl,hQ⟩
end
open Go.RowKit Go.Shelf
attribute [local go_sem] Oc0
theorem Jmi {w W r g o nd}(h:Zm w g o nd)(H:w.grownBy W r)(hr:r≠some g):Zm W g o nd:=by
 have y:∀ o v,w.cell? ⟨g,o,none⟩=some v->W.cell? ⟨g,o,none⟩=some v:=fun o v hv=>by
  rw[<-hv];unfold World.cell?;rw[show W.heap[(⟨g,o,none⟩:Addr).block]?=w.heap[(⟨g,o,none⟩:Addr).block]? from H.block g (by have:=Jm hv;exact this) (Oc5 hr)]
 exact⟨y _ _ h.1,y _ _ h.2.1,y _ _ h.2.2.1,y _ _ h.2.2.2.1,y _ _ h.2.2.2.2.1,y _ _ h.2.2.2.2.2.1,y _ _ h.2.2.2.2.2.2⟩
