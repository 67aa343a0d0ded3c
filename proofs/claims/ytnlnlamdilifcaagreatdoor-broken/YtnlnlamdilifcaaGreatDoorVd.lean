/- The type of an expression, whatever it is: what the program answers. -/
import Derived.Test.YtnlnlamdilifcaaGreatDoorXv
set_option maxHeartbeats 2000000
set_option maxRecDepth 100000
namespace Go.Proofs.YtnlnlamdilifcaaGreatDoor
section
open Go.RowKit Go.Shelf
attribute [local go_sem] Oc0
def Qch (w:World)(pl ex:Addr)(v:Value):Prop:=∃ a r,(a=pl\/a=ex)/\(r=none\/r=some (-1))/\Jny w v a none r none none none none
theorem Qch.root {w}pl ex:Qch w pl ex (Ie 435 pl):=
 ⟨pl,none,.inl rfl,.inl rfl,⟨0,.root pl⟩,⟨0,.root pl⟩,⟨0,.root pl⟩,⟨0,.root pl⟩,⟨0,.root pl⟩,⟨0,.root pl⟩,⟨0,.root pl⟩⟩
attribute [local go_sem] Oc0
structure PlG (w:World) (ev:Value) (pl ex:Addr):Prop where
 p:∀ X,w.grownBy X ev.ownBlock->X.cell? (Aq 8)=some (Ie 435 pl)
 e:∀ X,w.grownBy X ev.ownBlock->X.cell? (Aq 9)=some (Ie 435 ex)
theorem Kvr (w:World)(r:Option Nat):w.grownBy w r:=⟨rfl,rfl,rfl,Oa2 _,fun _ _ _=>rfl⟩
theorem PlG.grow {w X ev pl ex}(h:PlG w ev pl ex)(I:w.grownBy X ev.ownBlock):PlG X ev pl ex:=
 ⟨fun y H=>h.p y (Ut I H),fun y H=>h.e y (Ut I H)⟩
theorem PlG.at {w ev pl ex}(h:PlG w ev pl ex):w.cell? (Aq 8)=some (Ie 435 pl)/\w.cell? (Aq 9)=some (Ie 435 ex):=⟨h.p w (Kvr _ _),h.e w (Kvr _ _)⟩
def Kvb (w:World)(ev:Value)(pl ex:Addr)(e:Ending)(y:World):Prop:=∃ v,e=.returned (.tuple #[Sz,v])/\Qch y pl ex v/\w.grownBy y ev.ownBlock
theorem Kvb.pl {w X ev pl ex}(y:w.grownBy X ev.ownBlock):Kvb w ev pl ex (.returned (.tuple #[Sz,Ie 435 pl])) X:=⟨_,rfl,Qch.root pl ex,y⟩
theorem Ktl {w X:World}{r:Option Nat}(h:w.grownBy X r):w.grownBy X.drew r:=⟨h.os,h.tape,h.output,h.size,h.block⟩
end
open Go.RowKit Go.Shelf Tryz
attribute [local go_sem] Oc0
structure Qed where
 c:Int
 o:Int
 d:Bool
 f:Int
structure QN where
 op:Int
 l:Int
 r:Int
 tn:ByteArray
 es:List (List Pt)
 ks:List Qed
 kk:Int
def Qdf (w:World)(a:Option Addr)(ks:List Qed):Prop:=∀ (j:Nat) (k:Qed),ks[j]?=some k->∃ b o,a=some (Ar b o)/\w.cell? (Ar b (o+j*4))=some (Iq k.c)/\w.cell? (Ar b (o+j*4+1))=some (Iq k.o)/\w.cell? (Ar b (o+j*4+2))=some (.bool k.d)/\w.cell? (Ar b (o+j*4+3))=some (Iq k.f)
def Qdm (w:World)(a:Option Addr)(es:List Pt):Prop:=∀ (k:Nat) (p:Pt),es[k]?=some p->∃ b o,a=some (Ar b o)/\Qi w b (o+k*7) p
def Qd9 (w:World)(a:Option Addr)(y:List (List Pt)):Prop:=∀ (j:Nat) (es:List Pt),y[j]?=some es->∃ b o pa pc,a=some (Ar b o)/\w.cell? (Ar b (o+j))=some (.slice pa es.length pc)/\Qdm w pa es
structure NdQ (w:World) (nd:Nd) (n:QN):Prop where
 op:nd.op=n.op
 l:nd.l=n.l
 r:nd.r=n.r
 tn:nd.tn=n.tn
 kk:nd.kk=n.kk
 xl:nd.xs.2.1=n.es.length
 xs:Qd9 w nd.xs.1 n.es
 kl:nd.ky.2.1=n.ks.length
 ky:Qdf w nd.ky.1 n.ks
def Qcr (L H:Nat)(K ev:Value)(I:List Kn)(o:Option (List Int))(pl ex:Addr)(w:World)(e:Ending)(y:World):Prop:=match o with
 |some sch=>Jq3 L H K ev I sch w e y
 |none=>Kvb w ev pl ex e y
theorem Ku8 {L O U ev K}{s:Sch}{w y M}(H:Jed L O U ev K y)(Y:w.grownBy y ev.ownBlock)(I:(s,true)∈K)(hb:Bq y M):Jq3 L O U ev K s.2.2 w (.returned (.tuple #[Jbl s,.nilIface])) M:=by
 refine⟨s.1,s.2.1,rfl,H.below hb,Ut Y (Qq hb),(H.ints (s,true) I).below hb,fun g o e=>?_⟩;have:=H.off (s,true) I g o e;exact⟨this.1,this.2.1,Oc2 this.2.2 hb.size,.inr ⟨(s,true),I,e⟩⟩
def Kyp (s:List Int)(n:QN):Option (List Int):=if 0<=n.kk/\n.kk<=1000 then some s else none
theorem zai {p:Prop}(h:p:=by
 go_wp2;go_region_held3 (fun X=>X.cell? (Aq 8)=some (Ie 435 pl)) (first|go_keep|(repeat (first|assumption|refine Kf ?_|refine Jh ?_))) (fail)
 go_wp2;exact bodyPost_ret (v:=.tuple #[Sz,Ie 435 pl]) (by simp[results,results120,go_sem]) rfl (Kvb.pl (Ktl O.out.2.1))):p:=h
theorem Kyl (L K:Nat)Y ev ks nd(n:QN)(i:Nat)w(h:Jed L K Y ev ks w)(hl:nd.l=(i:Int))(hi:i<ks.length)(bC:ks[i].2=false)pl ex(bA:PlG w ev pl ex)(hQ:∀ X,w.grownBy X ev.ownBlock->NdQ X nd n):
  Cq 120 #[Pq K,nd.val] w (Qcr L K Y ev (ks.set i (ks[i].1,true)) (Kyp ks[i].1.2.2 n) pl ex w):=by
 have bf:Bq w (Jam w nd):=Jc (Oa5 _ _) _;have hq:=Jh0 w nd;have bB:=h.below bf;have bj:=Jr1 L K Y ev ks i (Jam w nd) bB hi bC;have hob:ev.ownBlock≠some w.heap.size:=fun e=>by have:=(Je h.own e).2;omega
 have bi:(ks[i].1,true)∈ks.set i (ks[i].1,true):=List.mem_set hi _;have M:Hid (Zm (Jam w nd) w.heap.size 0 nd/\ev.ownBlock≠some w.heap.size/\Bq w (Jam w nd)):=⟨hq,hob,bf⟩;have bz:=zh hQ;have br:=zh bA;have bE:=hq.2.1;rw[hl,Od0]at bE;have bP:=run_neq_nil_nil (P:=prog);obtain⟨s,hs⟩:∃ s,s=ks[i].1:=⟨_,rfl⟩;rw[<-hs]at bj bi |-;have bx:=zh bi;obtain⟨R,hR⟩:∃ R,Kyp s.2.2 n=R:=⟨_,rfl⟩;rw[hR];have y:=zh hR;clear hs hl hq hob bf bB h bC bA hQ bi hR;go_enter func120,ntmps120
 go_upto_region 4 with(go_at_call 145;refine bj.mono ?_;rintro bN I ⟨rfl,Z,bh,bM⟩)
 have U:w.grownBy I ev.ownBlock:=Ut (Qq M.out.2.2) bh;obtain⟨_,_,_,_,bG,bH,bk⟩:=Jmi M.out.1 bh M.out.2.1;rw[Od0]at bG bH bk;obtain⟨bO,bI⟩:=(br.out.grow U).at;have bD:=bz.out I U;have O:Hid (Jed L K Y ev (ks.set i (s,true)) I/\w.grownBy I ev.ownBlock/\Kc I s.1 s.2.2):=⟨Z,U,Z.ints (s,true) bx.out⟩;clear Z U bh bM bj bE bz br M hi bG bH bI;rw[bD.kk]at bk;clear bD;generalize H:n.kk=kk at bk;by_cases h0:kk<0
 ·obtain rfl:R=none:=by rw[<-y.out];unfold Kyp;rw[H];exact if_neg fun h=>by omega
  clear H y;exact zai
 have bJ:(0:Int)<=kk:=zo;by_cases bK:1000<kk
 ·obtain rfl:R=none:=by rw[<-y.out];unfold Kyp;rw[H];exact if_neg fun h=>by omega
  clear H y h0;exact zai
 have bL:kk<=1000:=zo;obtain rfl:R=some s.2.2:=by rw[<-y.out];unfold Kyp;rw[H];exact if_pos ⟨bJ,bL⟩
 clear H y h0 bK;go_wp2;exact bodyPost_ret (v:=.tuple #[Jbl s,.nilIface]) (by simp[results,results120,go_sem]) rfl (Ku8 O.out.1 O.out.2.1 bx.out (Oa5 _ _))
theorem Kv4 a n c w:Cq 148 #[.slice a n c] w fun e w'=>e=.returned (.bool (decide (1<=n/\n<=4)))/\w'=w:=by
 by_cases y:1<=n
 ·have I:(1:Int)<=(n:Int):=zo;by_cases H:n<=4
  ·have K:(n:Int)<=4:=zo;rw[decide_eq_true ⟨y,H⟩];clear y H;go_enter func148,ntmps148
   go_wp2;go_ret
   exact⟨rfl,rfl⟩
  have K:(4:Int)<(n:Int):=zo;rw[decide_eq_false fun h=>H h.2];clear y H;go_enter func148,ntmps148
  go_wp2;go_ret
  exact⟨by simp;omega,rfl⟩
 have I:(n:Int)<1:=zo;rw[decide_eq_false fun h=>y h.1];clear y;go_enter func148,ntmps148
 go_wp2;go_ret
 exact⟨rfl,rfl⟩
def Qai (s:List Int)(n:QN):Option (List Int):=if (1<=n.ks.length/\n.ks.length<=4)/\∀ k∈n.ks,(tyI s k.c).isSome=true then some s else none
theorem Kzu (L bi:Nat)bE ev ks nd(n:QN)(i:Nat)w(h:Jed L bi bE ev ks w)(hl:nd.l=(i:Int))(hi:i<ks.length)(bX:ks[i].2=false)pl ex(bT:PlG w ev pl ex)(hQ:∀ X,w.grownBy X ev.ownBlock->NdQ X nd n):
  Cq 119 #[Pq bi,nd.val] w (Qcr L bi bE ev (ks.set i (ks[i].1,true)) (Qai ks[i].1.2.2 n) pl ex w):=by
 have bI:Bq w (Jam w nd):=Jc (Oa5 _ _) _;have hq:=Jh0 w nd;have bU:=h.below bI;have bP:=Jr1 L bi bE ev ks i (Jam w nd) bU hi bX;have hob:ev.ownBlock≠some w.heap.size:=fun e=>by have:=(Je h.own e).2;omega
 have bN:(ks[i].1,true)∈ks.set i (ks[i].1,true):=List.mem_set hi _;have br:Hid (Zm (Jam w nd) w.heap.size 0 nd/\ev.ownBlock≠some w.heap.size/\Bq w (Jam w nd)):=⟨hq,hob,bI⟩;have bS:=zh hQ;have bQ:=zh bT;have bZ:=hq.2.1;rw[hl,Od0]at bZ;have cF:=run_neq_nil_nil (P:=prog);obtain⟨s,hs⟩:∃ s,s=ks[i].1:=⟨_,rfl⟩;rw[<-hs]at bP bN |-;have bR:=zh bN;obtain⟨R,hR⟩:∃ R,Qai s.2.2 n=R:=⟨_,rfl⟩;rw[hR];have bx:=zh hR;clear hs hl hq hob bI bU h bX bT hQ bN hR;go_enter func119,ntmps119
 go_upto_region 4 with(go_at_call 145;refine bP.mono ?_;rintro M I ⟨rfl,bG,bK,cz⟩)
 have bC:w.grownBy I ev.ownBlock:=Ut (Qq br.out.2.2) bK;obtain⟨_,_,_,_,ca,bD,cb⟩:=Jmi br.out.1 bK br.out.2.1;rw[Od0]at ca bD cb;obtain⟨cx,cv⟩:=(bQ.out.grow bC).at;have bO:=bS.out I bC;have bf:Hid (Jed L bi bE ev (ks.set i (s,true)) I/\w.grownBy I ev.ownBlock/\Kc I s.1 s.2.2):=⟨bG,bC,bG.ints (s,true) bR.out⟩;clear bG bC bK cz bP bZ bS bQ br hi ca cb cv;rw[bO.kl]at bD;have bk:=bO.ky;clear bO;generalize bM:n.ks=y at bD bk;have bj:=Kv4 nd.ky.1 y.length nd.ky.2.2 I;by_cases hlen:1<=y.length/\y.length<=4;rotate_left
 ·rw[decide_eq_false hlen]at bj;obtain rfl:R=none:=by rw[<-bx.out];unfold Qai;rw[bM];exact if_neg fun h=>hlen h.1
  clear bx bk hlen;go_wp2_with (go_at_call 148;refine bj.mono ?_;rintro M bh ⟨rfl,rfl⟩)
  go_region_held3 (fun X=>X.cell? (Aq 8)=some (Ie 435 pl)) (first|go_keep|(repeat (first|assumption|refine Kf ?_|refine Jh ?_))) (fail)
  go_wp2;exact bodyPost_ret (v:=.tuple #[Sz,Ie 435 pl]) (by simp[results,results119,go_sem]) rfl (Kvb.pl (Ktl bf.out.2.1))
 rw[decide_eq_true hlen]at bj;obtain⟨kb,ko,bL,-⟩:=bk 0 _ (Oa3 zo);rw[bL]at bD bj;have cE:=hlen.2;have cn:Hid (∀ X,Bq I X->∀ (j:Nat) (k:Qed),y[j]?=some k->X.cell? (Ar kb (ko+j*4))=some (Iq k.c)/\X.cell? (Ar kb (ko+j*4+1))=some (Iq k.o)/\X.cell? (Ar kb (ko+j*4+2))=some (.bool k.d)/\X.cell? (Ar kb (ko+j*4+3))=some (Iq k.f)):=fun X Y j k O=>by
  obtain⟨cB,cG,M,cc,cf,ci,cj⟩:=bk j k O;rw[bL]at M;cases M
  exact⟨Ja Y cc,Ja Y cf,Ja Y ci,Ja Y cj⟩
 have cA:=zh hlen.1;have bz:Hid ((if ∀ k∈y,(tyI s.2.2 k.c).isSome=true then some s.2.2 else none)=R):=by
  show _=_;rw[<-bx.out];unfold Qai;rw[bM];by_cases hh:∀ k∈y,(tyI s.2.2 k.c).isSome=true
  ·rw[if_pos hh,if_pos ⟨hlen,hh⟩]
  rw[if_neg hh,if_neg fun h=>hh h.2]
 clear bx bM bk bL hlen;go_wp2_with (go_at_call 148;refine bj.mono ?_;rintro M bh ⟨rfl,rfl⟩)
 go_loopw [30] (fun i wr=>∃ j:Nat,j<=y.length/\i=Iq (j:Int)/\Bq bh wr/\∀ k∈y.take j,(tyI s.2.2 k.c).isSome=true) (fun i _=>y.length-(intOf i).toNat)
 case atStart=>exact⟨0,Ob7 _,rfl,Oa5 _ _,zS⟩
 case round=>
  obtain⟨j,cD,rfl,bJ,bV⟩:=hrel;have K:Hid (Bq bh wr/\∀ k∈y.take j,(tyI s.2.2 k.c).isSome=true):=⟨bJ,bV⟩;have cy:=Ja bJ cx;clear bV bJ;by_cases bW:j<y.length
  ·obtain⟨k,O⟩:∃ k,k=y[j]:=⟨_,rfl⟩;obtain⟨cc,cf,ci,cj⟩:=cn.out wr K.out.1 j k (by rw[O];exact Oa3 bW);have bY:=fun X (Y:Bq wr X)=>Kyd s.1 s.2.1 s.2.2 k.c X ((bf.out.2.2.below K.out.1).below Y);have U:Hid (k=y[j]/\j<y.length):=⟨O,bW⟩;have bA:Hid _:=bY;clear O bY;rcases H:tyI s.2.2 k.c with _|t
   ·obtain rfl:R=none:=by
     rw[<-bz.out];refine if_neg fun h=>?_;have:=h k (by rw[U.out.1];exact Ob3 _);rw[H]at this;cases this
    rw[H]at bA;clear H bz;go_wp2_with (go_at_call 152;refine(bA.out _ (Jc (Oa5 _ _) _)).mono ?_;rintro M bB ⟨rfl,Z⟩;have cC:bB.cell? (Aq 8)=some (Ie 435 pl):=(by rw[Z];exact Kf cy);have bH:Bq wr bB:=(by rw[Z];exact Jc (Oa5 _ _) _);clear Z)
    go_region_held3 (fun X=>X.cell? (Aq 8)=some (Ie 435 pl)) (first|go_keep|(repeat (first|assumption|refine Kf ?_|refine Jh ?_))) (fail)
    go_wp2;exact bodyPost_ret (v:=.tuple #[Sz,Ie 435 pl]) (by simp[results,results119,go_sem]) rfl (Kvb.pl (Ktl (Ut bf.out.2.1 (Qq (Jb K.out.1 bH)))))
   rw[H]at bA;have cu:Hid ((tyI s.2.2 k.c).isSome=true):=by rw[H];rfl
   clear H;go_wp2_with (go_at_call 152;refine(bA.out _ (Jc (Oa5 _ _) _)).mono ?_;rintro M bB ⟨rfl,Z⟩;have bH:Bq wr bB:=(by rw[Z];exact Jc (Oa5 _ _) _);clear Z)
   go_roundw
   case rel=>
    refine⟨j+1,U.out.2,by have:=U.out.2;go_num,Jb K.out.1 bH,fun x H=>?_⟩;rw[Oc4 U.out.2,Od2]at H;rcases H with H|H
    ·exact K.out.2 x H
    simp only[Oc6]at H;rw[H,<-U.out.1];exact cu.out
   case measure=>have:=U.out.2;simp[intOf];omega
  obtain rfl:j=y.length:=zo;obtain rfl:R=some s.2.2:=by rw[<-bz.out];exact if_pos fun k O=>K.out.2 k (by rw[Of2];exact O)
  clear bz;go_wp2;exact bodyPost_ret (v:=.tuple #[Jbl s,.nilIface]) (by simp[results,results119,go_sem]) rfl (Ku8 bf.out.1 bf.out.2.1 bR.out K.out.1)
