/- The node Group at work. -/
import Derived.Test.YtkdojacdolidfaaGreatDoorJg
import Derived.Test.YtkdojacdolidfaaGreatDoorXz
import Derived.Test.YtkdojacdolidfaaGreatDoorVb
set_option maxHeartbeats 2000000
set_option maxRecDepth 100000
namespace Go.Proofs.YtkdojacdolidfaaGreatDoor
section
open Go.RowKit Go.Shelf Go.Maps
attribute [local go_sem] Oc0
structure Kn7 (sch:List Int) (k:Krv):Prop where
 c:k.c<sch.length
 f:k.f<=5
 t:k.f=3->sch.getD k.c 0=1
def tyK (sch:List Int)(k:Krv):Int:=if k.f=1\/k.f=2\/k.f=3 then 1 else sch.getD k.c 0
end
section
open Go.RowKit Go.Shelf
attribute [local go_sem] Oc0
structure PlG (w:World) (ev:Value) (pl ex:Addr):Prop where
 p:∀ X,w.grownBy X ev.ownBlock->X.cell? ⟨3,0,none⟩=some (.iface 434 (.pointer (some pl)))
 e:∀ X,w.grownBy X ev.ownBlock->X.cell? ⟨9,0,none⟩=some (.iface 434 (.pointer (some ex)))
theorem Kv3 (w:World)(r:Option Nat):w.grownBy w r:=⟨rfl,rfl,rfl,Oa2 _,fun _ _ _=>rfl⟩
theorem PlG.grow {w X ev pl ex}(h:PlG w ev pl ex)(I:w.grownBy X ev.ownBlock):PlG X ev pl ex:=
 ⟨fun y H=>h.p y (Ut I H),fun y H=>h.e y (Ut I H)⟩
theorem PlG.at {w ev pl ex}(h:PlG w ev pl ex):w.cell? ⟨3,0,none⟩=some (.iface 434 (.pointer (some pl)))/\w.cell? ⟨9,0,none⟩=some (.iface 434 (.pointer (some ex))):=⟨h.p w (Kv3 _ _),h.e w (Kv3 _ _)⟩
def Kvp (w:World)(ev:Value)(pl ex:Addr)(e:Ending)(y:World):Prop:=∃ v,e=.returned (.tuple #[.slice none 0 0,v])/\Qb3 y pl ex v/\w.grownBy y ev.ownBlock
theorem Kvp.pl {w X ev pl ex}(y:w.grownBy X ev.ownBlock):Kvp w ev pl ex (.returned (.tuple #[.slice none 0 0,.iface 434 (.pointer (some pl))])) X:=⟨_,rfl,Qb3.root pl ex,y⟩
theorem Kts {w X:World}{r:Option Nat}(h:w.grownBy X r):w.grownBy X.drew r:=⟨h.os,h.tape,h.output,h.size,h.block⟩
end
open Go.RowKit Go.Shelf Tryz
attribute [local go_sem] Oc0
structure Qdu where
 c:Int
 o:Int
 d:Bool
 f:Int
structure QN where
 op:Int
 l:Int
 r:Int
 tn:ByteArray
 es:List (List Pt)
 ks:List Qdu
 kk:Int
def Qc0 (w:World)(a:Option Addr)(ks:List Qdu):Prop:=∀ (j:Nat) (k:Qdu),ks[j]?=some k->∃ b o,a=some ⟨b,o,none⟩/\w.cell? ⟨b,o+j*4,none⟩=some (.int .i64 k.c)/\w.cell? ⟨b,o+j*4+1,none⟩=some (.int .i64 k.o)/\w.cell? ⟨b,o+j*4+2,none⟩=some (.bool k.d)/\w.cell? ⟨b,o+j*4+3,none⟩=some (.int .i64 k.f)
def Qc3 (w:World)(a:Option Addr)(es:List Pt):Prop:=∀ (k:Nat) (p:Pt),es[k]?=some p->∃ b o,a=some ⟨b,o,none⟩/\Qi w b (o+k*7) p
def Qdn (w:World)(a:Option Addr)(y:List (List Pt)):Prop:=∀ (j:Nat) (es:List Pt),y[j]?=some es->∃ b o pa pc,a=some ⟨b,o,none⟩/\w.cell? ⟨b,o+j,none⟩=some (.slice pa es.length pc)/\Qc3 w pa es
structure NdQ (w:World) (nd:Nd) (n:QN):Prop where
 op:nd.op=n.op
 l:nd.l=n.l
 r:nd.r=n.r
 tn:nd.tn=n.tn
 kk:nd.kk=n.kk
 xl:nd.xs.2.1=n.es.length
 xs:Qdn w nd.xs.1 n.es
 kl:nd.ky.2.1=n.ks.length
 ky:Qc0 w nd.ky.1 n.ks
def Qch (L H:Nat)(K ev:Value)(I:List Kn)(o:Option (List Int))(pl ex:Addr)(w:World)(e:Ending)(y:World):Prop:=match o with
 |some sch=>Jq3 L H K ev I sch w e y
 |none=>Kvp w ev pl ex e y
theorem Kvn {L O U ev K}{s:Sch}{w y M}(H:Jed L O U ev K y)(Y:w.grownBy y ev.ownBlock)(I:(s,true)∈K)(hb:Below y.heap.size y M):Jq3 L O U ev K s.2.2 w (.returned (.tuple #[Jbl s,.nilIface])) M:=by
 refine⟨s.1,s.2.1,rfl,H.below hb,Ut Y (Qq hb),(H.ints (s,true) I).below hb,fun g o e=>?_⟩;have:=H.off (s,true) I g o e;exact⟨this.1,this.2.1,Oc2 this.2.2 hb.size,.inr ⟨(s,true),I,e⟩⟩
def Ky4 (s:List Int)(n:QN):Option (List Int):=if 0<=n.kk/\n.kk<=1000 then some s else none
theorem zad {p:Prop}(h:p:=by
 go_wp2;go_region_held3 (fun X=>X.cell? ⟨3,0,none⟩=some (.iface 434 (.pointer (some pl)))) (first|go_keep|(repeat (first|assumption|refine Kf ?_|refine Jh ?_))) (fail)
 go_wp2;exact bodyPost_ret (v:=.tuple #[.slice none 0 0,.iface 434 (.pointer (some pl))]) (by simp[results,results104,go_sem]) rfl (Kvp.pl (Kts O.out.2.1))):p:=h
theorem Kyc (L K:Nat)Y ev ks nd(n:QN)(i:Nat)w(h:Jed L K Y ev ks w)(hl:nd.l=(i:Int))(hi:i<ks.length)(bC:ks[i].2=false)pl ex(bA:PlG w ev pl ex)(hQ:∀ X,w.grownBy X ev.ownBlock->NdQ X nd n):
  Calls prog 104 #[.pointer (some ⟨K,0,none⟩),nd.val] w (Qch L K Y ev (ks.set i (ks[i].1,true)) (Ky4 ks[i].1.2.2 n) pl ex w):=by
 have bf:Below w.heap.size w (Jam w nd):=Jc (Oa5 _ _) _;have hq:=Jh0 w nd;have bB:=h.below bf;have bj:=Jr1 L K Y ev ks i (Jam w nd) bB hi bC;have bE:ev.ownBlock≠some w.heap.size:=fun e=>by have:=(Je h.own e).2;omega
 have bi:(ks[i].1,true)∈ks.set i (ks[i].1,true):=List.mem_set hi _;have M:Hid (Zm (Jam w nd) w.heap.size 0 nd/\ev.ownBlock≠some w.heap.size/\Below w.heap.size w (Jam w nd)):=⟨hq,bE,bf⟩;have bz:=zh hQ;have br:=zh bA;have bG:=hq.2.1;rw[hl,Od0]at bG;have bQ:=run_neq_nil_nil (P:=prog);obtain⟨s,hs⟩:∃ s,s=ks[i].1:=⟨_,rfl⟩;rw[<-hs]at bj bi |-;have bx:=zh bi;obtain⟨R,hR⟩:∃ R,Ky4 s.2.2 n=R:=⟨_,rfl⟩;rw[hR];have y:=zh hR;clear hs hl hq bE bf bB h bC bA hQ bi hR;go_enter func104,ntmps104
 go_upto_region 4 with(go_at_call 131;refine bj.mono ?_;rintro bO I ⟨rfl,Z,bh,bN⟩)
 have U:w.grownBy I ev.ownBlock:=Ut (Qq M.out.2.2) bh;obtain⟨_,_,_,_,bH,bI,bk⟩:=Jmi M.out.1 bh M.out.2.1;rw[Od0]at bH bI bk;obtain⟨bP,bJ⟩:=(br.out.grow U).at;have bD:=bz.out I U;have O:Hid (Jed L K Y ev (ks.set i (s,true)) I/\w.grownBy I ev.ownBlock/\Kc I s.1 s.2.2):=⟨Z,U,Z.ints (s,true) bx.out⟩;clear Z U bh bN bj bG bz br M hi bH bI bJ;rw[bD.kk]at bk;clear bD;generalize H:n.kk=kk at bk;by_cases h0:kk<0
 ·obtain rfl:R=none:=by rw[<-y.out];unfold Ky4;rw[H];exact if_neg fun h=>by omega
  clear H y;exact zad
 have bK:(0:Int)<=kk:=zo;by_cases bL:1000<kk
 ·obtain rfl:R=none:=by rw[<-y.out];unfold Ky4;rw[H];exact if_neg fun h=>by omega
  clear H y h0;exact zad
 have bM:kk<=1000:=zo;obtain rfl:R=some s.2.2:=by rw[<-y.out];unfold Ky4;rw[H];exact if_pos ⟨bK,bM⟩
 clear H y h0 bL;go_wp2;exact bodyPost_ret (v:=.tuple #[Jbl s,.nilIface]) (by simp[results,results104,go_sem]) rfl (Kvn O.out.1 O.out.2.1 bx.out (Oa5 _ _))
theorem Kv7 a n c w:Calls prog 134 #[.slice a n c] w fun e w'=>e=.returned (.bool (decide (1<=n/\n<=4)))/\w'=w:=by
 by_cases y:1<=n
 ·have I:(1:Int)<=(n:Int):=zo;by_cases H:n<=4
  ·have K:(n:Int)<=4:=zo;rw[decide_eq_true ⟨y,H⟩];clear y H;go_enter func134,ntmps134
   go_wp2;go_ret
   exact⟨rfl,rfl⟩
  have K:(4:Int)<(n:Int):=zo;rw[decide_eq_false fun h=>H h.2];clear y H;go_enter func134,ntmps134
  go_wp2;go_ret
  exact⟨by simp;omega,rfl⟩
 have I:(n:Int)<1:=zo;rw[decide_eq_false fun h=>y h.1];clear y;go_enter func134,ntmps134
 go_wp2;go_ret
 exact⟨rfl,rfl⟩
def Kz7 (s:List Int)(n:QN):Option (List Int):=if (1<=n.ks.length/\n.ks.length<=4)/\∀ k∈n.ks,(tyI s k.c).isSome=true then some s else none
theorem Kzu (L bi:Nat)bE ev ks nd(n:QN)(i:Nat)w(h:Jed L bi bE ev ks w)(hl:nd.l=(i:Int))(hi:i<ks.length)(bX:ks[i].2=false)pl ex(bT:PlG w ev pl ex)(hQ:∀ X,w.grownBy X ev.ownBlock->NdQ X nd n):
  Calls prog 103 #[.pointer (some ⟨bi,0,none⟩),nd.val] w (Qch L bi bE ev (ks.set i (ks[i].1,true)) (Kz7 ks[i].1.2.2 n) pl ex w):=by
 have bI:Below w.heap.size w (Jam w nd):=Jc (Oa5 _ _) _;have hq:=Jh0 w nd;have bU:=h.below bI;have bP:=Jr1 L bi bE ev ks i (Jam w nd) bU hi bX;have bY:ev.ownBlock≠some w.heap.size:=fun e=>by have:=(Je h.own e).2;omega
 have bN:(ks[i].1,true)∈ks.set i (ks[i].1,true):=List.mem_set hi _;have br:Hid (Zm (Jam w nd) w.heap.size 0 nd/\ev.ownBlock≠some w.heap.size/\Below w.heap.size w (Jam w nd)):=⟨hq,bY,bI⟩;have bS:=zh hQ;have bQ:=zh bT;have ca:=hq.2.1;rw[hl,Od0]at ca;have cE:=run_neq_nil_nil (P:=prog);obtain⟨s,hs⟩:∃ s,s=ks[i].1:=⟨_,rfl⟩;rw[<-hs]at bP bN |-;have bR:=zh bN;obtain⟨R,hR⟩:∃ R,Kz7 s.2.2 n=R:=⟨_,rfl⟩;rw[hR];have bx:=zh hR;clear hs hl hq bY bI bU h bX bT hQ bN hR;go_enter func103,ntmps103
 go_upto_region 4 with(go_at_call 131;refine bP.mono ?_;rintro M I ⟨rfl,bG,bK,cy⟩)
 have bC:w.grownBy I ev.ownBlock:=Ut (Qq br.out.2.2) bK;obtain⟨_,_,_,_,cb,bD,cc⟩:=Jmi br.out.1 bK br.out.2.1;rw[Od0]at cb bD cc;obtain⟨cv,cu⟩:=(bQ.out.grow bC).at;have bO:=bS.out I bC;have bf:Hid (Jed L bi bE ev (ks.set i (s,true)) I/\w.grownBy I ev.ownBlock/\Kc I s.1 s.2.2):=⟨bG,bC,bG.ints (s,true) bR.out⟩;clear bG bC bK cy bP ca bS bQ br hi cb cc cu;rw[bO.kl]at bD;have bk:=bO.ky;clear bO;generalize bM:n.ks=y at bD bk;have bj:=Kv7 nd.ky.1 y.length nd.ky.2.2 I;by_cases hlen:1<=y.length/\y.length<=4;rotate_left
 ·rw[decide_eq_false hlen]at bj;obtain rfl:R=none:=by rw[<-bx.out];unfold Kz7;rw[bM];exact if_neg fun h=>hlen h.1
  clear bx bk hlen;go_wp2_with (go_at_call 134;refine bj.mono ?_;rintro M bh ⟨rfl,rfl⟩)
  go_region_held3 (fun X=>X.cell? ⟨3,0,none⟩=some (.iface 434 (.pointer (some pl)))) (first|go_keep|(repeat (first|assumption|refine Kf ?_|refine Jh ?_))) (fail)
  go_wp2;exact bodyPost_ret (v:=.tuple #[.slice none 0 0,.iface 434 (.pointer (some pl))]) (by simp[results,results103,go_sem]) rfl (Kvp.pl (Kts bf.out.2.1))
 rw[decide_eq_true hlen]at bj;obtain⟨kb,ko,bL,-⟩:=bk 0 _ (Oa3 zo);rw[bL]at bD bj;have cD:=hlen.2;have cj:Hid (∀ X,Below I.heap.size I X->∀ (j:Nat) (k:Qdu),y[j]?=some k->X.cell? ⟨kb,ko+j*4,none⟩=some (.int .i64 k.c)/\X.cell? ⟨kb,ko+j*4+1,none⟩=some (.int .i64 k.o)/\X.cell? ⟨kb,ko+j*4+2,none⟩=some (.bool k.d)/\X.cell? ⟨kb,ko+j*4+3,none⟩=some (.int .i64 k.f)):=fun X Y j k O=>by
  obtain⟨cA,cF,M,cf,q1,q2,ci⟩:=bk j k O;rw[bL]at M;cases M
  exact⟨Ja Y cf,Ja Y q1,Ja Y q2,Ja Y ci⟩
 have cz:=zh hlen.1;have bz:Hid ((if ∀ k∈y,(tyI s.2.2 k.c).isSome=true then some s.2.2 else none)=R):=by
  show _=_;rw[<-bx.out];unfold Kz7;rw[bM];by_cases hh:∀ k∈y,(tyI s.2.2 k.c).isSome=true
  ·rw[if_pos hh,if_pos ⟨hlen,hh⟩]
  rw[if_neg hh,if_neg fun h=>hh h.2]
 clear bx bM bk bL hlen;go_wp2_with (go_at_call 134;refine bj.mono ?_;rintro M bh ⟨rfl,rfl⟩)
 go_loopw [30] (fun i wr=>∃ j:Nat,j<=y.length/\i=.int .i64 (j:Int)/\Below bh.heap.size bh wr/\∀ k∈y.take j,(tyI s.2.2 k.c).isSome=true) (fun i _=>y.length-(intOf i).toNat)
 case atStart=>exact⟨0,Ob7 _,rfl,Oa5 _ _,zS⟩
 case round=>
  obtain⟨j,cC,rfl,bJ,bV⟩:=hrel;have K:Hid (Below bh.heap.size bh wr/\∀ k∈y.take j,(tyI s.2.2 k.c).isSome=true):=⟨bJ,bV⟩;have cx:=Ja bJ cv;clear bV bJ;by_cases bW:j<y.length
  ·obtain⟨k,O⟩:∃ k,k=y[j]:=⟨_,rfl⟩;obtain⟨cf,q1,q2,ci⟩:=cj.out wr K.out.1 j k (by rw[O];exact Oa3 bW);have bZ:=fun X (Y:Below wr.heap.size wr X)=>Ky3 s.1 s.2.1 s.2.2 k.c X ((bf.out.2.2.below K.out.1).below Y);have U:Hid (k=y[j]/\j<y.length):=⟨O,bW⟩;have bA:Hid _:=bZ;clear O bZ;rcases H:tyI s.2.2 k.c with _|t
   ·obtain rfl:R=none:=by
     rw[<-bz.out];refine if_neg fun h=>?_;have:=h k (by rw[U.out.1];exact Ob3 _);rw[H]at this;cases this
    rw[H]at bA;clear H bz;go_wp2_with (go_at_call 138;refine(bA.out _ (Jc (Oa5 _ _) _)).mono ?_;rintro M bB ⟨rfl,Z⟩;have cB:bB.cell? ⟨3,0,none⟩=some (.iface 434 (.pointer (some pl))):=(by rw[Z];exact Kf cx);have bH:Below wr.heap.size wr bB:=(by rw[Z];exact Jc (Oa5 _ _) _);clear Z)
    go_region_held3 (fun X=>X.cell? ⟨3,0,none⟩=some (.iface 434 (.pointer (some pl)))) (first|go_keep|(repeat (first|assumption|refine Kf ?_|refine Jh ?_))) (fail)
    go_wp2;exact bodyPost_ret (v:=.tuple #[.slice none 0 0,.iface 434 (.pointer (some pl))]) (by simp[results,results103,go_sem]) rfl (Kvp.pl (Kts (Ut bf.out.2.1 (Qq (Jb K.out.1 bH)))))
   rw[H]at bA;have cn:Hid ((tyI s.2.2 k.c).isSome=true):=by rw[H];rfl
   clear H;go_wp2_with (go_at_call 138;refine(bA.out _ (Jc (Oa5 _ _) _)).mono ?_;rintro M bB ⟨rfl,Z⟩;have bH:Below wr.heap.size wr bB:=(by rw[Z];exact Jc (Oa5 _ _) _);clear Z)
   go_roundw
   case rel=>
    refine⟨j+1,U.out.2,by have:=U.out.2;go_num,Jb K.out.1 bH,fun x H=>?_⟩;rw[Oc4 U.out.2,Od2]at H;rcases H with H|H
    ·exact K.out.2 x H
    simp only[Oc6]at H;rw[H,<-U.out.1];exact cn.out
   case measure=>have:=U.out.2;simp[intOf];omega
  obtain rfl:j=y.length:=zo;obtain rfl:R=some s.2.2:=by rw[<-bz.out];exact if_pos fun k O=>K.out.2 k (by rw[Of2];exact O)
  clear bz;go_wp2;exact bodyPost_ret (v:=.tuple #[Jbl s,.nilIface]) (by simp[results,results103,go_sem]) rfl (Kvn bf.out.1 bf.out.2.1 bR.out K.out.1)
