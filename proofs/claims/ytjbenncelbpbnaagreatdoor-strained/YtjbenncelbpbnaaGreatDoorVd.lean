/- The type of an expression, whatever it is: what the program answers. -/
import Derived.Test.YtjbenncelbpbnaaGreatDoorXv
set_option maxHeartbeats 2000000
set_option maxRecDepth 100000
namespace Go.Proofs.YtjbenncelbpbnaaGreatDoor
section
open Go.RowKit Go.Shelf
attribute [local go_sem] Oc0
def Qb1 (w:World)(pl ex:Addr)(v:Value):Prop:=∃ a r,(a=pl\/a=ex)/\(r=none\/r=some (-1))/\Jny w v a none r none none none none
theorem Qb1.root {w}pl ex:Qb1 w pl ex (.iface 432 (.pointer (some pl))):=
 ⟨pl,none,.inl rfl,.inl rfl,⟨0,.root pl⟩,⟨0,.root pl⟩,⟨0,.root pl⟩,⟨0,.root pl⟩,⟨0,.root pl⟩,⟨0,.root pl⟩,⟨0,.root pl⟩⟩
attribute [local go_sem] Oc0
structure PlG (w:World) (ev:Value) (pl ex:Addr):Prop where
 p:∀ X,w.grownBy X ev.ownBlock->X.cell? ⟨3,0,none⟩=some (.iface 432 (.pointer (some pl)))
 e:∀ X,w.grownBy X ev.ownBlock->X.cell? ⟨9,0,none⟩=some (.iface 432 (.pointer (some ex)))
theorem Kvp (w:World)(r:Option Nat):w.grownBy w r:=⟨rfl,rfl,rfl,Oa2 _,fun _ _ _=>rfl⟩
theorem PlG.grow {w X ev pl ex}(h:PlG w ev pl ex)(I:w.grownBy X ev.ownBlock):PlG X ev pl ex:=
 ⟨fun y H=>h.p y (Ut I H),fun y H=>h.e y (Ut I H)⟩
theorem PlG.at {w ev pl ex}(h:PlG w ev pl ex):w.cell? ⟨3,0,none⟩=some (.iface 432 (.pointer (some pl)))/\w.cell? ⟨9,0,none⟩=some (.iface 432 (.pointer (some ex))):=⟨h.p w (Kvp _ _),h.e w (Kvp _ _)⟩
def Kvd (w:World)(ev:Value)(pl ex:Addr)(e:Ending)(y:World):Prop:=∃ v,e=.returned (.tuple #[.slice none 0 0,v])/\Qb1 y pl ex v/\w.grownBy y ev.ownBlock
theorem Kvd.pl {w X ev pl ex}(y:w.grownBy X ev.ownBlock):Kvd w ev pl ex (.returned (.tuple #[.slice none 0 0,.iface 432 (.pointer (some pl))])) X:=⟨_,rfl,Qb1.root pl ex,y⟩
theorem Ktj {w X:World}{r:Option Nat}(h:w.grownBy X r):w.grownBy X.drew r:=⟨h.os,h.tape,h.output,h.size,h.block⟩
end
open Go.RowKit Go.Shelf Tryz
attribute [local go_sem] Oc0
structure Qdm where
 c:Int
 o:Int
 d:Bool
 f:Int
structure QN where
 op:Int
 l:Int
 r:Int
 tn:ByteArray
 es:List (List Pt)
 ks:List Qdm
 kk:Int
def Qc6 (w:World)(a:Option Addr)(ks:List Qdm):Prop:=∀ (j:Nat) (k:Qdm),ks[j]?=some k->∃ b o,a=some ⟨b,o,none⟩/\w.cell? ⟨b,o+j*4,none⟩=some (.int .i64 k.c)/\w.cell? ⟨b,o+j*4+1,none⟩=some (.int .i64 k.o)/\w.cell? ⟨b,o+j*4+2,none⟩=some (.bool k.d)/\w.cell? ⟨b,o+j*4+3,none⟩=some (.int .i64 k.f)
def Qcz (w:World)(a:Option Addr)(es:List Pt):Prop:=∀ (k:Nat) (p:Pt),es[k]?=some p->∃ b o,a=some ⟨b,o,none⟩/\Qi w b (o+k*7) p
def Qdd (w:World)(a:Option Addr)(y:List (List Pt)):Prop:=∀ (j:Nat) (es:List Pt),y[j]?=some es->∃ b o pa pc,a=some ⟨b,o,none⟩/\w.cell? ⟨b,o+j,none⟩=some (.slice pa es.length pc)/\Qcz w pa es
structure NdQ (w:World) (nd:Nd) (n:QN):Prop where
 op:nd.op=n.op
 l:nd.l=n.l
 r:nd.r=n.r
 tn:nd.tn=n.tn
 kk:nd.kk=n.kk
 xl:nd.xs.2.1=n.es.length
 xs:Qdd w nd.xs.1 n.es
 kl:nd.ky.2.1=n.ks.length
 ky:Qc6 w nd.ky.1 n.ks
def Qb4 (L H:Nat)(K ev:Value)(I:List Kn)(o:Option (List Int))(pl ex:Addr)(w:World)(e:Ending)(y:World):Prop:=match o with
 |some sch=>Jq3 L H K ev I sch w e y
 |none=>Kvd w ev pl ex e y
theorem Kvl {L O U ev K}{s:Sch}{w y M}(H:Jed L O U ev K y)(Y:w.grownBy y ev.ownBlock)(I:(s,true)∈K)(hb:Below y.heap.size y M):Jq3 L O U ev K s.2.2 w (.returned (.tuple #[Jbl s,.nilIface])) M:=by
 refine⟨s.1,s.2.1,rfl,H.below hb,Ut Y (Qq hb),(H.ints (s,true) I).below hb,fun g o e=>?_⟩;have:=H.off (s,true) I g o e;exact⟨this.1,this.2.1,Oc2 this.2.2 hb.size,.inr ⟨(s,true),I,e⟩⟩
def Kyn (s:List Int)(n:QN):Option (List Int):=if 0<=n.kk/\n.kk<=1000 then some s else none
theorem zae {p:Prop}(h:p:=by
 go_wp2;go_region_held3 (fun X=>X.cell? ⟨3,0,none⟩=some (.iface 432 (.pointer (some pl)))) (first|go_keep|(repeat (first|assumption|refine Kf ?_|refine Jh ?_))) (fail)
 go_wp2;exact bodyPost_ret (v:=.tuple #[.slice none 0 0,.iface 432 (.pointer (some pl))]) (by simp[results,results103,go_sem]) rfl (Kvd.pl (Ktj O.out.2.1))):p:=h
theorem Kx2 (L K:Nat)Y ev ks nd(n:QN)(i:Nat)w(h:Jed L K Y ev ks w)(hl:nd.l=(i:Int))(hi:i<ks.length)(hn:ks[i].2=false)pl ex(bA:PlG w ev pl ex)(hQ:∀ X,w.grownBy X ev.ownBlock->NdQ X nd n):
  Calls prog 103 #[.pointer (some ⟨K,0,none⟩),nd.val] w (Qb4 L K Y ev (ks.set i (ks[i].1,true)) (Kyn ks[i].1.2.2 n) pl ex w):=by
 have bf:Below w.heap.size w (Jam w nd):=Jc (Oa5 _ _) _;have hq:=Jh0 w nd;have bB:=h.below bf;have bj:=Jr1 L K Y ev ks i (Jam w nd) bB hi hn;have hob:ev.ownBlock≠some w.heap.size:=fun e=>by have:=(Je h.own e).2;omega
 have bi:(ks[i].1,true)∈ks.set i (ks[i].1,true):=List.mem_set hi _;have M:Hid (Zm (Jam w nd) w.heap.size 0 nd/\ev.ownBlock≠some w.heap.size/\Below w.heap.size w (Jam w nd)):=⟨hq,hob,bf⟩;have bz:=zh hQ;have br:=zh bA;have bD:=hq.2.1;rw[hl,Od0]at bD;have bO:=run_neq_nil_nil (P:=prog);obtain⟨s,hs⟩:∃ s,s=ks[i].1:=⟨_,rfl⟩;rw[<-hs]at bj bi |-;have bx:=zh bi;obtain⟨R,hR⟩:∃ R,Kyn s.2.2 n=R:=⟨_,rfl⟩;rw[hR];have y:=zh hR;clear hs hl hq hob bf bB h hn bA hQ bi hR;go_enter func103,ntmps103
 go_upto_region 4 with(go_at_call 130;refine bj.mono ?_;rintro bM I ⟨rfl,Z,bh,bL⟩)
 have U:w.grownBy I ev.ownBlock:=Ut (Qq M.out.2.2) bh;obtain⟨_,_,_,_,bE,bG,bk⟩:=Jmi M.out.1 bh M.out.2.1;rw[Od0]at bE bG bk;obtain⟨bN,bH⟩:=(br.out.grow U).at;have bC:=bz.out I U;have O:Hid (Jed L K Y ev (ks.set i (s,true)) I/\w.grownBy I ev.ownBlock/\Kc I s.1 s.2.2):=⟨Z,U,Z.ints (s,true) bx.out⟩;clear Z U bh bL bj bD bz br M hi bE bG bH;rw[bC.kk]at bk;clear bC;generalize H:n.kk=kk at bk;by_cases h0:kk<0
 ·obtain rfl:R=none:=by rw[<-y.out];unfold Kyn;rw[H];exact if_neg fun h=>by omega
  clear H y;exact zae
 have bI:(0:Int)<=kk:=zo;by_cases bJ:1000<kk
 ·obtain rfl:R=none:=by rw[<-y.out];unfold Kyn;rw[H];exact if_neg fun h=>by omega
  clear H y h0;exact zae
 have bK:kk<=1000:=zo;obtain rfl:R=some s.2.2:=by rw[<-y.out];unfold Kyn;rw[H];exact if_pos ⟨bI,bK⟩
 clear H y h0 bJ;go_wp2;exact bodyPost_ret (v:=.tuple #[Jbl s,.nilIface]) (by simp[results,results103,go_sem]) rfl (Kvl O.out.1 O.out.2.1 bx.out (Oa5 _ _))
theorem Kv0 a n c w:Calls prog 133 #[.slice a n c] w fun e w'=>e=.returned (.bool (decide (1<=n/\n<=4)))/\w'=w:=by
 by_cases y:1<=n
 ·have I:(1:Int)<=(n:Int):=zo;by_cases H:n<=4
  ·have K:(n:Int)<=4:=zo;rw[decide_eq_true ⟨y,H⟩];clear y H;go_enter func133,ntmps133
   go_wp2;go_ret
   exact⟨rfl,rfl⟩
  have K:(4:Int)<(n:Int):=zo;rw[decide_eq_false fun h=>H h.2];clear y H;go_enter func133,ntmps133
  go_wp2;go_ret
  exact⟨by simp;omega,rfl⟩
 have I:(n:Int)<1:=zo;rw[decide_eq_false fun h=>y h.1];clear y;go_enter func133,ntmps133
 go_wp2;go_ret
 exact⟨rfl,rfl⟩
def Kzw (s:List Int)(n:QN):Option (List Int):=if (1<=n.ks.length/\n.ks.length<=4)/\∀ k∈n.ks,(tyI s k.c).isSome=true then some s else none
theorem Kze (L bh:Nat)bD ev ks nd(n:QN)(i:Nat)w(h:Jed L bh bD ev ks w)(hl:nd.l=(i:Int))(hi:i<ks.length)(hn:ks[i].2=false)pl ex(bS:PlG w ev pl ex)(hQ:∀ X,w.grownBy X ev.ownBlock->NdQ X nd n):
  Calls prog 102 #[.pointer (some ⟨bh,0,none⟩),nd.val] w (Qb4 L bh bD ev (ks.set i (ks[i].1,true)) (Kzw ks[i].1.2.2 n) pl ex w):=by
 have bH:Below w.heap.size w (Jam w nd):=Jc (Oa5 _ _) _;have hq:=Jh0 w nd;have bT:=h.below bH;have bO:=Jr1 L bh bD ev ks i (Jam w nd) bT hi hn;have hob:ev.ownBlock≠some w.heap.size:=fun e=>by have:=(Je h.own e).2;omega
 have bM:(ks[i].1,true)∈ks.set i (ks[i].1,true):=List.mem_set hi _;have bk:Hid (Zm (Jam w nd) w.heap.size 0 nd/\ev.ownBlock≠some w.heap.size/\Below w.heap.size w (Jam w nd)):=⟨hq,hob,bH⟩;have bR:=zh hQ;have bP:=zh bS;have bX:=hq.2.1;rw[hl,Od0]at bX;have cD:=run_neq_nil_nil (P:=prog);obtain⟨s,hs⟩:∃ s,s=ks[i].1:=⟨_,rfl⟩;rw[<-hs]at bO bM |-;have bQ:=zh bM;obtain⟨R,hR⟩:∃ R,Kzw s.2.2 n=R:=⟨_,rfl⟩;rw[hR];have br:=zh hR;clear hs hl hq hob bH bT h hn bS hQ bM hR;go_enter func102,ntmps102
 go_upto_region 4 with(go_at_call 130;refine bO.mono ?_;rintro M I ⟨rfl,bE,bJ,cx⟩)
 have bB:w.grownBy I ev.ownBlock:=Ut (Qq bk.out.2.2) bJ;obtain⟨_,_,_,_,bY,bC,bZ⟩:=Jmi bk.out.1 bJ bk.out.2.1;rw[Od0]at bY bC bZ;obtain⟨cu,cn⟩:=(bP.out.grow bB).at;have bN:=bR.out I bB;have Z:Hid (Jed L bh bD ev (ks.set i (s,true)) I/\w.grownBy I ev.ownBlock/\Kc I s.1 s.2.2):=⟨bE,bB,bE.ints (s,true) bQ.out⟩;clear bE bB bJ cx bO bX bR bP bk hi bY bZ cn;rw[bN.kl]at bC;have bj:=bN.ky;clear bN;generalize bL:n.ks=y at bC bj;have bi:=Kv0 nd.ky.1 y.length nd.ky.2.2 I;by_cases hlen:1<=y.length/\y.length<=4;rotate_left
 ·rw[decide_eq_false hlen]at bi;obtain rfl:R=none:=by rw[<-br.out];unfold Kzw;rw[bL];exact if_neg fun h=>hlen h.1
  clear br bj hlen;go_wp2_with (go_at_call 133;refine bi.mono ?_;rintro M bf ⟨rfl,rfl⟩)
  go_region_held3 (fun X=>X.cell? ⟨3,0,none⟩=some (.iface 432 (.pointer (some pl)))) (first|go_keep|(repeat (first|assumption|refine Kf ?_|refine Jh ?_))) (fail)
  go_wp2;exact bodyPost_ret (v:=.tuple #[.slice none 0 0,.iface 432 (.pointer (some pl))]) (by simp[results,results102,go_sem]) rfl (Kvd.pl (Ktj Z.out.2.1))
 rw[decide_eq_true hlen]at bi;obtain⟨kb,ko,bK,-⟩:=bj 0 _ (Oa3 zo);rw[bK]at bC bi;have cC:=hlen.2;have ci:Hid (∀ X,Below I.heap.size I X->∀ (j:Nat) (k:Qdm),y[j]?=some k->X.cell? ⟨kb,ko+j*4,none⟩=some (.int .i64 k.c)/\X.cell? ⟨kb,ko+j*4+1,none⟩=some (.int .i64 k.o)/\X.cell? ⟨kb,ko+j*4+2,none⟩=some (.bool k.d)/\X.cell? ⟨kb,ko+j*4+3,none⟩=some (.int .i64 k.f)):=fun X U j k hk=>by
  obtain⟨cz,cE,M,ca,cb,cc,cf⟩:=bj j k hk;rw[bK]at M;cases M
  exact⟨Ja U ca,Ja U cb,Ja U cc,Ja U cf⟩
 have cy:=zh hlen.1;have bx:Hid ((if ∀ k∈y,(tyI s.2.2 k.c).isSome=true then some s.2.2 else none)=R):=by
  show _=_;rw[<-br.out];unfold Kzw;rw[bL];by_cases hh:∀ k∈y,(tyI s.2.2 k.c).isSome=true
  ·rw[if_pos hh,if_pos ⟨hlen,hh⟩]
  rw[if_neg hh,if_neg fun h=>hh h.2]
 clear br bL bj bK hlen;go_wp2_with (go_at_call 133;refine bi.mono ?_;rintro M bf ⟨rfl,rfl⟩)
 go_loopw [30] (fun i wr=>∃ j:Nat,j<=y.length/\i=.int .i64 (j:Int)/\Below bf.heap.size bf wr/\∀ k∈y.take j,(tyI s.2.2 k.c).isSome=true) (fun i _=>y.length-(intOf i).toNat)
 case atStart=>exact⟨0,Ob7 _,rfl,Oa5 _ _,zS⟩
 case round=>
  obtain⟨j,cB,rfl,bI,bU⟩:=hrel;have K:Hid (Below bf.heap.size bf wr/\∀ k∈y.take j,(tyI s.2.2 k.c).isSome=true):=⟨bI,bU⟩;have cv:=Ja bI cu;clear bU bI;by_cases bV:j<y.length
  ·obtain⟨k,hk⟩:∃ k,k=y[j]:=⟨_,rfl⟩;obtain⟨ca,cb,cc,cf⟩:=ci.out wr K.out.1 j k (by rw[hk];exact Oa3 bV);have bW:=fun X (U:Below wr.heap.size wr X)=>Kyz s.1 s.2.1 s.2.2 k.c X ((Z.out.2.2.below K.out.1).below U);have O:Hid (k=y[j]/\j<y.length):=⟨hk,bV⟩;have bz:Hid _:=bW;clear hk bW;rcases H:tyI s.2.2 k.c with _|t
   ·obtain rfl:R=none:=by
     rw[<-bx.out];refine if_neg fun h=>?_;have:=h k (by rw[O.out.1];exact Ob3 _);rw[H]at this;cases this
    rw[H]at bz;clear H bx;go_wp2_with (go_at_call 137;refine(bz.out _ (Jc (Oa5 _ _) _)).mono ?_;rintro M bA ⟨rfl,Y⟩;have cA:bA.cell? ⟨3,0,none⟩=some (.iface 432 (.pointer (some pl))):=(by rw[Y];exact Kf cv);have bG:Below wr.heap.size wr bA:=(by rw[Y];exact Jc (Oa5 _ _) _);clear Y)
    go_region_held3 (fun X=>X.cell? ⟨3,0,none⟩=some (.iface 432 (.pointer (some pl)))) (first|go_keep|(repeat (first|assumption|refine Kf ?_|refine Jh ?_))) (fail)
    go_wp2;exact bodyPost_ret (v:=.tuple #[.slice none 0 0,.iface 432 (.pointer (some pl))]) (by simp[results,results102,go_sem]) rfl (Kvd.pl (Ktj (Ut Z.out.2.1 (Qq (Jb K.out.1 bG)))))
   rw[H]at bz;have cj:Hid ((tyI s.2.2 k.c).isSome=true):=by rw[H];rfl
   clear H;go_wp2_with (go_at_call 137;refine(bz.out _ (Jc (Oa5 _ _) _)).mono ?_;rintro M bA ⟨rfl,Y⟩;have bG:Below wr.heap.size wr bA:=(by rw[Y];exact Jc (Oa5 _ _) _);clear Y)
   go_roundw
   case rel=>
    refine⟨j+1,O.out.2,by have:=O.out.2;go_num,Jb K.out.1 bG,fun x H=>?_⟩;rw[Oc4 O.out.2,Od2]at H;rcases H with H|H
    ·exact K.out.2 x H
    simp only[Oc6]at H;rw[H,<-O.out.1];exact cj.out
   case measure=>have:=O.out.2;simp[intOf];omega
  obtain rfl:j=y.length:=zo;obtain rfl:R=some s.2.2:=by rw[<-bx.out];exact if_pos fun k hk=>K.out.2 k (by rw[Of2];exact hk)
  clear bx;go_wp2;exact bodyPost_ret (v:=.tuple #[Jbl s,.nilIface]) (by simp[results,results102,go_sem]) rfl (Kvl Z.out.1 Z.out.2.1 bQ.out K.out.1)
