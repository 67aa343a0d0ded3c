/- Plans with a Join that are right. -/
import Derived.Test.YtkdojacdolidfaaGreatDoorVd
import Derived.Test.YtkdojacdolidfaaGreatDoorJn
import Derived.Test.YtkdojacdolidfaaGreatDoorAk
import Derived.Test.YtkdojacdolidfaaGreatDoorOc
namespace Go.Proofs.YtkdojacdolidfaaGreatDoor
section
open Go.RowKit Go.Shelf Go.Maps
attribute [local go_sem] Oc0
structure Qdt (l r:List Int) (k:Krv):Prop where
 c:k.c<l.length
 o:0<=k.o/\k.o.toNat<r.length
 t:l.getD k.c 0=r.getD k.o.toNat 0
end
open Go.RowKit Go.Shelf Tryz
structure PN where
 op:Nat
 l:Nat
 tn:ByteArray
 es:List (List Pt)
 gk:List Krv
 r:Nat
 kk:Int
def Jg7 (n:PN):List Nat:=if n.op=0 then []else if n.op=3\/n.op=7 then [n.l,n.r]else [n.l]
def flN (ns:List PN)(j i:Nat):Bool:=(ns.take j).any fun n=>(Jg7 n).contains i
theorem Jtp {ns j n}(h:ns[j]?=some n)i:flN ns (j+1) i=(flN ns j i||(Jg7 n).contains i):=by
 unfold flN;rw[Oi7,h];simp
structure Jnm (w:World) (n:PN) (nd:Nd):Prop where
 op:nd.op=(n.op:Int)
 l:nd.l=(n.l:Int)
 tn:nd.tn=n.tn
 es:n.op=1\/n.op=2->∃ eb eo ec,nd.xs=(some ⟨eb,eo,none⟩,n.es.length,ec)/\n.es.length<=ec/\Jaz w eb eo n.es
 gk:n.op=3\/n.op=4\/n.op=5->∃ kb ko kc,nd.ky=(some ⟨kb,ko,none⟩,n.gk.length,kc)/\Klj w kb ko n.gk
 r:nd.r=(n.r:Int)
 kk:nd.kk=n.kk
 nx:n.op=5\/n.op=6->nd.xs.2.1=0/\(n.op=6->nd.ky.2.1=0)
theorem Jb0 {w:World}{b o:Nat}{v:Value}(h:w.cell? ⟨b,o,none⟩=some v):b<w.heap.size:=by
 unfold World.cell? at h;cases e:w.heap[b]? with
 |none=>simp[e]at h
 |some x=>exact(Oe2.1 e).1
theorem Zx {B:Nat}{w w':World}{b o:Nat}{v:Value}(y:∀ k,k<B->w'.heap[k]?=w.heap[k]?)(h:w.cell? ⟨b,o,none⟩=some v)(hb:b<B):w'.cell? ⟨b,o,none⟩=some v:=by
 rw[<-h];simp only[World.cell?,y b hb]
theorem Jaz.under {w w' eb H I}(h:Jaz w eb H I)(y:∀ k,k<w.heap.size->w'.heap[k]?=w.heap[k]?):Jaz w' eb H I:=fun j es bh=>by
 obtain⟨bi,bj,pc,K,bf⟩:=h j es bh;refine⟨bi,bj,pc,Zx y K (Jb0 K),fun k p hp=>?_⟩;obtain⟨M,q1,q2,O,U,Y,Z⟩:=bf k p hp;exact⟨Zx y M (Jb0 M),Zx y q1 (Jb0 q1),Zx y q2 (Jb0 q2),Zx y O (Jb0 O),Zx y U (Jb0 U),Zx y Y (Jb0 Y),Zx y Z (Jb0 Z)⟩
theorem Klj.under {w w' kb ko ks}(h:Klj w kb ko ks)(y:∀ k,k<w.heap.size->w'.heap[k]?=w.heap[k]?):Klj w' kb ko ks:=fun j k K=>by
 obtain⟨H,q1,q2,I⟩:=h j k K;exact⟨Zx y H (Jb0 H),Zx y q1 (Jb0 q1),Zx y q2 (Jb0 q2),Zx y I (Jb0 I)⟩
structure Kik (tys:ByteArray->List Int) (scs:List (List Int)) (n:PN) (sch:List Int):Prop where
 le:n.op<=6
 scan:n.op=0->sch=tys n.tn
 filt:n.op=1->scs[n.l]?=some sch/\∃ e,n.es=[e]/\Uj sch e/\1<=e.length/\e.length<=12/\Jbk sch e=2
 proj:n.op=2->∃ sc,scs[n.l]?=some sc/\sch=n.es.map (Jbk sc)/\1<=n.es.length/\n.es.length<=6/\∀ e∈n.es,Uj sc e/\1<=e.length/\e.length<=12
 grp:n.op=4->∃ sc ky,scs[n.l]?=some sc/\sch=n.gk.map (tyK sc)/\n.es=[]/\n.gk.length<=4/\(∀ k∈n.gk,Kn7 sc k)/\n.gk[0]?=some ky/\ky.f=0
 join:n.op=3->∃ ls rs k,scs[n.l]?=some ls/\scs[n.r]?=some rs/\n.l≠n.r/\n.es=[]/\n.kk=(k:Nat)/\k<4/\1<=n.gk.length/\n.gk.length<=4/\(∀ y∈n.gk,Qdt ls rs y)/\(k<2->ls.length+rs.length<=12)/\sch=if k<2 then ls++rs else ls
 sort:n.op=5->scs[n.l]?=some sch/\n.es=[]/\1<=n.gk.length/\n.gk.length<=4/\∀ k∈n.gk,k.c<sch.length
 limit:n.op=6->scs[n.l]?=some sch/\n.es=[]/\0<=n.kk/\n.kk<=1000
structure Jdk (tys:ByteArray->List Int) (scs:List (List Int)) (ns:List PN):Prop where
 len:scs.length=ns.length
 ok:∀ (j:Nat) (n:PN),ns[j]?=some n->∃ sch,scs[j]?=some sch/\Kik tys scs n sch
 ahead:∀ (j:Nat) (n:PN),ns[j]?=some n->∀ i∈Jg7 n,i<j/\flN ns j i=false
 all:∀ i,i+1<ns.length->flN ns ns.length i=true
 one:1<=ns.length
 few:ns.length<=12
theorem Jdk.unnamed {tys I ns}(h:Jdk tys I ns)j:flN ns (j+1) j=false:=by
 unfold flN;rw[List.any_eq_false];intro n H;obtain⟨i,hi⟩:=Ok2.1 H;rw[Oe7]at hi;split at hi
 ·intro y;have:=(h.ahead i n hi j (by simpa using y)).1;omega
 cases hi
theorem Kaf {w W X:World}{ev:Value}(hb:Below w.heap.size w W)(H:∀ g,ev.ownBlock=some g->w.heap.size<=g)(I:W.grownBy X ev.ownBlock):∀ k,k<w.heap.size->X.heap[k]?=w.heap[k]?:=fun k y=>by
 rw[I.block k (Oc2 y hb.size) (fun e=>by have:=H k e.symm;omega)];exact hb.block k y
theorem Koi {tys H ns}(h:Jdk tys H ns){j n}(y:ns[j]?=some n){nd w}(hi:Jnm w n nd)(h0:n.op=0)s(U:∀ X,Below w.heap.size w X->Calls prog 34 #[.pointer (some ⟨s,0,none⟩),.string n.tn] X fun e w'=>Below X.heap.size X w'/\∃ g c,e=.returned (.tuple #[.slice (some ⟨g,0,none⟩) (tys n.tn).length c,.bool true])/\X.heap.size<=g/\g<w'.heap.size/\Kc w' (some ⟨g,0,none⟩) (tys n.tn)):
  Jvz w (.func (.func 34) #[.pointer (some ⟨s,0,none⟩)] #[]) H (flN ns) nd j:=by
 obtain⟨sch,hs,ok⟩:=h.ok j n y;refine⟨by rw[hi.op];omega,by rw[hi.op];omega,sch,hs,fun W ev ks hb Z hC hK=>?_⟩;have K:Jm5 nd.op=98:=by rw[hi.op,h0];rfl
 rw[K];have O:=ok.scan h0;have:=Kc7 (w.heap.size+2) (w.heap.size+1) s ev ks nd sch W hC fun X I=>by
  have:=U X (Jb hb I);rw[hi.tn,O];exact this
 refine this.mono fun e Y hp=>⟨ks,rfl,fun i k M=>?_,hp⟩;rw[Jtp y,hK.flg i k M];simp[Jg7,h0]
theorem Km2 {tys K ns}(h:Jdk tys K ns){j n}(M:ns[j]?=some n){nd w}(hi:Jnm w n nd)(h0:n.op≠0)(Z:¬ (n.op=3\/n.op=7))O sch(hs:K[j]?=some sch)(bf:∀ W ev (ks:List Kn),Below w.heap.size w W->(∀ g,ev.ownBlock=some g->w.heap.size<=g)->Jed (w.heap.size+2) (w.heap.size+1) O ev ks W->∀ I:n.l<ks.length,ks[n.l].2=false->K[n.l]?=some ks[n.l].1.2.2 ->
   Calls prog (Jm5 nd.op) #[.pointer (some ⟨w.heap.size+1,0,none⟩),nd.val] W (Jq3 (w.heap.size+2) (w.heap.size+1) O ev (ks.set n.l (ks[n.l].1,true)) sch W)):
  Jvz w O K (flN ns) nd j:=by
 obtain⟨_,_,ok⟩:=h.ok j n M;have bC:=ok.le;refine⟨by rw[hi.op];omega,by rw[hi.op];omega,sch,hs,fun W ev ks hb bh hC hK=>?_⟩;have bz:=Jtp M;have Y:Jg7 n=[n.l]:=by unfold Jg7;rw[if_neg h0,if_neg Z]
 obtain⟨br,bi⟩:=h.ahead j n M n.l (by rw[Y];exact Oc6.2 rfl);have I:n.l<ks.length:=by rw[hK.len];exact br
 have U:ks[n.l]?=some ks[n.l]:=Oa3 I;have bk:ks[n.l].2=false:=by rw[hK.flg n.l _ U];exact bi
 have bA:=hK.sch n.l _ U;have bx:(ks.set n.l (ks[n.l].1,true)).map (·.1)=ks.map (·.1):=by
  rw[Op0];apply Oi8;intro i;rw[Op2];by_cases y:n.l=i
  ·subst y;rw[if_pos rfl];simp[I]
  rw[if_neg y]
 have bj:∀ (i:Nat) (k:Kn),(ks.set n.l (ks[n.l].1,true))[i]?=some k->k.2=flN ns (j+1) i:=fun i k H=>by
  rw[bz,Y];rw[Op2]at H;by_cases y:n.l=i
  ·subst y;rw[if_pos rfl]at H;simp only[I,if_true]at H;cases H
   simp
  rw[if_neg y]at H;rw[hK.flg i k H];have:([n.l]:List Nat).contains i=false:=by simp;exact fun e=>y e.symm
  rw[this,Bool.or_false]
 exact(bf W ev ks hb bh hC I bk bA).mono fun e bB hp=>⟨_,bx,bj,hp⟩
theorem Qbs {w W ev pl ex}(hb:Below w.heap.size w W)(I:∀ g,ev.ownBlock=some g->w.heap.size<=g)(hp:w.cell? ⟨3,0,none⟩=some (.iface 434 (.pointer (some pl))))(H:w.cell? ⟨9,0,none⟩=some (.iface 434 (.pointer (some ex)))):PlG W ev pl ex:=
 ⟨fun _ y=>Zx (Kaf hb I y) hp (Jb0 hp),fun _ y=>Zx (Kaf hb I y) H (Jb0 H)⟩
def kyZ (k:Krv):Qdu:=⟨(k.c:Nat),k.o,k.d,(k.f:Nat)⟩
theorem Kx4 {tys Y ns}(h:Jdk tys Y ns){j n}(H:ns[j]?=some n){nd w}(hi:Jnm w n nd)(y:n.op=5)K{pl ex}(hp:w.cell? ⟨3,0,none⟩=some (.iface 434 (.pointer (some pl))))(bh:w.cell? ⟨9,0,none⟩=some (.iface 434 (.pointer (some ex)))):Jvz w K Y (flN ns) nd j:=by
 obtain⟨sch,hs,ok⟩:=h.ok j n H;refine Km2 h H hi zo zo K sch hs fun W ev ks hb O hC bj bi bk=>?_;obtain⟨kb,ko,kc,U,br⟩:=hi.gk (.inr (.inr y));obtain⟨q1,_,bx,bz,bA⟩:=ok.sort y;have bf:Jm5 nd.op=103:=by rw[hi.op,y];rfl
 rw[bf];rw[bk]at q1;cases q1
 have:=Kzu (w.heap.size+2) (w.heap.size+1) K ev ks nd ⟨nd.op,nd.l,nd.r,nd.tn,[],n.gk.map kyZ,nd.kk⟩ n.l W hC hi.l bj bi pl ex (Qbs hb O hp bh) fun X Z=>⟨rfl,rfl,rfl,rfl,rfl,(hi.nx (.inl y)).1,fun j es H=>by simp at H,by rw[U,Oa6],fun j k I=>by
  rw[Ob1]at I;obtain⟨M,hy,rfl⟩:=Oe9.1 I;have:=(br.under (Kaf hb O Z)) j M hy;exact⟨kb,ko,by rw[U],this⟩⟩
 have hq:Kz7 ks[n.l].1.2.2 ⟨nd.op,nd.l,nd.r,nd.tn,[],n.gk.map kyZ,nd.kk⟩=some ks[n.l].1.2.2:=by
  unfold Kz7;rw[if_pos];refine⟨by simp only[Oa6];exact⟨bx,bz⟩,fun k I=>?_⟩;obtain⟨M,hy,rfl⟩:=Of0.1 I;have:=bA M hy;unfold tyI kyZ;rw[if_pos ⟨zS,by simpa using this⟩];rfl
 rw[hq]at this;exact this
theorem Kxb {tys K ns}(h:Jdk tys K ns){j n}(H:ns[j]?=some n){nd w}(hi:Jnm w n nd)(y:n.op=6)I{pl ex}(hp:w.cell? ⟨3,0,none⟩=some (.iface 434 (.pointer (some pl))))(O:w.cell? ⟨9,0,none⟩=some (.iface 434 (.pointer (some ex)))):Jvz w I K (flN ns) nd j:=by
 obtain⟨sch,hs,ok⟩:=h.ok j n H;refine Km2 h H hi zo zo I sch hs fun W ev ks hb U hC bf Z bh=>?_;obtain⟨q1,_,bi,bj⟩:=ok.limit y;have M:Jm5 nd.op=104:=by rw[hi.op,y];rfl
 rw[M];rw[bh]at q1;cases q1
 have:=Kyc (w.heap.size+2) (w.heap.size+1) I ev ks nd ⟨nd.op,nd.l,nd.r,nd.tn,[],[],nd.kk⟩ n.l W hC hi.l bf Z pl ex (Qbs hb U hp O) fun X bk=>⟨rfl,rfl,rfl,rfl,rfl,(hi.nx (.inr y)).1,fun j es H=>by simp at H,(hi.nx (.inr y)).2 y,fun j k Y=>by simp at Y⟩;have hq:Ky4 ks[n.l].1.2.2 ⟨nd.op,nd.l,nd.r,nd.tn,[],[],nd.kk⟩=some ks[n.l].1.2.2:=by
  unfold Ky4;rw[if_pos];show 0<=nd.kk/\nd.kk<=1000;rw[hi.kk];exact⟨bi,bj⟩
 rw[hq]at this;exact this
theorem Jvh {tys:ByteArray->List Int}{H:List (List Int)}{ns:List PN}(h:Jdk tys H ns)(nb no M:Nat)(y:List Nd)(hl:y.length=ns.length)(s:Nat)w(O:∀ (j:Nat) (nd:Nd),y[j]?=some nd->Zm w nb (no+j*7) nd)(Y:∀ (j:Nat) (n:PN) (nd:Nd),ns[j]?=some n->y[j]?=some nd->Jvz w (.func (.func 34) #[.pointer (some ⟨s,0,none⟩)] #[]) H (flN ns) nd j):
  Calls prog 33 #[.agg #[.slice (some ⟨nb,no,none⟩) y.length M],.func (.func 34) #[.pointer (some ⟨s,0,none⟩)] #[]] w fun e w'=>∃ (I:List Sch) (sv:Value),e=.returned (.tuple #[sv,.nilIface])/\Below w.heap.size w w'/\Jo w' (w.heap.size+2) 22 sv (I.map Jbl)/\I.map (·.2.2)=H/\∀ s∈I,Kc w' s.1 s.2.2/\∀ g o,s.1=some ⟨g,o,none⟩->w.heap.size<=g:=by
 have Z:=h.one;have bf:=h.few;refine Jrc nb no M y 34 _ H (flN ns) w O zo zo (by rw[h.len,hl]) (fun j nd K=>?_) h.unnamed (fun i hi=>by rw[hl]at hi |-;exact h.all i hi);have U:j<ns.length:=by rw[<-hl];exact(Ob9.1 K).1
 exact Y j _ nd (Oa3 U) K
