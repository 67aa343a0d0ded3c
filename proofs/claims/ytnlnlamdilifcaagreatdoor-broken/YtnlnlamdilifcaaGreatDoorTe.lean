/- The disk in memory: its fields, its list of pages, the pages themselves; what stands when something else turns. -/
import Derived.Test.YtnlnlamdilifcaaGreatDoorOf
import Derived.Test.YtnlnlamdilifcaaGreatDoorKd
set_option maxHeartbeats 2000000
set_option maxRecDepth 100000
namespace Go.Proofs.YtnlnlamdilifcaaGreatDoor
open Go.RowKit Tryz
structure Ju (F:Nat->Prop) (w w':World):Prop where
 os:w'.os=w.os
 tape:w'.tape=w.tape
 output:w'.output=w.output
 size:w.heap.size<=w'.heap.size
 block:∀ k,k<w.heap.size->¬ F k->w'.heap[k]?=w.heap[k]?
theorem Ju.refl F w:Ju F w w:=⟨rfl,rfl,rfl,Oa2 _,fun _ _ _=>rfl⟩
theorem Ju.trans {F a b c}(h:Ju F a b)(k:Ju F b c):Ju F a c:=
 ⟨k.os.trans h.os,k.tape.trans h.tape,k.output.trans h.output,Ob2 h.size k.size,fun i hi y=>(k.block i (Oc2 hi h.size) y).trans (h.block i hi y)⟩
theorem Ju.trans' {F G a b c}(h:Ju F a b)(k:Ju G b c)(H:∀ i,i<a.heap.size->G i->F i):Ju F a c:=
 ⟨k.os.trans h.os,k.tape.trans h.tape,k.output.trans h.output,Ob2 h.size k.size,fun i hi y=>(k.block i (Oc2 hi h.size) (fun I=>y (H i hi I))).trans (h.block i hi y)⟩
theorem Ju.mono {F G w w'}(h:Ju F w w')(H:∀ k,k<w.heap.size->F k->G k):Ju G w w':=
 ⟨h.os,h.tape,h.output,h.size,fun k y K=>h.block k y (fun I=>K (H k y I))⟩
theorem Ju.of_below {F w w'}(h:Bq w w'):Ju F w w':=⟨h.os,h.tape,h.output,h.size,fun k y _=>h.block k y⟩
theorem Ju.alloc {F w w'}(h:Ju F w w')o:Ju F w (w'.alloc o):=h.trans (.of_below ((Oa5 _ _).alloc (Oa2 _) _))
theorem Ju.set {F w w'}(h:Ju F w w'){b}(hb:F b)i v:Ju F w (w'.setCell (Ar b i) v):=
 h.trans ⟨rfl,rfl,rfl,by simp[World.setCell],fun k _ y=>Oa4 _ _ _ _ (fun e=>y (by rw[e];exact hb))⟩
theorem Ju.below {F w w'}(h:Ju F w w'){B}(hF:∀ k,k<B->¬ F k)(H:B<=w.heap.size):Below B w w':=⟨h.os,h.tape,h.output,h.size,fun k y=>h.block k zo (hF k y)⟩
theorem Ju.cell {F w w'}(h:Ju F w w'){b o v}(y:w.cell? (Ar b o)=some v)(H:¬ F b):w'.cell? (Ar b o)=some v:=by
 rw[Oc3 (w:=w) (h.block b (Jm y) H)];exact y
theorem Ju.drewN {F w w'}(h:Ju F w w')n:Ju F w (w'.drewN n):=⟨h.os,h.tape,h.output,h.size,h.block⟩
def up (F:Nat->Prop)(w:World):Nat->Prop:=fun k=>F k\/w.heap.size<=k
theorem Ju.down {F w w'}(h:Ju (up F w) w w'):Ju F w w':=h.mono fun k y H=>H.elim id (fun h=>absurd y zo)
structure DS where
 quota:Int
 fail:Int
 writes:Int
 lowest:Nat
 pages:List (Option (List UInt8))
def Js (l:List (Option (List UInt8))):Nat:=l.countP Option.isSome
theorem Kad l:Js l<=l.length:=List.countP_le_length
def Kew:Option Nat->Value
 |none=>.pointer none
 |some b=>(Pq b)
structure Jf1 (w:World) (F:Nat->Prop) (d:Nat) (D:DS) (sv:Value) (ps:List (Option Nat)):Prop where
 cells:w.heap[d]?=some (.cells #[Iq D.quota,Iq D.fail,Iq D.writes,Iq ((Js D.pages:Nat):Int),Iq ((D.lowest:Nat):Int),sv] 118 (0,0))
 own:Jo w 0 115 sv (ps.map Kew)
 ownF:∀ g,sv.ownBlock=some g->F g/\g≠d
 dF:F d
 len:ps.length=D.pages.length
 page:∀ (i b:Nat),ps[i]?=some (some b)->F b/\b≠d/\sv.ownBlock≠some b/\∃ p,D.pages[i]?=some (some p)/\Jdp w b p
 vacant:∀ i:Nat,ps[i]?=some Option.none->D.pages[i]?=some Option.none
 inj:∀ (i j b:Nat),ps[i]?=some (some b)->ps[j]?=some (some b)->i=j
 low:D.lowest<=D.pages.length
 full:∀ i:Nat,i<D.lowest->∃ p,D.pages[i]?=some (some p)
 small:D.pages.length<=960000
def Zb (w:World)(F:Nat->Prop)(d:Nat)(D:DS):Prop:=∃ sv ps,Jf1 w F d D sv ps
theorem Qk {w B e sv xs g}(h:Jo w B e sv xs)(y:sv.ownBlock=some g):g<w.heap.size:=by
 rcases h.2 with⟨hv,_⟩|⟨I,cap,H,hv,_,hb,_⟩
 ·subst hv;simp[Value.ownBlock]at y
 subst hv;simp[Value.ownBlock]at y;subst y;exact Jd hb
theorem Yd {w w' B e sv xs}(h:Jo w B e sv xs)(K:∀ g,sv.ownBlock=some g->w'.heap[g]?=w.heap[g]?):Jo w' B e sv xs:=by
 refine⟨h.1,?_⟩;rcases h.2 with h|⟨y,cap,H,hv,I,hb,hr⟩
 ·exact .inl h
 refine .inr ⟨y,cap,H,hv,I,?_,hr⟩;rw[K y (by subst hv;simp[Value.ownBlock])];exact hb
theorem Jf1.stands {w w' F d D sv ps}(h:Jf1 w F d D sv ps)(y:∀ k,F k->k<w.heap.size->w'.heap[k]?=w.heap[k]?):Jf1 w' F d D sv ps:=
 ⟨by rw[y d h.dF (Jd h.cells)];exact h.cells,Yd h.own fun g H=>y g (h.ownF g H).1 (Qk h.own H),h.ownF,h.dF,h.len,
  fun i b hi=>by obtain⟨f,I,K,p,hp,hq⟩:=h.page i b hi;exact⟨f,I,K,p,hp,hq.of_block (y b f hq.2.lt)⟩,h.vacant,h.inj,h.low,h.full,h.small⟩
theorem Zb.stands {w w' F d D}(h:Zb w F d D)(y:∀ k,F k->k<w.heap.size->w'.heap[k]?=w.heap[k]?):Zb w' F d D:=by
 obtain⟨sv,ps,h⟩:=h;exact⟨sv,ps,h.stands y⟩
theorem Jf1.below {w w' F d D sv ps}(h:Jf1 w F d D sv ps)(hb:Bq w w'):Jf1 w' F d D sv ps:=h.stands fun k _ y=>hb.block k y
theorem Zb.below {w w' F d D}(h:Zb w F d D)(hb:Bq w w'):Zb w' F d D:=h.stands fun k _ y=>hb.block k y
theorem Jf1.mono {w F G d D sv ps}(h:Jf1 w F d D sv ps)(y:∀ k,k<w.heap.size->F k->G k):Jf1 w G d D sv ps:=
 ⟨h.cells,h.own,fun g H=>⟨y g (Qk h.own H) (h.ownF g H).1,(h.ownF g H).2⟩,y d (Jd h.cells) h.dF,h.len,
  fun i b hi=>by obtain⟨f,I,K,p,hp,hq⟩:=h.page i b hi;exact⟨y b hq.2.lt f,I,K,p,hp,hq⟩,h.vacant,h.inj,h.low,h.full,h.small⟩
theorem Zb.mono {w F G d D}(h:Zb w F d D)(y:∀ k,k<w.heap.size->F k->G k):Zb w G d D:=by
 obtain⟨sv,ps,h⟩:=h;exact⟨sv,ps,h.mono y⟩
theorem Jf1.field {w F d D sv ps}(h:Jf1 w F d D sv ps):
  w.cell? ⟨d,0,.none⟩=some (Iq D.quota)/\w.cell? ⟨d,1,.none⟩=some (Iq D.fail)/\w.cell? ⟨d,2,.none⟩=some (Iq D.writes)/\w.cell? ⟨d,3,.none⟩=some (Iq ((Js D.pages:Nat):Int)) /\
   w.cell? ⟨d,4,.none⟩=some (Iq ((D.lowest:Nat):Int))/\w.cell? ⟨d,5,.none⟩=some sv:=by
 simp[World.cell?,h.cells]
theorem Jf1.thaw {w F d D sv ps}(h:Jf1 w F d D sv ps)i:w.frozen? ⟨d,i,.none⟩=false:=by simp[World.frozen?,h.cells]
theorem Ji8 {w B e sv xs}(h:Jo w B e sv xs):∃ a cap,sv=.slice a xs.length cap/\∀ i x,xs[i]?=some x->∃ g,a=some (Aq g)/\sv.ownBlock=some g/\w.cell? (Ar g i)=some x/\w.frozen? ⟨g,i,none⟩=false:=by
 rcases h.2 with⟨hv,h0⟩|⟨g,cap,K,hv,_,hb,M,_,O,I⟩
 ·refine⟨none,0,by rw[hv,h0],fun i x y=>?_⟩;rw[Od3.1 h0]at y;simp at y
 refine⟨some (Aq g),cap,hv,fun i x y=>⟨g,rfl,by subst hv;simp[Value.ownBlock],?_,by simp[World.frozen?,hb]⟩⟩;have hi:i<xs.length:=by
  rcases Oc1 i xs.length with H|H
  ·exact H
  rw[Ob4 H]at y;simp at y
 rw[<-I]at y;rw[Nat.mul_one,Oh3 hi,Oe6]at y;simp[World.cell?,hb,y]
def Jai (l:List (Option (List UInt8)))(page:Int):Bool:=decide (0<=page/\page<l.length)&&(l.getD page.toNat .none).isSome
theorem Jf1.list {w F d D sv ps}(h:Jf1 w F d D sv ps):
  ∃ a cap,sv=.slice a ps.length cap/\∀ (i:Nat) (hi:i<ps.length),∃ g,a=some (Aq g)/\F g/\g≠d/\w.cell? (Ar g i)=some (Kew ps[i])/\w.frozen? ⟨g,i,none⟩=false:=by
 obtain⟨a,cap,H,O⟩:=Ji8 h.own;rw[Oa6]at H;refine⟨a,cap,H,fun i hi=>?_⟩;obtain⟨g,I,y,K,M⟩:=O i (Kew ps[i]) (by simp[hi]);exact⟨g,I,(h.ownF g y).1,(h.ownF g y).2,K,M⟩
theorem Jf1.which {w F d D sv ps}(h:Jf1 w F d D sv ps)i(hi:i<ps.length):(D.pages.getD i none).isSome=ps[i].isSome:=by
 cases hq:ps[i]with
 |none=>rw[Oa0,h.vacant i (by rw[<-hq];simp[hi])];rfl
 |some b=>obtain⟨_,_,_,p,hp,_⟩:=h.page i b (by rw[<-hq];simp[hi]);rw[Oa0,hp];rfl
theorem zaJ {p:Prop}(h:p:=by
 clear y h hlen;go_enter func46,ntmps46
 go_wp2;go_ret
 exact⟨Qr (by first|(simp;done)|(simp;omega)),rfl⟩):p:=h
theorem Jwv d page w F D(h:Zb w F d D):
  Cq 46 #[Pq d,Iq page] w fun e w'=>e=.returned (.bool (Jai D.pages page))/\w'=w:=by
 obtain⟨sv,ps,h⟩:=h;obtain⟨_,_,_,_,_,c5⟩:=h.field;obtain⟨a,cap,rfl,y⟩:=h.list;have hlen:=h.len;unfold Jai;rw[<-hlen];by_cases h0:0<=page
 ·obtain⟨i,rfl⟩:=Int.eq_ofNat_of_zero_le h0;by_cases hi:i<ps.length
  ·obtain⟨g,rfl,_,_,c,f⟩:=y i hi;have H:=h.which i hi;have I:(i:Int)<(ps.length:Int):=zo;rw[show (Int.toNat (i:Int))=i from rfl,H];clear H y h hlen;cases hq:ps[i]with
   |none=>
    rw[hq]at c;simp only[Kew]at c;go_enter func46,ntmps46
    go_wp2;go_ret
    exact⟨Qr zS,rfl⟩
   |some b=>
    rw[hq]at c;simp only[Kew]at c;go_enter func46,ntmps46
    go_wp2;go_ret
    exact⟨Qr (by simp[hi]),rfl⟩
  have I:¬ (i:Int)<(ps.length:Int):=zo;exact zaJ
 exact zaJ
theorem Qay d w F D(h:Zb w F d D):
  Cq 27 #[Pq d] w fun e w'=>e=.returned (Iq ((Js D.pages:Nat):Int))/\w'=w:=by
 obtain⟨sv,ps,h⟩:=h;obtain⟨_,_,_,c3,_,_⟩:=h.field;clear h;go_enter func27,ntmps27
 go_wp2;go_ret
 exact⟨rfl,rfl⟩
def Ku (q f:Int):DS:=⟨q,f,0,0,[]⟩
theorem Kcn q f w:
  Cq 32 #[.agg #[Iq q,Iq f]] w fun e w'=>∃ b,e=.returned (Pq b)/\w.heap.size<=b/\Zb w' (fun k=>k=b) b (Ku q f)/\Bq w w':=by
 go_enter func32,ntmps32
 go_wp2;go_ret
 refine⟨_,rfl,?_,⟨Sz,[],?_,Jo.nil _ _ _,?_,rfl,rfl,?_,?_,?_,?_,?_,?_⟩,?_⟩
 ·simp
 ·have:=heap_alloc_new (w.alloc (.cells #[Iq q,Iq f] 34)) (.cells #[Iq q,Iq f,iZ,iZ,iZ,Sz] 118);rw[Oa7]at this;exact this
 ·intro g y;simp[Value.ownBlock]at y
 ·intro i b hi;simp at hi
 ·intro i hi;simp at hi
 ·intro i j b hi;simp at hi
 ·simp[Ku]
 ·intro i hi;simp[Ku]at hi
 ·simp[Ku]
 exact((Oa5 _ _).alloc (Oa2 _) _).alloc zS _
theorem Kji:(prog.info? 115).map (fun i=>(i.zero,i.size,i.bytes))=some (some (.pointer none),1,8):=zK
theorem Jf1.turn {w w' F d D sv ps}(h:Jf1 w F d D sv ps)wr lo(K:w'.heap[d]?=some (.cells #[Iq D.quota,Iq D.fail,Iq wr,Iq ((Js D.pages:Nat):Int),Iq ((lo:Nat):Int),sv] 118 (0,0)))(H:∀ k,k≠d->k<w.heap.size->w'.heap[k]?=w.heap[k]?)(O:lo<=D.pages.length)(M:∀ i,i<lo->∃ p,D.pages[i]?=some (some p)):Jf1 w' F d ⟨D.quota,D.fail,wr,lo,D.pages⟩ sv ps:=
 ⟨K,Yd h.own fun g y=>H g (h.ownF g y).2 (Qk h.own y),h.ownF,h.dF,h.len,
  fun i b hi=>by obtain⟨f,I,U,p,hp,hq⟩:=h.page i b hi;exact⟨f,I,U,p,hp,hq.of_block (H b I hq.2.lt)⟩,h.vacant,h.inj,O,M,h.small⟩
theorem Jf1.setLow {w F d D sv ps}(h:Jf1 w F d D sv ps)lo(I:lo<=D.pages.length)(y:∀ i,i<lo->∃ p,D.pages[i]?=some (some p)):
  Jf1 (w.setCell (Ar d 4) (Iq ((lo:Nat):Int))) F d ⟨D.quota,D.fail,D.writes,lo,D.pages⟩ sv ps:=
 h.turn D.writes lo (by have:=Jk h.cells 4 (Iq ((lo:Nat):Int));simpa using this) (fun k H _=>Oa4 _ _ _ _ H) I y
theorem Jf1.setWrites {w F d D sv ps}(h:Jf1 w F d D sv ps)wr:
  Jf1 (w.setCell (Ar d 2) (Iq wr)) F d ⟨D.quota,D.fail,wr,D.lowest,D.pages⟩ sv ps:=
 h.turn wr D.lowest (by have:=Jk h.cells 2 (Iq wr);simpa using this) (fun k y _=>Oa4 _ _ _ _ y) h.low h.full
theorem zaO {p:Prop}(h:p:=by
 rw[Ob6 y]at hi;rcases hz:i-ps.length with _|z
 ·rw[hz]at hi;simp at hi
 rw[hz]at hi;simp at hi):p:=h
theorem Jf1.longer {w w1 F d D sv sv' ps}(h:Jf1 w F d D sv ps)(bk:∀ k,w.heap.size<=k->F k)(bi:Jo w1 0 115 sv' (ps.map Kew++[.pointer none]))(K:∀ k,k<w.heap.size->sv.ownBlock≠some k->w1.heap[k]?=w.heap[k]?)(hb:sv'.ownBlock=sv.ownBlock\/∃ n,sv'.ownBlock=some n/\w.heap.size<=n)(br:D.pages.length<960000):
  Jf1 (w1.setCell (Ar d 5) sv') F d ⟨D.quota,D.fail,D.writes,D.lowest,D.pages++[none]⟩ sv' (ps++[none]):=by
 have Z:=Jd h.cells;have M:∀ g,sv'.ownBlock=some g->g≠d:=by
  intro g H bf;rcases hb with hb|⟨n,hb,I⟩
  ·rw[hb]at H;exact(h.ownF g H).2 bf
  rw[hb]at H;cases H;omega
 have Y:w1.heap[d]?=some (.cells #[Iq D.quota,Iq D.fail,Iq D.writes,Iq ((Js D.pages:Nat):Int),Iq ((D.lowest:Nat):Int),sv] 118 (0,0)):=by
  rw[K d Z (fun e=>(h.ownF d e).2 rfl)];exact h.cells
 have bj:Js (D.pages++[none])=Js D.pages:=by simp[Js,List.countP_append]
 refine⟨?_,?_,?_,h.dF,by simp[h.len],?_,?_,?_,?_,?_,by simp;omega⟩
 ·have:=Jk Y 5 sv';rw[bj];simpa using this
 ·have:(ps++[none]).map Kew=ps.map Kew++[.pointer none]:=by simp[Kew]
  rw[this];exact Yd bi fun g H=>Oa4 _ _ _ _ (M g H)
 ·intro g H;refine⟨?_,M g H⟩;rcases hb with hb|⟨n,hb,I⟩
  ·rw[hb]at H;exact(h.ownF g H).1
  rw[hb]at H;cases H;exact bk _ I
 ·intro i b hi;rcases Oc1 i ps.length with y|y
  ·rw[Ob0 y]at hi;obtain⟨f,O,U,p,hp,hq⟩:=h.page i b hi;refine⟨f,O,?_,p,?_,?_⟩
   ·rcases hb with hb|⟨n,hb,I⟩
    ·rw[hb];exact U
    rw[hb];intro e;have:=hq.2.lt;cases e
    omega
   ·rw[Ob0 (by rw[<-h.len];exact y)];exact hp
   refine hq.of_block ?_;rw[Oa4 _ _ _ _ O];exact K b hq.2.lt U
  exact zaO
 ·intro i hi;rcases Oc1 i ps.length with y|y
  ·rw[Ob0 y]at hi;rw[Ob0 (by rw[<-h.len];exact y)];exact h.vacant i hi
  have:i=ps.length:=by
   rcases Oc1 i (ps.length+1)with h2|h2
   ·omega
   ·rw[Ob4 zt]at hi;simp at hi
  subst this;rw[h.len];simp
 ·intro i j b hi bh;have key:∀ i:Nat,(ps++[none])[i]?=some (some b)->ps[i]?=some (some b):=by
   intro i hi;rcases Oc1 i ps.length with y|y
   ·rwa [Ob0 y]at hi
   exact zaO
  exact h.inj i j b (key i hi) (key j bh)
 ·simp;have:=h.low;omega
 intro i hi;obtain⟨p,hp⟩:=h.full i hi;refine⟨p,?_⟩;rw[Ob0]
 ·exact hp
 have:=h.low;simp at hi |-;omega
def Kb:List (Option (List UInt8))->Nat
 |[]=>0
 |none::_=>0
 |some _::l=>Kb l+1
theorem Jeu:∀ l,Kb l<=l.length
 |[]=>Oa2 _
 |none::_=>by simp[Kb]
 |some _::l=>by simp[Kb];exact Jeu l
theorem Kiv:∀ (l:List (Option (List UInt8)))(i:Nat),i<Kb l->∃ p,l[i]?=some (some p)
 |[],i,h=>by simp[Kb]at h
 |none::_,i,h=>by simp[Kb]at h
 |some x::l,0,_=>⟨x,rfl⟩
 |some x::l,i+1,h=>by
  obtain⟨p,hp⟩:=Kiv l i (by simp[Kb]at h;omega);exact⟨p,by simpa using hp⟩
theorem Jc3:∀ (l:List (Option (List UInt8))),Kb l<l.length->l[Kb l]?=some none
 |[],h=>by simp at h
 |none::_,_=>rfl
 |some x::l,h=>by simpa [Kb] using Jc3 l (by simp[Kb]at h;omega)
theorem Kjh l k(h:∀ i,i<k->∃ p,l[i]?=some (some p))(H:k<=l.length):k<=Kb l:=by
 rcases Oc1 (Kb l) k with y|y
 ·obtain⟨p,hp⟩:=h _ y;rw[Jc3 l zo]at hp;simp at hp
 exact y
def Ki1 (D:DS):DS:=⟨D.quota,D.fail,D.writes,Kb D.pages,if Kb D.pages<D.pages.length then D.pages else D.pages++[none]⟩
theorem Jtc {l}{i:Nat}{p}(h:l[i]?=some (some p)):Jai l (i:Int)=true:=by
 have hi:i<l.length:=by
  rcases Oc1 i l.length with y|y
  ·exact y
  rw[Ob4 y]at h;simp at h
 unfold Jai;rw[Og5,decide_eq_true_eq,Oa0,show (Int.toNat (i:Int))=i from rfl,h];exact⟨zo,rfl⟩
theorem Jsj l:Jai l ((Kb l:Nat):Int)=false:=by
 unfold Jai;rw[Bool.and_eq_false_iff];rcases Oc1 (Kb l) l.length with y|y
 ·right;rw[Oa0,show (Int.toNat ((Kb l:Nat):Int))=Kb l from rfl,Jc3 l y];rfl
 left;simp;omega
theorem Kkj d w F D(h:Zb w F d D)(bM:∀ k,w.heap.size<=k->F k)(bB:D.pages.length<960000):
  Cq 112 #[Pq d] w fun e w'=>e=.returned (Iq ((Kb D.pages:Nat):Int)) /\
   Zb w' F d (Ki1 D)/\Ju F w w':=by
 obtain⟨sv,ps,h⟩:=h;go_enter func112,ntmps112
 go_wp2;go_loopw [8] (fun _ wr=>∃ k:Nat,k<=Kb D.pages/\Jf1 wr F d ⟨D.quota,D.fail,D.writes,k,D.pages⟩ sv ps/\Ju F w wr) (fun _ wr=>D.pages.length+1-(intOf ((wr.cell? (Ar d 4)).getD undef)).toNat)
 case atStart=>exact⟨D.lowest,Kjh _ _ h.full h.low,h,Ju.refl _ _⟩
 case round=>
  obtain⟨k,K,y,Z⟩:=hrel;have bz:=Jeu D.pages;obtain⟨_,_,_,_,c4,c5⟩:=y.field;have bG:=y.thaw 4;have bH:=y.thaw 5;have I:=Jwv d (k:Int) wr F _ ⟨sv,ps,y⟩;by_cases bA:k<Kb D.pages
  ·obtain⟨p,hp⟩:=Kiv _ _ bA;rw[Jtc hp]at I;have bN:=y.setLow (k+1) (by show k+1<=D.pages.length;omega) (fun i hi=>Kiv D.pages i zo);have bL:=Z.set y.dF 4 (Iq ((k+1:Nat):Int));clear hp;go_wp2_with (go_at_call 46;refine I.mono ?_;rintro e w' ⟨rfl,bD⟩;subst w')
   go_roundw
   case rel=>exact⟨k+1,zo,by simpa using bN,by simpa using bL⟩
   case measure=>
    simp only[World.cell?_setCell_same _ _ _ c4,c4,Option.getD_some,intOf];omega
  obtain rfl:k=Kb D.pages:=zo;rw[Jsj]at I;obtain⟨a,cap,rfl,bK⟩:=y.list;have bh:Hid (ps.length=D.pages.length):=y.len;have bE:Hid (Jo wr 0 115 (.slice a ps.length cap) (ps.map Kew)):=y.own;obtain⟨U,M⟩:∃ U,Hid (Kb D.pages=U):=⟨_,rfl⟩;rw[M.out]at I c4;clear bK bG K bA;by_cases Y:Kb D.pages<D.pages.length
  ·have bf:Hid (Ki1 D=⟨D.quota,D.fail,D.writes,Kb D.pages,D.pages⟩):=by show Ki1 D=_;rw[Ki1,if_pos Y]
   have bJ:(((U:Nat):Int)==((ps.length:Nat):Int))=false:=by have:=bh.out;have:=M.out;rw[beq_eq_false_iff_ne];omega
   have O:=zh y;clear Y bz bB y;go_wp2_with (go_at_call 46;refine I.mono ?_;rintro e w' ⟨rfl,bD⟩;subst w')
   go_quiet (fail)
   go_wp2;go_ret
   refine⟨Yp (by rw[M.out]),?_,Z.drewN _⟩;rw[bf.out];exact⟨_,ps,O.out.below (Jp (Oa5 _ _) _)⟩
  have bf:Hid (Ki1 D=⟨D.quota,D.fail,D.writes,Kb D.pages,D.pages++[none]⟩):=by show Ki1 D=_;rw[Ki1,if_neg Y]
  have bJ:(((U:Nat):Int)==((ps.length:Nat):Int))=true:=by have:=bh.out;have:=M.out;rw[beq_iff_eq];omega
  have bP:ps.length+1<=1000000:=by have:=bh.out;omega
  have O:=zh y;have bj:(Value.slice a ps.length cap).ownBlock≠some d:=fun e=>(y.ownF d e).2 rfl;have bi:=Jd y.cells;have bQ:=Z.size;clear Y bz y;go_wp2_with (go_at_call 46;refine I.mono ?_;rintro e w' ⟨rfl,bD⟩;subst w')
  go_quiet (fail)
  go_wp2_with (at_builtin;go_must (refine Ks zR _ _ 116 115 _ 8 Kji zR zd zK zR 0 _ _ zR (Jo.alloc (w:=wr.drewN nq) bE.out _) ⟨wr.heap.size,0,none⟩ 1 [.pointer none] zR (by exact Ua (wr.drewN nq) _ _) (by intro u bC;simp at bC;subst bC;rfl) (by simp only[List.length_cons,List.length_nil,Oa6];omega) zS ?_);intro sv' w1 br H bI;obtain⟨a2,bO,rfl,_⟩:=br.cells;have bS:w1.cell? (Ar d 5)=some (.slice a ps.length cap):=(by rw[H.cell_far _ zt (Oc5 bj)];exact(Jnf (wr.drewN nq) _ d 5 bi).trans c5);have bT:w1.frozen? ⟨d,5,none⟩=false:=(by rw[H.frozen_far _ zt (Oc5 bj)];exact(Jh9 (wr.drewN nq) _ d 5 bi).trans bH);have bR:w1.cell? (Ar d 4)=some (Iq ((U:Nat):Int)):=(by rw[H.cell_far _ zt (Oc5 bj)];exact(Jnf (wr.drewN nq) _ d 4 bi).trans c4))
  go_ret
  have bx:∀ k,k<wr.heap.size->(Value.slice a ps.length cap).ownBlock≠some k->w1.heap[k]?=wr.heap[k]?:=fun k K bk=>(H.block k zt (Oc5 bk)).trans (Oa9 (wr.drewN nq) _ k K);have hl:=O.out.longer (fun k K=>bM k zo) br bx (bI.imp id fun e=>⟨_,e,zS⟩) bB;simp only[Oa8,Oa6,List.length_cons,List.length_nil]at hl;refine⟨Yp (by rw[M.out]),?_,?_⟩
  ·rw[bf.out];exact⟨_,_,hl⟩
  refine Ju.set ?_ O.out.dF 5 _;refine Z.trans ⟨H.os,H.tape,H.output,Ob2 zS H.size,fun k K bk=>bx k K fun e=>bk (O.out.ownF k e).1⟩
theorem Jf1.drewN {w F d D sv ps}(h:Jf1 w F d D sv ps)n:Jf1 (w.drewN n) F d D sv ps:=h.below (Jp (Oa5 _ _) _)
theorem Jwl (w:World)(q:Addr)(p:Int):Yu (w.alloc (.cells #[Ie 435 q,Iq p] 152)) (Ip 149 w.heap.size) q none (some p):=
 .disk _ _ _ zS zS
theorem Kjc d s w F D(h:Zb w F d D)q(hq:w.cell? (Aq 5)=some (Ie 435 q))(y:D.quota<=((Js D.pages:Nat):Int)):
  Cq 88 #[Pq d,.string s] w fun e w'=>Bq w w'/\∃ b,e=.returned (.tuple #[iZ,Ip 149 b])/\w.heap.size<=b/\Yu w' (Ip 149 b) q none (some (-1)):=by
 obtain⟨sv,ps,h⟩:=h;obtain⟨c0,_,_,c3,_,_⟩:=h.field;clear h;go_enter func88,ntmps88
 go_wp2_with fail
 go_quiet (fail)
 go_wp2_with fail
 go_region
 go_wp2;go_ret2
 have hb:Bq w ((w.drewN (nq+1)).alloc (.cells #[Ie 435 q,iM] 152)):=(Jp (Oa5 _ w) _).alloc (Oa2 _) _;exact⟨hb,_,rfl,Oa2 _,Jwl (w.drewN (nq+1)) q (-1)⟩
def Jvn (D:DS):DS:=⟨D.quota,D.fail,wrap64 (D.writes+1),D.lowest,D.pages⟩
theorem Kj0 d s w F D(h:Zb w F d D)q(hq:w.cell? (Aq 6)=some (Ie 435 q))(bf:¬ D.quota<=((Js D.pages:Nat):Int))(I:wrap64 (D.writes+1)=D.fail):
  Cq 88 #[Pq d,.string s] w fun e w'=>Ju F w w'/\Zb w' F d (Jvn D)/\∃ b,e=.returned (.tuple #[iZ,Ip 149 b])/\w.heap.size<=b/\Yu w' (Ip 149 b) q none (some (-1)):=by
 obtain⟨sv,ps,h⟩:=h;obtain⟨c0,c1,c2,c3,_,_⟩:=h.field;have U:=h.thaw 2;have y:=zh h;have H:=zh I;clear I h;go_enter func88,ntmps88
 go_wp2_with fail
 go_quiet (fail)
 go_upto_region 4 with fail
 have M:=(y.out.drewN nq).setWrites (wrap64 (D.writes+1));have Z:(wrap64 (D.writes+1)==D.fail)=true:=by rw[beq_iff_eq];exact H.out
 have O:Hid (Jvn D=⟨D.quota,D.fail,wrap64 (D.writes+1),D.lowest,D.pages⟩):=rfl;have K:Ju F w ((w.drewN nq).setCell (Ar d 2) (Iq (wrap64 (D.writes+1)))):=((Ju.refl F w).drewN nq).set y.out.dF 2 _;have bh:((w.drewN nq).setCell (Ar d 2) (Iq (wrap64 (D.writes+1)))).cell? (Aq 6)=some (Ie 435 q):=by
  rw[Ob5 _ _ _ _ zS];exact hq
 clear H c0 c1 c2 c3 U y hq;generalize wrap64 (D.writes+1)=Y at *;obtain⟨_,c1,c2,_,_,_⟩:=M.field;generalize (w.drewN nq).setCell (Ar d 2) (Iq Y)=W at *;simp only at c1 c2;go_quiet (fail)
 go_wp2_with fail
 go_region
 go_wp2;go_ret2
 have hb:Bq W ((W.drewN (nq+1)).alloc (.cells #[Ie 435 q,iM] 152)):=(Jp (Oa5 _ W) _).alloc (Oa2 _) _;refine⟨K.trans (.of_below hb),?_,_,rfl,K.size,Jwl (W.drewN (nq+1)) q (-1)⟩;rw[O.out];exact⟨_,_,M.below hb⟩
theorem Jl5:∀ (l:List (Option (List UInt8)))(i:Nat)(p:List UInt8),l[i]?=some none->Js (l.set i (some p))=Js l+1
 |[],i,_,h=>by simp at h
 |x::l,0,p,h=>by
  simp at h;subst h;simp[Js]
 |x::l,i+1,p,h=>by
  have:=Jl5 l i p (by simpa using h);simp only[Js,List.set_cons_succ,On3]at this |-;omega
theorem Jii:∀ (l:List (Option (List UInt8)))(i:Nat)(p:List UInt8),l[i]?=some (some p)->Js (l.set i none)+1=Js l
 |[],i,_,h=>by simp at h
 |x::l,0,p,h=>by
  simp at h;subst h;simp[Js]
 |x::l,i+1,p,h=>by
  have:=Jii l i p (by simpa using h);simp only[Js,List.set_cons_succ,On3]at this |-;omega
theorem Kka {w B e sv xs g}(h:Jo w B e sv xs)(y:sv.ownBlock=some g)i(hi:i<xs.length)v:Jo (w.setCell (Ar g i) v) B e sv (xs.set i v):=by
 refine⟨zS,?_⟩;rcases h.2 with⟨hv,h0⟩|⟨I,cap,H,hv,K,hb,O,U,Y,M⟩
 ·omega
 subst hv;simp[Value.ownBlock]at y;subst y;refine .inr ⟨I,cap,H.setIfInBounds i v,zS,K,Jk hb i v,by simpa using O,U,by simpa using Y,?_⟩;rw[Of8,Ok0,List.take_set,M]
theorem Jf1.put {w F d D sv ps}(h:Jf1 w F d D sv ps){g}(K:sv.ownBlock=some g)i(hi:D.pages[i]?=some none)b p(hp:Jdp w b p)(hF:F b)(bh:b≠d)(bi:b≠g)(br:∀ j:Nat,ps[j]?≠some (some b)):
  Jf1 ((w.setCell (Ar g i) (Pq b)).setCell (Ar d 3) (Iq ((Js D.pages+1:Nat):Int))) F d ⟨D.quota,D.fail,D.writes,D.lowest,D.pages.set i (some p)⟩ sv (ps.set i (some b)):=by
 have Y:i<D.pages.length:=by
  rcases Oc1 i D.pages.length with U|U
  ·exact U
  rw[Ob4 U]at hi;simp at hi
 have M:i<ps.length:=by rw[h.len];exact Y
 have bk:=(h.ownF g K).2;have bD:(w.setCell (Ar g i) (Pq b)).heap[d]?=some (.cells #[Iq D.quota,Iq D.fail,Iq D.writes,Iq ((Js D.pages:Nat):Int),Iq ((D.lowest:Nat):Int),sv] 118 (0,0)):=by
  rw[Oa4 _ _ _ _ (show d≠g from Oc5 bk)];exact h.cells
 have bx:∀ k,k≠g->k≠d->((w.setCell (Ar g i) (Pq b)).setCell (Ar d 3) (Iq ((Js D.pages+1:Nat):Int))).heap[k]?=w.heap[k]?:=fun k bB bC=>by
  rw[Oa4 _ _ _ _ bC,Oa4 _ _ _ _ bB]
 refine⟨?_,?_,h.ownF,h.dF,by simp[h.len],?_,?_,?_,by simpa using h.low,?_,by simpa using h.small⟩
 ·have:=Jk bD 3 (Iq ((Js D.pages+1:Nat):Int));rw[Jl5 _ _ _ hi];simpa using this
 ·rw[Op0];refine Yd (Kka h.own K i (by simpa using M) _) fun bE bj=>?_;rw[K]at bj;cases bj
  exact Oa4 _ _ _ _ bk
 ·intro j c y;by_cases H:j=i
  ·subst H;rw[Oh0 M]at y;simp at y;subst y;exact⟨hF,bh,by rw[K];intro e;cases e;exact bi rfl,p,by simp[Y],hp.of_block (bx b bi bh)⟩
  rw[Od1 (Oc5 H)]at y;obtain⟨f,bz,bA,bf,Z,hq⟩:=h.page j c y;refine⟨f,bz,bA,bf,by rw[Od1 (Oc5 H)];exact Z,hq.of_block (bx c (fun e=>bA (by rw[K,e])) bz)⟩
 ·intro j y;by_cases H:j=i
  ·subst H;rw[Oh0 M]at y;simp at y
  rw[Od1 (Oc5 H)]at y |-;exact h.vacant j y
 ·intro j k c y I;by_cases H:j=i
  ·subst H;rw[Oh0 M]at y;simp at y;subst y;by_cases O:k=j
   ·exact O.symm
   rw[Od1 (Oc5 O)]at I;exact absurd I (br k)
  rw[Od1 (Oc5 H)]at y;by_cases O:k=i
  ·subst O;rw[Oh0 M]at I;simp at I;subst I;exact absurd y (br j)
  rw[Od1 (Oc5 O)]at I;exact h.inj j k c y I
 intro j y;by_cases H:j=i
 ·subst H;exact⟨p,by simp[Y]⟩
 obtain⟨bf,Z⟩:=h.full j y;exact⟨bf,by rw[Od1 (Oc5 H)];exact Z⟩
def Zn (D:DS)(y:List UInt8):DS:=⟨D.quota,D.fail,wrap64 (D.writes+1),Kb D.pages,(if Kb D.pages<D.pages.length then D.pages else D.pages++[none]).set (Kb D.pages) (some (Jdm y))⟩
theorem Jsk l:(if Kb l<l.length then l else l++[none])[Kb l]?=some none:=by
 by_cases h:Kb l<l.length
 ·rw[if_pos h];exact Jc3 l h
 rw[if_neg h];have:=Jeu l;have:Kb l=l.length:=zo;rw[this];simp
theorem Kjt d I(cb:I.length<=56)w F D(h:Zb w F d D)(cf:D.pages.length<960000)(cC:¬ D.quota<=((Js D.pages:Nat):Int))(bH:¬ wrap64 (D.writes+1)=D.fail):
  Cq 88 #[Pq d,.string (Qw I)] w fun e w'=>Ju F w w'/\Zb w' (up F w) d (Zn D I)/\e=.returned (.tuple #[Iq ((Kb D.pages:Nat):Int),.nilIface]):=by
 obtain⟨sv,ps,h⟩:=h;obtain⟨c0,c1,c2,c3,_,_⟩:=h.field;have bR:=h.thaw 2;have bf:=zh h;have bA:=zh bH;clear bH h;go_enter func88,ntmps88
 go_wp2_with fail
 go_quiet (fail)
 go_upto_region 4 with fail
 have bk:=(bf.out.drewN nq).setWrites (wrap64 (D.writes+1));have cA:(wrap64 (D.writes+1)==D.fail)=false:=by rw[beq_eq_false_iff_ne];exact bA.out
 have bx:Hid (Zn D I=⟨D.quota,D.fail,wrap64 (D.writes+1),Kb D.pages,(if Kb D.pages<D.pages.length then D.pages else D.pages++[none]).set (Kb D.pages) (some (Jdm I))⟩):=rfl;have bj:Ju (up F w) w ((w.drewN nq).setCell (Ar d 2) (Iq (wrap64 (D.writes+1)))):=((Ju.refl _ w).drewN nq).set (.inl bf.out.dF) 2 _;have cj:((w.drewN nq).setCell (Ar d 2) (Iq (wrap64 (D.writes+1)))).heap.size=w.heap.size:=by simp[World.setCell]
 clear bA c0 c1 c2 c3 bR bf;generalize wrap64 (D.writes+1)=cu at *;obtain⟨_,c1,c2,_,_,_⟩:=bk.field;generalize (w.drewN nq).setCell (Ar d 2) (Iq cu)=W at *;simp only at c1 c2;have cn:=bk.mono (G:=up F w) (fun k _ bX=>.inl bX);clear bk;go_quiet (fail)
 go_wp2_with fail
 refine(Kkj d (W.drewN nq) (up F w) _ ⟨_,_,cn.drewN nq⟩ (fun k bj=>.inr (by simpa [cj] using bj)) cf).mono ?_;rintro e K ⟨rfl,⟨cF,U,H⟩,bK⟩;have bJ:=bj.trans (Ju.trans ((Ju.refl _ W).drewN nq) bK);have M:=Jsk D.pages;have Z:Hid (Kb D.pages<(if Kb D.pages<D.pages.length then D.pages else D.pages++[none]).length):=by
  rcases Oc1 (Kb D.pages) (if Kb D.pages<D.pages.length then D.pages else D.pages++[none]).length with bh|bh
  ·exact bh
  rw[Ob4 bh]at M;simp at M
 simp only[Ki1]at H;generalize (if Kb D.pages<D.pages.length then D.pages else D.pages++[none])=pgs at *;obtain⟨y,bz⟩:∃ y,Hid (Kb D.pages=y):=⟨_,rfl⟩;rw[bz.out]at H bx M Z |-;obtain⟨_,_,_,c3,_,c5⟩:=H.field;obtain⟨a1,cy,rfl,bG⟩:=H.list;have hlen:=H.len;simp only at hlen c3;have bI:y<U.length:=by rw[hlen];exact Z.out
 obtain⟨g,rfl,bV,cD,cg,bT⟩:=bG y bI;have bM:U[y]=none:=by
  cases hq:U[y]with
  |none=>rfl
  |some b=>
   obtain⟨_,_,_,p,hp,_⟩:=H.page y b (by rw[<-hq];simp[bI]);rw[M]at hp;simp at hp
 rw[bM]at cg;simp only[Kew]at cg;have cv:=zh hlen;have cB:(y:Int)<(U.length:Int):=zo;have bS:=H.thaw 3;have bW:=bJ.size;have bi:=Jm cg;have O:=Jm c5;simp only at bi O;have cE:=Kad pgs;have ci:=H.small;simp only at ci;clear bG hlen bM Z bK;go_wp2_with fail
 have bN:=Kkp I cb K.drew;go_region_with (first|(go_at_call 113;refine bN.mono ?_;rintro e Y ⟨rfl,ca,bD⟩;obtain⟨kk,br⟩:=Kx bD;have bP:=(kk d 5 O).trans c5;have bQ:=(kk g y bi).trans cg;have bU:=(br g y bi).trans bT;have bB:=(kk d 3 O).trans c3;have bC:=(br d 3 O).trans bS))
 all_goals
  have bE:=Jw bD;have bO:=H.below bE;have cc:=bO.put (g:=g) rfl y M K.heap.size (Jdm I) ca (.inr bW) zo zo (fun j bY=>by obtain⟨_,_,_,p,_,hq⟩:=H.page j _ bY;exact absurd hq.2.lt (Oe3 _));have bL:Ju (up F w) w (Y.setCell (Ar g y) (Pq K.heap.size)):=(bJ.trans (.of_below bE)).set bV y _;have bZ:=bL.set (H.dF) 3 (Iq ((Js pgs+1:Nat):Int));have cx:(Y.setCell (Ar g y) (Pq K.heap.size)).cell? (Ar d 3)=some (Iq ((Js pgs:Nat):Int)):=by rw[Ob5 _ _ _ _ (by first|(simp;done)|(simp;omega))];exact bB
  have cz:(Y.setCell (Ar g y) (Pq K.heap.size)).frozen? ⟨d,3,none⟩=false:=by rw[On9];exact bC
  clear bB bC bQ bU bP kk br bN bO bL;generalize Y.setCell (Ar g y) (Pq K.heap.size)=cG at *;go_wp2;go_ret2
  refine⟨Ju.down (by simpa using bZ),?_,by rw[bz.out];rfl⟩;rw[bx.out];exact⟨_,_,by simpa using cc⟩
def nv (n:Nat):Value:=Iq (n:Int)
theorem Ki8 l i p(h:l[i]?=some (some p)):((Js l:Nat):Int)-1=((Js (l.set i none):Nat):Int):=by
 have:=Jii l i p h;omega
theorem Jf1.drop {w F d D sv ps}(h:Jf1 w F d D sv ps){g}(I:sv.ownBlock=some g)i p(hi:D.pages[i]?=some (some p)):
  Jf1 (((w.setCell (Ar g i) (.pointer none)).setCell (Ar d 3) (Iq ((Js (D.pages.set i none):Nat):Int))).setCell (Ar d 4) (Iq ((min D.lowest i:Nat):Int))) F d ⟨D.quota,D.fail,D.writes,min D.lowest i,D.pages.set i none⟩ sv (ps.set i none):=by
 have bh:i<D.pages.length:=by
  rcases Oc1 i D.pages.length with K|K
  ·exact K
  rw[Ob4 K]at hi;simp at hi
 have O:i<ps.length:=by rw[h.len];exact bh
 have M:=(h.ownF g I).2;have br:(w.setCell (Ar g i) (.pointer none)).heap[d]?=some (.cells #[Iq D.quota,Iq D.fail,Iq D.writes,Iq ((Js D.pages:Nat):Int),Iq ((D.lowest:Nat):Int),sv] 118 (0,0)):=by
  rw[Oa4 _ _ _ _ (show d≠g from Oc5 M)];exact h.cells
 have bz:∀ k,k≠g->k≠d->(((w.setCell (Ar g i) (.pointer none)).setCell (Ar d 3) (Iq ((Js (D.pages.set i none):Nat):Int))).setCell (Ar d 4) (Iq ((min D.lowest i:Nat):Int))).heap[k]?=w.heap[k]?:=fun k bk Z=>by
  rw[Oa4 _ _ _ _ Z,Oa4 _ _ _ _ Z,Oa4 _ _ _ _ bk]
 refine⟨?_,?_,h.ownF,h.dF,by simp[h.len],?_,?_,?_,?_,?_,by simpa using h.small⟩
 ·have:=Jk (Jk br 3 (Iq ((Js (D.pages.set i none):Nat):Int))) 4 (Iq ((min D.lowest i:Nat):Int));simpa using this
 ·rw[Op0];refine Yd (Kka h.own I i (by simpa using O) _) fun bA bf=>?_;rw[I]at bf;cases bf
  rw[Oa4 _ _ _ _ M,Oa4 _ _ _ _ M];rfl
 ·intro j c y;by_cases H:j=i
  ·subst H;rw[Oh0 O]at y;simp at y
  rw[Od1 (Oc5 H)]at y;obtain⟨f,bi,bj,Y,U,hq⟩:=h.page j c y;refine⟨f,bi,bj,Y,by rw[Od1 (Oc5 H)];exact U,hq.of_block (bz c (fun e=>bj (by rw[I,e])) bi)⟩
 ·intro j y;by_cases H:j=i
  ·subst H;simp[bh]
  rw[Od1 (Oc5 H)]at y |-;exact h.vacant j y
 ·intro j k c y bx;have key:∀ j:Nat,(ps.set i none)[j]?=some (some c)->ps[j]?=some (some c):=by
   intro j y;by_cases H:j=i
   ·subst H;rw[Oh0 O]at y;simp at y
   rwa [Od1 (Oc5 H)]at y
  exact h.inj j k c (key j y) (key k bx)
 ·have:=h.low;simp;omega
 intro j y;simp only at y;obtain⟨Y,U⟩:=h.full j zo;refine⟨Y,?_⟩;rw[Od1 zo];exact U
def Jae (D:DS)(i:Nat):DS:=if Jai D.pages (i:Int)=true then ⟨D.quota,D.fail,D.writes,min D.lowest i,D.pages.set i none⟩else D
def Jf4 (D:DS)(l:List Nat):DS:=l.foldl Jae D
theorem Kkf D l i:Jf4 D (l++[i])=Jae (Jf4 D l) i:=by simp[Jf4]
theorem Jf3 {l}{i:Nat}(h:Jai l (i:Int)=true):∃ p,l[i]?=some (some p):=by
 unfold Jai at h;rw[Og5,decide_eq_true_eq,Oa0,show (Int.toNat (i:Int))=i from rfl]at h;cases hq:l[i]? with
 |none=>rw[hq]at h;simp at h
 |some x=>
  rw[hq]at h;cases x with
  |none=>simp at h
  |some p=>exact⟨p,rfl⟩
theorem Ki0 d a cap l w F D(h:Zb w F d D)(hl:Uh w a (l.map nv))(bz:∀ b o,a=some (Ar b o)->¬ F b)(bN:l.length<=1000000):
  Cq 89 #[Pq d,.slice a l.length cap] w fun e w'=>e=.returned (.tuple #[])/\Zb w' F d (Jf4 D l)/\Ju F w w':=by
 go_enter func89,ntmps89
 go_wp2;go_loopw [8] (fun i wr=>∃ k:Nat,k<=l.length/\i=Iq k/\Zb wr F d (Jf4 D (l.take k))/\Ju F w wr) (fun i _=>l.length-(intOf i).toNat)
 case atStart=>exact⟨0,Ob7 _,rfl,by simpa [Jf4] using h,Ju.refl _ _⟩
 case round=>
  rename_i i
  obtain⟨k,bJ,rfl,I,M⟩:=hrel;by_cases Y:k<l.length
  ·have Z:Hid (Jf4 D (l.take (k+1))=Jae (Jf4 D (l.take k)) l[k]):=by
    show Jf4 D (l.take (k+1))=_;rw[Oc4 Y,Kkf]
   rcases hl with hl|⟨b,o,rfl,hb,hl⟩
   ·simp at hl;subst hl;simp at Y
   have bk:wr.cell? (Ar b (o+k))=some (Iq ((l[k]:Nat):Int)):=M.cell (hl k _ (by simp[Y];rfl)) (bz b o rfl);generalize l[k]=pg at *;generalize Jf4 D (l.take k)=E at *;have K:=Jwv d (pg:Int) wr F E I;obtain⟨sv,ps,y⟩:=I;by_cases H:Jai E.pages (pg:Int)=true
   ·have O:Hid (Jae E pg=⟨E.quota,E.fail,E.writes,min E.lowest pg,E.pages.set pg none⟩):=by show Jae E pg=_;rw[Jae,if_pos H]
    obtain⟨p,hp⟩:=Jf3 H;rw[H]at K;obtain⟨_,_,_,c3,c4,c5⟩:=y.field;have bf:=y.thaw 3;have bh:=y.thaw 4;obtain⟨a1,bE,rfl,bi⟩:=y.list;have bB:pg<ps.length:=by
     rw[y.len];rcases Oc1 pg E.pages.length with U|U
     ·exact U
     rw[Ob4 U]at hp;simp at hp
    obtain⟨g,rfl,bx,bI,cg,br⟩:=bi pg bB;have bC:=y.drop (g:=g) rfl pg p hp;have bQ:=Ki8 E.pages pg p hp;have bO:=Kad E.pages;have bM:=y.small;have bL:(pg:Int)<(ps.length:Int):=zo;have bA:Ju F w (((wr.setCell (Ar g pg) (.pointer none)).setCell (Ar d 3) (Iq ((Js (E.pages.set pg none):Nat):Int))).setCell (Ar d 4) (Iq ((min E.lowest pg:Nat):Int))):=((M.set bx pg _).set y.dF 3 _).set y.dF 4 _;have bR:(wr.setCell (Ar g pg) (.pointer none)).cell? (Ar d 3)=some (Iq ((Js E.pages:Nat):Int)):=by rw[Ob5 _ _ _ _ (by first|(simp;done)|(simp;omega))];exact c3
    have bS:(wr.setCell (Ar g pg) (.pointer none)).cell? (Ar d 4)=some (Iq ((E.lowest:Nat):Int)):=by rw[Ob5 _ _ _ _ (by first|(simp;done)|(simp;omega))];exact c4
    have bG:(wr.setCell (Ar g pg) (.pointer none)).frozen? ⟨d,3,none⟩=false:=by rw[On9];exact bf
    have bH:(wr.setCell (Ar g pg) (.pointer none)).frozen? ⟨d,4,none⟩=false:=by rw[On9];exact bh
    have bK:=y.low;have bP:(1:Int)<=((Js E.pages:Nat):Int):=zo;clear bi y c3 c4 bf bh hp H;go_upto_region 5 with(go_at_call 46;refine K.mono ?_;rintro e w' ⟨rfl,bD⟩;subst w')
    clear cg br bk c5;generalize wr.setCell (Ar g pg) (.pointer none)=w1 at *;go_wp2;go_roundw
    case rel=>
     have bj:(if pg<E.lowest then ((pg:Nat):Int)else ((E.lowest:Nat):Int))=((min E.lowest pg:Nat):Int):=by split<;>omega
     exact⟨k+1,zo,zn,by rw[Z.out,O.out,bj];exact⟨_,_,bC⟩,by rw[bj];exact bA⟩
    case measure=>simp[intOf];omega
   have O:Hid (Jae E pg=E):=by show Jae E pg=_;rw[Jae,if_neg H]
   rw[Oo1]at H;rw[H]at K;go_wp2_with (go_at_call 46;refine K.mono ?_;rintro e w' ⟨rfl,bD⟩;subst w')
   go_roundw
   case rel=>exact⟨k+1,zo,zn,by rw[Z.out,O.out];exact⟨_,_,y⟩,M⟩
   case measure=>simp[intOf];omega
  obtain rfl:k=l.length:=zo;rw[Of2]at I;go_wp2;go_end0
  exact⟨rfl,I,M⟩
theorem Qc6 (x y:Nat)(K:x<256)(hy:y<256):bits .xor .u8 (x:Int) (y:Int)=((x ^^^ y:Nat):Int):=by
 have M:x ^^^ y<256:=Oo8 (n:=8) K hy;have key:(BitVec.ofInt 8 (x:Int) ^^^ BitVec.ofInt 8 (y:Int)).toNat=x ^^^ y:=by
  rw[BitVec.toNat_xor,Ok6,Ok6];have H:((x:Int) % ((2 ^ 8:Nat):Int)).toNat=x:=zo;have I:((y:Int) % ((2 ^ 8:Nat):Int)).toNat=y:=zo;rw[H,I]
 show IntKind.u8.wrap ((BitVec.ofInt 8 (x:Int) ^^^ BitVec.ofInt 8 (y:Int)).toNat:Nat)=_;rw[key,IntKind.wrap_u8];omega
def Kta (p:List UInt8)(i n:Nat):List UInt8:=p.set i (p.getD i 0 ^^^ UInt8.ofNat n)
theorem Kw5 p i n:(Kta p i n).length=p.length:=by simp[Kta]
theorem Jdp.turn {w b p}(h:Jdp w b p)i n(hi:i<64)(I:n<256):Jdp (w.setCell (Ar b i) (.int .u8 (((p.getD i 0).toNat ^^^ n:Nat):Int))) b (Kta p i n):=by
 refine⟨by rw[Kw5];exact h.1,(h.2.set i _).congr fun j H=>?_⟩;by_cases y:j=i
 ·subst y;rw[if_pos rfl];have hl:=h.1;simp[Kta,hl,H,bv,Nat.mod_eq_of_lt I]
 rw[if_neg y];simp[Kta,List.getElem?_set_ne (Ne.symm y)]
theorem Jf1.turnPage {w F d D sv ps}(h:Jf1 w F d D sv ps)i b p(hi:ps[i]?=some (some b))(hp:D.pages[i]?=some (some p))at_ n(bi:at_<64)(bx:n<256):
  Jf1 (w.setCell (Ar b at_) (.int .u8 (((p.getD at_ 0).toNat ^^^ n:Nat):Int))) F d ⟨D.quota,D.fail,D.writes,D.lowest,D.pages.set i (some (Kta p at_ n))⟩ sv ps:=by
 obtain⟨hF,bj,bk,I,Y,bz⟩:=h.page i b hi;obtain rfl:I=p:=by rw[hp]at Y;simpa using Y.symm
 have M:i<D.pages.length:=by
  rcases Oc1 i D.pages.length with K|K
  ·exact K
  rw[Ob4 K]at hp;simp at hp
 have bA:Js (D.pages.set i (some (Kta I at_ n)))=Js D.pages:=by
  have bB:=Jii D.pages i I hp;have bh:=Jl5 (D.pages.set i none) i (Kta I at_ n) (by simp[M]);rw[List.set_set]at bh;omega
 refine⟨?_,Yd h.own fun g br=>Oa4 _ _ _ _ (fun e=>bk (by rw[br,e])),h.ownF,h.dF,by simp[h.len],?_,?_,h.inj,by simpa using h.low,?_,by simpa using h.small⟩
 ·rw[Oa4 _ _ _ _ (show d≠b from Oc5 bj)];simp only[bA];exact h.cells
 ·intro j c y;obtain⟨f,Z,bf,U,O,hq⟩:=h.page j c y;by_cases H:j=i
  ·subst H;obtain rfl:c=b:=by rw[hi]at y;simpa using y.symm
   exact⟨f,Z,bf,_,by simp[M],bz.turn at_ n bi bx⟩
  refine⟨f,Z,bf,U,by rw[Od1 (Oc5 H)];exact O,hq.of_block (Oa4 _ _ _ _ (fun e=>H (h.inj j i b (by rw[show b=c from e.symm];exact y) hi)))⟩
 ·intro j y;by_cases H:j=i
  ·subst H;rw[hi]at y;simp at y
  rw[Od1 (Oc5 H)];exact h.vacant j y
 intro j y;by_cases H:j=i
 ·subst H;exact⟨Kta I at_ n,by simp[M]⟩
 obtain⟨U,O⟩:=h.full j y;exact⟨U,by rw[Od1 (Oc5 H)];exact O⟩
def Kum (D:DS)(page at_ y:Int):Bool:=Jai D.pages page&&decide (0<=at_/\at_<64/\1<=y/\y<=255)
theorem zac {p:Prop}(h:p:=by
 clear y;go_enter func26,ntmps26
 go_wp2_with (go_at_call 46;refine H.mono ?_;rintro e w' ⟨rfl,K⟩;subst w')
 go_ret
 exact⟨rfl,rfl⟩):p:=h
theorem Kz6 d page at_ I w F D(h:Zb w F d D)(y:Kum D page at_ I=false):
  Cq 26 #[Pq d,Iq page,Iq at_,Iq I] w fun e w'=>e=.returned (.bool false)/\w'=w:=by
 have H:=Jwv d page w F D h;clear h;unfold Kum at y;generalize Jai D.pages page=u at *;cases u with
 |false=>
  exact zac
 |true=>
  simp at y;by_cases M:at_<0
  ·exact zac
  by_cases O:at_>=64
  ·exact zac
  by_cases U:I<1
  ·exact zac
  have Y:I>255:=y zo zo zo;exact zac
theorem Ky0 (d:Nat)(pg at_ n:Nat)w F D(h:Zb w F d D)p(hp:D.pages[pg]?=some (some p))(bj:at_<64)(bK:1<=n)(bJ:n<=255):
  Cq 26 #[Pq d,Iq (pg:Int),Iq (at_:Int),Iq (n:Int)] w fun e w'=>e=.returned (.bool true)/\Zb w' F d ⟨D.quota,D.fail,D.writes,D.lowest,D.pages.set pg (some (Kta p at_ n))⟩/\Ju F w w':=by
 have br:=Jwv d (pg:Int) w F D h;rw[Jtc hp]at br;obtain⟨sv,ps,y⟩:=h;obtain⟨_,_,_,_,_,c5⟩:=y.field;obtain⟨a,cap,rfl,bk⟩:=y.list;have bf:pg<ps.length:=by
  rw[y.len];rcases Oc1 pg D.pages.length with M|M
  ·exact M
  rw[Ob4 M]at hp;simp at hp
 obtain⟨g,rfl,bE,bI,cg,bD⟩:=bk pg bf;have K:=y.which pg bf;rw[Oa0,hp]at K;obtain⟨b,hb⟩:∃ b,ps[pg]=some b:=by
  cases hq:ps[pg]with
  |none=>rw[hq]at K;simp at K
  |some b=>exact⟨b,rfl⟩
 rw[hb]at cg;simp only[Kew]at cg;have Y:ps[pg]?=some (some b):=by rw[<-hb];simp[bf]
 obtain⟨bz,bG,bH,H,U,Z⟩:=y.page pg b Y;obtain rfl:H=p:=by rw[hp]at U;simpa using U.symm
 have bh:=y.turnPage pg b H Y hp at_ n bj zo;have O:=(Ju.refl F w).set bz at_ (.int .u8 (((H.getD at_ 0).toNat ^^^ n:Nat):Int));obtain⟨x,bA,bi⟩:∃ x:Nat,x<256/\Hid (x=(H.getD at_ 0).toNat):=⟨_,(H.getD at_ 0).toNat_lt,rfl⟩;have bC:w.cell? (Ar b at_)=some (.int .u8 (x:Nat)):=by rw[Z.2.cell (i:=at_) bj,bi.out];rfl
 have fb:=Z.2.frozen at_;have bN:=Qc6 x n bA zo;rw[<-bi.out]at bh O;have bL:(pg:Int)<(ps.length:Int):=zo;have bx:Hid (Zb (w.setCell (Ar b at_) (.int .u8 ((x ^^^ n:Nat):Int))) F d ⟨D.quota,D.fail,D.writes,D.lowest,D.pages.set pg (some (Kta H at_ n))⟩):=⟨_,_,bh⟩;have I:=zh O;have bB:=zh y;clear bk y Z bh O hp U Y K hb;go_enter func26,ntmps26
 go_wp2_with (go_at_call 46;refine br.mono ?_;rintro e w' ⟨rfl,bM⟩;subst w')
 go_region
 all_goals
  go_wp2;go_ret
  exact⟨rfl,bx.out.stands fun _ _ _=>rfl,I.out.os,I.out.tape,I.out.output,I.out.size,I.out.block⟩
def Jb5:Nat->List UInt8->List (List UInt8)
 |0,_=>[]
 |_+1,[]=>[]
 |n+1,b::t=>(b::t).take 56::Jb5 n ((b::t).drop 56)
def Qu (t:List UInt8):List (List UInt8):=Jb5 t.length t
theorem Jl2:∀ (n m:Nat)(t:List UInt8),t.length<=n->t.length<=m->Jb5 n t=Jb5 m t
 |0,m,[],_,_=>by cases m<;>rfl
 |0,m,b::t,h,_=>by simp at h
 |n+1,0,[],_,_=>rfl
 |n+1,0,b::t,_,h=>by simp at h
 |n+1,m+1,[],_,_=>rfl
 |n+1,m+1,b::t,h,k=>by
  simp only[Jb5];rw[Jl2 n m ((b::t).drop 56) (by simp at h |-;omega) (by simp at k |-;omega)]
theorem Kj2:Qu []=[]:=rfl
theorem Jr2 t(h:t≠[]):Qu t=t.take 56::Qu (t.drop 56):=by
 cases t with
 |nil=>exact absurd rfl h
 |cons b t=>
  unfold Qu;simp only[List.length_cons,Jb5];rw[Jl2 _ ((b::t).drop 56).length _ zS (Oa2 _)]
def Uy (D:DS):List (List UInt8)->DS×List Nat×Option Bool
 |[]=>(D,[],none)
 |p::ps=>if D.quota<=((Js D.pages:Nat):Int)then (D,[],some true)else if wrap64 (D.writes+1)=D.fail then (Jvn D,[],some false)else
   ((Uy (Zn D p) ps).1,Kb D.pages::(Uy (Zn D p) ps).2.1,(Uy (Zn D p) ps).2.2)
def Kiw (l:List Nat)(r:DS×List Nat×Option Bool):DS×List Nat×Option Bool:=(r.1,l++r.2.1,r.2.2)
theorem Kjp l D p ps(y:¬ D.quota<=((Js D.pages:Nat):Int))(H:¬ wrap64 (D.writes+1)=D.fail):
  Kiw l (Uy D (p::ps))=Kiw (l++[Kb D.pages]) (Uy (Zn D p) ps):=by
 simp[Kiw,Uy,y,H]
theorem Zw:(prog.info? 3).map (fun i=>(i.zero,i.size,i.bytes))=some (some iZ,1,8):=zK
theorem Jxm D p:(Zn D p).pages.length<=D.pages.length+1:=by
 simp only[Zn];split<;>simp
def Kky:Value->Nat
 |.string s=>s.size
 |_=>0
theorem Kkb bs i j:(Qw bs).extract i j=Qw ((bs.take j).drop i):=by
 unfold Qw;rw[Om5];simp[List.extract_eq_take_drop,List.drop_take]
def cap (F:Nat->Prop)(w:World):Nat->Prop:=fun k=>F k/\k<w.heap.size
theorem Zb.cap {w F d D}(h:Zb w F d D):Zb w (cap F w) d D:=h.mono fun _ H y=>⟨y,H⟩
structure Kiy (w0:World) (F0:Nat->Prop) (w:World) (d:Nat) (E:DS) (sv:Value) (l:List Nat) (FD:Nat->Prop):Prop where
 disk:Zb w FD d E
 from_:∀ k,FD k->F0 k\/w0.heap.size<=k
 lt:∀ k,FD k->k<w.heap.size
 own:Jo w w0.heap.size 3 sv (l.map nv)
 apart:∀ g,sv.ownBlock=some g->¬ FD g
 keep:Ju F0 w0 w
def Kjn (D:DS):DS×Bool:=if D.quota<=((Js D.pages:Nat):Int)then (D,true)else (Jvn D,false)
theorem Kko D p ps(h:D.quota<=((Js D.pages:Nat):Int)\/wrap64 (D.writes+1)=D.fail):Uy D (p::ps)=((Kjn D).1,[],some (Kjn D).2):=by
 unfold Kjn;by_cases y:D.quota<=((Js D.pages:Nat):Int)
 ·simp[Uy,y]
 have H:=h.resolve_left y;simp[Uy,y,H]
theorem Ki6 {F w w' b a p}(h:Yu w (Ip 149 b) a none (some p))(y:Ju F w w')(hb:¬ F b):Yu w' (Ip 149 b) a none (some p):=by
 obtain⟨h0,H⟩:=h.disk_at;exact .disk b a p (y.cell h0 hb) (y.cell H hb)
theorem Kj7 d s w F D(h:Zb w F d D)q wr(hq:w.cell? (Aq 5)=some (Ie 435 q))(M:w.cell? (Aq 6)=some (Ie 435 wr))(K:D.quota<=((Js D.pages:Nat):Int)\/wrap64 (D.writes+1)=D.fail):
  Cq 88 #[Pq d,.string s] w fun e w'=>Ju F w w'/\Zb w' F d (Kjn D).1/\∃ b,e=.returned (.tuple #[iZ,Ip 149 b])/\w.heap.size<=b/\Yu w' (Ip 149 b) (if (Kjn D).2 then q else wr) none (some (-1)):=by
 unfold Kjn;by_cases y:D.quota<=((Js D.pages:Nat):Int)
 ·rw[if_pos y];refine(Kjc d s w F D h q hq y).mono ?_;rintro e w' ⟨hb,b,rfl,H,I⟩;exact⟨.of_below hb,h.below hb,b,rfl,H,I⟩
 rw[if_neg y];exact Kj0 d s w F D h wr M y (K.resolve_left y)
def Kkw (w:World)(F:Nat->Prop)(d:Nat)(q wr:Addr)(r:DS×List Nat×Option Bool)(e:Ending)(w':World):Prop:=
 Ju F w w'/\∃ FD:Nat->Prop,Zb w' FD d (match r.2.2 with|none=>r.1|some _=>Jf4 r.1 r.2.1)/\(∀ k,FD k->F k\/w.heap.size<=k)/\(∀ k,FD k->k<w'.heap.size) /\
  match r.2.2 with
  |none=>∃ sv,e=.returned (.tuple #[sv,.nilIface])/\Jo w' w.heap.size 3 sv (r.2.1.map nv)/\∀ g,sv.ownBlock=some g->¬ FD g
  |some x=>∃ b,e=.returned (.tuple #[Sz,Ip 149 b])/\w.heap.size<=b/\Yu w' (Ip 149 b) (if x then q else wr) none (some (-1))/\¬ FD b
theorem Kiy.stand {w0 w w' F0 FD d E sv l}(h:Kiy w0 F0 w d E sv l FD)(H:Ju FD w w'):Jo w' w0.heap.size 3 sv (l.map nv)/\Ju F0 w0 w':=
 ⟨Yd h.own fun g y=>H.block g (Qk h.own y) (h.apart g y),h.keep.trans' H fun k K I=>(h.from_ k I).resolve_right zo⟩
theorem Jji {w B e a n c xs}(h:Jo w B e (.slice a n c) xs):Uh w a xs/\∀ b o,a=some (Ar b o)->(Value.slice a n c).ownBlock=some b:=by
 obtain⟨a',I,y,H⟩:=h.cells;simp at y;obtain⟨rfl,_,_⟩:=y;exact⟨H,fun b o hb=>by subst hb;rfl⟩
theorem Kiy.more {w0 wr I O F0 FD d E sv sv' l}(h:Kiy w0 F0 wr d E sv l FD)(bh:Ju FD wr I)pc(bf:Zb I (up FD wr) d (Zn E pc))o(bk:Jo O w0.heap.size 3 sv' (l.map nv++[nv (Kb E.pages)]))(K:(I.alloc o).grownBy O sv.ownBlock)(hb:sv'.ownBlock=sv.ownBlock\/sv'.ownBlock=some (I.alloc o).heap.size):
  Kiy w0 F0 O d (Zn E pc) sv' (l++[Kb E.pages]) (cap (up FD wr) I):=by
 have br:=K.size;rw[Oa7]at br;have Y:∀ g,sv.ownBlock=some g->g<wr.heap.size:=fun g K=>Qk h.own K;have Z:∀ k,k<I.heap.size->sv.ownBlock≠some k->O.heap[k]?=I.heap[k]?:=fun k y bj=>(K.block k zt (Oc5 bj)).trans (Oa9 I o k y);refine⟨bf.cap.stands fun k y hl=>Z k hl fun e=>?_,fun k y=>?_,fun k y=>Oc2 y.2 zo,?_,fun g M=>?_,?_⟩
 ·rcases y.1 with H|H
  ·exact h.apart k e H
  have:=Y k e;omega
 ·rcases y.1 with H|H
  ·exact h.from_ k H
  exact .inr (Ob2 h.keep.size H)
 ·rw[Ob8];exact bk
 ·rintro⟨bx,hl⟩;rcases hb with e|e
  ·rw[e]at M;rcases bx with H|H
   ·exact h.apart g M H
   have:=Y g M;omega
  rw[e]at M;simp at M;omega
 have y:=(h.stand bh).2;refine⟨K.os.trans y.os,K.tape.trans y.tape,K.output.trans y.output,Ob2 y.size zo,fun k U bi=>?_⟩;refine(Z k (Oc2 U y.size) fun e=>?_).trans (y.block k U bi);have:=(Je h.own e).1;omega
theorem Kkq d text w F D(h:Zb w F d D)(hF:∀ k,F k->k<w.heap.size)q qw(hq:w.cell? (Aq 5)=some (Ie 435 q))(bT:w.cell? (Aq 6)=some (Ie 435 qw))(bJ:¬ F 5)(bK:¬ F 6)(bQ:D.pages.length+(Qu text).length<=950000)(cv:text.length<=1000000):
  Cq 64 #[Pq d,.string (Qw text)] w fun e w'=>Kkw w F d q qw (Uy D (Qu text)) e w':=by
 go_enter func64,ntmps64
 go_wp2;go_loopw [1,6] (fun bi sv bV=>∃ (rest:List UInt8) (E:DS) (l:List Nat) (FD:Nat->Prop),bi=.string (Qw rest)/\rest.length<=text.length/\l.length+(Qu rest).length<=950000/\E.pages.length+(Qu rest).length<=950000/\Kiy w F bV d E sv l FD/\Hid (Uy D (Qu text)=Kiw l (Uy E (Qu rest)))) (fun bi _ _=>Kky bi)
 case atStart=>exact⟨text,D,[],F,rfl,Oa2 _,by simp;omega,bQ,⟨h,fun k bx=>.inl bx,hF,Jo.nil _ _ _,fun g bP=>by simp[Value.ownBlock]at bP,Ju.refl _ _⟩,rfl⟩
 case round=>
  rename_i bi sv
  obtain⟨rest,E,l,FD,rfl,cn,ca,bZ,y,K⟩:=hrel;have bR:=Jb2 rest;by_cases hr:rest=[]
  ·subst hr;rw[Kj2]at K;have bj:Hid (Uy D (Qu text)=(E,l,none)):=by show _=_;rw[K.out];simp[Kiw,Uy]
   obtain⟨a,cap,M,_⟩:=y.own.cells;subst M;simp at bR;go_wp2;go_ret2
   rw[bj.out];exact⟨y.keep,FD,y.disk,y.from_,y.lt,_,rfl,y.own,y.apart⟩
  have cj:0<rest.length:=Oi9.2 hr;have bk:Hid (Qu rest=rest.take 56::Qu (rest.drop 56)):=Jr2 rest hr;have ci:(Qu rest).length=(Qu (rest.drop 56)).length+1:=by rw[bk.out];rfl
  obtain⟨n,cf,bf⟩:∃ n:Nat,(n<=rest.length/\n<=56)/\Hid (n=min rest.length 56):=⟨min rest.length 56,zo,rfl⟩;have bC:Hid (rest.take n=rest.take 56):=by
   show _=_;rw[bf.out];rcases Oc1 rest.length 56 with Y|Y
   ·rw[Oj1 zo,Oc8 (Oa2 _),Oc8 zo]
   rw[Ol4 Y]
  have bB:Hid (rest.drop n=rest.drop 56):=by
   show _=_;rw[bf.out];rcases Oc1 rest.length 56 with Y|Y
   ·rw[Oj1 zo,Ol8 (Oa2 _),Ol8 zo]
   rw[Ol4 Y]
  have bG:=Kkb rest 0 n;have bH:=Kkb rest n rest.length;rw[List.drop_zero,bC.out]at bG;rw[Of2,bB.out]at bH;have bY:(rest.drop 56).length<rest.length:=by rw[Of7];omega
  have bS:(rest.take 56).length<=56:=by rw[Oc7];omega
  have cc:(if 56<(rest.length:Int)then (56:Int)else (rest.length:Int))=(n:Int):=by have:=bf.out;split<;>omega
  rw[bk.out]at K;clear bk bC bB bf;generalize rest.take 56=pc at *;generalize rest.drop 56=bU at *;by_cases U:E.quota<=((Js E.pages:Nat):Int)\/wrap64 (E.writes+1)=E.fail
  ·have bj:Hid (Uy D (Qu text)=((Kjn E).1,l,some (Kjn E).2)):=by show _=_;rw[K.out,Kko E _ _ U];simp[Kiw]
   have bA:=Kj7 d (Qw pc) wr FD E y.disk q qw (y.keep.cell hq bJ) (y.keep.cell bT bK) U;have H:=zh y;obtain⟨a,cap,M,_⟩:=y.own.cells;rw[Oa6]at M;clear y U K;subst M;go_wp2_with (first|(go_at_call 88;refine bA.mono ?_;rintro e bh ⟨I,br,b,rfl,bL,bM⟩)|(go_at_call 89;refine(Ki0 d a cap l bh FD _ br (Jji (H.out.stand I).1).1 (fun b o hb=>H.out.apart b ((Jji (H.out.stand I).1).2 b o hb)) zo).mono ?_;rintro e bW ⟨rfl,bN,bz⟩))
   go_ret2
   rw[bj.out];have bD:¬ FD b:=fun bO=>by have:=H.out.lt b bO;omega
   exact⟨(H.out.stand (I.trans bz)).2,FD,bN,H.out.from_,fun k bx=>Oc2 (H.out.lt k bx) (Ob2 I.size bz.size),b,rfl,Ob2 H.out.keep.size bL,Ki6 bM bz bD,bD⟩
  have O:¬ E.quota<=((Js E.pages:Nat):Int):=fun h=>U (.inl h);have Z:¬ wrap64 (E.writes+1)=E.fail:=fun h=>U (.inr h);rw[Kjp l E pc _ O Z]at K;have bA:=Kjt d pc bS wr FD E y.disk zo O Z;have cx:=Jxm E pc;have H:=zh y;obtain⟨a,cap,M,_⟩:=y.own.cells;rw[Oa6]at M;clear y U O Z;subst M;have cb:=H.out.keep.size;go_wp2_with (first|(go_at_call 88;refine bA.mono ?_;rintro e bh ⟨I,br,rfl⟩;have cu:=I.size)|(at_builtin;go_must (refine Ks zR _ _ 22 3 _ 8 Zw zR zd zK zR w.heap.size _ _ zR (Jo.alloc (H.out.stand I).1 _) ⟨bh.heap.size,0,none⟩ 1 [nv (Kb E.pages)] zR (by exact Ua bh _ _) (by intro u bE;simp at bE;subst bE;rfl) (by simp only[List.length_cons,List.length_nil,Oa6];omega) zt ?_);intro sv' cy O Z bI;obtain⟨a2,bX,rfl,_⟩:=O.cells))
  go_roundw
  case rel=>
   have hq:=H.out.more I pc br _ O Z bI;rw[Oa8,Oa6]at hq;exact⟨bU,Zn E pc,l++[Kb E.pages],_,rfl,zo,by simp;omega,zo,hq,K.out⟩
  case measure=>simp only[Kky];simp[Jb2];omega
def Uf (D:DS):List Nat->List UInt8⊕Nat
 |[]=>.inl []
 |i::l=>match (D.pages.getD i none).bind Jd2 with
  |none=>.inr i
  |some t=>match Uf D l with
   |.inl u=>.inl (t++u)
   |.inr j=>.inr j
theorem Jrf {p t}(h:Jd2 p=some t):t.length<=56:=by
 unfold Jd2 at h;split at h
 ·simp at h
 simp at h;subst h;rename_i hh
 rw[Oa0]at hh;rw[Oc7];omega
theorem Jv5 {D l}k(y:k<l.length)t u(H:(D.pages.getD l[k] none).bind Jd2=some u)(h:Uf D l=(match Uf D (l.drop k)with|.inl r=>.inl (t++r)|.inr j=>.inr j)):
  Uf D l=(match Uf D (l.drop (k+1))with|.inl r=>.inl ((t++u)++r)|.inr j=>.inr j):=by
 rw[h,Oi1 y];simp only[Uf,H];cases Uf D (l.drop (k+1))<;>simp
theorem Jo9 {D l}k(y:k<l.length)t(H:(D.pages.getD l[k] none).bind Jd2=none)(h:Uf D l=(match Uf D (l.drop k)with|.inl r=>.inl (t++r)|.inr j=>.inr j)):Uf D l=.inr l[k]:=by
 rw[h,Oi1 y];simp only[Uf,H]
theorem Je0 {l}{i:Nat}(h:Jai l (i:Int)=false):l.getD i none=none:=by
 cases hq:l.getD i none with
 |none=>rfl
 |some p=>
  rw[Oa0]at hq;have:l[i]?=some (some p):=by
   cases hh:l[i]? with
   |none=>rw[hh]at hq;simp at hq
   |some x=>rw[hh]at hq;simp at hq;rw[hq]
  rw[Jtc this]at h;simp at h
theorem Jfv n w pg(y:w.cell? (Aq 7)=some (Ie 435 pg)):
  Cq 101 #[Iq n] w fun e w'=>Bq w w'/\∃ b,e=.returned (Ip 149 b)/\w.heap.size<=b/\Yu w' (Ip 149 b) pg none (some n):=by
 go_enter func101,ntmps101
 go_wp2;go_ret
 exact⟨(Oa5 _ w).alloc (Oa2 _) _,_,rfl,Oa2 _,Jwl w pg n⟩
def Keo (w:World)(pg:Addr)(r:List UInt8⊕Nat)(e:Ending)(w':World):Prop:=
 Bq w w'/\match r with
  |.inl t=>e=.returned (.tuple #[.string (Qw t),.nilIface])
  |.inr i=>∃ b,e=.returned (.tuple #[.string ⟨#[]⟩,Ip 149 b])/\w.heap.size<=b/\Yu w' (Ip 149 b) pg none (some (i:Int))
theorem Jzx {w F}{d:Nat}{D sv ps}(h:Jf1 w F d D sv ps)(i:Nat)(Y:Jai D.pages (i:Int)=true):
  ∃ g cap b p,sv=Sq g ps.length cap/\i<ps.length/\w.cell? (Ar g i)=some (Pq b)/\D.pages.getD i none=some p/\Jdp w b p:=by
 obtain⟨p,hp⟩:=Jf3 Y;obtain⟨a,cap,M,K⟩:=h.list;have y:i<ps.length:=by
  rw[h.len];rcases Oc1 i D.pages.length with H|H
  ·exact H
  rw[Ob4 H]at hp;simp at hp
 obtain⟨g,rfl,_,_,cg,_⟩:=K i y;have I:=h.which i y;rw[Oa0,hp]at I;obtain⟨b,hb⟩:∃ b,ps[i]=some b:=by
  cases hq:ps[i]with
  |none=>rw[hq]at I;simp at I
  |some b=>exact⟨b,rfl⟩
 obtain⟨_,_,_,Z,O,U⟩:=h.page i b (by rw[<-hb];simp[y]);rw[hb]at cg;exact⟨g,cap,b,Z,M,y,cg,by rw[Oa0,O];rfl,U⟩
theorem Kag d a cap l w F D(h:Zb w F d D)(hl:Uh w a (l.map nv))(bP:l.length<=1000000)pg(bI:w.cell? (Aq 7)=some (Ie 435 pg)):
  Cq 99 #[Pq d,.slice a l.length cap] w fun e w'=>Keo w pg (Uf D l) e w':=by
 go_enter func99,ntmps99
 go_wp2;go_loopw [13] (fun i wr=>∃ (k:Nat) (t:List UInt8),k<=l.length/\t.length<=56*k/\i=Iq k/\Jkw wr w.heap.size w.heap.size t/\Bq w wr/\Hid (Uf D l=(match Uf D (l.drop k)with|.inl r=>.inl (t++r)|.inr j=>.inr j))) (fun i _=>l.length-(intOf i).toNat)
 case atStart=>exact⟨0,[],Ob7 _,zS,rfl,Jkw.new w _ (Oa2 _),(Oa5 _ _).alloc (Oa2 _) _,by show _=_;rw[List.drop_zero];cases Uf D l<;>rfl⟩
 case round=>
  rename_i i
  obtain⟨k,t,bO,bQ,rfl,bf,y,I⟩:=hrel;by_cases Y:k<l.length
  ·rcases hl with hl|⟨b,o,rfl,hb,hl⟩
   ·simp at hl;subst hl;simp at Y
   have bL:wr.cell? (Ar b (o+k))=some (Iq ((l[k]:Nat):Int)):=by rw[(Kx y).1 b (o+k) hb];exact hl k _ (by simp[Y];rfl)
   have bA:=Ja y bI;have bz:=h.below y;have U:=Jwv d (l[k]:Int) wr F D bz;have bB:=Jfv (l[k]:Int) wr pg bA;by_cases K:Jai D.pages ((l[k]:Nat):Int)=true
   ·rw[K]at U;obtain⟨sv,ps,bj⟩:=bz;obtain⟨_,_,_,_,_,c5⟩:=bj.field;obtain⟨g,cp,bp,p,rfl,bM,cg,bh,bH⟩:=Jzx bj l[k] K;have bi:=Ke1 bp p wr bH;have bN:((l[k]:Nat):Int)<(ps.length:Int):=zo;cases ho:Jd2 p with
    |none=>
     have M:Hid (Uf D l=.inr l[k]):=Jo9 k Y t (by rw[bh];exact ho) I.out;rw[ho]at bi;clear I bh K bj ho;generalize l[k]=i at *;go_wp2_with (first|(go_at_call 46;refine U.mono ?_;rintro e w' ⟨rfl,bC⟩;subst w')|(go_at_call 131;refine bi.mono ?_;rintro e Z ⟨rfl,H⟩;have bJ:=Jfv (i:Int) Z pg (Ja H bA))|(go_at_call 101;refine bJ.mono ?_;rintro e bx ⟨O,b2,rfl,bk,br⟩))
     go_ret2
     rw[M.out];exact⟨Jb y (Jb H O),b2,rfl,Ob2 y.size (Ob2 H.size bk),br⟩
    |some u=>
     have bD:Hid (Uf D l=(match Uf D (l.drop (k+1))with|.inl r=>.inl ((t++u)++r)|.inr j=>.inr j)):=Jv5 k Y t u (by rw[bh];exact ho) I.out;have bR:=Jrf ho;rw[ho]at bi;clear I bh K bj ho bB;generalize l[k]=i at *;go_wp2_with (first|(go_at_call 46;refine U.mono ?_;rintro e w' ⟨rfl,bC⟩;subst w')|(go_at_call 131;refine bi.mono ?_;rintro e Z ⟨rfl,H⟩;have bE:=Jv2 w.heap.size w.heap.size t u Z (bf.below H) zo (Ob2 y.size H.size))|(go_at_call 132;refine bE.mono ?_;rintro e bx ⟨rfl,bG,O⟩))
     go_roundw
     case rel=>exact⟨k+1,t++u,zo,by simp;omega,zn,bG,(Jb y H).trans O,bD.out⟩
     case measure=>simp[intOf];omega
   rw[Oo1]at K;rw[K]at U;have M:Hid (Uf D l=.inr l[k]):=Jo9 k Y t (by rw[Je0 K];rfl) I.out;clear I;generalize l[k]=i at *;go_wp2_with (first|(go_at_call 46;refine U.mono ?_;rintro e w' ⟨rfl,bC⟩;subst w')|(go_at_call 101;refine bB.mono ?_;rintro e bx ⟨O,b2,rfl,bk,br⟩))
   go_ret2
   rw[M.out];exact⟨Jb y O,b2,rfl,Ob2 y.size bk,br⟩
  obtain rfl:k=l.length:=zo;have M:Hid (Uf D l=.inl t):=by show _=_;rw[I.out,List.drop_length];simp[Uf]
  have bK:Cq 133 #[Pq w.heap.size] wr fun e w'=>e=.returned (.string (Qw t))/\Below w.heap.size wr w':=by
   by_cases h0:t=[]
   ·rw[h0]at bf |-;exact Kxr _ _ wr bf y.size
   exact Jsp _ _ t wr bf h0
  clear I;go_wp2_with (go_at_call 133;refine bK.mono ?_;rintro e Z ⟨rfl,H⟩)
  go_ret2
  rw[M.out];exact⟨y.trans H,rfl⟩
structure TS where
 name:ByteArray
 types:List Int
 rows:Nat
 group:Nat
 segs:List (List Nat)
def Kh8 (h:Option Addr×Nat)(l:List Nat):Value:=.slice h.1 l.length h.2
structure Jaf (w:World) (F:Nat->Prop) (a:Option Addr) (hs:List (Option Addr×Nat)) (ls:List (List Nat)):Prop where
 len:hs.length=ls.length
 cells:Uh w a (List.zipWith Kh8 hs ls)
 segs:∀ (i:Nat) h l,hs[i]?=some h->ls[i]?=some l->Uh w h.1 (l.map nv)
 aF:∀ b o,a=some (Ar b o)->F b
 hF:∀ (i:Nat) h,hs[i]?=some h->∀ b o,h.1=some (Ar b o)->F b
theorem Jaf.stands {w w' F a hs K}(h:Jaf w F a hs K)(H:w.heap.size<=w'.heap.size)(y:∀ k,F k->k<w.heap.size->w'.heap[k]?=w.heap[k]?):Jaf w' F a hs K:=
 ⟨h.len,h.cells.of_block H fun b o hb hl=>y b (h.aF b o hb) hl,fun i x l I hl=>(h.segs i x l I hl).of_block H fun b o hb M=>y b (h.hF i x I b o hb) M,h.aF,h.hF⟩
theorem Jaf.mono {w F G a hs H}(h:Jaf w F a hs H)(y:∀ k,F k->G k):Jaf w G a hs H:=
 ⟨h.len,h.cells,h.segs,fun b o hb=>y b (h.aF b o hb),fun i x I b o hb=>y b (h.hF i x I b o hb)⟩
theorem Jaf.at {w F a hs y}(h:Jaf w F a hs y){i}(hi:i<y.length):
  ∃ b o H rc,a=some (Ar b o)/\F b/\b<w.heap.size/\w.cell? (Ar b (o+i))=some (.slice H y[i].length rc)/\Uh w H (y[i].map nv)/\∀ b o,H=some (Ar b o)->F b:=by
 have K:i<hs.length:=by rw[h.len];exact hi
 obtain⟨b,o,I,hb,M⟩:=h.cells.at (i:=i) zt;exact⟨b,o,hs[i].1,hs[i].2,I,h.aF b o I,hb,by rw[M];simp[Kh8],h.segs i hs[i] y[i] (by simp[K]) (by simp[hi]),h.hF i hs[i] (by simp[K])⟩
structure Khb (w:World) (F:Nat->Prop) (tb:Nat) (T:TS) (ta:Option Addr) (tc:Nat) (sa:Option Addr) (sc:Nat) (hs:List (Option Addr×Nat)):Prop where
 cells:w.heap[tb]?=some (.cells #[.string T.name,.slice ta T.types.length tc,Iq (T.rows:Int),Iq (T.group:Int),.slice sa T.segs.length sc] 113 (0,0))
 types:Kc w ta T.types
 tF:∀ b o,ta=some (Ar b o)->F b
 segs:Jaf w F sa hs T.segs
 cap:T.segs.length<=sc
 bF:F tb
def Jmg (w:World)(F:Nat->Prop)(tb:Nat)(T:TS):Prop:=∃ ta tc y sc hs,Khb w F tb T ta tc y sc hs
theorem Jmg.stands {w w' F tb T}(h:Jmg w F tb T)(H:w.heap.size<=w'.heap.size)(y:∀ k,F k->k<w.heap.size->w'.heap[k]?=w.heap[k]?):Jmg w' F tb T:=by
 obtain⟨ta,tc,I,sc,hs,h⟩:=h;exact⟨ta,tc,I,sc,hs,by rw[y tb h.bF (Jd h.cells)];exact h.cells,h.types.of_block H fun b o hb hl=>y b (h.tF b o hb) hl,h.tF,h.segs.stands H y,h.cap,h.bF⟩
theorem Jmg.mono {w F G tb T}(h:Jmg w F tb T)(y:∀ k,F k->G k):Jmg w G tb T:=by
 obtain⟨ta,tc,H,sc,hs,h⟩:=h;exact⟨ta,tc,H,sc,hs,h.cells,h.types,fun b o hb=>y b (h.tF b o hb),h.segs.mono y,h.cap,y tb h.bF⟩
theorem Khb.field {w F tb T ta tc y sc hs}(h:Khb w F tb T ta tc y sc hs):
  w.cell? ⟨tb,0,.none⟩=some (.string T.name)/\w.cell? ⟨tb,1,.none⟩=some (.slice ta T.types.length tc)/\w.cell? ⟨tb,2,.none⟩=some (Iq (T.rows:Int))/\w.cell? ⟨tb,3,.none⟩=some (Iq (T.group:Int))/\w.cell? ⟨tb,4,.none⟩=some (.slice y T.segs.length sc):=by
 simp[World.cell?,h.cells]
def Jcp (b:Nat):Value:=Pq b
structure Jfl (w:World) (F:Nat->Prop) (s d:Nat) (Ts:List TS) (sv:Value) (bs:List Nat):Prop where
 cells:w.heap[s]?=some (.cells #[Pq d,sv] 99 (0,0))
 own:Jo w 0 109 sv (bs.map Jcp)
 sF:¬ F s
 gF:∀ g,sv.ownBlock=some g->¬ F g/\g≠s
 len:bs.length=Ts.length
 tab:∀ (i:Nat) b T,bs[i]?=some b->Ts[i]?=some T->Jmg w F b T
 few:Ts.length<=6
def Jnr (s:Nat)(sv:Value):Nat->Prop:=fun k=>k=s\/sv.ownBlock=some k
theorem Jfl.stands {w w' F s d Ts sv bs}(h:Jfl w F s d Ts sv bs)(M:w.heap.size<=w'.heap.size)(y:∀ k,F k\/Jnr s sv k->k<w.heap.size->w'.heap[k]?=w.heap[k]?):Jfl w' F s d Ts sv bs:=
 ⟨by rw[y s (.inr (.inl rfl)) (Jd h.cells)];exact h.cells,Yd h.own fun g H=>y g (.inr (.inr H)) (Qk h.own H),h.sF,h.gF,h.len,fun i b T hb I=>(h.tab i b T hb I).stands M fun k K=>y k (.inl K),h.few⟩
theorem Jfl.below {w w' F s d Ts sv bs}(h:Jfl w F s d Ts sv bs)(hb:Bq w w'):Jfl w' F s d Ts sv bs:=h.stands hb.size fun k _ y=>hb.block k y
theorem Jfl.field {w F s d Ts sv bs}(h:Jfl w F s d Ts sv bs):w.cell? (Aq s)=some (Pq d)/\w.cell? (Ar s 1)=some sv:=by
 simp[World.cell?,h.cells]
theorem Jfl.at {w F s d Ts sv bs}(h:Jfl w F s d Ts sv bs){i}(hi:i<Ts.length):
  ∃ b o,sv=Sr b o Ts.length (match sv with|.slice _ _ c=>c|_=>0)/\w.cell? (Ar b (o+i))=some (.pointer (some ⟨bs[i]'(by rw[h.len];exact hi),0,none⟩))/\Jmg w F (bs[i]'(by rw[h.len];exact hi)) Ts[i]:=by
 have y:i<bs.length:=by rw[h.len];exact hi
 obtain⟨a,cap,M,I⟩:=h.own.cells;obtain⟨b,o,H,_,K⟩:=I.at (i:=i) (by simpa using y);subst M H;exact⟨b,o,by simp[h.len],by rw[K];simp[Jcp],h.tab i _ _ (by simp[y]) (by simp[hi])⟩
def Ub:List TS->ByteArray->Nat
 |[],_=>0
 |T::Ts,n=>if T.name=n then 0 else Ub Ts n+1
def Jhc (Ts:List TS)(n:ByteArray):Int:=if Ub Ts n<Ts.length then (Ub Ts n:Int)else -1
theorem Kdk Ts n:Ub Ts n<=Ts.length:=by
 induction Ts with
 |nil=>simp[Ub]
 |cons T Ts y=>simp only[Ub];split<;>simp<;>omega
theorem Kc4 Ts n:∀ (k:Nat) (y:k<Ts.length),(∀ j (K:j<k),(Ts[j]' zo).name≠n)->Ts[k].name=n->Ub Ts n=k:=by
 induction Ts with
 |nil=>intro k y;simp at y
 |cons T Ts M=>
  intro k y I H;cases k with
  |zero=>simp at H;simp[Ub,H]
  |succ k=>
   have h0:=I 0 zo;simp at h0;simp only[Ub,if_neg h0];rw[M k (by simpa using y) (fun j K=>by have:=I (j+1) zo;simpa using this) (by simpa using H)]
theorem Jvr Ts n(h:∀ j (y:j<Ts.length),Ts[j].name≠n):Ub Ts n=Ts.length:=by
 induction Ts with
 |nil=>rfl
 |cons T Ts H=>
  have h0:=h 0 zS;simp at h0;simp only[Ub,if_neg h0,List.length_cons];rw[H fun j y=>by have:=h (j+1) zt;simpa using this]
theorem Jn4 nb n w F s d Ts sv bs(h:Jfl w F s d Ts sv bs)(bh:w.cell? (Aq nb)=some (.string n)):
  Cq 59 #[sv,.func (.func 60) #[] #[Pq nb]] w fun e w'=>e=.returned (Iq (Jhc Ts n))/\Bq w w':=by
 obtain⟨a,cap,Z,bi⟩:=h.own.cells;rw[Oa6,h.len]at Z;subst Z;have bj:=h.few;go_enter func59,ntmps59
 go_wp2;go_loopw [8] (fun i wr=>∃ k:Nat,k<=Ts.length/\i=Iq k/\Bq w wr/\Hid (∀ j (y:j<Ts.length),j<k->Ts[j].name≠n)) (fun i _=>Ts.length-(intOf i).toNat)
 case atStart=>exact⟨0,Ob7 _,rfl,Oa5 _ _,fun j _ y=>absurd y (Oe0 _)⟩
 case round=>
  obtain⟨k,br,rfl,I,M⟩:=hrel;by_cases U:k<Ts.length
  ·obtain⟨b,o,Y,c1,ht⟩:=(h.below I).at U;simp at Y;subst Y;obtain⟨ta,tc,bz,sc,hs,bf⟩:=ht;obtain⟨bA,_,_,_,_⟩:=bf.field;have bx:=Ja I bh;by_cases H:Ts[k].name=n
   ·have K:=zh H;have hq:(Ts[k].name.toList==n.toList)=true:=by rw[H];simp
    clear H;go_wp2;go_quiet (fail)
    go_wp2;go_ret
    have O:=Kc4 Ts n k U (fun j y=>M.out j zo y) K.out;exact⟨Yp (by unfold Jhc;rw[O,if_pos U]),Jp I _⟩
   have K:=zh H;have hq:(Ts[k].name.toList==n.toList)=false:=by
    rw[beq_eq_false_iff_ne];exact fun hh=>H (by rw[<-Zf Ts[k].name,hh,Zf])
   clear H;go_wp2;go_quiet (fail)
   go_wp2;go_roundw
   case rel=>
    refine⟨k+1,zo,zn,Jp I _,fun j y bk=>?_⟩;by_cases e:j=k
    ·subst e;exact K.out
    exact M.out j y zo
   case measure=>simp[intOf];omega
  go_wp2;go_ret
  have O:=Jvr Ts n (fun j y=>M.out j y zo);exact⟨Yp (by unfold Jhc;rw[O,if_neg (Oe3 _)]),I⟩
theorem Jo8 n w F s d Ts sv bs(h:Jfl w F s d Ts sv bs):
  Cq 41 #[Pq s,.string n] w fun e w'=>e=.returned (Iq (Jhc Ts n))/\Bq w w':=by
 obtain⟨_,c1⟩:=h.field;have H:Bq w (w.alloc (.cells #[.string n] 9)):=(Oa5 _ _).alloc (Oa2 _) _;have I:=Jn4 w.heap.size n _ F s d Ts sv bs (h.below H) zS;have K:∀ (fn:Fn) (first cap:Array Value) (w:World),(Instr.makeFunc fn first cap).run prog w=.ok (.func fn first cap) w:=fun _ _ _ _=>rfl;obtain⟨a,cap,y,_⟩:=h.own.cells;rw[Oa6]at y;subst y;have M:=Jd h.cells;clear h;go_enter func41,ntmps41
 go_wp2_with (go_at_call 59;refine I.mono ?_;rintro e w1 ⟨rfl,hb⟩)
 go_ret
 exact⟨rfl,Qx hb⟩
def Jcg (D:DS)(y:List (List Nat)):DS:=y.foldl Jf4 D
theorem Kjz D y l:Jcg D (y++[l])=Jf4 (Jcg D y) l:=by simp[Jcg]
theorem Kjd s d a cap hs y w F G D(h:Zb w F d D)(hl:Jaf w G a hs y)(M:∀ k,G k->¬ F k)(bk:w.cell? (Aq s)=some (Pq d))(br:¬ F s)(bE:y.length<=1000000)(O:∀ l∈y,l.length<=1000000):
  Cq 65 #[Pq s,.slice a y.length cap] w fun e w'=>e=.returned (.tuple #[])/\Zb w' F d (Jcg D y)/\Ju F w w':=by
 have U:=zh O;clear O;go_enter func65,ntmps65
 go_wp2;go_loopw [8] (fun i wr=>∃ k:Nat,k<=y.length/\i=Iq k/\Zb wr F d (Jcg D (y.take k))/\Ju F w wr) (fun i _=>y.length-(intOf i).toNat)
 case atStart=>exact⟨0,Ob7 _,rfl,by simpa [Jcg] using h,Ju.refl _ _⟩
 case round=>
  rename_i i
  obtain⟨k,bD,rfl,K,H⟩:=hrel;by_cases I:k<y.length
  ·have Y:Hid (Jcg D (y.take (k+1))=Jf4 (Jcg D (y.take k)) y[k]):=by
    show Jcg D (y.take (k+1))=_;rw[Oc4 I,Kjz]
   have bi:=hl.stands H.size fun b hb I=>H.block b I (M b hb);obtain⟨b,o,bx,rc,rfl,bB,bC,bA,Z,hra⟩:=bi.at I;have c0:=H.cell bk br;have bj:=Ki0 d bx rc y[k] wr F _ K Z (fun b o hb=>M b (hra b o hb)) (U.out _ (Ob3 I));go_wp2_with (go_at_call 89;refine bj.mono ?_;rintro e bz ⟨rfl,bf,bh⟩)
   go_roundw
   case rel=>exact⟨k+1,zo,zn,by rw[Y.out];exact bf,H.trans bh⟩
   case measure=>simp[intOf];omega
  obtain rfl:k=y.length:=zo;rw[Of2]at K;go_wp2;go_end0
  exact⟨rfl,K,H⟩
def Jq (D:DS):List (List UInt8)->DS×List (List Nat)×Option Bool
 |[]=>(D,[],none)
 |t::ts=>match Uy D (Qu t)with
  |(E,l,none)=>((Jq E ts).1,l::(Jq E ts).2.1,(Jq E ts).2.2)
  |(E,l,some x)=>(Jf4 E l,[],some x)
def Kit (y:List (List Nat))(r:DS×List (List Nat)×Option Bool):DS×List (List Nat)×Option Bool:=(r.1,y++r.2.1,r.2.2)
theorem Kjf {y D E t ts l}(h:Uy D (Qu t)=(E,l,none)):Kit y (Jq D (t::ts))=Kit (y++[l]) (Jq E ts):=by
 simp[Kit,Jq,h]
theorem Kjv {y D E t ts l x}(h:Uy D (Qu t)=(E,l,some x)):Kit y (Jq D (t::ts))=(Jf4 E l,y,some x):=by
 simp[Kit,Jq,h]
structure Kiu (w0:World) (F0:Nat->Prop) (w:World) (d:Nat) (E:DS) (sv:Value) (hs:List (Option Addr×Nat)) (ls:List (List Nat)) (FD:Nat->Prop):Prop where
 disk:Zb w FD d E
 from_:∀ k,FD k->F0 k\/w0.heap.size<=k
 lt:∀ k,FD k->k<w.heap.size
 own:Jo w w0.heap.size 22 sv (List.zipWith Kh8 hs ls)
 len:hs.length=ls.length
 segs:∀ (i:Nat) h l,hs[i]?=some h->ls[i]?=some l->Uh w h.1 (l.map nv)
 new:∀ (i:Nat) h,hs[i]?=some h->∀ b o,h.1=some (Ar b o)->w0.heap.size<=b/\b<w.heap.size/\¬ FD b/\sv.ownBlock≠some b
 apart:∀ g,sv.ownBlock=some g->¬ FD g
 keep:Ju F0 w0 w
theorem Kiu.stand {w0 w w' F0 FD d E sv hs H}(h:Kiu w0 F0 w d E sv hs H FD)(y:Ju FD w w'):
  Jo w' w0.heap.size 22 sv (List.zipWith Kh8 hs H)/\Ju F0 w0 w'/\(∀ (i:Nat) x l,hs[i]?=some x->H[i]?=some l->Uh w' x.1 (l.map nv)):=
 ⟨Yd h.own fun g I=>y.block g (Qk h.own I) (h.apart g I),h.keep.trans' y fun k U M=>(h.from_ k M).resolve_right zo,
  fun i x l K hl=>(h.segs i x l K hl).of_block y.size fun b o hb O=>y.block b O (h.new i x K b o hb).2.2.1⟩
theorem Kjb hs y(h:hs.length=y.length)(x:Option Addr×Nat)l:List.zipWith Kh8 (hs++[x]) (y++[l])=List.zipWith Kh8 hs y++[Kh8 x l]:=by
 rw[List.zipWith_append h];rfl
theorem Kec {α:Type}{xs:List α}{x H:α}{i:Nat}(h:(xs++[x])[i]?=some H):(i<xs.length/\xs[i]?=some H)\/(i=xs.length/\x=H):=by
 rcases Oc1 i xs.length with y|y
 ·rw[Ob0 y]at h;exact .inl ⟨y,h⟩
 rw[Ob6 y]at h;rcases Oc1 (i-xs.length) 1 with I|I
 ·have:i-xs.length=0:=zo;rw[this]at h;simp at h;exact .inr ⟨zo,h⟩
 rw[Ob4 (by simpa using I)]at h;simp at h
theorem Kiu.more {w0 wr H br F0 FD U d E bC sv sv' hs bk}(h:Kiu w0 F0 wr d E sv hs bk FD)(bH:Ju FD wr H)(bN:Zb H U d bC)(bh:∀ k,U k->FD k\/wr.heap.size<=k)(bI:∀ k,U k->k<H.heap.size)a1 c1 l(bB:Jo H wr.heap.size 3 (.slice a1 l.length c1) (l.map nv))(bM:∀ g,(Value.slice a1 l.length c1).ownBlock=some g->¬ U g)o(bP:Jo br w0.heap.size 22 sv' (List.zipWith Kh8 hs bk++[.slice a1 l.length c1]))(I:(H.alloc o).grownBy br sv.ownBlock)(hb:sv'.ownBlock=sv.ownBlock\/sv'.ownBlock=some (H.alloc o).heap.size):
  Kiu w0 F0 br d bC sv' (hs++[(a1,c1)]) (bk++[l]) U:=by
 have bR:=I.size;rw[Oa7]at bR;have bW:=bH.size;have bV:=h.keep.size;have bi:∀ g,sv.ownBlock=some g->g<wr.heap.size:=fun g I=>Qk h.own I;have bj:∀ k,k<H.heap.size->sv.ownBlock≠some k->br.heap[k]?=H.heap[k]?:=fun k M bA=>(I.block k zt (Oc5 bA)).trans (Oa9 H o k M);have bJ:∀ b,b<H.heap.size->sv.ownBlock≠some b->sv'.ownBlock≠some b:=fun b bf bA e=>by
  rcases hb with bx|bx
  ·exact bA (bx▸e)
  rw[bx]at e;simp at e;omega
 have bL:∀ g,(Value.slice a1 l.length c1).ownBlock=some g->wr.heap.size<=g/\g<H.heap.size:=fun g I=>Je bB I;have bK:∀ b o,a1=some (Ar b o)->(Value.slice a1 l.length c1).ownBlock=some b:=(Jji bB).2;obtain⟨_,O,bQ⟩:=h.stand bH;refine⟨bN.stands fun k M hl=>bj k hl fun e=>?_,fun k M=>?_,fun k M=>Oc2 (bI k M) zo,?_,by simp[h.len],?_,?_,fun g Y=>?_,?_⟩
 ·rcases bh k M with y|y
  ·exact h.apart k e y
  have:=bi k e;omega
 ·rcases bh k M with y|y
  ·exact h.from_ k y
  exact .inr zo
 ·rw[Kjb hs bk h.len];exact bP
 ·intro i x bS K Z;rcases Kec K with⟨hi,K⟩|⟨hi,rfl⟩
  ·rw[Ob0 (by rw[<-h.len];exact hi)]at Z;exact(bQ i x bS K Z).of_block zo fun b o bf bz=>bj b bz (h.new i x K b o bf).2.2.2
  rw[hi,h.len,Ob6 (Oa2 _)]at Z;simp at Z;subst Z;exact(Jji bB).1.of_block zo fun b o bf bz=>bj b bz fun e=>by have:=bi b e;have:=(bL b (bK b o bf)).1;omega
 ·intro i x K b o bD;rcases Kec K with⟨hi,K⟩|⟨hi,rfl⟩
  ·obtain⟨bT,bX,n3,bU⟩:=h.new i x K b o bD;refine⟨bT,zo,fun y=>?_,bJ b zo bU⟩;rcases bh b y with y|y
   ·exact n3 y
   omega
  have bE:=bK b o bD;obtain⟨g1,g2⟩:=bL b bE;exact⟨zo,zo,bM b bE,bJ b g2 fun e=>by have:=bi b e;omega⟩
 ·intro y;rcases hb with e|e
  ·rw[e]at Y;rcases bh g y with y|y
   ·exact h.apart g Y y
   have:=bi g Y;omega
  rw[e]at Y;simp at Y;have:=bI g y;omega
 refine⟨I.os.trans O.os,I.tape.trans O.tape,I.output.trans O.output,Ob2 O.size zo,fun k bG bO=>?_⟩;refine(bj k (Oc2 bG O.size) fun e=>?_).trans (O.block k bG bO);have:=(Je h.own e).1;omega
def Jxo (w:World)(F:Nat->Prop)(d:Nat)(q wr:Addr)(r:DS×List (List Nat)×Option Bool)(e:Ending)(w':World):Prop:=
 Ju F w w'/\∃ FD:Nat->Prop,Zb w' FD d (match r.2.2 with|none=>r.1|some _=>Jcg r.1 r.2.1)/\(∀ k,FD k->F k\/w.heap.size<=k)/\(∀ k,FD k->k<w'.heap.size) /\
  match r.2.2 with
  |none=>∃ y sc hs,e=.returned (.tuple #[.slice y r.2.1.length sc,.nilIface])/\Jaf w' (fun k=>w.heap.size<=k/\k<w'.heap.size/\¬ FD k) y hs r.2.1/\r.2.1.length<=sc
  |some x=>∃ b,e=.returned (.tuple #[Sz,Ip 149 b])/\w.heap.size<=b/\Yu w' (Ip 149 b) (if x then q else wr) none (some (-1))/\¬ FD b
theorem Kku {w B e a n c xs}(h:Jo w B e (.slice a n c) xs):n<=c:=by
 rcases h.2 with⟨hv,h0⟩|⟨g,cap,H,hv,_,_,y,_⟩
 ·cases hv;exact Oa2 _
 cases hv;exact y
theorem Kiu.done {w0 w F0 FD d E a n c hs H}(h:Kiu w0 F0 w d E (.slice a n c) hs H FD):Jaf w (fun k=>w0.heap.size<=k/\k<w.heap.size/\¬ FD k) a hs H:=
 ⟨h.len,(Jji h.own).1,h.segs,fun b o hb=>⟨(Je h.own ((Jji h.own).2 b o hb)).1,(Je h.own ((Jji h.own).2 b o hb)).2,h.apart b ((Jji h.own).2 b o hb)⟩,fun i x y b o hb=>⟨(h.new i x y b o hb).1,(h.new i x y b o hb).2.1,(h.new i x y b o hb).2.2.1⟩⟩
theorem Jzf:(prog.info? 22).map (fun i=>(i.zero,i.size,i.bytes))=some (some Sz,1,24):=zK
theorem Ul {w M rest o a Q}(bh:o.guard=none)s x t e z H(bi:(prog.info? e).map (fun i=>(i.zero,i.size,i.bytes))=some (some z,1,H))(bz:z.cells.size=1)(bf:H<=64)(ht:prog.underlying t=some (.slice e))(ho:o.op=.call {callee:=.builtin .append,args:=#[s,x],argTypes:=#[t,t]})B sv xs(hs:a.eval s=sv)(bj:Jo w B e sv xs)I c y(br:a.eval x=.slice (some I) y.length c)(hv:∀ j u,y[j]?=some u->w.cell? (I.add j)=some u)(K:∀ u∈y,u.oneCell'=true)(hlen:xs.length+y.length<=1000000)(Y:B<=w.heap.size)(h:∀ sv' w',Jo w' B e sv' (xs++y)->w.grownBy w' sv.ownBlock->(sv'.ownBlock=sv.ownBlock\/sv'.ownBlock=some w.heap.size)->wpList prog M Q rest (a.put o.dst sv') w'):
  wpList prog M Q (o::rest) a w:=by
 obtain⟨i,hi,bx,bk,Z⟩:=info_parts bi;refine wpList_append_own_at w bh s x t ho B e i _ 1 H ht hi bx bk Z bz zd sv xs.length xs hs bj I y.length c y br zS hv K ?_ ?_ Y ?_
 ·unfold maxLen;omega
 ·have:(xs.length+y.length)*H<=1000000*64:=Ol5 hlen bf;omega
 exact zbg
theorem Juw D i:(Jae D i).pages.length=D.pages.length:=by unfold Jae;split<;>simp
theorem Jrz l:∀ D:DS,(Jf4 D l).pages.length=D.pages.length:=by
 induction l with
 |nil=>intro D;rfl
 |cons i l y=>intro D;show (Jf4 (Jae D i) l).pages.length=_;rw[y,Juw]
theorem Jt4 y:∀ D:DS,(Jcg D y).pages.length=D.pages.length:=by
 induction y with
 |nil=>intro D;rfl
 |cons l y H=>intro D;show (Jcg (Jf4 D l) y).pages.length=_;rw[H,Jrz]
theorem Jrh:∀ (ps:List (List UInt8))(D:DS),(Uy D ps).1.pages.length<=D.pages.length+ps.length/\(Uy D ps).2.1.length<=ps.length
 |[],D=>by simp[Uy]
 |p::ps,D=>by
  unfold Uy;split
  ·simp
  split
  ·simp[Jvn]
  have:=Jrh ps (Zn D p);have y:=Jxm D p;simp;omega
def Jch (ts:List (List UInt8)):Nat:=(ts.map fun t=>(Qu t).length).sum
theorem Ja1 t ts:Jch (t::ts)=(Qu t).length+Jch ts:=by simp[Jch]
def tv (t:List UInt8):Value:=.string (Qw t)
theorem Kks s d a cap ts w F D(h:Zb w F d D)(hF:∀ k,F k->k<w.heap.size)(ht:Uh w a (ts.map tv))(bZ:∀ b o,a=some (Ar b o)->¬ F b)(bE:w.cell? (Aq s)=some (Pq d))(bH:¬ F s)q qw(hq:w.cell? (Aq 5)=some (Ie 435 q))(bR:w.cell? (Aq 6)=some (Ie 435 qw))(bJ:¬ F 5)(bK:¬ F 6)(cv:D.pages.length+Jch ts<=950000)(cC:ts.length<=100000)(bP:∀ t∈ts,t.length<=1000000):
  Cq 43 #[Pq s,.slice a ts.length cap] w fun e w'=>Jxo w F d q qw (Jq D ts) e w':=by
 have bT:=zh bP;clear bP;go_enter func43,ntmps43
 go_wp2;go_loopw [6,13] (fun sv i wr=>∃ (k:Nat) (E:DS) (hs:List (Option Addr×Nat)) (I:List (List Nat)) (FD:Nat->Prop),k<=ts.length/\i=Iq k/\I.length<=k/\E.pages.length+Jch (ts.drop k)<=950000/\Kiu w F wr d E sv hs I FD/\Hid ((∀ l∈I,l.length<=1000000)/\Jq D ts=Kit I (Jq E (ts.drop k)))) (fun _ i _=>ts.length-(intOf i).toNat)
 case atStart=>exact⟨0,D,[],[],F,Ob7 _,rfl,Oa2 _,by simpa using cv,⟨h,fun k O=>.inl O,hF,Jo.nil _ _ _,rfl,fun i h l hi=>by simp at hi,fun i h hi=>by simp at hi,fun g ci=>by simp[Value.ownBlock]at ci,Ju.refl _ _⟩,by show _/\_;exact⟨zS,by simp[Kit]⟩⟩
 case round=>
  rename_i sv i
  obtain⟨k,E,hs,I,FD,O,rfl,cB,cf,y,M⟩:=hrel;by_cases bz:k<ts.length
  ·have bf:Hid (ts.drop k=ts[k]::ts.drop (k+1)):=Oi1 bz;rw[bf.out,Ja1]at cf;rcases ht with ht|⟨b,o,rfl,hb,ht⟩
   ·simp at ht;subst ht;simp at bz
   have cA:wr.cell? (Ar b (o+k))=some (.string (Qw ts[k])):=y.keep.cell (ht k _ (by simp[bz];rfl)) (bZ b o rfl);have c0:=y.keep.cell bE bH;have bD:=Kkq d ts[k] wr FD E y.disk y.lt q qw (y.keep.cell hq bJ) (y.keep.cell bR bK) (fun H=>?_) (fun H=>?_) zo (bT.out _ (Ob3 bz))
   ·obtain⟨a0,bV,bi,_⟩:=y.own.cells;have bj:(List.zipWith Kh8 hs I).length=I.length:=(by simp[y.len]);rw[bj]at bi;have bU:=zh bj;clear bj;subst bi;have bL:∀ (K:Nat->Prop),(∀ k,K k->FD k\/wr.heap.size<=k)->∀ k,k<w.heap.size->K k->F k:=fun K bx k O H=>by
     have:=y.keep.size;rcases bx k H with h|h
     ·exact(y.from_ k h).resolve_right zo
     omega
    have bk:=bL;replace bk:Hid (∀ (K:Nat->Prop),(∀ k,K k->FD k\/wr.heap.size<=k)->∀ k,k<w.heap.size->K k->F k):=bk;clear bL;have Y:=zh y;have cx:=y.keep.size;clear y;rcases hr:Uy E (Qu ts[k])with⟨E1,l,r⟩;have bM:=Jrh (Qu ts[k]) E;rw[hr]at bD bM;simp only at bM;cases r with
    |none=>
     have bh:Hid ((∀ bI∈I++[l],bI.length<=1000000)/\Jq D ts=Kit (I++[l]) (Jq E1 (ts.drop (k+1)))):=by
      refine⟨fun bI cj=>?_,by rw[M.out.2,bf.out,Kjf hr]⟩;rcases Od2.1 cj with h|h
      ·exact M.out.1 bI h
      simp at h;subst h;omega
     clear M bf hr;generalize ts[k]=tk at *;go_wp2_with (first|(go_at_call 64;refine bD.mono ?_;rintro e br ⟨U,K,bA,Z,bC,cD,rfl,bO,bY⟩;obtain⟨a1,c1,bG,_⟩:=bO.cells;rw[Oa6]at bG;subst bG;have bG:=U.size)|(at_builtin;go_must (refine Ul zR _ _ 103 22 _ 24 Jzf zR zd zK zR w.heap.size _ _ zR (Jo.alloc (Y.out.stand U).1 _) ⟨br.heap.size,0,none⟩ 1 [.slice a1 l.length c1] zR (by exact Ua br _ _) (by intro u bQ;simp at bQ;subst bQ;rfl) (by rw[bU.out];simp only[List.length_cons,List.length_nil];omega) zt ?_);intro sv' cE bx bW bX;obtain⟨a2,cz,rfl,_⟩:=bx.cells))
     go_roundw
     case rel=>
      have hq:=Y.out.more U bA Z bC a1 c1 l bO bY _ bx bW bX;simp only[Oa8,List.length_zipWith,List.length_cons,List.length_nil,Od0]at hq;exact⟨k+1,E1,_,_,_,zo,zn,by simp;omega,zo,hq,bh.out⟩
     case measure=>simp[intOf];omega
    |some x=>
     have bh:Hid (Jq D ts=(Jf4 E1 l,I,some x)):=by show _=_;rw[M.out.2,bf.out,Kjv hr]
     have bS:=zh M.out.1;clear M bf hr;generalize ts[k]=tk at *;go_wp2_with (first|(go_at_call 64;refine bD.mono ?_;rintro e br ⟨U,K,bA,Z,bC,b1,rfl,ca,cb,bN⟩;have cu:=Y.out.done.stands U.size (fun k O hl=>U.block k hl O.2.2);have cn:=Kjd s d a0 bV hs I br K _ _ bA cu (fun k O H=>(Z k H).elim O.2.2 (fun h=>absurd O.2.1 zo)) (U.cell c0 (fun H=>(Y.out.from_ s H).elim bH (fun h=>by have:=Jm bE;simp at this;omega))) (fun H=>bH (bk.out K Z s (Jm bE) H)) zo bS.out)|(go_at_call 65;refine cn.mono ?_;rintro e cy ⟨rfl,cc,bB⟩))
     go_ret2
     rw[bh.out];exact⟨(Y.out.stand U).2.1.trans' bB (bk.out K Z),K,cc,fun k H=>(Z k H).elim (Y.out.from_ k) fun h=>.inr zo,fun k H=>Oc2 (bC k H) bB.size,b1,rfl,Ob2 cx ca,Ki6 cb bB bN,bN⟩
   ·exact(y.from_ _ H).elim bJ fun h=>by have:=Jm hq;simp at this;omega
   exact(y.from_ _ H).elim bK fun h=>by have:=Jm bR;simp at this;omega
  obtain rfl:k=ts.length:=zo;obtain⟨a1,c1,bi,_⟩:=y.own.cells;have bj:(List.zipWith Kh8 hs I).length=I.length:=by simp[y.len]
  rw[bj]at bi;subst bi;have bh:Hid (Jq D ts=(E,I,none)):=by show _=_;rw[M.out.2,List.drop_length];simp[Kit,Jq]
  clear M;go_wp2;go_ret2
  rw[bh.out];exact⟨y.keep,FD,y.disk,y.from_,y.lt,_,_,hs,rfl,y.done,Kku y.own⟩
