/- The disk in memory: its fields, its list of pages, the pages themselves; what stands when something else turns. -/
import Derived.Test.YtjbenncelbpbnaaGreatDoorOf
import Derived.Test.YtjbenncelbpbnaaGreatDoorKd
set_option maxHeartbeats 2000000
set_option maxRecDepth 100000
namespace Go.Proofs.YtjbenncelbpbnaaGreatDoor
open Go.RowKit Tryz
structure Ju (F:Nat->Prop) (w w':World):Prop where
 os:w'.os=w.os
 tape:w'.tape=w.tape
 output:w'.output=w.output
 size:w.heap.size<=w'.heap.size
 block:∀ k,k<w.heap.size->¬ F k->w'.heap[k]?=w.heap[k]?
theorem Ju.refl F w:Ju F w w:=⟨rfl,rfl,rfl,Oa2 _,fun _ _ _=>rfl⟩
theorem Ju.trans {F a b c}(h:Ju F a b)(k:Ju F b c):Ju F a c:=
 ⟨k.os.trans h.os,k.tape.trans h.tape,k.output.trans h.output,Ob2 h.size k.size,fun i hi hn=>(k.block i (Oc2 hi h.size) hn).trans (h.block i hi hn)⟩
theorem Ju.trans' {F G a b c}(h:Ju F a b)(k:Ju G b c)(y:∀ i,i<a.heap.size->G i->F i):Ju F a c:=
 ⟨k.os.trans h.os,k.tape.trans h.tape,k.output.trans h.output,Ob2 h.size k.size,fun i hi hn=>(k.block i (Oc2 hi h.size) (fun H=>hn (y i hi H))).trans (h.block i hi hn)⟩
theorem Ju.mono {F G w w'}(h:Ju F w w')(y:∀ k,k<w.heap.size->F k->G k):Ju G w w':=
 ⟨h.os,h.tape,h.output,h.size,fun k hk hn=>h.block k hk (fun hf=>hn (y k hk hf))⟩
theorem Ju.of_below {F w w'}(h:Below w.heap.size w w'):Ju F w w':=⟨h.os,h.tape,h.output,h.size,fun k hk _=>h.block k hk⟩
theorem Ju.alloc {F w w'}(h:Ju F w w')o:Ju F w (w'.alloc o):=h.trans (.of_below ((Oa5 _ _).alloc (Oa2 _) _))
theorem Ju.set {F w w'}(h:Ju F w w'){b}(hb:F b)i v:Ju F w (w'.setCell ⟨b,i,none⟩ v):=
 h.trans ⟨rfl,rfl,rfl,by simp[World.setCell],fun k _ hn=>Oa4 _ _ _ _ (fun e=>hn (by rw[e];exact hb))⟩
theorem Ju.below {F w w'}(h:Ju F w w'){B}(hF:∀ k,k<B->¬ F k)(y:B<=w.heap.size):Below B w w':=⟨h.os,h.tape,h.output,h.size,fun k hk=>h.block k zo (hF k hk)⟩
theorem Ju.cell {F w w'}(h:Ju F w w'){b o v}(y:w.cell? ⟨b,o,none⟩=some v)(hn:¬ F b):w'.cell? ⟨b,o,none⟩=some v:=by
 rw[Oc3 (w:=w) (h.block b (Jm y) hn)];exact y
theorem Ju.drewN {F w w'}(h:Ju F w w')n:Ju F w (w'.drewN n):=⟨h.os,h.tape,h.output,h.size,h.block⟩
def up (F:Nat->Prop)(w:World):Nat->Prop:=fun k=>F k\/w.heap.size<=k
theorem Ju.down {F w w'}(h:Ju (up F w) w w'):Ju F w w':=h.mono fun k hk y=>y.elim id (fun h=>absurd hk zo)
structure DS where
 quota:Int
 fail:Int
 writes:Int
 lowest:Nat
 pages:List (Option (List UInt8))
def Js (l:List (Option (List UInt8))):Nat:=l.countP Option.isSome
theorem Kad l:Js l<=l.length:=List.countP_le_length
def Kew:Option Nat->Value
 |none=>.pointer none
 |some b=>.pointer (some ⟨b,0,none⟩)
structure Jf1 (w:World) (F:Nat->Prop) (d:Nat) (D:DS) (sv:Value) (ps:List (Option Nat)):Prop where
 cells:w.heap[d]?=some (.cells #[.int .i64 D.quota,.int .i64 D.fail,.int .i64 D.writes,.int .i64 ((Js D.pages:Nat):Int),.int .i64 ((D.lowest:Nat):Int),sv] 90 (0,0))
 own:Jo w 0 245 sv (ps.map Kew)
 ownF:∀ g,sv.ownBlock=some g->F g/\g≠d
 dF:F d
 len:ps.length=D.pages.length
 page:∀ (i b:Nat),ps[i]?=some (some b)->F b/\b≠d/\sv.ownBlock≠some b/\∃ p,D.pages[i]?=some (some p)/\Jdp w b p
 vacant:∀ i:Nat,ps[i]?=some Option.none->D.pages[i]?=some Option.none
 inj:∀ (i j b:Nat),ps[i]?=some (some b)->ps[j]?=some (some b)->i=j
 low:D.lowest<=D.pages.length
 full:∀ i:Nat,i<D.lowest->∃ p,D.pages[i]?=some (some p)
 small:D.pages.length<=960000
def Zb (w:World)(F:Nat->Prop)(d:Nat)(D:DS):Prop:=∃ sv ps,Jf1 w F d D sv ps
theorem Qk {w B e sv xs g}(h:Jo w B e sv xs)(y:sv.ownBlock=some g):g<w.heap.size:=by
 rcases h.2 with⟨hv,_⟩|⟨I,cap,H,hv,_,hb,_⟩
 ·subst hv;simp[Value.ownBlock]at y
 subst hv;simp[Value.ownBlock]at y;subst y;exact Jd hb
theorem Yd {w w' B e sv xs}(h:Jo w B e sv xs)(hk:∀ g,sv.ownBlock=some g->w'.heap[g]?=w.heap[g]?):Jo w' B e sv xs:=by
 refine⟨h.1,?_⟩;rcases h.2 with h|⟨y,cap,H,hv,I,hb,hr⟩
 ·exact .inl h
 refine .inr ⟨y,cap,H,hv,I,?_,hr⟩;rw[hk y (by subst hv;simp[Value.ownBlock])];exact hb
theorem Jf1.stands {w w' F d D sv ps}(h:Jf1 w F d D sv ps)(hk:∀ k,F k->k<w.heap.size->w'.heap[k]?=w.heap[k]?):Jf1 w' F d D sv ps:=
 ⟨by rw[hk d h.dF (Jd h.cells)];exact h.cells,Yd h.own fun g y=>hk g (h.ownF g y).1 (Qk h.own y),h.ownF,h.dF,h.len,
  fun i b hi=>by obtain⟨f,H,I,p,hp,hq⟩:=h.page i b hi;exact⟨f,H,I,p,hp,hq.of_block (hk b f hq.2.lt)⟩,h.vacant,h.inj,h.low,h.full,h.small⟩
theorem Zb.stands {w w' F d D}(h:Zb w F d D)(hk:∀ k,F k->k<w.heap.size->w'.heap[k]?=w.heap[k]?):Zb w' F d D:=by
 obtain⟨sv,ps,h⟩:=h;exact⟨sv,ps,h.stands hk⟩
theorem Jf1.below {w w' F d D sv ps}(h:Jf1 w F d D sv ps)(hb:Below w.heap.size w w'):Jf1 w' F d D sv ps:=h.stands fun k _ hk=>hb.block k hk
theorem Zb.below {w w' F d D}(h:Zb w F d D)(hb:Below w.heap.size w w'):Zb w' F d D:=h.stands fun k _ hk=>hb.block k hk
theorem Jf1.mono {w F G d D sv ps}(h:Jf1 w F d D sv ps)(y:∀ k,k<w.heap.size->F k->G k):Jf1 w G d D sv ps:=
 ⟨h.cells,h.own,fun g H=>⟨y g (Qk h.own H) (h.ownF g H).1,(h.ownF g H).2⟩,y d (Jd h.cells) h.dF,h.len,
  fun i b hi=>by obtain⟨f,I,K,p,hp,hq⟩:=h.page i b hi;exact⟨y b hq.2.lt f,I,K,p,hp,hq⟩,h.vacant,h.inj,h.low,h.full,h.small⟩
theorem Zb.mono {w F G d D}(h:Zb w F d D)(y:∀ k,k<w.heap.size->F k->G k):Zb w G d D:=by
 obtain⟨sv,ps,h⟩:=h;exact⟨sv,ps,h.mono y⟩
theorem Jf1.field {w F d D sv ps}(h:Jf1 w F d D sv ps):
  w.cell? ⟨d,0,.none⟩=some (.int .i64 D.quota)/\w.cell? ⟨d,1,.none⟩=some (.int .i64 D.fail)/\w.cell? ⟨d,2,.none⟩=some (.int .i64 D.writes)/\w.cell? ⟨d,3,.none⟩=some (.int .i64 ((Js D.pages:Nat):Int)) /\
   w.cell? ⟨d,4,.none⟩=some (.int .i64 ((D.lowest:Nat):Int))/\w.cell? ⟨d,5,.none⟩=some sv:=by
 simp[World.cell?,h.cells]
theorem Jf1.thaw {w F d D sv ps}(h:Jf1 w F d D sv ps)i:w.frozen? ⟨d,i,.none⟩=false:=by simp[World.frozen?,h.cells]
theorem Ji8 {w B e sv xs}(h:Jo w B e sv xs):∃ a cap,sv=.slice a xs.length cap/\∀ i x,xs[i]?=some x->∃ g,a=some ⟨g,0,none⟩/\sv.ownBlock=some g/\w.cell? ⟨g,i,none⟩=some x/\w.frozen? ⟨g,i,none⟩=false:=by
 rcases h.2 with⟨hv,h0⟩|⟨g,cap,K,hv,_,hb,M,_,O,I⟩
 ·refine⟨none,0,by rw[hv,h0],fun i x y=>?_⟩;rw[Od3.1 h0]at y;simp at y
 refine⟨some ⟨g,0,none⟩,cap,hv,fun i x y=>⟨g,rfl,by subst hv;simp[Value.ownBlock],?_,by simp[World.frozen?,hb]⟩⟩;have hi:i<xs.length:=by
  rcases Oc1 i xs.length with H|H
  ·exact H
  rw[Ob4 H]at y;simp at y
 rw[<-I]at y;rw[Nat.mul_one,Oh3 hi,Oe6]at y;simp[World.cell?,hb,y]
def Jai (l:List (Option (List UInt8)))(page:Int):Bool:=decide (0<=page/\page<l.length)&&(l.getD page.toNat .none).isSome
theorem Jf1.list {w F d D sv ps}(h:Jf1 w F d D sv ps):
  ∃ a cap,sv=.slice a ps.length cap/\∀ (i:Nat) (hi:i<ps.length),∃ g,a=some ⟨g,0,none⟩/\F g/\g≠d/\w.cell? ⟨g,i,none⟩=some (Kew ps[i])/\w.frozen? ⟨g,i,none⟩=false:=by
 obtain⟨a,cap,H,O⟩:=Ji8 h.own;rw[Oa6]at H;refine⟨a,cap,H,fun i hi=>?_⟩;obtain⟨g,I,y,K,M⟩:=O i (Kew ps[i]) (by simp[hi]);exact⟨g,I,(h.ownF g y).1,(h.ownF g y).2,K,M⟩
theorem Jf1.which {w F d D sv ps}(h:Jf1 w F d D sv ps)i(hi:i<ps.length):(D.pages.getD i none).isSome=ps[i].isSome:=by
 cases hq:ps[i]with
 |none=>rw[Oa0,h.vacant i (by rw[<-hq];simp[hi])];rfl
 |some b=>obtain⟨_,_,_,p,hp,_⟩:=h.page i b (by rw[<-hq];simp[hi]);rw[Oa0,hp];rfl
theorem zaz {p:Prop}(h:p:=by
 clear y h hlen;go_enter func129,ntmps129
 go_wp2;go_ret
 exact⟨Qr (by first|(simp;done)|(simp;omega)),rfl⟩):p:=h
theorem Jwv d page w F D(h:Zb w F d D):
  Calls prog 129 #[.pointer (some ⟨d,0,none⟩),.int .i64 page] w fun e w'=>e=.returned (.bool (Jai D.pages page))/\w'=w:=by
 obtain⟨sv,ps,h⟩:=h;obtain⟨_,_,_,_,_,c5⟩:=h.field;obtain⟨a,cap,rfl,y⟩:=h.list;have hlen:=h.len;unfold Jai;rw[<-hlen];by_cases h0:0<=page
 ·obtain⟨i,rfl⟩:=Int.eq_ofNat_of_zero_le h0;by_cases hi:i<ps.length
  ·obtain⟨g,rfl,_,_,c,f⟩:=y i hi;have H:=h.which i hi;have I:(i:Int)<(ps.length:Int):=zo;rw[show (Int.toNat (i:Int))=i from rfl,H];clear H y h hlen;cases hq:ps[i]with
   |none=>
    rw[hq]at c;simp only[Kew]at c;go_enter func129,ntmps129
    go_wp2;go_ret
    exact⟨Qr zS,rfl⟩
   |some b=>
    rw[hq]at c;simp only[Kew]at c;go_enter func129,ntmps129
    go_wp2;go_ret
    exact⟨Qr (by simp[hi]),rfl⟩
  have I:¬ (i:Int)<(ps.length:Int):=zo;exact zaz
 exact zaz
theorem Kzd d w F D(h:Zb w F d D):
  Calls prog 23 #[.pointer (some ⟨d,0,none⟩)] w fun e w'=>e=.returned (.int .i64 ((Js D.pages:Nat):Int))/\w'=w:=by
 obtain⟨sv,ps,h⟩:=h;obtain⟨_,_,_,c3,_,_⟩:=h.field;clear h;go_enter func23,ntmps23
 go_wp2;go_ret
 exact⟨rfl,rfl⟩
def Ku (q f:Int):DS:=⟨q,f,0,0,[]⟩
theorem Kcn q f w:
  Calls prog 28 #[.agg #[.int .i64 q,.int .i64 f]] w fun e w'=>∃ b,e=.returned (.pointer (some ⟨b,0,none⟩))/\w.heap.size<=b/\Zb w' (fun k=>k=b) b (Ku q f)/\Below w.heap.size w w':=by
 go_enter func28,ntmps28
 go_wp2;go_ret
 refine⟨_,rfl,?_,⟨.slice none 0 0,[],?_,Jo.nil _ _ _,?_,rfl,rfl,?_,?_,?_,?_,?_,?_⟩,?_⟩
 ·simp
 ·have:=heap_alloc_new (w.alloc (.cells #[.int .i64 q,.int .i64 f] 33)) (.cells #[.int .i64 q,.int .i64 f,.int .i64 0,.int .i64 0,.int .i64 0,.slice none 0 0] 90);rw[Oa7]at this;exact this
 ·intro g y;simp[Value.ownBlock]at y
 ·intro i b hi;simp at hi
 ·intro i hi;simp at hi
 ·intro i j b hi;simp at hi
 ·simp[Ku]
 ·intro i hi;simp[Ku]at hi
 ·simp[Ku]
 exact((Oa5 _ _).alloc (Oa2 _) _).alloc zS _
theorem Kji:(prog.info? 245).map (fun i=>(i.zero,i.size,i.bytes))=some (some (.pointer none),1,8):=zK
theorem Jf1.turn {w w' F d D sv ps}(h:Jf1 w F d D sv ps)wr lo(I:w'.heap[d]?=some (.cells #[.int .i64 D.quota,.int .i64 D.fail,.int .i64 wr,.int .i64 ((Js D.pages:Nat):Int),.int .i64 ((lo:Nat):Int),sv] 90 (0,0)))(hk:∀ k,k≠d->k<w.heap.size->w'.heap[k]?=w.heap[k]?)(M:lo<=D.pages.length)(K:∀ i,i<lo->∃ p,D.pages[i]?=some (some p)):Jf1 w' F d ⟨D.quota,D.fail,wr,lo,D.pages⟩ sv ps:=
 ⟨I,Yd h.own fun g y=>hk g (h.ownF g y).2 (Qk h.own y),h.ownF,h.dF,h.len,
  fun i b hi=>by obtain⟨f,H,O,p,hp,hq⟩:=h.page i b hi;exact⟨f,H,O,p,hp,hq.of_block (hk b H hq.2.lt)⟩,h.vacant,h.inj,M,K,h.small⟩
theorem Jf1.setLow {w F d D sv ps}(h:Jf1 w F d D sv ps)lo(H:lo<=D.pages.length)(y:∀ i,i<lo->∃ p,D.pages[i]?=some (some p)):
  Jf1 (w.setCell ⟨d,4,none⟩ (.int .i64 ((lo:Nat):Int))) F d ⟨D.quota,D.fail,D.writes,lo,D.pages⟩ sv ps:=
 h.turn D.writes lo (by have:=Jk h.cells 4 (.int .i64 ((lo:Nat):Int));simpa using this) (fun k hk _=>Oa4 _ _ _ _ hk) H y
theorem Jf1.setWrites {w F d D sv ps}(h:Jf1 w F d D sv ps)wr:
  Jf1 (w.setCell ⟨d,2,none⟩ (.int .i64 wr)) F d ⟨D.quota,D.fail,wr,D.lowest,D.pages⟩ sv ps:=
 h.turn wr D.lowest (by have:=Jk h.cells 2 (.int .i64 wr);simpa using this) (fun k hk _=>Oa4 _ _ _ _ hk) h.low h.full
theorem zaG {p:Prop}(h:p:=by
 rw[Ob6 y]at hi;rcases hz:i-ps.length with _|z
 ·rw[hz]at hi;simp at hi
 rw[hz]at hi;simp at hi):p:=h
theorem Jf1.longer {w w1 F d D sv sv' ps}(h:Jf1 w F d D sv ps)(bj:∀ k,w.heap.size<=k->F k)(bh:Jo w1 0 245 sv' (ps.map Kew++[.pointer none]))(I:∀ k,k<w.heap.size->sv.ownBlock≠some k->w1.heap[k]?=w.heap[k]?)(hb:sv'.ownBlock=sv.ownBlock\/∃ n,sv'.ownBlock=some n/\w.heap.size<=n)(bk:D.pages.length<960000):
  Jf1 (w1.setCell ⟨d,5,none⟩ sv') F d ⟨D.quota,D.fail,D.writes,D.lowest,D.pages++[none]⟩ sv' (ps++[none]):=by
 have Y:=Jd h.cells;have K:∀ g,sv'.ownBlock=some g->g≠d:=by
  intro g H Z;rcases hb with hb|⟨n,hb,hn⟩
  ·rw[hb]at H;exact(h.ownF g H).2 Z
  rw[hb]at H;cases H;omega
 have U:w1.heap[d]?=some (.cells #[.int .i64 D.quota,.int .i64 D.fail,.int .i64 D.writes,.int .i64 ((Js D.pages:Nat):Int),.int .i64 ((D.lowest:Nat):Int),sv] 90 (0,0)):=by
  rw[I d Y (fun e=>(h.ownF d e).2 rfl)];exact h.cells
 have bi:Js (D.pages++[none])=Js D.pages:=by simp[Js,List.countP_append]
 refine⟨?_,?_,?_,h.dF,by simp[h.len],?_,?_,?_,?_,?_,by simp;omega⟩
 ·have:=Jk U 5 sv';rw[bi];simpa using this
 ·have:(ps++[none]).map Kew=ps.map Kew++[.pointer none]:=by simp[Kew]
  rw[this];exact Yd bh fun g H=>Oa4 _ _ _ _ (K g H)
 ·intro g H;refine⟨?_,K g H⟩;rcases hb with hb|⟨n,hb,hn⟩
  ·rw[hb]at H;exact(h.ownF g H).1
  rw[hb]at H;cases H;exact bj _ hn
 ·intro i b hi;rcases Oc1 i ps.length with y|y
  ·rw[Ob0 y]at hi;obtain⟨f,M,O,p,hp,hq⟩:=h.page i b hi;refine⟨f,M,?_,p,?_,?_⟩
   ·rcases hb with hb|⟨n,hb,hn⟩
    ·rw[hb];exact O
    rw[hb];intro e;have:=hq.2.lt;cases e
    omega
   ·rw[Ob0 (by rw[<-h.len];exact y)];exact hp
   refine hq.of_block ?_;rw[Oa4 _ _ _ _ M];exact I b hq.2.lt O
  exact zaG
 ·intro i hi;rcases Oc1 i ps.length with y|y
  ·rw[Ob0 y]at hi;rw[Ob0 (by rw[<-h.len];exact y)];exact h.vacant i hi
  have:i=ps.length:=by
   rcases Oc1 i (ps.length+1)with h2|h2
   ·omega
   ·rw[Ob4 zt]at hi;simp at hi
  subst this;rw[h.len];simp
 ·intro i j b hi bf;have key:∀ i:Nat,(ps++[none])[i]?=some (some b)->ps[i]?=some (some b):=by
   intro i hi;rcases Oc1 i ps.length with y|y
   ·rwa [Ob0 y]at hi
   exact zaG
  exact h.inj i j b (key i hi) (key j bf)
 ·simp;have:=h.low;omega
 intro i hi;obtain⟨p,hp⟩:=h.full i hi;refine⟨p,?_⟩;rw[Ob0]
 ·exact hp
 have:=h.low;simp at hi |-;omega
def Kb:List (Option (List UInt8))->Nat
 |[]=>0
 |none::_=>0
 |some _::l=>Kb l+1
theorem Jeu:∀ l,Kb l<=l.length
 |[]=>Oa2 _
 |none::_=>by simp[Kb]
 |some _::l=>by simp[Kb];exact Jeu l
theorem Kiv:∀ (l:List (Option (List UInt8)))(i:Nat),i<Kb l->∃ p,l[i]?=some (some p)
 |[],i,h=>by simp[Kb]at h
 |none::_,i,h=>by simp[Kb]at h
 |some x::l,0,_=>⟨x,rfl⟩
 |some x::l,i+1,h=>by
  obtain⟨p,hp⟩:=Kiv l i (by simp[Kb]at h;omega);exact⟨p,by simpa using hp⟩
theorem Jc3:∀ (l:List (Option (List UInt8))),Kb l<l.length->l[Kb l]?=some none
 |[],h=>by simp at h
 |none::_,_=>rfl
 |some x::l,h=>by simpa [Kb] using Jc3 l (by simp[Kb]at h;omega)
theorem Kjh l k(h:∀ i,i<k->∃ p,l[i]?=some (some p))(hk:k<=l.length):k<=Kb l:=by
 rcases Oc1 (Kb l) k with y|y
 ·obtain⟨p,hp⟩:=h _ y;rw[Jc3 l zo]at hp;simp at hp
 exact y
def Ki1 (D:DS):DS:=⟨D.quota,D.fail,D.writes,Kb D.pages,if Kb D.pages<D.pages.length then D.pages else D.pages++[none]⟩
theorem Jtc {l}{i:Nat}{p}(h:l[i]?=some (some p)):Jai l (i:Int)=true:=by
 have hi:i<l.length:=by
  rcases Oc1 i l.length with y|y
  ·exact y
  rw[Ob4 y]at h;simp at h
 unfold Jai;rw[Og5,decide_eq_true_eq,Oa0,show (Int.toNat (i:Int))=i from rfl,h];exact⟨zo,rfl⟩
theorem Jsj l:Jai l ((Kb l:Nat):Int)=false:=by
 unfold Jai;rw[Bool.and_eq_false_iff];rcases Oc1 (Kb l) l.length with y|y
 ·right;rw[Oa0,show (Int.toNat ((Kb l:Nat):Int))=Kb l from rfl,Jc3 l y];rfl
 left;simp;omega
theorem Kkj d w F D(h:Zb w F d D)(bK:∀ k,w.heap.size<=k->F k)(bz:D.pages.length<960000):
  Calls prog 127 #[.pointer (some ⟨d,0,none⟩)] w fun e w'=>e=.returned (.int .i64 ((Kb D.pages:Nat):Int)) /\
   Zb w' F d (Ki1 D)/\Ju F w w':=by
 obtain⟨sv,ps,h⟩:=h;go_enter func127,ntmps127
 go_wp2;go_loopw [8] (fun _ wr=>∃ k:Nat,k<=Kb D.pages/\Jf1 wr F d ⟨D.quota,D.fail,D.writes,k,D.pages⟩ sv ps/\Ju F w wr) (fun _ wr=>D.pages.length+1-(intOf ((wr.cell? ⟨d,4,none⟩).getD undef)).toNat)
 case atStart=>exact⟨D.lowest,Kjh _ _ h.full h.low,h,Ju.refl _ _⟩
 case round=>
  obtain⟨k,hk,y,Y⟩:=hrel;have br:=Jeu D.pages;obtain⟨_,_,_,_,c4,c5⟩:=y.field;have bD:=y.thaw 4;have bE:=y.thaw 5;have I:=Jwv d (k:Int) wr F _ ⟨sv,ps,y⟩;by_cases bx:k<Kb D.pages
  ·obtain⟨p,hp⟩:=Kiv _ _ bx;rw[Jtc hp]at I;have bL:=y.setLow (k+1) (by show k+1<=D.pages.length;omega) (fun i hi=>Kiv D.pages i zo);have bJ:=Y.set y.dF 4 (.int .i64 ((k+1:Nat):Int));clear hp;go_wp2_with (go_at_call 129;refine I.mono ?_;rintro e w' ⟨rfl,bB⟩;subst w')
   go_roundw
   case rel=>exact⟨k+1,zo,by simpa using bL,by simpa using bJ⟩
   case measure=>
    simp only[World.cell?_setCell_same _ _ _ c4,c4,Option.getD_some,intOf];omega
  obtain rfl:k=Kb D.pages:=zo;rw[Jsj]at I;obtain⟨a,cap,rfl,bI⟩:=y.list;have bf:Hid (ps.length=D.pages.length):=y.len;have bC:Hid (Jo wr 0 245 (.slice a ps.length cap) (ps.map Kew)):=y.own;obtain⟨O,K⟩:∃ O,Hid (Kb D.pages=O):=⟨_,rfl⟩;rw[K.out]at I c4;clear bI bD hk bx;by_cases U:Kb D.pages<D.pages.length
  ·have Z:Hid (Ki1 D=⟨D.quota,D.fail,D.writes,Kb D.pages,D.pages⟩):=by show Ki1 D=_;rw[Ki1,if_pos U]
   have bH:(((O:Nat):Int)==((ps.length:Nat):Int))=false:=by have:=bf.out;have:=K.out;rw[beq_eq_false_iff_ne];omega
   have M:=zh y;clear U br bz y;go_wp2_with (go_at_call 129;refine I.mono ?_;rintro e w' ⟨rfl,bB⟩;subst w')
   go_quiet (fail)
   go_wp2;go_ret
   refine⟨Yp (by rw[K.out]),?_,Y.drewN _⟩;rw[Z.out];exact⟨_,ps,M.out.below (Jp (Oa5 _ _) _)⟩
  have Z:Hid (Ki1 D=⟨D.quota,D.fail,D.writes,Kb D.pages,D.pages++[none]⟩):=by show Ki1 D=_;rw[Ki1,if_neg U]
  have bH:(((O:Nat):Int)==((ps.length:Nat):Int))=true:=by have:=bf.out;have:=K.out;rw[beq_iff_eq];omega
  have bN:ps.length+1<=1000000:=by have:=bf.out;omega
  have M:=zh y;have hn:(Value.slice a ps.length cap).ownBlock≠some d:=fun e=>(y.ownF d e).2 rfl;have bh:=Jd y.cells;have bO:=Y.size;clear U br y;go_wp2_with (go_at_call 129;refine I.mono ?_;rintro e w' ⟨rfl,bB⟩;subst w')
  go_quiet (fail)
  go_wp2_with (at_builtin;go_must (refine Ks zR _ _ 88 245 _ 8 Kji zR zd zK zR 0 _ _ zR (Jo.alloc (w:=wr.drewN nq) bC.out _) ⟨wr.heap.size,0,none⟩ 1 [.pointer none] zR (by exact Ua (wr.drewN nq) _ _) (by intro u bA;simp at bA;subst bA;rfl) (by simp only[List.length_cons,List.length_nil,Oa6];omega) zS ?_);intro sv' w1 bj H bG;obtain⟨a2,bM,rfl,_⟩:=bj.cells;have bQ:w1.cell? ⟨d,5,none⟩=some (.slice a ps.length cap):=(by rw[H.cell_far _ zt (Oc5 hn)];exact(Jnf (wr.drewN nq) _ d 5 bh).trans c5);have bR:w1.frozen? ⟨d,5,none⟩=false:=(by rw[H.frozen_far _ zt (Oc5 hn)];exact(Jh9 (wr.drewN nq) _ d 5 bh).trans bE);have bP:w1.cell? ⟨d,4,none⟩=some (.int .i64 ((O:Nat):Int)):=(by rw[H.cell_far _ zt (Oc5 hn)];exact(Jnf (wr.drewN nq) _ d 4 bh).trans c4))
  go_ret
  have bk:∀ k,k<wr.heap.size->(Value.slice a ps.length cap).ownBlock≠some k->w1.heap[k]?=wr.heap[k]?:=fun k hk bi=>(H.block k zt (Oc5 bi)).trans (Oa9 (wr.drewN nq) _ k hk);have hl:=M.out.longer (fun k hk=>bK k zo) bj bk (bG.imp id fun e=>⟨_,e,zS⟩) bz;simp only[Oa8,Oa6,List.length_cons,List.length_nil]at hl;refine⟨Yp (by rw[K.out]),?_,?_⟩
  ·rw[Z.out];exact⟨_,_,hl⟩
  refine Ju.set ?_ M.out.dF 5 _;refine Y.trans ⟨H.os,H.tape,H.output,Ob2 zS H.size,fun k hk bi=>bk k hk fun e=>bi (M.out.ownF k e).1⟩
theorem Jf1.drewN {w F d D sv ps}(h:Jf1 w F d D sv ps)n:Jf1 (w.drewN n) F d D sv ps:=h.below (Jp (Oa5 _ _) _)
theorem Jwl (w:World)(q:Addr)(p:Int):Yu (w.alloc (.cells #[.iface 432 (.pointer (some q)),.int .i64 p] 159)) (.iface 156 (.pointer (some ⟨w.heap.size,0,none⟩))) q none (some p):=
 .disk _ _ _ zS zS
theorem Kjc d s w F D(h:Zb w F d D)q(hq:w.cell? ⟨6,0,none⟩=some (.iface 432 (.pointer (some q))))(y:D.quota<=((Js D.pages:Nat):Int)):
  Calls prog 95 #[.pointer (some ⟨d,0,none⟩),.string s] w fun e w'=>Below w.heap.size w w'/\∃ b,e=.returned (.tuple #[.int .i64 0,.iface 156 (.pointer (some ⟨b,0,none⟩))])/\w.heap.size<=b/\Yu w' (.iface 156 (.pointer (some ⟨b,0,none⟩))) q none (some (-1)):=by
 obtain⟨sv,ps,h⟩:=h;obtain⟨c0,_,_,c3,_,_⟩:=h.field;clear h;go_enter func95,ntmps95
 go_wp2_with fail
 go_quiet (fail)
 go_wp2_with fail
 go_region
 go_wp2;go_ret2
 have hb:Below w.heap.size w ((w.drewN (nq+1)).alloc (.cells #[.iface 432 (.pointer (some q)),.int .i64 (-1)] 159)):=(Jp (Oa5 _ w) _).alloc (Oa2 _) _;exact⟨hb,_,rfl,Oa2 _,Jwl (w.drewN (nq+1)) q (-1)⟩
def Jvn (D:DS):DS:=⟨D.quota,D.fail,wrap64 (D.writes+1),D.lowest,D.pages⟩
theorem Kj0 d s w F D(h:Zb w F d D)q(hq:w.cell? ⟨7,0,none⟩=some (.iface 432 (.pointer (some q))))(Z:¬ D.quota<=((Js D.pages:Nat):Int))(I:wrap64 (D.writes+1)=D.fail):
  Calls prog 95 #[.pointer (some ⟨d,0,none⟩),.string s] w fun e w'=>Ju F w w'/\Zb w' F d (Jvn D)/\∃ b,e=.returned (.tuple #[.int .i64 0,.iface 156 (.pointer (some ⟨b,0,none⟩))])/\w.heap.size<=b/\Yu w' (.iface 156 (.pointer (some ⟨b,0,none⟩))) q none (some (-1)):=by
 obtain⟨sv,ps,h⟩:=h;obtain⟨c0,c1,c2,c3,_,_⟩:=h.field;have O:=h.thaw 2;have y:=zh h;have H:=zh I;clear I h;go_enter func95,ntmps95
 go_wp2_with fail
 go_quiet (fail)
 go_upto_region 4 with fail
 have K:=(y.out.drewN nq).setWrites (wrap64 (D.writes+1));have Y:(wrap64 (D.writes+1)==D.fail)=true:=by rw[beq_iff_eq];exact H.out
 have M:Hid (Jvn D=⟨D.quota,D.fail,wrap64 (D.writes+1),D.lowest,D.pages⟩):=rfl;have hk:Ju F w ((w.drewN nq).setCell ⟨d,2,none⟩ (.int .i64 (wrap64 (D.writes+1)))):=((Ju.refl F w).drewN nq).set y.out.dF 2 _;have bf:((w.drewN nq).setCell ⟨d,2,none⟩ (.int .i64 (wrap64 (D.writes+1)))).cell? ⟨7,0,none⟩=some (.iface 432 (.pointer (some q))):=by
  rw[Ob5 _ _ _ _ zS];exact hq
 clear H c0 c1 c2 c3 O y hq;generalize wrap64 (D.writes+1)=U at *;obtain⟨_,c1,c2,_,_,_⟩:=K.field;generalize (w.drewN nq).setCell ⟨d,2,none⟩ (.int .i64 U)=W at *;simp only at c1 c2;go_quiet (fail)
 go_wp2_with fail
 go_region
 go_wp2;go_ret2
 have hb:Below W.heap.size W ((W.drewN (nq+1)).alloc (.cells #[.iface 432 (.pointer (some q)),.int .i64 (-1)] 159)):=(Jp (Oa5 _ W) _).alloc (Oa2 _) _;refine⟨hk.trans (.of_below hb),?_,_,rfl,hk.size,Jwl (W.drewN (nq+1)) q (-1)⟩;rw[M.out];exact⟨_,_,K.below hb⟩
theorem Jl5:∀ (l:List (Option (List UInt8)))(i:Nat)(p:List UInt8),l[i]?=some none->Js (l.set i (some p))=Js l+1
 |[],i,_,h=>by simp at h
 |x::l,0,p,h=>by
  simp at h;subst h;simp[Js]
 |x::l,i+1,p,h=>by
  have:=Jl5 l i p (by simpa using h);simp only[Js,List.set_cons_succ,On3]at this |-;omega
theorem Jii:∀ (l:List (Option (List UInt8)))(i:Nat)(p:List UInt8),l[i]?=some (some p)->Js (l.set i none)+1=Js l
 |[],i,_,h=>by simp at h
 |x::l,0,p,h=>by
  simp at h;subst h;simp[Js]
 |x::l,i+1,p,h=>by
  have:=Jii l i p (by simpa using h);simp only[Js,List.set_cons_succ,On3]at this |-;omega
theorem Kka {w B e sv xs g}(h:Jo w B e sv xs)(y:sv.ownBlock=some g)i(hi:i<xs.length)v:Jo (w.setCell ⟨g,i,none⟩ v) B e sv (xs.set i v):=by
 refine⟨zS,?_⟩;rcases h.2 with⟨hv,h0⟩|⟨I,cap,H,hv,K,hb,O,U,Y,M⟩
 ·omega
 subst hv;simp[Value.ownBlock]at y;subst y;refine .inr ⟨I,cap,H.setIfInBounds i v,zS,K,Jk hb i v,by simpa using O,U,by simpa using Y,?_⟩;rw[Of8,Ok0,List.take_set,M]
theorem Jf1.put {w F d D sv ps}(h:Jf1 w F d D sv ps){g}(I:sv.ownBlock=some g)i(hi:D.pages[i]?=some none)b p(hp:Jdp w b p)(hF:F b)(bf:b≠d)(bh:b≠g)(bk:∀ j:Nat,ps[j]?≠some (some b)):
  Jf1 ((w.setCell ⟨g,i,none⟩ (.pointer (some ⟨b,0,none⟩))).setCell ⟨d,3,none⟩ (.int .i64 ((Js D.pages+1:Nat):Int))) F d ⟨D.quota,D.fail,D.writes,D.lowest,D.pages.set i (some p)⟩ sv (ps.set i (some b)):=by
 have U:i<D.pages.length:=by
  rcases Oc1 i D.pages.length with O|O
  ·exact O
  rw[Ob4 O]at hi;simp at hi
 have K:i<ps.length:=by rw[h.len];exact U
 have bj:=(h.ownF g I).2;have bC:(w.setCell ⟨g,i,none⟩ (.pointer (some ⟨b,0,none⟩))).heap[d]?=some (.cells #[.int .i64 D.quota,.int .i64 D.fail,.int .i64 D.writes,.int .i64 ((Js D.pages:Nat):Int),.int .i64 ((D.lowest:Nat):Int),sv] 90 (0,0)):=by
  rw[Oa4 _ _ _ _ (show d≠g from Oc5 bj)];exact h.cells
 have br:∀ k,k≠g->k≠d->((w.setCell ⟨g,i,none⟩ (.pointer (some ⟨b,0,none⟩))).setCell ⟨d,3,none⟩ (.int .i64 ((Js D.pages+1:Nat):Int))).heap[k]?=w.heap[k]?:=fun k bA bB=>by
  rw[Oa4 _ _ _ _ bB,Oa4 _ _ _ _ bA]
 refine⟨?_,?_,h.ownF,h.dF,by simp[h.len],?_,?_,?_,by simpa using h.low,?_,by simpa using h.small⟩
 ·have:=Jk bC 3 (.int .i64 ((Js D.pages+1:Nat):Int));rw[Jl5 _ _ _ hi];simpa using this
 ·rw[Op0];refine Yd (Kka h.own I i (by simpa using K) _) fun bD bi=>?_;rw[I]at bi;cases bi
  exact Oa4 _ _ _ _ bj
 ·intro j c y;by_cases H:j=i
  ·subst H;rw[Oh0 K]at y;simp at y;subst y;exact⟨hF,bf,by rw[I];intro e;cases e;exact bh rfl,p,by simp[U],hp.of_block (br b bh bf)⟩
  rw[Od1 (Oc5 H)]at y;obtain⟨f,bx,bz,Z,Y,hq⟩:=h.page j c y;refine⟨f,bx,bz,Z,by rw[Od1 (Oc5 H)];exact Y,hq.of_block (br c (fun e=>bz (by rw[I,e])) bx)⟩
 ·intro j y;by_cases H:j=i
  ·subst H;rw[Oh0 K]at y;simp at y
  rw[Od1 (Oc5 H)]at y |-;exact h.vacant j y
 ·intro j k c y hk;by_cases H:j=i
  ·subst H;rw[Oh0 K]at y;simp at y;subst y;by_cases M:k=j
   ·exact M.symm
   rw[Od1 (Oc5 M)]at hk;exact absurd hk (bk k)
  rw[Od1 (Oc5 H)]at y;by_cases M:k=i
  ·subst M;rw[Oh0 K]at hk;simp at hk;subst hk;exact absurd y (bk j)
  rw[Od1 (Oc5 M)]at hk;exact h.inj j k c y hk
 intro j y;by_cases H:j=i
 ·subst H;exact⟨p,by simp[U]⟩
 obtain⟨Z,Y⟩:=h.full j y;exact⟨Z,by rw[Od1 (Oc5 H)];exact Y⟩
def Zn (D:DS)(y:List UInt8):DS:=⟨D.quota,D.fail,wrap64 (D.writes+1),Kb D.pages,(if Kb D.pages<D.pages.length then D.pages else D.pages++[none]).set (Kb D.pages) (some (Jdm y))⟩
theorem Jsk l:(if Kb l<l.length then l else l++[none])[Kb l]?=some none:=by
 by_cases h:Kb l<l.length
 ·rw[if_pos h];exact Jc3 l h
 rw[if_neg h];have:=Jeu l;have:Kb l=l.length:=zo;rw[this];simp
theorem Kjt d I(ca:I.length<=56)w F D(h:Zb w F d D)(cc:D.pages.length<960000)(cB:¬ D.quota<=((Js D.pages:Nat):Int))(bG:¬ wrap64 (D.writes+1)=D.fail):
  Calls prog 95 #[.pointer (some ⟨d,0,none⟩),.string (Qw I)] w fun e w'=>Ju F w w'/\Zb w' (up F w) d (Zn D I)/\e=.returned (.tuple #[.int .i64 ((Kb D.pages:Nat):Int),.nilIface]):=by
 obtain⟨sv,ps,h⟩:=h;obtain⟨c0,c1,c2,c3,_,_⟩:=h.field;have bQ:=h.thaw 2;have bf:=zh h;have bz:=zh bG;clear bG h;go_enter func95,ntmps95
 go_wp2_with fail
 go_quiet (fail)
 go_upto_region 4 with fail
 have bj:=(bf.out.drewN nq).setWrites (wrap64 (D.writes+1));have cz:(wrap64 (D.writes+1)==D.fail)=false:=by rw[beq_eq_false_iff_ne];exact bz.out
 have br:Hid (Zn D I=⟨D.quota,D.fail,wrap64 (D.writes+1),Kb D.pages,(if Kb D.pages<D.pages.length then D.pages else D.pages++[none]).set (Kb D.pages) (some (Jdm I))⟩):=rfl;have hk:Ju (up F w) w ((w.drewN nq).setCell ⟨d,2,none⟩ (.int .i64 (wrap64 (D.writes+1)))):=((Ju.refl _ w).drewN nq).set (.inl bf.out.dF) 2 _;have ci:((w.drewN nq).setCell ⟨d,2,none⟩ (.int .i64 (wrap64 (D.writes+1)))).heap.size=w.heap.size:=by simp[World.setCell]
 clear bz c0 c1 c2 c3 bQ bf;generalize wrap64 (D.writes+1)=cn at *;obtain⟨_,c1,c2,_,_,_⟩:=bj.field;generalize (w.drewN nq).setCell ⟨d,2,none⟩ (.int .i64 cn)=W at *;simp only at c1 c2;have cj:=bj.mono (G:=up F w) (fun k _ hf=>.inl hf);clear bj;go_quiet (fail)
 go_wp2_with fail
 refine(Kkj d (W.drewN nq) (up F w) _ ⟨_,_,cj.drewN nq⟩ (fun k hk=>.inr (by simpa [ci] using hk)) cc).mono ?_;rintro e K ⟨rfl,⟨cD,U,H⟩,bJ⟩;have bI:=hk.trans (Ju.trans ((Ju.refl _ W).drewN nq) bJ);have M:=Jsk D.pages;have Z:Hid (Kb D.pages<(if Kb D.pages<D.pages.length then D.pages else D.pages++[none]).length):=by
  rcases Oc1 (Kb D.pages) (if Kb D.pages<D.pages.length then D.pages else D.pages++[none]).length with bh|bh
  ·exact bh
  rw[Ob4 bh]at M;simp at M
 simp only[Ki1]at H;generalize (if Kb D.pages<D.pages.length then D.pages else D.pages++[none])=pgs at *;obtain⟨y,bx⟩:∃ y,Hid (Kb D.pages=y):=⟨_,rfl⟩;rw[bx.out]at H br M Z |-;obtain⟨_,_,_,c3,_,c5⟩:=H.field;obtain⟨a1,cx,rfl,bE⟩:=H.list;have hlen:=H.len;simp only at hlen c3;have bH:y<U.length:=by rw[hlen];exact Z.out
 obtain⟨g,rfl,bU,bW,cg,bS⟩:=bE y bH;have bL:U[y]=none:=by
  cases hq:U[y]with
  |none=>rfl
  |some b=>
   obtain⟨_,_,_,p,hp,_⟩:=H.page y b (by rw[<-hq];simp[bH]);rw[M]at hp;simp at hp
 rw[bL]at cg;simp only[Kew]at cg;have cu:=zh hlen;have cA:(y:Int)<(U.length:Int):=zo;have bR:=H.thaw 3;have bV:=bI.size;have bi:=Jm cg;have O:=Jm c5;simp only at bi O;have cC:=Kad pgs;have cf:=H.small;simp only at cf;clear bE hlen bL Z bJ;go_wp2_with fail
 have bM:=Kkp I ca K.drew;go_region_with (first|(go_at_call 128;refine bM.mono ?_;rintro e Y ⟨rfl,bZ,bC⟩;obtain⟨kk,bk⟩:=Kx bC;have bO:=(kk d 5 O).trans c5;have bP:=(kk g y bi).trans cg;have bT:=(bk g y bi).trans bS;have bA:=(kk d 3 O).trans c3;have bB:=(bk d 3 O).trans bR))
 all_goals
  have bD:=Jw bC;have bN:=H.below bD;have cb:=bN.put (g:=g) rfl y M K.heap.size (Jdm I) bZ (.inr bV) zo zo (fun j bX=>by obtain⟨_,_,_,p,_,hq⟩:=H.page j _ bX;exact absurd hq.2.lt (Oe3 _));have bK:Ju (up F w) w (Y.setCell ⟨g,y,none⟩ (.pointer (some ⟨K.heap.size,0,none⟩))):=(bI.trans (.of_below bD)).set bU y _;have bY:=bK.set (H.dF) 3 (.int .i64 ((Js pgs+1:Nat):Int));have cv:(Y.setCell ⟨g,y,none⟩ (.pointer (some ⟨K.heap.size,0,none⟩))).cell? ⟨d,3,none⟩=some (.int .i64 ((Js pgs:Nat):Int)):=by rw[Ob5 _ _ _ _ (by first|(simp;done)|(simp;intro e;exact absurd e.symm bW))];exact bA
  have cy:(Y.setCell ⟨g,y,none⟩ (.pointer (some ⟨K.heap.size,0,none⟩))).frozen? ⟨d,3,none⟩=false:=by rw[On9];exact bB
  clear bA bB bP bT bO kk bk bM bN bK;generalize Y.setCell ⟨g,y,none⟩ (.pointer (some ⟨K.heap.size,0,none⟩))=cE at *;go_wp2;go_ret2
  refine⟨Ju.down (by simpa using bY),?_,by rw[bx.out];rfl⟩;rw[br.out];exact⟨_,_,by simpa using cb⟩
def nv (n:Nat):Value:=.int .i64 (n:Int)
theorem Ki8 l i p(h:l[i]?=some (some p)):((Js l:Nat):Int)-1=((Js (l.set i none):Nat):Int):=by
 have:=Jii l i p h;omega
theorem Jf1.drop {w F d D sv ps}(h:Jf1 w F d D sv ps){g}(I:sv.ownBlock=some g)i p(hi:D.pages[i]?=some (some p)):
  Jf1 (((w.setCell ⟨g,i,none⟩ (.pointer none)).setCell ⟨d,3,none⟩ (.int .i64 ((Js (D.pages.set i none):Nat):Int))).setCell ⟨d,4,none⟩ (.int .i64 ((min D.lowest i:Nat):Int))) F d ⟨D.quota,D.fail,D.writes,min D.lowest i,D.pages.set i none⟩ sv (ps.set i none):=by
 have bh:i<D.pages.length:=by
  rcases Oc1 i D.pages.length with K|K
  ·exact K
  rw[Ob4 K]at hi;simp at hi
 have O:i<ps.length:=by rw[h.len];exact bh
 have M:=(h.ownF g I).2;have br:(w.setCell ⟨g,i,none⟩ (.pointer none)).heap[d]?=some (.cells #[.int .i64 D.quota,.int .i64 D.fail,.int .i64 D.writes,.int .i64 ((Js D.pages:Nat):Int),.int .i64 ((D.lowest:Nat):Int),sv] 90 (0,0)):=by
  rw[Oa4 _ _ _ _ (show d≠g from Oc5 M)];exact h.cells
 have bx:∀ k,k≠g->k≠d->(((w.setCell ⟨g,i,none⟩ (.pointer none)).setCell ⟨d,3,none⟩ (.int .i64 ((Js (D.pages.set i none):Nat):Int))).setCell ⟨d,4,none⟩ (.int .i64 ((min D.lowest i:Nat):Int))).heap[k]?=w.heap[k]?:=fun k bk Z=>by
  rw[Oa4 _ _ _ _ Z,Oa4 _ _ _ _ Z,Oa4 _ _ _ _ bk]
 refine⟨?_,?_,h.ownF,h.dF,by simp[h.len],?_,?_,?_,?_,?_,by simpa using h.small⟩
 ·have:=Jk (Jk br 3 (.int .i64 ((Js (D.pages.set i none):Nat):Int))) 4 (.int .i64 ((min D.lowest i:Nat):Int));simpa using this
 ·rw[Op0];refine Yd (Kka h.own I i (by simpa using O) _) fun bz bf=>?_;rw[I]at bf;cases bf
  rw[Oa4 _ _ _ _ M,Oa4 _ _ _ _ M];rfl
 ·intro j c y;by_cases H:j=i
  ·subst H;rw[Oh0 O]at y;simp at y
  rw[Od1 (Oc5 H)]at y;obtain⟨f,bi,bj,Y,U,hq⟩:=h.page j c y;refine⟨f,bi,bj,Y,by rw[Od1 (Oc5 H)];exact U,hq.of_block (bx c (fun e=>bj (by rw[I,e])) bi)⟩
 ·intro j y;by_cases H:j=i
  ·subst H;simp[bh]
  rw[Od1 (Oc5 H)]at y |-;exact h.vacant j y
 ·intro j k c y hk;have key:∀ j:Nat,(ps.set i none)[j]?=some (some c)->ps[j]?=some (some c):=by
   intro j y;by_cases H:j=i
   ·subst H;rw[Oh0 O]at y;simp at y
   rwa [Od1 (Oc5 H)]at y
  exact h.inj j k c (key j y) (key k hk)
 ·have:=h.low;simp;omega
 intro j y;simp only at y;obtain⟨Y,U⟩:=h.full j zo;refine⟨Y,?_⟩;rw[Od1 zo];exact U
def Jae (D:DS)(i:Nat):DS:=if Jai D.pages (i:Int)=true then ⟨D.quota,D.fail,D.writes,min D.lowest i,D.pages.set i none⟩else D
def Jf4 (D:DS)(l:List Nat):DS:=l.foldl Jae D
theorem Kkf D l i:Jf4 D (l++[i])=Jae (Jf4 D l) i:=by simp[Jf4]
theorem Jf3 {l}{i:Nat}(h:Jai l (i:Int)=true):∃ p,l[i]?=some (some p):=by
 unfold Jai at h;rw[Og5,decide_eq_true_eq,Oa0,show (Int.toNat (i:Int))=i from rfl]at h;cases hq:l[i]? with
 |none=>rw[hq]at h;simp at h
 |some x=>
  rw[hq]at h;cases x with
  |none=>simp at h
  |some p=>exact⟨p,rfl⟩
theorem Ki0 d a cap l w F D(h:Zb w F d D)(hl:Uh w a (l.map nv))(bA:∀ b o,a=some ⟨b,o,none⟩->¬ F b)(bM:l.length<=1000000):
  Calls prog 96 #[.pointer (some ⟨d,0,none⟩),.slice a l.length cap] w fun e w'=>e=.returned (.tuple #[])/\Zb w' F d (Jf4 D l)/\Ju F w w':=by
 go_enter func96,ntmps96
 go_wp2;go_loopw [8] (fun i wr=>∃ k:Nat,k<=l.length/\i=.int .i64 k/\Zb wr F d (Jf4 D (l.take k))/\Ju F w wr) (fun i _=>l.length-(intOf i).toNat)
 case atStart=>exact⟨0,Ob7 _,rfl,by simpa [Jf4] using h,Ju.refl _ _⟩
 case round=>
  rename_i i
  obtain⟨k,hk,rfl,I,M⟩:=hrel;by_cases Y:k<l.length
  ·have Z:Hid (Jf4 D (l.take (k+1))=Jae (Jf4 D (l.take k)) l[k]):=by
    show Jf4 D (l.take (k+1))=_;rw[Oc4 Y,Kkf]
   rcases hl with hl|⟨b,o,rfl,hb,hl⟩
   ·simp at hl;subst hl;simp at Y
   have br:wr.cell? ⟨b,o+k,none⟩=some (.int .i64 ((l[k]:Nat):Int)):=M.cell (hl k _ (by simp[Y];rfl)) (bA b o rfl);generalize l[k]=pg at *;generalize Jf4 D (l.take k)=E at *;have K:=Jwv d (pg:Int) wr F E I;obtain⟨sv,ps,y⟩:=I;by_cases H:Jai E.pages (pg:Int)=true
   ·have O:Hid (Jae E pg=⟨E.quota,E.fail,E.writes,min E.lowest pg,E.pages.set pg none⟩):=by show Jae E pg=_;rw[Jae,if_pos H]
    obtain⟨p,hp⟩:=Jf3 H;rw[H]at K;obtain⟨_,_,_,c3,c4,c5⟩:=y.field;have bf:=y.thaw 3;have bh:=y.thaw 4;obtain⟨a1,bG,rfl,bi⟩:=y.list;have bC:pg<ps.length:=by
     rw[y.len];rcases Oc1 pg E.pages.length with U|U
     ·exact U
     rw[Ob4 U]at hp;simp at hp
    obtain⟨g,rfl,bz,bj,cg,bx⟩:=bi pg bC;have bD:=y.drop (g:=g) rfl pg p hp;have bP:=Ki8 E.pages pg p hp;have bN:=Kad E.pages;have bL:=y.small;have bK:(pg:Int)<(ps.length:Int):=zo;have bB:Ju F w (((wr.setCell ⟨g,pg,none⟩ (.pointer none)).setCell ⟨d,3,none⟩ (.int .i64 ((Js (E.pages.set pg none):Nat):Int))).setCell ⟨d,4,none⟩ (.int .i64 ((min E.lowest pg:Nat):Int))):=((M.set bz pg _).set y.dF 3 _).set y.dF 4 _;have bQ:(wr.setCell ⟨g,pg,none⟩ (.pointer none)).cell? ⟨d,3,none⟩=some (.int .i64 ((Js E.pages:Nat):Int)):=by rw[Ob5 _ _ _ _ (by first|(simp;done)|(simp;intro e;exact absurd e.symm bj))];exact c3
    have bR:(wr.setCell ⟨g,pg,none⟩ (.pointer none)).cell? ⟨d,4,none⟩=some (.int .i64 ((E.lowest:Nat):Int)):=by rw[Ob5 _ _ _ _ (by first|(simp;done)|(simp;intro e;exact absurd e.symm bj))];exact c4
    have bH:(wr.setCell ⟨g,pg,none⟩ (.pointer none)).frozen? ⟨d,3,none⟩=false:=by rw[On9];exact bf
    have bI:(wr.setCell ⟨g,pg,none⟩ (.pointer none)).frozen? ⟨d,4,none⟩=false:=by rw[On9];exact bh
    have bJ:=y.low;have bO:(1:Int)<=((Js E.pages:Nat):Int):=zo;clear bi y c3 c4 bf bh hp H;go_upto_region 5 with(go_at_call 129;refine K.mono ?_;rintro e w' ⟨rfl,bE⟩;subst w')
    clear cg bx br c5;generalize wr.setCell ⟨g,pg,none⟩ (.pointer none)=w1 at *;go_wp2;go_roundw
    case rel=>
     have bk:(if pg<E.lowest then ((pg:Nat):Int)else ((E.lowest:Nat):Int))=((min E.lowest pg:Nat):Int):=by split<;>omega
     exact⟨k+1,zo,zn,by rw[Z.out,O.out,bk];exact⟨_,_,bD⟩,by rw[bk];exact bB⟩
    case measure=>simp[intOf];omega
   have O:Hid (Jae E pg=E):=by show Jae E pg=_;rw[Jae,if_neg H]
   rw[Oo1]at H;rw[H]at K;go_wp2_with (go_at_call 129;refine K.mono ?_;rintro e w' ⟨rfl,bE⟩;subst w')
   go_roundw
   case rel=>exact⟨k+1,zo,zn,by rw[Z.out,O.out];exact⟨_,_,y⟩,M⟩
   case measure=>simp[intOf];omega
  obtain rfl:k=l.length:=zo;rw[Of2]at I;go_wp2;go_end0
  exact⟨rfl,I,M⟩
def Jb5:Nat->List UInt8->List (List UInt8)
 |0,_=>[]
 |_+1,[]=>[]
 |n+1,b::t=>(b::t).take 56::Jb5 n ((b::t).drop 56)
def Qu (t:List UInt8):List (List UInt8):=Jb5 t.length t
theorem Jl2:∀ (n m:Nat)(t:List UInt8),t.length<=n->t.length<=m->Jb5 n t=Jb5 m t
 |0,m,[],_,_=>by cases m<;>rfl
 |0,m,b::t,h,_=>by simp at h
 |n+1,0,[],_,_=>rfl
 |n+1,0,b::t,_,h=>by simp at h
 |n+1,m+1,[],_,_=>rfl
 |n+1,m+1,b::t,h,k=>by
  simp only[Jb5];rw[Jl2 n m ((b::t).drop 56) (by simp at h |-;omega) (by simp at k |-;omega)]
theorem Kj2:Qu []=[]:=rfl
theorem Jr2 t(h:t≠[]):Qu t=t.take 56::Qu (t.drop 56):=by
 cases t with
 |nil=>exact absurd rfl h
 |cons b t=>
  unfold Qu;simp only[List.length_cons,Jb5];rw[Jl2 _ ((b::t).drop 56).length _ zS (Oa2 _)]
def Uy (D:DS):List (List UInt8)->DS×List Nat×Option Bool
 |[]=>(D,[],none)
 |p::ps=>if D.quota<=((Js D.pages:Nat):Int)then (D,[],some true)else if wrap64 (D.writes+1)=D.fail then (Jvn D,[],some false)else
   ((Uy (Zn D p) ps).1,Kb D.pages::(Uy (Zn D p) ps).2.1,(Uy (Zn D p) ps).2.2)
def Kiw (l:List Nat)(r:DS×List Nat×Option Bool):DS×List Nat×Option Bool:=(r.1,l++r.2.1,r.2.2)
theorem Kjp l D p ps(y:¬ D.quota<=((Js D.pages:Nat):Int))(H:¬ wrap64 (D.writes+1)=D.fail):
  Kiw l (Uy D (p::ps))=Kiw (l++[Kb D.pages]) (Uy (Zn D p) ps):=by
 simp[Kiw,Uy,y,H]
theorem Zw:(prog.info? 3).map (fun i=>(i.zero,i.size,i.bytes))=some (some (.int .i64 0),1,8):=zK
theorem Jxm D p:(Zn D p).pages.length<=D.pages.length+1:=by
 simp only[Zn];split<;>simp
def Kky:Value->Nat
 |.string s=>s.size
 |_=>0
theorem Kkb bs i j:(Qw bs).extract i j=Qw ((bs.take j).drop i):=by
 unfold Qw;rw[Om5];simp[List.extract_eq_take_drop,List.drop_take]
def cap (F:Nat->Prop)(w:World):Nat->Prop:=fun k=>F k/\k<w.heap.size
theorem Zb.cap {w F d D}(h:Zb w F d D):Zb w (cap F w) d D:=h.mono fun _ hk hf=>⟨hf,hk⟩
structure Kiy (w0:World) (F0:Nat->Prop) (w:World) (d:Nat) (E:DS) (sv:Value) (l:List Nat) (FD:Nat->Prop):Prop where
 disk:Zb w FD d E
 from_:∀ k,FD k->F0 k\/w0.heap.size<=k
 lt:∀ k,FD k->k<w.heap.size
 own:Jo w w0.heap.size 3 sv (l.map nv)
 apart:∀ g,sv.ownBlock=some g->¬ FD g
 keep:Ju F0 w0 w
def Kjn (D:DS):DS×Bool:=if D.quota<=((Js D.pages:Nat):Int)then (D,true)else (Jvn D,false)
theorem Kko D p ps(h:D.quota<=((Js D.pages:Nat):Int)\/wrap64 (D.writes+1)=D.fail):Uy D (p::ps)=((Kjn D).1,[],some (Kjn D).2):=by
 unfold Kjn;by_cases y:D.quota<=((Js D.pages:Nat):Int)
 ·simp[Uy,y]
 have H:=h.resolve_left y;simp[Uy,y,H]
theorem Ki6 {F w w' b a p}(h:Yu w (.iface 156 (.pointer (some ⟨b,0,none⟩))) a none (some p))(hk:Ju F w w')(hb:¬ F b):Yu w' (.iface 156 (.pointer (some ⟨b,0,none⟩))) a none (some p):=by
 obtain⟨h0,y⟩:=h.disk_at;exact .disk b a p (hk.cell h0 hb) (hk.cell y hb)
theorem Kj7 d s w F D(h:Zb w F d D)q wr(hq:w.cell? ⟨6,0,none⟩=some (.iface 432 (.pointer (some q))))(hw:w.cell? ⟨7,0,none⟩=some (.iface 432 (.pointer (some wr))))(K:D.quota<=((Js D.pages:Nat):Int)\/wrap64 (D.writes+1)=D.fail):
  Calls prog 95 #[.pointer (some ⟨d,0,none⟩),.string s] w fun e w'=>Ju F w w'/\Zb w' F d (Kjn D).1/\∃ b,e=.returned (.tuple #[.int .i64 0,.iface 156 (.pointer (some ⟨b,0,none⟩))])/\w.heap.size<=b/\Yu w' (.iface 156 (.pointer (some ⟨b,0,none⟩))) (if (Kjn D).2 then q else wr) none (some (-1)):=by
 unfold Kjn;by_cases y:D.quota<=((Js D.pages:Nat):Int)
 ·rw[if_pos y];refine(Kjc d s w F D h q hq y).mono ?_;rintro e w' ⟨hb,b,rfl,H,I⟩;exact⟨.of_below hb,h.below hb,b,rfl,H,I⟩
 rw[if_neg y];exact Kj0 d s w F D h wr hw y (K.resolve_left y)
def Kkw (w:World)(F:Nat->Prop)(d:Nat)(q wr:Addr)(r:DS×List Nat×Option Bool)(e:Ending)(w':World):Prop:=
 Ju F w w'/\∃ FD:Nat->Prop,Zb w' FD d (match r.2.2 with|none=>r.1|some _=>Jf4 r.1 r.2.1)/\(∀ k,FD k->F k\/w.heap.size<=k)/\(∀ k,FD k->k<w'.heap.size) /\
  match r.2.2 with
  |none=>∃ sv,e=.returned (.tuple #[sv,.nilIface])/\Jo w' w.heap.size 3 sv (r.2.1.map nv)/\∀ g,sv.ownBlock=some g->¬ FD g
  |some x=>∃ b,e=.returned (.tuple #[.slice none 0 0,.iface 156 (.pointer (some ⟨b,0,none⟩))])/\w.heap.size<=b/\Yu w' (.iface 156 (.pointer (some ⟨b,0,none⟩))) (if x then q else wr) none (some (-1))/\¬ FD b
theorem Kiy.stand {w0 w w' F0 FD d E sv l}(h:Kiy w0 F0 w d E sv l FD)(hk:Ju FD w w'):Jo w' w0.heap.size 3 sv (l.map nv)/\Ju F0 w0 w':=
 ⟨Yd h.own fun g y=>hk.block g (Qk h.own y) (h.apart g y),h.keep.trans' hk fun k H hf=>(h.from_ k hf).resolve_right zo⟩
theorem Jji {w B e a n c xs}(h:Jo w B e (.slice a n c) xs):Uh w a xs/\∀ b o,a=some ⟨b,o,none⟩->(Value.slice a n c).ownBlock=some b:=by
 obtain⟨I,K,y,H⟩:=h.cells;simp at y;obtain⟨rfl,_,_⟩:=y;exact⟨H,fun b o hb=>by subst hb;rfl⟩
theorem Kiy.more {w0 wr y K F0 FD d E sv sv' l}(h:Kiy w0 F0 wr d E sv l FD)(Z:Ju FD wr y)pc(Y:Zb y (up FD wr) d (Zn E pc))o(bh:Jo K w0.heap.size 3 sv' (l.map nv++[nv (Kb E.pages)]))(H:(y.alloc o).grownBy K sv.ownBlock)(hb:sv'.ownBlock=sv.ownBlock\/sv'.ownBlock=some (y.alloc o).heap.size):
  Kiy w0 F0 K d (Zn E pc) sv' (l++[Kb E.pages]) (cap (up FD wr) y):=by
 have bi:=H.size;rw[Oa7]at bi;have O:∀ g,sv.ownBlock=some g->g<wr.heap.size:=fun g H=>Qk h.own H;have U:∀ k,k<y.heap.size->sv.ownBlock≠some k->K.heap[k]?=y.heap[k]?:=fun k hk bf=>(H.block k zt (Oc5 bf)).trans (Oa9 y o k hk);refine⟨Y.cap.stands fun k hk hl=>U k hl fun e=>?_,fun k hk=>?_,fun k hk=>Oc2 hk.2 zo,?_,fun g I=>?_,?_⟩
 ·rcases hk.1 with hf|hf
  ·exact h.apart k e hf
  have:=O k e;omega
 ·rcases hk.1 with hf|hf
  ·exact h.from_ k hf
  exact .inr (Ob2 h.keep.size hf)
 ·rw[Ob8];exact bh
 ·rintro⟨bj,hl⟩;rcases hb with e|e
  ·rw[e]at I;rcases bj with hf|hf
   ·exact h.apart g I hf
   have:=O g I;omega
  rw[e]at I;simp at I;omega
 have hk:=(h.stand Z).2;refine⟨H.os.trans hk.os,H.tape.trans hk.tape,H.output.trans hk.output,Ob2 hk.size zo,fun k M hn=>?_⟩;refine(U k (Oc2 M hk.size) fun e=>?_).trans (hk.block k M hn);have:=(Je h.own e).1;omega
theorem Kkq d text w F D(h:Zb w F d D)(hF:∀ k,F k->k<w.heap.size)q qw(hq:w.cell? ⟨6,0,none⟩=some (.iface 432 (.pointer (some q))))(hw:w.cell? ⟨7,0,none⟩=some (.iface 432 (.pointer (some qw))))(bI:¬ F 6)(bJ:¬ F 7)(bO:D.pages.length+(Qu text).length<=950000)(ci:text.length<=1000000):
  Calls prog 67 #[.pointer (some ⟨d,0,none⟩),.string (Qw text)] w fun e w'=>Kkw w F d q qw (Uy D (Qu text)) e w':=by
 go_enter func67,ntmps67
 go_wp2;go_loopw [1,6] (fun bi sv bS=>∃ (rest:List UInt8) (E:DS) (l:List Nat) (FD:Nat->Prop),bi=.string (Qw rest)/\rest.length<=text.length/\l.length+(Qu rest).length<=950000/\E.pages.length+(Qu rest).length<=950000/\Kiy w F bS d E sv l FD/\Hid (Uy D (Qu text)=Kiw l (Uy E (Qu rest)))) (fun bi _ _=>Kky bi)
 case atStart=>exact⟨text,D,[],F,rfl,Oa2 _,by simp;omega,bO,⟨h,fun k hk=>.inl hk,hF,Jo.nil _ _ _,fun g bN=>by simp[Value.ownBlock]at bN,Ju.refl _ _⟩,rfl⟩
 case round=>
  rename_i bi sv
  obtain⟨rest,E,l,FD,rfl,cc,bX,bW,y,K⟩:=hrel;have bP:=Jb2 rest;by_cases hr:rest=[]
  ·subst hr;rw[Kj2]at K;have bj:Hid (Uy D (Qu text)=(E,l,none)):=by show _=_;rw[K.out];simp[Kiw,Uy]
   obtain⟨a,cap,M,_⟩:=y.own.cells;subst M;simp at bP;go_wp2;go_ret2
   rw[bj.out];exact⟨y.keep,FD,y.disk,y.from_,y.lt,_,rfl,y.own,y.apart⟩
  have cb:0<rest.length:=Oi9.2 hr;have bk:Hid (Qu rest=rest.take 56::Qu (rest.drop 56)):=Jr2 rest hr;have ca:(Qu rest).length=(Qu (rest.drop 56)).length+1:=by rw[bk.out];rfl
  obtain⟨n,hn,bf⟩:∃ n:Nat,(n<=rest.length/\n<=56)/\Hid (n=min rest.length 56):=⟨min rest.length 56,zo,rfl⟩;have bB:Hid (rest.take n=rest.take 56):=by
   show _=_;rw[bf.out];rcases Oc1 rest.length 56 with Y|Y
   ·rw[Oj1 zo,Oc8 (Oa2 _),Oc8 zo]
   rw[Ol4 Y]
  have bA:Hid (rest.drop n=rest.drop 56):=by
   show _=_;rw[bf.out];rcases Oc1 rest.length 56 with Y|Y
   ·rw[Oj1 zo,Ol8 (Oa2 _),Ol8 zo]
   rw[Ol4 Y]
  have bE:=Kkb rest 0 n;have bG:=Kkb rest n rest.length;rw[List.drop_zero,bB.out]at bE;rw[Of2,bA.out]at bG;have bV:(rest.drop 56).length<rest.length:=by rw[Of7];omega
  have bQ:(rest.take 56).length<=56:=by rw[Oc7];omega
  have bZ:(if 56<(rest.length:Int)then (56:Int)else (rest.length:Int))=(n:Int):=by have:=bf.out;split<;>omega
  rw[bk.out]at K;clear bk bB bA bf;generalize rest.take 56=pc at *;generalize rest.drop 56=bR at *;by_cases U:E.quota<=((Js E.pages:Nat):Int)\/wrap64 (E.writes+1)=E.fail
  ·have bj:Hid (Uy D (Qu text)=((Kjn E).1,l,some (Kjn E).2)):=by show _=_;rw[K.out,Kko E _ _ U];simp[Kiw]
   have bz:=Kj7 d (Qw pc) wr FD E y.disk q qw (y.keep.cell hq bI) (y.keep.cell hw bJ) U;have H:=zh y;obtain⟨a,cap,M,_⟩:=y.own.cells;rw[Oa6]at M;clear y U K;subst M;go_wp2_with (first|(go_at_call 95;refine bz.mono ?_;rintro e bh ⟨I,br,b,rfl,bK,bL⟩)|(go_at_call 96;refine(Ki0 d a cap l bh FD _ br (Jji (H.out.stand I).1).1 (fun b o hb=>H.out.apart b ((Jji (H.out.stand I).1).2 b o hb)) zo).mono ?_;rintro e bT ⟨rfl,bM,bx⟩))
   go_ret2
   rw[bj.out];have bC:¬ FD b:=fun hf=>by have:=H.out.lt b hf;omega
   exact⟨(H.out.stand (I.trans bx)).2,FD,bM,H.out.from_,fun k hk=>Oc2 (H.out.lt k hk) (Ob2 I.size bx.size),b,rfl,Ob2 H.out.keep.size bK,Ki6 bL bx bC,bC⟩
  have O:¬ E.quota<=((Js E.pages:Nat):Int):=fun h=>U (.inl h);have Z:¬ wrap64 (E.writes+1)=E.fail:=fun h=>U (.inr h);rw[Kjp l E pc _ O Z]at K;have bz:=Kjt d pc bQ wr FD E y.disk zo O Z;have cj:=Jxm E pc;have H:=zh y;obtain⟨a,cap,M,_⟩:=y.own.cells;rw[Oa6]at M;clear y U O Z;subst M;have bY:=H.out.keep.size;go_wp2_with (first|(go_at_call 95;refine bz.mono ?_;rintro e bh ⟨I,br,rfl⟩;have cf:=I.size)|(at_builtin;go_must (refine Ks zR _ _ 22 3 _ 8 Zw zR zd zK zR w.heap.size _ _ zR (Jo.alloc (H.out.stand I).1 _) ⟨bh.heap.size,0,none⟩ 1 [nv (Kb E.pages)] zR (by exact Ua bh _ _) (by intro u bD;simp at bD;subst bD;rfl) (by simp only[List.length_cons,List.length_nil,Oa6];omega) zt ?_);intro sv' cn O Z bH;obtain⟨a2,bU,rfl,_⟩:=O.cells))
  go_roundw
  case rel=>
   have hq:=H.out.more I pc br _ O Z bH;rw[Oa8,Oa6]at hq;exact⟨bR,Zn E pc,l++[Kb E.pages],_,rfl,zo,by simp;omega,zo,hq,K.out⟩
  case measure=>simp only[Kky];simp[Jb2];omega
def Uf (D:DS):List Nat->List UInt8⊕Nat
 |[]=>.inl []
 |i::l=>match (D.pages.getD i none).bind Jd2 with
  |none=>.inr i
  |some t=>match Uf D l with
   |.inl u=>.inl (t++u)
   |.inr j=>.inr j
theorem Jrf {p t}(h:Jd2 p=some t):t.length<=56:=by
 unfold Jd2 at h;split at h
 ·simp at h
 simp at h;subst h;rename_i hh
 rw[Oa0]at hh;rw[Oc7];omega
theorem Jv5 {D l}k(hk:k<l.length)t u(y:(D.pages.getD l[k] none).bind Jd2=some u)(h:Uf D l=(match Uf D (l.drop k)with|.inl r=>.inl (t++r)|.inr j=>.inr j)):
  Uf D l=(match Uf D (l.drop (k+1))with|.inl r=>.inl ((t++u)++r)|.inr j=>.inr j):=by
 rw[h,Oi1 hk];simp only[Uf,y];cases Uf D (l.drop (k+1))<;>simp
theorem Jo9 {D l}k(hk:k<l.length)t(y:(D.pages.getD l[k] none).bind Jd2=none)(h:Uf D l=(match Uf D (l.drop k)with|.inl r=>.inl (t++r)|.inr j=>.inr j)):Uf D l=.inr l[k]:=by
 rw[h,Oi1 hk];simp only[Uf,y]
theorem Je0 {l}{i:Nat}(h:Jai l (i:Int)=false):l.getD i none=none:=by
 cases hq:l.getD i none with
 |none=>rfl
 |some p=>
  rw[Oa0]at hq;have:l[i]?=some (some p):=by
   cases hh:l[i]? with
   |none=>rw[hh]at hq;simp at hq
   |some x=>rw[hh]at hq;simp at hq;rw[hq]
  rw[Jtc this]at h;simp at h
theorem Jfv n w pg(y:w.cell? ⟨8,0,none⟩=some (.iface 432 (.pointer (some pg)))):
  Calls prog 116 #[.int .i64 n] w fun e w'=>Below w.heap.size w w'/\∃ b,e=.returned (.iface 156 (.pointer (some ⟨b,0,none⟩)))/\w.heap.size<=b/\Yu w' (.iface 156 (.pointer (some ⟨b,0,none⟩))) pg none (some n):=by
 go_enter func116,ntmps116
 go_wp2;go_ret
 exact⟨(Oa5 _ w).alloc (Oa2 _) _,_,rfl,Oa2 _,Jwl w pg n⟩
def Keo (w:World)(pg:Addr)(r:List UInt8⊕Nat)(e:Ending)(w':World):Prop:=
 Below w.heap.size w w'/\match r with
  |.inl t=>e=.returned (.tuple #[.string (Qw t),.nilIface])
  |.inr i=>∃ b,e=.returned (.tuple #[.string ⟨#[]⟩,.iface 156 (.pointer (some ⟨b,0,none⟩))])/\w.heap.size<=b/\Yu w' (.iface 156 (.pointer (some ⟨b,0,none⟩))) pg none (some (i:Int))
theorem Jzx {w F}{d:Nat}{D sv ps}(h:Jf1 w F d D sv ps)(i:Nat)(Y:Jai D.pages (i:Int)=true):
  ∃ g cap b p,sv=.slice (some ⟨g,0,none⟩) ps.length cap/\i<ps.length/\w.cell? ⟨g,i,none⟩=some (.pointer (some ⟨b,0,none⟩))/\D.pages.getD i none=some p/\Jdp w b p:=by
 obtain⟨p,hp⟩:=Jf3 Y;obtain⟨a,cap,M,K⟩:=h.list;have y:i<ps.length:=by
  rw[h.len];rcases Oc1 i D.pages.length with H|H
  ·exact H
  rw[Ob4 H]at hp;simp at hp
 obtain⟨g,rfl,_,_,cg,_⟩:=K i y;have I:=h.which i y;rw[Oa0,hp]at I;obtain⟨b,hb⟩:∃ b,ps[i]=some b:=by
  cases hq:ps[i]with
  |none=>rw[hq]at I;simp at I
  |some b=>exact⟨b,rfl⟩
 obtain⟨_,_,_,Z,O,U⟩:=h.page i b (by rw[<-hb];simp[y]);rw[hb]at cg;exact⟨g,cap,b,Z,M,y,cg,by rw[Oa0,O];rfl,U⟩
theorem Kag d a cap l w F D(h:Zb w F d D)(hl:Uh w a (l.map nv))(bP:l.length<=1000000)pg(bJ:w.cell? ⟨8,0,none⟩=some (.iface 432 (.pointer (some pg))))(Z:∀ t,Uf D l=.inl t->t≠[]):
  Calls prog 114 #[.pointer (some ⟨d,0,none⟩),.slice a l.length cap] w fun e w'=>Keo w pg (Uf D l) e w':=by
 go_enter func114,ntmps114
 go_wp2;go_loopw [13] (fun i wr=>∃ (k:Nat) (t:List UInt8),k<=l.length/\t.length<=56*k/\i=.int .i64 k/\Jkw wr w.heap.size w.heap.size t/\Below w.heap.size w wr/\Hid (Uf D l=(match Uf D (l.drop k)with|.inl r=>.inl (t++r)|.inr j=>.inr j))) (fun i _=>l.length-(intOf i).toNat)
 case atStart=>exact⟨0,[],Ob7 _,zS,rfl,Jkw.new w _ (Oa2 _),(Oa5 _ _).alloc (Oa2 _) _,by show _=_;rw[List.drop_zero];cases Uf D l<;>rfl⟩
 case round=>
  rename_i i
  obtain⟨k,t,hk,bQ,rfl,bA,y,I⟩:=hrel;by_cases Y:k<l.length
  ·rcases hl with hl|⟨b,o,rfl,hb,hl⟩
   ·simp at hl;subst hl;simp at Y
   have bM:wr.cell? ⟨b,o+k,none⟩=some (.int .i64 ((l[k]:Nat):Int)):=by rw[(Kx y).1 b (o+k) hb];exact hl k _ (by simp[Y];rfl)
   have bB:=Ja y bJ;have bz:=h.below y;have U:=Jwv d (l[k]:Int) wr F D bz;have bC:=Jfv (l[k]:Int) wr pg bB;by_cases K:Jai D.pages ((l[k]:Nat):Int)=true
   ·rw[K]at U;obtain⟨sv,ps,bj⟩:=bz;obtain⟨_,_,_,_,_,c5⟩:=bj.field;obtain⟨g,cp,bp,p,rfl,bN,cg,bh,bI⟩:=Jzx bj l[k] K;have bi:=Ke1 bp p wr bI;have bO:((l[k]:Nat):Int)<(ps.length:Int):=zo;cases ho:Jd2 p with
    |none=>
     have M:Hid (Uf D l=.inr l[k]):=Jo9 k Y t (by rw[bh];exact ho) I.out;rw[ho]at bi;clear I Z bh K bj ho;generalize l[k]=i at *;go_wp2_with (first|(go_at_call 129;refine U.mono ?_;rintro e w' ⟨rfl,bD⟩;subst w')|(go_at_call 159;refine bi.mono ?_;rintro e bf ⟨rfl,H⟩;have bK:=Jfv (i:Int) bf pg (Ja H bB))|(go_at_call 116;refine bK.mono ?_;rintro e bx ⟨O,b2,rfl,bk,br⟩))
     go_ret2
     rw[M.out];exact⟨Jb y (Jb H O),b2,rfl,Ob2 y.size (Ob2 H.size bk),br⟩
    |some u=>
     have bE:Hid (Uf D l=(match Uf D (l.drop (k+1))with|.inl r=>.inl ((t++u)++r)|.inr j=>.inr j)):=Jv5 k Y t u (by rw[bh];exact ho) I.out;have bR:=Jrf ho;rw[ho]at bi;clear I Z bh K bj ho bC;generalize l[k]=i at *;go_wp2_with (first|(go_at_call 129;refine U.mono ?_;rintro e w' ⟨rfl,bD⟩;subst w')|(go_at_call 159;refine bi.mono ?_;rintro e bf ⟨rfl,H⟩;have bG:=Jv2 w.heap.size w.heap.size t u bf (bA.below H) zo (Ob2 y.size H.size))|(go_at_call 160;refine bG.mono ?_;rintro e bx ⟨rfl,bH,O⟩))
     go_roundw
     case rel=>exact⟨k+1,t++u,zo,by simp;omega,zn,bH,(Jb y H).trans O,bE.out⟩
     case measure=>simp[intOf];omega
   rw[Oo1]at K;rw[K]at U;have M:Hid (Uf D l=.inr l[k]):=Jo9 k Y t (by rw[Je0 K];rfl) I.out;clear I Z;generalize l[k]=i at *;go_wp2_with (first|(go_at_call 129;refine U.mono ?_;rintro e w' ⟨rfl,bD⟩;subst w')|(go_at_call 116;refine bC.mono ?_;rintro e bx ⟨O,b2,rfl,bk,br⟩))
   go_ret2
   rw[M.out];exact⟨Jb y O,b2,rfl,Ob2 y.size bk,br⟩
  obtain rfl:k=l.length:=zo;have M:Hid (Uf D l=.inl t):=by show _=_;rw[I.out,List.drop_length];simp[Uf]
  have bL:=Jsp w.heap.size w.heap.size t wr bA (Z t M.out);clear I Z;go_wp2_with (go_at_call 161;refine bL.mono ?_;rintro e bf ⟨rfl,H⟩)
  go_ret2
  rw[M.out];exact⟨y.trans H,rfl⟩
structure TS where
 name:ByteArray
 types:List Int
 rows:Nat
 group:Nat
 segs:List (List Nat)
def Kh8 (h:Option Addr×Nat)(l:List Nat):Value:=.slice h.1 l.length h.2
structure Jaf (w:World) (F:Nat->Prop) (a:Option Addr) (hs:List (Option Addr×Nat)) (ls:List (List Nat)):Prop where
 len:hs.length=ls.length
 cells:Uh w a (List.zipWith Kh8 hs ls)
 segs:∀ (i:Nat) h l,hs[i]?=some h->ls[i]?=some l->Uh w h.1 (l.map nv)
 aF:∀ b o,a=some ⟨b,o,none⟩->F b
 hF:∀ (i:Nat) h,hs[i]?=some h->∀ b o,h.1=some ⟨b,o,none⟩->F b
theorem Jaf.stands {w w' F a hs I}(h:Jaf w F a hs I)(y:w.heap.size<=w'.heap.size)(hk:∀ k,F k->k<w.heap.size->w'.heap[k]?=w.heap[k]?):Jaf w' F a hs I:=
 ⟨h.len,h.cells.of_block y fun b o hb hl=>hk b (h.aF b o hb) hl,fun i x l H hl=>(h.segs i x l H hl).of_block y fun b o hb K=>hk b (h.hF i x H b o hb) K,h.aF,h.hF⟩
theorem Jaf.mono {w F G a hs H}(h:Jaf w F a hs H)(y:∀ k,F k->G k):Jaf w G a hs H:=
 ⟨h.len,h.cells,h.segs,fun b o hb=>y b (h.aF b o hb),fun i x I b o hb=>y b (h.hF i x I b o hb)⟩
theorem Jaf.at {w F a hs y}(h:Jaf w F a hs y){i}(hi:i<y.length):
  ∃ b o H rc,a=some ⟨b,o,none⟩/\F b/\b<w.heap.size/\w.cell? ⟨b,o+i,none⟩=some (.slice H y[i].length rc)/\Uh w H (y[i].map nv)/\∀ b o,H=some ⟨b,o,none⟩->F b:=by
 have K:i<hs.length:=by rw[h.len];exact hi
 obtain⟨b,o,I,hb,M⟩:=h.cells.at (i:=i) zt;exact⟨b,o,hs[i].1,hs[i].2,I,h.aF b o I,hb,by rw[M];simp[Kh8],h.segs i hs[i] y[i] (by simp[K]) (by simp[hi]),h.hF i hs[i] (by simp[K])⟩
structure Khb (w:World) (F:Nat->Prop) (tb:Nat) (T:TS) (ta:Option Addr) (tc:Nat) (sa:Option Addr) (sc:Nat) (hs:List (Option Addr×Nat)):Prop where
 cells:w.heap[tb]?=some (.cells #[.string T.name,.slice ta T.types.length tc,.int .i64 (T.rows:Int),.int .i64 (T.group:Int),.slice sa T.segs.length sc] 130 (0,0))
 types:Kc w ta T.types
 tF:∀ b o,ta=some ⟨b,o,none⟩->F b
 segs:Jaf w F sa hs T.segs
 cap:T.segs.length<=sc
 bF:F tb
def Jmg (w:World)(F:Nat->Prop)(tb:Nat)(T:TS):Prop:=∃ H tc y sc hs,Khb w F tb T H tc y sc hs
theorem Jmg.stands {w w' F tb T}(h:Jmg w F tb T)(y:w.heap.size<=w'.heap.size)(hk:∀ k,F k->k<w.heap.size->w'.heap[k]?=w.heap[k]?):Jmg w' F tb T:=by
 obtain⟨I,tc,H,sc,hs,h⟩:=h;exact⟨I,tc,H,sc,hs,by rw[hk tb h.bF (Jd h.cells)];exact h.cells,h.types.of_block y fun b o hb hl=>hk b (h.tF b o hb) hl,h.tF,h.segs.stands y hk,h.cap,h.bF⟩
theorem Jmg.mono {w F G tb T}(h:Jmg w F tb T)(y:∀ k,F k->G k):Jmg w G tb T:=by
 obtain⟨I,tc,H,sc,hs,h⟩:=h;exact⟨I,tc,H,sc,hs,h.cells,h.types,fun b o hb=>y b (h.tF b o hb),h.segs.mono y,h.cap,y tb h.bF⟩
theorem Khb.field {w F tb T H tc y sc hs}(h:Khb w F tb T H tc y sc hs):
  w.cell? ⟨tb,0,.none⟩=some (.string T.name)/\w.cell? ⟨tb,1,.none⟩=some (.slice H T.types.length tc)/\w.cell? ⟨tb,2,.none⟩=some (.int .i64 (T.rows:Int))/\w.cell? ⟨tb,3,.none⟩=some (.int .i64 (T.group:Int))/\w.cell? ⟨tb,4,.none⟩=some (.slice y T.segs.length sc):=by
 simp[World.cell?,h.cells]
def Jcp (b:Nat):Value:=.pointer (some ⟨b,0,none⟩)
structure Jfl (w:World) (F:Nat->Prop) (s d:Nat) (Ts:List TS) (sv:Value) (bs:List Nat):Prop where
 cells:w.heap[s]?=some (.cells #[.pointer (some ⟨d,0,none⟩),sv] 113 (0,0))
 own:Jo w 0 126 sv (bs.map Jcp)
 sF:¬ F s
 gF:∀ g,sv.ownBlock=some g->¬ F g/\g≠s
 len:bs.length=Ts.length
 tab:∀ (i:Nat) b T,bs[i]?=some b->Ts[i]?=some T->Jmg w F b T
 few:Ts.length<=6
def Jnr (s:Nat)(sv:Value):Nat->Prop:=fun k=>k=s\/sv.ownBlock=some k
theorem Jfl.stands {w w' F s d Ts sv bs}(h:Jfl w F s d Ts sv bs)(I:w.heap.size<=w'.heap.size)(hk:∀ k,F k\/Jnr s sv k->k<w.heap.size->w'.heap[k]?=w.heap[k]?):Jfl w' F s d Ts sv bs:=
 ⟨by rw[hk s (.inr (.inl rfl)) (Jd h.cells)];exact h.cells,Yd h.own fun g y=>hk g (.inr (.inr y)) (Qk h.own y),h.sF,h.gF,h.len,fun i b T hb H=>(h.tab i b T hb H).stands I fun k hf=>hk k (.inl hf),h.few⟩
theorem Jfl.below {w w' F s d Ts sv bs}(h:Jfl w F s d Ts sv bs)(hb:Below w.heap.size w w'):Jfl w' F s d Ts sv bs:=h.stands hb.size fun k _ hk=>hb.block k hk
theorem Jfl.field {w F s d Ts sv bs}(h:Jfl w F s d Ts sv bs):w.cell? ⟨s,0,none⟩=some (.pointer (some ⟨d,0,none⟩))/\w.cell? ⟨s,1,none⟩=some sv:=by
 simp[World.cell?,h.cells]
theorem Jfl.at {w F s d Ts sv bs}(h:Jfl w F s d Ts sv bs){i}(hi:i<Ts.length):
  ∃ b o,sv=.slice (some ⟨b,o,none⟩) Ts.length (match sv with|.slice _ _ c=>c|_=>0)/\w.cell? ⟨b,o+i,none⟩=some (.pointer (some ⟨bs[i]'(by rw[h.len];exact hi),0,none⟩))/\Jmg w F (bs[i]'(by rw[h.len];exact hi)) Ts[i]:=by
 have y:i<bs.length:=by rw[h.len];exact hi
 obtain⟨a,cap,M,I⟩:=h.own.cells;obtain⟨b,o,H,_,K⟩:=I.at (i:=i) (by simpa using y);subst M H;exact⟨b,o,by simp[h.len],by rw[K];simp[Jcp],h.tab i _ _ (by simp[y]) (by simp[hi])⟩
def Ub:List TS->ByteArray->Nat
 |[],_=>0
 |T::Ts,n=>if T.name=n then 0 else Ub Ts n+1
def Jhc (Ts:List TS)(n:ByteArray):Int:=if Ub Ts n<Ts.length then (Ub Ts n:Int)else -1
theorem Kdk Ts n:Ub Ts n<=Ts.length:=by
 induction Ts with
 |nil=>simp[Ub]
 |cons T Ts y=>simp only[Ub];split<;>simp<;>omega
theorem Kc4 Ts n:∀ (k:Nat) (hk:k<Ts.length),(∀ j (I:j<k),(Ts[j]' zo).name≠n)->Ts[k].name=n->Ub Ts n=k:=by
 induction Ts with
 |nil=>intro k hk;simp at hk
 |cons T Ts K=>
  intro k hk H y;cases k with
  |zero=>simp at y;simp[Ub,y]
  |succ k=>
   have h0:=H 0 zo;simp at h0;simp only[Ub,if_neg h0];rw[K k (by simpa using hk) (fun j I=>by have:=H (j+1) zo;simpa using this) (by simpa using y)]
theorem Jvr Ts n(h:∀ j (y:j<Ts.length),Ts[j].name≠n):Ub Ts n=Ts.length:=by
 induction Ts with
 |nil=>rfl
 |cons T Ts H=>
  have h0:=h 0 zS;simp at h0;simp only[Ub,if_neg h0,List.length_cons];rw[H fun j y=>by have:=h (j+1) zt;simpa using this]
theorem Jn4 nb n w F s d Ts sv bs(h:Jfl w F s d Ts sv bs)(hn:w.cell? ⟨nb,0,none⟩=some (.string n)):
  Calls prog 62 #[sv,.func (.func 63) #[] #[.pointer (some ⟨nb,0,none⟩)]] w fun e w'=>e=.returned (.int .i64 (Jhc Ts n))/\Below w.heap.size w w':=by
 obtain⟨a,cap,Y,bf⟩:=h.own.cells;rw[Oa6,h.len]at Y;subst Y;have bh:=h.few;go_enter func62,ntmps62
 go_wp2;go_loopw [8] (fun i wr=>∃ k:Nat,k<=Ts.length/\i=.int .i64 k/\Below w.heap.size w wr/\Hid (∀ j (y:j<Ts.length),j<k->Ts[j].name≠n)) (fun i _=>Ts.length-(intOf i).toNat)
 case atStart=>exact⟨0,Ob7 _,rfl,Oa5 _ _,fun j _ y=>absurd y (Oe0 _)⟩
 case round=>
  obtain⟨k,hk,rfl,I,M⟩:=hrel;by_cases O:k<Ts.length
  ·obtain⟨b,o,U,c1,ht⟩:=(h.below I).at O;simp at U;subst U;obtain⟨bx,tc,bk,sc,hs,Z⟩:=ht;obtain⟨br,_,_,_,_⟩:=Z.field;have bj:=Ja I hn;by_cases H:Ts[k].name=n
   ·have K:=zh H;have hq:(Ts[k].name.toList==n.toList)=true:=by rw[H];simp
    clear H;go_wp2;go_quiet (fail)
    go_wp2;go_ret
    have hf:=Kc4 Ts n k O (fun j y=>M.out j zo y) K.out;exact⟨Yp (by unfold Jhc;rw[hf,if_pos O]),Jp I _⟩
   have K:=zh H;have hq:(Ts[k].name.toList==n.toList)=false:=by
    rw[beq_eq_false_iff_ne];exact fun hh=>H (by rw[<-Zf Ts[k].name,hh,Zf])
   clear H;go_wp2;go_quiet (fail)
   go_wp2;go_roundw
   case rel=>
    refine⟨k+1,zo,zn,Jp I _,fun j y bi=>?_⟩;by_cases e:j=k
    ·subst e;exact K.out
    exact M.out j y zo
   case measure=>simp[intOf];omega
  go_wp2;go_ret
  have hf:=Jvr Ts n (fun j y=>M.out j y zo);exact⟨Yp (by unfold Jhc;rw[hf,if_neg (Oe3 _)]),I⟩
theorem Jo8 n w F s d Ts sv bs(h:Jfl w F s d Ts sv bs):
  Calls prog 46 #[.pointer (some ⟨s,0,none⟩),.string n] w fun e w'=>e=.returned (.int .i64 (Jhc Ts n))/\Below w.heap.size w w':=by
 obtain⟨_,c1⟩:=h.field;have H:Below w.heap.size w (w.alloc (.cells #[.string n] 9)):=(Oa5 _ _).alloc (Oa2 _) _;have hf:=Jn4 w.heap.size n _ F s d Ts sv bs (h.below H) zS;have I:∀ (fn:Fn) (first cap:Array Value) (w:World),(Instr.makeFunc fn first cap).run prog w=.ok (.func fn first cap) w:=fun _ _ _ _=>rfl;obtain⟨a,cap,y,_⟩:=h.own.cells;rw[Oa6]at y;subst y;have K:=Jd h.cells;clear h;go_enter func46,ntmps46
 go_wp2_with (go_at_call 62;refine hf.mono ?_;rintro e w1 ⟨rfl,hb⟩)
 go_ret
 exact⟨rfl,Qx hb⟩
def Jcg (D:DS)(y:List (List Nat)):DS:=y.foldl Jf4 D
theorem Kjz D y l:Jcg D (y++[l])=Jf4 (Jcg D y) l:=by simp[Jcg]
theorem Kjd s d a cap hs y w F G D(h:Zb w F d D)(hl:Jaf w G a hs y)(M:∀ k,G k->¬ F k)(bk:w.cell? ⟨s,0,none⟩=some (.pointer (some ⟨d,0,none⟩)))(br:¬ F s)(bD:y.length<=1000000)(O:∀ l∈y,l.length<=1000000):
  Calls prog 68 #[.pointer (some ⟨s,0,none⟩),.slice a y.length cap] w fun e w'=>e=.returned (.tuple #[])/\Zb w' F d (Jcg D y)/\Ju F w w':=by
 have U:=zh O;clear O;go_enter func68,ntmps68
 go_wp2;go_loopw [8] (fun i wr=>∃ k:Nat,k<=y.length/\i=.int .i64 k/\Zb wr F d (Jcg D (y.take k))/\Ju F w wr) (fun i _=>y.length-(intOf i).toNat)
 case atStart=>exact⟨0,Ob7 _,rfl,by simpa [Jcg] using h,Ju.refl _ _⟩
 case round=>
  rename_i i
  obtain⟨k,hk,rfl,K,H⟩:=hrel;by_cases I:k<y.length
  ·have Y:Hid (Jcg D (y.take (k+1))=Jf4 (Jcg D (y.take k)) y[k]):=by
    show Jcg D (y.take (k+1))=_;rw[Oc4 I,Kjz]
   have bi:=hl.stands H.size fun b hb I=>H.block b I (M b hb);obtain⟨b,o,bx,rc,rfl,bB,bC,bA,Z,hra⟩:=bi.at I;have c0:=H.cell bk br;have bj:=Ki0 d bx rc y[k] wr F _ K Z (fun b o hb=>M b (hra b o hb)) (U.out _ (Ob3 I));go_wp2_with (go_at_call 96;refine bj.mono ?_;rintro e bz ⟨rfl,bf,bh⟩)
   go_roundw
   case rel=>exact⟨k+1,zo,zn,by rw[Y.out];exact bf,H.trans bh⟩
   case measure=>simp[intOf];omega
  obtain rfl:k=y.length:=zo;rw[Of2]at K;go_wp2;go_end0
  exact⟨rfl,K,H⟩
def Jq (D:DS):List (List UInt8)->DS×List (List Nat)×Option Bool
 |[]=>(D,[],none)
 |t::ts=>match Uy D (Qu t)with
  |(E,l,none)=>((Jq E ts).1,l::(Jq E ts).2.1,(Jq E ts).2.2)
  |(E,l,some x)=>(Jf4 E l,[],some x)
def Kit (y:List (List Nat))(r:DS×List (List Nat)×Option Bool):DS×List (List Nat)×Option Bool:=(r.1,y++r.2.1,r.2.2)
theorem Kjf {y D E t ts l}(h:Uy D (Qu t)=(E,l,none)):Kit y (Jq D (t::ts))=Kit (y++[l]) (Jq E ts):=by
 simp[Kit,Jq,h]
theorem Kjv {y D E t ts l x}(h:Uy D (Qu t)=(E,l,some x)):Kit y (Jq D (t::ts))=(Jf4 E l,y,some x):=by
 simp[Kit,Jq,h]
structure Kiu (w0:World) (F0:Nat->Prop) (w:World) (d:Nat) (E:DS) (sv:Value) (hs:List (Option Addr×Nat)) (ls:List (List Nat)) (FD:Nat->Prop):Prop where
 disk:Zb w FD d E
 from_:∀ k,FD k->F0 k\/w0.heap.size<=k
 lt:∀ k,FD k->k<w.heap.size
 own:Jo w w0.heap.size 22 sv (List.zipWith Kh8 hs ls)
 len:hs.length=ls.length
 segs:∀ (i:Nat) h l,hs[i]?=some h->ls[i]?=some l->Uh w h.1 (l.map nv)
 new:∀ (i:Nat) h,hs[i]?=some h->∀ b o,h.1=some ⟨b,o,none⟩->w0.heap.size<=b/\b<w.heap.size/\¬ FD b/\sv.ownBlock≠some b
 apart:∀ g,sv.ownBlock=some g->¬ FD g
 keep:Ju F0 w0 w
theorem Kiu.stand {w0 w w' F0 FD d E sv hs y}(h:Kiu w0 F0 w d E sv hs y FD)(hk:Ju FD w w'):
  Jo w' w0.heap.size 22 sv (List.zipWith Kh8 hs y)/\Ju F0 w0 w'/\(∀ (i:Nat) x l,hs[i]?=some x->y[i]?=some l->Uh w' x.1 (l.map nv)):=
 ⟨Yd h.own fun g H=>hk.block g (Qk h.own H) (h.apart g H),h.keep.trans' hk fun k M hf=>(h.from_ k hf).resolve_right zo,
  fun i x l I hl=>(h.segs i x l I hl).of_block hk.size fun b o hb K=>hk.block b K (h.new i x I b o hb).2.2.1⟩
theorem Kjb hs y(h:hs.length=y.length)(x:Option Addr×Nat)l:List.zipWith Kh8 (hs++[x]) (y++[l])=List.zipWith Kh8 hs y++[Kh8 x l]:=by
 rw[List.zipWith_append h];rfl
theorem Kec {α:Type}{xs:List α}{x H:α}{i:Nat}(h:(xs++[x])[i]?=some H):(i<xs.length/\xs[i]?=some H)\/(i=xs.length/\x=H):=by
 rcases Oc1 i xs.length with y|y
 ·rw[Ob0 y]at h;exact .inl ⟨y,h⟩
 rw[Ob6 y]at h;rcases Oc1 (i-xs.length) 1 with I|I
 ·have:i-xs.length=0:=zo;rw[this]at h;simp at h;exact .inr ⟨zo,h⟩
 rw[Ob4 (by simpa using I)]at h;simp at h
theorem Kiu.more {w0 wr y bj F0 FD M d E bA sv sv' hs bi}(h:Kiu w0 F0 wr d E sv hs bi FD)(bE:Ju FD wr y)(bL:Zb y M d bA)(Z:∀ k,M k->FD k\/wr.heap.size<=k)(bG:∀ k,M k->k<y.heap.size)a1 c1 l(bz:Jo y wr.heap.size 3 (.slice a1 l.length c1) (l.map nv))(bK:∀ g,(Value.slice a1 l.length c1).ownBlock=some g->¬ M g)o(bM:Jo bj w0.heap.size 22 sv' (List.zipWith Kh8 hs bi++[.slice a1 l.length c1]))(H:(y.alloc o).grownBy bj sv.ownBlock)(hb:sv'.ownBlock=sv.ownBlock\/sv'.ownBlock=some (y.alloc o).heap.size):
  Kiu w0 F0 bj d bA sv' (hs++[(a1,c1)]) (bi++[l]) M:=by
 have bO:=H.size;rw[Oa7]at bO;have bT:=bE.size;have bS:=h.keep.size;have bf:∀ g,sv.ownBlock=some g->g<wr.heap.size:=fun g H=>Qk h.own H;have bh:∀ k,k<y.heap.size->sv.ownBlock≠some k->bj.heap[k]?=y.heap[k]?:=fun k hk bx=>(H.block k zt (Oc5 bx)).trans (Oa9 y o k hk);have bH:∀ b,b<y.heap.size->sv.ownBlock≠some b->sv'.ownBlock≠some b:=fun b Y bx e=>by
  rcases hb with bk|bk
  ·exact bx (bk▸e)
  rw[bk]at e;simp at e;omega
 have bJ:∀ g,(Value.slice a1 l.length c1).ownBlock=some g->wr.heap.size<=g/\g<y.heap.size:=fun g H=>Je bz H;have bI:∀ b o,a1=some ⟨b,o,none⟩->(Value.slice a1 l.length c1).ownBlock=some b:=(Jji bz).2;obtain⟨_,K,bN⟩:=h.stand bE;refine⟨bL.stands fun k hk hl=>bh k hl fun e=>?_,fun k hk=>?_,fun k hk=>Oc2 (bG k hk) zo,?_,by simp[h.len],?_,?_,fun g O=>?_,?_⟩
 ·rcases Z k hk with hf|hf
  ·exact h.apart k e hf
  have:=bf k e;omega
 ·rcases Z k hk with hf|hf
  ·exact h.from_ k hf
  exact .inr zo
 ·rw[Kjb hs bi h.len];exact bM
 ·intro i x bP I U;rcases Kec I with⟨hi,I⟩|⟨hi,rfl⟩
  ·rw[Ob0 (by rw[<-h.len];exact hi)]at U;exact(bN i x bP I U).of_block zo fun b o Y br=>bh b br (h.new i x I b o Y).2.2.2
  rw[hi,h.len,Ob6 (Oa2 _)]at U;simp at U;subst U;exact(Jji bz).1.of_block zo fun b o Y br=>bh b br fun e=>by have:=bf b e;have:=(bJ b (bI b o Y)).1;omega
 ·intro i x I b o bB;rcases Kec I with⟨hi,I⟩|⟨hi,rfl⟩
  ·obtain⟨bQ,bU,n3,bR⟩:=h.new i x I b o bB;refine⟨bQ,zo,fun hf=>?_,bH b zo bR⟩;rcases Z b hf with hf|hf
   ·exact n3 hf
   omega
  have bC:=bI b o bB;obtain⟨g1,g2⟩:=bJ b bC;exact⟨zo,zo,bK b bC,bH b g2 fun e=>by have:=bf b e;omega⟩
 ·intro hf;rcases hb with e|e
  ·rw[e]at O;rcases Z g hf with hf|hf
   ·exact h.apart g O hf
   have:=bf g O;omega
  rw[e]at O;simp at O;have:=bG g hf;omega
 refine⟨H.os.trans K.os,H.tape.trans K.tape,H.output.trans K.output,Ob2 K.size zo,fun k bD hn=>?_⟩;refine(bh k (Oc2 bD K.size) fun e=>?_).trans (K.block k bD hn);have:=(Je h.own e).1;omega
def Jxo (w:World)(F:Nat->Prop)(d:Nat)(q wr:Addr)(r:DS×List (List Nat)×Option Bool)(e:Ending)(w':World):Prop:=
 Ju F w w'/\∃ FD:Nat->Prop,Zb w' FD d (match r.2.2 with|none=>r.1|some _=>Jcg r.1 r.2.1)/\(∀ k,FD k->F k\/w.heap.size<=k)/\(∀ k,FD k->k<w'.heap.size) /\
  match r.2.2 with
  |none=>∃ y sc hs,e=.returned (.tuple #[.slice y r.2.1.length sc,.nilIface])/\Jaf w' (fun k=>w.heap.size<=k/\k<w'.heap.size/\¬ FD k) y hs r.2.1/\r.2.1.length<=sc
  |some x=>∃ b,e=.returned (.tuple #[.slice none 0 0,.iface 156 (.pointer (some ⟨b,0,none⟩))])/\w.heap.size<=b/\Yu w' (.iface 156 (.pointer (some ⟨b,0,none⟩))) (if x then q else wr) none (some (-1))/\¬ FD b
theorem Kku {w B e a n c xs}(h:Jo w B e (.slice a n c) xs):n<=c:=by
 rcases h.2 with⟨hv,h0⟩|⟨g,cap,H,hv,_,_,y,_⟩
 ·cases hv;exact Oa2 _
 cases hv;exact y
theorem Kiu.done {w0 w F0 FD d E a n c hs H}(h:Kiu w0 F0 w d E (.slice a n c) hs H FD):Jaf w (fun k=>w0.heap.size<=k/\k<w.heap.size/\¬ FD k) a hs H:=
 ⟨h.len,(Jji h.own).1,h.segs,fun b o hb=>⟨(Je h.own ((Jji h.own).2 b o hb)).1,(Je h.own ((Jji h.own).2 b o hb)).2,h.apart b ((Jji h.own).2 b o hb)⟩,fun i x y b o hb=>⟨(h.new i x y b o hb).1,(h.new i x y b o hb).2.1,(h.new i x y b o hb).2.2.1⟩⟩
theorem Jzf:(prog.info? 22).map (fun i=>(i.zero,i.size,i.bytes))=some (some (.slice none 0 0),1,24):=zK
theorem Ul {w M rest o a Q}(bh:o.guard=none)s x t e z H(bi:(prog.info? e).map (fun i=>(i.zero,i.size,i.bytes))=some (some z,1,H))(bz:z.cells.size=1)(bf:H<=64)(ht:prog.underlying t=some (.slice e))(ho:o.op=.call {callee:=.builtin .append,args:=#[s,x],argTypes:=#[t,t]})B sv xs(hs:a.eval s=sv)(bj:Jo w B e sv xs)I c y(br:a.eval x=.slice (some I) y.length c)(hv:∀ j u,y[j]?=some u->w.cell? (I.add j)=some u)(K:∀ u∈y,u.oneCell'=true)(hlen:xs.length+y.length<=1000000)(Y:B<=w.heap.size)(h:∀ sv' w',Jo w' B e sv' (xs++y)->w.grownBy w' sv.ownBlock->(sv'.ownBlock=sv.ownBlock\/sv'.ownBlock=some w.heap.size)->wpList prog M Q rest (a.put o.dst sv') w'):
  wpList prog M Q (o::rest) a w:=by
 obtain⟨i,hi,bx,bk,Z⟩:=info_parts bi;refine wpList_append_own_at w bh s x t ho B e i _ 1 H ht hi bx bk Z bz zd sv xs.length xs hs bj I y.length c y br zS hv K ?_ ?_ Y ?_
 ·unfold maxLen;omega
 ·have:(xs.length+y.length)*H<=1000000*64:=Ol5 hlen bf;omega
 exact zaY
theorem Juw D i:(Jae D i).pages.length=D.pages.length:=by unfold Jae;split<;>simp
theorem Jrz l:∀ D:DS,(Jf4 D l).pages.length=D.pages.length:=by
 induction l with
 |nil=>intro D;rfl
 |cons i l y=>intro D;show (Jf4 (Jae D i) l).pages.length=_;rw[y,Juw]
theorem Jt4 y:∀ D:DS,(Jcg D y).pages.length=D.pages.length:=by
 induction y with
 |nil=>intro D;rfl
 |cons l y H=>intro D;show (Jcg (Jf4 D l) y).pages.length=_;rw[H,Jrz]
theorem Jrh:∀ (ps:List (List UInt8))(D:DS),(Uy D ps).1.pages.length<=D.pages.length+ps.length/\(Uy D ps).2.1.length<=ps.length
 |[],D=>by simp[Uy]
 |p::ps,D=>by
  unfold Uy;split
  ·simp
  split
  ·simp[Jvn]
  have:=Jrh ps (Zn D p);have y:=Jxm D p;simp;omega
def Jch (ts:List (List UInt8)):Nat:=(ts.map fun t=>(Qu t).length).sum
theorem Ja1 t ts:Jch (t::ts)=(Qu t).length+Jch ts:=by simp[Jch]
def tv (t:List UInt8):Value:=.string (Qw t)
theorem Kks s d a cap ts w F D(h:Zb w F d D)(hF:∀ k,F k->k<w.heap.size)(ht:Uh w a (ts.map tv))(bW:∀ b o,a=some ⟨b,o,none⟩->¬ F b)(bC:w.cell? ⟨s,0,none⟩=some (.pointer (some ⟨d,0,none⟩)))(bE:¬ F s)q qw(hq:w.cell? ⟨6,0,none⟩=some (.iface 432 (.pointer (some q))))(hw:w.cell? ⟨7,0,none⟩=some (.iface 432 (.pointer (some qw))))(bH:¬ F 6)(bI:¬ F 7)(cj:D.pages.length+Jch ts<=950000)(cz:ts.length<=100000)(bN:∀ t∈ts,t.length<=1000000):
  Calls prog 48 #[.pointer (some ⟨s,0,none⟩),.slice a ts.length cap] w fun e w'=>Jxo w F d q qw (Jq D ts) e w':=by
 have bQ:=zh bN;clear bN;go_enter func48,ntmps48
 go_wp2;go_loopw [6,13] (fun sv i wr=>∃ (k:Nat) (E:DS) (hs:List (Option Addr×Nat)) (H:List (List Nat)) (FD:Nat->Prop),k<=ts.length/\i=.int .i64 k/\H.length<=k/\E.pages.length+Jch (ts.drop k)<=950000/\Kiu w F wr d E sv hs H FD/\Hid ((∀ l∈H,l.length<=1000000)/\Jq D ts=Kit H (Jq E (ts.drop k)))) (fun _ i _=>ts.length-(intOf i).toNat)
 case atStart=>exact⟨0,D,[],[],F,Ob7 _,rfl,Oa2 _,by simpa using cj,⟨h,fun k hk=>.inl hk,hF,Jo.nil _ _ _,rfl,fun i h l hi=>by simp at hi,fun i h hi=>by simp at hi,fun g cb=>by simp[Value.ownBlock]at cb,Ju.refl _ _⟩,by show _/\_;exact⟨zS,by simp[Kit]⟩⟩
 case round=>
  rename_i sv i
  obtain⟨k,E,hs,H,FD,hk,rfl,cy,ca,y,K⟩:=hrel;by_cases br:k<ts.length
  ·have Y:Hid (ts.drop k=ts[k]::ts.drop (k+1)):=Oi1 br;rw[Y.out,Ja1]at ca;rcases ht with ht|⟨b,o,rfl,hb,ht⟩
   ·simp at ht;subst ht;simp at br
   have cx:wr.cell? ⟨b,o+k,none⟩=some (.string (Qw ts[k])):=y.keep.cell (ht k _ (by simp[br];rfl)) (bW b o rfl);have c0:=y.keep.cell bC bE;have bB:=Kkq d ts[k] wr FD E y.disk y.lt q qw (y.keep.cell hq bH) (y.keep.cell hw bI) (fun hf=>?_) (fun hf=>?_) zo (bQ.out _ (Ob3 br))
   ·obtain⟨a0,bS,bf,_⟩:=y.own.cells;have bh:(List.zipWith Kh8 hs H).length=H.length:=(by simp[y.len]);rw[bh]at bf;have bR:=zh bh;clear bh;subst bf;have bJ:∀ (I:Nat->Prop),(∀ k,I k->FD k\/wr.heap.size<=k)->∀ k,k<w.heap.size->I k->F k:=fun I bk k hk hf=>by
     have:=y.keep.size;rcases bk k hf with h|h
     ·exact(y.from_ k h).resolve_right zo
     omega
    have bi:=bJ;replace bi:Hid (∀ (I:Nat->Prop),(∀ k,I k->FD k\/wr.heap.size<=k)->∀ k,k<w.heap.size->I k->F k):=bi;clear bJ;have O:=zh y;have cn:=y.keep.size;clear y;rcases hr:Uy E (Qu ts[k])with⟨E1,l,r⟩;have bK:=Jrh (Qu ts[k]) E;rw[hr]at bB bK;simp only at bK;cases r with
    |none=>
     have Z:Hid ((∀ bG∈H++[l],bG.length<=1000000)/\Jq D ts=Kit (H++[l]) (Jq E1 (ts.drop (k+1)))):=by
      refine⟨fun bG cc=>?_,by rw[K.out.2,Y.out,Kjf hr]⟩;rcases Od2.1 cc with h|h
      ·exact K.out.1 bG h
      simp at h;subst h;omega
     clear K Y hr;generalize ts[k]=tk at *;go_wp2_with (first|(go_at_call 67;refine bB.mono ?_;rintro e bj ⟨M,I,bx,U,bA,cA,rfl,bM,bV⟩;obtain⟨a1,c1,bD,_⟩:=bM.cells;rw[Oa6]at bD;subst bD;have bD:=M.size)|(at_builtin;go_must (refine Ul zR _ _ 91 22 _ 24 Jzf zR zd zK zR w.heap.size _ _ zR (Jo.alloc (O.out.stand M).1 _) ⟨bj.heap.size,0,none⟩ 1 [.slice a1 l.length c1] zR (by exact Ua bj _ _) (by intro u bO;simp at bO;subst bO;rfl) (by rw[bR.out];simp only[List.length_cons,List.length_nil];omega) zt ?_);intro sv' cB bk bT bU;obtain⟨a2,cv,rfl,_⟩:=bk.cells))
     go_roundw
     case rel=>
      have hq:=O.out.more M bx U bA a1 c1 l bM bV _ bk bT bU;simp only[Oa8,List.length_zipWith,List.length_cons,List.length_nil,Od0]at hq;exact⟨k+1,E1,_,_,_,zo,zn,by simp;omega,zo,hq,Z.out⟩
     case measure=>simp[intOf];omega
    |some x=>
     have Z:Hid (Jq D ts=(Jf4 E1 l,H,some x)):=by show _=_;rw[K.out.2,Y.out,Kjv hr]
     have bP:=zh K.out.1;clear K Y hr;generalize ts[k]=tk at *;go_wp2_with (first|(go_at_call 67;refine bB.mono ?_;rintro e bj ⟨M,I,bx,U,bA,b1,rfl,bX,bY,bL⟩;have ci:=O.out.done.stands M.size (fun k hk hl=>M.block k hl hk.2.2);have cf:=Kjd s d a0 bS hs H bj I _ _ bx ci (fun k hk hf=>(U k hf).elim hk.2.2 (fun h=>absurd hk.2.1 zo)) (M.cell c0 (fun hf=>(O.out.from_ s hf).elim bE (fun h=>by have:=Jm bC;simp at this;omega))) (fun hf=>bE (bi.out I U s (Jm bC) hf)) zo bP.out)|(go_at_call 68;refine cf.mono ?_;rintro e cu ⟨rfl,bZ,bz⟩))
     go_ret2
     rw[Z.out];exact⟨(O.out.stand M).2.1.trans' bz (bi.out I U),I,bZ,fun k hf=>(U k hf).elim (O.out.from_ k) fun h=>.inr zo,fun k hf=>Oc2 (bA k hf) bz.size,b1,rfl,Ob2 cn bX,Ki6 bY bz bL,bL⟩
   ·exact(y.from_ _ hf).elim bH fun h=>by have:=Jm hq;simp at this;omega
   exact(y.from_ _ hf).elim bI fun h=>by have:=Jm hw;simp at this;omega
  obtain rfl:k=ts.length:=zo;obtain⟨a1,c1,bf,_⟩:=y.own.cells;have bh:(List.zipWith Kh8 hs H).length=H.length:=by simp[y.len]
  rw[bh]at bf;subst bf;have Z:Hid (Jq D ts=(E,H,none)):=by show _=_;rw[K.out.2,List.drop_length];simp[Kit,Jq]
  clear K;go_wp2;go_ret2
  rw[Z.out];exact⟨y.keep,FD,y.disk,y.from_,y.lt,_,_,hs,rfl,y.done,Kku y.own⟩
