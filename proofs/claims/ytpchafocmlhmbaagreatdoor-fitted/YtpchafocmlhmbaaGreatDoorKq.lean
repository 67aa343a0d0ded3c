/- The disk in memory: its fields, its list of pages, the pages themselves; what stands when something else turns. -/
import Derived.Test.YtpchafocmlhmbaaGreatDoorIl
import Derived.Test.YtpchafocmlhmbaaGreatDoorEw
set_option maxHeartbeats 2000000
set_option maxRecDepth 100000
namespace Go.Proofs.YtpchafocmlhmbaaGreatDoor
section
open Go.RowKit Tryz
structure Ju (F:Nat→Prop) (w w':World):Prop where
 os:w'.os=w.os
 tape:w'.tape=w.tape
 output:w'.output=w.output
 size:w.heap.size≤w'.heap.size
 block:∀ k,k<w.heap.size→¬ F k→w'.heap[k]?=w.heap[k]?
theorem Ju.refl (F:Nat→Prop)(w:World):Ju F w w:=⟨rfl,rfl,rfl,Oa2 _,fun _ _ _=>rfl⟩
theorem Ju.trans {F:Nat→Prop}{a b c:World}(h:Ju F a b)(k:Ju F b c):Ju F a c:=
 ⟨k.os.trans h.os,k.tape.trans h.tape,k.output.trans h.output,Ob2 h.size k.size,fun i hi hn=>(k.block i (Oc2 hi h.size) hn).trans (h.block i hi hn)⟩
theorem Ju.trans' {F G:Nat→Prop}{a b c:World}(h:Ju F a b)(k:Ju G b c)(y:∀ i,i<a.heap.size→G i→F i):Ju F a c:=
 ⟨k.os.trans h.os,k.tape.trans h.tape,k.output.trans h.output,Ob2 h.size k.size,fun i hi hn=>(k.block i (Oc2 hi h.size) (fun D=>hn (y i hi D))).trans (h.block i hi hn)⟩
theorem Ju.mono {F G:Nat→Prop}{w w':World}(h:Ju F w w')(D:∀ k,k<w.heap.size→F k→G k):Ju G w w':=
 ⟨h.os,h.tape,h.output,h.size,fun k y hn=>h.block k y (fun hf=>hn (D k y hf))⟩
theorem Ju.of_below {F:Nat→Prop}{w w':World}(h:Below w.heap.size w w'):Ju F w w':=⟨h.os,h.tape,h.output,h.size,fun k y _=>h.block k y⟩
theorem Ju.alloc {F:Nat→Prop}{w w':World}(h:Ju F w w')(o:Obj):Ju F w (w'.alloc o):=h.trans (.of_below ((Oa5 _ _).alloc (Oa2 _) _))
theorem Ju.set {F:Nat→Prop}{w w':World}(h:Ju F w w'){b:Nat}(y:F b)(i:Nat)(v:Value):Ju F w (w'.setCell ⟨b,i,none⟩ v):=
 h.trans ⟨rfl,rfl,rfl,by simp[World.setCell],fun k _ hn=>Oa4 _ _ _ _ (fun e=>hn (by rw[e];exact y))⟩
theorem Ju.below {F:Nat→Prop}{w w':World}(h:Ju F w w'){B:Nat}(hF:∀ k,k<B→¬ F k)(D:B≤w.heap.size):Below B w w':=⟨h.os,h.tape,h.output,h.size,fun k y=>h.block k (by omega) (hF k y)⟩
theorem Ju.cell {F:Nat→Prop}{w w':World}(h:Ju F w w'){b o:Nat}{v:Value}(y:w.cell? ⟨b,o,none⟩=some v)(hn:¬ F b):w'.cell? ⟨b,o,none⟩=some v:=by
 rw[Oc3 (w:=w) (h.block b (Jm y) hn)];exact y
theorem Ju.drewN {F:Nat→Prop}{w w':World}(h:Ju F w w')(n:Nat):Ju F w (w'.drewN n):=⟨h.os,h.tape,h.output,h.size,h.block⟩
def up (F:Nat→Prop)(w:World):Nat→Prop:=fun k=>F k∨w.heap.size≤k
theorem Ju.down {F:Nat→Prop}{w w':World}(h:Ju (up F w) w w'):Ju F w w':=h.mono fun k y D=>D.elim id (fun h=>absurd y (by omega))
structure DS where
 quota:Int
 fail:Int
 writes:Int
 lowest:Nat
 pages:List (Option (List UInt8))
def Js (l:List (Option (List UInt8))):Nat:=l.countP Option.isSome
theorem Kad (l:List (Option (List UInt8))):Js l≤l.length:=List.countP_le_length
def Kew:Option Nat→Value
 |none=>.pointer none
 |some b=>.pointer (some ⟨b,0,none⟩)
structure Jf1 (w:World) (F:Nat→Prop) (d:Nat) (D:DS) (sv:Value) (ps:List (Option Nat)):Prop where
 cells:w.heap[d]?=some (.cells #[.int .i64 D.quota,.int .i64 D.fail,.int .i64 D.writes,.int .i64 ((Js D.pages:Nat):Int),.int .i64 ((D.lowest:Nat):Int),sv] 110 (0,0))
 own:Jo w 0 246 sv (ps.map Kew)
 ownF:∀ g,sv.ownBlock=some g→F g∧g≠d
 dF:F d
 len:ps.length=D.pages.length
 page:∀ (i b:Nat),ps[i]?=some (some b)→F b∧b≠d∧sv.ownBlock≠some b∧∃ p,D.pages[i]?=some (some p)∧Jdp w b p
 vacant:∀ i:Nat,ps[i]?=some Option.none→D.pages[i]?=some Option.none
 inj:∀ (i j b:Nat),ps[i]?=some (some b)→ps[j]?=some (some b)→i=j
 low:D.lowest≤D.pages.length
 full:∀ i:Nat,i<D.lowest→∃ p,D.pages[i]?=some (some p)
 small:D.pages.length≤900000
def Zb (w:World)(F:Nat→Prop)(d:Nat)(y:DS):Prop:=∃ sv ps,Jf1 w F d y sv ps
theorem Qk {w:World}{B:Nat}{e:TypeId}{sv:Value}{xs:List Value}{g:Nat}(h:Jo w B e sv xs)(y:sv.ownBlock=some g):g<w.heap.size:=by
 rcases h.2 with⟨D,_⟩|⟨K,cap,H,D,_,E,_⟩
 ·subst D;simp[Value.ownBlock]at y
 subst D;simp[Value.ownBlock]at y;subst y;exact Jd E
theorem Yd {w w':World}{B:Nat}{e:TypeId}{sv:Value}{xs:List Value}(h:Jo w B e sv xs)(O:∀ g,sv.ownBlock=some g→w'.heap[g]?=w.heap[g]?):Jo w' B e sv xs:=by
 refine⟨h.1,?_⟩;rcases h.2 with h|⟨y,cap,E,D,H,K,hr⟩
 ·exact .inl h
 refine .inr ⟨y,cap,E,D,H,?_,hr⟩;rw[O y (by subst D;simp[Value.ownBlock])];exact K
theorem Jf1.stands {w w':World}{F:Nat→Prop}{d:Nat}{D:DS}{sv:Value}{ps:List (Option Nat)}(h:Jf1 w F d D sv ps)(y:∀ k,F k→k<w.heap.size→w'.heap[k]?=w.heap[k]?):Jf1 w' F d D sv ps:=
 ⟨by rw[y d h.dF (Jd h.cells)];exact h.cells,Yd h.own fun g E=>y g (h.ownF g E).1 (Qk h.own E),h.ownF,h.dF,h.len,
  fun i b hi=>by obtain⟨f,K,O,p,hp,H⟩:=h.page i b hi;exact⟨f,K,O,p,hp,H.of_block (y b f H.2.lt)⟩,h.vacant,h.inj,h.low,h.full,h.small⟩
theorem Zb.stands {w w':World}{F:Nat→Prop}{d:Nat}{y:DS}(h:Zb w F d y)(D:∀ k,F k→k<w.heap.size→w'.heap[k]?=w.heap[k]?):Zb w' F d y:=by
 obtain⟨sv,ps,h⟩:=h;exact⟨sv,ps,h.stands D⟩
theorem Jf1.below {w w':World}{F:Nat→Prop}{d:Nat}{y:DS}{sv:Value}{ps:List (Option Nat)}(h:Jf1 w F d y sv ps)(D:Below w.heap.size w w'):Jf1 w' F d y sv ps:=h.stands fun k _ E=>D.block k E
theorem Zb.below {w w':World}{F:Nat→Prop}{d:Nat}{y:DS}(h:Zb w F d y)(D:Below w.heap.size w w'):Zb w' F d y:=h.stands fun k _ E=>D.block k E
theorem Jf1.mono {w:World}{F G:Nat→Prop}{d:Nat}{E:DS}{sv:Value}{ps:List (Option Nat)}(h:Jf1 w F d E sv ps)(y:∀ k,k<w.heap.size→F k→G k):Jf1 w G d E sv ps:=
 ⟨h.cells,h.own,fun g D=>⟨y g (Qk h.own D) (h.ownF g D).1,(h.ownF g D).2⟩,y d (Jd h.cells) h.dF,h.len,
  fun i b hi=>by obtain⟨f,K,O,p,hp,H⟩:=h.page i b hi;exact⟨y b H.2.lt f,K,O,p,hp,H⟩,h.vacant,h.inj,h.low,h.full,h.small⟩
theorem Zb.mono {w:World}{F G:Nat→Prop}{d:Nat}{y:DS}(h:Zb w F d y)(D:∀ k,k<w.heap.size→F k→G k):Zb w G d y:=by
 obtain⟨sv,ps,h⟩:=h;exact⟨sv,ps,h.mono D⟩
theorem Jf1.field {w:World}{F:Nat→Prop}{d:Nat}{y:DS}{sv:Value}{ps:List (Option Nat)}(h:Jf1 w F d y sv ps) :
  w.cell? ⟨d,0,.none⟩=some (.int .i64 y.quota)∧w.cell? ⟨d,1,.none⟩=some (.int .i64 y.fail)∧w.cell? ⟨d,2,.none⟩=some (.int .i64 y.writes)∧w.cell? ⟨d,3,.none⟩=some (.int .i64 ((Js y.pages:Nat):Int)) ∧
   w.cell? ⟨d,4,.none⟩=some (.int .i64 ((y.lowest:Nat):Int))∧w.cell? ⟨d,5,.none⟩=some sv:=by
 simp[World.cell?,h.cells]
theorem Jf1.thaw {w:World}{F:Nat→Prop}{d:Nat}{y:DS}{sv:Value}{ps:List (Option Nat)}(h:Jf1 w F d y sv ps)(i:Nat):w.frozen? ⟨d,i,.none⟩=false:=by simp[World.frozen?,h.cells]
theorem Ji8 {w:World}{B:Nat}{e:TypeId}{sv:Value}{xs:List Value}(h:Jo w B e sv xs):∃ a cap,sv=.slice a xs.length cap∧∀ i x,xs[i]?=some x→∃ g,a=some ⟨g,0,none⟩∧sv.ownBlock=some g∧w.cell? ⟨g,i,none⟩=some x∧w.frozen? ⟨g,i,none⟩=false:=by
 rcases h.2 with⟨D,h0⟩|⟨g,cap,O,D,_,H,R,_,U,K⟩
 ·refine⟨none,0,by rw[D,h0],fun i x y=>?_⟩;rw[Od3.1 h0]at y;simp at y
 refine⟨some ⟨g,0,none⟩,cap,D,fun i x y=>⟨g,rfl,by subst D;simp[Value.ownBlock],?_,by simp[World.frozen?,H]⟩⟩;have hi:i<xs.length:=by
  rcases Oc1 i xs.length with E|E
  ·exact E
  rw[Ob4 E]at y;simp at y
 rw[←K]at y;rw[Nat.mul_one,Oh3 hi,Oe6]at y;simp[World.cell?,H,y]
def Jai (l:List (Option (List UInt8)))(page:Int):Bool:=decide (0≤page∧page<l.length)&&(l.getD page.toNat .none).isSome
theorem Jf1.list {w:World}{F:Nat→Prop}{d:Nat}{E:DS}{sv:Value}{ps:List (Option Nat)}(h:Jf1 w F d E sv ps) :
  ∃ a cap,sv=.slice a ps.length cap∧∀ (i:Nat) (hi:i<ps.length),∃ g,a=some ⟨g,0,none⟩∧F g∧g≠d∧w.cell? ⟨g,i,none⟩=some (Kew ps[i])∧w.frozen? ⟨g,i,none⟩=false:=by
 obtain⟨a,cap,D,R⟩:=Ji8 h.own;rw[Oa6]at D;refine⟨a,cap,D,fun i hi=>?_⟩;obtain⟨g,H,y,K,O⟩:=R i (Kew ps[i]) (by simp[hi]);exact⟨g,H,(h.ownF g y).1,(h.ownF g y).2,K,O⟩
theorem Jf1.which {w:World}{F:Nat→Prop}{d:Nat}{y:DS}{sv:Value}{ps:List (Option Nat)}(h:Jf1 w F d y sv ps)(i:Nat)(hi:i<ps.length):(y.pages.getD i none).isSome=ps[i].isSome:=by
 cases hq:ps[i]with
 |none=>rw[Oa0,h.vacant i (by rw[←hq];simp[hi])];rfl
 |some b=>obtain⟨_,_,_,p,hp,_⟩:=h.page i b (by rw[←hq];simp[hi]);rw[Oa0,hp];rfl
theorem Jwv (d:Nat)(page:Int)(w:World)(F:Nat→Prop)(E:DS)(h:Zb w F d E) :
  Calls prog 127 #[.pointer (some ⟨d,0,none⟩),.int .i64 page] w fun e w'=>e=.returned (.bool (Jai E.pages page))∧w'=w:=by
 obtain⟨sv,ps,h⟩:=h;obtain⟨_,_,_,_,_,c5⟩:=h.field;obtain⟨a,cap,rfl,y⟩:=h.list;have D:=h.len;unfold Jai;rw[←D];by_cases h0:0≤page
 ·obtain⟨i,rfl⟩:=Int.eq_ofNat_of_zero_le h0;by_cases hi:i<ps.length
  ·obtain⟨g,rfl,_,_,c,f⟩:=y i hi;have H:=h.which i hi;have K:(i:Int)<(ps.length:Int):=(by omega);rw[show (Int.toNat (i:Int))=i from rfl,H];clear H y h D;cases hq:ps[i]with
   |none=>
    rw[hq]at c;simp only[Kew]at c;go_enter func127,ntmps127
    go_wp2;go_ret
    exact⟨Qr (by simp),rfl⟩
   |some b=>
    rw[hq]at c;simp only[Kew]at c;go_enter func127,ntmps127
    go_wp2;go_ret
    exact⟨Qr (by simp[hi]),rfl⟩
  have K:¬ (i:Int)<(ps.length:Int):=by omega
  clear y h D;go_enter func127,ntmps127
  go_wp2;go_ret
  exact⟨Qr (by first|(simp;done)|(simp;omega)),rfl⟩
 clear y h D;go_enter func127,ntmps127
 go_wp2;go_ret
 exact⟨Qr (by first|(simp;done)|(simp;omega)),rfl⟩
def Ku (q f:Int):DS:=⟨q,f,0,0,[]⟩
theorem Kcn (q f:Int)(w:World) :
  Calls prog 26 #[.agg #[.int .i64 q,.int .i64 f]] w fun e w'=>∃ b,e=.returned (.pointer (some ⟨b,0,none⟩))∧w.heap.size≤b∧Zb w' (fun k=>k=b) b (Ku q f)∧Below w.heap.size w w':=by
 go_enter func26,ntmps26
 go_wp2;go_ret
 refine⟨_,rfl,?_,⟨.slice none 0 0,[],?_,Jo.nil _ _ _,?_,rfl,rfl,?_,?_,?_,?_,?_,?_⟩,?_⟩
 ·simp
 ·have:=heap_alloc_new (w.alloc (.cells #[.int .i64 q,.int .i64 f] 33)) (.cells #[.int .i64 q,.int .i64 f,.int .i64 0,.int .i64 0,.int .i64 0,.slice none 0 0] 110);rw[Oa7]at this;exact this
 ·intro g y;simp[Value.ownBlock]at y
 ·intro i b hi;simp at hi
 ·intro i hi;simp at hi
 ·intro i j b hi;simp at hi
 ·simp[Ku]
 ·intro i hi;simp[Ku]at hi
 ·simp[Ku]
 exact((Oa5 _ _).alloc (Oa2 _) _).alloc (by simp) _
end
section
open Go.RowKit Tryz
theorem Kji:(prog.info? 246).map (fun i=>(i.zero,i.size,i.bytes))=some (some (.pointer none),1,8):=by kernel_rfl
theorem Jf1.turn {w w':World}{F:Nat→Prop}{d:Nat}{y:DS}{sv:Value}{ps:List (Option Nat)}(h:Jf1 w F d y sv ps)(wr:Int)(lo:Nat)
  (O:w'.heap[d]?=some (.cells #[.int .i64 y.quota,.int .i64 y.fail,.int .i64 wr,.int .i64 ((Js y.pages:Nat):Int),.int .i64 ((lo:Nat):Int),sv] 110 (0,0)))
  (E:∀ k,k≠d→k<w.heap.size→w'.heap[k]?=w.heap[k]?) (U:lo≤y.pages.length) (R:∀ i,i<lo→∃ p,y.pages[i]?=some (some p)):Jf1 w' F d ⟨y.quota,y.fail,wr,lo,y.pages⟩ sv ps:=
 ⟨O,Yd h.own fun g D=>E g (h.ownF g D).2 (Qk h.own D),h.ownF,h.dF,h.len,
  fun i b hi=>by obtain⟨f,K,X,p,hp,H⟩:=h.page i b hi;exact⟨f,K,X,p,hp,H.of_block (E b K H.2.lt)⟩,h.vacant,h.inj,U,R,h.small⟩
theorem Jf1.setLow {w:World}{F:Nat→Prop}{d:Nat}{y:DS}{sv:Value}{ps:List (Option Nat)}(h:Jf1 w F d y sv ps)(lo:Nat)(H:lo≤y.pages.length)(D:∀ i,i<lo→∃ p,y.pages[i]?=some (some p)) :
  Jf1 (w.setCell ⟨d,4,none⟩ (.int .i64 ((lo:Nat):Int))) F d ⟨y.quota,y.fail,y.writes,lo,y.pages⟩ sv ps:=
 h.turn y.writes lo (by have:=Jk h.cells 4 (.int .i64 ((lo:Nat):Int));simpa using this) (fun k E _=>Oa4 _ _ _ _ E) H D
theorem Jf1.setWrites {w:World}{F:Nat→Prop}{d:Nat}{y:DS}{sv:Value}{ps:List (Option Nat)}(h:Jf1 w F d y sv ps)(wr:Int) :
  Jf1 (w.setCell ⟨d,2,none⟩ (.int .i64 wr)) F d ⟨y.quota,y.fail,wr,y.lowest,y.pages⟩ sv ps:=
 h.turn wr y.lowest (by have:=Jk h.cells 2 (.int .i64 wr);simpa using this) (fun k D _=>Oa4 _ _ _ _ D) h.low h.full
theorem Jf1.longer {w w1:World}{F:Nat→Prop}{d:Nat}{D:DS}{sv sv':Value}{ps:List (Option Nat)}(h:Jf1 w F d D sv ps)(bj:∀ k,w.heap.size≤k→F k)(bh:Jo w1 0 246 sv' (ps.map Kew++[.pointer none]))
  (O:∀ k,k<w.heap.size→sv.ownBlock≠some k→w1.heap[k]?=w.heap[k]?) (y:sv'.ownBlock=sv.ownBlock∨∃ n,sv'.ownBlock=some n∧w.heap.size≤n) (bn:D.pages.length<900000) :
  Jf1 (w1.setCell ⟨d,5,none⟩ sv') F d ⟨D.quota,D.fail,D.writes,D.lowest,D.pages++[none]⟩ sv' (ps++[none]):=by
 have ba:=Jd h.cells;have R:∀ g,sv'.ownBlock=some g→g≠d:=by
  intro g H bc;rcases y with y|⟨n,y,hn⟩
  ·rw[y]at H;exact(h.ownF g H).2 bc
  rw[y]at H;cases H;omega
 have Z:w1.heap[d]?=some (.cells #[.int .i64 D.quota,.int .i64 D.fail,.int .i64 D.writes,.int .i64 ((Js D.pages:Nat):Int),.int .i64 ((D.lowest:Nat):Int),sv] 110 (0,0)):=by
  rw[O d ba (fun e=>(h.ownF d e).2 rfl)];exact h.cells
 have bi:Js (D.pages++[none])=Js D.pages:=by simp[Js,List.countP_append]
 refine⟨?_,?_,?_,h.dF,by simp[h.len],?_,?_,?_,?_,?_,by simp;omega⟩
 ·have:=Jk Z 5 sv';rw[bi];simpa using this
 ·have:(ps++[none]).map Kew=ps.map Kew++[.pointer none]:=by simp[Kew]
  rw[this];exact Yd bh fun g H=>Oa4 _ _ _ _ (R g H)
 ·intro g H;refine⟨?_,R g H⟩;rcases y with y|⟨n,y,hn⟩
  ·rw[y]at H;exact(h.ownF g H).1
  rw[y]at H;cases H;exact bj _ hn
 ·intro i b hi;rcases Oc1 i ps.length with E|E
  ·rw[Ob0 E]at hi;obtain⟨f,X,Y,p,hp,K⟩:=h.page i b hi;refine⟨f,X,?_,p,?_,?_⟩
   ·rcases y with y|⟨n,y,hn⟩
    ·rw[y];exact Y
    rw[y];intro e;have:=K.2.lt;cases e
    omega
   ·rw[Ob0 (by rw[←h.len];exact E)];exact hp
   refine K.of_block ?_;rw[Oa4 _ _ _ _ X];exact O b K.2.lt Y
  rw[Ob6 E]at hi;rcases hz:i-ps.length with _|z
  ·rw[hz]at hi;simp at hi
  rw[hz]at hi;simp at hi
 ·intro i hi;rcases Oc1 i ps.length with E|E
  ·rw[Ob0 E]at hi;rw[Ob0 (by rw[←h.len];exact E)];exact h.vacant i hi
  have:i=ps.length:=by
   rcases Oc1 i (ps.length+1)with h2|h2
   ·omega
   ·rw[Ob4 (by simp;omega)]at hi;simp at hi
  subst this;rw[h.len];simp
 ·intro i j b hi bf;have U:∀ i:Nat,(ps++[none])[i]?=some (some b)→ps[i]?=some (some b):=by
   intro i hi;rcases Oc1 i ps.length with E|E
   ·rwa [Ob0 E]at hi
   rw[Ob6 E]at hi;rcases hz:i-ps.length with _|z
   ·rw[hz]at hi;simp at hi
   rw[hz]at hi;simp at hi
  exact h.inj i j b (U i hi) (U j bf)
 ·simp;have:=h.low;omega
 intro i hi;obtain⟨p,hp⟩:=h.full i hi;refine⟨p,?_⟩;rw[Ob0]
 ·exact hp
 have:=h.low;simp at hi ⊢;omega
def Kb:List (Option (List UInt8))→Nat
 |[]=>0
 |none::_=>0
 |some _::l=>Kb l+1
theorem Jeu:∀ l,Kb l≤l.length
 |[]=>Oa2 _
 |none::_=>by simp[Kb]
 |some _::l=>by simp[Kb];exact Jeu l
theorem Kiv:∀ (l:List (Option (List UInt8)))(i:Nat),i<Kb l→∃ p,l[i]?=some (some p)
 |[],i,h=>by simp[Kb]at h
 |none::_,i,h=>by simp[Kb]at h
 |some x::l,0,_=>⟨x,rfl⟩
 |some x::l,i+1,h=>by
  obtain⟨p,hp⟩:=Kiv l i (by simp[Kb]at h;omega);exact⟨p,by simpa using hp⟩
theorem Jc3:∀ (l:List (Option (List UInt8))),Kb l<l.length→l[Kb l]?=some none
 |[],h=>by simp at h
 |none::_,_=>rfl
 |some x::l,h=>by simpa [Kb] using Jc3 l (by simp[Kb]at h;omega)
theorem Kjh (l:List (Option (List UInt8)))(k:Nat)(h:∀ i,i<k→∃ p,l[i]?=some (some p))(D:k≤l.length):k≤Kb l:=by
 rcases Oc1 (Kb l) k with y|y
 ·obtain⟨p,hp⟩:=h _ y;rw[Jc3 l (by omega)]at hp;simp at hp
 exact y
def Ki1 (y:DS):DS:=⟨y.quota,y.fail,y.writes,Kb y.pages,if Kb y.pages<y.pages.length then y.pages else y.pages++[none]⟩
theorem Jtc {l:List (Option (List UInt8))}{i:Nat}{p:List UInt8}(h:l[i]?=some (some p)):Jai l (i:Int)=true:=by
 have hi:i<l.length:=by
  rcases Oc1 i l.length with y|y
  ·exact y
  rw[Ob4 y]at h;simp at h
 unfold Jai;rw[Og5,decide_eq_true_eq,Oa0,show (Int.toNat (i:Int))=i from rfl,h];exact⟨by omega,rfl⟩
theorem Jsj (l:List (Option (List UInt8))):Jai l ((Kb l:Nat):Int)=false:=by
 unfold Jai;rw[Bool.and_eq_false_iff];rcases Oc1 (Kb l) l.length with y|y
 ·right;rw[Oa0,show (Int.toNat ((Kb l:Nat):Int))=Kb l from rfl,Jc3 l y];rfl
 left;simp;omega
theorem Kkj (d:Nat)(w:World)(F:Nat→Prop)(y:DS)(h:Zb w F d y)(bI:∀ k,w.heap.size≤k→F k)(br:y.pages.length<900000) :
  Calls prog 125 #[.pointer (some ⟨d,0,none⟩)] w fun e w'=>e=.returned (.int .i64 ((Kb y.pages:Nat):Int)) ∧
   Zb w' F d (Ki1 y)∧Ju F w w':=by
 obtain⟨sv,ps,h⟩:=h;go_enter func125,ntmps125
 go_wp2;go_loopw [8] (fun _ wr=>∃ k:Nat,k≤Kb y.pages∧Jf1 wr F d ⟨y.quota,y.fail,y.writes,k,y.pages⟩ sv ps∧Ju F w wr) (fun _ wr=>y.pages.length+1-(intOf ((wr.cell? ⟨d,4,none⟩).getD undef)).toNat)
 case atStart=>exact⟨y.lowest,Kjh _ _ h.full h.low,h,Ju.refl _ _⟩
 case round=>
  obtain⟨k,K,D,Y⟩:=hrel;have bj:=Jeu y.pages;obtain⟨_,_,_,_,c4,c5⟩:=D.field;have bB:=D.thaw 4;have bC:=D.thaw 5;have H:=Jwv d (k:Int) wr F _ ⟨sv,ps,D⟩;by_cases bn:k<Kb y.pages
  ·obtain⟨p,hp⟩:=Kiv _ _ bn;rw[Jtc hp]at H;have bJ:=D.setLow (k+1) (by show k+1≤y.pages.length;omega) (fun i hi=>Kiv y.pages i (by omega));have bH:=Y.set D.dF 4 (.int .i64 ((k+1:Nat):Int));clear hp;go_wp2_with (go_at_call 127;refine H.mono ?_;rintro e w' ⟨rfl,bz⟩;subst w')
   go_roundw
   case rel=>exact⟨k+1,by omega,by simpa using bJ,by simpa using bH⟩
   case measure=>
    simp only[World.cell?_setCell_same _ _ _ c4,c4,Option.getD_some,intOf];omega
  obtain rfl:k=Kb y.pages:=by omega
  rw[Jsj]at H;obtain⟨a,cap,rfl,bG⟩:=D.list;have ba:Hid (ps.length=y.pages.length):=D.len;have bA:Hid (Jo wr 0 246 (.slice a ps.length cap) (ps.map Kew)):=D.own;obtain⟨U,O⟩:∃ U,Hid (Kb y.pages=U):=⟨_,rfl⟩;rw[O.out]at H c4;clear bG bB K bn;by_cases X:Kb y.pages<y.pages.length
  ·have Z:Hid (Ki1 y=⟨y.quota,y.fail,y.writes,Kb y.pages,y.pages⟩):=by show Ki1 y=_;rw[Ki1,if_pos X]
   have bE:(((U:Nat):Int)==((ps.length:Nat):Int))=false:=by have:=ba.out;have:=O.out;rw[beq_eq_false_iff_ne];omega
   have R:Hid (Jf1 wr F d ⟨y.quota,y.fail,y.writes,Kb y.pages,y.pages⟩ (.slice a ps.length cap) ps):=D;clear X bj br D;go_wp2_with (go_at_call 127;refine H.mono ?_;rintro e w' ⟨rfl,bz⟩;subst w')
   go_quiet (fail)
   go_wp2;go_ret
   refine⟨Yp (by rw[O.out]),?_,Y.drewN _⟩;rw[Z.out];exact⟨_,ps,R.out.below (Jp (Oa5 _ _) _)⟩
  have Z:Hid (Ki1 y=⟨y.quota,y.fail,y.writes,Kb y.pages,y.pages++[none]⟩):=by show Ki1 y=_;rw[Ki1,if_neg X]
  have bE:(((U:Nat):Int)==((ps.length:Nat):Int))=true:=by have:=ba.out;have:=O.out;rw[beq_iff_eq];omega
  have bM:ps.length+1≤1000000:=by have:=ba.out;omega
  have R:Hid (Jf1 wr F d ⟨y.quota,y.fail,y.writes,Kb y.pages,y.pages⟩ (.slice a ps.length cap) ps):=D;have hn:(Value.slice a ps.length cap).ownBlock≠some d:=fun e=>(D.ownF d e).2 rfl;have bc:=Jd D.cells;have bN:=Y.size;clear X bj D;go_wp2_with (go_at_call 127;refine H.mono ?_;rintro e w' ⟨rfl,bz⟩;subst w')
  go_quiet (fail)
  go_wp2_with (at_builtin;go_must (refine Ks (by rfl) _ _ 108 246 _ 8 Kji (by rfl) (by decide) (by kernel_rfl) (by rfl) 0 _ _ (by rfl) (Jo.alloc (w:=wr.drewN nq) bA.out _) ⟨wr.heap.size,0,none⟩ 1 [.pointer none] (by rfl) (by exact Ua (wr.drewN nq) _ _) (by intro u bx;simp at bx;subst bx;rfl) (by simp only[List.length_cons,List.length_nil,Oa6];omega) (by simp) ?_);intro sv' w1 bh E bD;obtain⟨bK,bL,rfl,_⟩:=bh.cells;have bP:w1.cell? ⟨d,5,none⟩=some (.slice a ps.length cap):=(by rw[E.cell_far _ (by simp;omega) (Oc5 hn)];exact(Jnf (wr.drewN nq) _ d 5 bc).trans c5);have bQ:w1.frozen? ⟨d,5,none⟩=false:=(by rw[E.frozen_far _ (by simp;omega) (Oc5 hn)];exact(Jh9 (wr.drewN nq) _ d 5 bc).trans bC);have bO:w1.cell? ⟨d,4,none⟩=some (.int .i64 ((U:Nat):Int)):=(by rw[E.cell_far _ (by simp;omega) (Oc5 hn)];exact(Jnf (wr.drewN nq) _ d 4 bc).trans c4))
  go_ret
  have bi:∀ k,k<wr.heap.size→(Value.slice a ps.length cap).ownBlock≠some k→w1.heap[k]?=wr.heap[k]?:=fun k K bf=>(E.block k (by simp;omega) (Oc5 bf)).trans (Oa9 (wr.drewN nq) _ k K);have hl:=R.out.longer (fun k K=>bI k (by omega)) bh bi (bD.imp id fun e=>⟨_,e,by simp⟩) br;simp only[Oa8,Oa6,List.length_cons,List.length_nil]at hl;refine⟨Yp (by rw[O.out]),?_,?_⟩
  ·rw[Z.out];exact⟨_,_,hl⟩
  refine Ju.set ?_ R.out.dF 5 _;refine Y.trans ⟨E.os,E.tape,E.output,Ob2 (by simp) E.size,fun k K bf=>bi k K fun e=>bf (R.out.ownF k e).1⟩
end
section
open Go.RowKit Tryz
theorem Jf1.drewN {w:World}{F:Nat→Prop}{d:Nat}{y:DS}{sv:Value}{ps:List (Option Nat)}(h:Jf1 w F d y sv ps)(n:Nat):Jf1 (w.drewN n) F d y sv ps:=h.below (Jp (Oa5 _ _) _)
theorem Jwl (w:World)(q:Addr)(p:Int):Yu (w.alloc (.cells #[.iface 433 (.pointer (some q)),.int .i64 p] 160)) (.iface 157 (.pointer (some ⟨w.heap.size,0,none⟩))) q none (some p):=
 .disk _ _ _ (by simp) (by simp)
theorem Kjc (d:Nat)(s:ByteArray)(w:World)(F:Nat→Prop)(y:DS)(h:Zb w F d y)(q:Addr)(H:w.cell? ⟨6,0,none⟩=some (.iface 433 (.pointer (some q))))(E:y.quota≤((Js y.pages:Nat):Int)) :
  Calls prog 93 #[.pointer (some ⟨d,0,none⟩),.string s] w fun e w'=>Below w.heap.size w w'∧∃ b,e=.returned (.tuple #[.int .i64 0,.iface 157 (.pointer (some ⟨b,0,none⟩))])∧w.heap.size≤b∧Yu w' (.iface 157 (.pointer (some ⟨b,0,none⟩))) q none (some (-1)):=by
 obtain⟨sv,ps,h⟩:=h;obtain⟨c0,_,_,c3,_,_⟩:=h.field;clear h;go_enter func93,ntmps93
 go_wp2_with fail
 go_quiet (fail)
 go_wp2_with fail
 go_region
 go_wp2;go_ret2
 have D:Below w.heap.size w ((w.drewN (nq+1)).alloc (.cells #[.iface 433 (.pointer (some q)),.int .i64 (-1)] 160)):=(Jp (Oa5 _ w) _).alloc (Oa2 _) _;exact⟨D,_,rfl,Oa2 _,Jwl (w.drewN (nq+1)) q (-1)⟩
def Jvn (y:DS):DS:=⟨y.quota,y.fail,wrap64 (y.writes+1),y.lowest,y.pages⟩
theorem Kj0 (d:Nat)(s:ByteArray)(w:World)(F:Nat→Prop)(y:DS)(h:Zb w F d y)(q:Addr)(R:w.cell? ⟨7,0,none⟩=some (.iface 433 (.pointer (some q))))(bc:¬ y.quota≤((Js y.pages:Nat):Int))(K:wrap64 (y.writes+1)=y.fail) :
  Calls prog 93 #[.pointer (some ⟨d,0,none⟩),.string s] w fun e w'=>Ju F w w'∧Zb w' F d (Jvn y)∧∃ b,e=.returned (.tuple #[.int .i64 0,.iface 157 (.pointer (some ⟨b,0,none⟩))])∧w.heap.size≤b∧Yu w' (.iface 157 (.pointer (some ⟨b,0,none⟩))) q none (some (-1)):=by
 obtain⟨sv,ps,h⟩:=h;obtain⟨c0,c1,c2,c3,_,_⟩:=h.field;have Y:=h.thaw 2;have D:Hid (Jf1 w F d y sv ps):=h;have E:Hid (wrap64 (y.writes+1)=y.fail):=K;clear K h;go_enter func93,ntmps93
 go_wp2_with fail
 go_quiet (fail)
 go_upto_region 4 with fail
 have U:=(D.out.drewN nq).setWrites (wrap64 (y.writes+1));have ba:(wrap64 (y.writes+1)==y.fail)=true:=by rw[beq_iff_eq];exact E.out
 have X:Hid (Jvn y=⟨y.quota,y.fail,wrap64 (y.writes+1),y.lowest,y.pages⟩):=rfl;have O:Ju F w ((w.drewN nq).setCell ⟨d,2,none⟩ (.int .i64 (wrap64 (y.writes+1)))):=((Ju.refl F w).drewN nq).set D.out.dF 2 _;have bf:((w.drewN nq).setCell ⟨d,2,none⟩ (.int .i64 (wrap64 (y.writes+1)))).cell? ⟨7,0,none⟩=some (.iface 433 (.pointer (some q))):=by
  rw[Ob5 _ _ _ _ (by simp)];exact R
 clear E c0 c1 c2 c3 Y D R;generalize wrap64 (y.writes+1)=Z at *;obtain⟨_,c1,c2,_,_,_⟩:=U.field;generalize (w.drewN nq).setCell ⟨d,2,none⟩ (.int .i64 Z)=W at *;simp only at c1 c2;go_quiet (fail)
 go_wp2_with fail
 go_region
 go_wp2;go_ret2
 have H:Below W.heap.size W ((W.drewN (nq+1)).alloc (.cells #[.iface 433 (.pointer (some q)),.int .i64 (-1)] 160)):=(Jp (Oa5 _ W) _).alloc (Oa2 _) _;refine⟨O.trans (.of_below H),?_,_,rfl,O.size,Jwl (W.drewN (nq+1)) q (-1)⟩;rw[X.out];exact⟨_,_,U.below H⟩
theorem Jl5:∀ (l:List (Option (List UInt8)))(i:Nat)(p:List UInt8),l[i]?=some none→Js (l.set i (some p))=Js l+1
 |[],i,_,h=>by simp at h
 |x::l,0,p,h=>by
  simp at h;subst h;simp[Js]
 |x::l,i+1,p,h=>by
  have:=Jl5 l i p (by simpa using h);simp only[Js,List.set_cons_succ,On3]at this ⊢;omega
theorem Jii:∀ (l:List (Option (List UInt8)))(i:Nat)(p:List UInt8),l[i]?=some (some p)→Js (l.set i none)+1=Js l
 |[],i,_,h=>by simp at h
 |x::l,0,p,h=>by
  simp at h;subst h;simp[Js]
 |x::l,i+1,p,h=>by
  have:=Jii l i p (by simpa using h);simp only[Js,List.set_cons_succ,On3]at this ⊢;omega
theorem Kka {w:World}{B:Nat}{e:TypeId}{sv:Value}{xs:List Value}{g:Nat}(h:Jo w B e sv xs)(y:sv.ownBlock=some g)(i:Nat)(hi:i<xs.length)(v:Value):Jo (w.setCell ⟨g,i,none⟩ v) B e sv (xs.set i v):=by
 refine⟨by simp,?_⟩;rcases h.2 with⟨D,h0⟩|⟨H,cap,E,D,K,O,U,X,Y,R⟩
 ·omega
 subst D;simp[Value.ownBlock]at y;subst y;refine .inr ⟨H,cap,E.setIfInBounds i v,by simp,K,Jk O i v,by simpa using U,X,by simpa using Y,?_⟩;rw[Of8,Ok0,List.take_set,R]
theorem Jf1.put {w:World}{F:Nat→Prop}{d:Nat}{D:DS}{sv:Value}{ps:List (Option Nat)}(h:Jf1 w F d D sv ps){g:Nat}(K:sv.ownBlock=some g)(i:Nat)(hi:D.pages[i]?=some none)(b:Nat)(p:List UInt8)(hp:Jdp w b p)(hF:F b)(ba:b≠d)(bc:b≠g)(bi:∀ j:Nat,ps[j]?≠some (some b)) :
  Jf1 ((w.setCell ⟨g,i,none⟩ (.pointer (some ⟨b,0,none⟩))).setCell ⟨d,3,none⟩ (.int .i64 ((Js D.pages+1:Nat):Int))) F d ⟨D.quota,D.fail,D.writes,D.lowest,D.pages.set i (some p)⟩ sv (ps.set i (some b)):=by
 have X:i<D.pages.length:=by
  rcases Oc1 i D.pages.length with U|U
  ·exact U
  rw[Ob4 U]at hi;simp at hi
 have O:i<ps.length:=by rw[h.len];exact X
 have bh:=(h.ownF g K).2;have bA:(w.setCell ⟨g,i,none⟩ (.pointer (some ⟨b,0,none⟩))).heap[d]?=some (.cells #[.int .i64 D.quota,.int .i64 D.fail,.int .i64 D.writes,.int .i64 ((Js D.pages:Nat):Int),.int .i64 ((D.lowest:Nat):Int),sv] 110 (0,0)):=by
  rw[Oa4 _ _ _ _ (show d≠g from Oc5 bh)];exact h.cells
 have bj:∀ k,k≠g→k≠d→((w.setCell ⟨g,i,none⟩ (.pointer (some ⟨b,0,none⟩))).setCell ⟨d,3,none⟩ (.int .i64 ((Js D.pages+1:Nat):Int))).heap[k]?=w.heap[k]?:=fun k bx bz=>by
  rw[Oa4 _ _ _ _ bz,Oa4 _ _ _ _ bx]
 refine⟨?_,?_,h.ownF,h.dF,by simp[h.len],?_,?_,?_,by simpa using h.low,?_,by simpa using h.small⟩
 ·have:=Jk bA 3 (.int .i64 ((Js D.pages+1:Nat):Int));rw[Jl5 _ _ _ hi];simpa using this
 ·rw[Op0];refine Yd (Kka h.own K i (by simpa using O) _) fun bC bf=>?_;rw[K]at bf;cases bf
  exact Oa4 _ _ _ _ bh
 ·intro j c y;by_cases E:j=i
  ·subst E;rw[Oh0 O]at y;simp at y;subst y;exact⟨hF,ba,by rw[K];intro e;cases e;exact bc rfl,p,by simp[X],hp.of_block (bj b bc ba)⟩
  rw[Od1 (Oc5 E)]at y;obtain⟨f,bn,br,Z,Y,bB⟩:=h.page j c y;refine⟨f,bn,br,Z,by rw[Od1 (Oc5 E)];exact Y,bB.of_block (bj c (fun e=>br (by rw[K,e])) bn)⟩
 ·intro j y;by_cases E:j=i
  ·subst E;rw[Oh0 O]at y;simp at y
  rw[Od1 (Oc5 E)]at y ⊢;exact h.vacant j y
 ·intro j k c y H;by_cases E:j=i
  ·subst E;rw[Oh0 O]at y;simp at y;subst y;by_cases R:k=j
   ·exact R.symm
   rw[Od1 (Oc5 R)]at H;exact absurd H (bi k)
  rw[Od1 (Oc5 E)]at y;by_cases R:k=i
  ·subst R;rw[Oh0 O]at H;simp at H;subst H;exact absurd y (bi j)
  rw[Od1 (Oc5 R)]at H;exact h.inj j k c y H
 intro j y;by_cases E:j=i
 ·subst E;exact⟨p,by simp[X]⟩
 obtain⟨Z,Y⟩:=h.full j y;exact⟨Z,by rw[Od1 (Oc5 E)];exact Y⟩
def Zn (y:DS)(D:List UInt8):DS:=⟨y.quota,y.fail,wrap64 (y.writes+1),Kb y.pages,(if Kb y.pages<y.pages.length then y.pages else y.pages++[none]).set (Kb y.pages) (some (Jdm D))⟩
theorem Jsk (l:List (Option (List UInt8))):(if Kb l<l.length then l else l++[none])[Kb l]?=some none:=by
 by_cases h:Kb l<l.length
 ·rw[if_pos h];exact Jc3 l h
 rw[if_neg h];have:=Jeu l;have:Kb l=l.length:=by omega
 rw[this];simp
theorem Kjt (d:Nat)(H:List UInt8)(cb:H.length≤56)(w:World)(F:Nat→Prop)(y:DS)(h:Zb w F d y)(cf:y.pages.length<900000)(cC:¬ y.quota≤((Js y.pages:Nat):Int))(bH:¬ wrap64 (y.writes+1)=y.fail) :
  Calls prog 93 #[.pointer (some ⟨d,0,none⟩),.string (Qw H)] w fun e w'=>Ju F w w'∧Zb w' (up F w) d (Zn y H)∧e=.returned (.tuple #[.int .i64 ((Kb y.pages:Nat):Int),.nilIface]):=by
 obtain⟨sv,ps,h⟩:=h;obtain⟨c0,c1,c2,c3,_,_⟩:=h.field;have bR:=h.thaw 2;have bc:Hid (Jf1 w F d y sv ps):=h;have bA:Hid (¬ wrap64 (y.writes+1)=y.fail):=bH;clear bH h;go_enter func93,ntmps93
 go_wp2_with fail
 go_quiet (fail)
 go_upto_region 4 with fail
 have bn:=(bc.out.drewN nq).setWrites (wrap64 (y.writes+1));have cA:(wrap64 (y.writes+1)==y.fail)=false:=by rw[beq_eq_false_iff_ne];exact bA.out
 have bx:Hid (Zn y H=⟨y.quota,y.fail,wrap64 (y.writes+1),Kb y.pages,(if Kb y.pages<y.pages.length then y.pages else y.pages++[none]).set (Kb y.pages) (some (Jdm H))⟩):=rfl;have bi:Ju (up F w) w ((w.drewN nq).setCell ⟨d,2,none⟩ (.int .i64 (wrap64 (y.writes+1)))):=((Ju.refl _ w).drewN nq).set (.inl bc.out.dF) 2 _;have ci:((w.drewN nq).setCell ⟨d,2,none⟩ (.int .i64 (wrap64 (y.writes+1)))).heap.size=w.heap.size:=by simp[World.setCell]
 clear bA c0 c1 c2 c3 bR bc;generalize wrap64 (y.writes+1)=cn at *;obtain⟨_,c1,c2,_,_,_⟩:=bn.field;generalize (w.drewN nq).setCell ⟨d,2,none⟩ (.int .i64 cn)=W at *;simp only at c1 c2;have cj:=bn.mono (G:=up F w) (fun k _ hf=>.inl hf);clear bn;go_quiet (fail)
 go_wp2_with fail
 refine(Kkj d (W.drewN nq) (up F w) _ ⟨_,_,cj.drewN nq⟩ (fun k bi=>.inr (by simpa [ci] using bi)) cf).mono ?_;rintro e K ⟨rfl,⟨cE,R,E⟩,bK⟩;have bJ:=bi.trans (Ju.trans ((Ju.refl _ W).drewN nq) bK);have O:=Jsk y.pages;have ba:Hid (Kb y.pages<(if Kb y.pages<y.pages.length then y.pages else y.pages++[none]).length):=by
  rcases Oc1 (Kb y.pages) (if Kb y.pages<y.pages.length then y.pages else y.pages++[none]).length with bf|bf
  ·exact bf
  rw[Ob4 bf]at O;simp at O
 simp only[Ki1]at E;generalize (if Kb y.pages<y.pages.length then y.pages else y.pages++[none])=Y at *;obtain⟨D,bz⟩:∃ D,Hid (Kb y.pages=D):=⟨_,rfl⟩;rw[bz.out]at E bx O ba ⊢;obtain⟨_,_,_,c3,_,c5⟩:=E.field;obtain⟨cv,cy,rfl,bG⟩:=E.list;have X:=E.len;simp only at X c3;have bI:D<R.length:=by rw[X];exact ba.out
 obtain⟨g,rfl,bV,bX,cg,bT⟩:=bG D bI;have bM:R[D]=none:=by
  cases bj:R[D]with
  |none=>rfl
  |some b=>
   obtain⟨_,_,_,p,hp,_⟩:=E.page D b (by rw[←bj];simp[bI]);rw[O]at hp;simp at hp
 rw[bM]at cg;simp only[Kew]at cg;have cu:Hid (R.length=Y.length):=X;have cB:(D:Int)<(R.length:Int):=by omega
 have bS:=E.thaw 3;have bW:=bJ.size;have bh:=Jm cg;have U:=Jm c5;simp only at bh U;have cD:=Kad Y;have ch:=E.small;simp only at ch;clear bG X bM ba bK;go_wp2_with fail
 have bN:=Kkp H cb K.drew;go_region_with (first|(go_at_call 126;refine bN.mono ?_;rintro e Z ⟨rfl,ca,bD⟩;obtain⟨kk,br⟩:=Kx bD;have bP:=(kk d 5 U).trans c5;have bQ:=(kk g D bh).trans cg;have bU:=(br g D bh).trans bT;have bB:=(kk d 3 U).trans c3;have bC:=(br d 3 U).trans bS))
 all_goals
  have bE:=Jw bD;have bO:=E.below bE;have cc:=bO.put (g:=g) rfl D O K.heap.size (Jdm H) ca (.inr bW) (by omega) (by omega) (fun j bY=>by obtain⟨_,_,_,p,_,bj⟩:=E.page j _ bY;exact absurd bj.2.lt (Oe3 _));have bL:Ju (up F w) w (Z.setCell ⟨g,D,none⟩ (.pointer (some ⟨K.heap.size,0,none⟩))):=(bJ.trans (.of_below bE)).set bV D _;have bZ:=bL.set (E.dF) 3 (.int .i64 ((Js Y+1:Nat):Int));have cx:(Z.setCell ⟨g,D,none⟩ (.pointer (some ⟨K.heap.size,0,none⟩))).cell? ⟨d,3,none⟩=some (.int .i64 ((Js Y:Nat):Int)):=by rw[Ob5 _ _ _ _ (by first|(simp;done)|(simp;intro e;exact absurd e.symm bX))];exact bB
  have cz:(Z.setCell ⟨g,D,none⟩ (.pointer (some ⟨K.heap.size,0,none⟩))).frozen? ⟨d,3,none⟩=false:=by rw[On9];exact bC
  clear bB bC bQ bU bP kk br bN bO bL;generalize Z.setCell ⟨g,D,none⟩ (.pointer (some ⟨K.heap.size,0,none⟩))=cF at *;go_wp2;go_ret2
  refine⟨Ju.down (by simpa using bZ),?_,by rw[bz.out];rfl⟩;rw[bx.out];exact⟨_,_,by simpa using cc⟩
end
section
open Go.RowKit Tryz
def nv (n:Nat):Value:=.int .i64 (n:Int)
theorem Ki8 (l:List (Option (List UInt8)))(i:Nat)(p:List UInt8)(h:l[i]?=some (some p)):((Js l:Nat):Int)-1=((Js (l.set i none):Nat):Int):=by
 have:=Jii l i p h;omega
theorem Jf1.drop {w:World}{F:Nat→Prop}{d:Nat}{y:DS}{sv:Value}{ps:List (Option Nat)}(h:Jf1 w F d y sv ps){g:Nat}(H:sv.ownBlock=some g)(i:Nat)(p:List UInt8)(hi:y.pages[i]?=some (some p)) :
  Jf1 (((w.setCell ⟨g,i,none⟩ (.pointer none)).setCell ⟨d,3,none⟩ (.int .i64 ((Js (y.pages.set i none):Nat):Int))).setCell ⟨d,4,none⟩ (.int .i64 ((min y.lowest i:Nat):Int))) F d ⟨y.quota,y.fail,y.writes,min y.lowest i,y.pages.set i none⟩ sv (ps.set i none):=by
 have ba:i<y.pages.length:=by
  rcases Oc1 i y.pages.length with K|K
  ·exact K
  rw[Ob4 K]at hi;simp at hi
 have R:i<ps.length:=by rw[h.len];exact ba
 have O:=(h.ownF g H).2;have bj:(w.setCell ⟨g,i,none⟩ (.pointer none)).heap[d]?=some (.cells #[.int .i64 y.quota,.int .i64 y.fail,.int .i64 y.writes,.int .i64 ((Js y.pages:Nat):Int),.int .i64 ((y.lowest:Nat):Int),sv] 110 (0,0)):=by
  rw[Oa4 _ _ _ _ (show d≠g from Oc5 O)];exact h.cells
 have br:∀ k,k≠g→k≠d→(((w.setCell ⟨g,i,none⟩ (.pointer none)).setCell ⟨d,3,none⟩ (.int .i64 ((Js (y.pages.set i none):Nat):Int))).setCell ⟨d,4,none⟩ (.int .i64 ((min y.lowest i:Nat):Int))).heap[k]?=w.heap[k]?:=fun k bi Y=>by
  rw[Oa4 _ _ _ _ Y,Oa4 _ _ _ _ Y,Oa4 _ _ _ _ bi]
 refine⟨?_,?_,h.ownF,h.dF,by simp[h.len],?_,?_,?_,?_,?_,by simpa using h.small⟩
 ·have:=Jk (Jk bj 3 (.int .i64 ((Js (y.pages.set i none):Nat):Int))) 4 (.int .i64 ((min y.lowest i:Nat):Int));simpa using this
 ·rw[Op0];refine Yd (Kka h.own H i (by simpa using R) _) fun bz Z=>?_;rw[H]at Z;cases Z
  rw[Oa4 _ _ _ _ O,Oa4 _ _ _ _ O];rfl
 ·intro j c D;by_cases E:j=i
  ·subst E;rw[Oh0 R]at D;simp at D
  rw[Od1 (Oc5 E)]at D;obtain⟨f,bf,bh,X,U,bx⟩:=h.page j c D;refine⟨f,bf,bh,X,by rw[Od1 (Oc5 E)];exact U,bx.of_block (br c (fun e=>bh (by rw[H,e])) bf)⟩
 ·intro j D;by_cases E:j=i
  ·subst E;simp[ba]
  rw[Od1 (Oc5 E)]at D ⊢;exact h.vacant j D
 ·intro j k c D bn;have bc:∀ j:Nat,(ps.set i none)[j]?=some (some c)→ps[j]?=some (some c):=by
   intro j D;by_cases E:j=i
   ·subst E;rw[Oh0 R]at D;simp at D
   rwa [Od1 (Oc5 E)]at D
  exact h.inj j k c (bc j D) (bc k bn)
 ·have:=h.low;simp;omega
 intro j D;simp only at D;obtain⟨X,U⟩:=h.full j (by omega);refine⟨X,?_⟩;rw[Od1 (by omega)];exact U
def Jae (y:DS)(i:Nat):DS:=if Jai y.pages (i:Int)=true then ⟨y.quota,y.fail,y.writes,min y.lowest i,y.pages.set i none⟩else y
def Jf4 (y:DS)(l:List Nat):DS:=l.foldl Jae y
theorem Kkf (y:DS)(l:List Nat)(i:Nat):Jf4 y (l++[i])=Jae (Jf4 y l) i:=by simp[Jf4]
theorem Jf3 {l:List (Option (List UInt8))}{i:Nat}(h:Jai l (i:Int)=true):∃ p,l[i]?=some (some p):=by
 unfold Jai at h;rw[Og5,decide_eq_true_eq,Oa0,show (Int.toNat (i:Int))=i from rfl]at h;cases hq:l[i]? with
 |none=>rw[hq]at h;simp at h
 |some x=>
  rw[hq]at h;cases x with
  |none=>simp at h
  |some p=>exact⟨p,rfl⟩
theorem Ki0 (d:Nat)(a:Option Addr)(cap:Nat)(l:List Nat)(w:World)(F:Nat→Prop)(E:DS)(h:Zb w F d E)(hl:Uh w a (l.map nv))(bx:∀ b o,a=some ⟨b,o,none⟩→¬ F b)(bN:l.length≤1000000) :
  Calls prog 94 #[.pointer (some ⟨d,0,none⟩),.slice a l.length cap] w fun e w'=>e=.returned (.tuple #[])∧Zb w' F d (Jf4 E l)∧Ju F w w':=by
 go_enter func94,ntmps94
 go_wp2;go_loopw [8] (fun i wr=>∃ k:Nat,k≤l.length∧i=.int .i64 k∧Zb wr F d (Jf4 E (l.take k))∧Ju F w wr) (fun i _=>l.length-(intOf i).toNat)
 case atStart=>exact⟨0,Ob7 _,rfl,by simpa [Jf4] using h,Ju.refl _ _⟩
 case round=>
  rename_i i
  obtain⟨k,bJ,rfl,K,R⟩:=hrel;by_cases Y:k<l.length
  ·have Z:Hid (Jf4 E (l.take (k+1))=Jae (Jf4 E (l.take k)) l[k]):=by
    show Jf4 E (l.take (k+1))=_;rw[Oc4 Y,Kkf]
   rcases hl with hl|⟨b,o,rfl,bI,hl⟩
   ·simp at hl;subst hl;simp at Y
   have bj:wr.cell? ⟨b,o+k,none⟩=some (.int .i64 ((l[k]:Nat):Int)):=R.cell (hl k _ (by simp[Y];rfl)) (bx b o rfl);generalize l[k]=pg at *;generalize Jf4 E (l.take k)=y at *;have O:=Jwv d (pg:Int) wr F y K;obtain⟨sv,ps,D⟩:=K;by_cases H:Jai y.pages (pg:Int)=true
   ·have U:Hid (Jae y pg=⟨y.quota,y.fail,y.writes,min y.lowest pg,y.pages.set pg none⟩):=by show Jae y pg=_;rw[Jae,if_pos H]
    obtain⟨p,hp⟩:=Jf3 H;rw[H]at O;obtain⟨_,_,_,c3,c4,c5⟩:=D.field;have ba:=D.thaw 3;have bc:=D.thaw 4;obtain⟨bD,bE,rfl,bf⟩:=D.list;have bA:pg<ps.length:=by
     rw[D.len];rcases Oc1 pg y.pages.length with X|X
     ·exact X
     rw[Ob4 X]at hp;simp at hp
    obtain⟨g,rfl,br,bh,cg,bn⟩:=bf pg bA;have bB:=D.drop (g:=g) rfl pg p hp;have bQ:=Ki8 y.pages pg p hp;have bO:=Kad y.pages;have bM:=D.small;have bL:(pg:Int)<(ps.length:Int):=(by omega);have bz:Ju F w (((wr.setCell ⟨g,pg,none⟩ (.pointer none)).setCell ⟨d,3,none⟩ (.int .i64 ((Js (y.pages.set pg none):Nat):Int))).setCell ⟨d,4,none⟩ (.int .i64 ((min y.lowest pg:Nat):Int))):=((R.set br pg _).set D.dF 3 _).set D.dF 4 _;have bR:(wr.setCell ⟨g,pg,none⟩ (.pointer none)).cell? ⟨d,3,none⟩=some (.int .i64 ((Js y.pages:Nat):Int)):=by rw[Ob5 _ _ _ _ (by first|(simp;done)|(simp;intro e;exact absurd e.symm bh))];exact c3
    have bS:(wr.setCell ⟨g,pg,none⟩ (.pointer none)).cell? ⟨d,4,none⟩=some (.int .i64 ((y.lowest:Nat):Int)):=by rw[Ob5 _ _ _ _ (by first|(simp;done)|(simp;intro e;exact absurd e.symm bh))];exact c4
    have bG:(wr.setCell ⟨g,pg,none⟩ (.pointer none)).frozen? ⟨d,3,none⟩=false:=by rw[On9];exact ba
    have bH:(wr.setCell ⟨g,pg,none⟩ (.pointer none)).frozen? ⟨d,4,none⟩=false:=by rw[On9];exact bc
    have bK:=D.low;have bP:(1:Int)≤((Js y.pages:Nat):Int):=(by omega);clear bf D c3 c4 ba bc hp H;go_upto_region 5 with(go_at_call 127;refine O.mono ?_;rintro e w' ⟨rfl,bC⟩;subst w')
    clear cg bn bj c5;generalize wr.setCell ⟨g,pg,none⟩ (.pointer none)=w1 at *;go_wp2;go_roundw
    case rel=>
     have bi:(if pg<y.lowest then ((pg:Nat):Int)else ((y.lowest:Nat):Int))=((min y.lowest pg:Nat):Int):=by split<;>omega
     exact⟨k+1,by omega,by go_num,by rw[Z.out,U.out,bi];exact⟨_,_,bB⟩,by rw[bi];exact bz⟩
    case measure=>simp[intOf];omega
   have U:Hid (Jae y pg=y):=by show Jae y pg=_;rw[Jae,if_neg H]
   rw[Oo1]at H;rw[H]at O;go_wp2_with (go_at_call 127;refine O.mono ?_;rintro e w' ⟨rfl,bC⟩;subst w')
   go_roundw
   case rel=>exact⟨k+1,by omega,by go_num,by rw[Z.out,U.out];exact⟨_,_,D⟩,R⟩
   case measure=>simp[intOf];omega
  obtain rfl:k=l.length:=by omega
  rw[Of2]at K;go_wp2;go_end0
  exact⟨rfl,K,R⟩
end
section
open Go.RowKit Tryz
def Jb5:Nat→List UInt8→List (List UInt8)
 |0,_=>[]
 |_+1,[]=>[]
 |n+1,b::t=>(b::t).take 56::Jb5 n ((b::t).drop 56)
def Qu (t:List UInt8):List (List UInt8):=Jb5 t.length t
theorem Jl2:∀ (n m:Nat)(t:List UInt8),t.length≤n→t.length≤m→Jb5 n t=Jb5 m t
 |0,m,[],_,_=>by cases m<;>rfl
 |0,m,b::t,h,_=>by simp at h
 |n+1,0,[],_,_=>rfl
 |n+1,0,b::t,_,h=>by simp at h
 |n+1,m+1,[],_,_=>rfl
 |n+1,m+1,b::t,h,k=>by
  simp only[Jb5];rw[Jl2 n m ((b::t).drop 56) (by simp at h ⊢;omega) (by simp at k ⊢;omega)]
theorem Kj2:Qu []=[]:=rfl
theorem Jr2 (t:List UInt8)(h:t≠[]):Qu t=t.take 56::Qu (t.drop 56):=by
 cases t with
 |nil=>exact absurd rfl h
 |cons b t=>
  unfold Qu;simp only[List.length_cons,Jb5];rw[Jl2 _ ((b::t).drop 56).length _ (by simp) (Oa2 _)]
def Uy (y:DS):List (List UInt8)→DS×List Nat×Option Bool
 |[]=>(y,[],none)
 |p::ps=>if y.quota≤((Js y.pages:Nat):Int)then (y,[],some true)else if wrap64 (y.writes+1)=y.fail then (Jvn y,[],some false)else
   ((Uy (Zn y p) ps).1,Kb y.pages::(Uy (Zn y p) ps).2.1,(Uy (Zn y p) ps).2.2)
def Kiw (l:List Nat)(r:DS×List Nat×Option Bool):DS×List Nat×Option Bool:=(r.1,l++r.2.1,r.2.2)
theorem Kjp (l:List Nat)(y:DS)(p:List UInt8)(ps:List (List UInt8))(D:¬ y.quota≤((Js y.pages:Nat):Int))(E:¬ wrap64 (y.writes+1)=y.fail) :
  Kiw l (Uy y (p::ps))=Kiw (l++[Kb y.pages]) (Uy (Zn y p) ps):=by
 simp[Kiw,Uy,D,E]
theorem Zw:(prog.info? 3).map (fun i=>(i.zero,i.size,i.bytes))=some (some (.int .i64 0),1,8):=by kernel_rfl
theorem Jxm (y:DS)(p:List UInt8):(Zn y p).pages.length≤y.pages.length+1:=by
 simp only[Zn];split<;>simp
def Kky:Value→Nat
 |.string s=>s.size
 |_=>0
theorem Kkb (bs:List UInt8)(i j:Nat):(Qw bs).extract i j=Qw ((bs.take j).drop i):=by
 unfold Qw;rw[Om5];simp[List.extract_eq_take_drop,List.drop_take]
def cap (F:Nat→Prop)(w:World):Nat→Prop:=fun k=>F k∧k<w.heap.size
theorem Zb.cap {w:World}{F:Nat→Prop}{d:Nat}{y:DS}(h:Zb w F d y):Zb w (cap F w) d y:=h.mono fun _ D hf=>⟨hf,D⟩
structure Kiy (w0:World) (F0:Nat→Prop) (w:World) (d:Nat) (E:DS) (sv:Value) (l:List Nat) (FD:Nat→Prop):Prop where
 disk:Zb w FD d E
 from_:∀ k,FD k→F0 k∨w0.heap.size≤k
 lt:∀ k,FD k→k<w.heap.size
 own:Jo w w0.heap.size 3 sv (l.map nv)
 apart:∀ g,sv.ownBlock=some g→¬ FD g
 keep:Ju F0 w0 w
def Kjn (y:DS):DS×Bool:=if y.quota≤((Js y.pages:Nat):Int)then (y,true)else (Jvn y,false)
theorem Kko (y:DS)(p:List UInt8)(ps:List (List UInt8))(h:y.quota≤((Js y.pages:Nat):Int)∨wrap64 (y.writes+1)=y.fail):Uy y (p::ps)=((Kjn y).1,[],some (Kjn y).2):=by
 unfold Kjn;by_cases D:y.quota≤((Js y.pages:Nat):Int)
 ·simp[Uy,D]
 have E:=h.resolve_left D;simp[Uy,D,E]
theorem Ki6 {F:Nat→Prop}{w w':World}{b:Nat}{a:Addr}{p:Int}(h:Yu w (.iface 157 (.pointer (some ⟨b,0,none⟩))) a none (some p))(D:Ju F w w')(y:¬ F b):Yu w' (.iface 157 (.pointer (some ⟨b,0,none⟩))) a none (some p):=by
 obtain⟨h0,E⟩:=h.disk_at;exact .disk b a p (D.cell h0 y) (D.cell E y)
theorem Kj7 (d:Nat)(s:ByteArray)(w:World)(F:Nat→Prop)(y:DS)(h:Zb w F d y)(q wr:Addr)(R:w.cell? ⟨6,0,none⟩=some (.iface 433 (.pointer (some q))))(U:w.cell? ⟨7,0,none⟩=some (.iface 433 (.pointer (some wr))))
  (O:y.quota≤((Js y.pages:Nat):Int)∨wrap64 (y.writes+1)=y.fail) :
  Calls prog 93 #[.pointer (some ⟨d,0,none⟩),.string s] w fun e w'=>Ju F w w'∧Zb w' F d (Kjn y).1∧∃ b,e=.returned (.tuple #[.int .i64 0,.iface 157 (.pointer (some ⟨b,0,none⟩))])∧w.heap.size≤b∧Yu w' (.iface 157 (.pointer (some ⟨b,0,none⟩))) (if (Kjn y).2 then q else wr) none (some (-1)):=by
 unfold Kjn;by_cases D:y.quota≤((Js y.pages:Nat):Int)
 ·rw[if_pos D];refine(Kjc d s w F y h q R D).mono ?_;rintro e w' ⟨E,b,rfl,H,K⟩;exact⟨.of_below E,h.below E,b,rfl,H,K⟩
 rw[if_neg D];exact Kj0 d s w F y h wr U D (O.resolve_left D)
def Kkw (w:World)(F:Nat→Prop)(d:Nat)(q wr:Addr)(r:DS×List Nat×Option Bool)(e:Ending)(w':World):Prop:=
 Ju F w w'∧∃ FD:Nat→Prop,Zb w' FD d (match r.2.2 with|none=>r.1|some _=>Jf4 r.1 r.2.1)∧(∀ k,FD k→F k∨w.heap.size≤k)∧(∀ k,FD k→k<w'.heap.size) ∧
  match r.2.2 with
  |none=>∃ sv,e=.returned (.tuple #[sv,.nilIface])∧Jo w' w.heap.size 3 sv (r.2.1.map nv)∧∀ g,sv.ownBlock=some g→¬ FD g
  |some x=>∃ b,e=.returned (.tuple #[.slice none 0 0,.iface 157 (.pointer (some ⟨b,0,none⟩))])∧w.heap.size≤b∧Yu w' (.iface 157 (.pointer (some ⟨b,0,none⟩))) (if x then q else wr) none (some (-1))∧¬ FD b
theorem Kiy.stand {y w w':World}{D FD:Nat→Prop}{d:Nat}{K:DS}{sv:Value}{l:List Nat}(h:Kiy y D w d K sv l FD)(H:Ju FD w w'):Jo w' y.heap.size 3 sv (l.map nv)∧Ju D y w':=
 ⟨Yd h.own fun g E=>H.block g (Qk h.own E) (h.apart g E),h.keep.trans' H fun k O hf=>(h.from_ k hf).resolve_right (by omega)⟩
theorem Jji {w:World}{B:Nat}{e:TypeId}{a:Option Addr}{n c:Nat}{xs:List Value}(h:Jo w B e (.slice a n c) xs):Uh w a xs∧∀ b o,a=some ⟨b,o,none⟩→(Value.slice a n c).ownBlock=some b:=by
 obtain⟨H,K,y,E⟩:=h.cells;simp at y;obtain⟨rfl,_,_⟩:=y;exact⟨E,fun b o D=>by subst D;rfl⟩
theorem Kiy.more {R wr D O:World}{U FD:Nat→Prop}{d:Nat}{H:DS}{sv sv':Value}{l:List Nat}(h:Kiy R U wr d H sv l FD)(bh:Ju FD wr D)(ba:List UInt8)(bf:Zb D (up FD wr) d (Zn H ba))(o:Obj)
  (bj:Jo O R.heap.size 3 sv' (l.map nv++[nv (Kb H.pages)])) (E:(D.alloc o).grownBy O sv.ownBlock) (bc:sv'.ownBlock=sv.ownBlock∨sv'.ownBlock=some (D.alloc o).heap.size) :
  Kiy R U O d (Zn H ba) sv' (l++[Kb H.pages]) (cap (up FD wr) D):=by
 have bn:=E.size;rw[Oa7]at bn;have Y:∀ g,sv.ownBlock=some g→g<wr.heap.size:=fun g E=>Qk h.own E;have Z:∀ k,k<D.heap.size→sv.ownBlock≠some k→O.heap[k]?=D.heap[k]?:=fun k y bi=>(E.block k (by simp;omega) (Oc5 bi)).trans (Oa9 D o k y);refine⟨bf.cap.stands fun k y hl=>Z k hl fun e=>?_,fun k y=>?_,fun k y=>Oc2 y.2 (by omega),?_,fun g K=>?_,?_⟩
 ·rcases y.1 with hf|hf
  ·exact h.apart k e hf
  have:=Y k e;omega
 ·rcases y.1 with hf|hf
  ·exact h.from_ k hf
  exact .inr (Ob2 h.keep.size hf)
 ·rw[Ob8];exact bj
 ·rintro⟨br,hl⟩;rcases bc with e|e
  ·rw[e]at K;rcases br with hf|hf
   ·exact h.apart g K hf
   have:=Y g K;omega
  rw[e]at K;simp at K;omega
 have y:=(h.stand bh).2;refine⟨E.os.trans y.os,E.tape.trans y.tape,E.output.trans y.output,Ob2 y.size (by omega),fun k X hn=>?_⟩;refine(Z k (Oc2 X y.size) fun e=>?_).trans (y.block k X hn);have:=(Je h.own e).1;omega
theorem Kkq (d:Nat)(E:List UInt8)(w:World)(F:Nat→Prop)(K:DS)(h:Zb w F d K)(hF:∀ k,F k→k<w.heap.size)(q bB:Addr)
  (bh:w.cell? ⟨6,0,none⟩=some (.iface 433 (.pointer (some q)))) (bU:w.cell? ⟨7,0,none⟩=some (.iface 433 (.pointer (some bB)))) (bK:¬ F 6) (bL:¬ F 7) (bR:K.pages.length+(Qu E).length≤800000) (cv:E.length≤1000000) :
  Calls prog 65 #[.pointer (some ⟨d,0,none⟩),.string (Qw E)] w fun e w'=>Kkw w F d q bB (Uy K (Qu E)) e w':=by
 go_enter func65,ntmps65
 go_wp2;go_loopw [1,6] (fun bi sv bW=>∃ (rest:List UInt8) (y:DS) (l:List Nat) (FD:Nat→Prop),bi=.string (Qw rest)∧rest.length≤E.length∧l.length+(Qu rest).length≤800000∧y.pages.length+(Qu rest).length≤800000∧Kiy w F bW d y sv l FD∧Hid (Uy K (Qu E)=Kiw l (Uy y (Qu rest)))) (fun bi _ _=>Kky bi)
 case atStart=>exact⟨E,K,[],F,rfl,Oa2 _,by simp;omega,bR,⟨h,fun k bx=>.inl bx,hF,Jo.nil _ _ _,fun g bQ=>by simp[Value.ownBlock]at bQ,Ju.refl _ _⟩,rfl⟩
 case round=>
  rename_i bi sv
  obtain⟨rest,y,l,FD,rfl,cn,cc,cb,hL,O⟩:=hrel;have bS:=Jb2 rest;by_cases hr:rest=[]
  ·subst hr;rw[Kj2]at O;have bj:Hid (Uy K (Qu E)=(y,l,none)):=by show _=_;rw[O.out];simp[Kiw,Uy]
   obtain⟨a,cap,R,_⟩:=hL.own.cells;subst R;simp at bS;go_wp2;go_ret2
   rw[bj.out];exact⟨hL.keep,FD,hL.disk,hL.from_,hL.lt,_,rfl,hL.own,hL.apart⟩
  have cj:0<rest.length:=Oi9.2 hr;have bn:Hid (Qu rest=rest.take 56::Qu (rest.drop 56)):=Jr2 rest hr;have ci:(Qu rest).length=(Qu (rest.drop 56)).length+1:=by rw[bn.out];rfl
  obtain⟨n,hn,bc⟩:∃ n:Nat,(n≤rest.length∧n≤56)∧Hid (n=min rest.length 56):=⟨min rest.length 56,by omega,rfl⟩;have bD:Hid (rest.take n=rest.take 56):=by
   show _=_;rw[bc.out];rcases Oc1 rest.length 56 with Z|Z
   ·rw[Oj1 (by omega),Oc8 (Oa2 _),Oc8 (by omega)]
   rw[Ol4 Z]
  have bC:Hid (rest.drop n=rest.drop 56):=by
   show _=_;rw[bc.out];rcases Oc1 rest.length 56 with Z|Z
   ·rw[Oj1 (by omega),Ol8 (Oa2 _),Ol8 (by omega)]
   rw[Ol4 Z]
  have bH:=Kkb rest 0 n;have bI:=Kkb rest n rest.length;rw[List.drop_zero,bD.out]at bH;rw[Of2,bC.out]at bI;have ca:(rest.drop 56).length<rest.length:=by rw[Of7];omega
  have bT:(rest.take 56).length≤56:=by rw[Oc7];omega
  have ch:(if 56<(rest.length:Int)then (56:Int)else (rest.length:Int))=(n:Int):=by have:=bc.out;split<;>omega
  rw[bn.out]at O;clear bn bD bC bc;generalize rest.take 56=Y at *;generalize rest.drop 56=bV at *;by_cases X:y.quota≤((Js y.pages:Nat):Int)∨wrap64 (y.writes+1)=y.fail
  ·have bj:Hid (Uy K (Qu E)=((Kjn y).1,l,some (Kjn y).2)):=by show _=_;rw[O.out,Kko y _ _ X];simp[Kiw]
   have bA:=Kj7 d (Qw Y) wr FD y hL.disk q bB (hL.keep.cell bh bK) (hL.keep.cell bU bL) X;have D:Hid (Kiy w F wr d y u6 l FD):=hL;obtain⟨a,cap,R,_⟩:=hL.own.cells;rw[Oa6]at R;clear hL X O;subst R;go_wp2_with (first|(go_at_call 93;refine bA.mono ?_;rintro e bf ⟨H,br,b,rfl,bN,bO⟩)|(go_at_call 94;refine(Ki0 d a cap l bf FD _ br (Jji (D.out.stand H).1).1 (fun b o bM=>D.out.apart b ((Jji (D.out.stand H).1).2 b o bM)) (by omega)).mono ?_;rintro e bX ⟨rfl,bP,bz⟩))
   go_ret2
   rw[bj.out];have bE:¬ FD b:=fun hf=>by have:=D.out.lt b hf;omega
   exact⟨(D.out.stand (H.trans bz)).2,FD,bP,D.out.from_,fun k bx=>Oc2 (D.out.lt k bx) (Ob2 H.size bz.size),b,rfl,Ob2 D.out.keep.size bN,Ki6 bO bz bE,bE⟩
  have U:¬ y.quota≤((Js y.pages:Nat):Int):=fun h=>X (.inl h);have ba:¬ wrap64 (y.writes+1)=y.fail:=fun h=>X (.inr h);rw[Kjp l y Y _ U ba]at O;have bA:=Kjt d Y bT wr FD y hL.disk (by omega) U ba;have cx:=Jxm y Y;have D:Hid (Kiy w F wr d y u6 l FD):=hL;obtain⟨a,cap,R,_⟩:=hL.own.cells;rw[Oa6]at R;clear hL X U ba;subst R;have cf:=D.out.keep.size;go_wp2_with (first|(go_at_call 93;refine bA.mono ?_;rintro e bf ⟨H,br,rfl⟩;have cu:=H.size)|(at_builtin;go_must (refine Ks (by rfl) _ _ 22 3 _ 8 Zw (by rfl) (by decide) (by kernel_rfl) (by rfl) w.heap.size _ _ (by rfl) (Jo.alloc (D.out.stand H).1 _) ⟨bf.heap.size,0,none⟩ 1 [nv (Kb y.pages)] (by rfl) (by exact Ua bf _ _) (by intro u bG;simp at bG;subst bG;rfl) (by simp only[List.length_cons,List.length_nil,Oa6];omega) (by simp;omega) ?_);intro sv' cy U ba bJ;obtain⟨bY,bZ,rfl,_⟩:=U.cells))
  go_roundw
  case rel=>
   have bh:=D.out.more H Y br _ U ba bJ;rw[Oa8,Oa6]at bh;exact⟨bV,Zn y Y,l++[Kb y.pages],_,rfl,by omega,by simp;omega,by omega,bh,O.out⟩
  case measure=>simp only[Kky];simp[Jb2];omega
def Uf (y:DS):List Nat→List UInt8⊕Nat
 |[]=>.inl []
 |i::l=>match (y.pages.getD i none).bind Jd2 with
  |none=>.inr i
  |some t=>match Uf y l with
   |.inl u=>.inl (t++u)
   |.inr j=>.inr j
theorem Jrf {p t:List UInt8}(h:Jd2 p=some t):t.length≤56:=by
 unfold Jd2 at h;split at h
 ·simp at h
 simp at h;subst h;rename_i y
 rw[Oa0]at y;rw[Oc7];omega
theorem Jv5 {y:DS}{l:List Nat}(k:Nat)(D:k<l.length)(t u:List UInt8)(E:(y.pages.getD l[k] none).bind Jd2=some u)(h:Uf y l=(match Uf y (l.drop k)with|.inl r=>.inl (t++r)|.inr j=>.inr j)) :
  Uf y l=(match Uf y (l.drop (k+1))with|.inl r=>.inl ((t++u)++r)|.inr j=>.inr j):=by
 rw[h,Oi1 D];simp only[Uf,E];cases Uf y (l.drop (k+1))<;>simp
theorem Jo9 {y:DS}{l:List Nat}(k:Nat)(D:k<l.length)(t:List UInt8)(E:(y.pages.getD l[k] none).bind Jd2=none)(h:Uf y l=(match Uf y (l.drop k)with|.inl r=>.inl (t++r)|.inr j=>.inr j)):Uf y l=.inr l[k]:=by
 rw[h,Oi1 D];simp only[Uf,E]
theorem Je0 {l:List (Option (List UInt8))}{i:Nat}(h:Jai l (i:Int)=false):l.getD i none=none:=by
 cases hq:l.getD i none with
 |none=>rfl
 |some p=>
  rw[Oa0]at hq;have:l[i]?=some (some p):=by
   cases hh:l[i]? with
   |none=>rw[hh]at hq;simp at hq
   |some x=>rw[hh]at hq;simp at hq;rw[hq]
  rw[Jtc this]at h;simp at h
theorem Jfv (n:Int)(w:World)(pg:Addr)(y:w.cell? ⟨8,0,none⟩=some (.iface 433 (.pointer (some pg)))) :
  Calls prog 114 #[.int .i64 n] w fun e w'=>Below w.heap.size w w'∧∃ b,e=.returned (.iface 157 (.pointer (some ⟨b,0,none⟩)))∧w.heap.size≤b∧Yu w' (.iface 157 (.pointer (some ⟨b,0,none⟩))) pg none (some n):=by
 go_enter func114,ntmps114
 go_wp2;go_ret
 exact⟨(Oa5 _ w).alloc (Oa2 _) _,_,rfl,Oa2 _,Jwl w pg n⟩
def Keo (w:World)(pg:Addr)(r:List UInt8⊕Nat)(e:Ending)(w':World):Prop:=
 Below w.heap.size w w'∧match r with
  |.inl t=>e=.returned (.tuple #[.string (Qw t),.nilIface])
  |.inr i=>∃ b,e=.returned (.tuple #[.string ⟨#[]⟩,.iface 157 (.pointer (some ⟨b,0,none⟩))])∧w.heap.size≤b∧Yu w' (.iface 157 (.pointer (some ⟨b,0,none⟩))) pg none (some (i:Int))
theorem Jzx {w:World}{F:Nat→Prop}{d:Nat}{y:DS}{sv:Value}{ps:List (Option Nat)}(h:Jf1 w F d y sv ps)(i:Nat)(Y:Jai y.pages (i:Int)=true) :
  ∃ g cap b p,sv=.slice (some ⟨g,0,none⟩) ps.length cap∧i<ps.length∧w.cell? ⟨g,i,none⟩=some (.pointer (some ⟨b,0,none⟩))∧y.pages.getD i none=some p∧Jdp w b p:=by
 obtain⟨p,hp⟩:=Jf3 Y;obtain⟨a,cap,R,O⟩:=h.list;have D:i<ps.length:=by
  rw[h.len];rcases Oc1 i y.pages.length with E|E
  ·exact E
  rw[Ob4 E]at hp;simp at hp
 obtain⟨g,rfl,_,_,cg,_⟩:=O i D;have H:=h.which i D;rw[Oa0,hp]at H;obtain⟨b,K⟩:∃ b,ps[i]=some b:=by
  cases hq:ps[i]with
  |none=>rw[hq]at H;simp at H
  |some b=>exact⟨b,rfl⟩
 obtain⟨_,_,_,Z,U,X⟩:=h.page i b (by rw[←K];simp[D]);rw[K]at cg;exact⟨g,cap,b,Z,R,D,cg,by rw[Oa0,U];rfl,X⟩
theorem Kag (d:Nat)(a:Option Addr)(cap:Nat)(l:List Nat)(w:World)(F:Nat→Prop)(y:DS)(h:Zb w F d y)(hl:Uh w a (l.map nv))(bO:l.length≤1000000)(pg:Addr)(bH:w.cell? ⟨8,0,none⟩=some (.iface 433 (.pointer (some pg))))(Y:∀ t,Uf y l=.inl t→t≠[]) :
  Calls prog 112 #[.pointer (some ⟨d,0,none⟩),.slice a l.length cap] w fun e w'=>Keo w pg (Uf y l) e w':=by
 go_enter func112,ntmps112
 go_wp2;go_loopw [13] (fun i wr=>∃ (k:Nat) (t:List UInt8),k≤l.length∧t.length≤56*k∧i=.int .i64 k∧Jkw wr w.heap.size w.heap.size t∧Below w.heap.size w wr∧Hid (Uf y l=(match Uf y (l.drop k)with|.inl r=>.inl (t++r)|.inr j=>.inr j))) (fun i _=>l.length-(intOf i).toNat)
 case atStart=>exact⟨0,[],Ob7 _,by simp,rfl,Jkw.new w _ (Oa2 _),(Oa5 _ _).alloc (Oa2 _) _,by show _=_;rw[List.drop_zero];cases Uf y l<;>rfl⟩
 case round=>
  rename_i i
  obtain⟨k,t,bN,bP,rfl,br,D,H⟩:=hrel;by_cases X:k<l.length
  ·rcases hl with hl|⟨b,o,rfl,bC,hl⟩
   ·simp at hl;subst hl;simp at X
   have bK:wr.cell? ⟨b,o+k,none⟩=some (.int .i64 ((l[k]:Nat):Int)):=by rw[(Kx D).1 b (o+k) bC];exact hl k _ (by simp[X];rfl)
   have bx:=Ja D bH;have bn:=h.below D;have U:=Jwv d (l[k]:Int) wr F y bn;have bz:=Jfv (l[k]:Int) wr pg bx;by_cases K:Jai y.pages ((l[k]:Nat):Int)=true
   ·rw[K]at U;obtain⟨sv,ps,bf⟩:=bn;obtain⟨_,_,_,_,_,c5⟩:=bf.field;obtain⟨g,cp,bp,p,rfl,bL,cg,ba,bG⟩:=Jzx bf l[k] K;have bc:=Ke1 bp p wr bG;have bM:((l[k]:Nat):Int)<(ps.length:Int):=(by omega);cases ho:Jd2 p with
    |none=>
     have O:Hid (Uf y l=.inr l[k]):=Jo9 k X t (by rw[ba];exact ho) H.out;rw[ho]at bc;clear H Y ba K bf ho;generalize l[k]=i at *;go_wp2_with (first|(go_at_call 127;refine U.mono ?_;rintro e w' ⟨rfl,bA⟩;subst w')|(go_at_call 157;refine bc.mono ?_;rintro e Z ⟨rfl,E⟩;have bI:=Jfv (i:Int) Z pg (Ja E bx))|(go_at_call 114;refine bI.mono ?_;rintro e bj ⟨R,b2,rfl,bh,bi⟩))
     go_ret2
     rw[O.out];exact⟨Jb D (Jb E R),b2,rfl,Ob2 D.size (Ob2 E.size bh),bi⟩
    |some u=>
     have bB:Hid (Uf y l=(match Uf y (l.drop (k+1))with|.inl r=>.inl ((t++u)++r)|.inr j=>.inr j)):=Jv5 k X t u (by rw[ba];exact ho) H.out;have bQ:=Jrf ho;rw[ho]at bc;clear H Y ba K bf ho bz;generalize l[k]=i at *;go_wp2_with (first|(go_at_call 127;refine U.mono ?_;rintro e w' ⟨rfl,bA⟩;subst w')|(go_at_call 157;refine bc.mono ?_;rintro e Z ⟨rfl,E⟩;have bD:=Jv2 w.heap.size w.heap.size t u Z (br.below E) (by omega) (Ob2 D.size E.size))|(go_at_call 158;refine bD.mono ?_;rintro e bj ⟨rfl,bE,R⟩))
     go_roundw
     case rel=>exact⟨k+1,t++u,by omega,by simp;omega,by go_num,bE,(Jb D E).trans R,bB.out⟩
     case measure=>simp[intOf];omega
   rw[Oo1]at K;rw[K]at U;have O:Hid (Uf y l=.inr l[k]):=Jo9 k X t (by rw[Je0 K];rfl) H.out;clear H Y;generalize l[k]=i at *;go_wp2_with (first|(go_at_call 127;refine U.mono ?_;rintro e w' ⟨rfl,bA⟩;subst w')|(go_at_call 114;refine bz.mono ?_;rintro e bj ⟨R,b2,rfl,bh,bi⟩))
   go_ret2
   rw[O.out];exact⟨Jb D R,b2,rfl,Ob2 D.size bh,bi⟩
  obtain rfl:k=l.length:=by omega
  have O:Hid (Uf y l=.inl t):=by show _=_;rw[H.out,List.drop_length];simp[Uf]
  have bJ:=Jsp w.heap.size w.heap.size t wr br (Y t O.out);clear H Y;go_wp2_with (go_at_call 159;refine bJ.mono ?_;rintro e Z ⟨rfl,E⟩)
  go_ret2
  rw[O.out];exact⟨D.trans E,rfl⟩
structure TS where
 name:ByteArray
 types:List Int
 rows:Nat
 group:Nat
 segs:List (List Nat)
def Kh8 (h:Option Addr×Nat)(l:List Nat):Value:=.slice h.1 l.length h.2
structure Jaf (w:World) (F:Nat→Prop) (a:Option Addr) (hs:List (Option Addr×Nat)) (ls:List (List Nat)):Prop where
 len:hs.length=ls.length
 cells:Uh w a (List.zipWith Kh8 hs ls)
 segs:∀ (i:Nat) h l,hs[i]?=some h→ls[i]?=some l→Uh w h.1 (l.map nv)
 aF:∀ b o,a=some ⟨b,o,none⟩→F b
 hF:∀ (i:Nat) h,hs[i]?=some h→∀ b o,h.1=some ⟨b,o,none⟩→F b
theorem Jaf.stands {w w':World}{F:Nat→Prop}{a:Option Addr}{hs:List (Option Addr×Nat)}{K:List (List Nat)}(h:Jaf w F a hs K)(E:w.heap.size≤w'.heap.size)(D:∀ k,F k→k<w.heap.size→w'.heap[k]?=w.heap[k]?):Jaf w' F a hs K:=
 ⟨h.len,h.cells.of_block E fun b o y hl=>D b (h.aF b o y) hl,fun i x l H hl=>(h.segs i x l H hl).of_block E fun b o y O=>D b (h.hF i x H b o y) O,h.aF,h.hF⟩
theorem Jaf.mono {w:World}{F G:Nat→Prop}{a:Option Addr}{hs:List (Option Addr×Nat)}{E:List (List Nat)}(h:Jaf w F a hs E)(D:∀ k,F k→G k):Jaf w G a hs E:=
 ⟨h.len,h.cells,h.segs,fun b o y=>D b (h.aF b o y),fun i x H b o y=>D b (h.hF i x H b o y)⟩
theorem Jaf.at {w:World}{F:Nat→Prop}{a:Option Addr}{hs:List (Option Addr×Nat)}{y:List (List Nat)}(h:Jaf w F a hs y){i:Nat}(hi:i<y.length) :
  ∃ b o D rc,a=some ⟨b,o,none⟩∧F b∧b<w.heap.size∧w.cell? ⟨b,o+i,none⟩=some (.slice D y[i].length rc)∧Uh w D (y[i].map nv)∧∀ b o,D=some ⟨b,o,none⟩→F b:=by
 have H:i<hs.length:=by rw[h.len];exact hi
 obtain⟨b,o,E,K,O⟩:=h.cells.at (i:=i) (by simp;omega);exact⟨b,o,hs[i].1,hs[i].2,E,h.aF b o E,K,by rw[O];simp[Kh8],h.segs i hs[i] y[i] (by simp[H]) (by simp[hi]),h.hF i hs[i] (by simp[H])⟩
structure Khb (w:World) (F:Nat→Prop) (tb:Nat) (T:TS) (ta:Option Addr) (tc:Nat) (sa:Option Addr) (sc:Nat) (hs:List (Option Addr×Nat)):Prop where
 cells:w.heap[tb]?=some (.cells #[.string T.name,.slice ta T.types.length tc,.int .i64 (T.rows:Int),.int .i64 (T.group:Int),.slice sa T.segs.length sc] 130 (0,0))
 types:Kc w ta T.types
 tF:∀ b o,ta=some ⟨b,o,none⟩→F b
 segs:Jaf w F sa hs T.segs
 cap:T.segs.length≤sc
 bF:F tb
def Jmg (w:World)(F:Nat→Prop)(H:Nat)(T:TS):Prop:=∃ E K y D hs,Khb w F H T E K y D hs
theorem Jmg.stands {w w':World}{F:Nat→Prop}{D:Nat}{T:TS}(h:Jmg w F D T)(E:w.heap.size≤w'.heap.size)(y:∀ k,F k→k<w.heap.size→w'.heap[k]?=w.heap[k]?):Jmg w' F D T:=by
 obtain⟨R,U,K,O,hs,h⟩:=h;exact⟨R,U,K,O,hs,by rw[y D h.bF (Jd h.cells)];exact h.cells,h.types.of_block E fun b o H hl=>y b (h.tF b o H) hl,h.tF,h.segs.stands E y,h.cap,h.bF⟩
theorem Jmg.mono {w:World}{F G:Nat→Prop}{D:Nat}{T:TS}(h:Jmg w F D T)(y:∀ k,F k→G k):Jmg w G D T:=by
 obtain⟨O,R,H,K,hs,h⟩:=h;exact⟨O,R,H,K,hs,h.cells,h.types,fun b o E=>y b (h.tF b o E),h.segs.mono y,h.cap,y D h.bF⟩
theorem Khb.field {w:World}{F:Nat→Prop}{y:Nat}{T:TS}{H:Option Addr}{K:Nat}{D:Option Addr}{E:Nat}{hs:List (Option Addr×Nat)}(h:Khb w F y T H K D E hs) :
  w.cell? ⟨y,0,.none⟩=some (.string T.name)∧w.cell? ⟨y,1,.none⟩=some (.slice H T.types.length K)∧w.cell? ⟨y,2,.none⟩=some (.int .i64 (T.rows:Int))∧w.cell? ⟨y,3,.none⟩=some (.int .i64 (T.group:Int))∧w.cell? ⟨y,4,.none⟩=some (.slice D T.segs.length E):=by
 simp[World.cell?,h.cells]
def Jcp (b:Nat):Value:=.pointer (some ⟨b,0,none⟩)
structure Jfl (w:World) (F:Nat→Prop) (s d:Nat) (Ts:List TS) (sv:Value) (bs:List Nat):Prop where
 cells:w.heap[s]?=some (.cells #[.pointer (some ⟨d,0,none⟩),sv] 113 (0,0))
 own:Jo w 0 126 sv (bs.map Jcp)
 sF:¬ F s
 gF:∀ g,sv.ownBlock=some g→¬ F g∧g≠s
 len:bs.length=Ts.length
 tab:∀ (i:Nat) b T,bs[i]?=some b→Ts[i]?=some T→Jmg w F b T
 few:Ts.length≤6
def Jnr (s:Nat)(sv:Value):Nat→Prop:=fun k=>k=s∨sv.ownBlock=some k
theorem Jfl.stands {w w':World}{F:Nat→Prop}{s d:Nat}{Ts:List TS}{sv:Value}{bs:List Nat}(h:Jfl w F s d Ts sv bs)(K:w.heap.size≤w'.heap.size)(y:∀ k,F k∨Jnr s sv k→k<w.heap.size→w'.heap[k]?=w.heap[k]?):Jfl w' F s d Ts sv bs:=
 ⟨by rw[y s (.inr (.inl rfl)) (Jd h.cells)];exact h.cells,Yd h.own fun g D=>y g (.inr (.inr D)) (Qk h.own D),h.sF,h.gF,h.len,fun i b T H E=>(h.tab i b T H E).stands K fun k hf=>y k (.inl hf),h.few⟩
theorem Jfl.below {w w':World}{F:Nat→Prop}{s d:Nat}{Ts:List TS}{sv:Value}{bs:List Nat}(h:Jfl w F s d Ts sv bs)(y:Below w.heap.size w w'):Jfl w' F s d Ts sv bs:=h.stands y.size fun k _ D=>y.block k D
theorem Jfl.field {w:World}{F:Nat→Prop}{s d:Nat}{Ts:List TS}{sv:Value}{bs:List Nat}(h:Jfl w F s d Ts sv bs):w.cell? ⟨s,0,none⟩=some (.pointer (some ⟨d,0,none⟩))∧w.cell? ⟨s,1,none⟩=some sv:=by
 simp[World.cell?,h.cells]
theorem Jfl.at {w:World}{F:Nat→Prop}{s d:Nat}{Ts:List TS}{sv:Value}{bs:List Nat}(h:Jfl w F s d Ts sv bs){i:Nat}(hi:i<Ts.length) :
  ∃ b o,sv=.slice (some ⟨b,o,none⟩) Ts.length (match sv with|.slice _ _ c=>c|_=>0)∧w.cell? ⟨b,o+i,none⟩=some (.pointer (some ⟨bs[i]'(by rw[h.len];exact hi),0,none⟩))∧Jmg w F (bs[i]'(by rw[h.len];exact hi)) Ts[i]:=by
 have y:i<bs.length:=by rw[h.len];exact hi
 obtain⟨a,cap,K,E⟩:=h.own.cells;obtain⟨b,o,D,_,H⟩:=E.at (i:=i) (by simpa using y);subst K D;exact⟨b,o,by simp[h.len],by rw[H];simp[Jcp],h.tab i _ _ (by simp[y]) (by simp[hi])⟩
def Ub:List TS→ByteArray→Nat
 |[],_=>0
 |T::Ts,n=>if T.name=n then 0 else Ub Ts n+1
def Jhc (Ts:List TS)(n:ByteArray):Int:=if Ub Ts n<Ts.length then (Ub Ts n:Int)else -1
theorem Kdk (Ts:List TS)(n:ByteArray):Ub Ts n≤Ts.length:=by
 induction Ts with
 |nil=>simp[Ub]
 |cons T Ts y=>simp only[Ub];split<;>simp<;>omega
theorem Kc4 (Ts:List TS)(n:ByteArray):∀ (k:Nat) (y:k<Ts.length),(∀ j (H:j<k),(Ts[j]'(by omega)).name≠n)→Ts[k].name=n→Ub Ts n=k:=by
 induction Ts with
 |nil=>intro k y;simp at y
 |cons T Ts K=>
  intro k y E D;cases k with
  |zero=>simp at D;simp[Ub,D]
  |succ k=>
   have h0:=E 0 (by omega);simp at h0;simp only[Ub,if_neg h0];rw[K k (by simpa using y) (fun j H=>by have:=E (j+1) (by omega);simpa using this) (by simpa using D)]
theorem Jvr (Ts:List TS)(n:ByteArray)(h:∀ j (y:j<Ts.length),Ts[j].name≠n):Ub Ts n=Ts.length:=by
 induction Ts with
 |nil=>rfl
 |cons T Ts D=>
  have h0:=h 0 (by simp);simp at h0;simp only[Ub,if_neg h0,List.length_cons];rw[D fun j y=>by have:=h (j+1) (by simp;omega);simpa using this]
theorem Jn4 (X:Nat)(n:ByteArray)(w:World)(F:Nat→Prop)(s d:Nat)(Ts:List TS)(sv:Value)(bs:List Nat)(h:Jfl w F s d Ts sv bs)(hn:w.cell? ⟨X,0,none⟩=some (.string n)) :
  Calls prog 60 #[sv,.func (.func 61) #[] #[.pointer (some ⟨X,0,none⟩)]] w fun e w'=>e=.returned (.int .i64 (Jhc Ts n))∧Below w.heap.size w w':=by
 obtain⟨a,cap,U,bf⟩:=h.own.cells;rw[Oa6,h.len]at U;subst U;have bh:=h.few;go_enter func60,ntmps60
 go_wp2;go_loopw [8] (fun i wr=>∃ k:Nat,k≤Ts.length∧i=.int .i64 k∧Below w.heap.size w wr∧Hid (∀ j (y:j<Ts.length),j<k→Ts[j].name≠n)) (fun i _=>Ts.length-(intOf i).toNat)
 case atStart=>exact⟨0,Ob7 _,rfl,Oa5 _ _,fun j _ y=>absurd y (Oe0 _)⟩
 case round=>
  obtain⟨k,bj,rfl,E,K⟩:=hrel;by_cases O:k<Ts.length
  ·obtain⟨b,o,R,c1,bc⟩:=(h.below E).at O;simp at R;subst R;obtain⟨bA,bB,br,bx,hs,Y⟩:=bc;obtain⟨bz,_,_,_,_⟩:=Y.field;have bn:=Ja E hn;by_cases D:Ts[k].name=n
   ·have H:Hid (Ts[k].name=n):=D;have ba:(Ts[k].name.toList==n.toList)=true:=by rw[D];simp
    clear D;go_wp2;go_quiet (fail)
    go_wp2;go_ret
    have hf:=Kc4 Ts n k O (fun j y=>K.out j (by omega) y) H.out;exact⟨Yp (by unfold Jhc;rw[hf,if_pos O]),Jp E _⟩
   have H:Hid (¬ Ts[k].name=n):=D;have ba:(Ts[k].name.toList==n.toList)=false:=by
    rw[beq_eq_false_iff_ne];exact fun Z=>D (by rw[←Zf Ts[k].name,Z,Zf])
   clear D;go_wp2;go_quiet (fail)
   go_wp2;go_roundw
   case rel=>
    refine⟨k+1,by omega,by go_num,Jp E _,fun j y bi=>?_⟩;by_cases e:j=k
    ·subst e;exact H.out
    exact K.out j y (by omega)
   case measure=>simp[intOf];omega
  go_wp2;go_ret
  have hf:=Jvr Ts n (fun j y=>K.out j y (by omega));exact⟨Yp (by unfold Jhc;rw[hf,if_neg (Oe3 _)]),E⟩
theorem Jo8 (n:ByteArray)(w:World)(F:Nat→Prop)(s d:Nat)(Ts:List TS)(sv:Value)(bs:List Nat)(h:Jfl w F s d Ts sv bs) :
  Calls prog 44 #[.pointer (some ⟨s,0,none⟩),.string n] w fun e w'=>e=.returned (.int .i64 (Jhc Ts n))∧Below w.heap.size w w':=by
 obtain⟨_,c1⟩:=h.field;have E:Below w.heap.size w (w.alloc (.cells #[.string n] 9)):=(Oa5 _ _).alloc (Oa2 _) _;have hf:=Jn4 w.heap.size n _ F s d Ts sv bs (h.below E) (by simp);have H:∀ (fn:Fn) (first cap:Array Value) (w:World),(Instr.makeFunc fn first cap).run prog w=.ok (.func fn first cap) w:=fun _ _ _ _=>rfl;obtain⟨a,cap,y,_⟩:=h.own.cells;rw[Oa6]at y;subst y;have K:=Jd h.cells;clear h;go_enter func44,ntmps44
 go_wp2_with (go_at_call 60;refine hf.mono ?_;rintro e w1 ⟨rfl,D⟩)
 go_ret
 exact⟨rfl,Qx D⟩
def Jcg (y:DS)(D:List (List Nat)):DS:=D.foldl Jf4 y
theorem Kjz (y:DS)(D:List (List Nat))(l:List Nat):Jcg y (D++[l])=Jf4 (Jcg y D) l:=by simp[Jcg]
theorem Kjd (s d:Nat)(a:Option Addr)(cap:Nat)(hs:List (Option Addr×Nat))(y:List (List Nat))(w:World)(F G:Nat→Prop)(D:DS)(h:Zb w F d D)(hl:Jaf w G a hs y)(R:∀ k,G k→¬ F k)(bj:w.cell? ⟨s,0,none⟩=some (.pointer (some ⟨d,0,none⟩)))(bn:¬ F s)(bD:y.length≤1000000)(U:∀ l∈y,l.length≤1000000) :
  Calls prog 66 #[.pointer (some ⟨s,0,none⟩),.slice a y.length cap] w fun e w'=>e=.returned (.tuple #[])∧Zb w' F d (Jcg D y)∧Ju F w w':=by
 have X:Hid (∀ l∈y,l.length≤1000000):=U;clear U;go_enter func66,ntmps66
 go_wp2;go_loopw [8] (fun i wr=>∃ k:Nat,k≤y.length∧i=.int .i64 k∧Zb wr F d (Jcg D (y.take k))∧Ju F w wr) (fun i _=>y.length-(intOf i).toNat)
 case atStart=>exact⟨0,Ob7 _,rfl,by simpa [Jcg] using h,Ju.refl _ _⟩
 case round=>
  rename_i i
  obtain⟨k,bC,rfl,K,E⟩:=hrel;by_cases H:k<y.length
  ·have Y:Hid (Jcg D (y.take (k+1))=Jf4 (Jcg D (y.take k)) y[k]):=by
    show Jcg D (y.take (k+1))=_;rw[Oc4 H,Kjz]
   have bf:=hl.stands E.size fun b O H=>E.block b H (R b O);obtain⟨b,o,br,rc,rfl,bA,bB,bz,Z,bh⟩:=bf.at H;have c0:=E.cell bj bn;have bi:=Ki0 d br rc y[k] wr F _ K Z (fun b o O=>R b (bh b o O)) (X.out _ (Ob3 H));go_wp2_with (go_at_call 94;refine bi.mono ?_;rintro e bx ⟨rfl,ba,bc⟩)
   go_roundw
   case rel=>exact⟨k+1,by omega,by go_num,by rw[Y.out];exact ba,E.trans bc⟩
   case measure=>simp[intOf];omega
  obtain rfl:k=y.length:=by omega
  rw[Of2]at K;go_wp2;go_end0
  exact⟨rfl,K,E⟩
def Jq (D:DS):List (List UInt8)→DS×List (List Nat)×Option Bool
 |[]=>(D,[],none)
 |t::ts=>match Uy D (Qu t)with
  |(y,l,none)=>((Jq y ts).1,l::(Jq y ts).2.1,(Jq y ts).2.2)
  |(y,l,some x)=>(Jf4 y l,[],some x)
def Kit (y:List (List Nat))(r:DS×List (List Nat)×Option Bool):DS×List (List Nat)×Option Bool:=(r.1,y++r.2.1,r.2.2)
theorem Kjf {E:List (List Nat)}{y D:DS}{t:List UInt8}{ts:List (List UInt8)}{l:List Nat}(h:Uy y (Qu t)=(D,l,none)):Kit E (Jq y (t::ts))=Kit (E++[l]) (Jq D ts):=by
 simp[Kit,Jq,h]
theorem Kjv {E:List (List Nat)}{y D:DS}{t:List UInt8}{ts:List (List UInt8)}{l:List Nat}{x:Bool}(h:Uy y (Qu t)=(D,l,some x)):Kit E (Jq y (t::ts))=(Jf4 D l,E,some x):=by
 simp[Kit,Jq,h]
structure Kiu (w0:World) (F0:Nat→Prop) (w:World) (d:Nat) (E:DS) (sv:Value) (hs:List (Option Addr×Nat)) (ls:List (List Nat)) (FD:Nat→Prop):Prop where
 disk:Zb w FD d E
 from_:∀ k,FD k→F0 k∨w0.heap.size≤k
 lt:∀ k,FD k→k<w.heap.size
 own:Jo w w0.heap.size 22 sv (List.zipWith Kh8 hs ls)
 len:hs.length=ls.length
 segs:∀ (i:Nat) h l,hs[i]?=some h→ls[i]?=some l→Uh w h.1 (l.map nv)
 new:∀ (i:Nat) h,hs[i]?=some h→∀ b o,h.1=some ⟨b,o,none⟩→w0.heap.size≤b∧b<w.heap.size∧¬ FD b∧sv.ownBlock≠some b
 apart:∀ g,sv.ownBlock=some g→¬ FD g
 keep:Ju F0 w0 w
theorem Kiu.stand {E w w':World}{H FD:Nat→Prop}{d:Nat}{R:DS}{sv:Value}{hs:List (Option Addr×Nat)}{D:List (List Nat)}(h:Kiu E H w d R sv hs D FD)(y:Ju FD w w') :
  Jo w' E.heap.size 22 sv (List.zipWith Kh8 hs D)∧Ju H E w'∧(∀ (i:Nat) x l,hs[i]?=some x→D[i]?=some l→Uh w' x.1 (l.map nv)):=
 ⟨Yd h.own fun g K=>y.block g (Qk h.own K) (h.apart g K),h.keep.trans' y fun k Y hf=>(h.from_ k hf).resolve_right (by omega),
  fun i x l O hl=>(h.segs i x l O hl).of_block y.size fun b o U X=>y.block b X (h.new i x O b o U).2.2.1⟩
theorem Kjb (hs:List (Option Addr×Nat))(y:List (List Nat))(h:hs.length=y.length)(x:Option Addr×Nat)(l:List Nat):List.zipWith Kh8 (hs++[x]) (y++[l])=List.zipWith Kh8 hs y++[Kh8 x l]:=by
 rw[Oo5 h];rfl
theorem Kec {α:Type}{xs:List α}{x D:α}{i:Nat}(h:(xs++[x])[i]?=some D):(i<xs.length∧xs[i]?=some D)∨(i=xs.length∧x=D):=by
 rcases Oc1 i xs.length with y|y
 ·rw[Ob0 y]at h;exact .inl ⟨y,h⟩
 rw[Ob6 y]at h;rcases Oc1 (i-xs.length) 1 with E|E
 ·have:i-xs.length=0:=by omega
  rw[this]at h;simp at h;exact .inr ⟨by omega,h⟩
 rw[Ob4 (by simpa using E)]at h;simp at h
theorem Kiu.more {bx wr y bh:World}{bA FD R:Nat→Prop}{d:Nat}{bL bz:DS}{sv sv':Value}{hs:List (Option Addr×Nat)}{bf:List (List Nat)}(h:Kiu bx bA wr d bL sv hs bf FD)(bG:Ju FD wr y)(bN:Zb y R d bz)(Z:∀ k,R k→FD k∨wr.heap.size≤k)(bH:∀ k,R k→k<y.heap.size)
  (H:Option Addr) (c1:Nat) (l:List Nat) (br:Jo y wr.heap.size 3 (.slice H l.length c1) (l.map nv)) (bM:∀ g,(Value.slice H l.length c1).ownBlock=some g→¬ R g) (o:Obj)
  (bO:Jo bh bx.heap.size 22 sv' (List.zipWith Kh8 hs bf++[.slice H l.length c1])) (D:(y.alloc o).grownBy bh sv.ownBlock) (bB:sv'.ownBlock=sv.ownBlock∨sv'.ownBlock=some (y.alloc o).heap.size) :
  Kiu bx bA bh d bz sv' (hs++[(H,c1)]) (bf++[l]) R:=by
 have bQ:=D.size;rw[Oa7]at bQ;have bW:=bG.size;have bV:=h.keep.size;have ba:∀ g,sv.ownBlock=some g→g<wr.heap.size:=fun g D=>Qk h.own D;have bc:∀ k,k<y.heap.size→sv.ownBlock≠some k→bh.heap[k]?=y.heap[k]?:=fun k K bn=>(D.block k (by simp;omega) (Oc5 bn)).trans (Oa9 y o k K);have bI:∀ b,b<y.heap.size→sv.ownBlock≠some b→sv'.ownBlock≠some b:=fun b Y bn e=>by
  rcases bB with bi|bi
  ·exact bn (bi▸e)
  rw[bi]at e;simp at e;omega
 have bK:∀ g,(Value.slice H l.length c1).ownBlock=some g→wr.heap.size≤g∧g<y.heap.size:=fun g D=>Je br D;have bJ:∀ b o,H=some ⟨b,o,none⟩→(Value.slice H l.length c1).ownBlock=some b:=(Jji br).2;obtain⟨_,O,bP⟩:=h.stand bG;refine⟨bN.stands fun k K hl=>bc k hl fun e=>?_,fun k K=>?_,fun k K=>Oc2 (bH k K) (by omega),?_,by simp[h.len],?_,?_,fun g U=>?_,?_⟩
 ·rcases Z k K with hf|hf
  ·exact h.apart k e hf
  have:=ba k e;omega
 ·rcases Z k K with hf|hf
  ·exact h.from_ k hf
  exact .inr (by omega)
 ·rw[Kjb hs bf h.len];exact bO
 ·intro i x bR E X;rcases Kec E with⟨hi,E⟩|⟨hi,rfl⟩
  ·rw[Ob0 (by rw[←h.len];exact hi)]at X;exact(bP i x bR E X).of_block (by omega) fun b o Y bj=>bc b bj (h.new i x E b o Y).2.2.2
  rw[hi,h.len,Ob6 (Oa2 _)]at X;simp at X;subst X;exact(Jji br).1.of_block (by omega) fun b o Y bj=>bc b bj fun e=>by have:=ba b e;have:=(bK b (bJ b o Y)).1;omega
 ·intro i x E b o bC;rcases Kec E with⟨hi,E⟩|⟨hi,rfl⟩
  ·obtain⟨bS,bX,bT,bU⟩:=h.new i x E b o bC;refine⟨bS,by omega,fun hf=>?_,bI b (by omega) bU⟩;rcases Z b hf with hf|hf
   ·exact bT hf
   omega
  have bD:=bJ b o bC;obtain⟨g1,g2⟩:=bK b bD;exact⟨by omega,by omega,bM b bD,bI b g2 fun e=>by have:=ba b e;omega⟩
 ·intro hf;rcases bB with e|e
  ·rw[e]at U;rcases Z g hf with hf|hf
   ·exact h.apart g U hf
   have:=ba g U;omega
  rw[e]at U;simp at U;have:=bH g hf;omega
 refine⟨D.os.trans O.os,D.tape.trans O.tape,D.output.trans O.output,Ob2 O.size (by omega),fun k bE hn=>?_⟩;refine(bc k (Oc2 bE O.size) fun e=>?_).trans (O.block k bE hn);have:=(Je h.own e).1;omega
def Jxo (w:World)(F:Nat→Prop)(d:Nat)(q wr:Addr)(r:DS×List (List Nat)×Option Bool)(e:Ending)(w':World):Prop:=
 Ju F w w'∧∃ FD:Nat→Prop,Zb w' FD d (match r.2.2 with|none=>r.1|some _=>Jcg r.1 r.2.1)∧(∀ k,FD k→F k∨w.heap.size≤k)∧(∀ k,FD k→k<w'.heap.size) ∧
  match r.2.2 with
  |none=>∃ y D hs,e=.returned (.tuple #[.slice y r.2.1.length D,.nilIface])∧Jaf w' (fun k=>w.heap.size≤k∧k<w'.heap.size∧¬ FD k) y hs r.2.1∧r.2.1.length≤D
  |some x=>∃ b,e=.returned (.tuple #[.slice none 0 0,.iface 157 (.pointer (some ⟨b,0,none⟩))])∧w.heap.size≤b∧Yu w' (.iface 157 (.pointer (some ⟨b,0,none⟩))) (if x then q else wr) none (some (-1))∧¬ FD b
theorem Kku {w:World}{B:Nat}{e:TypeId}{a:Option Addr}{n c:Nat}{xs:List Value}(h:Jo w B e (.slice a n c) xs):n≤c:=by
 rcases h.2 with⟨y,h0⟩|⟨g,cap,E,y,_,_,D,_⟩
 ·cases y;exact Oa2 _
 cases y;exact D
theorem Kiu.done {H w:World}{O FD:Nat→Prop}{d:Nat}{K:DS}{a:Option Addr}{n c:Nat}{hs:List (Option Addr×Nat)}{E:List (List Nat)}(h:Kiu H O w d K (.slice a n c) hs E FD):Jaf w (fun k=>H.heap.size≤k∧k<w.heap.size∧¬ FD k) a hs E:=
 ⟨h.len,(Jji h.own).1,h.segs,fun b o y=>⟨(Je h.own ((Jji h.own).2 b o y)).1,(Je h.own ((Jji h.own).2 b o y)).2,h.apart b ((Jji h.own).2 b o y)⟩,fun i x D b o y=>⟨(h.new i x D b o y).1,(h.new i x D b o y).2.1,(h.new i x D b o y).2.2.1⟩⟩
theorem Jzf:(prog.info? 22).map (fun i=>(i.zero,i.size,i.bytes))=some (some (.slice none 0 0),1,24):=by kernel_rfl
theorem Ul {w:World}{K:Array Oper}{rest:List Oper}{o:Oper}{a:Act}{Q:Exit→Act→World→Prop}(Z:o.guard=none)(s x:Operand)(t e:TypeId)(z:Value)(D:Nat)
  (ba:(prog.info? e).map (fun i=>(i.zero,i.size,i.bytes))=some (some z,1,D)) (bz:z.cells.size=1) (Y:D≤64) (bj:prog.underlying t=some (.slice e))
  (bf:o.op=.call {callee:=.builtin .append,args:=#[s,x],argTypes:=#[t,t]})
  (B:Nat) (sv:Value) (xs:List Value) (hs:a.eval s=sv) (bh:Jo w B e sv xs)
  (E:Addr) (c:Nat) (y:List Value) (br:a.eval x=.slice (some E) y.length c) (bn:∀ j u,y[j]?=some u→w.cell? (E.add j)=some u) (H:∀ u∈y,u.oneCell'=true) (bc:xs.length+y.length≤1000000) (U:B≤w.heap.size)
  (h:∀ sv' w',Jo w' B e sv' (xs++y)→w.grownBy w' sv.ownBlock→(sv'.ownBlock=sv.ownBlock∨sv'.ownBlock=some w.heap.size)→wpList prog K Q rest (a.put o.dst sv') w') :
  wpList prog K Q (o::rest) a w:=by
 obtain⟨i,hi,bx,bi,X⟩:=info_parts ba;refine wpList_append_own_at w Z s x t bf B e i _ 1 D bj hi bx bi X bz (by decide) sv xs.length xs hs bh E y.length c y br (by simp) bn H ?_ ?_ U ?_
 ·unfold maxLen;omega
 ·have:(xs.length+y.length)*D≤1000000*64:=Ol5 bc Y;omega
 intro v' w' H O _ R;refine h v' w' ?_ O R;unfold Jo;simpa using H
theorem Juw (y:DS)(i:Nat):(Jae y i).pages.length=y.pages.length:=by unfold Jae;split<;>simp
theorem Jrz (l:List Nat):∀ y:DS,(Jf4 y l).pages.length=y.pages.length:=by
 induction l with
 |nil=>intro y;rfl
 |cons i l D=>intro y;show (Jf4 (Jae y i) l).pages.length=_;rw[D,Juw]
theorem Jt4 (D:List (List Nat)):∀ y:DS,(Jcg y D).pages.length=y.pages.length:=by
 induction D with
 |nil=>intro y;rfl
 |cons l D E=>intro y;show (Jcg (Jf4 y l) D).pages.length=_;rw[E,Jrz]
theorem Jrh:∀ (ps:List (List UInt8))(y:DS),(Uy y ps).1.pages.length≤y.pages.length+ps.length∧(Uy y ps).2.1.length≤ps.length
 |[],y=>by simp[Uy]
 |p::ps,y=>by
  unfold Uy;split
  ·simp
  split
  ·simp[Jvn]
  have:=Jrh ps (Zn y p);have D:=Jxm y p;simp;omega
def Jch (ts:List (List UInt8)):Nat:=(ts.map fun t=>(Qu t).length).sum
theorem Ja1 (t:List UInt8)(ts:List (List UInt8)):Jch (t::ts)=(Qu t).length+Jch ts:=by simp[Jch]
def tv (t:List UInt8):Value:=.string (Qw t)
theorem Kks (s d:Nat)(a:Option Addr)(cap:Nat)(ts:List (List UInt8))(w:World)(F:Nat→Prop)(H:DS)(h:Zb w F d H)(hF:∀ k,F k→k<w.heap.size)(Y:Uh w a (ts.map tv))(ca:∀ b o,a=some ⟨b,o,none⟩→¬ F b)(bD:w.cell? ⟨s,0,none⟩=some (.pointer (some ⟨d,0,none⟩)))(bG:¬ F s)(q bI:Addr)
  (bc:w.cell? ⟨6,0,none⟩=some (.iface 433 (.pointer (some q)))) (bT:w.cell? ⟨7,0,none⟩=some (.iface 433 (.pointer (some bI)))) (bL:¬ F 6) (bM:¬ F 7) (cv:H.pages.length+Jch ts≤800000) (cE:ts.length≤100000) (bR:∀ t∈ts,t.length≤1000000) :
  Calls prog 46 #[.pointer (some ⟨s,0,none⟩),.slice a ts.length cap] w fun e w'=>Jxo w F d q bI (Jq H ts) e w':=by
 have bV:Hid (∀ t∈ts,t.length≤1000000):=bR;clear bR;go_enter func46,ntmps46
 go_wp2;go_loopw [6,13] (fun sv i wr=>∃ (k:Nat) (E:DS) (hs:List (Option Addr×Nat)) (y:List (List Nat)) (FD:Nat→Prop),k≤ts.length∧i=.int .i64 k∧y.length≤k∧E.pages.length+Jch (ts.drop k)≤800000∧Kiu w F wr d E sv hs y FD∧Hid ((∀ l∈y,l.length≤1000000)∧Jq H ts=Kit y (Jq E (ts.drop k)))) (fun _ i _=>ts.length-(intOf i).toNat)
 case atStart=>exact⟨0,H,[],[],F,Ob7 _,rfl,Oa2 _,by simpa using cv,⟨h,fun k O=>.inl O,hF,Jo.nil _ _ _,rfl,fun i h l hi=>by simp at hi,fun i h hi=>by simp at hi,fun g ci=>by simp[Value.ownBlock]at ci,Ju.refl _ _⟩,by show _∧_;exact⟨by simp,by simp[Kit]⟩⟩
 case round=>
  rename_i sv i
  obtain⟨k,E,hs,y,FD,O,rfl,cD,ch,hL,K⟩:=hrel;by_cases br:k<ts.length
  ·have Z:Hid (ts.drop k=ts[k]::ts.drop (k+1)):=Oi1 br;rw[Z.out,Ja1]at ch;rcases Y with Y|⟨b,o,rfl,cC,Y⟩
   ·simp at Y;subst Y;simp at br
   have cB:wr.cell? ⟨b,o+k,none⟩=some (.string (Qw ts[k])):=hL.keep.cell (Y k _ (by simp[br];rfl)) (ca b o rfl);have c0:=hL.keep.cell bD bG;have bC:=Kkq d ts[k] wr FD E hL.disk hL.lt q bI (hL.keep.cell bc bL) (hL.keep.cell bT bM) (fun hf=>?_) (fun hf=>?_) (by omega) (bV.out _ (Ob3 br))
   ·obtain⟨bJ,bK,bf,_⟩:=hL.own.cells;have bh:(List.zipWith Kh8 hs y).length=y.length:=(by simp[hL.len]);rw[bh]at bf;have bW:Hid ((List.zipWith Kh8 hs y).length=y.length):=bh;clear bh;subst bf;have bN:∀ (D:Nat→Prop),(∀ k,D k→FD k∨wr.heap.size≤k)→∀ k,k<w.heap.size→D k→F k:=fun D bn k O hf=>by
     have:=hL.keep.size;rcases bn k hf with h|h
     ·exact(hL.from_ k h).resolve_right (by omega)
     omega
    have bi:=bN;replace bi:Hid (∀ (D:Nat→Prop),(∀ k,D k→FD k∨wr.heap.size≤k)→∀ k,k<w.heap.size→D k→F k):=bi;clear bN;have U:Hid (Kiu w F wr d E (.slice bJ y.length bK) hs y FD):=hL;have cx:=hL.keep.size;clear hL;rcases hr:Uy E (Qu ts[k])with⟨E1,l,r⟩;have bO:=Jrh (Qu ts[k]) E;rw[hr]at bC bO;simp only at bO;cases r with
    |none=>
     have ba:Hid ((∀ bH∈y++[l],bH.length≤1000000)∧Jq H ts=Kit (y++[l]) (Jq E1 (ts.drop (k+1)))):=by
      refine⟨fun bH cj=>?_,by rw[K.out.2,Z.out,Kjf hr]⟩;rcases Od2.1 cj with h|h
      ·exact K.out.1 bH h
      simp at h;subst h;omega
     clear K Z hr;generalize ts[k]=tk at *;go_wp2_with (first|(go_at_call 65;refine bC.mono ?_;rintro e bj ⟨R,D,bz,X,bB,cF,rfl,bQ,bZ⟩;obtain⟨bx,c1,bE,_⟩:=bQ.cells;rw[Oa6]at bE;subst bE;have bE:=R.size)|(at_builtin;go_must (refine Ul (by rfl) _ _ 88 22 _ 24 Jzf (by rfl) (by decide) (by kernel_rfl) (by rfl) w.heap.size _ _ (by rfl) (Jo.alloc (U.out.stand R).1 _) ⟨bj.heap.size,0,none⟩ 1 [.slice bx l.length c1] (by rfl) (by exact Ua bj _ _) (by intro u bS;simp at bS;subst bS;rfl) (by rw[bW.out];simp only[List.length_cons,List.length_nil];omega) (by simp;omega) ?_);intro sv' cG bn bX bY;obtain⟨cz,cA,rfl,_⟩:=bn.cells))
     go_roundw
     case rel=>
      have bc:=U.out.more R bz X bB bx c1 l bQ bZ _ bn bX bY;simp only[Oa8,Oj8,List.length_cons,List.length_nil,Od0]at bc;exact⟨k+1,E1,_,_,_,by omega,by go_num,by simp;omega,by omega,bc,ba.out⟩
     case measure=>simp[intOf];omega
    |some x=>
     have ba:Hid (Jq H ts=(Jf4 E1 l,y,some x)):=by show _=_;rw[K.out.2,Z.out,Kjv hr]
     have bU:Hid (∀ l∈y,l.length≤1000000):=K.out.1;clear K Z hr;generalize ts[k]=tk at *;go_wp2_with (first|(go_at_call 65;refine bC.mono ?_;rintro e bj ⟨R,D,bz,X,bB,b1,rfl,cb,cc,bP⟩;have cu:=U.out.done.stands R.size (fun k O hl=>R.block k hl O.2.2);have cn:=Kjd s d bJ bK hs y bj D _ _ bz cu (fun k O hf=>(X k hf).elim O.2.2 (fun h=>absurd O.2.1 (by omega))) (R.cell c0 (fun hf=>(U.out.from_ s hf).elim bG (fun h=>by have:=Jm bD;simp at this;omega))) (fun hf=>bG (bi.out D X s (Jm bD) hf)) (by omega) bU.out)|(go_at_call 66;refine cn.mono ?_;rintro e cy ⟨rfl,cf,bA⟩))
     go_ret2
     rw[ba.out];exact⟨(U.out.stand R).2.1.trans' bA (bi.out D X),D,cf,fun k hf=>(X k hf).elim (U.out.from_ k) fun h=>.inr (by omega),fun k hf=>Oc2 (bB k hf) bA.size,b1,rfl,Ob2 cx cb,Ki6 cc bA bP,bP⟩
   ·exact(hL.from_ _ hf).elim bL fun h=>by have:=Jm bc;simp at this;omega
   exact(hL.from_ _ hf).elim bM fun h=>by have:=Jm bT;simp at this;omega
  obtain rfl:k=ts.length:=by omega
  obtain⟨bx,c1,bf,_⟩:=hL.own.cells;have bh:(List.zipWith Kh8 hs y).length=y.length:=by simp[hL.len]
  rw[bh]at bf;subst bf;have ba:Hid (Jq H ts=(E,y,none)):=by show _=_;rw[K.out.2,List.drop_length];simp[Kit,Jq]
  clear K;go_wp2;go_ret2
  rw[ba.out];exact⟨hL.keep,FD,hL.disk,hL.from_,hL.lt,_,_,hs,rfl,hL.done,Kku hL.own⟩
end
section
open Go.RowKit
theorem Jyf : (Tryz.prog.fieldsOf 45).toList.map (fun f => (f.name, f.type, f.offset)) = [("Code", 43, 0), ("Node", 3, 1), ("Row", 3, 2), ("Column", 3, 3), ("Page", 3, 4)] := by kernel_rfl
theorem Kef:Tryz.prog.underlying 45=some (.struct (Tryz.prog.fieldsOf 45)):=by kernel_rfl
theorem Kh3:Tryz.prog.stoodInHeld 45=false:=by kernel_rfl
theorem Js7 (w:World)(c:Int):(Op.equal 45 (Jb6 c) (Jb6 c)).run Tryz.prog w=.ok true w:=by
 rw[Op.equal,Op.maxDepth,run_equalIn_struct w 9999 45 _ _ Kef Kh3];have h:=Jyf;generalize (Tryz.prog.fieldsOf 45).toList=y at h;rcases y with _|⟨bj,_|⟨bn,_|⟨br,_|⟨bx,_|⟨bz,_|⟨bA,y⟩⟩⟩⟩⟩⟩
 ·simp at h
 ·simp at h
 ·simp at h
 ·simp at h
 ·simp at h
 ·simp at h;obtain⟨⟨D,E,H⟩,⟨K,O,R⟩,⟨U,X,Y⟩,⟨Z,ba,bc⟩,bf,bh,bi⟩:=h;simp[Op.eqFields,D,E,H,K,O,R,U,X,Y,Z,ba,bc,bf,bh,bi,part,sizeOf,go_sem]
 simp at h
theorem Jjl (c:Int)(w:World):(binOp .eql 45 (Jb6 c) (Jb6 c)).run Tryz.prog w=.ok (.bool true) w:=by
 simp[binOp,Js7]
theorem Kwm (c:Int)(w:World):(binOp .neq 45 (Jb6 c) (Jb6 c)).run Tryz.prog w=.ok (.bool false) w:=by
 simp[binOp,Js7]
end
end Go.Proofs.YtpchafocmlhmbaaGreatDoor
