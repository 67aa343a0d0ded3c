/- The disk in memory: its fields, its list of pages, the pages themselves; what stands when something else turns. -/
import Derived.Test.YtdlgbphkaicfaaaGreatDoorIv
import Derived.Test.YtdlgbphkaicfaaaGreatDoorEw
set_option maxHeartbeats 2000000
set_option maxRecDepth 100000
namespace Go.Proofs.YtdlgbphkaicfaaaGreatDoor
open Go.RowKit Tryz
structure Ju (F:Nat→Prop) (w w':World):Prop where
 os:w'.os=w.os
 tape:w'.tape=w.tape
 output:w'.output=w.output
 size:w.heap.size≤w'.heap.size
 block:∀ k,k<w.heap.size→¬ F k→w'.heap[k]?=w.heap[k]?
theorem Ju.refl (F:Nat→Prop)(w:World):Ju F w w:=⟨rfl,rfl,rfl,Oa2 _,fun _ _ _=>rfl⟩
theorem Ju.trans {F:Nat→Prop}{a b c:World}(h:Ju F a b)(k:Ju F b c):Ju F a c:=
 ⟨k.os.trans h.os,k.tape.trans h.tape,k.output.trans h.output,Ob2 h.size k.size,fun i hi hn=>(k.block i (Oc2 hi h.size) hn).trans (h.block i hi hn)⟩
theorem Ju.trans' {F G:Nat→Prop}{a b c:World}(h:Ju F a b)(k:Ju G b c)(y:∀ i,i<a.heap.size→G i→F i):Ju F a c:=
 ⟨k.os.trans h.os,k.tape.trans h.tape,k.output.trans h.output,Ob2 h.size k.size,fun i hi hn=>(k.block i (Oc2 hi h.size) (fun A=>hn (y i hi A))).trans (h.block i hi hn)⟩
theorem Ju.mono {F G:Nat→Prop}{w w':World}(h:Ju F w w')(A:∀ k,k<w.heap.size→F k→G k):Ju G w w':=
 ⟨h.os,h.tape,h.output,h.size,fun k y hn=>h.block k y (fun hf=>hn (A k y hf))⟩
theorem Ju.of_below {F:Nat→Prop}{w w':World}(h:Below w.heap.size w w'):Ju F w w':=⟨h.os,h.tape,h.output,h.size,fun k y _=>h.block k y⟩
theorem Ju.alloc {F:Nat→Prop}{w w':World}(h:Ju F w w')(o:Obj):Ju F w (w'.alloc o):=h.trans (.of_below ((Oa5 _ _).alloc (Oa2 _) _))
theorem Ju.set {F:Nat→Prop}{w w':World}(h:Ju F w w'){b:Nat}(y:F b)(i:Nat)(v:Value):Ju F w (w'.setCell ⟨b,i,none⟩ v):=
 h.trans ⟨rfl,rfl,rfl,by simp[World.setCell],fun k _ hn=>Oa4 _ _ _ _ (fun e=>hn (by rw[e];exact y))⟩
theorem Ju.below {F:Nat→Prop}{w w':World}(h:Ju F w w'){B:Nat}(hF:∀ k,k<B→¬ F k)(A:B≤w.heap.size):Below B w w':=⟨h.os,h.tape,h.output,h.size,fun k y=>h.block k (by omega) (hF k y)⟩
theorem Ju.cell {F:Nat→Prop}{w w':World}(h:Ju F w w'){b o:Nat}{v:Value}(y:w.cell? ⟨b,o,none⟩=some v)(hn:¬ F b):w'.cell? ⟨b,o,none⟩=some v:=by
 rw[Oc3 (w:=w) (h.block b (Jm y) hn)];exact y
theorem Ju.drewN {F:Nat→Prop}{w w':World}(h:Ju F w w')(n:Nat):Ju F w (w'.drewN n):=⟨h.os,h.tape,h.output,h.size,h.block⟩
def up (F:Nat→Prop)(w:World):Nat→Prop:=fun k=>F k∨w.heap.size≤k
theorem Ju.down {F:Nat→Prop}{w w':World}(h:Ju (up F w) w w'):Ju F w w':=h.mono fun k y A=>A.elim id (fun h=>absurd y (by omega))
structure DS where
 quota:Int
 fail:Int
 writes:Int
 lowest:Nat
 pages:List (Option (List UInt8))
def Js (l:List (Option (List UInt8))):Nat:=l.countP Option.isSome
theorem Kad (l:List (Option (List UInt8))):Js l≤l.length:=List.countP_le_length
def Kew:Option Nat→Value
 |none=>.pointer none
 |some b=>.pointer (some ⟨b,0,none⟩)
structure Jf1 (w:World) (F:Nat→Prop) (d:Nat) (D:DS) (sv:Value) (ps:List (Option Nat)):Prop where
 cells:w.heap[d]?=some (.cells #[.int .i64 D.quota,.int .i64 D.fail,.int .i64 D.writes,.int .i64 ((Js D.pages:Nat):Int),.int .i64 ((D.lowest:Nat):Int),sv] 113 (0,0))
 own:Jo w 0 249 sv (ps.map Kew)
 ownF:∀ g,sv.ownBlock=some g→F g∧g≠d
 dF:F d
 len:ps.length=D.pages.length
 page:∀ (i b:Nat),ps[i]?=some (some b)→F b∧b≠d∧sv.ownBlock≠some b∧∃ p,D.pages[i]?=some (some p)∧Jdp w b p
 vacant:∀ i:Nat,ps[i]?=some Option.none→D.pages[i]?=some Option.none
 inj:∀ (i j b:Nat),ps[i]?=some (some b)→ps[j]?=some (some b)→i=j
 low:D.lowest≤D.pages.length
 full:∀ i:Nat,i<D.lowest→∃ p,D.pages[i]?=some (some p)
 small:D.pages.length≤900000
def Zb (w:World)(F:Nat→Prop)(d:Nat)(y:DS):Prop:=∃ sv ps,Jf1 w F d y sv ps
theorem Qk {w:World}{B:Nat}{e:TypeId}{sv:Value}{xs:List Value}{g:Nat}(h:Jo w B e sv xs)(y:sv.ownBlock=some g):g<w.heap.size:=by
 rcases h.2 with⟨A,_⟩|⟨H,cap,E,A,_,D,_⟩
 ·subst A;simp[Value.ownBlock]at y
 subst A
 simp[Value.ownBlock]at y
 subst y
 exact Jd D
theorem Yd {w w':World}{B:Nat}{e:TypeId}{sv:Value}{xs:List Value}(h:Jo w B e sv xs)(K:∀ g,sv.ownBlock=some g→w'.heap[g]?=w.heap[g]?):Jo w' B e sv xs:=by
 refine⟨h.1,?_⟩
 rcases h.2 with h|⟨y,cap,D,A,E,H,M⟩
 ·exact .inl h
 refine .inr ⟨y,cap,D,A,E,?_,M⟩
 rw[K y (by subst A;simp[Value.ownBlock])]
 exact H
theorem Jf1.stands {w w':World}{F:Nat→Prop}{d:Nat}{A:DS}{sv:Value}{ps:List (Option Nat)}(h:Jf1 w F d A sv ps)(y:∀ k,F k→k<w.heap.size→w'.heap[k]?=w.heap[k]?):Jf1 w' F d A sv ps:=
 ⟨by rw[y d h.dF (Jd h.cells)];exact h.cells,Yd h.own fun g D=>y g (h.ownF g D).1 (Qk h.own D),h.ownF,h.dF,h.len,
  fun i b hi=>by obtain⟨f,K,M,p,H,E⟩:=h.page i b hi;exact⟨f,K,M,p,H,E.of_block (y b f E.2.lt)⟩,h.vacant,h.inj,h.low,h.full,h.small⟩
theorem Zb.stands {w w':World}{F:Nat→Prop}{d:Nat}{y:DS}(h:Zb w F d y)(A:∀ k,F k→k<w.heap.size→w'.heap[k]?=w.heap[k]?):Zb w' F d y:=by
 obtain⟨sv,ps,h⟩:=h
 exact⟨sv,ps,h.stands A⟩
theorem Jf1.below {w w':World}{F:Nat→Prop}{d:Nat}{y:DS}{sv:Value}{ps:List (Option Nat)}(h:Jf1 w F d y sv ps)(A:Below w.heap.size w w'):Jf1 w' F d y sv ps:=h.stands fun k _ D=>A.block k D
theorem Zb.below {w w':World}{F:Nat→Prop}{d:Nat}{y:DS}(h:Zb w F d y)(A:Below w.heap.size w w'):Zb w' F d y:=h.stands fun k _ D=>A.block k D
theorem Jf1.mono {w:World}{F G:Nat→Prop}{d:Nat}{D:DS}{sv:Value}{ps:List (Option Nat)}(h:Jf1 w F d D sv ps)(y:∀ k,k<w.heap.size→F k→G k):Jf1 w G d D sv ps:=
 ⟨h.cells,h.own,fun g A=>⟨y g (Qk h.own A) (h.ownF g A).1,(h.ownF g A).2⟩,y d (Jd h.cells) h.dF,h.len,
  fun i b hi=>by obtain⟨f,K,M,p,H,E⟩:=h.page i b hi;exact⟨y b E.2.lt f,K,M,p,H,E⟩,h.vacant,h.inj,h.low,h.full,h.small⟩
theorem Zb.mono {w:World}{F G:Nat→Prop}{d:Nat}{y:DS}(h:Zb w F d y)(A:∀ k,k<w.heap.size→F k→G k):Zb w G d y:=by
 obtain⟨sv,ps,h⟩:=h
 exact⟨sv,ps,h.mono A⟩
theorem Jf1.field {w:World}{F:Nat→Prop}{d:Nat}{y:DS}{sv:Value}{ps:List (Option Nat)}(h:Jf1 w F d y sv ps) :
  w.cell? ⟨d,0,.none⟩=some (.int .i64 y.quota)∧w.cell? ⟨d,1,.none⟩=some (.int .i64 y.fail)∧w.cell? ⟨d,2,.none⟩=some (.int .i64 y.writes)∧w.cell? ⟨d,3,.none⟩=some (.int .i64 ((Js y.pages:Nat):Int)) ∧
   w.cell? ⟨d,4,.none⟩=some (.int .i64 ((y.lowest:Nat):Int))∧w.cell? ⟨d,5,.none⟩=some sv:=by
 simp[World.cell?,h.cells]
theorem Jf1.thaw {w:World}{F:Nat→Prop}{d:Nat}{y:DS}{sv:Value}{ps:List (Option Nat)}(h:Jf1 w F d y sv ps)(i:Nat):w.frozen? ⟨d,i,.none⟩=false:=by simp[World.frozen?,h.cells]
theorem Ji8 {w:World}{B:Nat}{e:TypeId}{sv:Value}{xs:List Value}(h:Jo w B e sv xs):∃ a cap,sv=.slice a xs.length cap∧∀ i x,xs[i]?=some x→∃ g,a=some ⟨g,0,none⟩∧sv.ownBlock=some g∧w.cell? ⟨g,i,none⟩=some x∧w.frozen? ⟨g,i,none⟩=false:=by
 rcases h.2 with⟨A,h0⟩|⟨g,cap,K,A,_,E,M,_,O,H⟩
 ·refine⟨none,0,by rw[A,h0],fun i x y=>?_⟩
  rw[Od3.1 h0]at y
  simp at y
 refine⟨some ⟨g,0,none⟩,cap,A,fun i x y=>⟨g,rfl,by subst A;simp[Value.ownBlock],?_,by simp[World.frozen?,E]⟩⟩
 have hi:i<xs.length:=by
  rcases Oc1 i xs.length with D|D
  ·exact D
  rw[Ob4 D]at y;simp at y
 rw[←H]at y
 rw[Nat.mul_one,Oh3 hi,Oe6]at y
 simp[World.cell?,E,y]
def Jai (l:List (Option (List UInt8)))(page:Int):Bool:=decide (0≤page∧page<l.length)&&(l.getD page.toNat .none).isSome
theorem Jf1.list {w:World}{F:Nat→Prop}{d:Nat}{A:DS}{sv:Value}{ps:List (Option Nat)}(h:Jf1 w F d A sv ps) :
  ∃ a cap,sv=.slice a ps.length cap∧∀ (i:Nat) (hi:i<ps.length),∃ g,a=some ⟨g,0,none⟩∧F g∧g≠d∧w.cell? ⟨g,i,none⟩=some (Kew ps[i])∧w.frozen? ⟨g,i,none⟩=false:=by
 obtain⟨a,cap,y,H⟩:=Ji8 h.own
 rw[Oa6]at y
 refine⟨a,cap,y,fun i hi=>?_⟩
 obtain⟨g,h1,h2,D,E⟩:=H i (Kew ps[i]) (by simp[hi])
 exact⟨g,h1,(h.ownF g h2).1,(h.ownF g h2).2,D,E⟩
theorem Jf1.which {w:World}{F:Nat→Prop}{d:Nat}{y:DS}{sv:Value}{ps:List (Option Nat)}(h:Jf1 w F d y sv ps)(i:Nat)(hi:i<ps.length):(y.pages.getD i none).isSome=ps[i].isSome:=by
 cases hq:ps[i]with
 |none=>rw[Oa0,h.vacant i (by rw[←hq];simp[hi])];rfl
 |some b=>obtain⟨_,_,_,p,A,_⟩:=h.page i b (by rw[←hq];simp[hi]);rw[Oa0,A];rfl
theorem Jwv (d:Nat)(page:Int)(w:World)(F:Nat→Prop)(D:DS)(h:Zb w F d D) :
  Calls prog 128 #[.pointer (some ⟨d,0,none⟩),.int .i64 page] w fun e w'=>e=.returned (.bool (Jai D.pages page))∧w'=w:=by
 obtain⟨sv,ps,h⟩:=h
 obtain⟨_,_,_,_,_,c5⟩:=h.field
 obtain⟨a,cap,rfl,y⟩:=h.list
 have A:=h.len
 unfold Jai
 rw[←A]
 by_cases h0:0≤page
 ·obtain⟨i,rfl⟩:=Int.eq_ofNat_of_zero_le h0
  by_cases hi:i<ps.length
  ·obtain⟨g,rfl,_,_,c,f⟩:=y i hi
   have E:=h.which i hi
   have H:(i:Int)<(ps.length:Int):=by omega
   rw[show (Int.toNat (i:Int))=i from rfl,E]
   clear E y h A
   cases hq:ps[i]with
   |none=>
    rw[hq]at c
    simp only[Kew]at c
    go_enter func128,ntmps128
    go_wp2
    go_ret
    exact⟨Qr (by simp),rfl⟩
   |some b=>
    rw[hq]at c
    simp only[Kew]at c
    go_enter func128,ntmps128
    go_wp2
    go_ret
    exact⟨Qr (by simp[hi]),rfl⟩
  have H:¬ (i:Int)<(ps.length:Int):=by omega
  clear y h A
  go_enter func128,ntmps128
  go_wp2
  go_ret
  exact⟨Qr (by first|(simp;done)|(simp;omega)),rfl⟩
 clear y h A
 go_enter func128,ntmps128
 go_wp2
 go_ret
 exact⟨Qr (by first|(simp;done)|(simp;omega)),rfl⟩
def Ku (q f:Int):DS:=⟨q,f,0,0,[]⟩
theorem Kcn (q f:Int)(w:World) :
  Calls prog 27 #[.agg #[.int .i64 q,.int .i64 f]] w fun e w'=>∃ b,e=.returned (.pointer (some ⟨b,0,none⟩))∧w.heap.size≤b∧Zb w' (fun k=>k=b) b (Ku q f)∧Below w.heap.size w w':=by
 go_enter func27,ntmps27
 go_wp2
 go_ret
 refine⟨_,rfl,?_,⟨.slice none 0 0,[],?_,Jo.nil _ _ _,?_,rfl,rfl,?_,?_,?_,?_,?_,?_⟩,?_⟩
 ·simp
 ·have:=heap_alloc_new (w.alloc (.cells #[.int .i64 q,.int .i64 f] 33)) (.cells #[.int .i64 q,.int .i64 f,.int .i64 0,.int .i64 0,.int .i64 0,.slice none 0 0] 113)
  rw[Oa7]at this
  exact this
 ·intro g y;simp[Value.ownBlock]at y
 ·intro i b hi;simp at hi
 ·intro i hi;simp at hi
 ·intro i j b hi;simp at hi
 ·simp[Ku]
 ·intro i hi;simp[Ku]at hi
 ·simp[Ku]
 exact((Oa5 _ _).alloc (Oa2 _) _).alloc (by simp) _
end Go.Proofs.YtdlgbphkaicfaaaGreatDoor
namespace Go.Proofs.YtdlgbphkaicfaaaGreatDoor
open Go.RowKit Tryz
theorem Kji:(prog.info? 249).map (fun i=>(i.zero,i.size,i.bytes))=some (some (.pointer none),1,8):=by kernel_rfl
theorem Jf1.turn {w w':World}{F:Nat→Prop}{d:Nat}{y:DS}{sv:Value}{ps:List (Option Nat)}(h:Jf1 w F d y sv ps)(wr:Int)(lo:Nat)
  (K:w'.heap[d]?=some (.cells #[.int .i64 y.quota,.int .i64 y.fail,.int .i64 wr,.int .i64 ((Js y.pages:Nat):Int),.int .i64 ((lo:Nat):Int),sv] 113 (0,0)))
  (D:∀ k,k≠d→k<w.heap.size→w'.heap[k]?=w.heap[k]?) (O:lo≤y.pages.length) (M:∀ i,i<lo→∃ p,y.pages[i]?=some (some p)):Jf1 w' F d ⟨y.quota,y.fail,wr,lo,y.pages⟩ sv ps:=
 ⟨K,Yd h.own fun g A=>D g (h.ownF g A).2 (Qk h.own A),h.ownF,h.dF,h.len,
  fun i b hi=>by obtain⟨f,H,U,p,R,E⟩:=h.page i b hi;exact⟨f,H,U,p,R,E.of_block (D b H E.2.lt)⟩,h.vacant,h.inj,O,M,h.small⟩
theorem Jf1.setLow {w:World}{F:Nat→Prop}{d:Nat}{y:DS}{sv:Value}{ps:List (Option Nat)}(h:Jf1 w F d y sv ps)(lo:Nat)(E:lo≤y.pages.length)(A:∀ i,i<lo→∃ p,y.pages[i]?=some (some p)) :
  Jf1 (w.setCell ⟨d,4,none⟩ (.int .i64 ((lo:Nat):Int))) F d ⟨y.quota,y.fail,y.writes,lo,y.pages⟩ sv ps:=
 h.turn y.writes lo (by have:=Jk h.cells 4 (.int .i64 ((lo:Nat):Int));simpa using this) (fun k D _=>Oa4 _ _ _ _ D) E A
theorem Jf1.setWrites {w:World}{F:Nat→Prop}{d:Nat}{y:DS}{sv:Value}{ps:List (Option Nat)}(h:Jf1 w F d y sv ps)(wr:Int) :
  Jf1 (w.setCell ⟨d,2,none⟩ (.int .i64 wr)) F d ⟨y.quota,y.fail,wr,y.lowest,y.pages⟩ sv ps:=
 h.turn wr y.lowest (by have:=Jk h.cells 2 (.int .i64 wr);simpa using this) (fun k A _=>Oa4 _ _ _ _ A) h.low h.full
theorem Jf1.longer {w w1:World}{F:Nat→Prop}{d:Nat}{A:DS}{sv sv':Value}{ps:List (Option Nat)}(h:Jf1 w F d A sv ps)(bi:∀ k,w.heap.size≤k→F k)(bf:Jo w1 0 249 sv' (ps.map Kew++[.pointer none]))
  (M:∀ k,k<w.heap.size→sv.ownBlock≠some k→w1.heap[k]?=w.heap[k]?) (y:sv'.ownBlock=sv.ownBlock∨∃ n,sv'.ownBlock=some n∧w.heap.size≤n) (bj:A.pages.length<900000) :
  Jf1 (w1.setCell ⟨d,5,none⟩ sv') F d ⟨A.quota,A.fail,A.writes,A.lowest,A.pages++[none]⟩ sv' (ps++[none]):=by
 have ba:=Jd h.cells
 have O:∀ g,sv'.ownBlock=some g→g≠d:=by
  intro g E bb
  rcases y with y|⟨n,y,hn⟩
  ·rw[y]at E;exact(h.ownF g E).2 bb
  rw[y]at E;cases E;omega
 have Z:w1.heap[d]?=some (.cells #[.int .i64 A.quota,.int .i64 A.fail,.int .i64 A.writes,.int .i64 ((Js A.pages:Nat):Int),.int .i64 ((A.lowest:Nat):Int),sv] 113 (0,0)):=by
  rw[M d ba (fun e=>(h.ownF d e).2 rfl)];exact h.cells
 have bh:Js (A.pages++[none])=Js A.pages:=by simp[Js,List.countP_append]
 refine⟨?_,?_,?_,h.dF,by simp[h.len],?_,?_,?_,?_,?_,by simp;omega⟩
 ·have:=Jk Z 5 sv'
  rw[bh]
  simpa using this
 ·have:(ps++[none]).map Kew=ps.map Kew++[.pointer none]:=by simp[Kew]
  rw[this]
  exact Yd bf fun g E=>Oa4 _ _ _ _ (O g E)
 ·intro g E
  refine⟨?_,O g E⟩
  rcases y with y|⟨n,y,hn⟩
  ·rw[y]at E;exact(h.ownF g E).1
  rw[y]at E;cases E;exact bi _ hn
 ·intro i b hi
  rcases Oc1 i ps.length with D|D
  ·rw[Ob0 D]at hi
   obtain⟨f,U,X,p,H,K⟩:=h.page i b hi
   refine⟨f,U,?_,p,?_,?_⟩
   ·rcases y with y|⟨n,y,hn⟩
    ·rw[y];exact X
    rw[y]
    intro e
    have:=K.2.lt
    cases e
    omega
   ·rw[Ob0 (by rw[←h.len];exact D)];exact H
   refine K.of_block ?_
   rw[Oa4 _ _ _ _ U]
   exact M b K.2.lt X
  rw[Ob6 D]at hi
  rcases hz:i-ps.length with _|z
  ·rw[hz]at hi;simp at hi
  rw[hz]at hi;simp at hi
 ·intro i hi
  rcases Oc1 i ps.length with D|D
  ·rw[Ob0 D]at hi
   rw[Ob0 (by rw[←h.len];exact D)]
   exact h.vacant i hi
  have:i=ps.length:=by
   rcases Oc1 i (ps.length+1)with h2|h2
   ·omega
   ·rw[Ob4 (by simp;omega)]at hi;simp at hi
  subst this
  rw[h.len]
  simp
 ·intro i j b hi bc
  have R:∀ i:Nat,(ps++[none])[i]?=some (some b)→ps[i]?=some (some b):=by
   intro i hi
   rcases Oc1 i ps.length with D|D
   ·rwa [Ob0 D]at hi
   rw[Ob6 D]at hi
   rcases hz:i-ps.length with _|z
   ·rw[hz]at hi;simp at hi
   rw[hz]at hi;simp at hi
  exact h.inj i j b (R i hi) (R j bc)
 ·simp;have:=h.low;omega
 intro i hi
 obtain⟨p,H⟩:=h.full i hi
 refine⟨p,?_⟩
 rw[Ob0]
 ·exact H
 have:=h.low;simp at hi ⊢;omega
def Kb:List (Option (List UInt8))→Nat
 |[]=>0
 |none::_=>0
 |some _::l=>Kb l+1
theorem Jeu:∀ l,Kb l≤l.length
 |[]=>Oa2 _
 |none::_=>by simp[Kb]
 |some _::l=>by simp[Kb];exact Jeu l
theorem Kiv:∀ (l:List (Option (List UInt8)))(i:Nat),i<Kb l→∃ p,l[i]?=some (some p)
 |[],i,h=>by simp[Kb]at h
 |none::_,i,h=>by simp[Kb]at h
 |some x::l,0,_=>⟨x,rfl⟩
 |some x::l,i+1,h=>by
  obtain⟨p,y⟩:=Kiv l i (by simp[Kb]at h;omega)
  exact⟨p,by simpa using y⟩
theorem Jc3:∀ (l:List (Option (List UInt8))),Kb l<l.length→l[Kb l]?=some none
 |[],h=>by simp at h
 |none::_,_=>rfl
 |some x::l,h=>by simpa [Kb] using Jc3 l (by simp[Kb]at h;omega)
theorem Kjh (l:List (Option (List UInt8)))(k:Nat)(h:∀ i,i<k→∃ p,l[i]?=some (some p))(D:k≤l.length):k≤Kb l:=by
 rcases Oc1 (Kb l) k with y|y
 ·obtain⟨p,A⟩:=h _ y
  rw[Jc3 l (by omega)]at A
  simp at A
 exact y
def Ki1 (y:DS):DS:=⟨y.quota,y.fail,y.writes,Kb y.pages,if Kb y.pages<y.pages.length then y.pages else y.pages++[none]⟩
theorem Jtc {l:List (Option (List UInt8))}{i:Nat}{p:List UInt8}(h:l[i]?=some (some p)):Jai l (i:Int)=true:=by
 have hi:i<l.length:=by
  rcases Oc1 i l.length with y|y
  ·exact y
  rw[Ob4 y]at h;simp at h
 unfold Jai
 rw[Og5,decide_eq_true_eq,Oa0,show (Int.toNat (i:Int))=i from rfl,h]
 exact⟨by omega,rfl⟩
theorem Jsj (l:List (Option (List UInt8))):Jai l ((Kb l:Nat):Int)=false:=by
 unfold Jai
 rw[Bool.and_eq_false_iff]
 rcases Oc1 (Kb l) l.length with y|y
 ·right
  rw[Oa0,show (Int.toNat ((Kb l:Nat):Int))=Kb l from rfl,Jc3 l y]
  rfl
 left
 simp
 omega
theorem Kkj (d:Nat)(w:World)(F:Nat→Prop)(y:DS)(h:Zb w F d y)(bC:∀ k,w.heap.size≤k→F k)(bj:y.pages.length<900000) :
  Calls prog 126 #[.pointer (some ⟨d,0,none⟩)] w fun e w'=>e=.returned (.int .i64 ((Kb y.pages:Nat):Int)) ∧
   Zb w' F d (Ki1 y)∧Ju F w w':=by
 obtain⟨sv,ps,h⟩:=h
 go_enter func126,ntmps126
 go_wp2
 go_loopw [8] (fun _ wr=>∃ k:Nat,k≤Kb y.pages∧Jf1 wr F d ⟨y.quota,y.fail,y.writes,k,y.pages⟩ sv ps∧Ju F w wr) (fun _ wr=>y.pages.length+1-(intOf ((wr.cell? ⟨d,4,none⟩).getD undef)).toNat)
 case atStart=>exact⟨y.lowest,Kjh _ _ h.full h.low,h,Ju.refl _ _⟩
 case round=>
  obtain⟨k,E,A,R⟩:=hrel
  have bf:=Jeu y.pages
  obtain⟨_,_,_,_,c4,c5⟩:=A.field
  have br:=A.thaw 4
  have bu:=A.thaw 5
  have D:=Jwv d (k:Int) wr F _ ⟨sv,ps,A⟩
  by_cases bh:k<Kb y.pages
  ·obtain⟨p,bi⟩:=Kiv _ _ bh
   rw[Jtc bi]at D
   have bD:=A.setLow (k+1) (by show k+1≤y.pages.length;omega) (fun i hi=>Kiv y.pages i (by omega))
   have bB:=R.set A.dF 4 (.int .i64 ((k+1:Nat):Int))
   clear bi
   go_wp2_with (go_at_call 128;refine D.mono ?_;rintro e w' ⟨rfl,bl⟩;subst w')
   go_roundw
   case rel=>exact⟨k+1,by omega,by simpa using bD,by simpa using bB⟩
   case measure=>
    simp only[World.cell?_setCell_same _ _ _ c4,c4,Option.getD_some,intOf]
    omega
  obtain rfl:k=Kb y.pages:=by omega
  rw[Jsj]at D
  obtain⟨a,cap,rfl,bA⟩:=A.list
  have X:Hid (ps.length=y.pages.length):=A.len
  have bn:Hid (Jo wr 0 249 (.slice a ps.length cap) (ps.map Kew)):=A.own
  obtain⟨M,H⟩:∃ M,Hid (Kb y.pages=M):=⟨_,rfl⟩
  rw[H.out]at D c4
  clear bA br E bh
  by_cases O:Kb y.pages<y.pages.length
  ·have U:Hid (Ki1 y=⟨y.quota,y.fail,y.writes,Kb y.pages,y.pages⟩):=by show Ki1 y=_;rw[Ki1,if_pos O]
   have bz:(((M:Nat):Int)==((ps.length:Nat):Int))=false:=by have:=X.out;have:=H.out;rw[beq_eq_false_iff_ne];omega
   have K:Hid (Jf1 wr F d ⟨y.quota,y.fail,y.writes,Kb y.pages,y.pages⟩ (.slice a ps.length cap) ps):=A
   clear O bf bj A
   go_wp2_with (go_at_call 128;refine D.mono ?_;rintro e w' ⟨rfl,bl⟩;subst w')
   go_quiet (fail)
   go_wp2
   go_ret
   refine⟨Yp (by rw[H.out]),?_,R.drewN _⟩
   rw[U.out]
   exact⟨_,ps,K.out.below (Jp (Oa5 _ _) _)⟩
  have U:Hid (Ki1 y=⟨y.quota,y.fail,y.writes,Kb y.pages,y.pages++[none]⟩):=by show Ki1 y=_;rw[Ki1,if_neg O]
  have bz:(((M:Nat):Int)==((ps.length:Nat):Int))=true:=by have:=X.out;have:=H.out;rw[beq_iff_eq];omega
  have bH:ps.length+1≤1000000:=by have:=X.out;omega
  have K:Hid (Jf1 wr F d ⟨y.quota,y.fail,y.writes,Kb y.pages,y.pages⟩ (.slice a ps.length cap) ps):=A
  have hn:(Value.slice a ps.length cap).ownBlock≠some d:=fun e=>(A.ownF d e).2 rfl
  have Z:=Jd A.cells
  have bI:=R.size
  clear O bf A
  go_wp2_with (go_at_call 128;refine D.mono ?_;rintro e w' ⟨rfl,bl⟩;subst w')
  go_quiet (fail)
  go_wp2_with (at_builtin;go_must (refine Ks (by rfl) _ _ 111 249 _ 8 Kji (by rfl) (by decide) (by kernel_rfl) (by rfl) 0 _ _ (by rfl) (Jo.alloc (w:=wr.drewN nq) bn.out _) ⟨wr.heap.size,0,none⟩ 1 [.pointer none] (by rfl) (by exact Ua (wr.drewN nq) _ _) (by intro u bk;simp at bk;subst bk;rfl) (by simp only[List.length_cons,List.length_nil,Oa6];omega) (by simp) ?_);intro sv' w1 h1 h2 bx;obtain⟨bE,bG,rfl,_⟩:=h1.cells;have bK:w1.cell? ⟨d,5,none⟩=some (.slice a ps.length cap):=(by rw[h2.cell_far _ (by simp;omega) (Oc5 hn)];exact(Jnf (wr.drewN nq) _ d 5 Z).trans c5);have bL:w1.frozen? ⟨d,5,none⟩=false:=(by rw[h2.frozen_far _ (by simp;omega) (Oc5 hn)];exact(Jh9 (wr.drewN nq) _ d 5 Z).trans bu);have bJ:w1.cell? ⟨d,4,none⟩=some (.int .i64 ((M:Nat):Int)):=(by rw[h2.cell_far _ (by simp;omega) (Oc5 hn)];exact(Jnf (wr.drewN nq) _ d 4 Z).trans c4))
  go_ret
  have bb:∀ k,k<wr.heap.size→(Value.slice a ps.length cap).ownBlock≠some k→w1.heap[k]?=wr.heap[k]?:=fun k E ba=>(h2.block k (by simp;omega) (Oc5 ba)).trans (Oa9 (wr.drewN nq) _ k E)
  have bc:=K.out.longer (fun k E=>bC k (by omega)) h1 bb (bx.imp id fun e=>⟨_,e,by simp⟩) bj
  simp only[Oa8,Oa6,List.length_cons,List.length_nil]at bc
  refine⟨Yp (by rw[H.out]),?_,?_⟩
  ·rw[U.out]
   exact⟨_,_,bc⟩
  refine Ju.set ?_ K.out.dF 5 _
  refine R.trans ⟨h2.os,h2.tape,h2.output,Ob2 (by simp) h2.size,fun k E ba=>bb k E fun e=>ba (K.out.ownF k e).1⟩
end Go.Proofs.YtdlgbphkaicfaaaGreatDoor
namespace Go.Proofs.YtdlgbphkaicfaaaGreatDoor
open Go.RowKit Tryz
theorem Jf1.drewN {w:World}{F:Nat→Prop}{d:Nat}{y:DS}{sv:Value}{ps:List (Option Nat)}(h:Jf1 w F d y sv ps)(n:Nat):Jf1 (w.drewN n) F d y sv ps:=h.below (Jp (Oa5 _ _) _)
theorem Jwl (w:World)(q:Addr)(p:Int):Yu (w.alloc (.cells #[.iface 435 (.pointer (some q)),.int .i64 p] 163)) (.iface 160 (.pointer (some ⟨w.heap.size,0,none⟩))) q none (some p):=
 .disk _ _ _ (by simp) (by simp)
theorem Kjc (d:Nat)(s:ByteArray)(w:World)(F:Nat→Prop)(y:DS)(h:Zb w F d y)(q:Addr)(E:w.cell? ⟨6,0,none⟩=some (.iface 435 (.pointer (some q))))(D:y.quota≤((Js y.pages:Nat):Int)) :
  Calls prog 94 #[.pointer (some ⟨d,0,none⟩),.string s] w fun e w'=>Below w.heap.size w w'∧∃ b,e=.returned (.tuple #[.int .i64 0,.iface 160 (.pointer (some ⟨b,0,none⟩))])∧w.heap.size≤b∧Yu w' (.iface 160 (.pointer (some ⟨b,0,none⟩))) q none (some (-1)):=by
 obtain⟨sv,ps,h⟩:=h
 obtain⟨c0,_,_,c3,_,_⟩:=h.field
 clear h
 go_enter func94,ntmps94
 go_wp2_with fail
 go_quiet (fail)
 go_wp2_with fail
 go_region
 go_wp2
 go_ret2
 have A:Below w.heap.size w ((w.drewN (nq+1)).alloc (.cells #[.iface 435 (.pointer (some q)),.int .i64 (-1)] 163)):=(Jp (Oa5 _ w) _).alloc (Oa2 _) _
 exact⟨A,_,rfl,Oa2 _,Jwl (w.drewN (nq+1)) q (-1)⟩
def Jvn (y:DS):DS:=⟨y.quota,y.fail,wrap64 (y.writes+1),y.lowest,y.pages⟩
theorem Kj0 (d:Nat)(s:ByteArray)(w:World)(F:Nat→Prop)(y:DS)(h:Zb w F d y)(q:Addr)(M:w.cell? ⟨7,0,none⟩=some (.iface 435 (.pointer (some q))))(ba:¬ y.quota≤((Js y.pages:Nat):Int))(H:wrap64 (y.writes+1)=y.fail) :
  Calls prog 94 #[.pointer (some ⟨d,0,none⟩),.string s] w fun e w'=>Ju F w w'∧Zb w' F d (Jvn y)∧∃ b,e=.returned (.tuple #[.int .i64 0,.iface 160 (.pointer (some ⟨b,0,none⟩))])∧w.heap.size≤b∧Yu w' (.iface 160 (.pointer (some ⟨b,0,none⟩))) q none (some (-1)):=by
 obtain⟨sv,ps,h⟩:=h
 obtain⟨c0,c1,c2,c3,_,_⟩:=h.field
 have U:=h.thaw 2
 have A:Hid (Jf1 w F d y sv ps):=h
 have D:Hid (wrap64 (y.writes+1)=y.fail):=H
 clear H h
 go_enter func94,ntmps94
 go_wp2_with fail
 go_quiet (fail)
 go_upto_region 4 with fail
 have O:=(A.out.drewN nq).setWrites (wrap64 (y.writes+1))
 have Z:(wrap64 (y.writes+1)==y.fail)=true:=by rw[beq_iff_eq];exact D.out
 have R:Hid (Jvn y=⟨y.quota,y.fail,wrap64 (y.writes+1),y.lowest,y.pages⟩):=rfl
 have K:Ju F w ((w.drewN nq).setCell ⟨d,2,none⟩ (.int .i64 (wrap64 (y.writes+1)))):=((Ju.refl F w).drewN nq).set A.out.dF 2 _
 have bb:((w.drewN nq).setCell ⟨d,2,none⟩ (.int .i64 (wrap64 (y.writes+1)))).cell? ⟨7,0,none⟩=some (.iface 435 (.pointer (some q))):=by
  rw[Ob5 _ _ _ _ (by simp)];exact M
 clear D c0 c1 c2 c3 U A M
 generalize wrap64 (y.writes+1)=X at *
 obtain⟨_,c1,c2,_,_,_⟩:=O.field
 generalize (w.drewN nq).setCell ⟨d,2,none⟩ (.int .i64 X)=W at *
 simp only at c1 c2
 go_quiet (fail)
 go_wp2_with fail
 go_region
 go_wp2
 go_ret2
 have E:Below W.heap.size W ((W.drewN (nq+1)).alloc (.cells #[.iface 435 (.pointer (some q)),.int .i64 (-1)] 163)):=(Jp (Oa5 _ W) _).alloc (Oa2 _) _
 refine⟨K.trans (.of_below E),?_,_,rfl,K.size,Jwl (W.drewN (nq+1)) q (-1)⟩
 rw[R.out]
 exact⟨_,_,O.below E⟩
theorem Jl5:∀ (l:List (Option (List UInt8)))(i:Nat)(p:List UInt8),l[i]?=some none→Js (l.set i (some p))=Js l+1
 |[],i,_,h=>by simp at h
 |x::l,0,p,h=>by
  simp at h
  subst h
  simp[Js]
 |x::l,i+1,p,h=>by
  have:=Jl5 l i p (by simpa using h)
  simp only[Js,List.set_cons_succ,On3]at this ⊢
  omega
theorem Jii:∀ (l:List (Option (List UInt8)))(i:Nat)(p:List UInt8),l[i]?=some (some p)→Js (l.set i none)+1=Js l
 |[],i,_,h=>by simp at h
 |x::l,0,p,h=>by
  simp at h
  subst h
  simp[Js]
 |x::l,i+1,p,h=>by
  have:=Jii l i p (by simpa using h)
  simp only[Js,List.set_cons_succ,On3]at this ⊢
  omega
theorem Kka {w:World}{B:Nat}{e:TypeId}{sv:Value}{xs:List Value}{g:Nat}(h:Jo w B e sv xs)(y:sv.ownBlock=some g)(i:Nat)(hi:i<xs.length)(v:Value):Jo (w.setCell ⟨g,i,none⟩ v) B e sv (xs.set i v):=by
 refine⟨by simp,?_⟩
 rcases h.2 with⟨A,h0⟩|⟨E,cap,D,A,H,K,O,R,U,M⟩
 ·omega
 subst A
 simp[Value.ownBlock]at y
 subst y
 refine .inr ⟨E,cap,D.setIfInBounds i v,by simp,H,Jk K i v,by simpa using O,R,by simpa using U,?_⟩
 rw[Of8,Ok0,List.take_set,M]
theorem Jf1.put {w:World}{F:Nat→Prop}{d:Nat}{A:DS}{sv:Value}{ps:List (Option Nat)}(h:Jf1 w F d A sv ps){g:Nat}(H:sv.ownBlock=some g)(i:Nat)(hi:A.pages[i]?=some none)(b:Nat)(p:List UInt8)(bl:Jdp w b p)(hF:F b)(Z:b≠d)(ba:b≠g)(bf:∀ j:Nat,ps[j]?≠some (some b)) :
  Jf1 ((w.setCell ⟨g,i,none⟩ (.pointer (some ⟨b,0,none⟩))).setCell ⟨d,3,none⟩ (.int .i64 ((Js A.pages+1:Nat):Int))) F d ⟨A.quota,A.fail,A.writes,A.lowest,A.pages.set i (some p)⟩ sv (ps.set i (some b)):=by
 have R:i<A.pages.length:=by
  rcases Oc1 i A.pages.length with O|O
  ·exact O
  rw[Ob4 O]at hi;simp at hi
 have K:i<ps.length:=by rw[h.len];exact R
 have bc:=(h.ownF g H).2
 have bk:(w.setCell ⟨g,i,none⟩ (.pointer (some ⟨b,0,none⟩))).heap[d]?=some (.cells #[.int .i64 A.quota,.int .i64 A.fail,.int .i64 A.writes,.int .i64 ((Js A.pages:Nat):Int),.int .i64 ((A.lowest:Nat):Int),sv] 113 (0,0)):=by
  rw[Oa4 _ _ _ _ (show d≠g from Oc5 bc)];exact h.cells
 have bh:∀ k,k≠g→k≠d→((w.setCell ⟨g,i,none⟩ (.pointer (some ⟨b,0,none⟩))).setCell ⟨d,3,none⟩ (.int .i64 ((Js A.pages+1:Nat):Int))).heap[k]?=w.heap[k]?:=fun k h1 h2=>by
  rw[Oa4 _ _ _ _ h2,Oa4 _ _ _ _ h1]
 refine⟨?_,?_,h.ownF,h.dF,by simp[h.len],?_,?_,?_,by simpa using h.low,?_,by simpa using h.small⟩
 ·have:=Jk bk 3 (.int .i64 ((Js A.pages+1:Nat):Int))
  rw[Jl5 _ _ _ hi]
  simpa using this
 ·rw[Op0]
  refine Yd (Kka h.own H i (by simpa using K) _) fun br bb=>?_
  rw[H]at bb
  cases bb
  exact Oa4 _ _ _ _ bc
 ·intro j c y
  by_cases D:j=i
  ·subst D
   rw[Oh0 K]at y
   simp at y
   subst y
   exact⟨hF,Z,by rw[H];intro e;cases e;exact ba rfl,p,by simp[R],bl.of_block (bh b ba Z)⟩
  rw[Od1 (Oc5 D)]at y
  obtain⟨f,bi,bj,X,U,bn⟩:=h.page j c y
  refine⟨f,bi,bj,X,by rw[Od1 (Oc5 D)];exact U,bn.of_block (bh c (fun e=>bj (by rw[H,e])) bi)⟩
 ·intro j y
  by_cases D:j=i
  ·subst D
   rw[Oh0 K]at y
   simp at y
  rw[Od1 (Oc5 D)]at y ⊢
  exact h.vacant j y
 ·intro j k c y E
  by_cases D:j=i
  ·subst D
   rw[Oh0 K]at y
   simp at y
   subst y
   by_cases M:k=j
   ·exact M.symm
   rw[Od1 (Oc5 M)]at E
   exact absurd E (bf k)
  rw[Od1 (Oc5 D)]at y
  by_cases M:k=i
  ·subst M
   rw[Oh0 K]at E
   simp at E
   subst E
   exact absurd y (bf j)
  rw[Od1 (Oc5 M)]at E
  exact h.inj j k c y E
 intro j y
 by_cases D:j=i
 ·subst D
  exact⟨p,by simp[R]⟩
 obtain⟨X,U⟩:=h.full j y
 exact⟨X,by rw[Od1 (Oc5 D)];exact U⟩
def Zn (y:DS)(A:List UInt8):DS:=⟨y.quota,y.fail,wrap64 (y.writes+1),Kb y.pages,(if Kb y.pages<y.pages.length then y.pages else y.pages++[none]).set (Kb y.pages) (some (Jdm A))⟩
theorem Jsk (l:List (Option (List UInt8))):(if Kb l<l.length then l else l++[none])[Kb l]?=some none:=by
 by_cases h:Kb l<l.length
 ·rw[if_pos h];exact Jc3 l h
 rw[if_neg h]
 have:=Jeu l
 have:Kb l=l.length:=by omega
 rw[this]
 simp
theorem Kjt (d:Nat)(E:List UInt8)(bX:E.length≤56)(w:World)(F:Nat→Prop)(y:DS)(h:Zb w F d y)(bZ:y.pages.length<900000)(cv:¬ y.quota≤((Js y.pages:Nat):Int))(bB:¬ wrap64 (y.writes+1)=y.fail) :
  Calls prog 94 #[.pointer (some ⟨d,0,none⟩),.string (Qw E)] w fun e w'=>Ju F w w'∧Zb w' (up F w) d (Zn y E)∧e=.returned (.tuple #[.int .i64 ((Kb y.pages:Nat):Int),.nilIface]):=by
 obtain⟨sv,ps,h⟩:=h
 obtain⟨c0,c1,c2,c3,_,_⟩:=h.field
 have bN:=h.thaw 2
 have ba:Hid (Jf1 w F d y sv ps):=h
 have bn:Hid (¬ wrap64 (y.writes+1)=y.fail):=bB
 clear bB h
 go_enter func94,ntmps94
 go_wp2_with fail
 go_quiet (fail)
 go_upto_region 4 with fail
 have bi:=(ba.out.drewN nq).setWrites (wrap64 (y.writes+1))
 have cr:(wrap64 (y.writes+1)==y.fail)=false:=by rw[beq_eq_false_iff_ne];exact bn.out
 have bk:Hid (Zn y E=⟨y.quota,y.fail,wrap64 (y.writes+1),Kb y.pages,(if Kb y.pages<y.pages.length then y.pages else y.pages++[none]).set (Kb y.pages) (some (Jdm E))⟩):=rfl
 have bf:Ju (up F w) w ((w.drewN nq).setCell ⟨d,2,none⟩ (.int .i64 (wrap64 (y.writes+1)))):=((Ju.refl _ w).drewN nq).set (.inl ba.out.dF) 2 _
 have cb:((w.drewN nq).setCell ⟨d,2,none⟩ (.int .i64 (wrap64 (y.writes+1)))).heap.size=w.heap.size:=by simp[World.setCell]
 clear bn c0 c1 c2 c3 bN ba
 generalize wrap64 (y.writes+1)=cf at *
 obtain⟨_,c1,c2,_,_,_⟩:=bi.field
 generalize (w.drewN nq).setCell ⟨d,2,none⟩ (.int .i64 cf)=W at *
 simp only at c1 c2
 have cc:=bi.mono (G:=up F w) (fun k _ hf=>.inl hf)
 clear bi
 go_quiet (fail)
 go_wp2_with fail
 refine(Kkj d (W.drewN nq) (up F w) _ ⟨_,_,cc.drewN nq⟩ (fun k bf=>.inr (by simpa [cb] using bf)) bZ).mono ?_
 rintro e H ⟨rfl,⟨cy,M,D⟩,bE⟩
 have bD:=bf.trans (Ju.trans ((Ju.refl _ W).drewN nq) bE)
 have K:=Jsk y.pages
 have Z:Hid (Kb y.pages<(if Kb y.pages<y.pages.length then y.pages else y.pages++[none]).length):=by
  rcases Oc1 (Kb y.pages) (if Kb y.pages<y.pages.length then y.pages else y.pages++[none]).length with bb|bb
  ·exact bb
  rw[Ob4 bb]at K;simp at K
 simp only[Ki1]at D
 generalize (if Kb y.pages<y.pages.length then y.pages else y.pages++[none])=U at *
 obtain⟨A,bl⟩:∃ A,Hid (Kb y.pages=A):=⟨_,rfl⟩
 rw[bl.out]at D bk K Z ⊢
 obtain⟨_,_,_,c3,_,c5⟩:=D.field
 obtain⟨ci,cl,rfl,bA⟩:=D.list
 have R:=D.len
 simp only at R c3
 have bC:A<M.length:=by rw[R];exact Z.out
 obtain⟨g,rfl,bR,bT,cg,bP⟩:=bA A bC
 have bI:M[A]=none:=by
  cases bh:M[A]with
  |none=>rfl
  |some b=>
   obtain⟨_,_,_,p,bH,_⟩:=D.page A b (by rw[←bh];simp[bC])
   rw[K]at bH
   simp at bH
 rw[bI]at cg
 simp only[Kew]at cg
 have ch:Hid (M.length=U.length):=R
 have cu:(A:Int)<(M.length:Int):=by omega
 have bO:=D.thaw 3
 have bS:=bD.size
 have bc:=Jm cg
 have O:=Jm c5
 simp only at bc O
 have cx:=Kad U
 have ca:=D.small
 simp only at ca
 clear bA R bI Z bE
 go_wp2_with fail
 have bJ:=Kkp E bX H.drew
 go_region_with (first|(go_at_call 127;refine bJ.mono ?_;rintro e X ⟨rfl,bW,bx⟩;obtain⟨kk,bj⟩:=Kx bx;have bL:=(kk d 5 O).trans c5;have bM:=(kk g A bc).trans cg;have bQ:=(bj g A bc).trans bP;have br:=(kk d 3 O).trans c3;have bu:=(bj d 3 O).trans bO))
 all_goals
  have bz:=Jw bx
  have bK:=D.below bz
  have bY:=bK.put (g:=g) rfl A K H.heap.size (Jdm E) bW (.inr bS) (by omega) (by omega) (fun j bU=>by obtain⟨_,_,_,p,_,bh⟩:=D.page j _ bU;exact absurd bh.2.lt (Oe3 _))
  have bG:Ju (up F w) w (X.setCell ⟨g,A,none⟩ (.pointer (some ⟨H.heap.size,0,none⟩))):=(bD.trans (.of_below bz)).set bR A _
  have bV:=bG.set (D.dF) 3 (.int .i64 ((Js U+1:Nat):Int))
  have cj:(X.setCell ⟨g,A,none⟩ (.pointer (some ⟨H.heap.size,0,none⟩))).cell? ⟨d,3,none⟩=some (.int .i64 ((Js U:Nat):Int)):=by rw[Ob5 _ _ _ _ (by first|(simp;done)|(simp;intro e;exact absurd e.symm bT))];exact br
  have cn:(X.setCell ⟨g,A,none⟩ (.pointer (some ⟨H.heap.size,0,none⟩))).frozen? ⟨d,3,none⟩=false:=by rw[On9];exact bu
  clear br bu bM bQ bL kk bj bJ bK bG
  generalize X.setCell ⟨g,A,none⟩ (.pointer (some ⟨H.heap.size,0,none⟩))=cz at *
  go_wp2
  go_ret2
  refine⟨Ju.down (by simpa using bV),?_,by rw[bl.out];rfl⟩
  rw[bk.out]
  exact⟨_,_,by simpa using bY⟩
end Go.Proofs.YtdlgbphkaicfaaaGreatDoor
namespace Go.Proofs.YtdlgbphkaicfaaaGreatDoor
open Go.RowKit Tryz
def nv (n:Nat):Value:=.int .i64 (n:Int)
theorem Ki8 (l:List (Option (List UInt8)))(i:Nat)(p:List UInt8)(h:l[i]?=some (some p)):((Js l:Nat):Int)-1=((Js (l.set i none):Nat):Int):=by
 have:=Jii l i p h
 omega
theorem Jf1.drop {w:World}{F:Nat→Prop}{d:Nat}{y:DS}{sv:Value}{ps:List (Option Nat)}(h:Jf1 w F d y sv ps){g:Nat}(E:sv.ownBlock=some g)(i:Nat)(p:List UInt8)(hi:y.pages[i]?=some (some p)) :
  Jf1 (((w.setCell ⟨g,i,none⟩ (.pointer none)).setCell ⟨d,3,none⟩ (.int .i64 ((Js (y.pages.set i none):Nat):Int))).setCell ⟨d,4,none⟩ (.int .i64 ((min y.lowest i:Nat):Int))) F d ⟨y.quota,y.fail,y.writes,min y.lowest i,y.pages.set i none⟩ sv (ps.set i none):=by
 have X:i<y.pages.length:=by
  rcases Oc1 i y.pages.length with H|H
  ·exact H
  rw[Ob4 H]at hi;simp at hi
 have M:i<ps.length:=by rw[h.len];exact X
 have K:=(h.ownF g E).2
 have bc:(w.setCell ⟨g,i,none⟩ (.pointer none)).heap[d]?=some (.cells #[.int .i64 y.quota,.int .i64 y.fail,.int .i64 y.writes,.int .i64 ((Js y.pages:Nat):Int),.int .i64 ((y.lowest:Nat):Int),sv] 113 (0,0)):=by
  rw[Oa4 _ _ _ _ (show d≠g from Oc5 K)];exact h.cells
 have bh:∀ k,k≠g→k≠d→(((w.setCell ⟨g,i,none⟩ (.pointer none)).setCell ⟨d,3,none⟩ (.int .i64 ((Js (y.pages.set i none):Nat):Int))).setCell ⟨d,4,none⟩ (.int .i64 ((min y.lowest i:Nat):Int))).heap[k]?=w.heap[k]?:=fun k h1 h2=>by
  rw[Oa4 _ _ _ _ h2,Oa4 _ _ _ _ h2,Oa4 _ _ _ _ h1]
 refine⟨?_,?_,h.ownF,h.dF,by simp[h.len],?_,?_,?_,?_,?_,by simpa using h.small⟩
 ·have:=Jk (Jk bc 3 (.int .i64 ((Js (y.pages.set i none):Nat):Int))) 4 (.int .i64 ((min y.lowest i:Nat):Int))
  simpa using this
 ·rw[Op0]
  refine Yd (Kka h.own E i (by simpa using M) _) fun bj U=>?_
  rw[E]at U
  cases U
  rw[Oa4 _ _ _ _ K,Oa4 _ _ _ _ K]
  rfl
 ·intro j c A
  by_cases D:j=i
  ·subst D
   rw[Oh0 M]at A
   simp at A
  rw[Od1 (Oc5 D)]at A
  obtain⟨f,ba,bb,R,O,bi⟩:=h.page j c A
  refine⟨f,ba,bb,R,by rw[Od1 (Oc5 D)];exact O,bi.of_block (bh c (fun e=>bb (by rw[E,e])) ba)⟩
 ·intro j A
  by_cases D:j=i
  ·subst D
   simp[X]
  rw[Od1 (Oc5 D)]at A ⊢
  exact h.vacant j A
 ·intro j k c A bf
  have Z:∀ j:Nat,(ps.set i none)[j]?=some (some c)→ps[j]?=some (some c):=by
   intro j A
   by_cases D:j=i
   ·subst D
    rw[Oh0 M]at A
    simp at A
   rwa [Od1 (Oc5 D)]at A
  exact h.inj j k c (Z j A) (Z k bf)
 ·have:=h.low
  simp
  omega
 intro j A
 simp only at A
 obtain⟨R,O⟩:=h.full j (by omega)
 refine⟨R,?_⟩
 rw[Od1 (by omega)]
 exact O
def Jae (y:DS)(i:Nat):DS:=if Jai y.pages (i:Int)=true then ⟨y.quota,y.fail,y.writes,min y.lowest i,y.pages.set i none⟩else y
def Jf4 (y:DS)(l:List Nat):DS:=l.foldl Jae y
theorem Kkf (y:DS)(l:List Nat)(i:Nat):Jf4 y (l++[i])=Jae (Jf4 y l) i:=by simp[Jf4]
theorem Jf3 {l:List (Option (List UInt8))}{i:Nat}(h:Jai l (i:Int)=true):∃ p,l[i]?=some (some p):=by
 unfold Jai at h
 rw[Og5,decide_eq_true_eq,Oa0,show (Int.toNat (i:Int))=i from rfl]at h
 cases hq:l[i]? with
 |none=>rw[hq]at h;simp at h
 |some x=>
  rw[hq]at h
  cases x with
  |none=>simp at h
  |some p=>exact⟨p,rfl⟩
theorem Ki0 (d:Nat)(a:Option Addr)(cap:Nat)(l:List Nat)(w:World)(F:Nat→Prop)(D:DS)(h:Zb w F d D)(H:Uh w a (l.map nv))(bn:∀ b o,a=some ⟨b,o,none⟩→¬ F b)(bK:l.length≤1000000) :
  Calls prog 95 #[.pointer (some ⟨d,0,none⟩),.slice a l.length cap] w fun e w'=>e=.returned (.tuple #[])∧Zb w' F d (Jf4 D l)∧Ju F w w':=by
 go_enter func95,ntmps95
 go_wp2
 go_loopw [8] (fun i wr=>∃ k:Nat,k≤l.length∧i=.int .i64 k∧Zb wr F d (Jf4 D (l.take k))∧Ju F w wr) (fun i _=>l.length-(intOf i).toNat)
 case atStart=>exact⟨0,Ob7 _,rfl,by simpa [Jf4] using h,Ju.refl _ _⟩
 case round=>
  rename_i i
  obtain⟨k,bG,rfl,M,R⟩:=hrel
  by_cases Z:k<l.length
  ·have ba:Hid (Jf4 D (l.take (k+1))=Jae (Jf4 D (l.take k)) l[k]):=by
    show Jf4 D (l.take (k+1))=_
    rw[Oc4 Z,Kkf]
   rcases H with H|⟨b,o,rfl,bE,H⟩
   ·simp at H;subst H;simp at Z
   have bj:wr.cell? ⟨b,o+k,none⟩=some (.int .i64 ((l[k]:Nat):Int)):=R.cell (H k _ (by simp[Z];rfl)) (bn b o rfl)
   generalize l[k]=pg at *
   generalize Jf4 D (l.take k)=y at *
   have O:=Jwv d (pg:Int) wr F y M
   obtain⟨sv,ps,A⟩:=M
   by_cases E:Jai y.pages (pg:Int)=true
   ·have U:Hid (Jae y pg=⟨y.quota,y.fail,y.writes,min y.lowest pg,y.pages.set pg none⟩):=by show Jae y pg=_;rw[Jae,if_pos E]
    obtain⟨p,K⟩:=Jf3 E
    rw[E]at O
    obtain⟨_,_,_,c3,c4,c5⟩:=A.field
    have bb:=A.thaw 3
    have bc:=A.thaw 4
    obtain⟨bA,bB,rfl,bf⟩:=A.list
    have bu:pg<ps.length:=by
     rw[A.len]
     rcases Oc1 pg y.pages.length with X|X
     ·exact X
     rw[Ob4 X]at K;simp at K
    obtain⟨g,rfl,bl,bh,cg,bk⟩:=bf pg bu
    have bx:=A.drop (g:=g) rfl pg p K
    have bN:=Ki8 y.pages pg p K
    have bL:=Kad y.pages
    have bJ:=A.small
    have bI:(pg:Int)<(ps.length:Int):=by omega
    have br:Ju F w (((wr.setCell ⟨g,pg,none⟩ (.pointer none)).setCell ⟨d,3,none⟩ (.int .i64 ((Js (y.pages.set pg none):Nat):Int))).setCell ⟨d,4,none⟩ (.int .i64 ((min y.lowest pg:Nat):Int))):=((R.set bl pg _).set A.dF 3 _).set A.dF 4 _
    have bO:(wr.setCell ⟨g,pg,none⟩ (.pointer none)).cell? ⟨d,3,none⟩=some (.int .i64 ((Js y.pages:Nat):Int)):=by rw[Ob5 _ _ _ _ (by first|(simp;done)|(simp;intro e;exact absurd e.symm bh))];exact c3
    have bP:(wr.setCell ⟨g,pg,none⟩ (.pointer none)).cell? ⟨d,4,none⟩=some (.int .i64 ((y.lowest:Nat):Int)):=by rw[Ob5 _ _ _ _ (by first|(simp;done)|(simp;intro e;exact absurd e.symm bh))];exact c4
    have bC:(wr.setCell ⟨g,pg,none⟩ (.pointer none)).frozen? ⟨d,3,none⟩=false:=by rw[On9];exact bb
    have bD:(wr.setCell ⟨g,pg,none⟩ (.pointer none)).frozen? ⟨d,4,none⟩=false:=by rw[On9];exact bc
    have bH:=A.low
    have bM:(1:Int)≤((Js y.pages:Nat):Int):=by omega
    clear bf A c3 c4 bb bc K E
    go_upto_region 5 with(go_at_call 128;refine O.mono ?_;rintro e w' ⟨rfl,bz⟩;subst w')
    clear cg bk bj c5
    generalize wr.setCell ⟨g,pg,none⟩ (.pointer none)=w1 at *
    go_wp2
    go_roundw
    case rel=>
     have bi:(if pg<y.lowest then ((pg:Nat):Int)else ((y.lowest:Nat):Int))=((min y.lowest pg:Nat):Int):=by split<;>omega
     exact⟨k+1,by omega,by go_num,by rw[ba.out,U.out,bi];exact⟨_,_,bx⟩,by rw[bi];exact br⟩
    case measure=>simp[intOf];omega
   have U:Hid (Jae y pg=y):=by show Jae y pg=_;rw[Jae,if_neg E]
   rw[Oo1]at E
   rw[E]at O
   go_wp2_with (go_at_call 128;refine O.mono ?_;rintro e w' ⟨rfl,bz⟩;subst w')
   go_roundw
   case rel=>exact⟨k+1,by omega,by go_num,by rw[ba.out,U.out];exact⟨_,_,A⟩,R⟩
   case measure=>simp[intOf];omega
  obtain rfl:k=l.length:=by omega
  rw[Of2]at M
  go_wp2
  go_end0
  exact⟨rfl,M,R⟩
end Go.Proofs.YtdlgbphkaicfaaaGreatDoor
namespace Go.Proofs.YtdlgbphkaicfaaaGreatDoor
open Go.RowKit Tryz
def Jb5:Nat→List UInt8→List (List UInt8)
 |0,_=>[]
 |_+1,[]=>[]
 |n+1,b::t=>(b::t).take 56::Jb5 n ((b::t).drop 56)
def Qu (t:List UInt8):List (List UInt8):=Jb5 t.length t
theorem Jl2:∀ (n m:Nat)(t:List UInt8),t.length≤n→t.length≤m→Jb5 n t=Jb5 m t
 |0,m,[],_,_=>by cases m<;>rfl
 |0,m,b::t,h,_=>by simp at h
 |n+1,0,[],_,_=>rfl
 |n+1,0,b::t,_,h=>by simp at h
 |n+1,m+1,[],_,_=>rfl
 |n+1,m+1,b::t,h,k=>by
  simp only[Jb5]
  rw[Jl2 n m ((b::t).drop 56) (by simp at h ⊢;omega) (by simp at k ⊢;omega)]
theorem Kj2:Qu []=[]:=rfl
theorem Jr2 (t:List UInt8)(h:t≠[]):Qu t=t.take 56::Qu (t.drop 56):=by
 cases t with
 |nil=>exact absurd rfl h
 |cons b t=>
  unfold Qu
  simp only[List.length_cons,Jb5]
  rw[Jl2 _ ((b::t).drop 56).length _ (by simp) (Oa2 _)]
def Uy (y:DS):List (List UInt8)→DS×List Nat×Option Bool
 |[]=>(y,[],none)
 |p::ps=>if y.quota≤((Js y.pages:Nat):Int)then (y,[],some true)else if wrap64 (y.writes+1)=y.fail then (Jvn y,[],some false)else
   ((Uy (Zn y p) ps).1,Kb y.pages::(Uy (Zn y p) ps).2.1,(Uy (Zn y p) ps).2.2)
def Kiw (l:List Nat)(r:DS×List Nat×Option Bool):DS×List Nat×Option Bool:=(r.1,l++r.2.1,r.2.2)
theorem Kjp (l:List Nat)(y:DS)(p:List UInt8)(ps:List (List UInt8))(h1:¬ y.quota≤((Js y.pages:Nat):Int))(h2:¬ wrap64 (y.writes+1)=y.fail) :
  Kiw l (Uy y (p::ps))=Kiw (l++[Kb y.pages]) (Uy (Zn y p) ps):=by
 simp[Kiw,Uy,h1,h2]
theorem Zw:(prog.info? 3).map (fun i=>(i.zero,i.size,i.bytes))=some (some (.int .i64 0),1,8):=by kernel_rfl
theorem Jxm (y:DS)(p:List UInt8):(Zn y p).pages.length≤y.pages.length+1:=by
 simp only[Zn]
 split<;>simp
def Kky:Value→Nat
 |.string s=>s.size
 |_=>0
theorem Kkb (bs:List UInt8)(i j:Nat):(Qw bs).extract i j=Qw ((bs.take j).drop i):=by
 unfold Qw
 rw[Om5]
 simp[List.extract_eq_take_drop,List.drop_take]
def cap (F:Nat→Prop)(w:World):Nat→Prop:=fun k=>F k∧k<w.heap.size
theorem Zb.cap {w:World}{F:Nat→Prop}{d:Nat}{y:DS}(h:Zb w F d y):Zb w (cap F w) d y:=h.mono fun _ A hf=>⟨hf,A⟩
structure Kiy (w0:World) (F0:Nat→Prop) (w:World) (d:Nat) (E:DS) (sv:Value) (l:List Nat) (FD:Nat→Prop):Prop where
 disk:Zb w FD d E
 from_:∀ k,FD k→F0 k∨w0.heap.size≤k
 lt:∀ k,FD k→k<w.heap.size
 own:Jo w w0.heap.size 3 sv (l.map nv)
 apart:∀ g,sv.ownBlock=some g→¬ FD g
 keep:Ju F0 w0 w
def Kjn (y:DS):DS×Bool:=if y.quota≤((Js y.pages:Nat):Int)then (y,true)else (Jvn y,false)
theorem Kko (y:DS)(p:List UInt8)(ps:List (List UInt8))(h:y.quota≤((Js y.pages:Nat):Int)∨wrap64 (y.writes+1)=y.fail):Uy y (p::ps)=((Kjn y).1,[],some (Kjn y).2):=by
 unfold Kjn
 by_cases h1:y.quota≤((Js y.pages:Nat):Int)
 ·simp[Uy,h1]
 have h2:=h.resolve_left h1
 simp[Uy,h1,h2]
theorem Ki6 {F:Nat→Prop}{w w':World}{b:Nat}{a:Addr}{p:Int}(h:Yu w (.iface 160 (.pointer (some ⟨b,0,none⟩))) a none (some p))(A:Ju F w w')(y:¬ F b):Yu w' (.iface 160 (.pointer (some ⟨b,0,none⟩))) a none (some p):=by
 obtain⟨h0,h1⟩:=h.disk_at
 exact .disk b a p (A.cell h0 y) (A.cell h1 y)
theorem Kj7 (d:Nat)(s:ByteArray)(w:World)(F:Nat→Prop)(y:DS)(h:Zb w F d y)(q wr:Addr)(K:w.cell? ⟨6,0,none⟩=some (.iface 435 (.pointer (some q))))(M:w.cell? ⟨7,0,none⟩=some (.iface 435 (.pointer (some wr))))
  (H:y.quota≤((Js y.pages:Nat):Int)∨wrap64 (y.writes+1)=y.fail) :
  Calls prog 94 #[.pointer (some ⟨d,0,none⟩),.string s] w fun e w'=>Ju F w w'∧Zb w' F d (Kjn y).1∧∃ b,e=.returned (.tuple #[.int .i64 0,.iface 160 (.pointer (some ⟨b,0,none⟩))])∧w.heap.size≤b∧Yu w' (.iface 160 (.pointer (some ⟨b,0,none⟩))) (if (Kjn y).2 then q else wr) none (some (-1)):=by
 unfold Kjn
 by_cases h1:y.quota≤((Js y.pages:Nat):Int)
 ·rw[if_pos h1]
  refine(Kjc d s w F y h q K h1).mono ?_
  rintro e w' ⟨A,b,rfl,D,E⟩
  exact⟨.of_below A,h.below A,b,rfl,D,E⟩
 rw[if_neg h1]
 exact Kj0 d s w F y h wr M h1 (H.resolve_left h1)
def Kkw (w:World)(F:Nat→Prop)(d:Nat)(q wr:Addr)(r:DS×List Nat×Option Bool)(e:Ending)(w':World):Prop:=
 Ju F w w'∧∃ FD:Nat→Prop,Zb w' FD d (match r.2.2 with|none=>r.1|some _=>Jf4 r.1 r.2.1)∧(∀ k,FD k→F k∨w.heap.size≤k)∧(∀ k,FD k→k<w'.heap.size) ∧
  match r.2.2 with
  |none=>∃ sv,e=.returned (.tuple #[sv,.nilIface])∧Jo w' w.heap.size 3 sv (r.2.1.map nv)∧∀ g,sv.ownBlock=some g→¬ FD g
  |some x=>∃ b,e=.returned (.tuple #[.slice none 0 0,.iface 160 (.pointer (some ⟨b,0,none⟩))])∧w.heap.size≤b∧Yu w' (.iface 160 (.pointer (some ⟨b,0,none⟩))) (if x then q else wr) none (some (-1))∧¬ FD b
theorem Kiy.stand {y w w':World}{A FD:Nat→Prop}{d:Nat}{H:DS}{sv:Value}{l:List Nat}(h:Kiy y A w d H sv l FD)(E:Ju FD w w'):Jo w' y.heap.size 3 sv (l.map nv)∧Ju A y w':=
 ⟨Yd h.own fun g D=>E.block g (Qk h.own D) (h.apart g D),h.keep.trans' E fun k K hf=>(h.from_ k hf).resolve_right (by omega)⟩
theorem Jji {w:World}{B:Nat}{e:TypeId}{a:Option Addr}{n c:Nat}{xs:List Value}(h:Jo w B e (.slice a n c) xs):Uh w a xs∧∀ b o,a=some ⟨b,o,none⟩→(Value.slice a n c).ownBlock=some b:=by
 obtain⟨a',E,y,D⟩:=h.cells
 simp at y
 obtain⟨rfl,_,_⟩:=y
 exact⟨D,fun b o A=>by subst A;rfl⟩
theorem Kiy.more {M wr A K:World}{O FD:Nat→Prop}{d:Nat}{E:DS}{sv sv':Value}{l:List Nat}(h:Kiy M O wr d E sv l FD)(bf:Ju FD wr A)(ba:List UInt8)(bc:Zb A (up FD wr) d (Zn E ba))(o:Obj)
  (bi:Jo K M.heap.size 3 sv' (l.map nv++[nv (Kb E.pages)])) (D:(A.alloc o).grownBy K sv.ownBlock) (bb:sv'.ownBlock=sv.ownBlock∨sv'.ownBlock=some (A.alloc o).heap.size) :
  Kiy M O K d (Zn E ba) sv' (l++[Kb E.pages]) (cap (up FD wr) A):=by
 have bj:=D.size
 rw[Oa7]at bj
 have X:∀ g,sv.ownBlock=some g→g<wr.heap.size:=fun g D=>Qk h.own D
 have Z:∀ k,k<A.heap.size→sv.ownBlock≠some k→K.heap[k]?=A.heap[k]?:=fun k y bh=>(D.block k (by simp;omega) (Oc5 bh)).trans (Oa9 A o k y)
 refine⟨bc.cap.stands fun k y U=>Z k U fun e=>?_,fun k y=>?_,fun k y=>Oc2 y.2 (by omega),?_,fun g H=>?_,?_⟩
 ·rcases y.1 with hf|hf
  ·exact h.apart k e hf
  have:=X k e;omega
 ·rcases y.1 with hf|hf
  ·exact h.from_ k hf
  exact .inr (Ob2 h.keep.size hf)
 ·rw[Ob8];exact bi
 ·rintro⟨bk,U⟩
  rcases bb with e|e
  ·rw[e]at H
   rcases bk with hf|hf
   ·exact h.apart g H hf
   have:=X g H;omega
  rw[e]at H
  simp at H
  omega
 have y:=(h.stand bf).2
 refine⟨D.os.trans y.os,D.tape.trans y.tape,D.output.trans y.output,Ob2 y.size (by omega),fun k R hn=>?_⟩
 refine(Z k (Oc2 R y.size) fun e=>?_).trans (y.block k R hn)
 have:=(Je h.own e).1
 omega
theorem Kkq (d:Nat)(D:List UInt8)(w:World)(F:Nat→Prop)(H:DS)(h:Zb w F d H)(hF:∀ k,F k→k<w.heap.size)(q bn:Addr)
  (ba:w.cell? ⟨6,0,none⟩=some (.iface 435 (.pointer (some q)))) (bO:w.cell? ⟨7,0,none⟩=some (.iface 435 (.pointer (some bn)))) (bD:¬ F 6) (bE:¬ F 7) (bL:H.pages.length+(Qu D).length≤800000) (cf:D.length≤1000000) :
  Calls prog 66 #[.pointer (some ⟨d,0,none⟩),.string (Qw D)] w fun e w'=>Kkw w F d q bn (Uy H (Qu D)) e w':=by
 go_enter func66,ntmps66
 go_wp2
 go_loopw [1,6] (fun bb sv bQ=>∃ (rest:List UInt8) (y:DS) (l:List Nat) (FD:Nat→Prop),bb=.string (Qw rest)∧rest.length≤D.length∧l.length+(Qu rest).length≤800000∧y.pages.length+(Qu rest).length≤800000∧Kiy w F bQ d y sv l FD∧Hid (Uy H (Qu D)=Kiw l (Uy y (Qu rest)))) (fun bb _ _=>Kky bb)
 case atStart=>exact⟨D,H,[],F,rfl,Oa2 _,by simp;omega,bL,⟨h,fun k bi=>.inl bi,hF,Jo.nil _ _ _,fun g bK=>by simp[Value.ownBlock]at bK,Ju.refl _ _⟩,rfl⟩
 case round=>
  rename_i bb sv
  obtain⟨rest,y,l,FD,rfl,cb,bW,bV,hL,K⟩:=hrel
  have bM:=Jb2 rest
  by_cases bk:rest=[]
  ·subst bk
   rw[Kj2]at K
   have bc:Hid (Uy H (Qu D)=(y,l,none)):=by show _=_;rw[K.out];simp[Kiw,Uy]
   obtain⟨a,cap,M,_⟩:=hL.own.cells
   subst M
   simp at bM
   go_wp2
   go_ret2
   rw[bc.out]
   exact⟨hL.keep,FD,hL.disk,hL.from_,hL.lt,_,rfl,hL.own,hL.apart⟩
  have ca:0<rest.length:=Oi9.2 bk
  have bf:Hid (Qu rest=rest.take 56::Qu (rest.drop 56)):=Jr2 rest bk
  have bZ:(Qu rest).length=(Qu (rest.drop 56)).length+1:=by rw[bf.out];rfl
  obtain⟨n,hn,X⟩:∃ n:Nat,(n≤rest.length∧n≤56)∧Hid (n=min rest.length 56):=⟨min rest.length 56,by omega,rfl⟩
  have bu:Hid (rest.take n=rest.take 56):=by
   show _=_
   rw[X.out]
   rcases Oc1 rest.length 56 with U|U
   ·rw[Oj1 (by omega),Oc8 (Oa2 _),Oc8 (by omega)]
   rw[Ol4 U]
  have br:Hid (rest.drop n=rest.drop 56):=by
   show _=_
   rw[X.out]
   rcases Oc1 rest.length 56 with U|U
   ·rw[Oj1 (by omega),Ol8 (Oa2 _),Ol8 (by omega)]
   rw[Ol4 U]
  have bA:=Kkb rest 0 n
  have bB:=Kkb rest n rest.length
  rw[List.drop_zero,bu.out]at bA
  rw[Of2,br.out]at bB
  have bU:(rest.drop 56).length<rest.length:=by rw[Of7];omega
  have bN:(rest.take 56).length≤56:=by rw[Oc7];omega
  have bY:(if 56<(rest.length:Int)then (56:Int)else (rest.length:Int))=(n:Int):=by have:=X.out;split<;>omega
  rw[bf.out]at K
  clear bf bu br X
  generalize rest.take 56=R at *
  generalize rest.drop 56=bP at *
  by_cases O:y.quota≤((Js y.pages:Nat):Int)∨wrap64 (y.writes+1)=y.fail
  ·have bc:Hid (Uy H (Qu D)=((Kjn y).1,l,some (Kjn y).2)):=by show _=_;rw[K.out,Kko y _ _ O];simp[Kiw]
   have bl:=Kj7 d (Qw R) wr FD y hL.disk q bn (hL.keep.cell ba bD) (hL.keep.cell bO bE) O
   have A:Hid (Kiy w F wr d y u6 l FD):=hL
   obtain⟨a,cap,M,_⟩:=hL.own.cells
   rw[Oa6]at M
   clear hL O K
   subst M
   go_wp2_with (first|(go_at_call 94;refine bl.mono ?_;rintro e Z ⟨E,bh,b,rfl,bH,bI⟩)|(go_at_call 95;refine(Ki0 d a cap l Z FD _ bh (Jji (A.out.stand E).1).1 (fun b o bG=>A.out.apart b ((Jji (A.out.stand E).1).2 b o bG)) (by omega)).mono ?_;rintro e bR ⟨rfl,bJ,bj⟩))
   go_ret2
   rw[bc.out]
   have bx:¬ FD b:=fun hf=>by have:=A.out.lt b hf;omega
   exact⟨(A.out.stand (E.trans bj)).2,FD,bJ,A.out.from_,fun k bi=>Oc2 (A.out.lt k bi) (Ob2 E.size bj.size),b,rfl,Ob2 A.out.keep.size bH,Ki6 bI bj bx,bx⟩
  have h1:¬ y.quota≤((Js y.pages:Nat):Int):=fun h=>O (.inl h)
  have h2:¬ wrap64 (y.writes+1)=y.fail:=fun h=>O (.inr h)
  rw[Kjp l y R _ h1 h2]at K
  have bl:=Kjt d R bN wr FD y hL.disk (by omega) h1 h2
  have ch:=Jxm y R
  have A:Hid (Kiy w F wr d y u6 l FD):=hL
  obtain⟨a,cap,M,_⟩:=hL.own.cells
  rw[Oa6]at M
  clear hL O h1 h2
  subst M
  have bX:=A.out.keep.size
  go_wp2_with (first|(go_at_call 94;refine bl.mono ?_;rintro e Z ⟨E,bh,rfl⟩;have cc:=E.size)|(at_builtin;go_must (refine Ks (by rfl) _ _ 22 3 _ 8 Zw (by rfl) (by decide) (by kernel_rfl) (by rfl) w.heap.size _ _ (by rfl) (Jo.alloc (A.out.stand E).1 _) ⟨Z.heap.size,0,none⟩ 1 [nv (Kb y.pages)] (by rfl) (by exact Ua Z _ _) (by intro u bz;simp at bz;subst bz;rfl) (by simp only[List.length_cons,List.length_nil,Oa6];omega) (by simp;omega) ?_);intro sv' ci h1 h2 bC;obtain⟨bS,bT,rfl,_⟩:=h1.cells))
  go_roundw
  case rel=>
   have ba:=A.out.more E R bh _ h1 h2 bC
   rw[Oa8,Oa6]at ba
   exact⟨bP,Zn y R,l++[Kb y.pages],_,rfl,by omega,by simp;omega,by omega,ba,K.out⟩
  case measure=>simp only[Kky];simp[Jb2];omega
def Uf (y:DS):List Nat→List UInt8⊕Nat
 |[]=>.inl []
 |i::l=>match (y.pages.getD i none).bind Jd2 with
  |none=>.inr i
  |some t=>match Uf y l with
   |.inl u=>.inl (t++u)
   |.inr j=>.inr j
theorem Jrf {p t:List UInt8}(h:Jd2 p=some t):t.length≤56:=by
 unfold Jd2 at h
 split at h
 ·simp at h
 simp at h
 subst h
 rename_i y
 rw[Oa0]at y
 rw[Oc7]
 omega
theorem Jv5 {y:DS}{l:List Nat}(k:Nat)(A:k<l.length)(t u:List UInt8)(D:(y.pages.getD l[k] none).bind Jd2=some u)(h:Uf y l=(match Uf y (l.drop k)with|.inl r=>.inl (t++r)|.inr j=>.inr j)) :
  Uf y l=(match Uf y (l.drop (k+1))with|.inl r=>.inl ((t++u)++r)|.inr j=>.inr j):=by
 rw[h,Oi1 A]
 simp only[Uf,D]
 cases Uf y (l.drop (k+1))<;>simp
theorem Jo9 {y:DS}{l:List Nat}(k:Nat)(A:k<l.length)(t:List UInt8)(D:(y.pages.getD l[k] none).bind Jd2=none)(h:Uf y l=(match Uf y (l.drop k)with|.inl r=>.inl (t++r)|.inr j=>.inr j)):Uf y l=.inr l[k]:=by
 rw[h,Oi1 A]
 simp only[Uf,D]
theorem Je0 {l:List (Option (List UInt8))}{i:Nat}(h:Jai l (i:Int)=false):l.getD i none=none:=by
 cases hq:l.getD i none with
 |none=>rfl
 |some p=>
  rw[Oa0]at hq
  have:l[i]?=some (some p):=by
   cases hh:l[i]? with
   |none=>rw[hh]at hq;simp at hq
   |some x=>rw[hh]at hq;simp at hq;rw[hq]
  rw[Jtc this]at h
  simp at h
theorem Jfv (n:Int)(w:World)(pg:Addr)(y:w.cell? ⟨8,0,none⟩=some (.iface 435 (.pointer (some pg)))) :
  Calls prog 115 #[.int .i64 n] w fun e w'=>Below w.heap.size w w'∧∃ b,e=.returned (.iface 160 (.pointer (some ⟨b,0,none⟩)))∧w.heap.size≤b∧Yu w' (.iface 160 (.pointer (some ⟨b,0,none⟩))) pg none (some n):=by
 go_enter func115,ntmps115
 go_wp2
 go_ret
 exact⟨(Oa5 _ w).alloc (Oa2 _) _,_,rfl,Oa2 _,Jwl w pg n⟩
def Keo (w:World)(pg:Addr)(r:List UInt8⊕Nat)(e:Ending)(w':World):Prop:=
 Below w.heap.size w w'∧match r with
  |.inl t=>e=.returned (.tuple #[.string (Qw t),.nilIface])
  |.inr i=>∃ b,e=.returned (.tuple #[.string ⟨#[]⟩,.iface 160 (.pointer (some ⟨b,0,none⟩))])∧w.heap.size≤b∧Yu w' (.iface 160 (.pointer (some ⟨b,0,none⟩))) pg none (some (i:Int))
theorem Jzx {w:World}{F:Nat→Prop}{d:Nat}{y:DS}{sv:Value}{ps:List (Option Nat)}(h:Jf1 w F d y sv ps)(i:Nat)(X:Jai y.pages (i:Int)=true) :
  ∃ g cap b p,sv=.slice (some ⟨g,0,none⟩) ps.length cap∧i<ps.length∧w.cell? ⟨g,i,none⟩=some (.pointer (some ⟨b,0,none⟩))∧y.pages.getD i none=some p∧Jdp w b p:=by
 obtain⟨p,E⟩:=Jf3 X
 obtain⟨a,cap,O,M⟩:=h.list
 have A:i<ps.length:=by
  rw[h.len]
  rcases Oc1 i y.pages.length with D|D
  ·exact D
  rw[Ob4 D]at E;simp at E
 obtain⟨g,rfl,_,_,cg,_⟩:=M i A
 have H:=h.which i A
 rw[Oa0,E]at H
 obtain⟨b,K⟩:∃ b,ps[i]=some b:=by
  cases hq:ps[i]with
  |none=>rw[hq]at H;simp at H
  |some b=>exact⟨b,rfl⟩
 obtain⟨_,_,_,Z,R,U⟩:=h.page i b (by rw[←K];simp[A])
 rw[K]at cg
 exact⟨g,cap,b,Z,O,A,cg,by rw[Oa0,R];rfl,U⟩
theorem Kag (d:Nat)(a:Option Addr)(cap:Nat)(l:List Nat)(w:World)(F:Nat→Prop)(y:DS)(h:Zb w F d y)(M:Uh w a (l.map nv))(bK:l.length≤1000000)(pg:Addr)(bC:w.cell? ⟨8,0,none⟩=some (.iface 435 (.pointer (some pg))))(X:∀ t,Uf y l=.inl t→t≠[]) :
  Calls prog 113 #[.pointer (some ⟨d,0,none⟩),.slice a l.length cap] w fun e w'=>Keo w pg (Uf y l) e w':=by
 go_enter func113,ntmps113
 go_wp2
 go_loopw [13] (fun i wr=>∃ (k:Nat) (t:List UInt8),k≤l.length∧t.length≤56*k∧i=.int .i64 k∧Jkw wr w.heap.size w.heap.size t∧Below w.heap.size w wr∧Hid (Uf y l=(match Uf y (l.drop k)with|.inl r=>.inl (t++r)|.inr j=>.inr j))) (fun i _=>l.length-(intOf i).toNat)
 case atStart=>exact⟨0,[],Ob7 _,by simp,rfl,Jkw.new w _ (Oa2 _),(Oa5 _ _).alloc (Oa2 _) _,by show _=_;rw[List.drop_zero];cases Uf y l<;>rfl⟩
 case round=>
  rename_i i
  obtain⟨k,t,bJ,bL,rfl,bk,A,E⟩:=hrel
  by_cases U:k<l.length
  ·rcases M with M|⟨b,o,rfl,bx,M⟩
   ·simp at M;subst M;simp at U
   have bG:wr.cell? ⟨b,o+k,none⟩=some (.int .i64 ((l[k]:Nat):Int)):=by rw[(Kx A).1 b (o+k) bx];exact M k _ (by simp[U];rfl)
   have bl:=Ja A bC
   have bj:=h.below A
   have R:=Jwv d (l[k]:Int) wr F y bj
   have bn:=Jfv (l[k]:Int) wr pg bl
   by_cases H:Jai y.pages ((l[k]:Nat):Int)=true
   ·rw[H]at R
    obtain⟨sv,ps,bc⟩:=bj
    obtain⟨_,_,_,_,_,c5⟩:=bc.field
    obtain⟨g,cp,bp,p,rfl,bH,cg,ba,bB⟩:=Jzx bc l[k] H
    have bb:=Ke1 bp p wr bB
    have bI:((l[k]:Nat):Int)<(ps.length:Int):=by omega
    cases ho:Jd2 p with
    |none=>
     have K:Hid (Uf y l=.inr l[k]):=Jo9 k U t (by rw[ba];exact ho) E.out
     rw[ho]at bb
     clear E X ba H bc ho
     generalize l[k]=i at *
     go_wp2_with (first|(go_at_call 128;refine R.mono ?_;rintro e w' ⟨rfl,br⟩;subst w')|(go_at_call 158;refine bb.mono ?_;rintro e Z ⟨rfl,D⟩;have bD:=Jfv (i:Int) Z pg (Ja D bl))|(go_at_call 115;refine bD.mono ?_;rintro e bi ⟨O,b2,rfl,bf,bh⟩))
     go_ret2
     rw[K.out]
     exact⟨Jb A (Jb D O),b2,rfl,Ob2 A.size (Ob2 D.size bf),bh⟩
    |some u=>
     have bu:Hid (Uf y l=(match Uf y (l.drop (k+1))with|.inl r=>.inl ((t++u)++r)|.inr j=>.inr j)):=Jv5 k U t u (by rw[ba];exact ho) E.out
     have bM:=Jrf ho
     rw[ho]at bb
     clear E X ba H bc ho bn
     generalize l[k]=i at *
     go_wp2_with (first|(go_at_call 128;refine R.mono ?_;rintro e w' ⟨rfl,br⟩;subst w')|(go_at_call 158;refine bb.mono ?_;rintro e Z ⟨rfl,D⟩;have bz:=Jv2 w.heap.size w.heap.size t u Z (bk.below D) (by omega) (Ob2 A.size D.size))|(go_at_call 159;refine bz.mono ?_;rintro e bi ⟨rfl,bA,O⟩))
     go_roundw
     case rel=>exact⟨k+1,t++u,by omega,by simp;omega,by go_num,bA,(Jb A D).trans O,bu.out⟩
     case measure=>simp[intOf];omega
   rw[Oo1]at H
   rw[H]at R
   have K:Hid (Uf y l=.inr l[k]):=Jo9 k U t (by rw[Je0 H];rfl) E.out
   clear E X
   generalize l[k]=i at *
   go_wp2_with (first|(go_at_call 128;refine R.mono ?_;rintro e w' ⟨rfl,br⟩;subst w')|(go_at_call 115;refine bn.mono ?_;rintro e bi ⟨O,b2,rfl,bf,bh⟩))
   go_ret2
   rw[K.out]
   exact⟨Jb A O,b2,rfl,Ob2 A.size bf,bh⟩
  obtain rfl:k=l.length:=by omega
  have K:Hid (Uf y l=.inl t):=by show _=_;rw[E.out,List.drop_length];simp[Uf]
  have bE:=Jsp w.heap.size w.heap.size t wr bk (X t K.out)
  clear E X
  go_wp2_with (go_at_call 160;refine bE.mono ?_;rintro e Z ⟨rfl,D⟩)
  go_ret2
  rw[K.out]
  exact⟨A.trans D,rfl⟩
structure TS where
 name:ByteArray
 types:List Int
 rows:Nat
 group:Nat
 segs:List (List Nat)
def Kh8 (h:Option Addr×Nat)(l:List Nat):Value:=.slice h.1 l.length h.2
structure Jaf (w:World) (F:Nat→Prop) (a:Option Addr) (hs:List (Option Addr×Nat)) (ls:List (List Nat)):Prop where
 len:hs.length=ls.length
 cells:Uh w a (List.zipWith Kh8 hs ls)
 segs:∀ (i:Nat) h l,hs[i]?=some h→ls[i]?=some l→Uh w h.1 (l.map nv)
 aF:∀ b o,a=some ⟨b,o,none⟩→F b
 hF:∀ (i:Nat) h,hs[i]?=some h→∀ b o,h.1=some ⟨b,o,none⟩→F b
theorem Jaf.stands {w w':World}{F:Nat→Prop}{a:Option Addr}{hs:List (Option Addr×Nat)}{K:List (List Nat)}(h:Jaf w F a hs K)(E:w.heap.size≤w'.heap.size)(D:∀ k,F k→k<w.heap.size→w'.heap[k]?=w.heap[k]?):Jaf w' F a hs K:=
 ⟨h.len,h.cells.of_block E fun b o y A=>D b (h.aF b o y) A,fun i x l H A=>(h.segs i x l H A).of_block E fun b o y M=>D b (h.hF i x H b o y) M,h.aF,h.hF⟩
theorem Jaf.mono {w:World}{F G:Nat→Prop}{a:Option Addr}{hs:List (Option Addr×Nat)}{D:List (List Nat)}(h:Jaf w F a hs D)(A:∀ k,F k→G k):Jaf w G a hs D:=
 ⟨h.len,h.cells,h.segs,fun b o y=>A b (h.aF b o y),fun i x E b o y=>A b (h.hF i x E b o y)⟩
theorem Jaf.at {w:World}{F:Nat→Prop}{a:Option Addr}{hs:List (Option Addr×Nat)}{y:List (List Nat)}(h:Jaf w F a hs y){i:Nat}(hi:i<y.length) :
  ∃ b o A M,a=some ⟨b,o,none⟩∧F b∧b<w.heap.size∧w.cell? ⟨b,o+i,none⟩=some (.slice A y[i].length M)∧Uh w A (y[i].map nv)∧∀ b o,A=some ⟨b,o,none⟩→F b:=by
 have E:i<hs.length:=by rw[h.len];exact hi
 obtain⟨b,o,D,H,K⟩:=h.cells.at (i:=i) (by simp;omega)
 exact⟨b,o,hs[i].1,hs[i].2,D,h.aF b o D,H,by rw[K];simp[Kh8],h.segs i hs[i] y[i] (by simp[E]) (by simp[hi]),h.hF i hs[i] (by simp[E])⟩
structure Khb (w:World) (F:Nat→Prop) (tb:Nat) (T:TS) (ta:Option Addr) (tc:Nat) (sa:Option Addr) (sc:Nat) (hs:List (Option Addr×Nat)):Prop where
 cells:w.heap[tb]?=some (.cells #[.string T.name,.slice ta T.types.length tc,.int .i64 (T.rows:Int),.int .i64 (T.group:Int),.slice sa T.segs.length sc] 133 (0,0))
 types:Kc w ta T.types
 tF:∀ b o,ta=some ⟨b,o,none⟩→F b
 segs:Jaf w F sa hs T.segs
 cap:T.segs.length≤sc
 bF:F tb
def Jmg (w:World)(F:Nat→Prop)(E:Nat)(T:TS):Prop:=∃ D H y A hs,Khb w F E T D H y A hs
theorem Jmg.stands {w w':World}{F:Nat→Prop}{A:Nat}{T:TS}(h:Jmg w F A T)(D:w.heap.size≤w'.heap.size)(y:∀ k,F k→k<w.heap.size→w'.heap[k]?=w.heap[k]?):Jmg w' F A T:=by
 obtain⟨O,R,K,M,hs,h⟩:=h
 exact⟨O,R,K,M,hs,by rw[y A h.bF (Jd h.cells)];exact h.cells,h.types.of_block D fun b o E H=>y b (h.tF b o E) H,h.tF,h.segs.stands D y,h.cap,h.bF⟩
theorem Jmg.mono {w:World}{F G:Nat→Prop}{A:Nat}{T:TS}(h:Jmg w F A T)(y:∀ k,F k→G k):Jmg w G A T:=by
 obtain⟨K,M,E,H,hs,h⟩:=h
 exact⟨K,M,E,H,hs,h.cells,h.types,fun b o D=>y b (h.tF b o D),h.segs.mono y,h.cap,y A h.bF⟩
theorem Khb.field {w:World}{F:Nat→Prop}{y:Nat}{T:TS}{E:Option Addr}{H:Nat}{A:Option Addr}{D:Nat}{hs:List (Option Addr×Nat)}(h:Khb w F y T E H A D hs) :
  w.cell? ⟨y,0,.none⟩=some (.string T.name)∧w.cell? ⟨y,1,.none⟩=some (.slice E T.types.length H)∧w.cell? ⟨y,2,.none⟩=some (.int .i64 (T.rows:Int))∧w.cell? ⟨y,3,.none⟩=some (.int .i64 (T.group:Int))∧w.cell? ⟨y,4,.none⟩=some (.slice A T.segs.length D):=by
 simp[World.cell?,h.cells]
def Jcp (b:Nat):Value:=.pointer (some ⟨b,0,none⟩)
structure Jfl (w:World) (F:Nat→Prop) (s d:Nat) (Ts:List TS) (sv:Value) (bs:List Nat):Prop where
 cells:w.heap[s]?=some (.cells #[.pointer (some ⟨d,0,none⟩),sv] 116 (0,0))
 own:Jo w 0 129 sv (bs.map Jcp)
 sF:¬ F s
 gF:∀ g,sv.ownBlock=some g→¬ F g∧g≠s
 len:bs.length=Ts.length
 tab:∀ (i:Nat) b T,bs[i]?=some b→Ts[i]?=some T→Jmg w F b T
 few:Ts.length≤6
def Jnr (s:Nat)(sv:Value):Nat→Prop:=fun k=>k=s∨sv.ownBlock=some k
theorem Jfl.stands {w w':World}{F:Nat→Prop}{s d:Nat}{Ts:List TS}{sv:Value}{bs:List Nat}(h:Jfl w F s d Ts sv bs)(H:w.heap.size≤w'.heap.size)(y:∀ k,F k∨Jnr s sv k→k<w.heap.size→w'.heap[k]?=w.heap[k]?):Jfl w' F s d Ts sv bs:=
 ⟨by rw[y s (.inr (.inl rfl)) (Jd h.cells)];exact h.cells,Yd h.own fun g A=>y g (.inr (.inr A)) (Qk h.own A),h.sF,h.gF,h.len,fun i b T E D=>(h.tab i b T E D).stands H fun k hf=>y k (.inl hf),h.few⟩
theorem Jfl.below {w w':World}{F:Nat→Prop}{s d:Nat}{Ts:List TS}{sv:Value}{bs:List Nat}(h:Jfl w F s d Ts sv bs)(y:Below w.heap.size w w'):Jfl w' F s d Ts sv bs:=h.stands y.size fun k _ A=>y.block k A
theorem Jfl.field {w:World}{F:Nat→Prop}{s d:Nat}{Ts:List TS}{sv:Value}{bs:List Nat}(h:Jfl w F s d Ts sv bs):w.cell? ⟨s,0,none⟩=some (.pointer (some ⟨d,0,none⟩))∧w.cell? ⟨s,1,none⟩=some sv:=by
 simp[World.cell?,h.cells]
theorem Jfl.at {w:World}{F:Nat→Prop}{s d:Nat}{Ts:List TS}{sv:Value}{bs:List Nat}(h:Jfl w F s d Ts sv bs){i:Nat}(hi:i<Ts.length) :
  ∃ b o,sv=.slice (some ⟨b,o,none⟩) Ts.length (match sv with|.slice _ _ c=>c|_=>0)∧w.cell? ⟨b,o+i,none⟩=some (.pointer (some ⟨bs[i]'(by rw[h.len];exact hi),0,none⟩))∧Jmg w F (bs[i]'(by rw[h.len];exact hi)) Ts[i]:=by
 have y:i<bs.length:=by rw[h.len];exact hi
 obtain⟨a,cap,H,D⟩:=h.own.cells
 obtain⟨b,o,A,_,E⟩:=D.at (i:=i) (by simpa using y)
 subst H A
 exact⟨b,o,by simp[h.len],by rw[E];simp[Jcp],h.tab i _ _ (by simp[y]) (by simp[hi])⟩
def Ub:List TS→ByteArray→Nat
 |[],_=>0
 |T::Ts,n=>if T.name=n then 0 else Ub Ts n+1
def Jhc (Ts:List TS)(n:ByteArray):Int:=if Ub Ts n<Ts.length then (Ub Ts n:Int)else -1
theorem Kdk (Ts:List TS)(n:ByteArray):Ub Ts n≤Ts.length:=by
 induction Ts with
 |nil=>simp[Ub]
 |cons T Ts y=>simp only[Ub];split<;>simp<;>omega
theorem Kc4 (Ts:List TS)(n:ByteArray):∀ (k:Nat) (y:k<Ts.length),(∀ j (E:j<k),(Ts[j]'(by omega)).name≠n)→Ts[k].name=n→Ub Ts n=k:=by
 induction Ts with
 |nil=>intro k y;simp at y
 |cons T Ts H=>
  intro k y D A
  cases k with
  |zero=>simp at A;simp[Ub,A]
  |succ k=>
   have h0:=D 0 (by omega)
   simp at h0
   simp only[Ub,if_neg h0]
   rw[H k (by simpa using y) (fun j E=>by have:=D (j+1) (by omega);simpa using this) (by simpa using A)]
theorem Jvr (Ts:List TS)(n:ByteArray)(h:∀ j (y:j<Ts.length),Ts[j].name≠n):Ub Ts n=Ts.length:=by
 induction Ts with
 |nil=>rfl
 |cons T Ts A=>
  have h0:=h 0 (by simp)
  simp at h0
  simp only[Ub,if_neg h0,List.length_cons]
  rw[A fun j y=>by have:=h (j+1) (by simp;omega);simpa using this]
theorem Jn4 (R:Nat)(n:ByteArray)(w:World)(F:Nat→Prop)(s d:Nat)(Ts:List TS)(sv:Value)(bs:List Nat)(h:Jfl w F s d Ts sv bs)(hn:w.cell? ⟨R,0,none⟩=some (.string n)) :
  Calls prog 61 #[sv,.func (.func 62) #[] #[.pointer (some ⟨R,0,none⟩)]] w fun e w'=>e=.returned (.int .i64 (Jhc Ts n))∧Below w.heap.size w w':=by
 obtain⟨a,cap,O,bb⟩:=h.own.cells
 rw[Oa6,h.len]at O
 subst O
 have bc:=h.few
 go_enter func61,ntmps61
 go_wp2
 go_loopw [8] (fun i wr=>∃ k:Nat,k≤Ts.length∧i=.int .i64 k∧Below w.heap.size w wr∧Hid (∀ j (y:j<Ts.length),j<k→Ts[j].name≠n)) (fun i _=>Ts.length-(intOf i).toNat)
 case atStart=>exact⟨0,Ob7 _,rfl,Oa5 _ _,fun j _ y=>absurd y (Oe0 _)⟩
 case round=>
  obtain⟨k,bh,rfl,D,H⟩:=hrel
  by_cases K:k<Ts.length
  ·obtain⟨b,o,M,c1,ba⟩:=(h.below D).at K
   simp at M
   subst M
   obtain⟨bn,br,bj,bk,hs,U⟩:=ba
   obtain⟨bl,_,_,_,_⟩:=U.field
   have bi:=Ja D hn
   by_cases A:Ts[k].name=n
   ·have E:Hid (Ts[k].name=n):=A
    have Z:(Ts[k].name.toList==n.toList)=true:=by rw[A];simp
    clear A
    go_wp2
    go_quiet (fail)
    go_wp2
    go_ret
    have hf:=Kc4 Ts n k K (fun j y=>H.out j (by omega) y) E.out
    exact⟨Yp (by unfold Jhc;rw[hf,if_pos K]),Jp D _⟩
   have E:Hid (¬ Ts[k].name=n):=A
   have Z:(Ts[k].name.toList==n.toList)=false:=by
    rw[beq_eq_false_iff_ne]
    exact fun X=>A (by rw[←Zf Ts[k].name,X,Zf])
   clear A
   go_wp2
   go_quiet (fail)
   go_wp2
   go_roundw
   case rel=>
    refine⟨k+1,by omega,by go_num,Jp D _,fun j y bf=>?_⟩
    by_cases e:j=k
    ·subst e;exact E.out
    exact H.out j y (by omega)
   case measure=>simp[intOf];omega
  go_wp2
  go_ret
  have hf:=Jvr Ts n (fun j y=>H.out j y (by omega))
  exact⟨Yp (by unfold Jhc;rw[hf,if_neg (Oe3 _)]),D⟩
theorem Jo8 (n:ByteArray)(w:World)(F:Nat→Prop)(s d:Nat)(Ts:List TS)(sv:Value)(bs:List Nat)(h:Jfl w F s d Ts sv bs) :
  Calls prog 45 #[.pointer (some ⟨s,0,none⟩),.string n] w fun e w'=>e=.returned (.int .i64 (Jhc Ts n))∧Below w.heap.size w w':=by
 obtain⟨_,c1⟩:=h.field
 have D:Below w.heap.size w (w.alloc (.cells #[.string n] 9)):=(Oa5 _ _).alloc (Oa2 _) _
 have hf:=Jn4 w.heap.size n _ F s d Ts sv bs (h.below D) (by simp)
 have E:∀ (fn:Fn) (first cap:Array Value) (w:World),(Instr.makeFunc fn first cap).run prog w=.ok (.func fn first cap) w:=fun _ _ _ _=>rfl
 obtain⟨a,cap,y,_⟩:=h.own.cells
 rw[Oa6]at y
 subst y
 have H:=Jd h.cells
 clear h
 go_enter func45,ntmps45
 go_wp2_with (go_at_call 61;refine hf.mono ?_;rintro e w1 ⟨rfl,A⟩)
 go_ret
 exact⟨rfl,Qx A⟩
def Jcg (y:DS)(A:List (List Nat)):DS:=A.foldl Jf4 y
theorem Kjz (y:DS)(A:List (List Nat))(l:List Nat):Jcg y (A++[l])=Jf4 (Jcg y A) l:=by simp[Jcg]
theorem Kjd (s d:Nat)(a:Option Addr)(cap:Nat)(hs:List (Option Addr×Nat))(y:List (List Nat))(w:World)(F G:Nat→Prop)(A:DS)(h:Zb w F d A)(bb:Jaf w G a hs y)(M:∀ k,G k→¬ F k)(bi:w.cell? ⟨s,0,none⟩=some (.pointer (some ⟨d,0,none⟩)))(bj:¬ F s)(bA:y.length≤1000000)(O:∀ l∈y,l.length≤1000000) :
  Calls prog 67 #[.pointer (some ⟨s,0,none⟩),.slice a y.length cap] w fun e w'=>e=.returned (.tuple #[])∧Zb w' F d (Jcg A y)∧Ju F w w':=by
 have R:Hid (∀ l∈y,l.length≤1000000):=O
 clear O
 go_enter func67,ntmps67
 go_wp2
 go_loopw [8] (fun i wr=>∃ k:Nat,k≤y.length∧i=.int .i64 k∧Zb wr F d (Jcg A (y.take k))∧Ju F w wr) (fun i _=>y.length-(intOf i).toNat)
 case atStart=>exact⟨0,Ob7 _,rfl,by simpa [Jcg] using h,Ju.refl _ _⟩
 case round=>
  rename_i i
  obtain⟨k,bz,rfl,H,D⟩:=hrel
  by_cases E:k<y.length
  ·have U:Hid (Jcg A (y.take (k+1))=Jf4 (Jcg A (y.take k)) y[k]):=by
    show Jcg A (y.take (k+1))=_
    rw[Oc4 E,Kjz]
   have bc:=bb.stands D.size fun b K E=>D.block b E (M b K)
   obtain⟨b,o,bk,bl,rfl,bu,bx,br,X,bf⟩:=bc.at E
   have c0:=D.cell bi bj
   have bh:=Ki0 d bk bl y[k] wr F _ H X (fun b o K=>M b (bf b o K)) (R.out _ (Ob3 E))
   go_wp2_with (go_at_call 95;refine bh.mono ?_;rintro e bn ⟨rfl,Z,ba⟩)
   go_roundw
   case rel=>exact⟨k+1,by omega,by go_num,by rw[U.out];exact Z,D.trans ba⟩
   case measure=>simp[intOf];omega
  obtain rfl:k=y.length:=by omega
  rw[Of2]at H
  go_wp2
  go_end0
  exact⟨rfl,H,D⟩
def Jq (D:DS):List (List UInt8)→DS×List (List Nat)×Option Bool
 |[]=>(D,[],none)
 |t::A=>match Uy D (Qu t)with
  |(y,l,none)=>((Jq y A).1,l::(Jq y A).2.1,(Jq y A).2.2)
  |(y,l,some x)=>(Jf4 y l,[],some x)
def Kit (y:List (List Nat))(r:DS×List (List Nat)×Option Bool):DS×List (List Nat)×Option Bool:=(r.1,y++r.2.1,r.2.2)
theorem Kjf {D:List (List Nat)}{y A:DS}{t:List UInt8}{E:List (List UInt8)}{l:List Nat}(h:Uy y (Qu t)=(A,l,none)):Kit D (Jq y (t::E))=Kit (D++[l]) (Jq A E):=by
 simp[Kit,Jq,h]
theorem Kjv {D:List (List Nat)}{y A:DS}{t:List UInt8}{E:List (List UInt8)}{l:List Nat}{x:Bool}(h:Uy y (Qu t)=(A,l,some x)):Kit D (Jq y (t::E))=(Jf4 A l,D,some x):=by
 simp[Kit,Jq,h]
structure Kiu (w0:World) (F0:Nat→Prop) (w:World) (d:Nat) (E:DS) (sv:Value) (hs:List (Option Addr×Nat)) (ls:List (List Nat)) (FD:Nat→Prop):Prop where
 disk:Zb w FD d E
 from_:∀ k,FD k→F0 k∨w0.heap.size≤k
 lt:∀ k,FD k→k<w.heap.size
 own:Jo w w0.heap.size 22 sv (List.zipWith Kh8 hs ls)
 len:hs.length=ls.length
 segs:∀ (i:Nat) h l,hs[i]?=some h→ls[i]?=some l→Uh w h.1 (l.map nv)
 new:∀ (i:Nat) h,hs[i]?=some h→∀ b o,h.1=some ⟨b,o,none⟩→w0.heap.size≤b∧b<w.heap.size∧¬ FD b∧sv.ownBlock≠some b
 apart:∀ g,sv.ownBlock=some g→¬ FD g
 keep:Ju F0 w0 w
theorem Kiu.stand {D w w':World}{E FD:Nat→Prop}{d:Nat}{M:DS}{sv:Value}{hs:List (Option Addr×Nat)}{A:List (List Nat)}(h:Kiu D E w d M sv hs A FD)(y:Ju FD w w') :
  Jo w' D.heap.size 22 sv (List.zipWith Kh8 hs A)∧Ju E D w'∧(∀ (i:Nat) x l,hs[i]?=some x→A[i]?=some l→Uh w' x.1 (l.map nv)):=
 ⟨Yd h.own fun g H=>y.block g (Qk h.own H) (h.apart g H),h.keep.trans' y fun k X hf=>(h.from_ k hf).resolve_right (by omega),
  fun i x l K R=>(h.segs i x l K R).of_block y.size fun b o O U=>y.block b U (h.new i x K b o O).2.2.1⟩
theorem Kjb (hs:List (Option Addr×Nat))(y:List (List Nat))(h:hs.length=y.length)(x:Option Addr×Nat)(l:List Nat):List.zipWith Kh8 (hs++[x]) (y++[l])=List.zipWith Kh8 hs y++[Kh8 x l]:=by
 rw[List.zipWith_append h];rfl
theorem Kec {α:Type}{xs:List α}{x A:α}{i:Nat}(h:(xs++[x])[i]?=some A):(i<xs.length∧xs[i]?=some A)∨(i=xs.length∧x=A):=by
 rcases Oc1 i xs.length with y|y
 ·rw[Ob0 y]at h
  exact .inl ⟨y,h⟩
 rw[Ob6 y]at h
 rcases Oc1 (i-xs.length) 1 with h2|h2
 ·have:i-xs.length=0:=by omega
  rw[this]at h
  simp at h
  exact .inr ⟨by omega,h⟩
 rw[Ob4 (by simpa using h2)]at h
 simp at h
theorem Kiu.more {bk wr y bc:World}{bn FD M:Nat→Prop}{d:Nat}{bG bl:DS}{sv sv':Value}{hs:List (Option Addr×Nat)}{bb:List (List Nat)}(h:Kiu bk bn wr d bG sv hs bb FD)(bA:Ju FD wr y)(bI:Zb y M d bl)(X:∀ k,M k→FD k∨wr.heap.size≤k)(bB:∀ k,M k→k<y.heap.size)
  (E:Option Addr) (c1:Nat) (l:List Nat) (bj:Jo y wr.heap.size 3 (.slice E l.length c1) (l.map nv)) (bH:∀ g,(Value.slice E l.length c1).ownBlock=some g→¬ M g) (o:Obj)
  (bK:Jo bc bk.heap.size 22 sv' (List.zipWith Kh8 hs bb++[.slice E l.length c1])) (A:(y.alloc o).grownBy bc sv.ownBlock) (br:sv'.ownBlock=sv.ownBlock∨sv'.ownBlock=some (y.alloc o).heap.size) :
  Kiu bk bn bc d bl sv' (hs++[(E,c1)]) (bb++[l]) M:=by
 have bM:=A.size
 rw[Oa7]at bM
 have bS:=bA.size
 have bR:=h.keep.size
 have Z:∀ g,sv.ownBlock=some g→g<wr.heap.size:=fun g A=>Qk h.own A
 have ba:∀ k,k<y.heap.size→sv.ownBlock≠some k→bc.heap[k]?=y.heap[k]?:=fun k H bi=>(A.block k (by simp;omega) (Oc5 bi)).trans (Oa9 y o k H)
 have bC:∀ b,b<y.heap.size→sv.ownBlock≠some b→sv'.ownBlock≠some b:=fun b U bi e=>by
  rcases br with bf|bf
  ·exact bi (bf▸e)
  rw[bf]at e
  simp at e
  omega
 have bE:∀ g,(Value.slice E l.length c1).ownBlock=some g→wr.heap.size≤g∧g<y.heap.size:=fun g A=>Je bj A
 have bD:∀ b o,E=some ⟨b,o,none⟩→(Value.slice E l.length c1).ownBlock=some b:=(Jji bj).2
 obtain⟨_,K,bL⟩:=h.stand bA
 refine⟨bI.stands fun k H bJ=>ba k bJ fun e=>?_,fun k H=>?_,fun k H=>Oc2 (bB k H) (by omega),?_,by simp[h.len],?_,?_,fun g O=>?_,?_⟩
 ·rcases X k H with hf|hf
  ·exact h.apart k e hf
  have:=Z k e;omega
 ·rcases X k H with hf|hf
  ·exact h.from_ k hf
  exact .inr (by omega)
 ·rw[Kjb hs bb h.len];exact bK
 ·intro i x bN D R
  rcases Kec D with⟨hi,D⟩|⟨hi,rfl⟩
  ·rw[Ob0 (by rw[←h.len];exact hi)]at R
   exact(bL i x bN D R).of_block (by omega) fun b o U bh=>ba b bh (h.new i x D b o U).2.2.2
  rw[hi,h.len,Ob6 (Oa2 _)]at R
  simp at R
  subst R
  exact(Jji bj).1.of_block (by omega) fun b o U bh=>ba b bh fun e=>by have:=Z b e;have:=(bE b (bD b o U)).1;omega
 ·intro i x D b o bu
  rcases Kec D with⟨hi,D⟩|⟨hi,rfl⟩
  ·obtain⟨bO,bT,bP,bQ⟩:=h.new i x D b o bu
   refine⟨bO,by omega,fun hf=>?_,bC b (by omega) bQ⟩
   rcases X b hf with hf|hf
   ·exact bP hf
   omega
  have bx:=bD b o bu
  obtain⟨g1,g2⟩:=bE b bx
  exact⟨by omega,by omega,bH b bx,bC b g2 fun e=>by have:=Z b e;omega⟩
 ·intro hf
  rcases br with e|e
  ·rw[e]at O
   rcases X g hf with hf|hf
   ·exact h.apart g O hf
   have:=Z g O;omega
  rw[e]at O
  simp at O
  have:=bB g hf
  omega
 refine⟨A.os.trans K.os,A.tape.trans K.tape,A.output.trans K.output,Ob2 K.size (by omega),fun k bz hn=>?_⟩
 refine(ba k (Oc2 bz K.size) fun e=>?_).trans (K.block k bz hn)
 have:=(Je h.own e).1
 omega
def Jxo (w:World)(F:Nat→Prop)(d:Nat)(q wr:Addr)(r:DS×List (List Nat)×Option Bool)(e:Ending)(w':World):Prop:=
 Ju F w w'∧∃ FD:Nat→Prop,Zb w' FD d (match r.2.2 with|none=>r.1|some _=>Jcg r.1 r.2.1)∧(∀ k,FD k→F k∨w.heap.size≤k)∧(∀ k,FD k→k<w'.heap.size) ∧
  match r.2.2 with
  |none=>∃ y A hs,e=.returned (.tuple #[.slice y r.2.1.length A,.nilIface])∧Jaf w' (fun k=>w.heap.size≤k∧k<w'.heap.size∧¬ FD k) y hs r.2.1∧r.2.1.length≤A
  |some x=>∃ b,e=.returned (.tuple #[.slice none 0 0,.iface 160 (.pointer (some ⟨b,0,none⟩))])∧w.heap.size≤b∧Yu w' (.iface 160 (.pointer (some ⟨b,0,none⟩))) (if x then q else wr) none (some (-1))∧¬ FD b
theorem Kku {w:World}{B:Nat}{e:TypeId}{a:Option Addr}{n c:Nat}{xs:List Value}(h:Jo w B e (.slice a n c) xs):n≤c:=by
 rcases h.2 with⟨y,h0⟩|⟨g,cap,D,y,_,_,A,_⟩
 ·cases y;exact Oa2 _
 cases y;exact A
theorem Kiu.done {E w:World}{K FD:Nat→Prop}{d:Nat}{H:DS}{a:Option Addr}{n c:Nat}{hs:List (Option Addr×Nat)}{D:List (List Nat)}(h:Kiu E K w d H (.slice a n c) hs D FD):Jaf w (fun k=>E.heap.size≤k∧k<w.heap.size∧¬ FD k) a hs D:=
 ⟨h.len,(Jji h.own).1,h.segs,fun b o y=>⟨(Je h.own ((Jji h.own).2 b o y)).1,(Je h.own ((Jji h.own).2 b o y)).2,h.apart b ((Jji h.own).2 b o y)⟩,fun i x A b o y=>⟨(h.new i x A b o y).1,(h.new i x A b o y).2.1,(h.new i x A b o y).2.2.1⟩⟩
theorem Jzf:(prog.info? 22).map (fun i=>(i.zero,i.size,i.bytes))=some (some (.slice none 0 0),1,24):=by kernel_rfl
theorem Ul {w:World}{E:Array Oper}{rest:List Oper}{o:Oper}{a:Act}{Q:Exit→Act→World→Prop}(R:o.guard=none)(s x:Operand)(t e:TypeId)(z:Value)(A:Nat)
  (U:(prog.info? e).map (fun i=>(i.zero,i.size,i.bytes))=some (some z,1,A)) (bj:z.cells.size=1) (O:A≤64) (bc:prog.underlying t=some (.slice e))
  (Z:o.op=.call {callee:=.builtin .append,args:=#[s,x],argTypes:=#[t,t]})
  (B:Nat) (sv:Value) (xs:List Value) (hs:a.eval s=sv) (ba:Jo w B e sv xs)
  (D:Addr) (c:Nat) (y:List Value) (bh:a.eval x=.slice (some D) y.length c) (bf:∀ j u,y[j]?=some u→w.cell? (D.add j)=some u) (h1:∀ u∈y,u.oneCell'=true) (X:xs.length+y.length≤1000000) (K:B≤w.heap.size)
  (h:∀ sv' w',Jo w' B e sv' (xs++y)→w.grownBy w' sv.ownBlock→(sv'.ownBlock=sv.ownBlock∨sv'.ownBlock=some w.heap.size)→wpList prog E Q rest (a.put o.dst sv') w') :
  wpList prog E Q (o::rest) a w:=by
 obtain⟨i,hi,bi,bb,M⟩:=info_parts U
 refine wpList_append_own_at w R s x t Z B e i _ 1 A bc hi bi bb M bj (by decide) sv xs.length xs hs ba D y.length c y bh (by simp) bf h1 ?_ ?_ K ?_
 ·unfold maxLen;omega
 ·have:(xs.length+y.length)*A≤1000000*64:=Ol5 X O
  omega
 intro bk w' h1 h2 _ H
 refine h bk w' ?_ h2 H
 unfold Jo
 simpa using h1
theorem Juw (y:DS)(i:Nat):(Jae y i).pages.length=y.pages.length:=by unfold Jae;split<;>simp
theorem Jrz (l:List Nat):∀ y:DS,(Jf4 y l).pages.length=y.pages.length:=by
 induction l with
 |nil=>intro y;rfl
 |cons i l A=>intro y;show (Jf4 (Jae y i) l).pages.length=_;rw[A,Juw]
theorem Jt4 (A:List (List Nat)):∀ y:DS,(Jcg y A).pages.length=y.pages.length:=by
 induction A with
 |nil=>intro y;rfl
 |cons l A D=>intro y;show (Jcg (Jf4 y l) A).pages.length=_;rw[D,Jrz]
theorem Jrh:∀ (ps:List (List UInt8))(y:DS),(Uy y ps).1.pages.length≤y.pages.length+ps.length∧(Uy y ps).2.1.length≤ps.length
 |[],y=>by simp[Uy]
 |p::ps,y=>by
  unfold Uy
  split
  ·simp
  split
  ·simp[Jvn]
  have:=Jrh ps (Zn y p)
  have h2:=Jxm y p
  simp
  omega
def Jch (y:List (List UInt8)):Nat:=(y.map fun t=>(Qu t).length).sum
theorem Ja1 (t:List UInt8)(y:List (List UInt8)):Jch (t::y)=(Qu t).length+Jch y:=by simp[Jch]
def tv (t:List UInt8):Value:=.string (Qw t)
theorem Kks (s d:Nat)(a:Option Addr)(cap:Nat)(y:List (List UInt8))(w:World)(F:Nat→Prop)(H:DS)(h:Zb w F d H)(hF:∀ k,F k→k<w.heap.size)(X:Uh w a (y.map tv))(bU:∀ b o,a=some ⟨b,o,none⟩→¬ F b)(bx:w.cell? ⟨s,0,none⟩=some (.pointer (some ⟨d,0,none⟩)))(bA:¬ F s)(q bC:Addr)
  (bb:w.cell? ⟨6,0,none⟩=some (.iface 435 (.pointer (some q)))) (bO:w.cell? ⟨7,0,none⟩=some (.iface 435 (.pointer (some bC)))) (bG:¬ F 6) (bH:¬ F 7) (ch:H.pages.length+Jch y≤800000) (cx:y.length≤100000) (bM:∀ t∈y,t.length≤1000000) :
  Calls prog 47 #[.pointer (some ⟨s,0,none⟩),.slice a y.length cap] w fun e w'=>Jxo w F d q bC (Jq H y) e w':=by
 have bQ:Hid (∀ t∈y,t.length≤1000000):=bM
 clear bM
 go_enter func47,ntmps47
 go_wp2
 go_loopw [6,13] (fun sv i wr=>∃ (k:Nat) (E:DS) (hs:List (Option Addr×Nat)) (A:List (List Nat)) (FD:Nat→Prop),k≤y.length∧i=.int .i64 k∧A.length≤k∧E.pages.length+Jch (y.drop k)≤800000∧Kiu w F wr d E sv hs A FD∧Hid ((∀ l∈A,l.length≤1000000)∧Jq H y=Kit A (Jq E (y.drop k)))) (fun _ i _=>y.length-(intOf i).toNat)
 case atStart=>exact⟨0,H,[],[],F,Ob7 _,rfl,Oa2 _,by simpa using ch,⟨h,fun k M=>.inl M,hF,Jo.nil _ _ _,rfl,fun i h l hi=>by simp at hi,fun i h hi=>by simp at hi,fun g bZ=>by simp[Value.ownBlock]at bZ,Ju.refl _ _⟩,by show _∧_;exact⟨by simp,by simp[Kit]⟩⟩
 case round=>
  rename_i sv i
  obtain⟨k,E,hs,A,FD,M,rfl,cv,bY,hL,K⟩:=hrel
  by_cases bj:k<y.length
  ·have Z:Hid (y.drop k=y[k]::y.drop (k+1)):=Oi1 bj
   rw[Z.out,Ja1]at bY
   rcases X with X|⟨b,o,rfl,cu,X⟩
   ·simp at X;subst X;simp at bj
   have cr:wr.cell? ⟨b,o+k,none⟩=some (.string (Qw y[k])):=hL.keep.cell (X k _ (by simp[bj];rfl)) (bU b o rfl)
   have c0:=hL.keep.cell bx bA
   have bu:=Kkq d y[k] wr FD E hL.disk hL.lt q bC (hL.keep.cell bb bG) (hL.keep.cell bO bH) (fun hf=>?_) (fun hf=>?_) (by omega) (bQ.out _ (Ob3 bj))
   ·obtain⟨bD,bE,bc,_⟩:=hL.own.cells
    have bf:(List.zipWith Kh8 hs A).length=A.length:=by simp[hL.len]
    rw[bf]at bc
    have bR:Hid ((List.zipWith Kh8 hs A).length=A.length):=bf
    clear bf
    subst bc
    have bI:∀ (D:Nat→Prop),(∀ k,D k→FD k∨wr.heap.size≤k)→∀ k,k<w.heap.size→D k→F k:=fun D h1 k M hf=>by
     have:=hL.keep.size
     rcases h1 k hf with h|h
     ·exact(hL.from_ k h).resolve_right (by omega)
     omega
    have bh:=bI
    replace bh:Hid (∀ (D:Nat→Prop),(∀ k,D k→FD k∨wr.heap.size≤k)→∀ k,k<w.heap.size→D k→F k):=bh
    clear bI
    have R:Hid (Kiu w F wr d E (.slice bD A.length bE) hs A FD):=hL
    have ci:=hL.keep.size
    clear hL
    rcases hr:Uy E (Qu y[k])with⟨E1,l,r⟩
    have bJ:=Jrh (Qu y[k]) E
    rw[hr]at bu bJ
    simp only at bJ
    cases r with
    |none=>
     have ba:Hid ((∀ bB∈A++[l],bB.length≤1000000)∧Jq H y=Kit (A++[l]) (Jq E1 (y.drop (k+1)))):=by
      refine⟨fun bB cb=>?_,by rw[K.out.2,Z.out,Kjf hr]⟩
      rcases Od2.1 cb with h|h
      ·exact K.out.1 bB h
      simp at h;subst h;omega
     clear K Z hr
     generalize y[k]=tk at *
     go_wp2_with (first|(go_at_call 66;refine bu.mono ?_;rintro e bi ⟨O,D,bl,U,br,cy,rfl,bL,bT⟩;obtain⟨bk,c1,bz,_⟩:=bL.cells;rw[Oa6]at bz;subst bz;have bz:=O.size)|(at_builtin;go_must (refine Ul (by rfl) _ _ 91 22 _ 24 Jzf (by rfl) (by decide) (by kernel_rfl) (by rfl) w.heap.size _ _ (by rfl) (Jo.alloc (R.out.stand O).1 _) ⟨bi.heap.size,0,none⟩ 1 [.slice bk l.length c1] (by rfl) (by exact Ua bi _ _) (by intro u bN;simp at bN;subst bN;rfl) (by rw[bR.out];simp only[List.length_cons,List.length_nil];omega) (by simp;omega) ?_);intro sv' cz h1 h2 bS;obtain⟨cl,cn,rfl,_⟩:=h1.cells))
     go_roundw
     case rel=>
      have bb:=R.out.more O bl U br bk c1 l bL bT _ h1 h2 bS
      simp only[Oa8,List.length_zipWith,List.length_cons,List.length_nil,Od0]at bb
      exact⟨k+1,E1,_,_,_,by omega,by go_num,by simp;omega,by omega,bb,ba.out⟩
     case measure=>simp[intOf];omega
    |some x=>
     have ba:Hid (Jq H y=(Jf4 E1 l,A,some x)):=by show _=_;rw[K.out.2,Z.out,Kjv hr]
     have bP:Hid (∀ l∈A,l.length≤1000000):=K.out.1
     clear K Z hr
     generalize y[k]=tk at *
     go_wp2_with (first|(go_at_call 66;refine bu.mono ?_;rintro e bi ⟨O,D,bl,U,br,b1,rfl,bV,bW,bK⟩;have cf:=R.out.done.stands O.size (fun k M ca=>O.block k ca M.2.2);have cc:=Kjd s d bD bE hs A bi D _ _ bl cf (fun k M hf=>(U k hf).elim M.2.2 (fun h=>absurd M.2.1 (by omega))) (O.cell c0 (fun hf=>(R.out.from_ s hf).elim bA (fun h=>by have:=Jm bx;simp at this;omega))) (fun hf=>bA (bh.out D U s (Jm bx) hf)) (by omega) bP.out)|(go_at_call 67;refine cc.mono ?_;rintro e cj ⟨rfl,bX,bn⟩))
     go_ret2
     rw[ba.out]
     exact⟨(R.out.stand O).2.1.trans' bn (bh.out D U),D,bX,fun k hf=>(U k hf).elim (R.out.from_ k) fun h=>.inr (by omega),fun k hf=>Oc2 (br k hf) bn.size,b1,rfl,Ob2 ci bV,Ki6 bW bn bK,bK⟩
   ·exact(hL.from_ _ hf).elim bG fun h=>by have:=Jm bb;simp at this;omega
   exact(hL.from_ _ hf).elim bH fun h=>by have:=Jm bO;simp at this;omega
  obtain rfl:k=y.length:=by omega
  obtain⟨bk,c1,bc,_⟩:=hL.own.cells
  have bf:(List.zipWith Kh8 hs A).length=A.length:=by simp[hL.len]
  rw[bf]at bc
  subst bc
  have ba:Hid (Jq H y=(E,A,none)):=by show _=_;rw[K.out.2,List.drop_length];simp[Kit,Jq]
  clear K
  go_wp2
  go_ret2
  rw[ba.out]
  exact⟨hL.keep,FD,hL.disk,hL.from_,hL.lt,_,_,hs,rfl,hL.done,Kku hL.own⟩
end Go.Proofs.YtdlgbphkaicfaaaGreatDoor
namespace Go.Proofs.YtdlgbphkaicfaaaGreatDoor
open Go.RowKit
theorem Jyf : (Tryz.prog.fieldsOf 42).toList.map (fun f => (f.name, f.type, f.offset)) = [("Code", 40, 0), ("Node", 3, 1), ("Row", 3, 2), ("Column", 3, 3), ("Page", 3, 4)] := by kernel_rfl
theorem Kef:Tryz.prog.underlying 42=some (.struct (Tryz.prog.fieldsOf 42)):=by kernel_rfl
theorem Kh3:Tryz.prog.stoodInHeld 42=false:=by kernel_rfl
theorem Js7 (w:World)(c:Int):(Op.equal 42 (Jb6 c) (Jb6 c)).run Tryz.prog w=.ok true w:=by
 rw[Op.equal,Op.maxDepth,run_equalIn_struct w 9999 42 _ _ Kef Kh3]
 have h:=Jyf
 generalize (Tryz.prog.fieldsOf 42).toList=y at h
 rcases y with _|⟨bc,_|⟨bf,_|⟨bh,_|⟨bi,_|⟨bj,_|⟨bk,y⟩⟩⟩⟩⟩⟩
 ·simp at h
 ·simp at h
 ·simp at h
 ·simp at h
 ·simp at h
 ·simp at h
  obtain⟨⟨h1,h2,A⟩,⟨D,E,H⟩,⟨K,M,O⟩,⟨R,U,X⟩,Z,ba,bb⟩:=h
  simp[Op.eqFields,h1,h2,A,D,E,H,K,M,O,R,U,X,Z,ba,bb,part,sizeOf,go_sem]
 simp at h
theorem Jjl (c:Int)(w:World):(binOp .eql 42 (Jb6 c) (Jb6 c)).run Tryz.prog w=.ok (.bool true) w:=by
 simp[binOp,Js7]
end Go.Proofs.YtdlgbphkaicfaaaGreatDoor
