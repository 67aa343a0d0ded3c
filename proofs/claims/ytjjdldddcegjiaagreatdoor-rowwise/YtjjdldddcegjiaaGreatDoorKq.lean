/- The disk in memory: its fields, its list of pages, the pages themselves; what stands when something else turns. -/
import Derived.Test.YtjjdldddcegjiaaGreatDoorIv
import Derived.Test.YtjjdldddcegjiaaGreatDoorEw
set_option maxHeartbeats 2000000
set_option maxRecDepth 100000
namespace Go.Proofs.YtjjdldddcegjiaaGreatDoor
open Go.RowKit Tryz
structure Ju (F:Nat→Prop) (w w':World):Prop where
 os:w'.os=w.os
 tape:w'.tape=w.tape
 output:w'.output=w.output
 size:w.heap.size≤w'.heap.size
 block:∀ k,k<w.heap.size→¬ F k→w'.heap[k]?=w.heap[k]?
theorem Ju.refl (F:Nat→Prop)(w:World):Ju F w w:=⟨rfl,rfl,rfl,Oa2 _,fun _ _ _=>rfl⟩
theorem Ju.trans {F:Nat→Prop}{a b c:World}(h:Ju F a b)(k:Ju F b c):Ju F a c:=
 ⟨k.os.trans h.os,k.tape.trans h.tape,k.output.trans h.output,Ob2 h.size k.size,fun i hi hn=>(k.block i (Oc2 hi h.size) hn).trans (h.block i hi hn)⟩
theorem Ju.trans' {F G:Nat→Prop}{a b c:World}(h:Ju F a b)(k:Ju G b c)(y:∀ i,i<a.heap.size→G i→F i):Ju F a c:=
 ⟨k.os.trans h.os,k.tape.trans h.tape,k.output.trans h.output,Ob2 h.size k.size,fun i hi hn=>(k.block i (Oc2 hi h.size) (fun z=>hn (y i hi z))).trans (h.block i hi hn)⟩
theorem Ju.mono {F G:Nat→Prop}{w w':World}(h:Ju F w w')(z:∀ k,k<w.heap.size→F k→G k):Ju G w w':=
 ⟨h.os,h.tape,h.output,h.size,fun k y hn=>h.block k y (fun hf=>hn (z k y hf))⟩
theorem Ju.of_below {F:Nat→Prop}{w w':World}(h:Below w.heap.size w w'):Ju F w w':=⟨h.os,h.tape,h.output,h.size,fun k y _=>h.block k y⟩
theorem Ju.alloc {F:Nat→Prop}{w w':World}(h:Ju F w w')(o:Obj):Ju F w (w'.alloc o):=h.trans (.of_below ((Oa5 _ _).alloc (Oa2 _) _))
theorem Ju.set {F:Nat→Prop}{w w':World}(h:Ju F w w'){b:Nat}(y:F b)(i:Nat)(v:Value):Ju F w (w'.setCell ⟨b,i,none⟩ v):=
 h.trans ⟨rfl,rfl,rfl,by simp[World.setCell],fun k _ hn=>Oa4 _ _ _ _ (fun e=>hn (by rw[e];exact y))⟩
theorem Ju.below {F:Nat→Prop}{w w':World}(h:Ju F w w'){B:Nat}(hF:∀ k,k<B→¬ F k)(z:B≤w.heap.size):Below B w w':=⟨h.os,h.tape,h.output,h.size,fun k y=>h.block k (by omega) (hF k y)⟩
theorem Ju.cell {F:Nat→Prop}{w w':World}(h:Ju F w w'){b o:Nat}{v:Value}(y:w.cell? ⟨b,o,none⟩=some v)(hn:¬ F b):w'.cell? ⟨b,o,none⟩=some v:=by
 rw[Oc3 (w:=w) (h.block b (Jm y) hn)];exact y
theorem Ju.drewN {F:Nat→Prop}{w w':World}(h:Ju F w w')(n:Nat):Ju F w (w'.drewN n):=⟨h.os,h.tape,h.output,h.size,h.block⟩
def up (F:Nat→Prop)(w:World):Nat→Prop:=fun k=>F k∨w.heap.size≤k
theorem Ju.down {F:Nat→Prop}{w w':World}(h:Ju (up F w) w w'):Ju F w w':=h.mono fun k y z=>z.elim id (fun h=>absurd y (by omega))
structure DS where
 quota:Int
 fail:Int
 writes:Int
 lowest:Nat
 pages:List (Option (List UInt8))
def Js (l:List (Option (List UInt8))):Nat:=l.countP Option.isSome
theorem Kad (l:List (Option (List UInt8))):Js l≤l.length:=List.countP_le_length
def Kew:Option Nat→Value
 |none=>.pointer none
 |some b=>.pointer (some ⟨b,0,none⟩)
structure Jf1 (w:World) (F:Nat→Prop) (d:Nat) (D:DS) (sv:Value) (ps:List (Option Nat)):Prop where
 cells:w.heap[d]?=some (.cells #[.int .i64 D.quota,.int .i64 D.fail,.int .i64 D.writes,.int .i64 ((Js D.pages:Nat):Int),.int .i64 ((D.lowest:Nat):Int),sv] 120 (0,0))
 own:Jo w 0 255 sv (ps.map Kew)
 ownF:∀ g,sv.ownBlock=some g→F g∧g≠d
 dF:F d
 len:ps.length=D.pages.length
 page:∀ (i b:Nat),ps[i]?=some (some b)→F b∧b≠d∧sv.ownBlock≠some b∧∃ p,D.pages[i]?=some (some p)∧Jdp w b p
 vacant:∀ i:Nat,ps[i]?=some Option.none→D.pages[i]?=some Option.none
 inj:∀ (i j b:Nat),ps[i]?=some (some b)→ps[j]?=some (some b)→i=j
 low:D.lowest≤D.pages.length
 full:∀ i:Nat,i<D.lowest→∃ p,D.pages[i]?=some (some p)
 small:D.pages.length≤900000
def Zb (w:World)(F:Nat→Prop)(d:Nat)(y:DS):Prop:=∃ sv ps,Jf1 w F d y sv ps
theorem Qk {w:World}{B:Nat}{e:TypeId}{sv:Value}{xs:List Value}{g:Nat}(h:Jo w B e sv xs)(y:sv.ownBlock=some g):g<w.heap.size:=by
 rcases h.2 with⟨z,_⟩|⟨D,cap,C,z,_,A,_⟩
 ·subst z;simp[Value.ownBlock]at y
 subst z
 simp[Value.ownBlock]at y
 subst y
 exact Jd A
theorem Yd {w w':World}{B:Nat}{e:TypeId}{sv:Value}{xs:List Value}(h:Jo w B e sv xs)(E:∀ g,sv.ownBlock=some g→w'.heap[g]?=w.heap[g]?):Jo w' B e sv xs:=by
 refine⟨h.1,?_⟩
 rcases h.2 with h|⟨y,cap,A,z,C,D,H⟩
 ·exact .inl h
 refine .inr ⟨y,cap,A,z,C,?_,H⟩
 rw[E y (by subst z;simp[Value.ownBlock])]
 exact D
theorem Jf1.stands {w w':World}{F:Nat→Prop}{d:Nat}{z:DS}{sv:Value}{ps:List (Option Nat)}(h:Jf1 w F d z sv ps)(y:∀ k,F k→k<w.heap.size→w'.heap[k]?=w.heap[k]?):Jf1 w' F d z sv ps:=
 ⟨by rw[y d h.dF (Jd h.cells)];exact h.cells,Yd h.own fun g A=>y g (h.ownF g A).1 (Qk h.own A),h.ownF,h.dF,h.len,
  fun i b hi=>by obtain⟨f,E,H,p,D,C⟩:=h.page i b hi;exact⟨f,E,H,p,D,C.of_block (y b f C.2.lt)⟩,h.vacant,h.inj,h.low,h.full,h.small⟩
theorem Zb.stands {w w':World}{F:Nat→Prop}{d:Nat}{y:DS}(h:Zb w F d y)(z:∀ k,F k→k<w.heap.size→w'.heap[k]?=w.heap[k]?):Zb w' F d y:=by
 obtain⟨sv,ps,h⟩:=h
 exact⟨sv,ps,h.stands z⟩
theorem Jf1.below {w w':World}{F:Nat→Prop}{d:Nat}{y:DS}{sv:Value}{ps:List (Option Nat)}(h:Jf1 w F d y sv ps)(z:Below w.heap.size w w'):Jf1 w' F d y sv ps:=h.stands fun k _ A=>z.block k A
theorem Zb.below {w w':World}{F:Nat→Prop}{d:Nat}{y:DS}(h:Zb w F d y)(z:Below w.heap.size w w'):Zb w' F d y:=h.stands fun k _ A=>z.block k A
theorem Jf1.mono {w:World}{F G:Nat→Prop}{d:Nat}{A:DS}{sv:Value}{ps:List (Option Nat)}(h:Jf1 w F d A sv ps)(y:∀ k,k<w.heap.size→F k→G k):Jf1 w G d A sv ps:=
 ⟨h.cells,h.own,fun g z=>⟨y g (Qk h.own z) (h.ownF g z).1,(h.ownF g z).2⟩,y d (Jd h.cells) h.dF,h.len,
  fun i b hi=>by obtain⟨f,E,H,p,D,C⟩:=h.page i b hi;exact⟨y b C.2.lt f,E,H,p,D,C⟩,h.vacant,h.inj,h.low,h.full,h.small⟩
theorem Zb.mono {w:World}{F G:Nat→Prop}{d:Nat}{y:DS}(h:Zb w F d y)(z:∀ k,k<w.heap.size→F k→G k):Zb w G d y:=by
 obtain⟨sv,ps,h⟩:=h
 exact⟨sv,ps,h.mono z⟩
theorem Jf1.field {w:World}{F:Nat→Prop}{d:Nat}{y:DS}{sv:Value}{ps:List (Option Nat)}(h:Jf1 w F d y sv ps) :
  w.cell? ⟨d,0,.none⟩=some (.int .i64 y.quota)∧w.cell? ⟨d,1,.none⟩=some (.int .i64 y.fail)∧w.cell? ⟨d,2,.none⟩=some (.int .i64 y.writes)∧w.cell? ⟨d,3,.none⟩=some (.int .i64 ((Js y.pages:Nat):Int)) ∧
   w.cell? ⟨d,4,.none⟩=some (.int .i64 ((y.lowest:Nat):Int))∧w.cell? ⟨d,5,.none⟩=some sv:=by
 simp[World.cell?,h.cells]
theorem Jf1.thaw {w:World}{F:Nat→Prop}{d:Nat}{y:DS}{sv:Value}{ps:List (Option Nat)}(h:Jf1 w F d y sv ps)(i:Nat):w.frozen? ⟨d,i,.none⟩=false:=by simp[World.frozen?,h.cells]
theorem Ji8 {w:World}{B:Nat}{e:TypeId}{sv:Value}{xs:List Value}(h:Jo w B e sv xs):∃ a cap,sv=.slice a xs.length cap∧∀ i x,xs[i]?=some x→∃ g,a=some ⟨g,0,none⟩∧sv.ownBlock=some g∧w.cell? ⟨g,i,none⟩=some x∧w.frozen? ⟨g,i,none⟩=false:=by
 rcases h.2 with⟨z,h0⟩|⟨g,cap,E,z,_,C,H,_,K,D⟩
 ·refine⟨none,0,by rw[z,h0],fun i x y=>?_⟩
  rw[Od3.1 h0]at y
  simp at y
 refine⟨some ⟨g,0,none⟩,cap,z,fun i x y=>⟨g,rfl,by subst z;simp[Value.ownBlock],?_,by simp[World.frozen?,C]⟩⟩
 have hi:i<xs.length:=by
  rcases Oc1 i xs.length with A|A
  ·exact A
  rw[Ob4 A]at y;simp at y
 rw[←D]at y
 rw[Nat.mul_one,Oh3 hi,Oe6]at y
 simp[World.cell?,C,y]
def Jai (l:List (Option (List UInt8)))(page:Int):Bool:=decide (0≤page∧page<l.length)&&(l.getD page.toNat .none).isSome
theorem Jf1.list {w:World}{F:Nat→Prop}{d:Nat}{A:DS}{sv:Value}{ps:List (Option Nat)}(h:Jf1 w F d A sv ps) :
  ∃ a cap,sv=.slice a ps.length cap∧∀ (i:Nat) (hi:i<ps.length),∃ g,a=some ⟨g,0,none⟩∧F g∧g≠d∧w.cell? ⟨g,i,none⟩=some (Kew ps[i])∧w.frozen? ⟨g,i,none⟩=false:=by
 obtain⟨a,cap,z,H⟩:=Ji8 h.own
 rw[Oa6]at z
 refine⟨a,cap,z,fun i hi=>?_⟩
 obtain⟨g,C,y,D,E⟩:=H i (Kew ps[i]) (by simp[hi])
 exact⟨g,C,(h.ownF g y).1,(h.ownF g y).2,D,E⟩
theorem Jf1.which {w:World}{F:Nat→Prop}{d:Nat}{y:DS}{sv:Value}{ps:List (Option Nat)}(h:Jf1 w F d y sv ps)(i:Nat)(hi:i<ps.length):(y.pages.getD i none).isSome=ps[i].isSome:=by
 cases hq:ps[i]with
 |none=>rw[Oa0,h.vacant i (by rw[←hq];simp[hi])];rfl
 |some b=>obtain⟨_,_,_,p,z,_⟩:=h.page i b (by rw[←hq];simp[hi]);rw[Oa0,z];rfl
theorem Jwv (d:Nat)(page:Int)(w:World)(F:Nat→Prop)(A:DS)(h:Zb w F d A) :
  Calls prog 139 #[.pointer (some ⟨d,0,none⟩),.int .i64 page] w fun e w'=>e=.returned (.bool (Jai A.pages page))∧w'=w:=by
 obtain⟨sv,ps,h⟩:=h
 obtain⟨_,_,_,_,_,c5⟩:=h.field
 obtain⟨a,cap,rfl,y⟩:=h.list
 have z:=h.len
 unfold Jai
 rw[←z]
 by_cases h0:0≤page
 ·obtain⟨i,rfl⟩:=Int.eq_ofNat_of_zero_le h0
  by_cases hi:i<ps.length
  ·obtain⟨g,rfl,_,_,c,f⟩:=y i hi
   have C:=h.which i hi
   have D:(i:Int)<(ps.length:Int):=by omega
   rw[show (Int.toNat (i:Int))=i from rfl,C]
   clear C y h z
   cases hq:ps[i]with
   |none=>
    rw[hq]at c
    simp only[Kew]at c
    go_enter func139,ntmps139
    go_wp2
    go_ret
    exact⟨Qr (by simp),rfl⟩
   |some b=>
    rw[hq]at c
    simp only[Kew]at c
    go_enter func139,ntmps139
    go_wp2
    go_ret
    exact⟨Qr (by simp[hi]),rfl⟩
  have D:¬ (i:Int)<(ps.length:Int):=by omega
  clear y h z
  go_enter func139,ntmps139
  go_wp2
  go_ret
  exact⟨Qr (by first|(simp;done)|(simp;omega)),rfl⟩
 clear y h z
 go_enter func139,ntmps139
 go_wp2
 go_ret
 exact⟨Qr (by first|(simp;done)|(simp;omega)),rfl⟩
def Ku (q f:Int):DS:=⟨q,f,0,0,[]⟩
theorem Kcn (q f:Int)(w:World) :
  Calls prog 36 #[.agg #[.int .i64 q,.int .i64 f]] w fun e w'=>∃ b,e=.returned (.pointer (some ⟨b,0,none⟩))∧w.heap.size≤b∧Zb w' (fun k=>k=b) b (Ku q f)∧Below w.heap.size w w':=by
 go_enter func36,ntmps36
 go_wp2
 go_ret
 refine⟨_,rfl,?_,⟨.slice none 0 0,[],?_,Jo.nil _ _ _,?_,rfl,rfl,?_,?_,?_,?_,?_,?_⟩,?_⟩
 ·simp
 ·have:=heap_alloc_new (w.alloc (.cells #[.int .i64 q,.int .i64 f] 34)) (.cells #[.int .i64 q,.int .i64 f,.int .i64 0,.int .i64 0,.int .i64 0,.slice none 0 0] 120)
  rw[Oa7]at this
  exact this
 ·intro g y;simp[Value.ownBlock]at y
 ·intro i b hi;simp at hi
 ·intro i hi;simp at hi
 ·intro i j b hi;simp at hi
 ·simp[Ku]
 ·intro i hi;simp[Ku]at hi
 ·simp[Ku]
 exact((Oa5 _ _).alloc (Oa2 _) _).alloc (by simp) _
end Go.Proofs.YtjjdldddcegjiaaGreatDoor
namespace Go.Proofs.YtjjdldddcegjiaaGreatDoor
open Go.RowKit Tryz
theorem Kji:(prog.info? 255).map (fun i=>(i.zero,i.size,i.bytes))=some (some (.pointer none),1,8):=by kernel_rfl
theorem Jf1.turn {w w':World}{F:Nat→Prop}{d:Nat}{y:DS}{sv:Value}{ps:List (Option Nat)}(h:Jf1 w F d y sv ps)(wr:Int)(lo:Nat)
  (E:w'.heap[d]?=some (.cells #[.int .i64 y.quota,.int .i64 y.fail,.int .i64 wr,.int .i64 ((Js y.pages:Nat):Int),.int .i64 ((lo:Nat):Int),sv] 120 (0,0)))
  (A:∀ k,k≠d→k<w.heap.size→w'.heap[k]?=w.heap[k]?) (K:lo≤y.pages.length) (H:∀ i,i<lo→∃ p,y.pages[i]?=some (some p)):Jf1 w' F d ⟨y.quota,y.fail,wr,lo,y.pages⟩ sv ps:=
 ⟨E,Yd h.own fun g z=>A g (h.ownF g z).2 (Qk h.own z),h.ownF,h.dF,h.len,
  fun i b hi=>by obtain⟨f,D,O,p,M,C⟩:=h.page i b hi;exact⟨f,D,O,p,M,C.of_block (A b D C.2.lt)⟩,h.vacant,h.inj,K,H,h.small⟩
theorem Jf1.setLow {w:World}{F:Nat→Prop}{d:Nat}{y:DS}{sv:Value}{ps:List (Option Nat)}(h:Jf1 w F d y sv ps)(lo:Nat)(C:lo≤y.pages.length)(z:∀ i,i<lo→∃ p,y.pages[i]?=some (some p)) :
  Jf1 (w.setCell ⟨d,4,none⟩ (.int .i64 ((lo:Nat):Int))) F d ⟨y.quota,y.fail,y.writes,lo,y.pages⟩ sv ps:=
 h.turn y.writes lo (by have:=Jk h.cells 4 (.int .i64 ((lo:Nat):Int));simpa using this) (fun k A _=>Oa4 _ _ _ _ A) C z
theorem Jf1.setWrites {w:World}{F:Nat→Prop}{d:Nat}{y:DS}{sv:Value}{ps:List (Option Nat)}(h:Jf1 w F d y sv ps)(wr:Int) :
  Jf1 (w.setCell ⟨d,2,none⟩ (.int .i64 wr)) F d ⟨y.quota,y.fail,wr,y.lowest,y.pages⟩ sv ps:=
 h.turn wr y.lowest (by have:=Jk h.cells 2 (.int .i64 wr);simpa using this) (fun k z _=>Oa4 _ _ _ _ z) h.low h.full
theorem Jf1.longer {w w1:World}{F:Nat→Prop}{d:Nat}{z:DS}{sv sv':Value}{ps:List (Option Nat)}(h:Jf1 w F d z sv ps)(bi:∀ k,w.heap.size≤k→F k)(bf:Jo w1 0 255 sv' (ps.map Kew++[.pointer none]))
  (H:∀ k,k<w.heap.size→sv.ownBlock≠some k→w1.heap[k]?=w.heap[k]?) (y:sv'.ownBlock=sv.ownBlock∨∃ n,sv'.ownBlock=some n∧w.heap.size≤n) (bl:z.pages.length<900000) :
  Jf1 (w1.setCell ⟨d,5,none⟩ sv') F d ⟨z.quota,z.fail,z.writes,z.lowest,z.pages++[none]⟩ sv' (ps++[none]):=by
 have X:=Jd h.cells
 have K:∀ g,sv'.ownBlock=some g→g≠d:=by
  intro g C Z
  rcases y with y|⟨n,y,hn⟩
  ·rw[y]at C;exact(h.ownF g C).2 Z
  rw[y]at C;cases C;omega
 have U:w1.heap[d]?=some (.cells #[.int .i64 z.quota,.int .i64 z.fail,.int .i64 z.writes,.int .i64 ((Js z.pages:Nat):Int),.int .i64 ((z.lowest:Nat):Int),sv] 120 (0,0)):=by
  rw[H d X (fun e=>(h.ownF d e).2 rfl)];exact h.cells
 have bh:Js (z.pages++[none])=Js z.pages:=by simp[Js,List.countP_append]
 refine⟨?_,?_,?_,h.dF,by simp[h.len],?_,?_,?_,?_,?_,by simp;omega⟩
 ·have:=Jk U 5 sv'
  rw[bh]
  simpa using this
 ·have:(ps++[none]).map Kew=ps.map Kew++[.pointer none]:=by simp[Kew]
  rw[this]
  exact Yd bf fun g C=>Oa4 _ _ _ _ (K g C)
 ·intro g C
  refine⟨?_,K g C⟩
  rcases y with y|⟨n,y,hn⟩
  ·rw[y]at C;exact(h.ownF g C).1
  rw[y]at C;cases C;exact bi _ hn
 ·intro i b hi
  rcases Oc1 i ps.length with A|A
  ·rw[Ob0 A]at hi
   obtain⟨f,O,R,p,D,E⟩:=h.page i b hi
   refine⟨f,O,?_,p,?_,?_⟩
   ·rcases y with y|⟨n,y,hn⟩
    ·rw[y];exact R
    rw[y]
    intro e
    have:=E.2.lt
    cases e
    omega
   ·rw[Ob0 (by rw[←h.len];exact A)];exact D
   refine E.of_block ?_
   rw[Oa4 _ _ _ _ O]
   exact H b E.2.lt R
  rw[Ob6 A]at hi
  rcases hz:i-ps.length with _|bj
  ·rw[hz]at hi;simp at hi
  rw[hz]at hi;simp at hi
 ·intro i hi
  rcases Oc1 i ps.length with A|A
  ·rw[Ob0 A]at hi
   rw[Ob0 (by rw[←h.len];exact A)]
   exact h.vacant i hi
  have:i=ps.length:=by
   rcases Oc1 i (ps.length+1)with h2|h2
   ·omega
   ·rw[Ob4 (by simp;omega)]at hi;simp at hi
  subst this
  rw[h.len]
  simp
 ·intro i j b hi bc
  have M:∀ i:Nat,(ps++[none])[i]?=some (some b)→ps[i]?=some (some b):=by
   intro i hi
   rcases Oc1 i ps.length with A|A
   ·rwa [Ob0 A]at hi
   rw[Ob6 A]at hi
   rcases hz:i-ps.length with _|bj
   ·rw[hz]at hi;simp at hi
   rw[hz]at hi;simp at hi
  exact h.inj i j b (M i hi) (M j bc)
 ·simp;have:=h.low;omega
 intro i hi
 obtain⟨p,D⟩:=h.full i hi
 refine⟨p,?_⟩
 rw[Ob0]
 ·exact D
 have:=h.low;simp at hi ⊢;omega
def Kb:List (Option (List UInt8))→Nat
 |[]=>0
 |none::_=>0
 |some _::l=>Kb l+1
theorem Jeu:∀ l,Kb l≤l.length
 |[]=>Oa2 _
 |none::_=>by simp[Kb]
 |some _::l=>by simp[Kb];exact Jeu l
theorem Kiv:∀ (l:List (Option (List UInt8)))(i:Nat),i<Kb l→∃ p,l[i]?=some (some p)
 |[],i,h=>by simp[Kb]at h
 |none::_,i,h=>by simp[Kb]at h
 |some x::l,0,_=>⟨x,rfl⟩
 |some x::l,i+1,h=>by
  obtain⟨p,y⟩:=Kiv l i (by simp[Kb]at h;omega)
  exact⟨p,by simpa using y⟩
theorem Jc3:∀ (l:List (Option (List UInt8))),Kb l<l.length→l[Kb l]?=some none
 |[],h=>by simp at h
 |none::_,_=>rfl
 |some x::l,h=>by simpa [Kb] using Jc3 l (by simp[Kb]at h;omega)
theorem Kjh (l:List (Option (List UInt8)))(k:Nat)(h:∀ i,i<k→∃ p,l[i]?=some (some p))(A:k≤l.length):k≤Kb l:=by
 rcases Oc1 (Kb l) k with y|y
 ·obtain⟨p,z⟩:=h _ y
  rw[Jc3 l (by omega)]at z
  simp at z
 exact y
def Ki1 (y:DS):DS:=⟨y.quota,y.fail,y.writes,Kb y.pages,if Kb y.pages<y.pages.length then y.pages else y.pages++[none]⟩
theorem Jtc {l:List (Option (List UInt8))}{i:Nat}{p:List UInt8}(h:l[i]?=some (some p)):Jai l (i:Int)=true:=by
 have hi:i<l.length:=by
  rcases Oc1 i l.length with y|y
  ·exact y
  rw[Ob4 y]at h;simp at h
 unfold Jai
 rw[Og5,decide_eq_true_eq,Oa0,show (Int.toNat (i:Int))=i from rfl,h]
 exact⟨by omega,rfl⟩
theorem Jsj (l:List (Option (List UInt8))):Jai l ((Kb l:Nat):Int)=false:=by
 unfold Jai
 rw[Bool.and_eq_false_iff]
 rcases Oc1 (Kb l) l.length with y|y
 ·right
  rw[Oa0,show (Int.toNat ((Kb l:Nat):Int))=Kb l from rfl,Jc3 l y]
  rfl
 left
 simp
 omega
theorem Kkj (d:Nat)(w:World)(F:Nat→Prop)(y:DS)(h:Zb w F d y)(bG:∀ k,w.heap.size≤k→F k)(bn:y.pages.length<900000) :
  Calls prog 137 #[.pointer (some ⟨d,0,none⟩)] w fun e w'=>e=.returned (.int .i64 ((Kb y.pages:Nat):Int)) ∧
   Zb w' F d (Ki1 y)∧Ju F w w':=by
 obtain⟨sv,ps,h⟩:=h
 go_enter func137,ntmps137
 go_wp2
 go_loopw [8] (fun _ wr=>∃ k:Nat,k≤Kb y.pages∧Jf1 wr F d ⟨y.quota,y.fail,y.writes,k,y.pages⟩ sv ps∧Ju F w wr) (fun _ wr=>y.pages.length+1-(intOf ((wr.cell? ⟨d,4,none⟩).getD undef)).toNat)
 case atStart=>exact⟨y.lowest,Kjh _ _ h.full h.low,h,Ju.refl _ _⟩
 case round=>
  obtain⟨k,D,z,O⟩:=hrel
  have bi:=Jeu y.pages
  obtain⟨_,_,_,_,c4,c5⟩:=z.field
  have bz:=z.thaw 4
  have bA:=z.thaw 5
  have C:=Jwv d (k:Int) wr F _ ⟨sv,ps,z⟩
  by_cases bj:k<Kb y.pages
  ·obtain⟨p,bl⟩:=Kiv _ _ bj
   rw[Jtc bl]at C
   have bH:=z.setLow (k+1) (by show k+1≤y.pages.length;omega) (fun i hi=>Kiv y.pages i (by omega))
   have bE:=O.set z.dF 4 (.int .i64 ((k+1:Nat):Int))
   clear bl
   go_wp2_with (go_at_call 139;refine C.mono ?_;rintro e w' ⟨rfl,bu⟩;subst w')
   go_roundw
   case rel=>exact⟨k+1,by omega,by simpa using bH,by simpa using bE⟩
   case measure=>
    simp only[World.cell?_setCell_same _ _ _ c4,c4,Option.getD_some,intOf]
    omega
  obtain rfl:k=Kb y.pages:=by omega
  rw[Jsj]at C
  obtain⟨a,cap,rfl,bD⟩:=z.list
  have U:Hid (ps.length=y.pages.length):=z.len
  have bx:Hid (Jo wr 0 255 (.slice a ps.length cap) (ps.map Kew)):=z.own
  obtain⟨K,E⟩:∃ K,Hid (Kb y.pages=K):=⟨_,rfl⟩
  rw[E.out]at C c4
  clear bD bz D bj
  by_cases M:Kb y.pages<y.pages.length
  ·have R:Hid (Ki1 y=⟨y.quota,y.fail,y.writes,Kb y.pages,y.pages⟩):=by show Ki1 y=_;rw[Ki1,if_pos M]
   have bC:(((K:Nat):Int)==((ps.length:Nat):Int))=false:=by have:=U.out;have:=E.out;rw[beq_eq_false_iff_ne];omega
   have H:Hid (Jf1 wr F d ⟨y.quota,y.fail,y.writes,Kb y.pages,y.pages⟩ (.slice a ps.length cap) ps):=z
   clear M bi bn z
   go_wp2_with (go_at_call 139;refine C.mono ?_;rintro e w' ⟨rfl,bu⟩;subst w')
   go_quiet (fail)
   go_wp2
   go_ret
   refine⟨Yp (by rw[E.out]),?_,O.drewN _⟩
   rw[R.out]
   exact⟨_,ps,H.out.below (Jp (Oa5 _ _) _)⟩
  have R:Hid (Ki1 y=⟨y.quota,y.fail,y.writes,Kb y.pages,y.pages++[none]⟩):=by show Ki1 y=_;rw[Ki1,if_neg M]
  have bC:(((K:Nat):Int)==((ps.length:Nat):Int))=true:=by have:=U.out;have:=E.out;rw[beq_iff_eq];omega
  have bK:ps.length+1≤1000000:=by have:=U.out;omega
  have H:Hid (Jf1 wr F d ⟨y.quota,y.fail,y.writes,Kb y.pages,y.pages⟩ (.slice a ps.length cap) ps):=z
  have hn:(Value.slice a ps.length cap).ownBlock≠some d:=fun e=>(z.ownF d e).2 rfl
  have X:=Jd z.cells
  have bL:=O.size
  clear M bi z
  go_wp2_with (go_at_call 139;refine C.mono ?_;rintro e w' ⟨rfl,bu⟩;subst w')
  go_quiet (fail)
  go_wp2_with (at_builtin;go_must (refine Ks (by rfl) _ _ 118 255 _ 8 Kji (by rfl) (by decide) (by kernel_rfl) (by rfl) 0 _ _ (by rfl) (Jo.alloc (w:=wr.drewN nq) bx.out _) ⟨wr.heap.size,0,none⟩ 1 [.pointer none] (by rfl) (by exact Ua (wr.drewN nq) _ _) (by intro u br;simp at br;subst br;rfl) (by simp only[List.length_cons,List.length_nil,Oa6];omega) (by simp) ?_);intro sv' w1 bc A bB;obtain⟨bI,bJ,rfl,_⟩:=bc.cells;have bN:w1.cell? ⟨d,5,none⟩=some (.slice a ps.length cap):=(by rw[A.cell_far _ (by simp;omega) (Oc5 hn)];exact(Jnf (wr.drewN nq) _ d 5 X).trans c5);have bO:w1.frozen? ⟨d,5,none⟩=false:=(by rw[A.frozen_far _ (by simp;omega) (Oc5 hn)];exact(Jh9 (wr.drewN nq) _ d 5 X).trans bA);have bM:w1.cell? ⟨d,4,none⟩=some (.int .i64 ((K:Nat):Int)):=(by rw[A.cell_far _ (by simp;omega) (Oc5 hn)];exact(Jnf (wr.drewN nq) _ d 4 X).trans c4))
  go_ret
  have bf:∀ k,k<wr.heap.size→(Value.slice a ps.length cap).ownBlock≠some k→w1.heap[k]?=wr.heap[k]?:=fun k D Z=>(A.block k (by simp;omega) (Oc5 Z)).trans (Oa9 (wr.drewN nq) _ k D)
  have bh:=H.out.longer (fun k D=>bG k (by omega)) bc bf (bB.imp id fun e=>⟨_,e,by simp⟩) bn
  simp only[Oa8,Oa6,List.length_cons,List.length_nil]at bh
  refine⟨Yp (by rw[E.out]),?_,?_⟩
  ·rw[R.out]
   exact⟨_,_,bh⟩
  refine Ju.set ?_ H.out.dF 5 _
  refine O.trans ⟨A.os,A.tape,A.output,Ob2 (by simp) A.size,fun k D Z=>bf k D fun e=>Z (H.out.ownF k e).1⟩
end Go.Proofs.YtjjdldddcegjiaaGreatDoor
namespace Go.Proofs.YtjjdldddcegjiaaGreatDoor
open Go.RowKit Tryz
theorem Jf1.drewN {w:World}{F:Nat→Prop}{d:Nat}{y:DS}{sv:Value}{ps:List (Option Nat)}(h:Jf1 w F d y sv ps)(n:Nat):Jf1 (w.drewN n) F d y sv ps:=h.below (Jp (Oa5 _ _) _)
theorem Jwl (w:World)(q:Addr)(p:Int):Yu (w.alloc (.cells #[.iface 443 (.pointer (some q)),.int .i64 p] 171)) (.iface 168 (.pointer (some ⟨w.heap.size,0,none⟩))) q none (some p):=
 .disk _ _ _ (by simp) (by simp)
theorem Kjc (d:Nat)(s:ByteArray)(w:World)(F:Nat→Prop)(y:DS)(h:Zb w F d y)(q:Addr)(C:w.cell? ⟨6,0,none⟩=some (.iface 443 (.pointer (some q))))(A:y.quota≤((Js y.pages:Nat):Int)) :
  Calls prog 105 #[.pointer (some ⟨d,0,none⟩),.string s] w fun e w'=>Below w.heap.size w w'∧∃ b,e=.returned (.tuple #[.int .i64 0,.iface 168 (.pointer (some ⟨b,0,none⟩))])∧w.heap.size≤b∧Yu w' (.iface 168 (.pointer (some ⟨b,0,none⟩))) q none (some (-1)):=by
 obtain⟨sv,ps,h⟩:=h
 obtain⟨c0,_,_,c3,_,_⟩:=h.field
 clear h
 go_enter func105,ntmps105
 go_wp2_with fail
 go_quiet (fail)
 go_wp2_with fail
 go_region
 go_wp2
 go_ret2
 have z:Below w.heap.size w ((w.drewN (nq+1)).alloc (.cells #[.iface 443 (.pointer (some q)),.int .i64 (-1)] 171)):=(Jp (Oa5 _ w) _).alloc (Oa2 _) _
 exact⟨z,_,rfl,Oa2 _,Jwl (w.drewN (nq+1)) q (-1)⟩
def Jvn (y:DS):DS:=⟨y.quota,y.fail,wrap64 (y.writes+1),y.lowest,y.pages⟩
theorem Kj0 (d:Nat)(s:ByteArray)(w:World)(F:Nat→Prop)(y:DS)(h:Zb w F d y)(q:Addr)(H:w.cell? ⟨7,0,none⟩=some (.iface 443 (.pointer (some q))))(X:¬ y.quota≤((Js y.pages:Nat):Int))(D:wrap64 (y.writes+1)=y.fail) :
  Calls prog 105 #[.pointer (some ⟨d,0,none⟩),.string s] w fun e w'=>Ju F w w'∧Zb w' F d (Jvn y)∧∃ b,e=.returned (.tuple #[.int .i64 0,.iface 168 (.pointer (some ⟨b,0,none⟩))])∧w.heap.size≤b∧Yu w' (.iface 168 (.pointer (some ⟨b,0,none⟩))) q none (some (-1)):=by
 obtain⟨sv,ps,h⟩:=h
 obtain⟨c0,c1,c2,c3,_,_⟩:=h.field
 have O:=h.thaw 2
 have z:Hid (Jf1 w F d y sv ps):=h
 have A:Hid (wrap64 (y.writes+1)=y.fail):=D
 clear D h
 go_enter func105,ntmps105
 go_wp2_with fail
 go_quiet (fail)
 go_upto_region 4 with fail
 have K:=(z.out.drewN nq).setWrites (wrap64 (y.writes+1))
 have U:(wrap64 (y.writes+1)==y.fail)=true:=by rw[beq_iff_eq];exact A.out
 have M:Hid (Jvn y=⟨y.quota,y.fail,wrap64 (y.writes+1),y.lowest,y.pages⟩):=rfl
 have E:Ju F w ((w.drewN nq).setCell ⟨d,2,none⟩ (.int .i64 (wrap64 (y.writes+1)))):=((Ju.refl F w).drewN nq).set z.out.dF 2 _
 have Z:((w.drewN nq).setCell ⟨d,2,none⟩ (.int .i64 (wrap64 (y.writes+1)))).cell? ⟨7,0,none⟩=some (.iface 443 (.pointer (some q))):=by
  rw[Ob5 _ _ _ _ (by simp)];exact H
 clear A c0 c1 c2 c3 O z H
 generalize wrap64 (y.writes+1)=R at *
 obtain⟨_,c1,c2,_,_,_⟩:=K.field
 generalize (w.drewN nq).setCell ⟨d,2,none⟩ (.int .i64 R)=W at *
 simp only at c1 c2
 go_quiet (fail)
 go_wp2_with fail
 go_region
 go_wp2
 go_ret2
 have C:Below W.heap.size W ((W.drewN (nq+1)).alloc (.cells #[.iface 443 (.pointer (some q)),.int .i64 (-1)] 171)):=(Jp (Oa5 _ W) _).alloc (Oa2 _) _
 refine⟨E.trans (.of_below C),?_,_,rfl,E.size,Jwl (W.drewN (nq+1)) q (-1)⟩
 rw[M.out]
 exact⟨_,_,K.below C⟩
theorem Jl5:∀ (l:List (Option (List UInt8)))(i:Nat)(p:List UInt8),l[i]?=some none→Js (l.set i (some p))=Js l+1
 |[],i,_,h=>by simp at h
 |x::l,0,p,h=>by
  simp at h
  subst h
  simp[Js]
 |x::l,i+1,p,h=>by
  have:=Jl5 l i p (by simpa using h)
  simp only[Js,List.set_cons_succ,On3]at this ⊢
  omega
theorem Jii:∀ (l:List (Option (List UInt8)))(i:Nat)(p:List UInt8),l[i]?=some (some p)→Js (l.set i none)+1=Js l
 |[],i,_,h=>by simp at h
 |x::l,0,p,h=>by
  simp at h
  subst h
  simp[Js]
 |x::l,i+1,p,h=>by
  have:=Jii l i p (by simpa using h)
  simp only[Js,List.set_cons_succ,On3]at this ⊢
  omega
theorem Kka {w:World}{B:Nat}{e:TypeId}{sv:Value}{xs:List Value}{g:Nat}(h:Jo w B e sv xs)(y:sv.ownBlock=some g)(i:Nat)(hi:i<xs.length)(v:Value):Jo (w.setCell ⟨g,i,none⟩ v) B e sv (xs.set i v):=by
 refine⟨by simp,?_⟩
 rcases h.2 with⟨z,h0⟩|⟨C,cap,A,z,D,E,K,M,O,H⟩
 ·omega
 subst z
 simp[Value.ownBlock]at y
 subst y
 refine .inr ⟨C,cap,A.setIfInBounds i v,by simp,D,Jk E i v,by simpa using K,M,by simpa using O,?_⟩
 rw[Of8,Ok0,List.take_set,H]
theorem Jf1.put {w:World}{F:Nat→Prop}{d:Nat}{z:DS}{sv:Value}{ps:List (Option Nat)}(h:Jf1 w F d z sv ps){g:Nat}(D:sv.ownBlock=some g)(i:Nat)(hi:z.pages[i]?=some none)(b:Nat)(p:List UInt8)(bu:Jdp w b p)(hF:F b)(U:b≠d)(X:b≠g)(bf:∀ j:Nat,ps[j]?≠some (some b)) :
  Jf1 ((w.setCell ⟨g,i,none⟩ (.pointer (some ⟨b,0,none⟩))).setCell ⟨d,3,none⟩ (.int .i64 ((Js z.pages+1:Nat):Int))) F d ⟨z.quota,z.fail,z.writes,z.lowest,z.pages.set i (some p)⟩ sv (ps.set i (some b)):=by
 have M:i<z.pages.length:=by
  rcases Oc1 i z.pages.length with K|K
  ·exact K
  rw[Ob4 K]at hi;simp at hi
 have E:i<ps.length:=by rw[h.len];exact M
 have bc:=(h.ownF g D).2
 have br:(w.setCell ⟨g,i,none⟩ (.pointer (some ⟨b,0,none⟩))).heap[d]?=some (.cells #[.int .i64 z.quota,.int .i64 z.fail,.int .i64 z.writes,.int .i64 ((Js z.pages:Nat):Int),.int .i64 ((z.lowest:Nat):Int),sv] 120 (0,0)):=by
  rw[Oa4 _ _ _ _ (show d≠g from Oc5 bc)];exact h.cells
 have bh:∀ k,k≠g→k≠d→((w.setCell ⟨g,i,none⟩ (.pointer (some ⟨b,0,none⟩))).setCell ⟨d,3,none⟩ (.int .i64 ((Js z.pages+1:Nat):Int))).heap[k]?=w.heap[k]?:=fun k bl bn=>by
  rw[Oa4 _ _ _ _ bn,Oa4 _ _ _ _ bl]
 refine⟨?_,?_,h.ownF,h.dF,by simp[h.len],?_,?_,?_,by simpa using h.low,?_,by simpa using h.small⟩
 ·have:=Jk br 3 (.int .i64 ((Js z.pages+1:Nat):Int))
  rw[Jl5 _ _ _ hi]
  simpa using this
 ·rw[Op0]
  refine Yd (Kka h.own D i (by simpa using E) _) fun bz Z=>?_
  rw[D]at Z
  cases Z
  exact Oa4 _ _ _ _ bc
 ·intro j c y
  by_cases A:j=i
  ·subst A
   rw[Oh0 E]at y
   simp at y
   subst y
   exact⟨hF,U,by rw[D];intro e;cases e;exact X rfl,p,by simp[M],bu.of_block (bh b X U)⟩
  rw[Od1 (Oc5 A)]at y
  obtain⟨f,bi,bj,R,O,bx⟩:=h.page j c y
  refine⟨f,bi,bj,R,by rw[Od1 (Oc5 A)];exact O,bx.of_block (bh c (fun e=>bj (by rw[D,e])) bi)⟩
 ·intro j y
  by_cases A:j=i
  ·subst A
   rw[Oh0 E]at y
   simp at y
  rw[Od1 (Oc5 A)]at y ⊢
  exact h.vacant j y
 ·intro j k c y C
  by_cases A:j=i
  ·subst A
   rw[Oh0 E]at y
   simp at y
   subst y
   by_cases H:k=j
   ·exact H.symm
   rw[Od1 (Oc5 H)]at C
   exact absurd C (bf k)
  rw[Od1 (Oc5 A)]at y
  by_cases H:k=i
  ·subst H
   rw[Oh0 E]at C
   simp at C
   subst C
   exact absurd y (bf j)
  rw[Od1 (Oc5 H)]at C
  exact h.inj j k c y C
 intro j y
 by_cases A:j=i
 ·subst A
  exact⟨p,by simp[M]⟩
 obtain⟨R,O⟩:=h.full j y
 exact⟨R,by rw[Od1 (Oc5 A)];exact O⟩
def Zn (y:DS)(z:List UInt8):DS:=⟨y.quota,y.fail,wrap64 (y.writes+1),Kb y.pages,(if Kb y.pages<y.pages.length then y.pages else y.pages++[none]).set (Kb y.pages) (some (Jdm z))⟩
theorem Jsk (l:List (Option (List UInt8))):(if Kb l<l.length then l else l++[none])[Kb l]?=some none:=by
 by_cases h:Kb l<l.length
 ·rw[if_pos h];exact Jc3 l h
 rw[if_neg h]
 have:=Jeu l
 have:Kb l=l.length:=by omega
 rw[this]
 simp
theorem Kjt (d:Nat)(C:List UInt8)(bY:C.length≤56)(w:World)(F:Nat→Prop)(y:DS)(h:Zb w F d y)(ca:y.pages.length<900000)(cx:¬ y.quota≤((Js y.pages:Nat):Int))(bC:¬ wrap64 (y.writes+1)=y.fail) :
  Calls prog 105 #[.pointer (some ⟨d,0,none⟩),.string (Qw C)] w fun e w'=>Ju F w w'∧Zb w' (up F w) d (Zn y C)∧e=.returned (.tuple #[.int .i64 ((Kb y.pages:Nat):Int),.nilIface]):=by
 obtain⟨sv,ps,h⟩:=h
 obtain⟨c0,c1,c2,c3,_,_⟩:=h.field
 have bO:=h.thaw 2
 have X:Hid (Jf1 w F d y sv ps):=h
 have br:Hid (¬ wrap64 (y.writes+1)=y.fail):=bC
 clear bC h
 go_enter func105,ntmps105
 go_wp2_with fail
 go_quiet (fail)
 go_upto_region 4 with fail
 have bi:=(X.out.drewN nq).setWrites (wrap64 (y.writes+1))
 have cu:(wrap64 (y.writes+1)==y.fail)=false:=by rw[beq_eq_false_iff_ne];exact br.out
 have bl:Hid (Zn y C=⟨y.quota,y.fail,wrap64 (y.writes+1),Kb y.pages,(if Kb y.pages<y.pages.length then y.pages else y.pages++[none]).set (Kb y.pages) (some (Jdm C))⟩):=rfl
 have bf:Ju (up F w) w ((w.drewN nq).setCell ⟨d,2,none⟩ (.int .i64 (wrap64 (y.writes+1)))):=((Ju.refl _ w).drewN nq).set (.inl X.out.dF) 2 _
 have cc:((w.drewN nq).setCell ⟨d,2,none⟩ (.int .i64 (wrap64 (y.writes+1)))).heap.size=w.heap.size:=by simp[World.setCell]
 clear br c0 c1 c2 c3 bO X
 generalize wrap64 (y.writes+1)=ch at *
 obtain⟨_,c1,c2,_,_,_⟩:=bi.field
 generalize (w.drewN nq).setCell ⟨d,2,none⟩ (.int .i64 ch)=W at *
 simp only at c1 c2
 have cf:=bi.mono (G:=up F w) (fun k _ hf=>.inl hf)
 clear bi
 go_quiet (fail)
 go_wp2_with fail
 refine(Kkj d (W.drewN nq) (up F w) _ ⟨_,_,cf.drewN nq⟩ (fun k bf=>.inr (by simpa [cc] using bf)) ca).mono ?_
 rintro e D ⟨rfl,⟨cz,H,A⟩,bG⟩
 have bE:=bf.trans (Ju.trans ((Ju.refl _ W).drewN nq) bG)
 have E:=Jsk y.pages
 have U:Hid (Kb y.pages<(if Kb y.pages<y.pages.length then y.pages else y.pages++[none]).length):=by
  rcases Oc1 (Kb y.pages) (if Kb y.pages<y.pages.length then y.pages else y.pages++[none]).length with Z|Z
  ·exact Z
  rw[Ob4 Z]at E;simp at E
 simp only[Ki1]at A
 generalize (if Kb y.pages<y.pages.length then y.pages else y.pages++[none])=O at *
 obtain⟨z,bn⟩:∃ z,Hid (Kb y.pages=z):=⟨_,rfl⟩
 rw[bn.out]at A bl E U ⊢
 obtain⟨_,_,_,c3,_,c5⟩:=A.field
 obtain⟨cj,cn,rfl,bB⟩:=A.list
 have M:=A.len
 simp only at M c3
 have bD:z<H.length:=by rw[M];exact U.out
 obtain⟨g,rfl,bS,bU,cg,bQ⟩:=bB z bD
 have bJ:H[z]=none:=by
  cases bh:H[z]with
  |none=>rfl
  |some b=>
   obtain⟨_,_,_,p,bI,_⟩:=A.page z b (by rw[←bh];simp[bD])
   rw[E]at bI
   simp at bI
 rw[bJ]at cg
 simp only[Kew]at cg
 have ci:Hid (H.length=O.length):=M
 have cv:(z:Int)<(H.length:Int):=by omega
 have bP:=A.thaw 3
 have bT:=bE.size
 have bc:=Jm cg
 have K:=Jm c5
 simp only at bc K
 have cy:=Kad O
 have cb:=A.small
 simp only at cb
 clear bB M bJ U bG
 go_wp2_with fail
 have bK:=Kkp C bY D.drew
 go_region_with (first|(go_at_call 138;refine bK.mono ?_;rintro e R ⟨rfl,bX,bz⟩;obtain⟨kk,bj⟩:=Kx bz;have bM:=(kk d 5 K).trans c5;have bN:=(kk g z bc).trans cg;have bR:=(bj g z bc).trans bQ;have bu:=(kk d 3 K).trans c3;have bx:=(bj d 3 K).trans bP))
 all_goals
  have bA:=Jw bz
  have bL:=A.below bA
  have bZ:=bL.put (g:=g) rfl z E D.heap.size (Jdm C) bX (.inr bT) (by omega) (by omega) (fun j bV=>by obtain⟨_,_,_,p,_,bh⟩:=A.page j _ bV;exact absurd bh.2.lt (Oe3 _))
  have bH:Ju (up F w) w (R.setCell ⟨g,z,none⟩ (.pointer (some ⟨D.heap.size,0,none⟩))):=(bE.trans (.of_below bA)).set bS z _
  have bW:=bH.set (A.dF) 3 (.int .i64 ((Js O+1:Nat):Int))
  have cl:(R.setCell ⟨g,z,none⟩ (.pointer (some ⟨D.heap.size,0,none⟩))).cell? ⟨d,3,none⟩=some (.int .i64 ((Js O:Nat):Int)):=by rw[Ob5 _ _ _ _ (by first|(simp;done)|(simp;intro e;exact absurd e.symm bU))];exact bu
  have cr:(R.setCell ⟨g,z,none⟩ (.pointer (some ⟨D.heap.size,0,none⟩))).frozen? ⟨d,3,none⟩=false:=by rw[On9];exact bx
  clear bu bx bN bR bM kk bj bK bL bH
  generalize R.setCell ⟨g,z,none⟩ (.pointer (some ⟨D.heap.size,0,none⟩))=cA at *
  go_wp2
  go_ret2
  refine⟨Ju.down (by simpa using bW),?_,by rw[bn.out];rfl⟩
  rw[bl.out]
  exact⟨_,_,by simpa using bZ⟩
end Go.Proofs.YtjjdldddcegjiaaGreatDoor
namespace Go.Proofs.YtjjdldddcegjiaaGreatDoor
open Go.RowKit Tryz
def nv (n:Nat):Value:=.int .i64 (n:Int)
theorem Ki8 (l:List (Option (List UInt8)))(i:Nat)(p:List UInt8)(h:l[i]?=some (some p)):((Js l:Nat):Int)-1=((Js (l.set i none):Nat):Int):=by
 have:=Jii l i p h
 omega
theorem Jf1.drop {w:World}{F:Nat→Prop}{d:Nat}{y:DS}{sv:Value}{ps:List (Option Nat)}(h:Jf1 w F d y sv ps){g:Nat}(C:sv.ownBlock=some g)(i:Nat)(p:List UInt8)(hi:y.pages[i]?=some (some p)) :
  Jf1 (((w.setCell ⟨g,i,none⟩ (.pointer none)).setCell ⟨d,3,none⟩ (.int .i64 ((Js (y.pages.set i none):Nat):Int))).setCell ⟨d,4,none⟩ (.int .i64 ((min y.lowest i:Nat):Int))) F d ⟨y.quota,y.fail,y.writes,min y.lowest i,y.pages.set i none⟩ sv (ps.set i none):=by
 have U:i<y.pages.length:=by
  rcases Oc1 i y.pages.length with D|D
  ·exact D
  rw[Ob4 D]at hi;simp at hi
 have H:i<ps.length:=by rw[h.len];exact U
 have E:=(h.ownF g C).2
 have bh:(w.setCell ⟨g,i,none⟩ (.pointer none)).heap[d]?=some (.cells #[.int .i64 y.quota,.int .i64 y.fail,.int .i64 y.writes,.int .i64 ((Js y.pages:Nat):Int),.int .i64 ((y.lowest:Nat):Int),sv] 120 (0,0)):=by
  rw[Oa4 _ _ _ _ (show d≠g from Oc5 E)];exact h.cells
 have bj:∀ k,k≠g→k≠d→(((w.setCell ⟨g,i,none⟩ (.pointer none)).setCell ⟨d,3,none⟩ (.int .i64 ((Js (y.pages.set i none):Nat):Int))).setCell ⟨d,4,none⟩ (.int .i64 ((min y.lowest i:Nat):Int))).heap[k]?=w.heap[k]?:=fun k bf O=>by
  rw[Oa4 _ _ _ _ O,Oa4 _ _ _ _ O,Oa4 _ _ _ _ bf]
 refine⟨?_,?_,h.ownF,h.dF,by simp[h.len],?_,?_,?_,?_,?_,by simpa using h.small⟩
 ·have:=Jk (Jk bh 3 (.int .i64 ((Js (y.pages.set i none):Nat):Int))) 4 (.int .i64 ((min y.lowest i:Nat):Int))
  simpa using this
 ·rw[Op0]
  refine Yd (Kka h.own C i (by simpa using H) _) fun bn R=>?_
  rw[C]at R
  cases R
  rw[Oa4 _ _ _ _ E,Oa4 _ _ _ _ E]
  rfl
 ·intro j c z
  by_cases A:j=i
  ·subst A
   rw[Oh0 H]at z
   simp at z
  rw[Od1 (Oc5 A)]at z
  obtain⟨f,Z,bc,M,K,bl⟩:=h.page j c z
  refine⟨f,Z,bc,M,by rw[Od1 (Oc5 A)];exact K,bl.of_block (bj c (fun e=>bc (by rw[C,e])) Z)⟩
 ·intro j z
  by_cases A:j=i
  ·subst A
   simp[U]
  rw[Od1 (Oc5 A)]at z ⊢
  exact h.vacant j z
 ·intro j k c z bi
  have X:∀ j:Nat,(ps.set i none)[j]?=some (some c)→ps[j]?=some (some c):=by
   intro j z
   by_cases A:j=i
   ·subst A
    rw[Oh0 H]at z
    simp at z
   rwa [Od1 (Oc5 A)]at z
  exact h.inj j k c (X j z) (X k bi)
 ·have:=h.low
  simp
  omega
 intro j z
 simp only at z
 obtain⟨M,K⟩:=h.full j (by omega)
 refine⟨M,?_⟩
 rw[Od1 (by omega)]
 exact K
def Jae (y:DS)(i:Nat):DS:=if Jai y.pages (i:Int)=true then ⟨y.quota,y.fail,y.writes,min y.lowest i,y.pages.set i none⟩else y
def Jf4 (y:DS)(l:List Nat):DS:=l.foldl Jae y
theorem Kkf (y:DS)(l:List Nat)(i:Nat):Jf4 y (l++[i])=Jae (Jf4 y l) i:=by simp[Jf4]
theorem Jf3 {l:List (Option (List UInt8))}{i:Nat}(h:Jai l (i:Int)=true):∃ p,l[i]?=some (some p):=by
 unfold Jai at h
 rw[Og5,decide_eq_true_eq,Oa0,show (Int.toNat (i:Int))=i from rfl]at h
 cases hq:l[i]? with
 |none=>rw[hq]at h;simp at h
 |some x=>
  rw[hq]at h
  cases x with
  |none=>simp at h
  |some p=>exact⟨p,rfl⟩
theorem Ki0 (d:Nat)(a:Option Addr)(cap:Nat)(l:List Nat)(w:World)(F:Nat→Prop)(A:DS)(h:Zb w F d A)(D:Uh w a (l.map nv))(br:∀ b o,a=some ⟨b,o,none⟩→¬ F b)(bL:l.length≤1000000) :
  Calls prog 106 #[.pointer (some ⟨d,0,none⟩),.slice a l.length cap] w fun e w'=>e=.returned (.tuple #[])∧Zb w' F d (Jf4 A l)∧Ju F w w':=by
 go_enter func106,ntmps106
 go_wp2
 go_loopw [8] (fun i wr=>∃ k:Nat,k≤l.length∧i=.int .i64 k∧Zb wr F d (Jf4 A (l.take k))∧Ju F w wr) (fun i _=>l.length-(intOf i).toNat)
 case atStart=>exact⟨0,Ob7 _,rfl,by simpa [Jf4] using h,Ju.refl _ _⟩
 case round=>
  rename_i i
  obtain⟨k,bH,rfl,H,M⟩:=hrel
  by_cases U:k<l.length
  ·have X:Hid (Jf4 A (l.take (k+1))=Jae (Jf4 A (l.take k)) l[k]):=by
    show Jf4 A (l.take (k+1))=_
    rw[Oc4 U,Kkf]
   rcases D with D|⟨b,o,rfl,bG,D⟩
   ·simp at D;subst D;simp at U
   have bj:wr.cell? ⟨b,o+k,none⟩=some (.int .i64 ((l[k]:Nat):Int)):=M.cell (D k _ (by simp[U];rfl)) (br b o rfl)
   generalize l[k]=pg at *
   generalize Jf4 A (l.take k)=y at *
   have K:=Jwv d (pg:Int) wr F y H
   obtain⟨sv,ps,z⟩:=H
   by_cases C:Jai y.pages (pg:Int)=true
   ·have O:Hid (Jae y pg=⟨y.quota,y.fail,y.writes,min y.lowest pg,y.pages.set pg none⟩):=by show Jae y pg=_;rw[Jae,if_pos C]
    obtain⟨p,E⟩:=Jf3 C
    rw[C]at K
    obtain⟨_,_,_,c3,c4,c5⟩:=z.field
    have Z:=z.thaw 3
    have bc:=z.thaw 4
    obtain⟨bB,bC,rfl,bf⟩:=z.list
    have bx:pg<ps.length:=by
     rw[z.len]
     rcases Oc1 pg y.pages.length with R|R
     ·exact R
     rw[Ob4 R]at E;simp at E
    obtain⟨g,rfl,bn,bh,cg,bl⟩:=bf pg bx
    have bz:=z.drop (g:=g) rfl pg p E
    have bO:=Ki8 y.pages pg p E
    have bM:=Kad y.pages
    have bK:=z.small
    have bJ:(pg:Int)<(ps.length:Int):=by omega
    have bu:Ju F w (((wr.setCell ⟨g,pg,none⟩ (.pointer none)).setCell ⟨d,3,none⟩ (.int .i64 ((Js (y.pages.set pg none):Nat):Int))).setCell ⟨d,4,none⟩ (.int .i64 ((min y.lowest pg:Nat):Int))):=((M.set bn pg _).set z.dF 3 _).set z.dF 4 _
    have bP:(wr.setCell ⟨g,pg,none⟩ (.pointer none)).cell? ⟨d,3,none⟩=some (.int .i64 ((Js y.pages:Nat):Int)):=by rw[Ob5 _ _ _ _ (by first|(simp;done)|(simp;intro e;exact absurd e.symm bh))];exact c3
    have bQ:(wr.setCell ⟨g,pg,none⟩ (.pointer none)).cell? ⟨d,4,none⟩=some (.int .i64 ((y.lowest:Nat):Int)):=by rw[Ob5 _ _ _ _ (by first|(simp;done)|(simp;intro e;exact absurd e.symm bh))];exact c4
    have bD:(wr.setCell ⟨g,pg,none⟩ (.pointer none)).frozen? ⟨d,3,none⟩=false:=by rw[On9];exact Z
    have bE:(wr.setCell ⟨g,pg,none⟩ (.pointer none)).frozen? ⟨d,4,none⟩=false:=by rw[On9];exact bc
    have bI:=z.low
    have bN:(1:Int)≤((Js y.pages:Nat):Int):=by omega
    clear bf z c3 c4 Z bc E C
    go_upto_region 5 with(go_at_call 139;refine K.mono ?_;rintro e w' ⟨rfl,bA⟩;subst w')
    clear cg bl bj c5
    generalize wr.setCell ⟨g,pg,none⟩ (.pointer none)=w1 at *
    go_wp2
    go_roundw
    case rel=>
     have bi:(if pg<y.lowest then ((pg:Nat):Int)else ((y.lowest:Nat):Int))=((min y.lowest pg:Nat):Int):=by split<;>omega
     exact⟨k+1,by omega,by go_num,by rw[X.out,O.out,bi];exact⟨_,_,bz⟩,by rw[bi];exact bu⟩
    case measure=>simp[intOf];omega
   have O:Hid (Jae y pg=y):=by show Jae y pg=_;rw[Jae,if_neg C]
   rw[Oo1]at C
   rw[C]at K
   go_wp2_with (go_at_call 139;refine K.mono ?_;rintro e w' ⟨rfl,bA⟩;subst w')
   go_roundw
   case rel=>exact⟨k+1,by omega,by go_num,by rw[X.out,O.out];exact⟨_,_,z⟩,M⟩
   case measure=>simp[intOf];omega
  obtain rfl:k=l.length:=by omega
  rw[Of2]at H
  go_wp2
  go_end0
  exact⟨rfl,H,M⟩
end Go.Proofs.YtjjdldddcegjiaaGreatDoor
namespace Go.Proofs.YtjjdldddcegjiaaGreatDoor
open Go.RowKit Tryz
def Jb5:Nat→List UInt8→List (List UInt8)
 |0,_=>[]
 |_+1,[]=>[]
 |n+1,b::t=>(b::t).take 56::Jb5 n ((b::t).drop 56)
def Qu (t:List UInt8):List (List UInt8):=Jb5 t.length t
theorem Jl2:∀ (n m:Nat)(t:List UInt8),t.length≤n→t.length≤m→Jb5 n t=Jb5 m t
 |0,m,[],_,_=>by cases m<;>rfl
 |0,m,b::t,h,_=>by simp at h
 |n+1,0,[],_,_=>rfl
 |n+1,0,b::t,_,h=>by simp at h
 |n+1,m+1,[],_,_=>rfl
 |n+1,m+1,b::t,h,k=>by
  simp only[Jb5]
  rw[Jl2 n m ((b::t).drop 56) (by simp at h ⊢;omega) (by simp at k ⊢;omega)]
theorem Kj2:Qu []=[]:=rfl
theorem Jr2 (t:List UInt8)(h:t≠[]):Qu t=t.take 56::Qu (t.drop 56):=by
 cases t with
 |nil=>exact absurd rfl h
 |cons b t=>
  unfold Qu
  simp only[List.length_cons,Jb5]
  rw[Jl2 _ ((b::t).drop 56).length _ (by simp) (Oa2 _)]
def Uy (y:DS):List (List UInt8)→DS×List Nat×Option Bool
 |[]=>(y,[],none)
 |p::ps=>if y.quota≤((Js y.pages:Nat):Int)then (y,[],some true)else if wrap64 (y.writes+1)=y.fail then (Jvn y,[],some false)else
   ((Uy (Zn y p) ps).1,Kb y.pages::(Uy (Zn y p) ps).2.1,(Uy (Zn y p) ps).2.2)
def Kiw (l:List Nat)(r:DS×List Nat×Option Bool):DS×List Nat×Option Bool:=(r.1,l++r.2.1,r.2.2)
theorem Kjp (l:List Nat)(y:DS)(p:List UInt8)(ps:List (List UInt8))(z:¬ y.quota≤((Js y.pages:Nat):Int))(A:¬ wrap64 (y.writes+1)=y.fail) :
  Kiw l (Uy y (p::ps))=Kiw (l++[Kb y.pages]) (Uy (Zn y p) ps):=by
 simp[Kiw,Uy,z,A]
theorem Zw:(prog.info? 3).map (fun i=>(i.zero,i.size,i.bytes))=some (some (.int .i64 0),1,8):=by kernel_rfl
theorem Jxm (y:DS)(p:List UInt8):(Zn y p).pages.length≤y.pages.length+1:=by
 simp only[Zn]
 split<;>simp
def Kky:Value→Nat
 |.string s=>s.size
 |_=>0
theorem Kkb (bs:List UInt8)(i j:Nat):(Qw bs).extract i j=Qw ((bs.take j).drop i):=by
 unfold Qw
 rw[Om5]
 simp[List.extract_eq_take_drop,List.drop_take]
def cap (F:Nat→Prop)(w:World):Nat→Prop:=fun k=>F k∧k<w.heap.size
theorem Zb.cap {w:World}{F:Nat→Prop}{d:Nat}{y:DS}(h:Zb w F d y):Zb w (cap F w) d y:=h.mono fun _ z hf=>⟨hf,z⟩
structure Kiy (w0:World) (F0:Nat→Prop) (w:World) (d:Nat) (E:DS) (sv:Value) (l:List Nat) (FD:Nat→Prop):Prop where
 disk:Zb w FD d E
 from_:∀ k,FD k→F0 k∨w0.heap.size≤k
 lt:∀ k,FD k→k<w.heap.size
 own:Jo w w0.heap.size 3 sv (l.map nv)
 apart:∀ g,sv.ownBlock=some g→¬ FD g
 keep:Ju F0 w0 w
def Kjn (y:DS):DS×Bool:=if y.quota≤((Js y.pages:Nat):Int)then (y,true)else (Jvn y,false)
theorem Kko (y:DS)(p:List UInt8)(ps:List (List UInt8))(h:y.quota≤((Js y.pages:Nat):Int)∨wrap64 (y.writes+1)=y.fail):Uy y (p::ps)=((Kjn y).1,[],some (Kjn y).2):=by
 unfold Kjn
 by_cases z:y.quota≤((Js y.pages:Nat):Int)
 ·simp[Uy,z]
 have A:=h.resolve_left z
 simp[Uy,z,A]
theorem Ki6 {F:Nat→Prop}{w w':World}{b:Nat}{a:Addr}{p:Int}(h:Yu w (.iface 168 (.pointer (some ⟨b,0,none⟩))) a none (some p))(z:Ju F w w')(y:¬ F b):Yu w' (.iface 168 (.pointer (some ⟨b,0,none⟩))) a none (some p):=by
 obtain⟨h0,A⟩:=h.disk_at
 exact .disk b a p (z.cell h0 y) (z.cell A y)
theorem Kj7 (d:Nat)(s:ByteArray)(w:World)(F:Nat→Prop)(y:DS)(h:Zb w F d y)(q wr:Addr)(H:w.cell? ⟨6,0,none⟩=some (.iface 443 (.pointer (some q))))(K:w.cell? ⟨7,0,none⟩=some (.iface 443 (.pointer (some wr))))
  (E:y.quota≤((Js y.pages:Nat):Int)∨wrap64 (y.writes+1)=y.fail) :
  Calls prog 105 #[.pointer (some ⟨d,0,none⟩),.string s] w fun e w'=>Ju F w w'∧Zb w' F d (Kjn y).1∧∃ b,e=.returned (.tuple #[.int .i64 0,.iface 168 (.pointer (some ⟨b,0,none⟩))])∧w.heap.size≤b∧Yu w' (.iface 168 (.pointer (some ⟨b,0,none⟩))) (if (Kjn y).2 then q else wr) none (some (-1)):=by
 unfold Kjn
 by_cases z:y.quota≤((Js y.pages:Nat):Int)
 ·rw[if_pos z]
  refine(Kjc d s w F y h q H z).mono ?_
  rintro e w' ⟨A,b,rfl,C,D⟩
  exact⟨.of_below A,h.below A,b,rfl,C,D⟩
 rw[if_neg z]
 exact Kj0 d s w F y h wr K z (E.resolve_left z)
def Kkw (w:World)(F:Nat→Prop)(d:Nat)(q wr:Addr)(r:DS×List Nat×Option Bool)(e:Ending)(w':World):Prop:=
 Ju F w w'∧∃ FD:Nat→Prop,Zb w' FD d (match r.2.2 with|none=>r.1|some _=>Jf4 r.1 r.2.1)∧(∀ k,FD k→F k∨w.heap.size≤k)∧(∀ k,FD k→k<w'.heap.size) ∧
  match r.2.2 with
  |none=>∃ sv,e=.returned (.tuple #[sv,.nilIface])∧Jo w' w.heap.size 3 sv (r.2.1.map nv)∧∀ g,sv.ownBlock=some g→¬ FD g
  |some x=>∃ b,e=.returned (.tuple #[.slice none 0 0,.iface 168 (.pointer (some ⟨b,0,none⟩))])∧w.heap.size≤b∧Yu w' (.iface 168 (.pointer (some ⟨b,0,none⟩))) (if x then q else wr) none (some (-1))∧¬ FD b
theorem Kiy.stand {y w w':World}{z FD:Nat→Prop}{d:Nat}{D:DS}{sv:Value}{l:List Nat}(h:Kiy y z w d D sv l FD)(C:Ju FD w w'):Jo w' y.heap.size 3 sv (l.map nv)∧Ju z y w':=
 ⟨Yd h.own fun g A=>C.block g (Qk h.own A) (h.apart g A),h.keep.trans' C fun k E hf=>(h.from_ k hf).resolve_right (by omega)⟩
theorem Jji {w:World}{B:Nat}{e:TypeId}{a:Option Addr}{n c:Nat}{xs:List Value}(h:Jo w B e (.slice a n c) xs):Uh w a xs∧∀ b o,a=some ⟨b,o,none⟩→(Value.slice a n c).ownBlock=some b:=by
 obtain⟨C,D,y,A⟩:=h.cells
 simp at y
 obtain⟨rfl,_,_⟩:=y
 exact⟨A,fun b o z=>by subst z;rfl⟩
theorem Kiy.more {H wr z E:World}{K FD:Nat→Prop}{d:Nat}{C:DS}{sv sv':Value}{l:List Nat}(h:Kiy H K wr d C sv l FD)(bf:Ju FD wr z)(X:List UInt8)(bc:Zb z (up FD wr) d (Zn C X))(o:Obj)
  (bi:Jo E H.heap.size 3 sv' (l.map nv++[nv (Kb C.pages)])) (A:(z.alloc o).grownBy E sv.ownBlock) (Z:sv'.ownBlock=sv.ownBlock∨sv'.ownBlock=some (z.alloc o).heap.size) :
  Kiy H K E d (Zn C X) sv' (l++[Kb C.pages]) (cap (up FD wr) z):=by
 have bj:=A.size
 rw[Oa7]at bj
 have R:∀ g,sv.ownBlock=some g→g<wr.heap.size:=fun g A=>Qk h.own A
 have U:∀ k,k<z.heap.size→sv.ownBlock≠some k→E.heap[k]?=z.heap[k]?:=fun k y bh=>(A.block k (by simp;omega) (Oc5 bh)).trans (Oa9 z o k y)
 refine⟨bc.cap.stands fun k y O=>U k O fun e=>?_,fun k y=>?_,fun k y=>Oc2 y.2 (by omega),?_,fun g D=>?_,?_⟩
 ·rcases y.1 with hf|hf
  ·exact h.apart k e hf
  have:=R k e;omega
 ·rcases y.1 with hf|hf
  ·exact h.from_ k hf
  exact .inr (Ob2 h.keep.size hf)
 ·rw[Ob8];exact bi
 ·rintro⟨bl,O⟩
  rcases Z with e|e
  ·rw[e]at D
   rcases bl with hf|hf
   ·exact h.apart g D hf
   have:=R g D;omega
  rw[e]at D
  simp at D
  omega
 have y:=(h.stand bf).2
 refine⟨A.os.trans y.os,A.tape.trans y.tape,A.output.trans y.output,Ob2 y.size (by omega),fun k M hn=>?_⟩
 refine(U k (Oc2 M y.size) fun e=>?_).trans (y.block k M hn)
 have:=(Je h.own e).1
 omega
theorem Kkq (d:Nat)(A:List UInt8)(w:World)(F:Nat→Prop)(D:DS)(h:Zb w F d D)(hF:∀ k,F k→k<w.heap.size)(q bx:Addr)
  (bc:w.cell? ⟨6,0,none⟩=some (.iface 443 (.pointer (some q)))) (bR:w.cell? ⟨7,0,none⟩=some (.iface 443 (.pointer (some bx)))) (bH:¬ F 6) (bI:¬ F 7) (bO:D.pages.length+(Qu A).length≤800000) (cj:A.length≤1000000) :
  Calls prog 77 #[.pointer (some ⟨d,0,none⟩),.string (Qw A)] w fun e w'=>Kkw w F d q bx (Uy D (Qu A)) e w':=by
 go_enter func77,ntmps77
 go_wp2
 go_loopw [1,6] (fun bf sv bT=>∃ (rest:List UInt8) (y:DS) (l:List Nat) (FD:Nat→Prop),bf=.string (Qw rest)∧rest.length≤A.length∧l.length+(Qu rest).length≤800000∧y.pages.length+(Qu rest).length≤800000∧Kiy w F bT d y sv l FD∧Hid (Uy D (Qu A)=Kiw l (Uy y (Qu rest)))) (fun bf _ _=>Kky bf)
 case atStart=>exact⟨A,D,[],F,rfl,Oa2 _,by simp;omega,bO,⟨h,fun k bl=>.inl bl,hF,Jo.nil _ _ _,fun g bN=>by simp[Value.ownBlock]at bN,Ju.refl _ _⟩,rfl⟩
 case round=>
  rename_i bf sv
  obtain⟨rest,y,l,FD,rfl,ch,bZ,bY,hL,E⟩:=hrel
  have bP:=Jb2 rest
  by_cases br:rest=[]
  ·subst br
   rw[Kj2]at E
   have bh:Hid (Uy D (Qu A)=(y,l,none)):=by show _=_;rw[E.out];simp[Kiw,Uy]
   obtain⟨a,cap,H,_⟩:=hL.own.cells
   subst H
   simp at bP
   go_wp2
   go_ret2
   rw[bh.out]
   exact⟨hL.keep,FD,hL.disk,hL.from_,hL.lt,_,rfl,hL.own,hL.apart⟩
  have cf:0<rest.length:=Oi9.2 br
  have bi:Hid (Qu rest=rest.take 56::Qu (rest.drop 56)):=Jr2 rest br
  have cc:(Qu rest).length=(Qu (rest.drop 56)).length+1:=by rw[bi.out];rfl
  obtain⟨n,hn,X⟩:∃ n:Nat,(n≤rest.length∧n≤56)∧Hid (n=min rest.length 56):=⟨min rest.length 56,by omega,rfl⟩
  have bA:Hid (rest.take n=rest.take 56):=by
   show _=_
   rw[X.out]
   rcases Oc1 rest.length 56 with R|R
   ·rw[Oj1 (by omega),Oc8 (Oa2 _),Oc8 (by omega)]
   rw[Ol4 R]
  have bz:Hid (rest.drop n=rest.drop 56):=by
   show _=_
   rw[X.out]
   rcases Oc1 rest.length 56 with R|R
   ·rw[Oj1 (by omega),Ol8 (Oa2 _),Ol8 (by omega)]
   rw[Ol4 R]
  have bD:=Kkb rest 0 n
  have bE:=Kkb rest n rest.length
  rw[List.drop_zero,bA.out]at bD
  rw[Of2,bz.out]at bE
  have bX:(rest.drop 56).length<rest.length:=by rw[Of7];omega
  have bQ:(rest.take 56).length≤56:=by rw[Oc7];omega
  have cb:(if 56<(rest.length:Int)then (56:Int)else (rest.length:Int))=(n:Int):=by have:=X.out;split<;>omega
  rw[bi.out]at E
  clear bi bA bz X
  generalize rest.take 56=O at *
  generalize rest.drop 56=bS at *
  by_cases M:y.quota≤((Js y.pages:Nat):Int)∨wrap64 (y.writes+1)=y.fail
  ·have bh:Hid (Uy D (Qu A)=((Kjn y).1,l,some (Kjn y).2)):=by show _=_;rw[E.out,Kko y _ _ M];simp[Kiw]
   have bu:=Kj7 d (Qw O) wr FD y hL.disk q bx (hL.keep.cell bc bH) (hL.keep.cell bR bI) M
   have z:Hid (Kiy w F wr d y u6 l FD):=hL
   obtain⟨a,cap,H,_⟩:=hL.own.cells
   rw[Oa6]at H
   clear hL M E
   subst H
   go_wp2_with (first|(go_at_call 105;refine bu.mono ?_;rintro e Z ⟨C,bj,b,rfl,bK,bL⟩)|(go_at_call 106;refine(Ki0 d a cap l Z FD _ bj (Jji (z.out.stand C).1).1 (fun b o bJ=>z.out.apart b ((Jji (z.out.stand C).1).2 b o bJ)) (by omega)).mono ?_;rintro e bU ⟨rfl,bM,bn⟩))
   go_ret2
   rw[bh.out]
   have bB:¬ FD b:=fun hf=>by have:=z.out.lt b hf;omega
   exact⟨(z.out.stand (C.trans bn)).2,FD,bM,z.out.from_,fun k bl=>Oc2 (z.out.lt k bl) (Ob2 C.size bn.size),b,rfl,Ob2 z.out.keep.size bK,Ki6 bL bn bB,bB⟩
  have K:¬ y.quota≤((Js y.pages:Nat):Int):=fun h=>M (.inl h)
  have U:¬ wrap64 (y.writes+1)=y.fail:=fun h=>M (.inr h)
  rw[Kjp l y O _ K U]at E
  have bu:=Kjt d O bQ wr FD y hL.disk (by omega) K U
  have cl:=Jxm y O
  have z:Hid (Kiy w F wr d y u6 l FD):=hL
  obtain⟨a,cap,H,_⟩:=hL.own.cells
  rw[Oa6]at H
  clear hL M K U
  subst H
  have ca:=z.out.keep.size
  go_wp2_with (first|(go_at_call 105;refine bu.mono ?_;rintro e Z ⟨C,bj,rfl⟩;have ci:=C.size)|(at_builtin;go_must (refine Ks (by rfl) _ _ 22 3 _ 8 Zw (by rfl) (by decide) (by kernel_rfl) (by rfl) w.heap.size _ _ (by rfl) (Jo.alloc (z.out.stand C).1 _) ⟨Z.heap.size,0,none⟩ 1 [nv (Kb y.pages)] (by rfl) (by exact Ua Z _ _) (by intro u bC;simp at bC;subst bC;rfl) (by simp only[List.length_cons,List.length_nil,Oa6];omega) (by simp;omega) ?_);intro sv' cn K U bG;obtain⟨bV,bW,rfl,_⟩:=K.cells))
  go_roundw
  case rel=>
   have bc:=z.out.more C O bj _ K U bG
   rw[Oa8,Oa6]at bc
   exact⟨bS,Zn y O,l++[Kb y.pages],_,rfl,by omega,by simp;omega,by omega,bc,E.out⟩
  case measure=>simp only[Kky];simp[Jb2];omega
def Uf (y:DS):List Nat→List UInt8⊕Nat
 |[]=>.inl []
 |i::l=>match (y.pages.getD i none).bind Jd2 with
  |none=>.inr i
  |some t=>match Uf y l with
   |.inl u=>.inl (t++u)
   |.inr j=>.inr j
theorem Jrf {p t:List UInt8}(h:Jd2 p=some t):t.length≤56:=by
 unfold Jd2 at h
 split at h
 ·simp at h
 simp at h
 subst h
 rename_i y
 rw[Oa0]at y
 rw[Oc7]
 omega
theorem Jv5 {y:DS}{l:List Nat}(k:Nat)(z:k<l.length)(t u:List UInt8)(A:(y.pages.getD l[k] none).bind Jd2=some u)(h:Uf y l=(match Uf y (l.drop k)with|.inl r=>.inl (t++r)|.inr j=>.inr j)) :
  Uf y l=(match Uf y (l.drop (k+1))with|.inl r=>.inl ((t++u)++r)|.inr j=>.inr j):=by
 rw[h,Oi1 z]
 simp only[Uf,A]
 cases Uf y (l.drop (k+1))<;>simp
theorem Jo9 {y:DS}{l:List Nat}(k:Nat)(z:k<l.length)(t:List UInt8)(A:(y.pages.getD l[k] none).bind Jd2=none)(h:Uf y l=(match Uf y (l.drop k)with|.inl r=>.inl (t++r)|.inr j=>.inr j)):Uf y l=.inr l[k]:=by
 rw[h,Oi1 z]
 simp only[Uf,A]
theorem Je0 {l:List (Option (List UInt8))}{i:Nat}(h:Jai l (i:Int)=false):l.getD i none=none:=by
 cases hq:l.getD i none with
 |none=>rfl
 |some p=>
  rw[Oa0]at hq
  have:l[i]?=some (some p):=by
   cases hh:l[i]? with
   |none=>rw[hh]at hq;simp at hq
   |some x=>rw[hh]at hq;simp at hq;rw[hq]
  rw[Jtc this]at h
  simp at h
theorem Jfv (n:Int)(w:World)(pg:Addr)(y:w.cell? ⟨8,0,none⟩=some (.iface 443 (.pointer (some pg)))) :
  Calls prog 126 #[.int .i64 n] w fun e w'=>Below w.heap.size w w'∧∃ b,e=.returned (.iface 168 (.pointer (some ⟨b,0,none⟩)))∧w.heap.size≤b∧Yu w' (.iface 168 (.pointer (some ⟨b,0,none⟩))) pg none (some n):=by
 go_enter func126,ntmps126
 go_wp2
 go_ret
 exact⟨(Oa5 _ w).alloc (Oa2 _) _,_,rfl,Oa2 _,Jwl w pg n⟩
def Keo (w:World)(pg:Addr)(r:List UInt8⊕Nat)(e:Ending)(w':World):Prop:=
 Below w.heap.size w w'∧match r with
  |.inl t=>e=.returned (.tuple #[.string (Qw t),.nilIface])
  |.inr i=>∃ b,e=.returned (.tuple #[.string ⟨#[]⟩,.iface 168 (.pointer (some ⟨b,0,none⟩))])∧w.heap.size≤b∧Yu w' (.iface 168 (.pointer (some ⟨b,0,none⟩))) pg none (some (i:Int))
theorem Jzx {w:World}{F:Nat→Prop}{d:Nat}{y:DS}{sv:Value}{ps:List (Option Nat)}(h:Jf1 w F d y sv ps)(i:Nat)(R:Jai y.pages (i:Int)=true) :
  ∃ g cap b p,sv=.slice (some ⟨g,0,none⟩) ps.length cap∧i<ps.length∧w.cell? ⟨g,i,none⟩=some (.pointer (some ⟨b,0,none⟩))∧y.pages.getD i none=some p∧Jdp w b p:=by
 obtain⟨p,C⟩:=Jf3 R
 obtain⟨a,cap,K,H⟩:=h.list
 have z:i<ps.length:=by
  rw[h.len]
  rcases Oc1 i y.pages.length with A|A
  ·exact A
  rw[Ob4 A]at C;simp at C
 obtain⟨g,rfl,_,_,cg,_⟩:=H i z
 have D:=h.which i z
 rw[Oa0,C]at D
 obtain⟨b,E⟩:∃ b,ps[i]=some b:=by
  cases hq:ps[i]with
  |none=>rw[hq]at D;simp at D
  |some b=>exact⟨b,rfl⟩
 obtain⟨_,_,_,U,M,O⟩:=h.page i b (by rw[←E];simp[z])
 rw[E]at cg
 exact⟨g,cap,b,U,K,z,cg,by rw[Oa0,M];rfl,O⟩
theorem Kag (d:Nat)(a:Option Addr)(cap:Nat)(l:List Nat)(w:World)(F:Nat→Prop)(y:DS)(h:Zb w F d y)(H:Uh w a (l.map nv))(bL:l.length≤1000000)(pg:Addr)(bD:w.cell? ⟨8,0,none⟩=some (.iface 443 (.pointer (some pg))))(R:∀ t,Uf y l=.inl t→t≠[]) :
  Calls prog 124 #[.pointer (some ⟨d,0,none⟩),.slice a l.length cap] w fun e w'=>Keo w pg (Uf y l) e w':=by
 go_enter func124,ntmps124
 go_wp2
 go_loopw [13] (fun i wr=>∃ (k:Nat) (t:List UInt8),k≤l.length∧t.length≤56*k∧i=.int .i64 k∧Jkw wr w.heap.size w.heap.size t∧Below w.heap.size w wr∧Hid (Uf y l=(match Uf y (l.drop k)with|.inl r=>.inl (t++r)|.inr j=>.inr j))) (fun i _=>l.length-(intOf i).toNat)
 case atStart=>exact⟨0,[],Ob7 _,by simp,rfl,Jkw.new w _ (Oa2 _),(Oa5 _ _).alloc (Oa2 _) _,by show _=_;rw[List.drop_zero];cases Uf y l<;>rfl⟩
 case round=>
  rename_i i
  obtain⟨k,t,bK,bM,rfl,bl,z,C⟩:=hrel
  by_cases O:k<l.length
  ·rcases H with H|⟨b,o,rfl,bz,H⟩
   ·simp at H;subst H;simp at O
   have bH:wr.cell? ⟨b,o+k,none⟩=some (.int .i64 ((l[k]:Nat):Int)):=by rw[(Kx z).1 b (o+k) bz];exact H k _ (by simp[O];rfl)
   have bn:=Ja z bD
   have bj:=h.below z
   have M:=Jwv d (l[k]:Int) wr F y bj
   have br:=Jfv (l[k]:Int) wr pg bn
   by_cases D:Jai y.pages ((l[k]:Nat):Int)=true
   ·rw[D]at M
    obtain⟨sv,ps,bc⟩:=bj
    obtain⟨_,_,_,_,_,c5⟩:=bc.field
    obtain⟨g,cp,bp,p,rfl,bI,cg,X,bC⟩:=Jzx bc l[k] D
    have Z:=Ke1 bp p wr bC
    have bJ:((l[k]:Nat):Int)<(ps.length:Int):=by omega
    cases ho:Jd2 p with
    |none=>
     have E:Hid (Uf y l=.inr l[k]):=Jo9 k O t (by rw[X];exact ho) C.out
     rw[ho]at Z
     clear C R X D bc ho
     generalize l[k]=i at *
     go_wp2_with (first|(go_at_call 139;refine M.mono ?_;rintro e w' ⟨rfl,bu⟩;subst w')|(go_at_call 169;refine Z.mono ?_;rintro e U ⟨rfl,A⟩;have bE:=Jfv (i:Int) U pg (Ja A bn))|(go_at_call 126;refine bE.mono ?_;rintro e bi ⟨K,b2,rfl,bf,bh⟩))
     go_ret2
     rw[E.out]
     exact⟨Jb z (Jb A K),b2,rfl,Ob2 z.size (Ob2 A.size bf),bh⟩
    |some u=>
     have bx:Hid (Uf y l=(match Uf y (l.drop (k+1))with|.inl r=>.inl ((t++u)++r)|.inr j=>.inr j)):=Jv5 k O t u (by rw[X];exact ho) C.out
     have bN:=Jrf ho
     rw[ho]at Z
     clear C R X D bc ho br
     generalize l[k]=i at *
     go_wp2_with (first|(go_at_call 139;refine M.mono ?_;rintro e w' ⟨rfl,bu⟩;subst w')|(go_at_call 169;refine Z.mono ?_;rintro e U ⟨rfl,A⟩;have bA:=Jv2 w.heap.size w.heap.size t u U (bl.below A) (by omega) (Ob2 z.size A.size))|(go_at_call 170;refine bA.mono ?_;rintro e bi ⟨rfl,bB,K⟩))
     go_roundw
     case rel=>exact⟨k+1,t++u,by omega,by simp;omega,by go_num,bB,(Jb z A).trans K,bx.out⟩
     case measure=>simp[intOf];omega
   rw[Oo1]at D
   rw[D]at M
   have E:Hid (Uf y l=.inr l[k]):=Jo9 k O t (by rw[Je0 D];rfl) C.out
   clear C R
   generalize l[k]=i at *
   go_wp2_with (first|(go_at_call 139;refine M.mono ?_;rintro e w' ⟨rfl,bu⟩;subst w')|(go_at_call 126;refine br.mono ?_;rintro e bi ⟨K,b2,rfl,bf,bh⟩))
   go_ret2
   rw[E.out]
   exact⟨Jb z K,b2,rfl,Ob2 z.size bf,bh⟩
  obtain rfl:k=l.length:=by omega
  have E:Hid (Uf y l=.inl t):=by show _=_;rw[C.out,List.drop_length];simp[Uf]
  have bG:=Jsp w.heap.size w.heap.size t wr bl (R t E.out)
  clear C R
  go_wp2_with (go_at_call 171;refine bG.mono ?_;rintro e U ⟨rfl,A⟩)
  go_ret2
  rw[E.out]
  exact⟨z.trans A,rfl⟩
structure TS where
 name:ByteArray
 types:List Int
 rows:Nat
 group:Nat
 segs:List (List Nat)
def Kh8 (h:Option Addr×Nat)(l:List Nat):Value:=.slice h.1 l.length h.2
structure Jaf (w:World) (F:Nat→Prop) (a:Option Addr) (hs:List (Option Addr×Nat)) (ls:List (List Nat)):Prop where
 len:hs.length=ls.length
 cells:Uh w a (List.zipWith Kh8 hs ls)
 segs:∀ (i:Nat) h l,hs[i]?=some h→ls[i]?=some l→Uh w h.1 (l.map nv)
 aF:∀ b o,a=some ⟨b,o,none⟩→F b
 hF:∀ (i:Nat) h,hs[i]?=some h→∀ b o,h.1=some ⟨b,o,none⟩→F b
theorem Jaf.stands {w w':World}{F:Nat→Prop}{a:Option Addr}{hs:List (Option Addr×Nat)}{E:List (List Nat)}(h:Jaf w F a hs E)(C:w.heap.size≤w'.heap.size)(A:∀ k,F k→k<w.heap.size→w'.heap[k]?=w.heap[k]?):Jaf w' F a hs E:=
 ⟨h.len,h.cells.of_block C fun b o y z=>A b (h.aF b o y) z,fun i x l D z=>(h.segs i x l D z).of_block C fun b o y H=>A b (h.hF i x D b o y) H,h.aF,h.hF⟩
theorem Jaf.mono {w:World}{F G:Nat→Prop}{a:Option Addr}{hs:List (Option Addr×Nat)}{A:List (List Nat)}(h:Jaf w F a hs A)(z:∀ k,F k→G k):Jaf w G a hs A:=
 ⟨h.len,h.cells,h.segs,fun b o y=>z b (h.aF b o y),fun i x C b o y=>z b (h.hF i x C b o y)⟩
theorem Jaf.at {w:World}{F:Nat→Prop}{a:Option Addr}{hs:List (Option Addr×Nat)}{y:List (List Nat)}(h:Jaf w F a hs y){i:Nat}(hi:i<y.length) :
  ∃ b o z H,a=some ⟨b,o,none⟩∧F b∧b<w.heap.size∧w.cell? ⟨b,o+i,none⟩=some (.slice z y[i].length H)∧Uh w z (y[i].map nv)∧∀ b o,z=some ⟨b,o,none⟩→F b:=by
 have C:i<hs.length:=by rw[h.len];exact hi
 obtain⟨b,o,A,D,E⟩:=h.cells.at (i:=i) (by simp;omega)
 exact⟨b,o,hs[i].1,hs[i].2,A,h.aF b o A,D,by rw[E];simp[Kh8],h.segs i hs[i] y[i] (by simp[C]) (by simp[hi]),h.hF i hs[i] (by simp[C])⟩
structure Khb (w:World) (F:Nat→Prop) (tb:Nat) (T:TS) (ta:Option Addr) (tc:Nat) (sa:Option Addr) (sc:Nat) (hs:List (Option Addr×Nat)):Prop where
 cells:w.heap[tb]?=some (.cells #[.string T.name,.slice ta T.types.length tc,.int .i64 (T.rows:Int),.int .i64 (T.group:Int),.slice sa T.segs.length sc] 140 (0,0))
 types:Kc w ta T.types
 tF:∀ b o,ta=some ⟨b,o,none⟩→F b
 segs:Jaf w F sa hs T.segs
 cap:T.segs.length≤sc
 bF:F tb
def Jmg (w:World)(F:Nat→Prop)(C:Nat)(T:TS):Prop:=∃ A D y z hs,Khb w F C T A D y z hs
theorem Jmg.stands {w w':World}{F:Nat→Prop}{z:Nat}{T:TS}(h:Jmg w F z T)(A:w.heap.size≤w'.heap.size)(y:∀ k,F k→k<w.heap.size→w'.heap[k]?=w.heap[k]?):Jmg w' F z T:=by
 obtain⟨K,M,E,H,hs,h⟩:=h
 exact⟨K,M,E,H,hs,by rw[y z h.bF (Jd h.cells)];exact h.cells,h.types.of_block A fun b o C D=>y b (h.tF b o C) D,h.tF,h.segs.stands A y,h.cap,h.bF⟩
theorem Jmg.mono {w:World}{F G:Nat→Prop}{z:Nat}{T:TS}(h:Jmg w F z T)(y:∀ k,F k→G k):Jmg w G z T:=by
 obtain⟨E,H,C,D,hs,h⟩:=h
 exact⟨E,H,C,D,hs,h.cells,h.types,fun b o A=>y b (h.tF b o A),h.segs.mono y,h.cap,y z h.bF⟩
theorem Khb.field {w:World}{F:Nat→Prop}{y:Nat}{T:TS}{C:Option Addr}{D:Nat}{z:Option Addr}{A:Nat}{hs:List (Option Addr×Nat)}(h:Khb w F y T C D z A hs) :
  w.cell? ⟨y,0,.none⟩=some (.string T.name)∧w.cell? ⟨y,1,.none⟩=some (.slice C T.types.length D)∧w.cell? ⟨y,2,.none⟩=some (.int .i64 (T.rows:Int))∧w.cell? ⟨y,3,.none⟩=some (.int .i64 (T.group:Int))∧w.cell? ⟨y,4,.none⟩=some (.slice z T.segs.length A):=by
 simp[World.cell?,h.cells]
def Jcp (b:Nat):Value:=.pointer (some ⟨b,0,none⟩)
structure Jfl (w:World) (F:Nat→Prop) (s d:Nat) (Ts:List TS) (sv:Value) (bs:List Nat):Prop where
 cells:w.heap[s]?=some (.cells #[.pointer (some ⟨d,0,none⟩),sv] 123 (0,0))
 own:Jo w 0 136 sv (bs.map Jcp)
 sF:¬ F s
 gF:∀ g,sv.ownBlock=some g→¬ F g∧g≠s
 len:bs.length=Ts.length
 tab:∀ (i:Nat) b T,bs[i]?=some b→Ts[i]?=some T→Jmg w F b T
 few:Ts.length≤6
def Jnr (s:Nat)(sv:Value):Nat→Prop:=fun k=>k=s∨sv.ownBlock=some k
theorem Jfl.stands {w w':World}{F:Nat→Prop}{s d:Nat}{Ts:List TS}{sv:Value}{bs:List Nat}(h:Jfl w F s d Ts sv bs)(D:w.heap.size≤w'.heap.size)(y:∀ k,F k∨Jnr s sv k→k<w.heap.size→w'.heap[k]?=w.heap[k]?):Jfl w' F s d Ts sv bs:=
 ⟨by rw[y s (.inr (.inl rfl)) (Jd h.cells)];exact h.cells,Yd h.own fun g z=>y g (.inr (.inr z)) (Qk h.own z),h.sF,h.gF,h.len,fun i b T C A=>(h.tab i b T C A).stands D fun k hf=>y k (.inl hf),h.few⟩
theorem Jfl.below {w w':World}{F:Nat→Prop}{s d:Nat}{Ts:List TS}{sv:Value}{bs:List Nat}(h:Jfl w F s d Ts sv bs)(y:Below w.heap.size w w'):Jfl w' F s d Ts sv bs:=h.stands y.size fun k _ z=>y.block k z
theorem Jfl.field {w:World}{F:Nat→Prop}{s d:Nat}{Ts:List TS}{sv:Value}{bs:List Nat}(h:Jfl w F s d Ts sv bs):w.cell? ⟨s,0,none⟩=some (.pointer (some ⟨d,0,none⟩))∧w.cell? ⟨s,1,none⟩=some sv:=by
 simp[World.cell?,h.cells]
theorem Jfl.at {w:World}{F:Nat→Prop}{s d:Nat}{Ts:List TS}{sv:Value}{bs:List Nat}(h:Jfl w F s d Ts sv bs){i:Nat}(hi:i<Ts.length) :
  ∃ b o,sv=.slice (some ⟨b,o,none⟩) Ts.length (match sv with|.slice _ _ c=>c|_=>0)∧w.cell? ⟨b,o+i,none⟩=some (.pointer (some ⟨bs[i]'(by rw[h.len];exact hi),0,none⟩))∧Jmg w F (bs[i]'(by rw[h.len];exact hi)) Ts[i]:=by
 have y:i<bs.length:=by rw[h.len];exact hi
 obtain⟨a,cap,D,A⟩:=h.own.cells
 obtain⟨b,o,z,_,C⟩:=A.at (i:=i) (by simpa using y)
 subst D z
 exact⟨b,o,by simp[h.len],by rw[C];simp[Jcp],h.tab i _ _ (by simp[y]) (by simp[hi])⟩
def Ub:List TS→ByteArray→Nat
 |[],_=>0
 |T::Ts,n=>if T.name=n then 0 else Ub Ts n+1
def Jhc (Ts:List TS)(n:ByteArray):Int:=if Ub Ts n<Ts.length then (Ub Ts n:Int)else -1
theorem Kdk (Ts:List TS)(n:ByteArray):Ub Ts n≤Ts.length:=by
 induction Ts with
 |nil=>simp[Ub]
 |cons T Ts y=>simp only[Ub];split<;>simp<;>omega
theorem Kc4 (Ts:List TS)(n:ByteArray):∀ (k:Nat) (y:k<Ts.length),(∀ j (C:j<k),(Ts[j]'(by omega)).name≠n)→Ts[k].name=n→Ub Ts n=k:=by
 induction Ts with
 |nil=>intro k y;simp at y
 |cons T Ts D=>
  intro k y A z
  cases k with
  |zero=>simp at z;simp[Ub,z]
  |succ k=>
   have h0:=A 0 (by omega)
   simp at h0
   simp only[Ub,if_neg h0]
   rw[D k (by simpa using y) (fun j C=>by have:=A (j+1) (by omega);simpa using this) (by simpa using z)]
theorem Jvr (Ts:List TS)(n:ByteArray)(h:∀ j (y:j<Ts.length),Ts[j].name≠n):Ub Ts n=Ts.length:=by
 induction Ts with
 |nil=>rfl
 |cons T Ts z=>
  have h0:=h 0 (by simp)
  simp at h0
  simp only[Ub,if_neg h0,List.length_cons]
  rw[z fun j y=>by have:=h (j+1) (by simp;omega);simpa using this]
theorem Jn4 (M:Nat)(n:ByteArray)(w:World)(F:Nat→Prop)(s d:Nat)(Ts:List TS)(sv:Value)(bs:List Nat)(h:Jfl w F s d Ts sv bs)(hn:w.cell? ⟨M,0,none⟩=some (.string n)) :
  Calls prog 72 #[sv,.func (.func 73) #[] #[.pointer (some ⟨M,0,none⟩)]] w fun e w'=>e=.returned (.int .i64 (Jhc Ts n))∧Below w.heap.size w w':=by
 obtain⟨a,cap,K,Z⟩:=h.own.cells
 rw[Oa6,h.len]at K
 subst K
 have bc:=h.few
 go_enter func72,ntmps72
 go_wp2
 go_loopw [8] (fun i wr=>∃ k:Nat,k≤Ts.length∧i=.int .i64 k∧Below w.heap.size w wr∧Hid (∀ j (y:j<Ts.length),j<k→Ts[j].name≠n)) (fun i _=>Ts.length-(intOf i).toNat)
 case atStart=>exact⟨0,Ob7 _,rfl,Oa5 _ _,fun j _ y=>absurd y (Oe0 _)⟩
 case round=>
  obtain⟨k,bh,rfl,A,D⟩:=hrel
  by_cases E:k<Ts.length
  ·obtain⟨b,o,H,c1,X⟩:=(h.below A).at E
   simp at H
   subst H
   obtain⟨br,bu,bj,bl,hs,O⟩:=X
   obtain⟨bn,_,_,_,_⟩:=O.field
   have bi:=Ja A hn
   by_cases z:Ts[k].name=n
   ·have C:Hid (Ts[k].name=n):=z
    have U:(Ts[k].name.toList==n.toList)=true:=by rw[z];simp
    clear z
    go_wp2
    go_quiet (fail)
    go_wp2
    go_ret
    have hf:=Kc4 Ts n k E (fun j y=>D.out j (by omega) y) C.out
    exact⟨Yp (by unfold Jhc;rw[hf,if_pos E]),Jp A _⟩
   have C:Hid (¬ Ts[k].name=n):=z
   have U:(Ts[k].name.toList==n.toList)=false:=by
    rw[beq_eq_false_iff_ne]
    exact fun R=>z (by rw[←Zf Ts[k].name,R,Zf])
   clear z
   go_wp2
   go_quiet (fail)
   go_wp2
   go_roundw
   case rel=>
    refine⟨k+1,by omega,by go_num,Jp A _,fun j y bf=>?_⟩
    by_cases e:j=k
    ·subst e;exact C.out
    exact D.out j y (by omega)
   case measure=>simp[intOf];omega
  go_wp2
  go_ret
  have hf:=Jvr Ts n (fun j y=>D.out j y (by omega))
  exact⟨Yp (by unfold Jhc;rw[hf,if_neg (Oe3 _)]),A⟩
theorem Jo8 (n:ByteArray)(w:World)(F:Nat→Prop)(s d:Nat)(Ts:List TS)(sv:Value)(bs:List Nat)(h:Jfl w F s d Ts sv bs) :
  Calls prog 56 #[.pointer (some ⟨s,0,none⟩),.string n] w fun e w'=>e=.returned (.int .i64 (Jhc Ts n))∧Below w.heap.size w w':=by
 obtain⟨_,c1⟩:=h.field
 have A:Below w.heap.size w (w.alloc (.cells #[.string n] 9)):=(Oa5 _ _).alloc (Oa2 _) _
 have hf:=Jn4 w.heap.size n _ F s d Ts sv bs (h.below A) (by simp)
 have C:∀ (fn:Fn) (first cap:Array Value) (w:World),(Instr.makeFunc fn first cap).run prog w=.ok (.func fn first cap) w:=fun _ _ _ _=>rfl
 obtain⟨a,cap,y,_⟩:=h.own.cells
 rw[Oa6]at y
 subst y
 have D:=Jd h.cells
 clear h
 go_enter func56,ntmps56
 go_wp2_with (go_at_call 72;refine hf.mono ?_;rintro e w1 ⟨rfl,z⟩)
 go_ret
 exact⟨rfl,Qx z⟩
def Jcg (y:DS)(z:List (List Nat)):DS:=z.foldl Jf4 y
theorem Kjz (y:DS)(z:List (List Nat))(l:List Nat):Jcg y (z++[l])=Jf4 (Jcg y z) l:=by simp[Jcg]
theorem Kjd (s d:Nat)(a:Option Addr)(cap:Nat)(hs:List (Option Addr×Nat))(y:List (List Nat))(w:World)(F G:Nat→Prop)(z:DS)(h:Zb w F d z)(Z:Jaf w G a hs y)(H:∀ k,G k→¬ F k)(bi:w.cell? ⟨s,0,none⟩=some (.pointer (some ⟨d,0,none⟩)))(bj:¬ F s)(bB:y.length≤1000000)(K:∀ l∈y,l.length≤1000000) :
  Calls prog 78 #[.pointer (some ⟨s,0,none⟩),.slice a y.length cap] w fun e w'=>e=.returned (.tuple #[])∧Zb w' F d (Jcg z y)∧Ju F w w':=by
 have M:Hid (∀ l∈y,l.length≤1000000):=K
 clear K
 go_enter func78,ntmps78
 go_wp2
 go_loopw [8] (fun i wr=>∃ k:Nat,k≤y.length∧i=.int .i64 k∧Zb wr F d (Jcg z (y.take k))∧Ju F w wr) (fun i _=>y.length-(intOf i).toNat)
 case atStart=>exact⟨0,Ob7 _,rfl,by simpa [Jcg] using h,Ju.refl _ _⟩
 case round=>
  rename_i i
  obtain⟨k,bA,rfl,D,A⟩:=hrel
  by_cases C:k<y.length
  ·have O:Hid (Jcg z (y.take (k+1))=Jf4 (Jcg z (y.take k)) y[k]):=by
    show Jcg z (y.take (k+1))=_
    rw[Oc4 C,Kjz]
   have bc:=Z.stands A.size fun b E C=>A.block b C (H b E)
   obtain⟨b,o,bl,bn,rfl,bx,bz,bu,R,bf⟩:=bc.at C
   have c0:=A.cell bi bj
   have bh:=Ki0 d bl bn y[k] wr F _ D R (fun b o E=>H b (bf b o E)) (M.out _ (Ob3 C))
   go_wp2_with (go_at_call 106;refine bh.mono ?_;rintro e br ⟨rfl,U,X⟩)
   go_roundw
   case rel=>exact⟨k+1,by omega,by go_num,by rw[O.out];exact U,A.trans X⟩
   case measure=>simp[intOf];omega
  obtain rfl:k=y.length:=by omega
  rw[Of2]at D
  go_wp2
  go_end0
  exact⟨rfl,D,A⟩
def Jq (A:DS):List (List UInt8)→DS×List (List Nat)×Option Bool
 |[]=>(A,[],none)
 |t::z=>match Uy A (Qu t)with
  |(y,l,none)=>((Jq y z).1,l::(Jq y z).2.1,(Jq y z).2.2)
  |(y,l,some x)=>(Jf4 y l,[],some x)
def Kit (y:List (List Nat))(r:DS×List (List Nat)×Option Bool):DS×List (List Nat)×Option Bool:=(r.1,y++r.2.1,r.2.2)
theorem Kjf {A:List (List Nat)}{y z:DS}{t:List UInt8}{C:List (List UInt8)}{l:List Nat}(h:Uy y (Qu t)=(z,l,none)):Kit A (Jq y (t::C))=Kit (A++[l]) (Jq z C):=by
 simp[Kit,Jq,h]
theorem Kjv {A:List (List Nat)}{y z:DS}{t:List UInt8}{C:List (List UInt8)}{l:List Nat}{x:Bool}(h:Uy y (Qu t)=(z,l,some x)):Kit A (Jq y (t::C))=(Jf4 z l,A,some x):=by
 simp[Kit,Jq,h]
structure Kiu (w0:World) (F0:Nat→Prop) (w:World) (d:Nat) (E:DS) (sv:Value) (hs:List (Option Addr×Nat)) (ls:List (List Nat)) (FD:Nat→Prop):Prop where
 disk:Zb w FD d E
 from_:∀ k,FD k→F0 k∨w0.heap.size≤k
 lt:∀ k,FD k→k<w.heap.size
 own:Jo w w0.heap.size 22 sv (List.zipWith Kh8 hs ls)
 len:hs.length=ls.length
 segs:∀ (i:Nat) h l,hs[i]?=some h→ls[i]?=some l→Uh w h.1 (l.map nv)
 new:∀ (i:Nat) h,hs[i]?=some h→∀ b o,h.1=some ⟨b,o,none⟩→w0.heap.size≤b∧b<w.heap.size∧¬ FD b∧sv.ownBlock≠some b
 apart:∀ g,sv.ownBlock=some g→¬ FD g
 keep:Ju F0 w0 w
theorem Kiu.stand {A w w':World}{C FD:Nat→Prop}{d:Nat}{H:DS}{sv:Value}{hs:List (Option Addr×Nat)}{z:List (List Nat)}(h:Kiu A C w d H sv hs z FD)(y:Ju FD w w') :
  Jo w' A.heap.size 22 sv (List.zipWith Kh8 hs z)∧Ju C A w'∧(∀ (i:Nat) x l,hs[i]?=some x→z[i]?=some l→Uh w' x.1 (l.map nv)):=
 ⟨Yd h.own fun g D=>y.block g (Qk h.own D) (h.apart g D),h.keep.trans' y fun k R hf=>(h.from_ k hf).resolve_right (by omega),
  fun i x l E M=>(h.segs i x l E M).of_block y.size fun b o K O=>y.block b O (h.new i x E b o K).2.2.1⟩
theorem Kjb (hs:List (Option Addr×Nat))(y:List (List Nat))(h:hs.length=y.length)(x:Option Addr×Nat)(l:List Nat):List.zipWith Kh8 (hs++[x]) (y++[l])=List.zipWith Kh8 hs y++[Kh8 x l]:=by
 rw[Oo5 h];rfl
theorem Kec {α:Type}{xs:List α}{x z:α}{i:Nat}(h:(xs++[x])[i]?=some z):(i<xs.length∧xs[i]?=some z)∨(i=xs.length∧x=z):=by
 rcases Oc1 i xs.length with y|y
 ·rw[Ob0 y]at h
  exact .inl ⟨y,h⟩
 rw[Ob6 y]at h
 rcases Oc1 (i-xs.length) 1 with A|A
 ·have:i-xs.length=0:=by omega
  rw[this]at h
  simp at h
  exact .inr ⟨by omega,h⟩
 rw[Ob4 (by simpa using A)]at h
 simp at h
theorem Kiu.more {bl wr y bc:World}{br FD H:Nat→Prop}{d:Nat}{bH bn:DS}{sv sv':Value}{hs:List (Option Addr×Nat)}{Z:List (List Nat)}(h:Kiu bl br wr d bH sv hs Z FD)(bB:Ju FD wr y)(bJ:Zb y H d bn)(R:∀ k,H k→FD k∨wr.heap.size≤k)(bC:∀ k,H k→k<y.heap.size)
  (C:Option Addr) (c1:Nat) (l:List Nat) (bj:Jo y wr.heap.size 3 (.slice C l.length c1) (l.map nv)) (bI:∀ g,(Value.slice C l.length c1).ownBlock=some g→¬ H g) (o:Obj)
  (bL:Jo bc bl.heap.size 22 sv' (List.zipWith Kh8 hs Z++[.slice C l.length c1])) (z:(y.alloc o).grownBy bc sv.ownBlock) (bu:sv'.ownBlock=sv.ownBlock∨sv'.ownBlock=some (y.alloc o).heap.size) :
  Kiu bl br bc d bn sv' (hs++[(C,c1)]) (Z++[l]) H:=by
 have bN:=z.size
 rw[Oa7]at bN
 have bT:=bB.size
 have bS:=h.keep.size
 have U:∀ g,sv.ownBlock=some g→g<wr.heap.size:=fun g z=>Qk h.own z
 have X:∀ k,k<y.heap.size→sv.ownBlock≠some k→bc.heap[k]?=y.heap[k]?:=fun k D bi=>(z.block k (by simp;omega) (Oc5 bi)).trans (Oa9 y o k D)
 have bD:∀ b,b<y.heap.size→sv.ownBlock≠some b→sv'.ownBlock≠some b:=fun b O bi e=>by
  rcases bu with bf|bf
  ·exact bi (bf▸e)
  rw[bf]at e
  simp at e
  omega
 have bG:∀ g,(Value.slice C l.length c1).ownBlock=some g→wr.heap.size≤g∧g<y.heap.size:=fun g z=>Je bj z
 have bE:∀ b o,C=some ⟨b,o,none⟩→(Value.slice C l.length c1).ownBlock=some b:=(Jji bj).2
 obtain⟨_,E,bM⟩:=h.stand bB
 refine⟨bJ.stands fun k D bK=>X k bK fun e=>?_,fun k D=>?_,fun k D=>Oc2 (bC k D) (by omega),?_,by simp[h.len],?_,?_,fun g K=>?_,?_⟩
 ·rcases R k D with hf|hf
  ·exact h.apart k e hf
  have:=U k e;omega
 ·rcases R k D with hf|hf
  ·exact h.from_ k hf
  exact .inr (by omega)
 ·rw[Kjb hs Z h.len];exact bL
 ·intro i x bO A M
  rcases Kec A with⟨hi,A⟩|⟨hi,rfl⟩
  ·rw[Ob0 (by rw[←h.len];exact hi)]at M
   exact(bM i x bO A M).of_block (by omega) fun b o O bh=>X b bh (h.new i x A b o O).2.2.2
  rw[hi,h.len,Ob6 (Oa2 _)]at M
  simp at M
  subst M
  exact(Jji bj).1.of_block (by omega) fun b o O bh=>X b bh fun e=>by have:=U b e;have:=(bG b (bE b o O)).1;omega
 ·intro i x A b o bx
  rcases Kec A with⟨hi,A⟩|⟨hi,rfl⟩
  ·obtain⟨bP,bU,bQ,bR⟩:=h.new i x A b o bx
   refine⟨bP,by omega,fun hf=>?_,bD b (by omega) bR⟩
   rcases R b hf with hf|hf
   ·exact bQ hf
   omega
  have bz:=bE b o bx
  obtain⟨g1,g2⟩:=bG b bz
  exact⟨by omega,by omega,bI b bz,bD b g2 fun e=>by have:=U b e;omega⟩
 ·intro hf
  rcases bu with e|e
  ·rw[e]at K
   rcases R g hf with hf|hf
   ·exact h.apart g K hf
   have:=U g K;omega
  rw[e]at K
  simp at K
  have:=bC g hf
  omega
 refine⟨z.os.trans E.os,z.tape.trans E.tape,z.output.trans E.output,Ob2 E.size (by omega),fun k bA hn=>?_⟩
 refine(X k (Oc2 bA E.size) fun e=>?_).trans (E.block k bA hn)
 have:=(Je h.own e).1
 omega
def Jxo (w:World)(F:Nat→Prop)(d:Nat)(q wr:Addr)(r:DS×List (List Nat)×Option Bool)(e:Ending)(w':World):Prop:=
 Ju F w w'∧∃ FD:Nat→Prop,Zb w' FD d (match r.2.2 with|none=>r.1|some _=>Jcg r.1 r.2.1)∧(∀ k,FD k→F k∨w.heap.size≤k)∧(∀ k,FD k→k<w'.heap.size) ∧
  match r.2.2 with
  |none=>∃ y z hs,e=.returned (.tuple #[.slice y r.2.1.length z,.nilIface])∧Jaf w' (fun k=>w.heap.size≤k∧k<w'.heap.size∧¬ FD k) y hs r.2.1∧r.2.1.length≤z
  |some x=>∃ b,e=.returned (.tuple #[.slice none 0 0,.iface 168 (.pointer (some ⟨b,0,none⟩))])∧w.heap.size≤b∧Yu w' (.iface 168 (.pointer (some ⟨b,0,none⟩))) (if x then q else wr) none (some (-1))∧¬ FD b
theorem Kku {w:World}{B:Nat}{e:TypeId}{a:Option Addr}{n c:Nat}{xs:List Value}(h:Jo w B e (.slice a n c) xs):n≤c:=by
 rcases h.2 with⟨y,h0⟩|⟨g,cap,A,y,_,_,z,_⟩
 ·cases y;exact Oa2 _
 cases y;exact z
theorem Kiu.done {C w:World}{E FD:Nat→Prop}{d:Nat}{D:DS}{a:Option Addr}{n c:Nat}{hs:List (Option Addr×Nat)}{A:List (List Nat)}(h:Kiu C E w d D (.slice a n c) hs A FD):Jaf w (fun k=>C.heap.size≤k∧k<w.heap.size∧¬ FD k) a hs A:=
 ⟨h.len,(Jji h.own).1,h.segs,fun b o y=>⟨(Je h.own ((Jji h.own).2 b o y)).1,(Je h.own ((Jji h.own).2 b o y)).2,h.apart b ((Jji h.own).2 b o y)⟩,fun i x z b o y=>⟨(h.new i x z b o y).1,(h.new i x z b o y).2.1,(h.new i x z b o y).2.2.1⟩⟩
theorem Jzf:(prog.info? 22).map (fun i=>(i.zero,i.size,i.bytes))=some (some (.slice none 0 0),1,24):=by kernel_rfl
theorem Ul {w:World}{D:Array Oper}{rest:List Oper}{o:Oper}{a:Act}{Q:Exit→Act→World→Prop}(U:o.guard=none)(s x:Operand)(t e:TypeId)(E:Value)(z:Nat)
  (X:(prog.info? e).map (fun i=>(i.zero,i.size,i.bytes))=some (some E,1,z)) (br:E.cells.size=1) (R:z≤64) (bi:prog.underlying t=some (.slice e))
  (bc:o.op=.call {callee:=.builtin .append,args:=#[s,x],argTypes:=#[t,t]})
  (B:Nat) (sv:Value) (xs:List Value) (hs:a.eval s=sv) (bf:Jo w B e sv xs)
  (A:Addr) (c:Nat) (y:List Value) (bl:a.eval x=.slice (some A) y.length c) (bj:∀ j u,y[j]?=some u→w.cell? (A.add j)=some u) (C:∀ u∈y,u.oneCell'=true) (Z:xs.length+y.length≤1000000) (M:B≤w.heap.size)
  (h:∀ sv' w',Jo w' B e sv' (xs++y)→w.grownBy w' sv.ownBlock→(sv'.ownBlock=sv.ownBlock∨sv'.ownBlock=some w.heap.size)→wpList prog D Q rest (a.put o.dst sv') w') :
  wpList prog D Q (o::rest) a w:=by
 obtain⟨i,hi,bn,bh,O⟩:=info_parts X
 refine wpList_append_own_at w U s x t bc B e i _ 1 z bi hi bn bh O br (by decide) sv xs.length xs hs bf A y.length c y bl (by simp) bj C ?_ ?_ M ?_
 ·unfold maxLen;omega
 ·have:(xs.length+y.length)*z≤1000000*64:=Ol5 Z R
  omega
 intro bu w' C H _ K
 refine h bu w' ?_ H K
 unfold Jo
 simpa using C
theorem Juw (y:DS)(i:Nat):(Jae y i).pages.length=y.pages.length:=by unfold Jae;split<;>simp
theorem Jrz (l:List Nat):∀ y:DS,(Jf4 y l).pages.length=y.pages.length:=by
 induction l with
 |nil=>intro y;rfl
 |cons i l z=>intro y;show (Jf4 (Jae y i) l).pages.length=_;rw[z,Juw]
theorem Jt4 (z:List (List Nat)):∀ y:DS,(Jcg y z).pages.length=y.pages.length:=by
 induction z with
 |nil=>intro y;rfl
 |cons l z A=>intro y;show (Jcg (Jf4 y l) z).pages.length=_;rw[A,Jrz]
theorem Jrh:∀ (ps:List (List UInt8))(y:DS),(Uy y ps).1.pages.length≤y.pages.length+ps.length∧(Uy y ps).2.1.length≤ps.length
 |[],y=>by simp[Uy]
 |p::ps,y=>by
  unfold Uy
  split
  ·simp
  split
  ·simp[Jvn]
  have:=Jrh ps (Zn y p)
  have z:=Jxm y p
  simp
  omega
def Jch (y:List (List UInt8)):Nat:=(y.map fun t=>(Qu t).length).sum
theorem Ja1 (t:List UInt8)(y:List (List UInt8)):Jch (t::y)=(Qu t).length+Jch y:=by simp[Jch]
def tv (t:List UInt8):Value:=.string (Qw t)
theorem Kks (s d:Nat)(a:Option Addr)(cap:Nat)(y:List (List UInt8))(w:World)(F:Nat→Prop)(D:DS)(h:Zb w F d D)(hF:∀ k,F k→k<w.heap.size)(R:Uh w a (y.map tv))(bX:∀ b o,a=some ⟨b,o,none⟩→¬ F b)(bA:w.cell? ⟨s,0,none⟩=some (.pointer (some ⟨d,0,none⟩)))(bC:¬ F s)(q bE:Addr)
  (Z:w.cell? ⟨6,0,none⟩=some (.iface 443 (.pointer (some q)))) (bQ:w.cell? ⟨7,0,none⟩=some (.iface 443 (.pointer (some bE)))) (bI:¬ F 6) (bJ:¬ F 7) (cl:D.pages.length+Jch y≤800000) (cA:y.length≤100000) (bO:∀ t∈y,t.length≤1000000) :
  Calls prog 58 #[.pointer (some ⟨s,0,none⟩),.slice a y.length cap] w fun e w'=>Jxo w F d q bE (Jq D y) e w':=by
 have bS:Hid (∀ t∈y,t.length≤1000000):=bO
 clear bO
 go_enter func58,ntmps58
 go_wp2
 go_loopw [6,13] (fun sv i wr=>∃ (k:Nat) (C:DS) (hs:List (Option Addr×Nat)) (z:List (List Nat)) (FD:Nat→Prop),k≤y.length∧i=.int .i64 k∧z.length≤k∧C.pages.length+Jch (y.drop k)≤800000∧Kiu w F wr d C sv hs z FD∧Hid ((∀ l∈z,l.length≤1000000)∧Jq D y=Kit z (Jq C (y.drop k)))) (fun _ i _=>y.length-(intOf i).toNat)
 case atStart=>exact⟨0,D,[],[],F,Ob7 _,rfl,Oa2 _,by simpa using cl,⟨h,fun k H=>.inl H,hF,Jo.nil _ _ _,rfl,fun i h l hi=>by simp at hi,fun i h hi=>by simp at hi,fun g cc=>by simp[Value.ownBlock]at cc,Ju.refl _ _⟩,by show _∧_;exact⟨by simp,by simp[Kit]⟩⟩
 case round=>
  rename_i sv i
  obtain⟨k,C,hs,z,FD,H,rfl,cz,cb,hL,E⟩:=hrel
  by_cases bl:k<y.length
  ·have U:Hid (y.drop k=y[k]::y.drop (k+1)):=Oi1 bl
   rw[U.out,Ja1]at cb
   rcases R with R|⟨b,o,rfl,cy,R⟩
   ·simp at R;subst R;simp at bl
   have cx:wr.cell? ⟨b,o+k,none⟩=some (.string (Qw y[k])):=hL.keep.cell (R k _ (by simp[bl];rfl)) (bX b o rfl)
   have c0:=hL.keep.cell bA bC
   have bz:=Kkq d y[k] wr FD C hL.disk hL.lt q bE (hL.keep.cell Z bI) (hL.keep.cell bQ bJ) (fun hf=>?_) (fun hf=>?_) (by omega) (bS.out _ (Ob3 bl))
   ·obtain⟨bG,bH,bc,_⟩:=hL.own.cells
    have bf:(List.zipWith Kh8 hs z).length=z.length:=by simp[hL.len]
    rw[bf]at bc
    have bT:Hid ((List.zipWith Kh8 hs z).length=z.length):=bf
    clear bf
    subst bc
    have bK:∀ (A:Nat→Prop),(∀ k,A k→FD k∨wr.heap.size≤k)→∀ k,k<w.heap.size→A k→F k:=fun A bj k H hf=>by
     have:=hL.keep.size
     rcases bj k hf with h|h
     ·exact(hL.from_ k h).resolve_right (by omega)
     omega
    have bh:=bK
    replace bh:Hid (∀ (A:Nat→Prop),(∀ k,A k→FD k∨wr.heap.size≤k)→∀ k,k<w.heap.size→A k→F k):=bh
    clear bK
    have M:Hid (Kiu w F wr d C (.slice bG z.length bH) hs z FD):=hL
    have cn:=hL.keep.size
    clear hL
    rcases hr:Uy C (Qu y[k])with⟨E1,l,r⟩
    have bL:=Jrh (Qu y[k]) C
    rw[hr]at bz bL
    simp only at bL
    cases r with
    |none=>
     have X:Hid ((∀ bD∈z++[l],bD.length≤1000000)∧Jq D y=Kit (z++[l]) (Jq E1 (y.drop (k+1)))):=by
      refine⟨fun bD ch=>?_,by rw[E.out.2,U.out,Kjf hr]⟩
      rcases Od2.1 ch with h|h
      ·exact E.out.1 bD h
      simp at h;subst h;omega
     clear E U hr
     generalize y[k]=tk at *
     go_wp2_with (first|(go_at_call 77;refine bz.mono ?_;rintro e bi ⟨K,A,br,O,bx,cB,rfl,bN,bW⟩;obtain⟨bn,c1,bB,_⟩:=bN.cells;rw[Oa6]at bB;subst bB;have bB:=K.size)|(at_builtin;go_must (refine Ul (by rfl) _ _ 97 22 _ 24 Jzf (by rfl) (by decide) (by kernel_rfl) (by rfl) w.heap.size _ _ (by rfl) (Jo.alloc (M.out.stand K).1 _) ⟨bi.heap.size,0,none⟩ 1 [.slice bn l.length c1] (by rfl) (by exact Ua bi _ _) (by intro u bP;simp at bP;subst bP;rfl) (by rw[bT.out];simp only[List.length_cons,List.length_nil];omega) (by simp;omega) ?_);intro sv' cC bj bU bV;obtain⟨cu,cv,rfl,_⟩:=bj.cells))
     go_roundw
     case rel=>
      have Z:=M.out.more K br O bx bn c1 l bN bW _ bj bU bV
      simp only[Oa8,Oj8,List.length_cons,List.length_nil,Od0]at Z
      exact⟨k+1,E1,_,_,_,by omega,by go_num,by simp;omega,by omega,Z,X.out⟩
     case measure=>simp[intOf];omega
    |some x=>
     have X:Hid (Jq D y=(Jf4 E1 l,z,some x)):=by show _=_;rw[E.out.2,U.out,Kjv hr]
     have bR:Hid (∀ l∈z,l.length≤1000000):=E.out.1
     clear E U hr
     generalize y[k]=tk at *
     go_wp2_with (first|(go_at_call 77;refine bz.mono ?_;rintro e bi ⟨K,A,br,O,bx,b1,rfl,bY,bZ,bM⟩;have cj:=M.out.done.stands K.size (fun k H cf=>K.block k cf H.2.2);have ci:=Kjd s d bG bH hs z bi A _ _ br cj (fun k H hf=>(O k hf).elim H.2.2 (fun h=>absurd H.2.1 (by omega))) (K.cell c0 (fun hf=>(M.out.from_ s hf).elim bC (fun h=>by have:=Jm bA;simp at this;omega))) (fun hf=>bC (bh.out A O s (Jm bA) hf)) (by omega) bR.out)|(go_at_call 78;refine ci.mono ?_;rintro e cr ⟨rfl,ca,bu⟩))
     go_ret2
     rw[X.out]
     exact⟨(M.out.stand K).2.1.trans' bu (bh.out A O),A,ca,fun k hf=>(O k hf).elim (M.out.from_ k) fun h=>.inr (by omega),fun k hf=>Oc2 (bx k hf) bu.size,b1,rfl,Ob2 cn bY,Ki6 bZ bu bM,bM⟩
   ·exact(hL.from_ _ hf).elim bI fun h=>by have:=Jm Z;simp at this;omega
   exact(hL.from_ _ hf).elim bJ fun h=>by have:=Jm bQ;simp at this;omega
  obtain rfl:k=y.length:=by omega
  obtain⟨bn,c1,bc,_⟩:=hL.own.cells
  have bf:(List.zipWith Kh8 hs z).length=z.length:=by simp[hL.len]
  rw[bf]at bc
  subst bc
  have X:Hid (Jq D y=(C,z,none)):=by show _=_;rw[E.out.2,List.drop_length];simp[Kit,Jq]
  clear E
  go_wp2
  go_ret2
  rw[X.out]
  exact⟨hL.keep,FD,hL.disk,hL.from_,hL.lt,_,_,hs,rfl,hL.done,Kku hL.own⟩
end Go.Proofs.YtjjdldddcegjiaaGreatDoor
namespace Go.Proofs.YtjjdldddcegjiaaGreatDoor
open Go.RowKit
theorem Jyf : (Tryz.prog.fieldsOf 40).toList.map (fun f => (f.name, f.type, f.offset)) = [("Code", 38, 0), ("Node", 3, 1), ("Row", 3, 2), ("Column", 3, 3), ("Page", 3, 4)] := by kernel_rfl
theorem Kef:Tryz.prog.underlying 40=some (.struct (Tryz.prog.fieldsOf 40)):=by kernel_rfl
theorem Kh3:Tryz.prog.stoodInHeld 40=false:=by kernel_rfl
theorem Js7 (w:World)(c:Int):(Op.equal 40 (Jb6 c) (Jb6 c)).run Tryz.prog w=.ok true w:=by
 rw[Op.equal,Op.maxDepth,run_equalIn_struct w 9999 40 _ _ Kef Kh3]
 have h:=Jyf
 generalize (Tryz.prog.fieldsOf 40).toList=y at h
 rcases y with _|⟨bh,_|⟨bi,_|⟨bj,_|⟨bl,_|⟨bn,_|⟨br,y⟩⟩⟩⟩⟩⟩
 ·simp at h
 ·simp at h
 ·simp at h
 ·simp at h
 ·simp at h
 ·simp at h
  obtain⟨⟨z,A,C⟩,⟨D,E,H⟩,⟨K,M,O⟩,⟨R,U,X⟩,Z,bc,bf⟩:=h
  simp[Op.eqFields,z,A,C,D,E,H,K,M,O,R,U,X,Z,bc,bf,part,sizeOf,go_sem]
 simp at h
theorem Jjl (c:Int)(w:World):(binOp .eql 40 (Jb6 c) (Jb6 c)).run Tryz.prog w=.ok (.bool true) w:=by
 simp[binOp,Js7]
end Go.Proofs.YtjjdldddcegjiaaGreatDoor
