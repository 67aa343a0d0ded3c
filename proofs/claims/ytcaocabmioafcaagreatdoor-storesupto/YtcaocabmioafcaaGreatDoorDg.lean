/- The disk in memory: its fields, its list of pages, the pages themselves; what stands when something else turns. -/
import Derived.Test.YtcaocabmioafcaaGreatDoorDb
import Derived.Test.YtcaocabmioafcaaGreatDoorEw
set_option maxHeartbeats 2000000
set_option maxRecDepth 100000
namespace Go.Proofs.YtcaocabmioafcaaGreatDoor
section
open Go.RowKit Tryz
structure Ju (F:Nat→Prop) (w w':World):Prop where
 os:w'.os=w.os
 tape:w'.tape=w.tape
 output:w'.output=w.output
 size:w.heap.size≤w'.heap.size
 block:∀ k,k<w.heap.size→¬ F k→w'.heap[k]?=w.heap[k]?
theorem Ju.refl (F:Nat→Prop)(w:World):Ju F w w:=⟨rfl,rfl,rfl,Oa2 _,fun _ _ _=>rfl⟩
theorem Ju.trans {F:Nat→Prop}{a b c:World}(h:Ju F a b)(k:Ju F b c):Ju F a c:=
 ⟨k.os.trans h.os,k.tape.trans h.tape,k.output.trans h.output,Ob2 h.size k.size,fun i hi A=>(k.block i (Oc2 hi h.size) A).trans (h.block i hi A)⟩
theorem Ju.trans' {F G:Nat→Prop}{a b c:World}(h:Ju F a b)(k:Ju G b c)(H:∀ i,i<a.heap.size→G i→F i):Ju F a c:=
 ⟨k.os.trans h.os,k.tape.trans h.tape,k.output.trans h.output,Ob2 h.size k.size,fun i hi A=>(k.block i (Oc2 hi h.size) (fun I=>A (H i hi I))).trans (h.block i hi A)⟩
theorem Ju.mono {F G:Nat→Prop}{w w':World}(h:Ju F w w')(A:∀ k,k<w.heap.size→F k→G k):Ju G w w':=
 ⟨h.os,h.tape,h.output,h.size,fun k hk I=>h.block k hk (fun H=>I (A k hk H))⟩
theorem Ju.of_below {F:Nat→Prop}{w w':World}(h:Below w.heap.size w w'):Ju F w w':=⟨h.os,h.tape,h.output,h.size,fun k hk _=>h.block k hk⟩
theorem Ju.alloc {F:Nat→Prop}{w w':World}(h:Ju F w w')(o:Obj):Ju F w (w'.alloc o):=h.trans (.of_below ((Oa5 _ _).alloc (Oa2 _) _))
theorem Ju.set {F:Nat→Prop}{w w':World}(h:Ju F w w'){b:Nat}(A:F b)(i:Nat)(v:Value):Ju F w (w'.setCell ⟨b,i,none⟩ v):=
 h.trans ⟨rfl,rfl,rfl,by simp[World.setCell],fun k _ H=>Oa4 _ _ _ _ (fun e=>H (by rw[e];exact A))⟩
theorem Ju.below {F:Nat→Prop}{w w':World}(h:Ju F w w'){B:Nat}(hF:∀ k,k<B→¬ F k)(A:B≤w.heap.size):Below B w w':=⟨h.os,h.tape,h.output,h.size,fun k hk=>h.block k (by omega) (hF k hk)⟩
theorem Ju.cell {F:Nat→Prop}{w w':World}(h:Ju F w w'){b o:Nat}{v:Value}(A:w.cell? ⟨b,o,none⟩=some v)(H:¬ F b):w'.cell? ⟨b,o,none⟩=some v:=by
 rw[Oc3 (w:=w) (h.block b (Jm A) H)];exact A
theorem Ju.drewN {F:Nat→Prop}{w w':World}(h:Ju F w w')(n:Nat):Ju F w (w'.drewN n):=⟨h.os,h.tape,h.output,h.size,h.block⟩
def up (F:Nat→Prop)(w:World):Nat→Prop:=fun k=>F k∨w.heap.size≤k
theorem Ju.down {F:Nat→Prop}{w w':World}(h:Ju (up F w) w w'):Ju F w w':=h.mono fun k hk A=>A.elim id (fun h=>absurd hk (by omega))
structure DS where
 quota:Int
 fail:Int
 writes:Int
 lowest:Nat
 pages:List (Option (List UInt8))
def Js (l:List (Option (List UInt8))):Nat:=l.countP Option.isSome
theorem Kad (l:List (Option (List UInt8))):Js l≤l.length:=List.countP_le_length
def Kew:Option Nat→Value
 |none=>.pointer none
 |some b=>.pointer (some ⟨b,0,none⟩)
structure Jf1 (w:World) (F:Nat→Prop) (d:Nat) (D:DS) (sv:Value) (ps:List (Option Nat)):Prop where
 cells:w.heap[d]?=some (.cells #[.int .i64 D.quota,.int .i64 D.fail,.int .i64 D.writes,.int .i64 ((Js D.pages:Nat):Int),.int .i64 ((D.lowest:Nat):Int),sv] 140 (0,0))
 own:Jo w 0 167 sv (ps.map Kew)
 ownF:∀ g,sv.ownBlock=some g→F g∧g≠d
 dF:F d
 len:ps.length=D.pages.length
 page:∀ (i b:Nat),ps[i]?=some (some b)→F b∧b≠d∧sv.ownBlock≠some b∧∃ p,D.pages[i]?=some (some p)∧Jdp w b p
 vacant:∀ i:Nat,ps[i]?=some Option.none→D.pages[i]?=some Option.none
 inj:∀ (i j b:Nat),ps[i]?=some (some b)→ps[j]?=some (some b)→i=j
 low:D.lowest≤D.pages.length
 full:∀ i:Nat,i<D.lowest→∃ p,D.pages[i]?=some (some p)
 small:D.pages.length≤960000
def Zb (w:World)(F:Nat→Prop)(d:Nat)(D:DS):Prop:=∃ sv A,Jf1 w F d D sv A
theorem Qk {w:World}{B:Nat}{e:TypeId}{sv:Value}{xs:List Value}{g:Nat}(h:Jo w B e sv xs)(A:sv.ownBlock=some g):g<w.heap.size:=by
 rcases h.2 with⟨H,_⟩|⟨K,cap,J,H,_,I,_⟩
 ·subst H;simp[Value.ownBlock]at A
 subst H
 simp[Value.ownBlock]at A
 subst A
 exact Jd I
theorem Yd {w w':World}{B:Nat}{e:TypeId}{sv:Value}{xs:List Value}(h:Jo w B e sv xs)(hk:∀ g,sv.ownBlock=some g→w'.heap[g]?=w.heap[g]?):Jo w' B e sv xs:=by
 refine⟨h.1,?_⟩
 rcases h.2 with h|⟨A,cap,I,H,J,K,L⟩
 ·exact .inl h
 refine .inr ⟨A,cap,I,H,J,?_,L⟩
 rw[hk A (by subst H;simp[Value.ownBlock])]
 exact K
theorem Jf1.stands {w w':World}{F:Nat→Prop}{d:Nat}{D:DS}{sv:Value}{I:List (Option Nat)}(h:Jf1 w F d D sv I)(hk:∀ k,F k→k<w.heap.size→w'.heap[k]?=w.heap[k]?):Jf1 w' F d D sv I:=
 ⟨by rw[hk d h.dF (Jd h.cells)];exact h.cells,Yd h.own fun g A=>hk g (h.ownF g A).1 (Qk h.own A),h.ownF,h.dF,h.len,
  fun i b hi=>by obtain⟨f,n1,K,p,J,H⟩:=h.page i b hi;exact⟨f,n1,K,p,J,H.of_block (hk b f H.2.lt)⟩,h.vacant,h.inj,h.low,h.full,h.small⟩
theorem Zb.stands {w w':World}{F:Nat→Prop}{d:Nat}{D:DS}(h:Zb w F d D)(hk:∀ k,F k→k<w.heap.size→w'.heap[k]?=w.heap[k]?):Zb w' F d D:=by
 obtain⟨sv,A,h⟩:=h
 exact⟨sv,A,h.stands hk⟩
theorem Jf1.below {w w':World}{F:Nat→Prop}{d:Nat}{D:DS}{sv:Value}{A:List (Option Nat)}(h:Jf1 w F d D sv A)(H:Below w.heap.size w w'):Jf1 w' F d D sv A:=h.stands fun k _ hk=>H.block k hk
theorem Zb.below {w w':World}{F:Nat→Prop}{d:Nat}{D:DS}(h:Zb w F d D)(A:Below w.heap.size w w'):Zb w' F d D:=h.stands fun k _ hk=>A.block k hk
theorem Jf1.mono {w:World}{F G:Nat→Prop}{d:Nat}{D:DS}{sv:Value}{J:List (Option Nat)}(h:Jf1 w F d D sv J)(A:∀ k,k<w.heap.size→F k→G k):Jf1 w G d D sv J:=
 ⟨h.cells,h.own,fun g H=>⟨A g (Qk h.own H) (h.ownF g H).1,(h.ownF g H).2⟩,A d (Jd h.cells) h.dF,h.len,
  fun i b hi=>by obtain⟨f,n1,L,p,K,I⟩:=h.page i b hi;exact⟨A b I.2.lt f,n1,L,p,K,I⟩,h.vacant,h.inj,h.low,h.full,h.small⟩
theorem Zb.mono {w:World}{F G:Nat→Prop}{d:Nat}{D:DS}(h:Zb w F d D)(A:∀ k,k<w.heap.size→F k→G k):Zb w G d D:=by
 obtain⟨sv,H,h⟩:=h
 exact⟨sv,H,h.mono A⟩
theorem Jf1.field {w:World}{F:Nat→Prop}{d:Nat}{D:DS}{sv:Value}{A:List (Option Nat)}(h:Jf1 w F d D sv A) :
  w.cell? ⟨d,0,.none⟩=some (.int .i64 D.quota)∧w.cell? ⟨d,1,.none⟩=some (.int .i64 D.fail)∧w.cell? ⟨d,2,.none⟩=some (.int .i64 D.writes)∧w.cell? ⟨d,3,.none⟩=some (.int .i64 ((Js D.pages:Nat):Int)) ∧
   w.cell? ⟨d,4,.none⟩=some (.int .i64 ((D.lowest:Nat):Int))∧w.cell? ⟨d,5,.none⟩=some sv:=by
 simp[World.cell?,h.cells]
theorem Jf1.thaw {w:World}{F:Nat→Prop}{d:Nat}{D:DS}{sv:Value}{A:List (Option Nat)}(h:Jf1 w F d D sv A)(i:Nat):w.frozen? ⟨d,i,.none⟩=false:=by simp[World.frozen?,h.cells]
theorem Ji8 {w:World}{B:Nat}{e:TypeId}{sv:Value}{xs:List Value}(h:Jo w B e sv xs):∃ a cap,sv=.slice a xs.length cap∧∀ i x,xs[i]?=some x→∃ g,a=some ⟨g,0,none⟩∧sv.ownBlock=some g∧w.cell? ⟨g,i,none⟩=some x∧w.frozen? ⟨g,i,none⟩=false:=by
 rcases h.2 with⟨H,h0⟩|⟨g,cap,L,H,_,J,M,_,N,K⟩
 ·refine⟨none,0,by rw[H,h0],fun i x A=>?_⟩
  rw[Od3.1 h0]at A
  simp at A
 refine⟨some ⟨g,0,none⟩,cap,H,fun i x A=>⟨g,rfl,by subst H;simp[Value.ownBlock],?_,by simp[World.frozen?,J]⟩⟩
 have hi:i<xs.length:=by
  rcases Oc1 i xs.length with I|I
  ·exact I
  rw[Ob4 I]at A;simp at A
 rw[←K]at A
 rw[Nat.mul_one,Oh3 hi,Oe6]at A
 simp[World.cell?,J,A]
def Jai (l:List (Option (List UInt8)))(page:Int):Bool:=decide (0≤page∧page<l.length)&&(l.getD page.toNat .none).isSome
theorem Jf1.list {w:World}{F:Nat→Prop}{d:Nat}{D:DS}{sv:Value}{A:List (Option Nat)}(h:Jf1 w F d D sv A) :
  ∃ a cap,sv=.slice a A.length cap∧∀ (i:Nat) (hi:i<A.length),∃ g,a=some ⟨g,0,none⟩∧F g∧g≠d∧w.cell? ⟨g,i,none⟩=some (Kew A[i])∧w.frozen? ⟨g,i,none⟩=false:=by
 obtain⟨a,cap,I,M⟩:=Ji8 h.own
 rw[Oa6]at I
 refine⟨a,cap,I,fun i hi=>?_⟩
 obtain⟨g,J,H,K,L⟩:=M i (Kew A[i]) (by simp[hi])
 exact⟨g,J,(h.ownF g H).1,(h.ownF g H).2,K,L⟩
theorem Jf1.which {w:World}{F:Nat→Prop}{d:Nat}{D:DS}{sv:Value}{A:List (Option Nat)}(h:Jf1 w F d D sv A)(i:Nat)(hi:i<A.length):(D.pages.getD i none).isSome=A[i].isSome:=by
 cases hq:A[i]with
 |none=>rw[Oa0,h.vacant i (by rw[←hq];simp[hi])];rfl
 |some b=>obtain⟨_,_,_,p,H,_⟩:=h.page i b (by rw[←hq];simp[hi]);rw[Oa0,H];rfl
theorem Jwv (d:Nat)(page:Int)(w:World)(F:Nat→Prop)(D:DS)(h:Zb w F d D) :
  Calls prog 80 #[.pointer (some ⟨d,0,none⟩),.int .i64 page] w fun e w'=>e=.returned (.bool (Jai D.pages page))∧w'=w:=by
 obtain⟨sv,I,h⟩:=h
 obtain⟨_,_,_,_,_,c5⟩:=h.field
 obtain⟨a,cap,rfl,A⟩:=h.list
 have H:=h.len
 unfold Jai
 rw[←H]
 by_cases h0:0≤page
 ·obtain⟨i,rfl⟩:=Int.eq_ofNat_of_zero_le h0
  by_cases hi:i<I.length
  ·obtain⟨g,rfl,_,_,c,f⟩:=A i hi
   have J:=h.which i hi
   have K:(i:Int)<(I.length:Int):=by omega
   rw[show (Int.toNat (i:Int))=i from rfl,J]
   clear J A h H
   cases hq:I[i]with
   |none=>
    rw[hq]at c
    simp only[Kew]at c
    go_enter func80,ntmps80
    go_wp2
    go_ret
    exact⟨Qr (by simp),rfl⟩
   |some b=>
    rw[hq]at c
    simp only[Kew]at c
    go_enter func80,ntmps80
    go_wp2
    go_ret
    exact⟨Qr (by simp[hi]),rfl⟩
  have K:¬ (i:Int)<(I.length:Int):=by omega
  clear A h H
  go_enter func80,ntmps80
  go_wp2
  go_ret
  exact⟨Qr (by first|(simp;done)|(simp;omega)),rfl⟩
 clear A h H
 go_enter func80,ntmps80
 go_wp2
 go_ret
 exact⟨Qr (by first|(simp;done)|(simp;omega)),rfl⟩
theorem Kzv (d:Nat)(w:World)(F:Nat→Prop)(D:DS)(h:Zb w F d D) :
  Calls prog 46 #[.pointer (some ⟨d,0,none⟩)] w fun e w'=>e=.returned (.int .i64 ((Js D.pages:Nat):Int))∧w'=w:=by
 obtain⟨sv,A,h⟩:=h
 obtain⟨_,_,_,c3,_,_⟩:=h.field
 clear h
 go_enter func46,ntmps46
 go_wp2
 go_ret
 exact⟨rfl,rfl⟩
def Ku (q f:Int):DS:=⟨q,f,0,0,[]⟩
theorem Kcn (q f:Int)(w:World) :
  Calls prog 33 #[.agg #[.int .i64 q,.int .i64 f]] w fun e w'=>∃ b,e=.returned (.pointer (some ⟨b,0,none⟩))∧w.heap.size≤b∧Zb w' (fun k=>k=b) b (Ku q f)∧Below w.heap.size w w':=by
 go_enter func33,ntmps33
 go_wp2
 go_ret
 refine⟨_,rfl,?_,⟨.slice none 0 0,[],?_,Jo.nil _ _ _,?_,rfl,rfl,?_,?_,?_,?_,?_,?_⟩,?_⟩
 ·simp
 ·have:=heap_alloc_new (w.alloc (.cells #[.int .i64 q,.int .i64 f] 23)) (.cells #[.int .i64 q,.int .i64 f,.int .i64 0,.int .i64 0,.int .i64 0,.slice none 0 0] 140)
  rw[Oa7]at this
  exact this
 ·intro g A;simp[Value.ownBlock]at A
 ·intro i b hi;simp at hi
 ·intro i hi;simp at hi
 ·intro i j b hi;simp at hi
 ·simp[Ku]
 ·intro i hi;simp[Ku]at hi
 ·simp[Ku]
 exact((Oa5 _ _).alloc (Oa2 _) _).alloc (by simp) _
end
section
open Go.RowKit Tryz
theorem Kji:(prog.info? 167).map (fun i=>(i.zero,i.size,i.bytes))=some (some (.pointer none),1,8):=by kernel_rfl
theorem Jf1.turn {w w':World}{F:Nat→Prop}{d:Nat}{D:DS}{sv:Value}{J:List (Option Nat)}(h:Jf1 w F d D sv J)(wr:Int)(A:Nat)
  (K:w'.heap[d]?=some (.cells #[.int .i64 D.quota,.int .i64 D.fail,.int .i64 wr,.int .i64 ((Js D.pages:Nat):Int),.int .i64 ((A:Nat):Int),sv] 140 (0,0)))
  (hk:∀ k,k≠d→k<w.heap.size→w'.heap[k]?=w.heap[k]?) (M:A≤D.pages.length) (L:∀ i,i<A→∃ p,D.pages[i]?=some (some p)):Jf1 w' F d ⟨D.quota,D.fail,wr,A,D.pages⟩ sv J:=
 ⟨K,Yd h.own fun g H=>hk g (h.ownF g H).2 (Qk h.own H),h.ownF,h.dF,h.len,
  fun i b hi=>by obtain⟨f,n1,O,p,N,I⟩:=h.page i b hi;exact⟨f,n1,O,p,N,I.of_block (hk b n1 I.2.lt)⟩,h.vacant,h.inj,M,L,h.small⟩
theorem Jf1.setLow {w:World}{F:Nat→Prop}{d:Nat}{D:DS}{sv:Value}{H:List (Option Nat)}(h:Jf1 w F d D sv H)(A:Nat)(J:A≤D.pages.length)(I:∀ i,i<A→∃ p,D.pages[i]?=some (some p)) :
  Jf1 (w.setCell ⟨d,4,none⟩ (.int .i64 ((A:Nat):Int))) F d ⟨D.quota,D.fail,D.writes,A,D.pages⟩ sv H:=
 h.turn D.writes A (by have:=Jk h.cells 4 (.int .i64 ((A:Nat):Int));simpa using this) (fun k hk _=>Oa4 _ _ _ _ hk) J I
theorem Jf1.setWrites {w:World}{F:Nat→Prop}{d:Nat}{D:DS}{sv:Value}{A:List (Option Nat)}(h:Jf1 w F d D sv A)(wr:Int) :
  Jf1 (w.setCell ⟨d,2,none⟩ (.int .i64 wr)) F d ⟨D.quota,D.fail,wr,D.lowest,D.pages⟩ sv A:=
 h.turn wr D.lowest (by have:=Jk h.cells 2 (.int .i64 wr);simpa using this) (fun k hk _=>Oa4 _ _ _ _ hk) h.low h.full
theorem Jf1.longer {w w1:World}{F:Nat→Prop}{d:Nat}{D:DS}{sv sv':Value}{H:List (Option Nat)}(h:Jf1 w F d D sv H)(bf:∀ k,w.heap.size≤k→F k)(bb:Jo w1 0 167 sv' (H.map Kew++[.pointer none]))
  (N:∀ k,k<w.heap.size→sv.ownBlock≠some k→w1.heap[k]?=w.heap[k]?) (A:sv'.ownBlock=sv.ownBlock∨∃ n,sv'.ownBlock=some n∧w.heap.size≤n) (bh:D.pages.length<960000) :
  Jf1 (w1.setCell ⟨d,5,none⟩ sv') F d ⟨D.quota,D.fail,D.writes,D.lowest,D.pages++[none]⟩ sv' (H++[none]):=by
 have Y:=Jd h.cells
 have O:∀ g,sv'.ownBlock=some g→g≠d:=by
  intro g J Z
  rcases A with A|⟨n,A,K⟩
  ·rw[A]at J;exact(h.ownF g J).2 Z
  rw[A]at J;cases J;omega
 have X:w1.heap[d]?=some (.cells #[.int .i64 D.quota,.int .i64 D.fail,.int .i64 D.writes,.int .i64 ((Js D.pages:Nat):Int),.int .i64 ((D.lowest:Nat):Int),sv] 140 (0,0)):=by
  rw[N d Y (fun e=>(h.ownF d e).2 rfl)];exact h.cells
 have bc:Js (D.pages++[none])=Js D.pages:=by simp[Js,List.countP_append]
 refine⟨?_,?_,?_,h.dF,by simp[h.len],?_,?_,?_,?_,?_,by simp;omega⟩
 ·have:=Jk X 5 sv'
  rw[bc]
  simpa using this
 ·have:(H++[none]).map Kew=H.map Kew++[.pointer none]:=by simp[Kew]
  rw[this]
  exact Yd bb fun g J=>Oa4 _ _ _ _ (O g J)
 ·intro g J
  refine⟨?_,O g J⟩
  rcases A with A|⟨n,A,K⟩
  ·rw[A]at J;exact(h.ownF g J).1
  rw[A]at J;cases J;exact bf _ K
 ·intro i b hi
  rcases Oc1 i H.length with I|I
  ·rw[Ob0 I]at hi
   obtain⟨f,n1,U,p,L,M⟩:=h.page i b hi
   refine⟨f,n1,?_,p,?_,?_⟩
   ·rcases A with A|⟨n,A,K⟩
    ·rw[A];exact U
    rw[A]
    intro e
    have:=M.2.lt
    cases e
    omega
   ·rw[Ob0 (by rw[←h.len];exact I)];exact L
   refine M.of_block ?_
   rw[Oa4 _ _ _ _ n1]
   exact N b M.2.lt U
  rw[Ob6 I]at hi
  rcases hz:i-H.length with _|z
  ·rw[hz]at hi;simp at hi
  rw[hz]at hi;simp at hi
 ·intro i hi
  rcases Oc1 i H.length with I|I
  ·rw[Ob0 I]at hi
   rw[Ob0 (by rw[←h.len];exact I)]
   exact h.vacant i hi
  have:i=H.length:=by
   rcases Oc1 i (H.length+1)with h2|h2
   ·omega
   ·rw[Ob4 (by simp;omega)]at hi;simp at hi
  subst this
  rw[h.len]
  simp
 ·intro i j b hi ba
  have R:∀ i:Nat,(H++[none])[i]?=some (some b)→H[i]?=some (some b):=by
   intro i hi
   rcases Oc1 i H.length with I|I
   ·rwa [Ob0 I]at hi
   rw[Ob6 I]at hi
   rcases hz:i-H.length with _|z
   ·rw[hz]at hi;simp at hi
   rw[hz]at hi;simp at hi
  exact h.inj i j b (R i hi) (R j ba)
 ·simp;have:=h.low;omega
 intro i hi
 obtain⟨p,L⟩:=h.full i hi
 refine⟨p,?_⟩
 rw[Ob0]
 ·exact L
 have:=h.low;simp at hi ⊢;omega
def Kb:List (Option (List UInt8))→Nat
 |[]=>0
 |none::_=>0
 |some _::l=>Kb l+1
theorem Jeu:∀ l,Kb l≤l.length
 |[]=>Oa2 _
 |none::_=>by simp[Kb]
 |some _::l=>by simp[Kb];exact Jeu l
theorem Kiv:∀ (l:List (Option (List UInt8)))(i:Nat),i<Kb l→∃ p,l[i]?=some (some p)
 |[],i,h=>by simp[Kb]at h
 |none::_,i,h=>by simp[Kb]at h
 |some x::l,0,_=>⟨x,rfl⟩
 |some x::l,i+1,h=>by
  obtain⟨p,A⟩:=Kiv l i (by simp[Kb]at h;omega)
  exact⟨p,by simpa using A⟩
theorem Jc3:∀ (l:List (Option (List UInt8))),Kb l<l.length→l[Kb l]?=some none
 |[],h=>by simp at h
 |none::_,_=>rfl
 |some x::l,h=>by simpa [Kb] using Jc3 l (by simp[Kb]at h;omega)
theorem Kjh (l:List (Option (List UInt8)))(k:Nat)(h:∀ i,i<k→∃ p,l[i]?=some (some p))(hk:k≤l.length):k≤Kb l:=by
 rcases Oc1 (Kb l) k with A|A
 ·obtain⟨p,H⟩:=h _ A
  rw[Jc3 l (by omega)]at H
  simp at H
 exact A
def Ki1 (D:DS):DS:=⟨D.quota,D.fail,D.writes,Kb D.pages,if Kb D.pages<D.pages.length then D.pages else D.pages++[none]⟩
theorem Jtc {l:List (Option (List UInt8))}{i:Nat}{p:List UInt8}(h:l[i]?=some (some p)):Jai l (i:Int)=true:=by
 have hi:i<l.length:=by
  rcases Oc1 i l.length with A|A
  ·exact A
  rw[Ob4 A]at h;simp at h
 unfold Jai
 rw[Og5,decide_eq_true_eq,Oa0,show (Int.toNat (i:Int))=i from rfl,h]
 exact⟨by omega,rfl⟩
theorem Jsj (l:List (Option (List UInt8))):Jai l ((Kb l:Nat):Int)=false:=by
 unfold Jai
 rw[Bool.and_eq_false_iff]
 rcases Oc1 (Kb l) l.length with A|A
 ·right
  rw[Oa0,show (Int.toNat ((Kb l:Nat):Int))=Kb l from rfl,Jc3 l A]
  rfl
 left
 simp
 omega
theorem Kkj (d:Nat)(w:World)(F:Nat→Prop)(D:DS)(h:Zb w F d D)(bC:∀ k,w.heap.size≤k→F k)(bj:D.pages.length<960000) :
  Calls prog 194 #[.pointer (some ⟨d,0,none⟩)] w fun e w'=>e=.returned (.int .i64 ((Kb D.pages:Nat):Int)) ∧
   Zb w' F d (Ki1 D)∧Ju F w w':=by
 obtain⟨sv,A,h⟩:=h
 go_enter func194,ntmps194
 go_wp2
 go_loopw [8] (fun _ wr=>∃ k:Nat,k≤Kb D.pages∧Jf1 wr F d ⟨D.quota,D.fail,D.writes,k,D.pages⟩ sv A∧Ju F w wr) (fun _ wr=>D.pages.length+1-(intOf ((wr.cell? ⟨d,4,none⟩).getD undef)).toNat)
 case atStart=>exact⟨D.lowest,Kjh _ _ h.full h.low,h,Ju.refl _ _⟩
 case round=>
  obtain⟨k,hk,H,O⟩:=hrel
  have bf:=Jeu D.pages
  obtain⟨_,_,_,_,c4,c5⟩:=H.field
  have br:=H.thaw 4
  have bu:=H.thaw 5
  have J:=Jwv d (k:Int) wr F _ ⟨sv,A,H⟩
  by_cases bh:k<Kb D.pages
  ·obtain⟨p,bi⟩:=Kiv _ _ bh
   rw[Jtc bi]at J
   have bD:=H.setLow (k+1) (by show k+1≤D.pages.length;omega) (fun i hi=>Kiv D.pages i (by omega))
   have bB:=O.set H.dF 4 (.int .i64 ((k+1:Nat):Int))
   clear bi
   go_wp2_with (go_at_call 80;refine J.mono ?_;rintro e w' ⟨rfl,bl⟩;subst w')
   go_roundw
   case rel=>exact⟨k+1,by omega,by simpa using bD,by simpa using bB⟩
   case measure=>
    simp only[World.cell?_setCell_same _ _ _ c4,c4,Option.getD_some,intOf]
    omega
  obtain rfl:k=Kb D.pages:=by omega
  rw[Jsj]at J
  obtain⟨a,cap,rfl,bA⟩:=H.list
  have U:Hid (A.length=D.pages.length):=H.len
  have bn:Hid (Jo wr 0 167 (.slice a A.length cap) (A.map Kew)):=H.own
  obtain⟨M,K⟩:∃ M,Hid (Kb D.pages=M):=⟨_,rfl⟩
  rw[K.out]at J c4
  clear bA br hk bh
  by_cases N:Kb D.pages<D.pages.length
  ·have R:Hid (Ki1 D=⟨D.quota,D.fail,D.writes,Kb D.pages,D.pages⟩):=by show Ki1 D=_;rw[Ki1,if_pos N]
   have bz:(((M:Nat):Int)==((A.length:Nat):Int))=false:=by have:=U.out;have:=K.out;rw[beq_eq_false_iff_ne];omega
   have L:Hid (Jf1 wr F d ⟨D.quota,D.fail,D.writes,Kb D.pages,D.pages⟩ (.slice a A.length cap) A):=H
   clear N bf bj H
   go_wp2_with (go_at_call 80;refine J.mono ?_;rintro e w' ⟨rfl,bl⟩;subst w')
   go_quiet (fail)
   go_wp2
   go_ret
   refine⟨Yp (by rw[K.out]),?_,O.drewN _⟩
   rw[R.out]
   exact⟨_,A,L.out.below (Jp (Oa5 _ _) _)⟩
  have R:Hid (Ki1 D=⟨D.quota,D.fail,D.writes,Kb D.pages,D.pages++[none]⟩):=by show Ki1 D=_;rw[Ki1,if_neg N]
  have bz:(((M:Nat):Int)==((A.length:Nat):Int))=true:=by have:=U.out;have:=K.out;rw[beq_iff_eq];omega
  have bH:A.length+1≤1000000:=by have:=U.out;omega
  have L:Hid (Jf1 wr F d ⟨D.quota,D.fail,D.writes,Kb D.pages,D.pages⟩ (.slice a A.length cap) A):=H
  have Y:(Value.slice a A.length cap).ownBlock≠some d:=fun e=>(H.ownF d e).2 rfl
  have X:=Jd H.cells
  have bI:=O.size
  clear N bf H
  go_wp2_with (go_at_call 80;refine J.mono ?_;rintro e w' ⟨rfl,bl⟩;subst w')
  go_quiet (fail)
  go_wp2_with (at_builtin;go_must (refine Ks (by rfl) _ _ 138 167 _ 8 Kji (by rfl) (by decide) (by kernel_rfl) (by rfl) 0 _ _ (by rfl) (Jo.alloc (w:=wr.drewN nq) bn.out _) ⟨wr.heap.size,0,none⟩ 1 [.pointer none] (by rfl) (by exact Ua (wr.drewN nq) _ _) (by intro u bk;simp at bk;subst bk;rfl) (by simp only[List.length_cons,List.length_nil,Oa6];omega) (by simp) ?_);intro sv' w1 ba I bx;obtain⟨bE,bG,rfl,_⟩:=ba.cells;have bK:w1.cell? ⟨d,5,none⟩=some (.slice a A.length cap):=(by rw[I.cell_far _ (by simp;omega) (Oc5 Y)];exact(Jnf (wr.drewN nq) _ d 5 X).trans c5);have bL:w1.frozen? ⟨d,5,none⟩=false:=(by rw[I.frozen_far _ (by simp;omega) (Oc5 Y)];exact(Jh9 (wr.drewN nq) _ d 5 X).trans bu);have bJ:w1.cell? ⟨d,4,none⟩=some (.int .i64 ((M:Nat):Int)):=(by rw[I.cell_far _ (by simp;omega) (Oc5 Y)];exact(Jnf (wr.drewN nq) _ d 4 X).trans c4))
  go_ret
  have bb:∀ k,k<wr.heap.size→(Value.slice a A.length cap).ownBlock≠some k→w1.heap[k]?=wr.heap[k]?:=fun k hk Z=>(I.block k (by simp;omega) (Oc5 Z)).trans (Oa9 (wr.drewN nq) _ k hk)
  have bc:=L.out.longer (fun k hk=>bC k (by omega)) ba bb (bx.imp id fun e=>⟨_,e,by simp⟩) bj
  simp only[Oa8,Oa6,List.length_cons,List.length_nil]at bc
  refine⟨Yp (by rw[K.out]),?_,?_⟩
  ·rw[R.out]
   exact⟨_,_,bc⟩
  refine Ju.set ?_ L.out.dF 5 _
  refine O.trans ⟨I.os,I.tape,I.output,Ob2 (by simp) I.size,fun k hk Z=>bb k hk fun e=>Z (L.out.ownF k e).1⟩
end
section
open Go.RowKit Tryz
theorem Jf1.drewN {w:World}{F:Nat→Prop}{d:Nat}{D:DS}{sv:Value}{A:List (Option Nat)}(h:Jf1 w F d D sv A)(n:Nat):Jf1 (w.drewN n) F d D sv A:=h.below (Jp (Oa5 _ _) _)
theorem Jwl (w:World)(q:Addr)(p:Int):Yu (w.alloc (.cells #[.iface 528 (.pointer (some q)),.int .i64 p] 214)) (.iface 211 (.pointer (some ⟨w.heap.size,0,none⟩))) q none (some p):=
 .disk _ _ _ (by simp) (by simp)
theorem Kjc (d:Nat)(s:ByteArray)(w:World)(F:Nat→Prop)(D:DS)(h:Zb w F d D)(q:Addr)(I:w.cell? ⟨4,0,none⟩=some (.iface 528 (.pointer (some q))))(H:D.quota≤((Js D.pages:Nat):Int)) :
  Calls prog 163 #[.pointer (some ⟨d,0,none⟩),.string s] w fun e w'=>Below w.heap.size w w'∧∃ b,e=.returned (.tuple #[.int .i64 0,.iface 211 (.pointer (some ⟨b,0,none⟩))])∧w.heap.size≤b∧Yu w' (.iface 211 (.pointer (some ⟨b,0,none⟩))) q none (some (-1)):=by
 obtain⟨sv,J,h⟩:=h
 obtain⟨c0,_,_,c3,_,_⟩:=h.field
 clear h
 go_enter func163,ntmps163
 go_wp2_with fail
 go_quiet (fail)
 go_wp2_with fail
 go_region
 go_wp2
 go_ret2
 have A:Below w.heap.size w ((w.drewN (nq+1)).alloc (.cells #[.iface 528 (.pointer (some q)),.int .i64 (-1)] 214)):=(Jp (Oa5 _ w) _).alloc (Oa2 _) _
 exact⟨A,_,rfl,Oa2 _,Jwl (w.drewN (nq+1)) q (-1)⟩
def Jvn (D:DS):DS:=⟨D.quota,D.fail,wrap64 (D.writes+1),D.lowest,D.pages⟩
theorem Kj0 (d:Nat)(s:ByteArray)(w:World)(F:Nat→Prop)(D:DS)(h:Zb w F d D)(q:Addr)(K:w.cell? ⟨5,0,none⟩=some (.iface 528 (.pointer (some q))))(X:¬ D.quota≤((Js D.pages:Nat):Int))(J:wrap64 (D.writes+1)=D.fail) :
  Calls prog 163 #[.pointer (some ⟨d,0,none⟩),.string s] w fun e w'=>Ju F w w'∧Zb w' F d (Jvn D)∧∃ b,e=.returned (.tuple #[.int .i64 0,.iface 211 (.pointer (some ⟨b,0,none⟩))])∧w.heap.size≤b∧Yu w' (.iface 211 (.pointer (some ⟨b,0,none⟩))) q none (some (-1)):=by
 obtain⟨sv,O,h⟩:=h
 obtain⟨c0,c1,c2,c3,_,_⟩:=h.field
 have N:=h.thaw 2
 have A:Hid (Jf1 w F d D sv O):=h
 have H:Hid (wrap64 (D.writes+1)=D.fail):=J
 clear J h
 go_enter func163,ntmps163
 go_wp2_with fail
 go_quiet (fail)
 go_upto_region 4 with fail
 have L:=(A.out.drewN nq).setWrites (wrap64 (D.writes+1))
 have U:(wrap64 (D.writes+1)==D.fail)=true:=by rw[beq_iff_eq];exact H.out
 have M:Hid (Jvn D=⟨D.quota,D.fail,wrap64 (D.writes+1),D.lowest,D.pages⟩):=rfl
 have hk:Ju F w ((w.drewN nq).setCell ⟨d,2,none⟩ (.int .i64 (wrap64 (D.writes+1)))):=((Ju.refl F w).drewN nq).set A.out.dF 2 _
 have Y:((w.drewN nq).setCell ⟨d,2,none⟩ (.int .i64 (wrap64 (D.writes+1)))).cell? ⟨5,0,none⟩=some (.iface 528 (.pointer (some q))):=by
  rw[Ob5 _ _ _ _ (by simp)];exact K
 clear H c0 c1 c2 c3 N A K
 generalize wrap64 (D.writes+1)=R at *
 obtain⟨_,c1,c2,_,_,_⟩:=L.field
 generalize (w.drewN nq).setCell ⟨d,2,none⟩ (.int .i64 R)=W at *
 simp only at c1 c2
 go_quiet (fail)
 go_wp2_with fail
 go_region
 go_wp2
 go_ret2
 have I:Below W.heap.size W ((W.drewN (nq+1)).alloc (.cells #[.iface 528 (.pointer (some q)),.int .i64 (-1)] 214)):=(Jp (Oa5 _ W) _).alloc (Oa2 _) _
 refine⟨hk.trans (.of_below I),?_,_,rfl,hk.size,Jwl (W.drewN (nq+1)) q (-1)⟩
 rw[M.out]
 exact⟨_,_,L.below I⟩
theorem Jl5:∀ (l:List (Option (List UInt8)))(i:Nat)(p:List UInt8),l[i]?=some none→Js (l.set i (some p))=Js l+1
 |[],i,_,h=>by simp at h
 |x::l,0,p,h=>by
  simp at h
  subst h
  simp[Js]
 |x::l,i+1,p,h=>by
  have:=Jl5 l i p (by simpa using h)
  simp only[Js,List.set_cons_succ,On3]at this ⊢
  omega
theorem Jii:∀ (l:List (Option (List UInt8)))(i:Nat)(p:List UInt8),l[i]?=some (some p)→Js (l.set i none)+1=Js l
 |[],i,_,h=>by simp at h
 |x::l,0,p,h=>by
  simp at h
  subst h
  simp[Js]
 |x::l,i+1,p,h=>by
  have:=Jii l i p (by simpa using h)
  simp only[Js,List.set_cons_succ,On3]at this ⊢
  omega
theorem Kka {w:World}{B:Nat}{e:TypeId}{sv:Value}{xs:List Value}{g:Nat}(h:Jo w B e sv xs)(A:sv.ownBlock=some g)(i:Nat)(hi:i<xs.length)(v:Value):Jo (w.setCell ⟨g,i,none⟩ v) B e sv (xs.set i v):=by
 refine⟨by simp,?_⟩
 rcases h.2 with⟨H,h0⟩|⟨J,cap,I,H,K,L,N,O,R,M⟩
 ·omega
 subst H
 simp[Value.ownBlock]at A
 subst A
 refine .inr ⟨J,cap,I.setIfInBounds i v,by simp,K,Jk L i v,by simpa using N,O,by simpa using R,?_⟩
 rw[Of8,Ok0,List.take_set,M]
theorem Jf1.put {w:World}{F:Nat→Prop}{d:Nat}{D:DS}{sv:Value}{L:List (Option Nat)}(h:Jf1 w F d D sv L){g:Nat}(I:sv.ownBlock=some g)(i:Nat)(hi:D.pages[i]?=some none)(b:Nat)(p:List UInt8)(bj:Jdp w b p)(hF:F b)(U:b≠d)(X:b≠g)(ba:∀ j:Nat,L[j]?≠some (some b)) :
  Jf1 ((w.setCell ⟨g,i,none⟩ (.pointer (some ⟨b,0,none⟩))).setCell ⟨d,3,none⟩ (.int .i64 ((Js D.pages+1:Nat):Int))) F d ⟨D.quota,D.fail,D.writes,D.lowest,D.pages.set i (some p)⟩ sv (L.set i (some b)):=by
 have N:i<D.pages.length:=by
  rcases Oc1 i D.pages.length with M|M
  ·exact M
  rw[Ob4 M]at hi;simp at hi
 have J:i<L.length:=by rw[h.len];exact N
 have Z:=(h.ownF g I).2
 have bi:(w.setCell ⟨g,i,none⟩ (.pointer (some ⟨b,0,none⟩))).heap[d]?=some (.cells #[.int .i64 D.quota,.int .i64 D.fail,.int .i64 D.writes,.int .i64 ((Js D.pages:Nat):Int),.int .i64 ((D.lowest:Nat):Int),sv] 140 (0,0)):=by
  rw[Oa4 _ _ _ _ (show d≠g from Oc5 Z)];exact h.cells
 have bb:∀ k,k≠g→k≠d→((w.setCell ⟨g,i,none⟩ (.pointer (some ⟨b,0,none⟩))).setCell ⟨d,3,none⟩ (.int .i64 ((Js D.pages+1:Nat):Int))).heap[k]?=w.heap[k]?:=fun k bf bh=>by
  rw[Oa4 _ _ _ _ bh,Oa4 _ _ _ _ bf]
 refine⟨?_,?_,h.ownF,h.dF,by simp[h.len],?_,?_,?_,by simpa using h.low,?_,by simpa using h.small⟩
 ·have:=Jk bi 3 (.int .i64 ((Js D.pages+1:Nat):Int))
  rw[Jl5 _ _ _ hi]
  simpa using this
 ·rw[Op0]
  refine Yd (Kka h.own I i (by simpa using J) _) fun bl Y=>?_
  rw[I]at Y
  cases Y
  exact Oa4 _ _ _ _ Z
 ·intro j c A
  by_cases H:j=i
  ·subst H
   rw[Oh0 J]at A
   simp at A
   subst A
   exact⟨hF,U,by rw[I];intro e;cases e;exact X rfl,p,by simp[N],bj.of_block (bb b X U)⟩
  rw[Od1 (Oc5 H)]at A
  obtain⟨f,n1,bc,R,O,bk⟩:=h.page j c A
  refine⟨f,n1,bc,R,by rw[Od1 (Oc5 H)];exact O,bk.of_block (bb c (fun e=>bc (by rw[I,e])) n1)⟩
 ·intro j A
  by_cases H:j=i
  ·subst H
   rw[Oh0 J]at A
   simp at A
  rw[Od1 (Oc5 H)]at A ⊢
  exact h.vacant j A
 ·intro j k c A hk
  by_cases H:j=i
  ·subst H
   rw[Oh0 J]at A
   simp at A
   subst A
   by_cases K:k=j
   ·exact K.symm
   rw[Od1 (Oc5 K)]at hk
   exact absurd hk (ba k)
  rw[Od1 (Oc5 H)]at A
  by_cases K:k=i
  ·subst K
   rw[Oh0 J]at hk
   simp at hk
   subst hk
   exact absurd A (ba j)
  rw[Od1 (Oc5 K)]at hk
  exact h.inj j k c A hk
 intro j A
 by_cases H:j=i
 ·subst H
  exact⟨p,by simp[N]⟩
 obtain⟨R,O⟩:=h.full j A
 exact⟨R,by rw[Od1 (Oc5 H)];exact O⟩
def Zn (D:DS)(A:List UInt8):DS:=⟨D.quota,D.fail,wrap64 (D.writes+1),Kb D.pages,(if Kb D.pages<D.pages.length then D.pages else D.pages++[none]).set (Kb D.pages) (some (Jdm A))⟩
theorem Jsk (l:List (Option (List UInt8))):(if Kb l<l.length then l else l++[none])[Kb l]?=some none:=by
 by_cases h:Kb l<l.length
 ·rw[if_pos h];exact Jc3 l h
 rw[if_neg h]
 have:=Jeu l
 have:Kb l=l.length:=by omega
 rw[this]
 simp
theorem Kjt (d:Nat)(I:List UInt8)(bU:I.length≤56)(w:World)(F:Nat→Prop)(D:DS)(h:Zb w F d D)(bW:D.pages.length<960000)(cu:¬ D.quota≤((Js D.pages:Nat):Int))(bu:¬ wrap64 (D.writes+1)=D.fail) :
  Calls prog 163 #[.pointer (some ⟨d,0,none⟩),.string (Qw I)] w fun e w'=>Ju F w w'∧Zb w' (up F w) d (Zn D I)∧e=.returned (.tuple #[.int .i64 ((Kb D.pages:Nat):Int),.nilIface]):=by
 obtain⟨sv,ca,h⟩:=h
 obtain⟨c0,c1,c2,c3,_,_⟩:=h.field
 have bJ:=h.thaw 2
 have X:Hid (Jf1 w F d D sv ca):=h
 have bi:Hid (¬ wrap64 (D.writes+1)=D.fail):=bu
 clear bu h
 go_enter func163,ntmps163
 go_wp2_with fail
 go_quiet (fail)
 go_upto_region 4 with fail
 have bb:=(X.out.drewN nq).setWrites (wrap64 (D.writes+1))
 have cl:(wrap64 (D.writes+1)==D.fail)=false:=by rw[beq_eq_false_iff_ne];exact bi.out
 have bf:Hid (Zn D I=⟨D.quota,D.fail,wrap64 (D.writes+1),Kb D.pages,(if Kb D.pages<D.pages.length then D.pages else D.pages++[none]).set (Kb D.pages) (some (Jdm I))⟩):=rfl
 have hk:Ju (up F w) w ((w.drewN nq).setCell ⟨d,2,none⟩ (.int .i64 (wrap64 (D.writes+1)))):=((Ju.refl _ w).drewN nq).set (.inl X.out.dF) 2 _
 have bY:((w.drewN nq).setCell ⟨d,2,none⟩ (.int .i64 (wrap64 (D.writes+1)))).heap.size=w.heap.size:=by simp[World.setCell]
 clear bi c0 c1 c2 c3 bJ X
 generalize wrap64 (D.writes+1)=cb at *
 obtain⟨_,c1,c2,_,_,_⟩:=bb.field
 generalize (w.drewN nq).setCell ⟨d,2,none⟩ (.int .i64 cb)=W at *
 simp only at c1 c2
 have bZ:=bb.mono (G:=up F w) (fun k _ bP=>.inl bP)
 clear bb
 go_quiet (fail)
 go_wp2_with fail
 refine(Kkj d (W.drewN nq) (up F w) _ ⟨_,_,bZ.drewN nq⟩ (fun k hk=>.inr (by simpa [bY] using hk)) bW).mono ?_
 rintro e J ⟨rfl,⟨cx,L,H⟩,bA⟩
 have bz:=hk.trans (Ju.trans ((Ju.refl _ W).drewN nq) bA)
 have K:=Jsk D.pages
 have U:Hid (Kb D.pages<(if Kb D.pages<D.pages.length then D.pages else D.pages++[none]).length):=by
  rcases Oc1 (Kb D.pages) (if Kb D.pages<D.pages.length then D.pages else D.pages++[none]).length with Y|Y
  ·exact Y
  rw[Ob4 Y]at K;simp at K
 simp only[Ki1]at H
 generalize (if Kb D.pages<D.pages.length then D.pages else D.pages++[none])=pgs at *
 obtain⟨A,bh⟩:∃ A,Hid (Kb D.pages=A):=⟨_,rfl⟩
 rw[bh.out]at H bf K U ⊢
 obtain⟨_,_,_,c3,_,c5⟩:=H.field
 obtain⟨cf,cj,rfl,br⟩:=H.list
 have N:=H.len
 simp only at N c3
 have bx:A<L.length:=by rw[N];exact U.out
 obtain⟨g,rfl,bN,bQ,cg,bL⟩:=br A bx
 have bD:L[A]=none:=by
  cases ba:L[A]with
  |none=>rfl
  |some b=>
   obtain⟨_,_,_,p,bC,_⟩:=H.page A b (by rw[←ba];simp[bx])
   rw[K]at bC
   simp at bC
 rw[bD]at cg
 simp only[Kew]at cg
 have cc:Hid (L.length=pgs.length):=N
 have cn:(A:Int)<(L.length:Int):=by omega
 have bK:=H.thaw 3
 have bO:=bz.size
 have Z:=Jm cg
 have M:=Jm c5
 simp only at Z M
 have cv:=Kad pgs
 have bX:=H.small
 simp only at bX
 clear br N bD U bA
 go_wp2_with fail
 have bE:=Kkp I bU J.drew
 go_region_with (first|(go_at_call 195;refine bE.mono ?_;rintro e R ⟨rfl,bT,bl⟩;obtain⟨O,bc⟩:=Kx bl;have bH:=(O d 5 M).trans c5;have bI:=(O g A Z).trans cg;have bM:=(bc g A Z).trans bL;have bj:=(O d 3 M).trans c3;have bk:=(bc d 3 M).trans bK))
 all_goals
  have bn:=Jw bl
  have bG:=H.below bn
  have bV:=bG.put (g:=g) rfl A K J.heap.size (Jdm I) bT (.inr bO) (by omega) (by omega) (fun j bR=>by obtain⟨_,_,_,p,_,ba⟩:=H.page j _ bR;exact absurd ba.2.lt (Oe3 _))
  have bB:Ju (up F w) w (R.setCell ⟨g,A,none⟩ (.pointer (some ⟨J.heap.size,0,none⟩))):=(bz.trans (.of_below bn)).set bN A _
  have bS:=bB.set (H.dF) 3 (.int .i64 ((Js pgs+1:Nat):Int))
  have ci:(R.setCell ⟨g,A,none⟩ (.pointer (some ⟨J.heap.size,0,none⟩))).cell? ⟨d,3,none⟩=some (.int .i64 ((Js pgs:Nat):Int)):=by rw[Ob5 _ _ _ _ (by first|(simp;done)|(simp;intro e;exact absurd e.symm bQ))];exact bj
  have ck:(R.setCell ⟨g,A,none⟩ (.pointer (some ⟨J.heap.size,0,none⟩))).frozen? ⟨d,3,none⟩=false:=by rw[On9];exact bk
  clear bj bk bI bM bH O bc bE bG bB
  generalize R.setCell ⟨g,A,none⟩ (.pointer (some ⟨J.heap.size,0,none⟩))=cy at *
  go_wp2
  go_ret2
  refine⟨Ju.down (by simpa using bS),?_,by rw[bh.out];rfl⟩
  rw[bf.out]
  exact⟨_,_,by simpa using bV⟩
end
section
open Go.RowKit Tryz
def nv (n:Nat):Value:=.int .i64 (n:Int)
theorem Ki8 (l:List (Option (List UInt8)))(i:Nat)(p:List UInt8)(h:l[i]?=some (some p)):((Js l:Nat):Int)-1=((Js (l.set i none):Nat):Int):=by
 have:=Jii l i p h
 omega
theorem Jf1.drop {w:World}{F:Nat→Prop}{d:Nat}{D:DS}{sv:Value}{I:List (Option Nat)}(h:Jf1 w F d D sv I){g:Nat}(J:sv.ownBlock=some g)(i:Nat)(p:List UInt8)(hi:D.pages[i]?=some (some p)) :
  Jf1 (((w.setCell ⟨g,i,none⟩ (.pointer none)).setCell ⟨d,3,none⟩ (.int .i64 ((Js (D.pages.set i none):Nat):Int))).setCell ⟨d,4,none⟩ (.int .i64 ((min D.lowest i:Nat):Int))) F d ⟨D.quota,D.fail,D.writes,min D.lowest i,D.pages.set i none⟩ sv (I.set i none):=by
 have X:i<D.pages.length:=by
  rcases Oc1 i D.pages.length with K|K
  ·exact K
  rw[Ob4 K]at hi;simp at hi
 have M:i<I.length:=by rw[h.len];exact X
 have L:=(h.ownF g J).2
 have bb:(w.setCell ⟨g,i,none⟩ (.pointer none)).heap[d]?=some (.cells #[.int .i64 D.quota,.int .i64 D.fail,.int .i64 D.writes,.int .i64 ((Js D.pages:Nat):Int),.int .i64 ((D.lowest:Nat):Int),sv] 140 (0,0)):=by
  rw[Oa4 _ _ _ _ (show d≠g from Oc5 L)];exact h.cells
 have bc:∀ k,k≠g→k≠d→(((w.setCell ⟨g,i,none⟩ (.pointer none)).setCell ⟨d,3,none⟩ (.int .i64 ((Js (D.pages.set i none):Nat):Int))).setCell ⟨d,4,none⟩ (.int .i64 ((min D.lowest i:Nat):Int))).heap[k]?=w.heap[k]?:=fun k ba R=>by
  rw[Oa4 _ _ _ _ R,Oa4 _ _ _ _ R,Oa4 _ _ _ _ ba]
 refine⟨?_,?_,h.ownF,h.dF,by simp[h.len],?_,?_,?_,?_,?_,by simpa using h.small⟩
 ·have:=Jk (Jk bb 3 (.int .i64 ((Js (D.pages.set i none):Nat):Int))) 4 (.int .i64 ((min D.lowest i:Nat):Int))
  simpa using this
 ·rw[Op0]
  refine Yd (Kka h.own J i (by simpa using M) _) fun bh U=>?_
  rw[J]at U
  cases U
  rw[Oa4 _ _ _ _ L,Oa4 _ _ _ _ L]
  rfl
 ·intro j c A
  by_cases H:j=i
  ·subst H
   rw[Oh0 M]at A
   simp at A
  rw[Od1 (Oc5 H)]at A
  obtain⟨f,n1,Z,O,N,bf⟩:=h.page j c A
  refine⟨f,n1,Z,O,by rw[Od1 (Oc5 H)];exact N,bf.of_block (bc c (fun e=>Z (by rw[J,e])) n1)⟩
 ·intro j A
  by_cases H:j=i
  ·subst H
   simp[X]
  rw[Od1 (Oc5 H)]at A ⊢
  exact h.vacant j A
 ·intro j k c A hk
  have Y:∀ j:Nat,(I.set i none)[j]?=some (some c)→I[j]?=some (some c):=by
   intro j A
   by_cases H:j=i
   ·subst H
    rw[Oh0 M]at A
    simp at A
   rwa [Od1 (Oc5 H)]at A
  exact h.inj j k c (Y j A) (Y k hk)
 ·have:=h.low
  simp
  omega
 intro j A
 simp only at A
 obtain⟨O,N⟩:=h.full j (by omega)
 refine⟨O,?_⟩
 rw[Od1 (by omega)]
 exact N
def Jae (D:DS)(i:Nat):DS:=if Jai D.pages (i:Int)=true then ⟨D.quota,D.fail,D.writes,min D.lowest i,D.pages.set i none⟩else D
def Jf4 (D:DS)(l:List Nat):DS:=l.foldl Jae D
theorem Kkf (D:DS)(l:List Nat)(i:Nat):Jf4 D (l++[i])=Jae (Jf4 D l) i:=by simp[Jf4]
theorem Jf3 {l:List (Option (List UInt8))}{i:Nat}(h:Jai l (i:Int)=true):∃ p,l[i]?=some (some p):=by
 unfold Jai at h
 rw[Og5,decide_eq_true_eq,Oa0,show (Int.toNat (i:Int))=i from rfl]at h
 cases hq:l[i]? with
 |none=>rw[hq]at h;simp at h
 |some x=>
  rw[hq]at h
  cases x with
  |none=>simp at h
  |some p=>exact⟨p,rfl⟩
theorem Ki0 (d:Nat)(a:Option Addr)(cap:Nat)(l:List Nat)(w:World)(F:Nat→Prop)(D:DS)(h:Zb w F d D)(I:Uh w a (l.map nv))(bj:∀ b o,a=some ⟨b,o,none⟩→¬ F b)(bG:l.length≤1000000) :
  Calls prog 104 #[.pointer (some ⟨d,0,none⟩),.slice a l.length cap] w fun e w'=>e=.returned (.tuple #[])∧Zb w' F d (Jf4 D l)∧Ju F w w':=by
 go_enter func104,ntmps104
 go_wp2
 go_loopw [8] (fun i wr=>∃ k:Nat,k≤l.length∧i=.int .i64 k∧Zb wr F d (Jf4 D (l.take k))∧Ju F w wr) (fun i _=>l.length-(intOf i).toNat)
 case atStart=>exact⟨0,Ob7 _,rfl,by simpa [Jf4] using h,Ju.refl _ _⟩
 case round=>
  rename_i i
  obtain⟨k,hk,rfl,K,M⟩:=hrel
  by_cases R:k<l.length
  ·have U:Hid (Jf4 D (l.take (k+1))=Jae (Jf4 D (l.take k)) l[k]):=by
    show Jf4 D (l.take (k+1))=_
    rw[Oc4 R,Kkf]
   rcases I with I|⟨b,o,rfl,bB,I⟩
   ·simp at I;subst I;simp at R
   have bf:wr.cell? ⟨b,o+k,none⟩=some (.int .i64 ((l[k]:Nat):Int)):=M.cell (I k _ (by simp[R];rfl)) (bj b o rfl)
   generalize l[k]=pg at *
   generalize Jf4 D (l.take k)=E at *
   have L:=Jwv d (pg:Int) wr F E K
   obtain⟨sv,bc,A⟩:=K
   by_cases H:Jai E.pages (pg:Int)=true
   ·have N:Hid (Jae E pg=⟨E.quota,E.fail,E.writes,min E.lowest pg,E.pages.set pg none⟩):=by show Jae E pg=_;rw[Jae,if_pos H]
    obtain⟨p,J⟩:=Jf3 H
    rw[H]at L
    obtain⟨_,_,_,c3,c4,c5⟩:=A.field
    have X:=A.thaw 3
    have Y:=A.thaw 4
    obtain⟨bu,bx,rfl,Z⟩:=A.list
    have bl:pg<bc.length:=by
     rw[A.len]
     rcases Oc1 pg E.pages.length with O|O
     ·exact O
     rw[Ob4 O]at J;simp at J
    obtain⟨g,rfl,bi,ba,cg,bh⟩:=Z pg bl
    have bn:=A.drop (g:=g) rfl pg p J
    have bJ:=Ki8 E.pages pg p J
    have bH:=Kad E.pages
    have bE:=A.small
    have bD:(pg:Int)<(bc.length:Int):=by omega
    have bk:Ju F w (((wr.setCell ⟨g,pg,none⟩ (.pointer none)).setCell ⟨d,3,none⟩ (.int .i64 ((Js (E.pages.set pg none):Nat):Int))).setCell ⟨d,4,none⟩ (.int .i64 ((min E.lowest pg:Nat):Int))):=((M.set bi pg _).set A.dF 3 _).set A.dF 4 _
    have bK:(wr.setCell ⟨g,pg,none⟩ (.pointer none)).cell? ⟨d,3,none⟩=some (.int .i64 ((Js E.pages:Nat):Int)):=by rw[Ob5 _ _ _ _ (by first|(simp;done)|(simp;intro e;exact absurd e.symm ba))];exact c3
    have bL:(wr.setCell ⟨g,pg,none⟩ (.pointer none)).cell? ⟨d,4,none⟩=some (.int .i64 ((E.lowest:Nat):Int)):=by rw[Ob5 _ _ _ _ (by first|(simp;done)|(simp;intro e;exact absurd e.symm ba))];exact c4
    have bz:(wr.setCell ⟨g,pg,none⟩ (.pointer none)).frozen? ⟨d,3,none⟩=false:=by rw[On9];exact X
    have bA:(wr.setCell ⟨g,pg,none⟩ (.pointer none)).frozen? ⟨d,4,none⟩=false:=by rw[On9];exact Y
    have bC:=A.low
    have bI:(1:Int)≤((Js E.pages:Nat):Int):=by omega
    clear Z A c3 c4 X Y J H
    go_upto_region 5 with(go_at_call 80;refine L.mono ?_;rintro e w' ⟨rfl,br⟩;subst w')
    clear cg bh bf c5
    generalize wr.setCell ⟨g,pg,none⟩ (.pointer none)=w1 at *
    go_wp2
    go_roundw
    case rel=>
     have bb:(if pg<E.lowest then ((pg:Nat):Int)else ((E.lowest:Nat):Int))=((min E.lowest pg:Nat):Int):=by split<;>omega
     exact⟨k+1,by omega,by go_num,by rw[U.out,N.out,bb];exact⟨_,_,bn⟩,by rw[bb];exact bk⟩
    case measure=>simp[intOf];omega
   have N:Hid (Jae E pg=E):=by show Jae E pg=_;rw[Jae,if_neg H]
   rw[Oo1]at H
   rw[H]at L
   go_wp2_with (go_at_call 80;refine L.mono ?_;rintro e w' ⟨rfl,br⟩;subst w')
   go_roundw
   case rel=>exact⟨k+1,by omega,by go_num,by rw[U.out,N.out];exact⟨_,_,A⟩,M⟩
   case measure=>simp[intOf];omega
  obtain rfl:k=l.length:=by omega
  rw[Of2]at K
  go_wp2
  go_end0
  exact⟨rfl,K,M⟩
theorem Qcg (x y:Nat)(I:x<256)(J:y<256):bits .xor .u8 (x:Int) (y:Int)=((x ^^^ y:Nat):Int):=by
 have L:x ^^^ y<256:=Oo8 (n:=8) I J
 have K:(BitVec.ofInt 8 (x:Int) ^^^ BitVec.ofInt 8 (y:Int)).toNat=x ^^^ y:=by
  rw[BitVec.toNat_xor,Ok6,Ok6]
  have A:((x:Int) % ((2 ^ 8:Nat):Int)).toNat=x:=by omega
  have H:((y:Int) % ((2 ^ 8:Nat):Int)).toNat=y:=by omega
  rw[A,H]
 show IntKind.u8.wrap ((BitVec.ofInt 8 (x:Int) ^^^ BitVec.ofInt 8 (y:Int)).toNat:Nat)=_
 rw[K,IntKind.wrap_u8]
 omega
def Ksf (p:List UInt8)(i n:Nat):List UInt8:=p.set i (p.getD i 0 ^^^ UInt8.ofNat n)
theorem Kwk (p:List UInt8)(i n:Nat):(Ksf p i n).length=p.length:=by simp[Ksf]
theorem Jdp.turn {w:World}{b:Nat}{p:List UInt8}(h:Jdp w b p)(i n:Nat)(hi:i<64)(J:n<256):Jdp (w.setCell ⟨b,i,none⟩ (.int .u8 (((p.getD i 0).toNat ^^^ n:Nat):Int))) b (Ksf p i n):=by
 refine⟨by rw[Kwk];exact h.1,(h.2.set i _).congr fun j H=>?_⟩
 by_cases A:j=i
 ·subst A
  rw[if_pos rfl]
  have I:=h.1
  simp[Ksf,I,H,bv,Nat.mod_eq_of_lt J]
 rw[if_neg A]
 simp[Ksf,List.getElem?_set_ne (Ne.symm A)]
theorem Jf1.turnPage {w:World}{F:Nat→Prop}{d:Nat}{D:DS}{sv:Value}{O:List (Option Nat)}(h:Jf1 w F d D sv O)(i b:Nat)(p:List UInt8)(hi:O[i]?=some (some b))(J:D.pages[i]?=some (some p))(at_ n:Nat)(Y:at_<64)(bc:n<256) :
  Jf1 (w.setCell ⟨b,at_,none⟩ (.int .u8 (((p.getD at_ 0).toNat ^^^ n:Nat):Int))) F d ⟨D.quota,D.fail,D.writes,D.lowest,D.pages.set i (some (Ksf p at_ n))⟩ sv O:=by
 obtain⟨hF,Z,ba,I,R,bf⟩:=h.page i b hi
 obtain rfl:I=p:=by rw[J]at R;simpa using R.symm
 have L:i<D.pages.length:=by
  rcases Oc1 i D.pages.length with K|K
  ·exact K
  rw[Ob4 K]at J;simp at J
 have bi:Js (D.pages.set i (some (Ksf I at_ n)))=Js D.pages:=by
  have bj:=Jii D.pages i I J
  have X:=Jl5 (D.pages.set i none) i (Ksf I at_ n) (by simp[L])
  rw[List.set_set]at X
  omega
 refine⟨?_,Yd h.own fun g bb=>Oa4 _ _ _ _ (fun e=>ba (by rw[bb,e])),h.ownF,h.dF,by simp[h.len],?_,?_,h.inj,by simpa using h.low,?_,by simpa using h.small⟩
 ·rw[Oa4 _ _ _ _ (show d≠b from Oc5 Z)]
  simp only[bi]
  exact h.cells
 ·intro j c A
  obtain⟨f,n1,U,N,M,bh⟩:=h.page j c A
  by_cases H:j=i
  ·subst H
   obtain rfl:c=b:=by rw[hi]at A;simpa using A.symm
   exact⟨f,n1,U,_,by simp[L],bf.turn at_ n Y bc⟩
  refine⟨f,n1,U,N,by rw[Od1 (Oc5 H)];exact M,bh.of_block (Oa4 _ _ _ _ (fun e=>H (h.inj j i b (by rw[show b=c from e.symm];exact A) hi)))⟩
 ·intro j A
  by_cases H:j=i
  ·subst H;rw[hi]at A;simp at A
  rw[Od1 (Oc5 H)]
  exact h.vacant j A
 intro j A
 by_cases H:j=i
 ·subst H
  exact⟨Ksf I at_ n,by simp[L]⟩
 obtain⟨N,M⟩:=h.full j A
 exact⟨N,by rw[Od1 (Oc5 H)];exact M⟩
def Kue (D:DS)(page at_ A:Int):Bool:=Jai D.pages page&&decide (0≤at_∧at_<64∧1≤A∧A≤255)
theorem Kzj (d:Nat)(page at_ I:Int)(w:World)(F:Nat→Prop)(D:DS)(h:Zb w F d D)(A:Kue D page at_ I=false) :
  Calls prog 50 #[.pointer (some ⟨d,0,none⟩),.int .i64 page,.int .i64 at_,.int .i64 I] w fun e w'=>e=.returned (.bool false)∧w'=w:=by
 have H:=Jwv d page w F D h
 clear h
 unfold Kue at A
 generalize Jai D.pages page=u at *
 cases u with
 |false=>
  clear A
  go_enter func50,ntmps50
  go_wp2_with (go_at_call 80;refine H.mono ?_;rintro e w' ⟨rfl,J⟩;subst w')
  go_ret
  exact⟨rfl,rfl⟩
 |true=>
  simp at A
  by_cases K:at_<0
  ·clear A
   go_enter func50,ntmps50
   go_wp2_with (go_at_call 80;refine H.mono ?_;rintro e w' ⟨rfl,J⟩;subst w')
   go_ret
   exact⟨rfl,rfl⟩
  by_cases L:at_≥64
  ·clear A
   go_enter func50,ntmps50
   go_wp2_with (go_at_call 80;refine H.mono ?_;rintro e w' ⟨rfl,J⟩;subst w')
   go_ret
   exact⟨rfl,rfl⟩
  by_cases M:I<1
  ·clear A
   go_enter func50,ntmps50
   go_wp2_with (go_at_call 80;refine H.mono ?_;rintro e w' ⟨rfl,J⟩;subst w')
   go_ret
   exact⟨rfl,rfl⟩
  have N:I>255:=A (by omega) (by omega) (by omega)
  clear A
  go_enter func50,ntmps50
  go_wp2_with (go_at_call 80;refine H.mono ?_;rintro e w' ⟨rfl,J⟩;subst w')
  go_ret
  exact⟨rfl,rfl⟩
theorem Kyd (d:Nat)(pg at_ n:Nat)(w:World)(F:Nat→Prop)(D:DS)(h:Zb w F d D)(p:List UInt8)(H:D.pages[pg]?=some (some p))(ba:at_<64)(bB:1≤n)(bA:n≤255) :
  Calls prog 50 #[.pointer (some ⟨d,0,none⟩),.int .i64 (pg:Int),.int .i64 (at_:Int),.int .i64 (n:Int)] w fun e w'=>e=.returned (.bool true)∧Zb w' F d ⟨D.quota,D.fail,D.writes,D.lowest,D.pages.set pg (some (Ksf p at_ n))⟩∧Ju F w w':=by
 have bc:=Jwv d (pg:Int) w F D h
 rw[Jtc H]at bc
 obtain⟨sv,I,A⟩:=h
 obtain⟨_,_,_,_,_,c5⟩:=A.field
 obtain⟨a,cap,rfl,bb⟩:=A.list
 have X:pg<I.length:=by
  rw[A.len]
  rcases Oc1 pg D.pages.length with M|M
  ·exact M
  rw[Ob4 M]at H;simp at H
 obtain⟨g,rfl,br,bz,cg,bn⟩:=bb pg X
 have L:=A.which pg X
 rw[Oa0,H]at L
 obtain⟨b,N⟩:∃ b,I[pg]=some b:=by
  cases hq:I[pg]with
  |none=>rw[hq]at L;simp at L
  |some b=>exact⟨b,rfl⟩
 rw[N]at cg
 simp only[Kew]at cg
 have R:I[pg]?=some (some b):=by rw[←N];simp[X]
 obtain⟨bh,bu,bx,J,O,U⟩:=A.page pg b R
 obtain rfl:J=p:=by rw[H]at O;simpa using O.symm
 have Y:=A.turnPage pg b J R H at_ n ba (by omega)
 have hk:=(Ju.refl F w).set bh at_ (.int .u8 (((J.getD at_ 0).toNat ^^^ n:Nat):Int))
 obtain⟨x,bi,Z⟩:∃ x:Nat,x<256∧Hid (x=(J.getD at_ 0).toNat):=⟨_,(J.getD at_ 0).toNat_lt,rfl⟩
 have bk:w.cell? ⟨b,at_,none⟩=some (.int .u8 (x:Nat)):=by rw[U.2.cell (i:=at_) ba,Z.out];rfl
 have bl:=U.2.frozen at_
 have bE:=Qcg x n bi (by omega)
 rw[←Z.out]at Y hk
 have bC:(pg:Int)<(I.length:Int):=by omega
 have bf:Hid (Zb (w.setCell ⟨b,at_,none⟩ (.int .u8 ((x ^^^ n:Nat):Int))) F d ⟨D.quota,D.fail,D.writes,D.lowest,D.pages.set pg (some (Ksf J at_ n))⟩):=⟨_,_,Y⟩
 have K:Hid (Ju F w (w.setCell ⟨b,at_,none⟩ (.int .u8 ((x ^^^ n:Nat):Int)))):=hk
 have bj:Hid (Jf1 w F d D (.slice (some ⟨g,0,none⟩) I.length cap) I):=A
 clear bb A U Y hk H O R L N
 go_enter func50,ntmps50
 go_wp2_with (go_at_call 80;refine bc.mono ?_;rintro e w' ⟨rfl,bD⟩;subst w')
 go_region
 all_goals
  go_wp2
  go_ret
  exact⟨rfl,bf.out.stands fun _ _ _=>rfl,K.out.os,K.out.tape,K.out.output,K.out.size,K.out.block⟩
end
section
open Go.RowKit Tryz
def Jb5:Nat→List UInt8→List (List UInt8)
 |0,_=>[]
 |_+1,[]=>[]
 |n+1,b::t=>(b::t).take 56::Jb5 n ((b::t).drop 56)
def Qu (t:List UInt8):List (List UInt8):=Jb5 t.length t
theorem Jl2:∀ (n m:Nat)(t:List UInt8),t.length≤n→t.length≤m→Jb5 n t=Jb5 m t
 |0,m,[],_,_=>by cases m<;>rfl
 |0,m,b::t,h,_=>by simp at h
 |n+1,0,[],_,_=>rfl
 |n+1,0,b::t,_,h=>by simp at h
 |n+1,m+1,[],_,_=>rfl
 |n+1,m+1,b::t,h,k=>by
  simp only[Jb5]
  rw[Jl2 n m ((b::t).drop 56) (by simp at h ⊢;omega) (by simp at k ⊢;omega)]
theorem Kj2:Qu []=[]:=rfl
theorem Jr2 (t:List UInt8)(h:t≠[]):Qu t=t.take 56::Qu (t.drop 56):=by
 cases t with
 |nil=>exact absurd rfl h
 |cons b t=>
  unfold Qu
  simp only[List.length_cons,Jb5]
  rw[Jl2 _ ((b::t).drop 56).length _ (by simp) (Oa2 _)]
def Uy (D:DS):List (List UInt8)→DS×List Nat×Option Bool
 |[]=>(D,[],none)
 |p::A=>if D.quota≤((Js D.pages:Nat):Int)then (D,[],some true)else if wrap64 (D.writes+1)=D.fail then (Jvn D,[],some false)else
   ((Uy (Zn D p) A).1,Kb D.pages::(Uy (Zn D p) A).2.1,(Uy (Zn D p) A).2.2)
def Kiw (l:List Nat)(r:DS×List Nat×Option Bool):DS×List Nat×Option Bool:=(r.1,l++r.2.1,r.2.2)
theorem Kjp (l:List Nat)(D:DS)(p:List UInt8)(A:List (List UInt8))(H:¬ D.quota≤((Js D.pages:Nat):Int))(I:¬ wrap64 (D.writes+1)=D.fail) :
  Kiw l (Uy D (p::A))=Kiw (l++[Kb D.pages]) (Uy (Zn D p) A):=by
 simp[Kiw,Uy,H,I]
theorem Zw:(prog.info? 3).map (fun i=>(i.zero,i.size,i.bytes))=some (some (.int .i64 0),1,8):=by kernel_rfl
theorem Jxm (D:DS)(p:List UInt8):(Zn D p).pages.length≤D.pages.length+1:=by
 simp only[Zn]
 split<;>simp
def Kky:Value→Nat
 |.string s=>s.size
 |_=>0
theorem Kkb (bs:List UInt8)(i j:Nat):(Qw bs).extract i j=Qw ((bs.take j).drop i):=by
 unfold Qw
 rw[Om5]
 simp[List.extract_eq_take_drop,List.drop_take]
def cap (F:Nat→Prop)(w:World):Nat→Prop:=fun k=>F k∧k<w.heap.size
theorem Zb.cap {w:World}{F:Nat→Prop}{d:Nat}{D:DS}(h:Zb w F d D):Zb w (cap F w) d D:=h.mono fun _ hk A=>⟨A,hk⟩
structure Kiy (w0:World) (F0:Nat→Prop) (w:World) (d:Nat) (E:DS) (sv:Value) (l:List Nat) (FD:Nat→Prop):Prop where
 disk:Zb w FD d E
 from_:∀ k,FD k→F0 k∨w0.heap.size≤k
 lt:∀ k,FD k→k<w.heap.size
 own:Jo w w0.heap.size 3 sv (l.map nv)
 apart:∀ g,sv.ownBlock=some g→¬ FD g
 keep:Ju F0 w0 w
def Kjn (D:DS):DS×Bool:=if D.quota≤((Js D.pages:Nat):Int)then (D,true)else (Jvn D,false)
theorem Kko (D:DS)(p:List UInt8)(I:List (List UInt8))(h:D.quota≤((Js D.pages:Nat):Int)∨wrap64 (D.writes+1)=D.fail):Uy D (p::I)=((Kjn D).1,[],some (Kjn D).2):=by
 unfold Kjn
 by_cases A:D.quota≤((Js D.pages:Nat):Int)
 ·simp[Uy,A]
 have H:=h.resolve_left A
 simp[Uy,A,H]
theorem Ki6 {F:Nat→Prop}{w w':World}{b:Nat}{a:Addr}{p:Int}(h:Yu w (.iface 211 (.pointer (some ⟨b,0,none⟩))) a none (some p))(hk:Ju F w w')(A:¬ F b):Yu w' (.iface 211 (.pointer (some ⟨b,0,none⟩))) a none (some p):=by
 obtain⟨h0,H⟩:=h.disk_at
 exact .disk b a p (hk.cell h0 A) (hk.cell H A)
theorem Kj7 (d:Nat)(s:ByteArray)(w:World)(F:Nat→Prop)(D:DS)(h:Zb w F d D)(q wr:Addr)(L:w.cell? ⟨4,0,none⟩=some (.iface 528 (.pointer (some q))))(hw:w.cell? ⟨5,0,none⟩=some (.iface 528 (.pointer (some wr))))
  (K:D.quota≤((Js D.pages:Nat):Int)∨wrap64 (D.writes+1)=D.fail) :
  Calls prog 163 #[.pointer (some ⟨d,0,none⟩),.string s] w fun e w'=>Ju F w w'∧Zb w' F d (Kjn D).1∧∃ b,e=.returned (.tuple #[.int .i64 0,.iface 211 (.pointer (some ⟨b,0,none⟩))])∧w.heap.size≤b∧Yu w' (.iface 211 (.pointer (some ⟨b,0,none⟩))) (if (Kjn D).2 then q else wr) none (some (-1)):=by
 unfold Kjn
 by_cases A:D.quota≤((Js D.pages:Nat):Int)
 ·rw[if_pos A]
  refine(Kjc d s w F D h q L A).mono ?_
  rintro e w' ⟨H,b,rfl,I,J⟩
  exact⟨.of_below H,h.below H,b,rfl,I,J⟩
 rw[if_neg A]
 exact Kj0 d s w F D h wr hw A (K.resolve_left A)
def Kkw (w:World)(F:Nat→Prop)(d:Nat)(q wr:Addr)(r:DS×List Nat×Option Bool)(e:Ending)(w':World):Prop:=
 Ju F w w'∧∃ FD:Nat→Prop,Zb w' FD d (match r.2.2 with|none=>r.1|some _=>Jf4 r.1 r.2.1)∧(∀ k,FD k→F k∨w.heap.size≤k)∧(∀ k,FD k→k<w'.heap.size) ∧
  match r.2.2 with
  |none=>∃ sv,e=.returned (.tuple #[sv,.nilIface])∧Jo w' w.heap.size 3 sv (r.2.1.map nv)∧∀ g,sv.ownBlock=some g→¬ FD g
  |some x=>∃ b,e=.returned (.tuple #[.slice none 0 0,.iface 211 (.pointer (some ⟨b,0,none⟩))])∧w.heap.size≤b∧Yu w' (.iface 211 (.pointer (some ⟨b,0,none⟩))) (if x then q else wr) none (some (-1))∧¬ FD b
theorem Kiy.stand {A w w':World}{H FD:Nat→Prop}{d:Nat}{E:DS}{sv:Value}{l:List Nat}(h:Kiy A H w d E sv l FD)(hk:Ju FD w w'):Jo w' A.heap.size 3 sv (l.map nv)∧Ju H A w':=
 ⟨Yd h.own fun g I=>hk.block g (Qk h.own I) (h.apart g I),h.keep.trans' hk fun k K J=>(h.from_ k J).resolve_right (by omega)⟩
theorem Jji {w:World}{B:Nat}{e:TypeId}{a:Option Addr}{n c:Nat}{xs:List Value}(h:Jo w B e (.slice a n c) xs):Uh w a xs∧∀ b o,a=some ⟨b,o,none⟩→(Value.slice a n c).ownBlock=some b:=by
 obtain⟨J,K,A,I⟩:=h.cells
 simp at A
 obtain⟨rfl,_,_⟩:=A
 exact⟨I,fun b o H=>by subst H;rfl⟩
theorem Kiy.more {L wr H K:World}{M FD:Nat→Prop}{d:Nat}{E:DS}{sv sv':Value}{l:List Nat}(h:Kiy L M wr d E sv l FD)(Z:Ju FD wr H)(pc:List UInt8)(Y:Zb H (up FD wr) d (Zn E pc))(o:Obj)
  (bc:Jo K L.heap.size 3 sv' (l.map nv++[nv (Kb E.pages)])) (I:(H.alloc o).grownBy K sv.ownBlock) (X:sv'.ownBlock=sv.ownBlock∨sv'.ownBlock=some (H.alloc o).heap.size) :
  Kiy L M K d (Zn E pc) sv' (l++[Kb E.pages]) (cap (up FD wr) H):=by
 have bf:=I.size
 rw[Oa7]at bf
 have R:∀ g,sv.ownBlock=some g→g<wr.heap.size:=fun g I=>Qk h.own I
 have U:∀ k,k<H.heap.size→sv.ownBlock≠some k→K.heap[k]?=H.heap[k]?:=fun k hk bb=>(I.block k (by simp;omega) (Oc5 bb)).trans (Oa9 H o k hk)
 refine⟨Y.cap.stands fun k hk O=>U k O fun e=>?_,fun k hk=>?_,fun k hk=>Oc2 hk.2 (by omega),?_,fun g J=>?_,?_⟩
 ·rcases hk.1 with A|A
  ·exact h.apart k e A
  have:=R k e;omega
 ·rcases hk.1 with A|A
  ·exact h.from_ k A
  exact .inr (Ob2 h.keep.size A)
 ·rw[Ob8];exact bc
 ·rintro⟨bh,O⟩
  rcases X with e|e
  ·rw[e]at J
   rcases bh with A|A
   ·exact h.apart g J A
   have:=R g J;omega
  rw[e]at J
  simp at J
  omega
 have hk:=(h.stand Z).2
 refine⟨I.os.trans hk.os,I.tape.trans hk.tape,I.output.trans hk.output,Ob2 hk.size (by omega),fun k N ba=>?_⟩
 refine(U k (Oc2 N hk.size) fun e=>?_).trans (hk.block k N ba)
 have:=(Je h.own e).1
 omega
theorem Kkq (d:Nat)(I:List UInt8)(w:World)(F:Nat→Prop)(D:DS)(h:Zb w F d D)(hF:∀ k,F k→k<w.heap.size)(q bj:Addr)
  (Y:w.cell? ⟨4,0,none⟩=some (.iface 528 (.pointer (some q)))) (hw:w.cell? ⟨5,0,none⟩=some (.iface 528 (.pointer (some bj)))) (bA:¬ F 4) (bB:¬ F 5) (bJ:D.pages.length+(Qu I).length≤950000) (cb:I.length≤1000000) :
  Calls prog 130 #[.pointer (some ⟨d,0,none⟩),.string (Qw I)] w fun e w'=>Kkw w F d q bj (Uy D (Qu I)) e w':=by
 go_enter func130,ntmps130
 go_wp2
 go_loopw [1,6] (fun Z sv bN=>∃ (rest:List UInt8) (E:DS) (l:List Nat) (FD:Nat→Prop),Z=.string (Qw rest)∧rest.length≤I.length∧l.length+(Qu rest).length≤950000∧E.pages.length+(Qu rest).length≤950000∧Kiy w F bN d E sv l FD∧Hid (Uy D (Qu I)=Kiw l (Uy E (Qu rest)))) (fun Z _ _=>Kky Z)
 case atStart=>exact⟨I,D,[],F,rfl,Oa2 _,by simp;omega,bJ,⟨h,fun k hk=>.inl hk,hF,Jo.nil _ _ _,fun g bI=>by simp[Value.ownBlock]at bI,Ju.refl _ _⟩,rfl⟩
 case round=>
  rename_i Z sv
  obtain⟨rest,E,l,FD,rfl,bZ,bT,bS,A,K⟩:=hrel
  have bK:=Jb2 rest
  by_cases bh:rest=[]
  ·subst bh
   rw[Kj2]at K
   have ba:Hid (Uy D (Qu I)=(E,l,none)):=by show _=_;rw[K.out];simp[Kiw,Uy]
   obtain⟨a,cap,L,_⟩:=A.own.cells
   subst L
   simp at bK
   go_wp2
   go_ret2
   rw[ba.out]
   exact⟨A.keep,FD,A.disk,A.from_,A.lt,_,rfl,A.own,A.apart⟩
  have bY:0<rest.length:=Oi9.2 bh
  have bb:Hid (Qu rest=rest.take 56::Qu (rest.drop 56)):=Jr2 rest bh
  have bX:(Qu rest).length=(Qu (rest.drop 56)).length+1:=by rw[bb.out];rfl
  obtain⟨n,bW,U⟩:∃ n:Nat,(n≤rest.length∧n≤56)∧Hid (n=min rest.length 56):=⟨min rest.length 56,by omega,rfl⟩
  have bl:Hid (rest.take n=rest.take 56):=by
   show _=_
   rw[U.out]
   rcases Oc1 rest.length 56 with O|O
   ·rw[Oj1 (by omega),Oc8 (Oa2 _),Oc8 (by omega)]
   rw[Ol4 O]
  have bk:Hid (rest.drop n=rest.drop 56):=by
   show _=_
   rw[U.out]
   rcases Oc1 rest.length 56 with O|O
   ·rw[Oj1 (by omega),Ol8 (Oa2 _),Ol8 (by omega)]
   rw[Ol4 O]
  have bu:=Kkb rest 0 n
  have bx:=Kkb rest n rest.length
  rw[List.drop_zero,bl.out]at bu
  rw[Of2,bk.out]at bx
  have bR:(rest.drop 56).length<rest.length:=by rw[Of7];omega
  have bL:(rest.take 56).length≤56:=by rw[Oc7];omega
  have bV:(if 56<(rest.length:Int)then (56:Int)else (rest.length:Int))=(n:Int):=by have:=U.out;split<;>omega
  rw[bb.out]at K
  clear bb bl bk U
  generalize rest.take 56=pc at *
  generalize rest.drop 56=bM at *
  by_cases N:E.quota≤((Js E.pages:Nat):Int)∨wrap64 (E.writes+1)=E.fail
  ·have ba:Hid (Uy D (Qu I)=((Kjn E).1,l,some (Kjn E).2)):=by show _=_;rw[K.out,Kko E _ _ N];simp[Kiw]
   have bi:=Kj7 d (Qw pc) wr FD E A.disk q bj (A.keep.cell Y bA) (A.keep.cell hw bB) N
   have H:Hid (Kiy w F wr d E u6 l FD):=A
   obtain⟨a,cap,L,_⟩:=A.own.cells
   rw[Oa6]at L
   clear A N K
   subst L
   go_wp2_with (first|(go_at_call 163;refine bi.mono ?_;rintro e X ⟨J,bc,b,rfl,bD,bE⟩)|(go_at_call 104;refine(Ki0 d a cap l X FD _ bc (Jji (H.out.stand J).1).1 (fun b o bC=>H.out.apart b ((Jji (H.out.stand J).1).2 b o bC)) (by omega)).mono ?_;rintro e bO ⟨rfl,bG,bf⟩))
   go_ret2
   rw[ba.out]
   have bn:¬ FD b:=fun bH=>by have:=H.out.lt b bH;omega
   exact⟨(H.out.stand (J.trans bf)).2,FD,bG,H.out.from_,fun k hk=>Oc2 (H.out.lt k hk) (Ob2 J.size bf.size),b,rfl,Ob2 H.out.keep.size bD,Ki6 bE bf bn,bn⟩
  have M:¬ E.quota≤((Js E.pages:Nat):Int):=fun h=>N (.inl h)
  have R:¬ wrap64 (E.writes+1)=E.fail:=fun h=>N (.inr h)
  rw[Kjp l E pc _ M R]at K
  have bi:=Kjt d pc bL wr FD E A.disk (by omega) M R
  have cc:=Jxm E pc
  have H:Hid (Kiy w F wr d E u6 l FD):=A
  obtain⟨a,cap,L,_⟩:=A.own.cells
  rw[Oa6]at L
  clear A N M R
  subst L
  have bU:=H.out.keep.size
  go_wp2_with (first|(go_at_call 163;refine bi.mono ?_;rintro e X ⟨J,bc,rfl⟩;have ca:=J.size)|(at_builtin;go_must (refine Ks (by rfl) _ _ 27 3 _ 8 Zw (by rfl) (by decide) (by kernel_rfl) (by rfl) w.heap.size _ _ (by rfl) (Jo.alloc (H.out.stand J).1 _) ⟨X.heap.size,0,none⟩ 1 [nv (Kb E.pages)] (by rfl) (by exact Ua X _ _) (by intro u br;simp at br;subst br;rfl) (by simp only[List.length_cons,List.length_nil,Oa6];omega) (by simp;omega) ?_);intro sv' cf M R bz;obtain⟨bP,bQ,rfl,_⟩:=M.cells))
  go_roundw
  case rel=>
   have Y:=H.out.more J pc bc _ M R bz
   rw[Oa8,Oa6]at Y
   exact⟨bM,Zn E pc,l++[Kb E.pages],_,rfl,by omega,by simp;omega,by omega,Y,K.out⟩
  case measure=>simp only[Kky];simp[Jb2];omega
end
end Go.Proofs.YtcaocabmioafcaaGreatDoor
