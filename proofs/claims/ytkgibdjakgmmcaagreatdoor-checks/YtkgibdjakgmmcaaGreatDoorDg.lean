/- The disk in memory: its fields, its list of pages, the pages themselves; what stands when something else turns. -/
import Derived.Test.YtkgibdjakgmmcaaGreatDoorRh
import Derived.Test.YtkgibdjakgmmcaaGreatDoorEw
set_option maxHeartbeats 2000000
set_option maxRecDepth 100000
namespace Go.Proofs.YtkgibdjakgmmcaaGreatDoor
section
open Go.RowKit
structure Keep (F:Nat→Prop) (w w':World):Prop where
 os:w'.os=w.os
 tape:w'.tape=w.tape
 output:w'.output=w.output
 size:w.heap.size≤w'.heap.size
 block:∀ k,k<w.heap.size→¬ F k→w'.heap[k]?=w.heap[k]?
theorem Keep.refl (F:Nat→Prop)(w:World):Keep F w w:=⟨rfl,rfl,rfl,Nat.le_refl _,fun _ _ _=>rfl⟩
theorem Keep.trans {F:Nat→Prop}{a b c:World}(h:Keep F a b)(k:Keep F b c):Keep F a c:=
 ⟨k.os.trans h.os,k.tape.trans h.tape,k.output.trans h.output,Nat.le_trans h.size k.size,fun i hi hn=>(k.block i (Nat.lt_of_lt_of_le hi h.size) hn).trans (h.block i hi hn)⟩
theorem Keep.trans' {F G:Nat→Prop}{a b c:World}(h:Keep F a b)(k:Keep G b c)(hFG:∀ i,i<a.heap.size→G i→F i):Keep F a c:=
 ⟨k.os.trans h.os,k.tape.trans h.tape,k.output.trans h.output,Nat.le_trans h.size k.size,fun i hi hn=>(k.block i (Nat.lt_of_lt_of_le hi h.size) (fun hg=>hn (hFG i hi hg))).trans (h.block i hi hn)⟩
theorem Keep.mono {F G:Nat→Prop}{w w':World}(h:Keep F w w')(hFG:∀ k,k<w.heap.size→F k→G k):Keep G w w':=
 ⟨h.os,h.tape,h.output,h.size,fun k hk hn=>h.block k hk (fun hf=>hn (hFG k hk hf))⟩
theorem Keep.of_below {F:Nat→Prop}{w w':World}(h:Below w.heap.size w w'):Keep F w w':=⟨h.os,h.tape,h.output,h.size,fun k hk _=>h.block k hk⟩
theorem Keep.alloc {F:Nat→Prop}{w w':World}(h:Keep F w w')(o:Obj):Keep F w (w'.alloc o):=h.trans (.of_below ((Below.refl _ _).alloc (Nat.le_refl _) _))
theorem Keep.set {F:Nat→Prop}{w w':World}(h:Keep F w w'){b:Nat}(hb:F b)(i:Nat)(v:Value):Keep F w (w'.setCell ⟨b,i,none⟩ v):=
 h.trans ⟨rfl,rfl,rfl,by simp[World.setCell],fun k _ hn=>Below.heap_setCell _ _ _ _ (fun e=>hn (by rw[e];exact hb))⟩
theorem Keep.below {F:Nat→Prop}{w w':World}(h:Keep F w w'){B:Nat}(hF:∀ k,k<B→¬ F k)(hB:B≤w.heap.size):Below B w w':=⟨h.os,h.tape,h.output,h.size,fun k hk=>h.block k (by omega) (hF k hk)⟩
theorem Keep.cell {F:Nat→Prop}{w w':World}(h:Keep F w w'){b o:Nat}{v:Value}(hc:w.cell? ⟨b,o,none⟩=some v)(hn:¬ F b):w'.cell? ⟨b,o,none⟩=some v:=by
 rw[World.cell?_of_block (w:=w) (h.block b (lt_of_cell hc) hn)];exact hc
theorem Keep.drewN {F:Nat→Prop}{w w':World}(h:Keep F w w')(n:Nat):Keep F w (w'.drewN n):=⟨h.os,h.tape,h.output,h.size,h.block⟩
def up (F:Nat→Prop)(w:World):Nat→Prop:=fun k=>F k∨w.heap.size≤k
theorem Keep.down {F:Nat→Prop}{w w':World}(h:Keep (up F w) w w'):Keep F w w':=h.mono fun k hk hu=>hu.elim id (fun h=>absurd hk (by omega))
structure DS where
 quota:Int
 fail:Int
 writes:Int
 lowest:Nat
 pages:List (Option (List UInt8))
def usedOf (l:List (Option (List UInt8))):Nat:=l.countP Option.isSome
theorem usedOf_le (l:List (Option (List UInt8))):usedOf l≤l.length:=List.countP_le_length
def ptrV:Option Nat→Value
 |none=>.pointer none
 |some b=>.pointer (some ⟨b,0,none⟩)
structure DiskX (w:World) (F:Nat→Prop) (d:Nat) (D:DS) (sv:Value) (ps:List (Option Nat)):Prop where
 cells:w.heap[d]?=some (.cells #[.int .i64 D.quota,.int .i64 D.fail,.int .i64 D.writes,.int .i64 ((usedOf D.pages:Nat):Int),.int .i64 ((D.lowest:Nat):Int),sv] 102 (0,0))
 own:OwnC w 0 261 sv (ps.map ptrV)
 ownF:∀ g,sv.ownBlock=some g→F g∧g≠d
 dF:F d
 len:ps.length=D.pages.length
 page:∀ (i b:Nat),ps[i]?=some (some b)→F b∧b≠d∧sv.ownBlock≠some b∧∃ p,D.pages[i]?=some (some p)∧PgAt w b p
 vacant:∀ i:Nat,ps[i]?=some Option.none→D.pages[i]?=some Option.none
 inj:∀ (i j b:Nat),ps[i]?=some (some b)→ps[j]?=some (some b)→i=j
 low:D.lowest≤D.pages.length
 full:∀ i:Nat,i<D.lowest→∃ p,D.pages[i]?=some (some p)
 small:D.pages.length≤900000
def DiskAt (w:World)(F:Nat→Prop)(d:Nat)(D:DS):Prop:=∃ sv ps,DiskX w F d D sv ps
theorem own_block_ge {w:World}{B:Nat}{e:TypeId}{sv:Value}{xs:List Value}{g:Nat}(h:OwnC w B e sv xs)(hg:sv.ownBlock=some g):g<w.heap.size:=by
 rcases h.2 with⟨hv,_⟩|⟨g',cap,cur,hv,_,hb,_⟩
 ·subst hv;simp[Value.ownBlock]at hg
 subst hv
 simp[Value.ownBlock]at hg
 subst hg
 exact lt_of_heap hb
theorem own_of_block {w w':World}{B:Nat}{e:TypeId}{sv:Value}{xs:List Value}(h:OwnC w B e sv xs)(hk:∀ g,sv.ownBlock=some g→w'.heap[g]?=w.heap[g]?):OwnC w' B e sv xs:=by
 refine⟨h.1,?_⟩
 rcases h.2 with h|⟨g',cap,cur,hv,hB,hb,hr⟩
 ·exact .inl h
 refine .inr ⟨g',cap,cur,hv,hB,?_,hr⟩
 rw[hk g' (by subst hv;simp[Value.ownBlock])]
 exact hb
theorem DiskX.stands {w w':World}{F:Nat→Prop}{d:Nat}{D:DS}{sv:Value}{ps:List (Option Nat)}(h:DiskX w F d D sv ps)(hk:∀ k,F k→k<w.heap.size→w'.heap[k]?=w.heap[k]?):DiskX w' F d D sv ps:=
 ⟨by rw[hk d h.dF (lt_of_heap h.cells)];exact h.cells,own_of_block h.own fun g hg=>hk g (h.ownF g hg).1 (own_block_ge h.own hg),h.ownF,h.dF,h.len,
  fun i b hi=>by obtain⟨f,n1,n2,p,hp,hq⟩:=h.page i b hi;exact⟨f,n1,n2,p,hp,hq.of_block (hk b f hq.2.lt)⟩,h.vacant,h.inj,h.low,h.full,h.small⟩
theorem DiskAt.stands {w w':World}{F:Nat→Prop}{d:Nat}{D:DS}(h:DiskAt w F d D)(hk:∀ k,F k→k<w.heap.size→w'.heap[k]?=w.heap[k]?):DiskAt w' F d D:=by
 obtain⟨sv,ps,h⟩:=h
 exact⟨sv,ps,h.stands hk⟩
theorem DiskX.below {w w':World}{F:Nat→Prop}{d:Nat}{D:DS}{sv:Value}{ps:List (Option Nat)}(h:DiskX w F d D sv ps)(hb:Below w.heap.size w w'):DiskX w' F d D sv ps:=h.stands fun k _ hk=>hb.block k hk
theorem DiskAt.below {w w':World}{F:Nat→Prop}{d:Nat}{D:DS}(h:DiskAt w F d D)(hb:Below w.heap.size w w'):DiskAt w' F d D:=h.stands fun k _ hk=>hb.block k hk
theorem DiskX.mono {w:World}{F G:Nat→Prop}{d:Nat}{D:DS}{sv:Value}{ps:List (Option Nat)}(h:DiskX w F d D sv ps)(hFG:∀ k,k<w.heap.size→F k→G k):DiskX w G d D sv ps:=
 ⟨h.cells,h.own,fun g hg=>⟨hFG g (own_block_ge h.own hg) (h.ownF g hg).1,(h.ownF g hg).2⟩,hFG d (lt_of_heap h.cells) h.dF,h.len,
  fun i b hi=>by obtain⟨f,n1,n2,p,hp,hq⟩:=h.page i b hi;exact⟨hFG b hq.2.lt f,n1,n2,p,hp,hq⟩,h.vacant,h.inj,h.low,h.full,h.small⟩
theorem DiskAt.mono {w:World}{F G:Nat→Prop}{d:Nat}{D:DS}(h:DiskAt w F d D)(hFG:∀ k,k<w.heap.size→F k→G k):DiskAt w G d D:=by
 obtain⟨sv,ps,h⟩:=h
 exact⟨sv,ps,h.mono hFG⟩
theorem DiskX.field {w:World}{F:Nat→Prop}{d:Nat}{D:DS}{sv:Value}{ps:List (Option Nat)}(h:DiskX w F d D sv ps) :
  w.cell? ⟨d,0,.none⟩=some (.int .i64 D.quota)∧w.cell? ⟨d,1,.none⟩=some (.int .i64 D.fail)∧w.cell? ⟨d,2,.none⟩=some (.int .i64 D.writes)∧w.cell? ⟨d,3,.none⟩=some (.int .i64 ((usedOf D.pages:Nat):Int)) ∧
   w.cell? ⟨d,4,.none⟩=some (.int .i64 ((D.lowest:Nat):Int))∧w.cell? ⟨d,5,.none⟩=some sv:=by
 simp[World.cell?,h.cells]
theorem DiskX.thaw {w:World}{F:Nat→Prop}{d:Nat}{D:DS}{sv:Value}{ps:List (Option Nat)}(h:DiskX w F d D sv ps)(i:Nat):w.frozen? ⟨d,i,.none⟩=false:=by simp[World.frozen?,h.cells]
theorem own_cells {w:World}{B:Nat}{e:TypeId}{sv:Value}{xs:List Value}(h:OwnC w B e sv xs):∃ a cap,sv=.slice a xs.length cap∧∀ i x,xs[i]?=some x→∃ g,a=some ⟨g,0,none⟩∧sv.ownBlock=some g∧w.cell? ⟨g,i,none⟩=some x∧w.frozen? ⟨g,i,none⟩=false:=by
 rcases h.2 with⟨hv,h0⟩|⟨g,cap,cur,hv,_,hb,hle,_,hsz,hcur⟩
 ·refine⟨none,0,by rw[hv,h0],fun i x hx=>?_⟩
  rw[List.length_eq_zero_iff.1 h0]at hx
  simp at hx
 refine⟨some ⟨g,0,none⟩,cap,hv,fun i x hx=>⟨g,rfl,by subst hv;simp[Value.ownBlock],?_,by simp[World.frozen?,hb]⟩⟩
 have hi:i<xs.length:=by
  rcases Nat.lt_or_ge i xs.length with h'|h'
  ·exact h'
  rw[List.getElem?_eq_none h']at hx;simp at hx
 rw[←hcur]at hx
 rw[Nat.mul_one,List.getElem?_take_of_lt hi,Array.getElem?_toList]at hx
 simp[World.cell?,hb,hx]
def inUseB (l:List (Option (List UInt8)))(page:Int):Bool:=decide (0≤page∧page<l.length)&&(l.getD page.toNat .none).isSome
theorem DiskX.list {w:World}{F:Nat→Prop}{d:Nat}{D:DS}{sv:Value}{ps:List (Option Nat)}(h:DiskX w F d D sv ps) :
  ∃ a cap,sv=.slice a ps.length cap∧∀ (i:Nat) (hi:i<ps.length),∃ g,a=some ⟨g,0,none⟩∧F g∧g≠d∧w.cell? ⟨g,i,none⟩=some (ptrV ps[i])∧w.frozen? ⟨g,i,none⟩=false:=by
 obtain⟨a,cap,he,hc⟩:=own_cells h.own
 rw[List.length_map]at he
 refine⟨a,cap,he,fun i hi=>?_⟩
 obtain⟨g,h1,h2,h3,h4⟩:=hc i (ptrV ps[i]) (by simp[hi])
 exact⟨g,h1,(h.ownF g h2).1,(h.ownF g h2).2,h3,h4⟩
theorem DiskX.which {w:World}{F:Nat→Prop}{d:Nat}{D:DS}{sv:Value}{ps:List (Option Nat)}(h:DiskX w F d D sv ps)(i:Nat)(hi:i<ps.length):(D.pages.getD i none).isSome=ps[i].isSome:=by
 cases hq:ps[i]with
 |none=>rw[List.getD_eq_getElem?_getD,h.vacant i (by rw[←hq];simp[hi])];rfl
 |some b=>obtain⟨_,_,_,p,hp,_⟩:=h.page i b (by rw[←hq];simp[hi]);rw[List.getD_eq_getElem?_getD,hp];rfl
theorem dInUse_any (d:Nat)(page:Int)(w:World)(F:Nat→Prop)(D:DS)(h:DiskAt w F d D) :
  Calls Tryz.prog 142 #[.pointer (some ⟨d,0,none⟩),.int .i64 page] w fun e w'=>e=.returned (.bool (inUseB D.pages page))∧w'=w:=by
 obtain⟨sv,ps,h⟩:=h
 obtain⟨_,_,_,_,_,c5⟩:=h.field
 obtain⟨a,cap,rfl,hc⟩:=h.list
 have hlen:=h.len
 unfold inUseB
 rw[←hlen]
 by_cases h0:0≤page
 ·obtain⟨i,rfl⟩:=Int.eq_ofNat_of_zero_le h0
  by_cases hi:i<ps.length
  ·obtain⟨g,rfl,_,_,c,f⟩:=hc i hi
   have hpg:=h.which i hi
   have hlt:(i:Int)<(ps.length:Int):=by omega
   rw[show (Int.toNat (i:Int))=i from rfl,hpg]
   clear hpg hc h hlen
   cases hq:ps[i]with
   |none=>
    rw[hq]at c
    simp only[ptrV]at c
    go_enter Tryz.func142,Tryz.ntmps142
    go_wp2
    go_ret
    exact⟨ret_bool (by simp),rfl⟩
   |some b=>
    rw[hq]at c
    simp only[ptrV]at c
    go_enter Tryz.func142,Tryz.ntmps142
    go_wp2
    go_ret
    exact⟨ret_bool (by simp[hi]),rfl⟩
  have hlt:¬ (i:Int)<(ps.length:Int):=by omega
  clear hc h hlen
  go_enter Tryz.func142,Tryz.ntmps142
  go_wp2
  go_ret
  exact⟨ret_bool (by first|(simp;done)|(simp;omega)),rfl⟩
 clear hc h hlen
 go_enter Tryz.func142,Tryz.ntmps142
 go_wp2
 go_ret
 exact⟨ret_bool (by first|(simp;done)|(simp;omega)),rfl⟩
theorem dUsed_any (d:Nat)(w:World)(F:Nat→Prop)(D:DS)(h:DiskAt w F d D) :
  Calls Tryz.prog 19 #[.pointer (some ⟨d,0,none⟩)] w fun e w'=>e=.returned (.int .i64 ((usedOf D.pages:Nat):Int))∧w'=w:=by
 obtain⟨sv,ps,h⟩:=h
 obtain⟨_,_,_,c3,_,_⟩:=h.field
 clear h
 go_enter Tryz.func19,Tryz.ntmps19
 go_wp2
 go_ret
 exact⟨rfl,rfl⟩
def emptyDS (q f:Int):DS:=⟨q,f,0,0,[]⟩
theorem dNew_any (q f:Int)(w:World) :
  Calls Tryz.prog 28 #[.agg #[.int .i64 q,.int .i64 f]] w fun e w'=>∃ b,e=.returned (.pointer (some ⟨b,0,none⟩))∧w.heap.size≤b∧DiskAt w' (fun k=>k=b) b (emptyDS q f)∧Below w.heap.size w w':=by
 go_enter Tryz.func28,Tryz.ntmps28
 go_wp2
 go_ret
 refine⟨_,rfl,?_,⟨.slice none 0 0,[],?_,OwnC.nil _ _ _,?_,rfl,rfl,?_,?_,?_,?_,?_,?_⟩,?_⟩
 ·simp
 ·have:=heap_alloc_new (w.alloc (.cells #[.int .i64 q,.int .i64 f] 35)) (.cells #[.int .i64 q,.int .i64 f,.int .i64 0,.int .i64 0,.int .i64 0,.slice none 0 0] 102)
  rw[World.size_alloc]at this
  exact this
 ·intro g hg;simp[Value.ownBlock]at hg
 ·intro i b hi;simp at hi
 ·intro i hi;simp at hi
 ·intro i j b hi;simp at hi
 ·simp[emptyDS]
 ·intro i hi;simp[emptyDS]at hi
 ·simp[emptyDS]
 exact((Below.refl _ _).alloc (Nat.le_refl _) _).alloc (by simp) _
end
section
open Go.RowKit
theorem info_pstored:(Tryz.prog.info? 261).map (fun i=>(i.zero,i.size,i.bytes))=some (some (.pointer none),1,8):=by kernel_rfl
theorem DiskX.turn {w w':World}{F:Nat→Prop}{d:Nat}{D:DS}{sv:Value}{ps:List (Option Nat)}(h:DiskX w F d D sv ps)(wr:Int)(lo:Nat)
  (hd:w'.heap[d]?=some (.cells #[.int .i64 D.quota,.int .i64 D.fail,.int .i64 wr,.int .i64 ((usedOf D.pages:Nat):Int),.int .i64 ((lo:Nat):Int),sv] 102 (0,0)))
  (hk:∀ k,k≠d→k<w.heap.size→w'.heap[k]?=w.heap[k]?) (hlo:lo≤D.pages.length) (hfull:∀ i,i<lo→∃ p,D.pages[i]?=some (some p)):DiskX w' F d ⟨D.quota,D.fail,wr,lo,D.pages⟩ sv ps:=
 ⟨hd,own_of_block h.own fun g hg=>hk g (h.ownF g hg).2 (own_block_ge h.own hg),h.ownF,h.dF,h.len,
  fun i b hi=>by obtain⟨f,n1,n2,p,hp,hq⟩:=h.page i b hi;exact⟨f,n1,n2,p,hp,hq.of_block (hk b n1 hq.2.lt)⟩,h.vacant,h.inj,hlo,hfull,h.small⟩
theorem DiskX.setLow {w:World}{F:Nat→Prop}{d:Nat}{D:DS}{sv:Value}{ps:List (Option Nat)}(h:DiskX w F d D sv ps)(lo:Nat)(hlo:lo≤D.pages.length)(hfull:∀ i,i<lo→∃ p,D.pages[i]?=some (some p)) :
  DiskX (w.setCell ⟨d,4,none⟩ (.int .i64 ((lo:Nat):Int))) F d ⟨D.quota,D.fail,D.writes,lo,D.pages⟩ sv ps:=
 h.turn D.writes lo (by have:=heap_set h.cells 4 (.int .i64 ((lo:Nat):Int));simpa using this) (fun k hk _=>Below.heap_setCell _ _ _ _ hk) hlo hfull
theorem DiskX.setWrites {w:World}{F:Nat→Prop}{d:Nat}{D:DS}{sv:Value}{ps:List (Option Nat)}(h:DiskX w F d D sv ps)(wr:Int) :
  DiskX (w.setCell ⟨d,2,none⟩ (.int .i64 wr)) F d ⟨D.quota,D.fail,wr,D.lowest,D.pages⟩ sv ps:=
 h.turn wr D.lowest (by have:=heap_set h.cells 2 (.int .i64 wr);simpa using this) (fun k hk _=>Below.heap_setCell _ _ _ _ hk) h.low h.full
theorem DiskX.longer {w w1:World}{F:Nat→Prop}{d:Nat}{D:DS}{sv sv':Value}{ps:List (Option Nat)}(h:DiskX w F d D sv ps)(hup:∀ k,w.heap.size≤k→F k)(hown:OwnC w1 0 261 sv' (ps.map ptrV++[.pointer none]))
  (hg:∀ k,k<w.heap.size→sv.ownBlock≠some k→w1.heap[k]?=w.heap[k]?) (hb:sv'.ownBlock=sv.ownBlock∨∃ n,sv'.ownBlock=some n∧w.heap.size≤n) (hsm:D.pages.length<900000) :
  DiskX (w1.setCell ⟨d,5,none⟩ sv') F d ⟨D.quota,D.fail,D.writes,D.lowest,D.pages++[none]⟩ sv' (ps++[none]):=by
 have hdl:=lt_of_heap h.cells
 have hne:∀ g,sv'.ownBlock=some g→g≠d:=by
  intro g hg' he
  rcases hb with hb|⟨n,hb,hn⟩
  ·rw[hb]at hg';exact(h.ownF g hg').2 he
  rw[hb]at hg';cases hg';omega
 have hc:w1.heap[d]?=some (.cells #[.int .i64 D.quota,.int .i64 D.fail,.int .i64 D.writes,.int .i64 ((usedOf D.pages:Nat):Int),.int .i64 ((D.lowest:Nat):Int),sv] 102 (0,0)):=by
  rw[hg d hdl (fun e=>(h.ownF d e).2 rfl)];exact h.cells
 have hu:usedOf (D.pages++[none])=usedOf D.pages:=by simp[usedOf,List.countP_append]
 refine⟨?_,?_,?_,h.dF,by simp[h.len],?_,?_,?_,?_,?_,by simp;omega⟩
 ·have:=heap_set hc 5 sv'
  rw[hu]
  simpa using this
 ·have:(ps++[none]).map ptrV=ps.map ptrV++[.pointer none]:=by simp[ptrV]
  rw[this]
  exact own_of_block hown fun g hg'=>Below.heap_setCell _ _ _ _ (hne g hg')
 ·intro g hg'
  refine⟨?_,hne g hg'⟩
  rcases hb with hb|⟨n,hb,hn⟩
  ·rw[hb]at hg';exact(h.ownF g hg').1
  rw[hb]at hg';cases hg';exact hup _ hn
 ·intro i b hi
  rcases Nat.lt_or_ge i ps.length with h'|h'
  ·rw[List.getElem?_append_left h']at hi
   obtain⟨f,n1,n2,p,hp,hq⟩:=h.page i b hi
   refine⟨f,n1,?_,p,?_,?_⟩
   ·rcases hb with hb|⟨n,hb,hn⟩
    ·rw[hb];exact n2
    rw[hb]
    intro e
    have:=hq.2.lt
    cases e
    omega
   ·rw[List.getElem?_append_left (by rw[←h.len];exact h')];exact hp
   refine hq.of_block ?_
   rw[Below.heap_setCell _ _ _ _ n1]
   exact hg b hq.2.lt n2
  rw[List.getElem?_append_right h']at hi
  rcases hz:i-ps.length with _|z
  ·rw[hz]at hi;simp at hi
  rw[hz]at hi;simp at hi
 ·intro i hi
  rcases Nat.lt_or_ge i ps.length with h'|h'
  ·rw[List.getElem?_append_left h']at hi
   rw[List.getElem?_append_left (by rw[←h.len];exact h')]
   exact h.vacant i hi
  have:i=ps.length:=by
   rcases Nat.lt_or_ge i (ps.length+1)with h2|h2
   ·omega
   ·rw[List.getElem?_eq_none (by simp;omega)]at hi;simp at hi
  subst this
  rw[h.len]
  simp
 ·intro i j b hi hj
  have key:∀ i:Nat,(ps++[none])[i]?=some (some b)→ps[i]?=some (some b):=by
   intro i hi
   rcases Nat.lt_or_ge i ps.length with h'|h'
   ·rwa [List.getElem?_append_left h']at hi
   rw[List.getElem?_append_right h']at hi
   rcases hz:i-ps.length with _|z
   ·rw[hz]at hi;simp at hi
   rw[hz]at hi;simp at hi
  exact h.inj i j b (key i hi) (key j hj)
 ·simp;have:=h.low;omega
 intro i hi
 obtain⟨p,hp⟩:=h.full i hi
 refine⟨p,?_⟩
 rw[List.getElem?_append_left]
 ·exact hp
 have:=h.low;simp at hi ⊢;omega
def firstFree:List (Option (List UInt8))→Nat
 |[]=>0
 |none::_=>0
 |some _::l=>firstFree l+1
theorem firstFree_le:∀ l,firstFree l≤l.length
 |[]=>Nat.le_refl _
 |none::_=>by simp[firstFree]
 |some _::l=>by simp[firstFree];exact firstFree_le l
theorem firstFree_used:∀ (l:List (Option (List UInt8)))(i:Nat),i<firstFree l→∃ p,l[i]?=some (some p)
 |[],i,h=>by simp[firstFree]at h
 |none::_,i,h=>by simp[firstFree]at h
 |some x::l,0,_=>⟨x,rfl⟩
 |some x::l,i+1,h=>by
  obtain⟨p,hp⟩:=firstFree_used l i (by simp[firstFree]at h;omega)
  exact⟨p,by simpa using hp⟩
theorem firstFree_free:∀ (l:List (Option (List UInt8))),firstFree l<l.length→l[firstFree l]?=some none
 |[],h=>by simp at h
 |none::_,_=>rfl
 |some x::l,h=>by simpa [firstFree] using firstFree_free l (by simp[firstFree]at h;omega)
theorem firstFree_ge (l:List (Option (List UInt8)))(k:Nat)(h:∀ i,i<k→∃ p,l[i]?=some (some p))(hk:k≤l.length):k≤firstFree l:=by
 rcases Nat.lt_or_ge (firstFree l) k with h'|h'
 ·obtain⟨p,hp⟩:=h _ h'
  rw[firstFree_free l (by omega)]at hp
  simp at hp
 exact h'
def freeD (D:DS):DS:=⟨D.quota,D.fail,D.writes,firstFree D.pages,if firstFree D.pages<D.pages.length then D.pages else D.pages++[none]⟩
theorem inUseB_some {l:List (Option (List UInt8))}{i:Nat}{p:List UInt8}(h:l[i]?=some (some p)):inUseB l (i:Int)=true:=by
 have hi:i<l.length:=by
  rcases Nat.lt_or_ge i l.length with h'|h'
  ·exact h'
  rw[List.getElem?_eq_none h']at h;simp at h
 unfold inUseB
 rw[Bool.and_eq_true,decide_eq_true_eq,List.getD_eq_getElem?_getD,show (Int.toNat (i:Int))=i from rfl,h]
 exact⟨by omega,rfl⟩
theorem inUseB_free (l:List (Option (List UInt8))):inUseB l ((firstFree l:Nat):Int)=false:=by
 unfold inUseB
 rw[Bool.and_eq_false_iff]
 rcases Nat.lt_or_ge (firstFree l) l.length with h'|h'
 ·right
  rw[List.getD_eq_getElem?_getD,show (Int.toNat ((firstFree l:Nat):Int))=firstFree l from rfl,firstFree_free l h']
  rfl
 left
 simp
 omega
theorem dFree_any (d:Nat)(w:World)(F:Nat→Prop)(D:DS)(h:DiskAt w F d D)(hup:∀ k,w.heap.size≤k→F k)(hsm:D.pages.length<900000) :
  Calls Tryz.prog 140 #[.pointer (some ⟨d,0,none⟩)] w fun e w'=>e=.returned (.int .i64 ((firstFree D.pages:Nat):Int)) ∧
   DiskAt w' F d (freeD D)∧Keep F w w':=by
 obtain⟨sv,ps,h⟩:=h
 go_enter Tryz.func140,Tryz.ntmps140
 go_wp2
 go_loopw [8] (fun _ wr=>∃ k:Nat,k≤firstFree D.pages∧DiskX wr F d ⟨D.quota,D.fail,D.writes,k,D.pages⟩ sv ps∧Keep F w wr) (fun _ wr=>D.pages.length+1-(intOf ((wr.cell? ⟨d,4,none⟩).getD undef)).toNat)
 case atStart=>exact⟨D.lowest,firstFree_ge _ _ h.full h.low,h,Keep.refl _ _⟩
 case round=>
  obtain⟨k,hk,hx,hkeep⟩:=hrel
  have hle:=firstFree_le D.pages
  obtain⟨_,_,_,_,c4,c5⟩:=hx.field
  have f4:=hx.thaw 4
  have f5:=hx.thaw 5
  have hin:=dInUse_any d (k:Int) wr F _ ⟨sv,ps,hx⟩
  by_cases hlt:k<firstFree D.pages
  ·obtain⟨p,hp⟩:=firstFree_used _ _ hlt
   rw[inUseB_some hp]at hin
   have hx1:=hx.setLow (k+1) (by show k+1≤D.pages.length;omega) (fun i hi=>firstFree_used D.pages i (by omega))
   have hk1:=hkeep.set hx.dF 4 (.int .i64 ((k+1:Nat):Int))
   clear hp
   go_wp2_with (go_at_call 142;refine hin.mono ?_;rintro e w' ⟨rfl,hw'⟩;subst w')
   go_roundw
   case rel=>exact⟨k+1,by omega,by simpa using hx1,by simpa using hk1⟩
   case measure=>
    simp only[World.cell?_setCell_same _ _ _ c4,c4,Option.getD_some,intOf]
    omega
  obtain rfl:k=firstFree D.pages:=by omega
  rw[inUseB_free]at hin
  obtain⟨a,cap,rfl,hc⟩:=hx.list
  have HL:Hid (ps.length=D.pages.length):=hx.len
  have HO:Hid (OwnC wr 0 261 (.slice a ps.length cap) (ps.map ptrV)):=hx.own
  obtain⟨ff,HF⟩:∃ ff,Hid (firstFree D.pages=ff):=⟨_,rfl⟩
  rw[HF.out]at hin c4
  clear hc f4 hk hlt
  by_cases hff:firstFree D.pages<D.pages.length
  ·have HD:Hid (freeD D=⟨D.quota,D.fail,D.writes,firstFree D.pages,D.pages⟩):=by show freeD D=_;rw[freeD,if_pos hff]
   have hbq:(((ff:Nat):Int)==((ps.length:Nat):Int))=false:=by have:=HL.out;have:=HF.out;rw[beq_eq_false_iff_ne];omega
   have HX:Hid (DiskX wr F d ⟨D.quota,D.fail,D.writes,firstFree D.pages,D.pages⟩ (.slice a ps.length cap) ps):=hx
   clear hff hle hsm hx
   go_wp2_with (go_at_call 142;refine hin.mono ?_;rintro e w' ⟨rfl,hw'⟩;subst w')
   go_quiet (fail)
   go_wp2
   go_ret
   refine⟨ret_int (by rw[HF.out]),?_,hkeep.drewN _⟩
   rw[HD.out]
   exact⟨_,ps,HX.out.below (below_drewN (Below.refl _ _) _)⟩
  have HD:Hid (freeD D=⟨D.quota,D.fail,D.writes,firstFree D.pages,D.pages++[none]⟩):=by show freeD D=_;rw[freeD,if_neg hff]
  have hbq:(((ff:Nat):Int)==((ps.length:Nat):Int))=true:=by have:=HL.out;have:=HF.out;rw[beq_iff_eq];omega
  have hsp:ps.length+1≤1000000:=by have:=HL.out;omega
  have HX:Hid (DiskX wr F d ⟨D.quota,D.fail,D.writes,firstFree D.pages,D.pages⟩ (.slice a ps.length cap) ps):=hx
  have hn:(Value.slice a ps.length cap).ownBlock≠some d:=fun e=>(hx.ownF d e).2 rfl
  have hdl:=lt_of_heap hx.cells
  have hws:=hkeep.size
  clear hff hle hx
  go_wp2_with (go_at_call 142;refine hin.mono ?_;rintro e w' ⟨rfl,hw'⟩;subst w')
  go_quiet (fail)
  go_wp2_with (at_builtin;go_must (refine wpList_append_C (by rfl) _ _ 100 261 _ 8 info_pstored (by rfl) (by decide) (by kernel_rfl) (by rfl) 0 _ _ (by rfl) (OwnC.alloc (w:=wr.drewN nq) HO.out _) ⟨wr.heap.size,0,none⟩ 1 [.pointer none] (by rfl) (by exact news_one (wr.drewN nq) _ _) (by intro u hu;simp at hu;subst hu;rfl) (by simp only[List.length_cons,List.length_nil,List.length_map];omega) (by simp) ?_);intro sv' w1 h1 h2 h3;obtain⟨a2,cap2,rfl,_⟩:=h1.cells;have k5:w1.cell? ⟨d,5,none⟩=some (.slice a ps.length cap):=(by rw[h2.cell_far _ (by simp;omega) (Ne.symm hn)];exact(alloc_cell (wr.drewN nq) _ d 5 hdl).trans c5);have kf5:w1.frozen? ⟨d,5,none⟩=false:=(by rw[h2.frozen_far _ (by simp;omega) (Ne.symm hn)];exact(alloc_frozen (wr.drewN nq) _ d 5 hdl).trans f5);have k4:w1.cell? ⟨d,4,none⟩=some (.int .i64 ((ff:Nat):Int)):=(by rw[h2.cell_far _ (by simp;omega) (Ne.symm hn)];exact(alloc_cell (wr.drewN nq) _ d 4 hdl).trans c4))
  go_ret
  have hg:∀ k,k<wr.heap.size→(Value.slice a ps.length cap).ownBlock≠some k→w1.heap[k]?=wr.heap[k]?:=fun k hk hne=>(h2.block k (by simp;omega) (Ne.symm hne)).trans (Below.heap_alloc (wr.drewN nq) _ k hk)
  have hl:=HX.out.longer (fun k hk=>hup k (by omega)) h1 hg (h3.imp id fun e=>⟨_,e,by simp⟩) hsm
  simp only[List.length_append,List.length_map,List.length_cons,List.length_nil]at hl
  refine⟨ret_int (by rw[HF.out]),?_,?_⟩
  ·rw[HD.out]
   exact⟨_,_,hl⟩
  refine Keep.set ?_ HX.out.dF 5 _
  refine hkeep.trans ⟨h2.os,h2.tape,h2.output,Nat.le_trans (by simp) h2.size,fun k hk hne=>hg k hk fun e=>hne (HX.out.ownF k e).1⟩
end
section
open Go.RowKit
theorem DiskX.drewN {w:World}{F:Nat→Prop}{d:Nat}{D:DS}{sv:Value}{ps:List (Option Nat)}(h:DiskX w F d D sv ps)(n:Nat):DiskX (w.drewN n) F d D sv ps:=h.below (below_drewN (Below.refl _ _) _)
theorem chain_disk (w:World)(q:Addr)(p:Int):Chain (w.alloc (.cells #[.iface 284 (.pointer (some q)),.int .i64 p] 165)) (.iface 162 (.pointer (some ⟨w.heap.size,0,none⟩))) q none (some p):=
 .disk _ _ _ (by simp) (by simp)
theorem dWrite_quota (d:Nat)(s:ByteArray)(w:World)(F:Nat→Prop)(D:DS)(h:DiskAt w F d D)(q:Addr)(hq:w.cell? ⟨4,0,none⟩=some (.iface 284 (.pointer (some q))))(hfull:D.quota≤((usedOf D.pages:Nat):Int)) :
  Calls Tryz.prog 120 #[.pointer (some ⟨d,0,none⟩),.string s] w fun e w'=>Below w.heap.size w w'∧∃ b,e=.returned (.tuple #[.int .i64 0,.iface 162 (.pointer (some ⟨b,0,none⟩))])∧w.heap.size≤b∧Chain w' (.iface 162 (.pointer (some ⟨b,0,none⟩))) q none (some (-1)):=by
 obtain⟨sv,ps,h⟩:=h
 obtain⟨c0,_,_,c3,_,_⟩:=h.field
 clear h
 go_enter Tryz.func120,Tryz.ntmps120
 go_wp2_with fail
 go_quiet (fail)
 go_wp2_with fail
 go_region
 go_wp2
 go_ret2
 have hb:Below w.heap.size w ((w.drewN (nq+1)).alloc (.cells #[.iface 284 (.pointer (some q)),.int .i64 (-1)] 165)):=(below_drewN (Below.refl _ w) _).alloc (Nat.le_refl _) _
 exact⟨hb,_,rfl,Nat.le_refl _,chain_disk (w.drewN (nq+1)) q (-1)⟩
def countD (D:DS):DS:=⟨D.quota,D.fail,wrap64 (D.writes+1),D.lowest,D.pages⟩
theorem dWrite_fail (d:Nat)(s:ByteArray)(w:World)(F:Nat→Prop)(D:DS)(h:DiskAt w F d D)(q:Addr)(hq:w.cell? ⟨5,0,none⟩=some (.iface 284 (.pointer (some q))))(hfull:¬ D.quota≤((usedOf D.pages:Nat):Int))(hfail:wrap64 (D.writes+1)=D.fail) :
  Calls Tryz.prog 120 #[.pointer (some ⟨d,0,none⟩),.string s] w fun e w'=>Keep F w w'∧DiskAt w' F d (countD D)∧∃ b,e=.returned (.tuple #[.int .i64 0,.iface 162 (.pointer (some ⟨b,0,none⟩))])∧w.heap.size≤b∧Chain w' (.iface 162 (.pointer (some ⟨b,0,none⟩))) q none (some (-1)):=by
 obtain⟨sv,ps,h⟩:=h
 obtain⟨c0,c1,c2,c3,_,_⟩:=h.field
 have f2:=h.thaw 2
 have HX:Hid (DiskX w F d D sv ps):=h
 have HN:Hid (wrap64 (D.writes+1)=D.fail):=hfail
 clear hfail h
 go_enter Tryz.func120,Tryz.ntmps120
 go_wp2_with fail
 go_quiet (fail)
 go_upto_region 4 with fail
 have hx:=(HX.out.drewN nq).setWrites (wrap64 (D.writes+1))
 have hbq:(wrap64 (D.writes+1)==D.fail)=true:=by rw[beq_iff_eq];exact HN.out
 have HC:Hid (countD D=⟨D.quota,D.fail,wrap64 (D.writes+1),D.lowest,D.pages⟩):=rfl
 have hk:Keep F w ((w.drewN nq).setCell ⟨d,2,none⟩ (.int .i64 (wrap64 (D.writes+1)))):=((Keep.refl F w).drewN nq).set HX.out.dF 2 _
 have hq2:((w.drewN nq).setCell ⟨d,2,none⟩ (.int .i64 (wrap64 (D.writes+1)))).cell? ⟨5,0,none⟩=some (.iface 284 (.pointer (some q))):=by
  rw[World.cell?_setCell_other _ _ _ _ (by simp)];exact hq
 clear HN c0 c1 c2 c3 f2 HX hq
 generalize wrap64 (D.writes+1)=wn at *
 obtain⟨_,c1,c2,_,_,_⟩:=hx.field
 generalize (w.drewN nq).setCell ⟨d,2,none⟩ (.int .i64 wn)=W at *
 simp only at c1 c2
 go_quiet (fail)
 go_wp2_with fail
 go_region
 go_wp2
 go_ret2
 have hb:Below W.heap.size W ((W.drewN (nq+1)).alloc (.cells #[.iface 284 (.pointer (some q)),.int .i64 (-1)] 165)):=(below_drewN (Below.refl _ W) _).alloc (Nat.le_refl _) _
 refine⟨hk.trans (.of_below hb),?_,_,rfl,hk.size,chain_disk (W.drewN (nq+1)) q (-1)⟩
 rw[HC.out]
 exact⟨_,_,hx.below hb⟩
theorem usedOf_set:∀ (l:List (Option (List UInt8)))(i:Nat)(p:List UInt8),l[i]?=some none→usedOf (l.set i (some p))=usedOf l+1
 |[],i,_,h=>by simp at h
 |x::l,0,p,h=>by
  simp at h
  subst h
  simp[usedOf]
 |x::l,i+1,p,h=>by
  have:=usedOf_set l i p (by simpa using h)
  simp only[usedOf,List.set_cons_succ,List.countP_cons]at this ⊢
  omega
theorem usedOf_unset:∀ (l:List (Option (List UInt8)))(i:Nat)(p:List UInt8),l[i]?=some (some p)→usedOf (l.set i none)+1=usedOf l
 |[],i,_,h=>by simp at h
 |x::l,0,p,h=>by
  simp at h
  subst h
  simp[usedOf]
 |x::l,i+1,p,h=>by
  have:=usedOf_unset l i p (by simpa using h)
  simp only[usedOf,List.set_cons_succ,List.countP_cons]at this ⊢
  omega
theorem own_set {w:World}{B:Nat}{e:TypeId}{sv:Value}{xs:List Value}{g:Nat}(h:OwnC w B e sv xs)(hg:sv.ownBlock=some g)(i:Nat)(hi:i<xs.length)(v:Value):OwnC (w.setCell ⟨g,i,none⟩ v) B e sv (xs.set i v):=by
 refine⟨by simp,?_⟩
 rcases h.2 with⟨hv,h0⟩|⟨g',cap,cur,hv,hB,hb,hle,hm,hsz,hcur⟩
 ·omega
 subst hv
 simp[Value.ownBlock]at hg
 subst hg
 refine .inr ⟨g',cap,cur.setIfInBounds i v,by simp,hB,heap_set hb i v,by simpa using hle,hm,by simpa using hsz,?_⟩
 rw[List.length_set,Array.toList_setIfInBounds,List.take_set,hcur]
theorem DiskX.put {w:World}{F:Nat→Prop}{d:Nat}{D:DS}{sv:Value}{ps:List (Option Nat)}(h:DiskX w F d D sv ps){g:Nat}(hg:sv.ownBlock=some g)(i:Nat)(hi:D.pages[i]?=some none)(b:Nat)(p:List UInt8)(hp:PgAt w b p)(hF:F b)(hbd:b≠d)(hbg:b≠g)(hnew:∀ j:Nat,ps[j]?≠some (some b)) :
  DiskX ((w.setCell ⟨g,i,none⟩ (.pointer (some ⟨b,0,none⟩))).setCell ⟨d,3,none⟩ (.int .i64 ((usedOf D.pages+1:Nat):Int))) F d ⟨D.quota,D.fail,D.writes,D.lowest,D.pages.set i (some p)⟩ sv (ps.set i (some b)):=by
 have hil:i<D.pages.length:=by
  rcases Nat.lt_or_ge i D.pages.length with h'|h'
  ·exact h'
  rw[List.getElem?_eq_none h']at hi;simp at hi
 have hip:i<ps.length:=by rw[h.len];exact hil
 have hgd:=(h.ownF g hg).2
 have hd1:(w.setCell ⟨g,i,none⟩ (.pointer (some ⟨b,0,none⟩))).heap[d]?=some (.cells #[.int .i64 D.quota,.int .i64 D.fail,.int .i64 D.writes,.int .i64 ((usedOf D.pages:Nat):Int),.int .i64 ((D.lowest:Nat):Int),sv] 102 (0,0)):=by
  rw[Below.heap_setCell _ _ _ _ (show d≠g from Ne.symm hgd)];exact h.cells
 have hoth:∀ k,k≠g→k≠d→((w.setCell ⟨g,i,none⟩ (.pointer (some ⟨b,0,none⟩))).setCell ⟨d,3,none⟩ (.int .i64 ((usedOf D.pages+1:Nat):Int))).heap[k]?=w.heap[k]?:=fun k h1 h2=>by
  rw[Below.heap_setCell _ _ _ _ h2,Below.heap_setCell _ _ _ _ h1]
 refine⟨?_,?_,h.ownF,h.dF,by simp[h.len],?_,?_,?_,by simpa using h.low,?_,by simpa using h.small⟩
 ·have:=heap_set hd1 3 (.int .i64 ((usedOf D.pages+1:Nat):Int))
  rw[usedOf_set _ _ _ hi]
  simpa using this
 ·rw[List.map_set]
  refine own_of_block (own_set h.own hg i (by simpa using hip) _) fun g' hg'=>?_
  rw[hg]at hg'
  cases hg'
  exact Below.heap_setCell _ _ _ _ hgd
 ·intro j c hj
  by_cases hji:j=i
  ·subst hji
   rw[List.getElem?_set_self hip]at hj
   simp at hj
   subst hj
   exact⟨hF,hbd,by rw[hg];intro e;cases e;exact hbg rfl,p,by simp[hil],hp.of_block (hoth b hbg hbd)⟩
  rw[List.getElem?_set_ne (Ne.symm hji)]at hj
  obtain⟨f,n1,n2,p',hp',hq⟩:=h.page j c hj
  refine⟨f,n1,n2,p',by rw[List.getElem?_set_ne (Ne.symm hji)];exact hp',hq.of_block (hoth c (fun e=>n2 (by rw[hg,e])) n1)⟩
 ·intro j hj
  by_cases hji:j=i
  ·subst hji
   rw[List.getElem?_set_self hip]at hj
   simp at hj
  rw[List.getElem?_set_ne (Ne.symm hji)]at hj ⊢
  exact h.vacant j hj
 ·intro j k c hj hk
  by_cases hji:j=i
  ·subst hji
   rw[List.getElem?_set_self hip]at hj
   simp at hj
   subst hj
   by_cases hki:k=j
   ·exact hki.symm
   rw[List.getElem?_set_ne (Ne.symm hki)]at hk
   exact absurd hk (hnew k)
  rw[List.getElem?_set_ne (Ne.symm hji)]at hj
  by_cases hki:k=i
  ·subst hki
   rw[List.getElem?_set_self hip]at hk
   simp at hk
   subst hk
   exact absurd hj (hnew j)
  rw[List.getElem?_set_ne (Ne.symm hki)]at hk
  exact h.inj j k c hj hk
 intro j hj
 by_cases hji:j=i
 ·subst hji
  exact⟨p,by simp[hil]⟩
 obtain⟨p',hp'⟩:=h.full j hj
 exact⟨p',by rw[List.getElem?_set_ne (Ne.symm hji)];exact hp'⟩
def wroteD (D:DS)(piece:List UInt8):DS:=⟨D.quota,D.fail,wrap64 (D.writes+1),firstFree D.pages,(if firstFree D.pages<D.pages.length then D.pages else D.pages++[none]).set (firstFree D.pages) (some (sealP piece))⟩
theorem free_vacant (l:List (Option (List UInt8))):(if firstFree l<l.length then l else l++[none])[firstFree l]?=some none:=by
 by_cases h:firstFree l<l.length
 ·rw[if_pos h];exact firstFree_free l h
 rw[if_neg h]
 have:=firstFree_le l
 have:firstFree l=l.length:=by omega
 rw[this]
 simp
theorem dWrite_page (d:Nat)(piece:List UInt8)(hpc:piece.length≤56)(w:World)(F:Nat→Prop)(D:DS)(h:DiskAt w F d D)(hsm:D.pages.length<900000)(hfull:¬ D.quota≤((usedOf D.pages:Nat):Int))(hfail:¬ wrap64 (D.writes+1)=D.fail) :
  Calls Tryz.prog 120 #[.pointer (some ⟨d,0,none⟩),.string (str piece)] w fun e w'=>Keep F w w'∧DiskAt w' (up F w) d (wroteD D piece)∧e=.returned (.tuple #[.int .i64 ((firstFree D.pages:Nat):Int),.nilIface]):=by
 obtain⟨sv,ps,h⟩:=h
 obtain⟨c0,c1,c2,c3,_,_⟩:=h.field
 have f2:=h.thaw 2
 have HX:Hid (DiskX w F d D sv ps):=h
 have HN:Hid (¬ wrap64 (D.writes+1)=D.fail):=hfail
 clear hfail h
 go_enter Tryz.func120,Tryz.ntmps120
 go_wp2_with fail
 go_quiet (fail)
 go_upto_region 4 with fail
 have hx:=(HX.out.drewN nq).setWrites (wrap64 (D.writes+1))
 have hbq:(wrap64 (D.writes+1)==D.fail)=false:=by rw[beq_eq_false_iff_ne];exact HN.out
 have HC:Hid (wroteD D piece=⟨D.quota,D.fail,wrap64 (D.writes+1),firstFree D.pages,(if firstFree D.pages<D.pages.length then D.pages else D.pages++[none]).set (firstFree D.pages) (some (sealP piece))⟩):=rfl
 have hk:Keep (up F w) w ((w.drewN nq).setCell ⟨d,2,none⟩ (.int .i64 (wrap64 (D.writes+1)))):=((Keep.refl _ w).drewN nq).set (.inl HX.out.dF) 2 _
 have hsz:((w.drewN nq).setCell ⟨d,2,none⟩ (.int .i64 (wrap64 (D.writes+1)))).heap.size=w.heap.size:=by simp[World.setCell]
 clear HN c0 c1 c2 c3 f2 HX
 generalize wrap64 (D.writes+1)=wn at *
 obtain⟨_,c1,c2,_,_,_⟩:=hx.field
 generalize (w.drewN nq).setCell ⟨d,2,none⟩ (.int .i64 wn)=W at *
 simp only at c1 c2
 have hx2:=hx.mono (G:=up F w) (fun k _ hf=>.inl hf)
 clear hx
 go_quiet (fail)
 go_wp2_with fail
 refine(dFree_any d (W.drewN nq) (up F w) _ ⟨_,_,hx2.drewN nq⟩ (fun k hk=>.inr (by simpa [hsz] using hk)) hsm).mono ?_
 rintro e W1 ⟨rfl,⟨sv1,ps1,hx1⟩,hk1⟩
 have hk01:=hk.trans (Keep.trans ((Keep.refl _ W).drewN nq) hk1)
 have HV:=free_vacant D.pages
 have HM:Hid (firstFree D.pages<(if firstFree D.pages<D.pages.length then D.pages else D.pages++[none]).length):=by
  rcases Nat.lt_or_ge (firstFree D.pages) (if firstFree D.pages<D.pages.length then D.pages else D.pages++[none]).length with h'|h'
  ·exact h'
  rw[List.getElem?_eq_none h']at HV;simp at HV
 simp only[freeD]at hx1
 generalize (if firstFree D.pages<D.pages.length then D.pages else D.pages++[none])=pgs at *
 obtain⟨ff,HF⟩:∃ ff,Hid (firstFree D.pages=ff):=⟨_,rfl⟩
 rw[HF.out]at hx1 HC HV HM ⊢
 obtain⟨_,_,_,c3,_,c5⟩:=hx1.field
 obtain⟨a1,cap1,rfl,hc⟩:=hx1.list
 have hlen:=hx1.len
 simp only at hlen c3
 have hffp:ff<ps1.length:=by rw[hlen];exact HM.out
 obtain⟨g,rfl,hFg,hgd,cg,fg⟩:=hc ff hffp
 have hpn:ps1[ff]=none:=by
  cases hq:ps1[ff]with
  |none=>rfl
  |some b=>
   obtain⟨_,_,_,p,hp,_⟩:=hx1.page ff b (by rw[←hq];simp[hffp])
   rw[HV]at hp
   simp at hp
 rw[hpn]at cg
 simp only[ptrV]at cg
 have HL:Hid (ps1.length=pgs.length):=hlen
 have hfi:(ff:Int)<(ps1.length:Int):=by omega
 have f3:=hx1.thaw 3
 have hW1:=hk01.size
 have hgl:=lt_of_cell cg
 have hdl:=lt_of_cell c5
 simp only at hgl hdl
 have hus:=usedOf_le pgs
 have hsml:=hx1.small
 simp only at hsml
 clear hc hlen hpn HM hk1
 go_wp2_with fail
 have hse:=seal_any piece hpc W1.drew
 go_region_with (first|(go_at_call 141;refine hse.mono ?_;rintro e w2 ⟨rfl,hp2,hb2⟩;obtain⟨kk,kf⟩:=below_keep hb2;have c5':=(kk d 5 hdl).trans c5;have cg':=(kk g ff hgl).trans cg;have fg':=(kf g ff hgl).trans fg;have c3':=(kk d 3 hdl).trans c3;have f3':=(kf d 3 hdl).trans f3))
 all_goals
  have hbu:=below_undrew hb2
  have hx3:=hx1.below hbu
  have hput:=hx3.put (g:=g) rfl ff HV W1.heap.size (sealP piece) hp2 (.inr hW1) (by omega) (by omega) (fun j hj=>by obtain⟨_,_,_,p,_,hq⟩:=hx1.page j _ hj;exact absurd hq.2.lt (Nat.lt_irrefl _))
  have hkp:Keep (up F w) w (w2.setCell ⟨g,ff,none⟩ (.pointer (some ⟨W1.heap.size,0,none⟩))):=(hk01.trans (.of_below hbu)).set hFg ff _
  have hkq:=hkp.set (hx1.dF) 3 (.int .i64 ((usedOf pgs+1:Nat):Int))
  have c3s:(w2.setCell ⟨g,ff,none⟩ (.pointer (some ⟨W1.heap.size,0,none⟩))).cell? ⟨d,3,none⟩=some (.int .i64 ((usedOf pgs:Nat):Int)):=by rw[World.cell?_setCell_other _ _ _ _ (by first|(simp;done)|(simp;intro e;exact absurd e.symm hgd))];exact c3'
  have f3s:(w2.setCell ⟨g,ff,none⟩ (.pointer (some ⟨W1.heap.size,0,none⟩))).frozen? ⟨d,3,none⟩=false:=by rw[World.frozen?_setCell];exact f3'
  clear c3' f3' cg' fg' c5' kk kf hse hx3 hkp
  generalize w2.setCell ⟨g,ff,none⟩ (.pointer (some ⟨W1.heap.size,0,none⟩))=w3 at *
  go_wp2
  go_ret2
  refine⟨Keep.down (by simpa using hkq),?_,by rw[HF.out];rfl⟩
  rw[HC.out]
  exact⟨_,_,by simpa using hput⟩
end
section
open Go.RowKit
def nv (n:Nat):Value:=.int .i64 (n:Int)
theorem set_none_used (l:List (Option (List UInt8)))(i:Nat)(p:List UInt8)(h:l[i]?=some (some p)):((usedOf l:Nat):Int)-1=((usedOf (l.set i none):Nat):Int):=by
 have:=usedOf_unset l i p h
 omega
theorem DiskX.drop {w:World}{F:Nat→Prop}{d:Nat}{D:DS}{sv:Value}{ps:List (Option Nat)}(h:DiskX w F d D sv ps){g:Nat}(hg:sv.ownBlock=some g)(i:Nat)(p:List UInt8)(hi:D.pages[i]?=some (some p)) :
  DiskX (((w.setCell ⟨g,i,none⟩ (.pointer none)).setCell ⟨d,3,none⟩ (.int .i64 ((usedOf (D.pages.set i none):Nat):Int))).setCell ⟨d,4,none⟩ (.int .i64 ((min D.lowest i:Nat):Int))) F d ⟨D.quota,D.fail,D.writes,min D.lowest i,D.pages.set i none⟩ sv (ps.set i none):=by
 have hil:i<D.pages.length:=by
  rcases Nat.lt_or_ge i D.pages.length with h'|h'
  ·exact h'
  rw[List.getElem?_eq_none h']at hi;simp at hi
 have hip:i<ps.length:=by rw[h.len];exact hil
 have hgd:=(h.ownF g hg).2
 have hd1:(w.setCell ⟨g,i,none⟩ (.pointer none)).heap[d]?=some (.cells #[.int .i64 D.quota,.int .i64 D.fail,.int .i64 D.writes,.int .i64 ((usedOf D.pages:Nat):Int),.int .i64 ((D.lowest:Nat):Int),sv] 102 (0,0)):=by
  rw[Below.heap_setCell _ _ _ _ (show d≠g from Ne.symm hgd)];exact h.cells
 have hoth:∀ k,k≠g→k≠d→(((w.setCell ⟨g,i,none⟩ (.pointer none)).setCell ⟨d,3,none⟩ (.int .i64 ((usedOf (D.pages.set i none):Nat):Int))).setCell ⟨d,4,none⟩ (.int .i64 ((min D.lowest i:Nat):Int))).heap[k]?=w.heap[k]?:=fun k h1 h2=>by
  rw[Below.heap_setCell _ _ _ _ h2,Below.heap_setCell _ _ _ _ h2,Below.heap_setCell _ _ _ _ h1]
 refine⟨?_,?_,h.ownF,h.dF,by simp[h.len],?_,?_,?_,?_,?_,by simpa using h.small⟩
 ·have:=heap_set (heap_set hd1 3 (.int .i64 ((usedOf (D.pages.set i none):Nat):Int))) 4 (.int .i64 ((min D.lowest i:Nat):Int))
  simpa using this
 ·rw[List.map_set]
  refine own_of_block (own_set h.own hg i (by simpa using hip) _) fun g' hg'=>?_
  rw[hg]at hg'
  cases hg'
  rw[Below.heap_setCell _ _ _ _ hgd,Below.heap_setCell _ _ _ _ hgd]
  rfl
 ·intro j c hj
  by_cases hji:j=i
  ·subst hji
   rw[List.getElem?_set_self hip]at hj
   simp at hj
  rw[List.getElem?_set_ne (Ne.symm hji)]at hj
  obtain⟨f,n1,n2,p',hp',hq⟩:=h.page j c hj
  refine⟨f,n1,n2,p',by rw[List.getElem?_set_ne (Ne.symm hji)];exact hp',hq.of_block (hoth c (fun e=>n2 (by rw[hg,e])) n1)⟩
 ·intro j hj
  by_cases hji:j=i
  ·subst hji
   simp[hil]
  rw[List.getElem?_set_ne (Ne.symm hji)]at hj ⊢
  exact h.vacant j hj
 ·intro j k c hj hk
  have key:∀ j:Nat,(ps.set i none)[j]?=some (some c)→ps[j]?=some (some c):=by
   intro j hj
   by_cases hji:j=i
   ·subst hji
    rw[List.getElem?_set_self hip]at hj
    simp at hj
   rwa [List.getElem?_set_ne (Ne.symm hji)]at hj
  exact h.inj j k c (key j hj) (key k hk)
 ·have:=h.low
  simp
  omega
 intro j hj
 simp only at hj
 obtain⟨p',hp'⟩:=h.full j (by omega)
 refine⟨p',?_⟩
 rw[List.getElem?_set_ne (by omega)]
 exact hp'
def relOne (D:DS)(i:Nat):DS:=if inUseB D.pages (i:Int)=true then ⟨D.quota,D.fail,D.writes,min D.lowest i,D.pages.set i none⟩else D
def relD (D:DS)(l:List Nat):DS:=l.foldl relOne D
theorem relD_snoc (D:DS)(l:List Nat)(i:Nat):relD D (l++[i])=relOne (relD D l) i:=by simp[relD]
theorem inUseB_true {l:List (Option (List UInt8))}{i:Nat}(h:inUseB l (i:Int)=true):∃ p,l[i]?=some (some p):=by
 unfold inUseB at h
 rw[Bool.and_eq_true,decide_eq_true_eq,List.getD_eq_getElem?_getD,show (Int.toNat (i:Int))=i from rfl]at h
 cases hq:l[i]? with
 |none=>rw[hq]at h;simp at h
 |some x=>
  rw[hq]at h
  cases x with
  |none=>simp at h
  |some p=>exact⟨p,rfl⟩
theorem dRelease_any (d:Nat)(a:Option Addr)(cap:Nat)(l:List Nat)(w:World)(F:Nat→Prop)(D:DS)(h:DiskAt w F d D)(hl:Cells w a (l.map nv))(haF:∀ b o,a=some ⟨b,o,none⟩→¬ F b)(hsm:l.length≤1000000) :
  Calls Tryz.prog 121 #[.pointer (some ⟨d,0,none⟩),.slice a l.length cap] w fun e w'=>e=.returned (.tuple #[])∧DiskAt w' F d (relD D l)∧Keep F w w':=by
 go_enter Tryz.func121,Tryz.ntmps121
 go_wp2
 go_loopw [8] (fun i wr=>∃ k:Nat,k≤l.length∧i=.int .i64 k∧DiskAt wr F d (relD D (l.take k))∧Keep F w wr) (fun i _=>l.length-(intOf i).toNat)
 case atStart=>exact⟨0,Nat.zero_le _,rfl,by simpa [relD] using h,Keep.refl _ _⟩
 case round=>
  rename_i i
  obtain⟨k,hk,rfl,hD,hkeep⟩:=hrel
  by_cases hlt:k<l.length
  ·have HT:Hid (relD D (l.take (k+1))=relOne (relD D (l.take k)) l[k]):=by
    show relD D (l.take (k+1))=_
    rw[List.take_succ_eq_append_getElem hlt,relD_snoc]
   rcases hl with hl|⟨b,o,rfl,hb,hl⟩
   ·simp at hl;subst hl;simp at hlt
   have cb:wr.cell? ⟨b,o+k,none⟩=some (.int .i64 ((l[k]:Nat):Int)):=hkeep.cell (hl k _ (by simp[hlt];rfl)) (haF b o rfl)
   generalize l[k]=pg at *
   generalize relD D (l.take k)=E at *
   have hin:=dInUse_any d (pg:Int) wr F E hD
   obtain⟨sv,ps,hx⟩:=hD
   by_cases hu:inUseB E.pages (pg:Int)=true
   ·have HR:Hid (relOne E pg=⟨E.quota,E.fail,E.writes,min E.lowest pg,E.pages.set pg none⟩):=by show relOne E pg=_;rw[relOne,if_pos hu]
    obtain⟨p,hp⟩:=inUseB_true hu
    rw[hu]at hin
    obtain⟨_,_,_,c3,c4,c5⟩:=hx.field
    have f3:=hx.thaw 3
    have f4:=hx.thaw 4
    obtain⟨a1,cap1,rfl,hc⟩:=hx.list
    have hpl:pg<ps.length:=by
     rw[hx.len]
     rcases Nat.lt_or_ge pg E.pages.length with h'|h'
     ·exact h'
     rw[List.getElem?_eq_none h']at hp;simp at hp
    obtain⟨g,rfl,hFg,hgd,cg,fg⟩:=hc pg hpl
    have hput:=hx.drop (g:=g) rfl pg p hp
    have hus:=set_none_used E.pages pg p hp
    have hul:=usedOf_le E.pages
    have hsl:=hx.small
    have hpi:(pg:Int)<(ps.length:Int):=by omega
    have hkq:Keep F w (((wr.setCell ⟨g,pg,none⟩ (.pointer none)).setCell ⟨d,3,none⟩ (.int .i64 ((usedOf (E.pages.set pg none):Nat):Int))).setCell ⟨d,4,none⟩ (.int .i64 ((min E.lowest pg:Nat):Int))):=((hkeep.set hFg pg _).set hx.dF 3 _).set hx.dF 4 _
    have k3:(wr.setCell ⟨g,pg,none⟩ (.pointer none)).cell? ⟨d,3,none⟩=some (.int .i64 ((usedOf E.pages:Nat):Int)):=by rw[World.cell?_setCell_other _ _ _ _ (by first|(simp;done)|(simp;intro e;exact absurd e.symm hgd))];exact c3
    have k4:(wr.setCell ⟨g,pg,none⟩ (.pointer none)).cell? ⟨d,4,none⟩=some (.int .i64 ((E.lowest:Nat):Int)):=by rw[World.cell?_setCell_other _ _ _ _ (by first|(simp;done)|(simp;intro e;exact absurd e.symm hgd))];exact c4
    have g3:(wr.setCell ⟨g,pg,none⟩ (.pointer none)).frozen? ⟨d,3,none⟩=false:=by rw[World.frozen?_setCell];exact f3
    have g4:(wr.setCell ⟨g,pg,none⟩ (.pointer none)).frozen? ⟨d,4,none⟩=false:=by rw[World.frozen?_setCell];exact f4
    have hlow:=hx.low
    have hul0:(1:Int)≤((usedOf E.pages:Nat):Int):=by omega
    clear hc hx c3 c4 f3 f4 hp hu
    go_upto_region 5 with(go_at_call 142;refine hin.mono ?_;rintro e w' ⟨rfl,hw'⟩;subst w')
    clear cg fg cb c5
    generalize wr.setCell ⟨g,pg,none⟩ (.pointer none)=w1 at *
    go_wp2
    go_roundw
    case rel=>
     have hm:(if pg<E.lowest then ((pg:Nat):Int)else ((E.lowest:Nat):Int))=((min E.lowest pg:Nat):Int):=by split<;>omega
     exact⟨k+1,by omega,by go_num,by rw[HT.out,HR.out,hm];exact⟨_,_,hput⟩,by rw[hm];exact hkq⟩
    case measure=>simp[intOf];omega
   have HR:Hid (relOne E pg=E):=by show relOne E pg=_;rw[relOne,if_neg hu]
   rw[Bool.not_eq_true]at hu
   rw[hu]at hin
   go_wp2_with (go_at_call 142;refine hin.mono ?_;rintro e w' ⟨rfl,hw'⟩;subst w')
   go_roundw
   case rel=>exact⟨k+1,by omega,by go_num,by rw[HT.out,HR.out];exact⟨_,_,hx⟩,hkeep⟩
   case measure=>simp[intOf];omega
  obtain rfl:k=l.length:=by omega
  rw[List.take_length]at hD
  go_wp2
  go_end0
  exact⟨rfl,hD,hkeep⟩
end
section
open Go.RowKit
def cutUp:Nat→List UInt8→List (List UInt8)
 |0,_=>[]
 |_+1,[]=>[]
 |n+1,b::t=>(b::t).take 56::cutUp n ((b::t).drop 56)
def pieces (t:List UInt8):List (List UInt8):=cutUp t.length t
theorem cutUp_more:∀ (n m:Nat)(t:List UInt8),t.length≤n→t.length≤m→cutUp n t=cutUp m t
 |0,m,[],_,_=>by cases m<;>rfl
 |0,m,b::t,h,_=>by simp at h
 |n+1,0,[],_,_=>rfl
 |n+1,0,b::t,_,h=>by simp at h
 |n+1,m+1,[],_,_=>rfl
 |n+1,m+1,b::t,h,k=>by
  simp only[cutUp]
  rw[cutUp_more n m ((b::t).drop 56) (by simp at h ⊢;omega) (by simp at k ⊢;omega)]
theorem pieces_nil:pieces []=[]:=rfl
theorem pieces_cons (t:List UInt8)(h:t≠[]):pieces t=t.take 56::pieces (t.drop 56):=by
 cases t with
 |nil=>exact absurd rfl h
 |cons b t=>
  unfold pieces
  simp only[List.length_cons,cutUp]
  rw[cutUp_more _ ((b::t).drop 56).length _ (by simp) (Nat.le_refl _)]
def layL (D:DS):List (List UInt8)→DS×List Nat×Option Bool
 |[]=>(D,[],none)
 |p::ps=>if D.quota≤((usedOf D.pages:Nat):Int)then (D,[],some true)else if wrap64 (D.writes+1)=D.fail then (countD D,[],some false)else
   ((layL (wroteD D p) ps).1,firstFree D.pages::(layL (wroteD D p) ps).2.1,(layL (wroteD D p) ps).2.2)
def behind (l:List Nat)(r:DS×List Nat×Option Bool):DS×List Nat×Option Bool:=(r.1,l++r.2.1,r.2.2)
theorem behind_page (l:List Nat)(D:DS)(p:List UInt8)(ps:List (List UInt8))(h1:¬ D.quota≤((usedOf D.pages:Nat):Int))(h2:¬ wrap64 (D.writes+1)=D.fail) :
  behind l (layL D (p::ps))=behind (l++[firstFree D.pages]) (layL (wroteD D p) ps):=by
 simp[behind,layL,h1,h2]
theorem info_int:(Tryz.prog.info? 3).map (fun i=>(i.zero,i.size,i.bytes))=some (some (.int .i64 0),1,8):=by kernel_rfl
theorem wroteD_len (D:DS)(p:List UInt8):(wroteD D p).pages.length≤D.pages.length+1:=by
 simp only[wroteD]
 split<;>simp
def lenV:Value→Nat
 |.string s=>s.size
 |_=>0
theorem str_ext (bs:List UInt8)(i j:Nat):(str bs).extract i j=str ((bs.take j).drop i):=by
 unfold str
 rw[ByteArray.ext_iff]
 simp[List.extract_eq_take_drop,List.drop_take]
def cap (F:Nat→Prop)(w:World):Nat→Prop:=fun k=>F k∧k<w.heap.size
theorem DiskAt.cap {w:World}{F:Nat→Prop}{d:Nat}{D:DS}(h:DiskAt w F d D):DiskAt w (cap F w) d D:=h.mono fun _ hk hf=>⟨hf,hk⟩
structure Laying (w0:World) (F0:Nat→Prop) (w:World) (d:Nat) (E:DS) (sv:Value) (l:List Nat) (FD:Nat→Prop):Prop where
 disk:DiskAt w FD d E
 from_:∀ k,FD k→F0 k∨w0.heap.size≤k
 lt:∀ k,FD k→k<w.heap.size
 own:OwnC w w0.heap.size 3 sv (l.map nv)
 apart:∀ g,sv.ownBlock=some g→¬ FD g
 keep:Keep F0 w0 w
def errD (D:DS):DS×Bool:=if D.quota≤((usedOf D.pages:Nat):Int)then (D,true)else (countD D,false)
theorem layL_err (D:DS)(p:List UInt8)(ps:List (List UInt8))(h:D.quota≤((usedOf D.pages:Nat):Int)∨wrap64 (D.writes+1)=D.fail):layL D (p::ps)=((errD D).1,[],some (errD D).2):=by
 unfold errD
 by_cases h1:D.quota≤((usedOf D.pages:Nat):Int)
 ·simp[layL,h1]
 have h2:=h.resolve_left h1
 simp[layL,h1,h2]
theorem chain_keep {F:Nat→Prop}{w w':World}{b:Nat}{a:Addr}{p:Int}(h:Chain w (.iface 162 (.pointer (some ⟨b,0,none⟩))) a none (some p))(hk:Keep F w w')(hb:¬ F b):Chain w' (.iface 162 (.pointer (some ⟨b,0,none⟩))) a none (some p):=by
 obtain⟨h0,h1⟩:=h.disk_at
 exact .disk b a p (hk.cell h0 hb) (hk.cell h1 hb)
theorem dWrite_err (d:Nat)(s:ByteArray)(w:World)(F:Nat→Prop)(D:DS)(h:DiskAt w F d D)(q wr:Addr)(hq:w.cell? ⟨4,0,none⟩=some (.iface 284 (.pointer (some q))))(hw:w.cell? ⟨5,0,none⟩=some (.iface 284 (.pointer (some wr))))
  (he:D.quota≤((usedOf D.pages:Nat):Int)∨wrap64 (D.writes+1)=D.fail) :
  Calls Tryz.prog 120 #[.pointer (some ⟨d,0,none⟩),.string s] w fun e w'=>Keep F w w'∧DiskAt w' F d (errD D).1∧∃ b,e=.returned (.tuple #[.int .i64 0,.iface 162 (.pointer (some ⟨b,0,none⟩))])∧w.heap.size≤b∧Chain w' (.iface 162 (.pointer (some ⟨b,0,none⟩))) (if (errD D).2 then q else wr) none (some (-1)):=by
 unfold errD
 by_cases h1:D.quota≤((usedOf D.pages:Nat):Int)
 ·rw[if_pos h1]
  refine(dWrite_quota d s w F D h q hq h1).mono ?_
  rintro e w' ⟨hb,b,rfl,hb2,hc⟩
  exact⟨.of_below hb,h.below hb,b,rfl,hb2,hc⟩
 rw[if_neg h1]
 exact dWrite_fail d s w F D h wr hw h1 (he.resolve_left h1)
def LayPost (w:World)(F:Nat→Prop)(d:Nat)(q wr:Addr)(r:DS×List Nat×Option Bool)(e:Ending)(w':World):Prop:=
 Keep F w w'∧∃ FD:Nat→Prop,DiskAt w' FD d (match r.2.2 with|none=>r.1|some _=>relD r.1 r.2.1)∧(∀ k,FD k→F k∨w.heap.size≤k)∧(∀ k,FD k→k<w'.heap.size) ∧
  match r.2.2 with
  |none=>∃ sv,e=.returned (.tuple #[sv,.nilIface])∧OwnC w' w.heap.size 3 sv (r.2.1.map nv)∧∀ g,sv.ownBlock=some g→¬ FD g
  |some x=>∃ b,e=.returned (.tuple #[.slice none 0 0,.iface 162 (.pointer (some ⟨b,0,none⟩))])∧w.heap.size≤b∧Chain w' (.iface 162 (.pointer (some ⟨b,0,none⟩))) (if x then q else wr) none (some (-1))∧¬ FD b
theorem Laying.stand {w0 w w':World}{F0 FD:Nat→Prop}{d:Nat}{E:DS}{sv:Value}{l:List Nat}(h:Laying w0 F0 w d E sv l FD)(hk:Keep FD w w'):OwnC w' w0.heap.size 3 sv (l.map nv)∧Keep F0 w0 w':=
 ⟨own_of_block h.own fun g hg=>hk.block g (own_block_ge h.own hg) (h.apart g hg),h.keep.trans' hk fun k hk' hf=>(h.from_ k hf).resolve_right (by omega)⟩
theorem own_slice {w:World}{B:Nat}{e:TypeId}{a:Option Addr}{n c:Nat}{xs:List Value}(h:OwnC w B e (.slice a n c) xs):Cells w a xs∧∀ b o,a=some ⟨b,o,none⟩→(Value.slice a n c).ownBlock=some b:=by
 obtain⟨a',c',he,hc⟩:=h.cells
 simp at he
 obtain⟨rfl,_,_⟩:=he
 exact⟨hc,fun b o hb=>by subst hb;rfl⟩
theorem Laying.more {w0 wr W1 w3:World}{F0 FD:Nat→Prop}{d:Nat}{E:DS}{sv sv':Value}{l:List Nat}(h:Laying w0 F0 wr d E sv l FD)(hk1:Keep FD wr W1)(pc:List UInt8)(hd:DiskAt W1 (up FD wr) d (wroteD E pc))(o:Obj)
  (hown:OwnC w3 w0.heap.size 3 sv' (l.map nv++[nv (firstFree E.pages)])) (hg:(W1.alloc o).grownBy w3 sv.ownBlock) (hb:sv'.ownBlock=sv.ownBlock∨sv'.ownBlock=some (W1.alloc o).heap.size) :
  Laying w0 F0 w3 d (wroteD E pc) sv' (l++[firstFree E.pages]) (cap (up FD wr) W1):=by
 have hsz:=hg.size
 rw[World.size_alloc]at hsz
 have hold:∀ g,sv.ownBlock=some g→g<wr.heap.size:=fun g hg=>own_block_ge h.own hg
 have hst:∀ k,k<W1.heap.size→sv.ownBlock≠some k→w3.heap[k]?=W1.heap[k]?:=fun k hk hne=>(hg.block k (by simp;omega) (Ne.symm hne)).trans (Below.heap_alloc W1 o k hk)
 refine⟨hd.cap.stands fun k hk hl=>hst k hl fun e=>?_,fun k hk=>?_,fun k hk=>Nat.lt_of_lt_of_le hk.2 (by omega),?_,fun g hg'=>?_,?_⟩
 ·rcases hk.1 with hf|hf
  ·exact h.apart k e hf
  have:=hold k e;omega
 ·rcases hk.1 with hf|hf
  ·exact h.from_ k hf
  exact .inr (Nat.le_trans h.keep.size hf)
 ·rw[List.map_append];exact hown
 ·rintro⟨hu,hl⟩
  rcases hb with e|e
  ·rw[e]at hg'
   rcases hu with hf|hf
   ·exact h.apart g hg' hf
   have:=hold g hg';omega
  rw[e]at hg'
  simp at hg'
  omega
 have hk:=(h.stand hk1).2
 refine⟨hg.os.trans hk.os,hg.tape.trans hk.tape,hg.output.trans hk.output,Nat.le_trans hk.size (by omega),fun k hk' hn=>?_⟩
 refine(hst k (Nat.lt_of_lt_of_le hk' hk.size) fun e=>?_).trans (hk.block k hk' hn)
 have:=(owns_block h.own e).1
 omega
theorem dLay_any (d:Nat)(text:List UInt8)(w:World)(F:Nat→Prop)(D:DS)(h:DiskAt w F d D)(hF:∀ k,F k→k<w.heap.size)(q qw:Addr)
  (hq:w.cell? ⟨4,0,none⟩=some (.iface 284 (.pointer (some q)))) (hw:w.cell? ⟨5,0,none⟩=some (.iface 284 (.pointer (some qw)))) (hFq:¬ F 4) (hFw:¬ F 5) (hsm:D.pages.length+(pieces text).length≤800000) (htl:text.length≤1000000) :
  Calls Tryz.prog 96 #[.pointer (some ⟨d,0,none⟩),.string (str text)] w fun e w'=>LayPost w F d q qw (layL D (pieces text)) e w':=by
 go_enter Tryz.func96,Tryz.ntmps96
 go_wp2
 go_loopw [1,6] (fun tx sv wr_=>∃ (rest:List UInt8) (E:DS) (l:List Nat) (FD:Nat→Prop),tx=.string (str rest)∧rest.length≤text.length∧l.length+(pieces rest).length≤800000∧E.pages.length+(pieces rest).length≤800000∧Laying w F wr_ d E sv l FD∧Hid (layL D (pieces text)=behind l (layL E (pieces rest)))) (fun tx _ _=>lenV tx)
 case atStart=>exact⟨text,D,[],F,rfl,Nat.le_refl _,by simp;omega,hsm,⟨h,fun k hk=>.inl hk,hF,OwnC.nil _ _ _,fun g hg=>by simp[Value.ownBlock]at hg,Keep.refl _ _⟩,rfl⟩
 case round=>
  rename_i tx sv
  obtain⟨rest,E,l,FD,rfl,hrl,hll,hel,hL,HE⟩:=hrel
  have hsz:=str_size rest
  by_cases hr:rest=[]
  ·subst hr
   rw[pieces_nil]at HE
   have HE1:Hid (layL D (pieces text)=(E,l,none)):=by show _=_;rw[HE.out];simp[behind,layL]
   obtain⟨a,cap,hsv,_⟩:=hL.own.cells
   subst hsv
   simp at hsz
   go_wp2
   go_ret2
   rw[HE1.out]
   exact⟨hL.keep,FD,hL.disk,hL.from_,hL.lt,_,rfl,hL.own,hL.apart⟩
  have hpos:0<rest.length:=List.length_pos_iff.2 hr
  have HP:Hid (pieces rest=rest.take 56::pieces (rest.drop 56)):=pieces_cons rest hr
  have hpl:(pieces rest).length=(pieces (rest.drop 56)).length+1:=by rw[HP.out];rfl
  obtain⟨n,hn,HN⟩:∃ n:Nat,(n≤rest.length∧n≤56)∧Hid (n=min rest.length 56):=⟨min rest.length 56,by omega,rfl⟩
  have HT:Hid (rest.take n=rest.take 56):=by
   show _=_
   rw[HN.out]
   rcases Nat.lt_or_ge rest.length 56 with h'|h'
   ·rw[Nat.min_eq_left (by omega),List.take_of_length_le (Nat.le_refl _),List.take_of_length_le (by omega)]
   rw[Nat.min_eq_right h']
  have HD:Hid (rest.drop n=rest.drop 56):=by
   show _=_
   rw[HN.out]
   rcases Nat.lt_or_ge rest.length 56 with h'|h'
   ·rw[Nat.min_eq_left (by omega),List.drop_of_length_le (Nat.le_refl _),List.drop_of_length_le (by omega)]
   rw[Nat.min_eq_right h']
  have e1:=str_ext rest 0 n
  have e2:=str_ext rest n rest.length
  rw[List.drop_zero,HT.out]at e1
  rw[List.take_length,HD.out]at e2
  have hdl:(rest.drop 56).length<rest.length:=by rw[List.length_drop];omega
  have htk:(rest.take 56).length≤56:=by rw[List.length_take];omega
  have hmin:(if 56<(rest.length:Int)then (56:Int)else (rest.length:Int))=(n:Int):=by have:=HN.out;split<;>omega
  rw[HP.out]at HE
  clear HP HT HD HN
  generalize rest.take 56=pc at *
  generalize rest.drop 56=rst at *
  by_cases he:E.quota≤((usedOf E.pages:Nat):Int)∨wrap64 (E.writes+1)=E.fail
  ·have HE1:Hid (layL D (pieces text)=((errD E).1,l,some (errD E).2)):=by show _=_;rw[HE.out,layL_err E _ _ he];simp[behind]
   have hwr:=dWrite_err d (str pc) wr FD E hL.disk q qw (hL.keep.cell hq hFq) (hL.keep.cell hw hFw) he
   have HL:Hid (Laying w F wr d E u6 l FD):=hL
   obtain⟨a,cap,hsv,_⟩:=hL.own.cells
   rw[List.length_map]at hsv
   clear hL he HE
   subst hsv
   go_wp2_with (first|(go_at_call 120;refine hwr.mono ?_;rintro e W1 ⟨hk1,hd1,b,rfl,hb1,hc1⟩)|(go_at_call 121;refine(dRelease_any d a cap l W1 FD _ hd1 (own_slice (HL.out.stand hk1).1).1 (fun b o hb=>HL.out.apart b ((own_slice (HL.out.stand hk1).1).2 b o hb)) (by omega)).mono ?_;rintro e W2 ⟨rfl,hd2,hk2⟩))
   go_ret2
   rw[HE1.out]
   have hFb:¬ FD b:=fun hf=>by have:=HL.out.lt b hf;omega
   exact⟨(HL.out.stand (hk1.trans hk2)).2,FD,hd2,HL.out.from_,fun k hk=>Nat.lt_of_lt_of_le (HL.out.lt k hk) (Nat.le_trans hk1.size hk2.size),b,rfl,Nat.le_trans HL.out.keep.size hb1,chain_keep hc1 hk2 hFb,hFb⟩
  have h1:¬ E.quota≤((usedOf E.pages:Nat):Int):=fun h=>he (.inl h)
  have h2:¬ wrap64 (E.writes+1)=E.fail:=fun h=>he (.inr h)
  rw[behind_page l E pc _ h1 h2]at HE
  have hwr:=dWrite_page d pc htk wr FD E hL.disk (by omega) h1 h2
  have hwl:=wroteD_len E pc
  have HL:Hid (Laying w F wr d E u6 l FD):=hL
  obtain⟨a,cap,hsv,_⟩:=hL.own.cells
  rw[List.length_map]at hsv
  clear hL he h1 h2
  subst hsv
  have hlw:=HL.out.keep.size
  go_wp2_with (first|(go_at_call 120;refine hwr.mono ?_;rintro e W1 ⟨hk1,hd1,rfl⟩;have hs1:=hk1.size)|(at_builtin;go_must (refine wpList_append_C (by rfl) _ _ 29 3 _ 8 info_int (by rfl) (by decide) (by kernel_rfl) (by rfl) w.heap.size _ _ (by rfl) (OwnC.alloc (HL.out.stand hk1).1 _) ⟨W1.heap.size,0,none⟩ 1 [nv (firstFree E.pages)] (by rfl) (by exact news_one W1 _ _) (by intro u hu;simp at hu;subst hu;rfl) (by simp only[List.length_cons,List.length_nil,List.length_map];omega) (by simp;omega) ?_);intro sv' w3 h1 h2 h3;obtain⟨a2,cap2,rfl,_⟩:=h1.cells))
  go_roundw
  case rel=>
   have hq:=HL.out.more hk1 pc hd1 _ h1 h2 h3
   rw[List.length_append,List.length_map]at hq
   exact⟨rst,wroteD E pc,l++[firstFree E.pages],_,rfl,by omega,by simp;omega,by omega,hq,HE.out⟩
  case measure=>simp only[lenV];simp[str_size];omega
end
end Go.Proofs.YtkgibdjakgmmcaaGreatDoor
