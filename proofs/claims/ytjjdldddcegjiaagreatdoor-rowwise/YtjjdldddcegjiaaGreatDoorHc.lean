/- A set's names; a table's rows. -/
import Derived.Test.YtjjdldddcegjiaaGreatDoorTl
import Derived.Test.YtjjdldddcegjiaaGreatDoorTi
import Derived.Test.YtjjdldddcegjiaaGreatDoorMa
import Derived.Test.YtjjdldddcegjiaaGreatDoorKq
import Derived.Test.YtjjdldddcegjiaaGreatDoorKh
import Derived.Deep.RegionLaw
import Derived.Deep.RegionHeld3
import Derived.Lib.LazyBuf
import Derived.Lib.SlicesDelete
import Derived.Deep.AppendLies
import Derived.Test.YtjjdldddcegjiaaGreatDoorTg
import Derived.Test.YtjjdldddcegjiaaGreatDoorKm
set_option maxHeartbeats 4000000
set_option maxRecDepth 100000
namespace Go.Proofs.YtjjdldddcegjiaaGreatDoor
open Go.RowKit Go.Shelf Tryz
structure Jid (D:DS) (T:TS):Prop where
 cols:1≤T.types.length∧T.types.length≤6
 rows:T.rows≤200
 group:1≤T.group∧T.group≤64
 count:T.segs.length=ckN T.rows T.group*T.types.length
 segs:∀ l∈T.segs,l≠[]∧l.length≤1000
 full:∀ l∈T.segs,∀ t,Uf D l=.inl t→t≠[]∧Kje t
def Jgp (y:DS)(T:TS):List (List V)⊕Nat:=(Jkh y T.types T.segs (List.replicate T.rows (List.replicate T.types.length Jf)) (cks T.rows T.group (ckN T.rows T.group))).1
def Zo (y:DS)(T:TS):List (List V)⊕Nat:=(Jfx y T.types T.segs (List.replicate T.types.length []) (cks T.rows T.group (ckN T.rows T.group))).1
theorem Jmq (y:DS)(T:TS)(z:1≤T.group):Jgp y T=Sum.map (Qf T.rows) id (Zo y T)∧∀ cs,Zo y T=.inl cs→cs.length=T.types.length∧∀ c,c<cs.length→(cs.getD c []).length=T.rows:=by
 obtain⟨A,C⟩:=Jwa y T.types T.segs T.rows T.group z (fun l t m vs h=>Jnk h) (ckN T.rows T.group) (Oa2 _)
 refine⟨A,fun cs h=>?_⟩
 obtain⟨E,H⟩:=C cs h
 refine⟨E,fun c D=>?_⟩
 rw[H c D]
 exact Ol4 (Jcy z)
def Jrr (w:World)(et pg:Addr)(r:Option (List (List V)⊕Nat))(e:Ending)(w':World):Prop:=
 Below w.heap.size w w'∧match r with
  |none=>e=.returned (.tuple #[.slice none 0 0,.iface 443 (.pointer (some et))])
  |some (.inl cs)=>∃ g y,e=.returned (.tuple #[.slice (some ⟨g,0,none⟩) cs.length cs.length,.nilIface])∧Jar w' w.heap.size g y cs
  |some (.inr j)=>∃ b,e=.returned (.tuple #[.slice none 0 0,.iface 133 (.pointer (some ⟨b,0,none⟩))])∧w.heap.size≤b∧Yu w' (.iface 133 (.pointer (some ⟨b,0,none⟩))) pg (some (-1)) (some (j:Int))
def Jf8 (y:DS)(Ts:List TS)(n:ByteArray):Option (List (List V)⊕Nat):=(Ts[Ub Ts n]?).map (Jgp y)
def Jcm (y:DS)(Ts:List TS)(n:ByteArray):Option (List (List V)⊕Nat):=(Ts[Ub Ts n]?).map (Zo y)
theorem Keq (y:DS)(Ts:List TS)(n:ByteArray)(E:∀ T∈Ts,Jid y T):(Jcm y Ts n=none∧Jf8 y Ts n=none)∨(∃ j,Jcm y Ts n=some (.inr j)∧Jf8 y Ts n=some (.inr j))∨∃ cs m,Jcm y Ts n=some (.inl cs)∧Jf8 y Ts n=some (.inl (Qf m cs))∧m≤200∧1≤cs.length∧cs.length≤6∧∀ c,c<cs.length→(cs.getD c []).length=m:=by
 unfold Jcm Jf8
 cases h:Ts[Ub Ts n]? with
 |none=>exact .inl ⟨rfl,rfl⟩
 |some T=>
  have z:=E T (Of6 h)
  obtain⟨C,D⟩:=Jmq y T z.group.1
  simp only[Option.map_some]
  rw[C]
  cases hc:Zo y T with
  |inr j=>exact .inr (.inl ⟨j,rfl,rfl⟩)
  |inl cs=>
   obtain⟨A,H⟩:=D cs hc
   exact .inr (.inr ⟨cs,T.rows,rfl,rfl,z.rows,by rw[A];exact z.cols.1,by rw[A];exact z.cols.2,H⟩)
theorem Jou (n:ByteArray)(w:World)(F G:Nat→Prop)(s d:Nat)(z:DS)(Ts:List TS)(sv:Value)(bs:List Nat)(h:Jfl w G s d Ts sv bs)(bI:Zb w F d z)(X:∀ T∈Ts,Jid z T)(bh bi bj:Addr)(bJ:Jf0 w bh bi bj)(et pg:Addr)(bM:w.cell? ⟨8,0,none⟩=some (.iface 443 (.pointer (some pg))))(bK:w.cell? ⟨2,0,none⟩=some (.iface 443 (.pointer (some et)))) :
  Calls prog 48 #[.pointer (some ⟨s,0,none⟩),.string n] w fun e w'=>Jrr w et pg (Jcm z Ts n) e w':=by
 have hf:=Jo8 n w G s d Ts sv bs h
 have bT:=run_neq_nil_nil (P:=prog)
 by_cases H:Ub Ts n<Ts.length
 ·have K:Jhc Ts n=(Ub Ts n:Int):=by unfold Jhc;rw[if_pos H]
  have bl:Jcm z Ts n=some (Zo z Ts[Ub Ts n]):=by simp[Jcm,H]
  rw[K]at hf
  generalize bL:Ub Ts n=k at *
  have C:=X _ (Ob3 H)
  have bf:Hid (∀ W b,Below w.heap.size w W→Jmg W G b Ts[k]→Calls prog 66 #[.pointer (some ⟨s,0,none⟩),.pointer (some ⟨b,0,none⟩)] W fun e w'=>Ji1 W pg (Zo z Ts[k]) e w'):=fun W b A bG=>
   Kas s d b Ts[k] W F G z (bI.below A) (Ja A h.field.1) bG C.cols C.rows C.group.1 C.group.2 C.count C.segs C.full bh bi bj (bJ.below A) pg (Ja A bM)
  have M:Hid (Jcm z Ts n=some (Zo z Ts[k])):=bl
  obtain⟨b,o,bx,c2,bc⟩:=h.at H
  obtain⟨_,c1⟩:=h.field
  obtain⟨a,cap,bz,_⟩:=h.own.cells
  rw[Oa6,h.len]at bz
  subst bz
  simp at bx
  subst bx
  have bS:=h.few
  generalize bs[k]'_=tk at c2 bc
  have bu:=fun W A=>bf.out W tk A (bc.stands A.size fun x _ bN=>A.block x bN)
  have O:Hid (∀ W,Below w.heap.size w W→Calls prog 66 #[.pointer (some ⟨s,0,none⟩),.pointer (some ⟨tk,0,none⟩)] W fun e w'=>Ji1 W pg (Zo z Ts[k]) e w'):=bu
  clear bl K X C bL h bu bf bc
  generalize bU:Zo z Ts[k]=r at *
  rcases r with rs|j
  ·have Z:Hid (∀ W,Below w.heap.size w W→Calls prog 66 #[.pointer (some ⟨s,0,none⟩),.pointer (some ⟨tk,0,none⟩)] W fun e w'=>Below W.heap.size W w'∧∃ g bs,e=.returned (.tuple #[.slice (some ⟨g,0,none⟩) rs.length rs.length,.nilIface])∧Jar w' W.heap.size g bs rs):=O.out
   clear O
   go_enter func48,ntmps48
   go_wp2_with (first|(go_at_call 56;refine hf.mono ?_;rintro e R ⟨rfl,y⟩;have bA:=Ja y c1;have bB:=Ja y c2)|(go_at_call 66;refine(Z.out R y).mono ?_;rintro e D ⟨U,g,bC,rfl,E⟩))
   go_ret2
   rw[M.out]
   exact⟨Jb y U,g,bC,rfl,⟨E.row,Ob2 y.size E.low,E.len,fun i hi=>(E.own i hi).mono y.size,E.ne,E.apart⟩⟩
  have Z:Hid (∀ W,Below w.heap.size w W→Calls prog 66 #[.pointer (some ⟨s,0,none⟩),.pointer (some ⟨tk,0,none⟩)] W fun e w'=>Below W.heap.size W w'∧∃ b,e=.returned (.tuple #[.slice none 0 0,.iface 168 (.pointer (some ⟨b,0,none⟩))])∧W.heap.size≤b∧Yu w' (.iface 168 (.pointer (some ⟨b,0,none⟩))) pg none (some (j:Int))):=O.out
  clear O
  go_enter func48,ntmps48
  go_wp2_with (first|(go_at_call 56;refine hf.mono ?_;rintro e R ⟨rfl,y⟩;have bA:=Ja y c1;have bB:=Ja y c2)|(go_at_call 66;refine(Z.out R y).mono ?_;rintro e D ⟨U,be,rfl,bQ,bH⟩))
  go_ret2
  rw[M.out]
  have bn:=Jb y U
  have br:Below D.heap.size D (D.alloc (.cells #[.string n,.int .i64 (-1),.iface 168 (.pointer (some ⟨be,0,none⟩))] 135)):=(Oa5 _ _).alloc (Oa2 _) _
  obtain⟨_,bO,bP⟩:=Kil D (.string n) (.int .i64 (-1)) (.iface 168 (.pointer (some ⟨be,0,none⟩))) 135
  obtain⟨bD,bE⟩:=bH.disk_at
  exact⟨Jc bn _,D.heap.size,rfl,bn.size,.both D.heap.size be pg (-1) j bO bP (Ja br bD) (Ja br bE)⟩
 have K:Jhc Ts n=-1:=by unfold Jhc;rw[if_neg H]
 have M:Hid (Jcm z Ts n=none):=by show _=_;simp[Jcm];omega
 rw[K]at hf
 clear K H X h
 go_enter func48,ntmps48
 go_wp2_with (first|(go_at_call 56;refine hf.mono ?_;rintro e R ⟨rfl,y⟩;have bR:=Ja y bK))
 go_quiet (fail)
 go_wp2
 go_ret2
 rw[M.out]
 exact⟨Jp y _,rfl⟩
end Go.Proofs.YtjjdldddcegjiaaGreatDoor
namespace Go.Proofs.YtjjdldddcegjiaaGreatDoor
open Go.RowKit Tryz
theorem Kgo (xs:List V)(hn:xs.length≤64)(z:∀ v∈xs,good v.k v.s):(Jds xs).length≤6000:=by
 have y:=Jk0 xs []
 have C:=Jgg (Ym [] xs) fun v A=>by
  rcases Jlj xs [] v A with h|h
  ·simp at h
  exact z v h
 unfold Jds
 rw[Oa8,List.length_cons,Qb,Jal,Oa6]
 simp at y
 omega
theorem Kan (t:Int)(xs:List V)(hn:xs.length≤64):(Zz t xs).length≤6000:=by
 unfold Zz
 split
 ·rw[Qb,Jal];simp[Uv];omega
 cases xs with
 |nil=>simp[Jei]
 |cons v l=>
  unfold Jei
  have y:=Jkx (v::l) (Jn v.n (v::l))
  have C:Uv (v::l) (Jn v.n (v::l))=dif v.n (Jn v.n (v::l))::Uv l (Jn v.n (v::l)):=rfl
  rw[C]at y
  have D:=Jk2 18446744073709551616 (Uv l (Jn v.n (v::l))) (dif v.n (Jn v.n (v::l))) (y _ Of4) fun n hn=>y n (Og1 _ hn)
  have z:=Jf7 _ D
  rw[Oa8,Oa8,Jc4,Qb,Jal]
  have A:(Uv (v::l) (Jn v.n (v::l))).length=(v::l).length:=by simp[Uv]
  rw[A]
  have:bitLen (Yz (dif v.n (Jn v.n (v::l))) (Uv l (Jn v.n (v::l))))*(v::l).length≤64*64:=Ol5 z hn
  simp only[List.length_cons,List.length_nil]at *
  omega
theorem Kfy (t z:Int)(xs:List V)(hn:xs.length≤64)(y:∀ v∈xs,good v.k v.s):(Jdt t z xs).length≤6000:=by
 unfold Jdt
 split
 ·have:=Jgg xs y;omega
 split
 ·exact Kgo xs hn y
 split
 ·have:=Jng _ xs (Oa2 _) y;omega
 exact Kan t xs hn
theorem Khf (t y:Int)(xs:List V)(h:Jdq t xs):(Jav t y xs).length≤6100∧Jav t y xs≠[]:=by
 have z:=Kfy t y (Jz xs) (Ob2 (Zy xs) h.1) (Jgz t xs h)
 have A:=h.1
 refine⟨?_,by simp[Jav,Kz]⟩
 unfold Jav Kz
 rw[Oa8,Oa8,Qb,Oa6]
 simp only[List.length_cons,List.length_nil]
 omega
theorem Jt7 {rows:List (List V)}{A hs:List Int}{c:Nat}(h:(Uo rows A hs c).2=0):(Uo rows A hs c).1.length≤6100∧(Uo rows A hs c).1≠[]:=by
 unfold Uo Jev at h ⊢
 split at h
 ·rename_i z
  rw[if_pos z]
  split at h
  ·simp at h
  rename_i C
  rw[if_neg C]
  simp only[Og5]at z
  refine Khf _ _ _ ?_
  have y:=z.2
  unfold Jfr at y
  simp only[Og5,decide_eq_true_iff,List.all_eq_true]at y
  exact⟨y.1,fun j D=>y.2 _ (Ob3 D)⟩
 simp at h
theorem Jrd (rows:List (List V))(z hs:List Int):∀ (k:Nat) (l:List (List UInt8)),Jeo rows z hs k=.inl l→∀ t∈l,t.length≤6100∧t≠[]
 |0,l,h=>by simp[Jeo]at h;subst h;simp
 |k+1,l,h=>by
  simp only[Jeo]at h
  split at h
  ·simp at h
  rename_i D C
  split at h
  ·rename_i A
   simp at h
   subst h
   intro t y
   rcases Od2.1 y with y|y
   ·exact Jrd rows z hs k D C t y
   simp at y
   subst y
   exact Jt7 A
  simp at h
theorem Jte (rs:List (List V))(y hs:List Int)(xs:List (Nat×Nat))(T:List (List UInt8))(h:Jfg rs y hs xs=.inl T):T.length=xs.length*y.length∧∀ t∈T,t.length≤6100∧t≠[]:=by
 have K:∀ (xs:List (Nat×Nat)) (z T:List (List UInt8)),xs.foldl (Jiu rs y hs) (.inl z)=.inl T→(∀ t∈z,t.length≤6100∧t≠[])→T.length=z.length+xs.length*y.length∧∀ t∈T,t.length≤6100∧t≠[]:=by
  intro xs
  induction xs with
  |nil=>intro z T h h0;simp at h;subst h;exact⟨by simp,h0⟩
  |cons x xs D=>
   intro z T h h0
   rw[List.foldl_cons]at h
   simp only[Jiu]at h
   split at h
   ·rename_i l E
    have:=D (z++l) T h (fun t A=>by
     rcases Od2.1 A with A|A
     ·exact h0 t A
     exact Jrd _ y hs _ l E t A)
    refine⟨?_,this.2⟩
    rw[this.1,Oa8,Jjc _ y hs _ l E,List.length_cons,Of5]
    omega
   rename_i c M
   have H:∀ C:List (Nat×Nat),C.foldl (Jiu rs y hs) (.inr c)=.inr c:=by
    intro C
    induction C with
    |nil=>rfl
    |cons O C D=>exact D
   rw[H]at h
   simp at h
 have:=K xs [] T h (by simp)
 simpa using this
theorem Joc:∀ (y:List (List UInt8)),(∀ t∈y,t.length≤6100)→Jch y≤110*y.length
 |[],_=>by simp[Jch]
 |t::y,h=>by
  have A:=Jio t
  have C:=h t (by simp)
  have D:=Joc y fun t z=>h t (by simp[z])
  rw[Ja1,List.length_cons]
  omega
end Go.Proofs.YtjjdldddcegjiaaGreatDoor
namespace Go.Proofs.YtjjdldddcegjiaaGreatDoor
open Go.RowKit Tryz
theorem Jrj {w:World}{B:Nat}{sv:Value}{ns:List Int}(h:Jo w B 3 sv (ns.map iv))(E:ns≠[]):∃ g c,sv=.slice (some ⟨g,0,none⟩) ns.length c∧B≤g∧g<w.heap.size∧Kc w (some ⟨g,0,none⟩) ns:=by
 obtain⟨a,c,z,C⟩:=h.cells
 rw[Oa6]at z
 subst z
 rcases h.2 with⟨y,h0⟩|⟨g,cap,H,y,A,D,_⟩
 ·simp at h0
  exact absurd h0 E
 simp at y
 obtain⟨rfl,rfl⟩:=y
 exact⟨g,c,rfl,A,Jd D,C⟩
theorem Jhe (b o cap:Nat)(ns:List Int)(w:World)(y:ns≠[])(bi:ns.length≤1000)(h:Kc w (some ⟨b,o,none⟩) ns) :
  Calls prog 60 #[.slice (some ⟨b,o,none⟩) ns.length cap] w fun e w'=>Below w.heap.size w w'∧∃ g c,e=.returned (.slice (some ⟨g,0,none⟩) ns.length c)∧w.heap.size≤g∧g<w'.heap.size∧Kc w' (some ⟨g,0,none⟩) ns:=by
 have C:Below w.heap.size w (w.alloc (.cells #[] 3)):=(Oa5 _ w).alloc (Oa2 _) _
 have E:Hid (∀ (j:Nat) (u:Value),(ns.map iv)[j]?=some u→(w.alloc (.cells #[] 3)).cell? ((⟨b,o,none⟩:Addr).add j)=some u):=fun j u z=>by
  rcases h.below C with h0|⟨bf,bl,D,_,R⟩
  ·simp at h0;exact absurd h0 y
  simp at D
  obtain⟨rfl,rfl⟩:=D
  rw[Op7]
  exact R j u z
 have K:Hid (Jo (w.alloc (.cells #[] 3)) w.heap.size 3 (.slice (some ⟨w.heap.size,0,none⟩) 0 0) []):=
  ⟨rfl,.inr ⟨w.heap.size,0,#[],rfl,Oa2 _,heap_alloc_new _ _,Oa2 _,Ob7 _,rfl,rfl⟩⟩
 have H:Hid (ns≠[]):=y
 have bj:∀ W:World,(binOp .eql 22 (.slice (some ⟨b,o,none⟩) ns.length cap) (.slice none 0 0)).run prog W=.ok (.bool false) W:=fun W=>Lib.run_eql_slice_some_nil W _ _ _ underlying22
 clear y h
 go_enter func60,ntmps60
 go_wp2_with (at_builtin;go_must (refine Ul (by rfl) _ _ 22 3 _ 8 Zw (by rfl) (by decide) (by kernel_rfl) (by rfl) w.heap.size _ [] (by rfl) (by exact K.out) ⟨b,o,none⟩ cap (ns.map iv) (by simp[Act.eval]) (by exact E.out) (by intro u z;obtain⟨x,_,rfl⟩:=Of0.1 z;rfl) (by simp;omega) (by simp) ?_);intro sv' bc A M bh)
 have O:Below w.heap.size w bc:=Jy (sv:=.slice (some ⟨w.heap.size,0,none⟩) 0 0) C M (fun g U=>by simp[Value.ownBlock]at U;omega)
 rw[List.nil_append]at A
 obtain⟨g,c,rfl,X,Z,hI⟩:=Jrj A H.out
 go_ret
 exact⟨O,g,c,rfl,X,Z,hI⟩
end Go.Proofs.YtjjdldddcegjiaaGreatDoor
namespace Go.Proofs.YtjjdldddcegjiaaGreatDoor
open Go.RowKit Go.Shelf Tryz
theorem Jru:(prog.info? 136).map (fun i=>(i.zero,i.size,i.bytes))=some (some (.pointer none),1,8):=by kernel_rfl
end Go.Proofs.YtjjdldddcegjiaaGreatDoor
namespace Go.Proofs.YtjjdldddcegjiaaGreatDoor
open Go.RowKit Go.Shelf Tryz
def Je3 (y hs:List Int):Prop:=hs.length=y.length∧∀ j (z:j<hs.length),way (y.getD j 0) hs[j]=true
structure Kct (w:World) (name:ByteArray) (at_ ar ah:Option Addr) (cr:Nat) (ts hs:List Int) (xs:List (Option Addr×Nat)) (rs:List (List V)):Prop where
 ln:name.size≤maxLen
 lt:ts.length≤maxLen
 lr:rs.length≤maxLen
 lrr:∀ r∈rs,r.length≤maxLen
 lh:hs.length≤maxLen
 cap:rs.length≤cr
 types:Kc w at_ ts
 hows:Kc w ah hs
 rows:Zd w ar xs rs
theorem Kct.below {w w':World}{name:ByteArray}{C A z:Option Addr}{D:Nat}{E hs:List Int}{xs:List (Option Addr×Nat)}{rs:List (List V)}(h:Kct w name C A z D E hs xs rs)(y:Below w.heap.size w w'):Kct w' name C A z D E hs xs rs:=
 ⟨h.ln,h.lt,h.lr,h.lrr,h.lh,h.cap,h.types.below y,h.hows.below y,h.rows.below y⟩
abbrev Jvc (name:ByteArray)(z y:Option Addr)(ct A:Nat)(C:List Int)(rs:List (List V)):Value:=.agg #[.string name,.slice z C.length ct,.slice y rs.length A]
abbrev Jln (name:ByteArray)(z y:Option Addr)(ct A:Nat)(C:List Int)(rs:List (List V)):Obj:=.cells #[.string name,.slice z C.length ct,.slice y rs.length A] 25
end Go.Proofs.YtjjdldddcegjiaaGreatDoor
namespace Go.Proofs.YtjjdldddcegjiaaGreatDoor
open Go.RowKit Go.Shelf Tryz
structure Jqy (w:World) (s d:Nat) (F G:Nat→Prop) (D:DS) (Ts:List TS) (sv:Value) (bs:List Nat) (name:ByteArray) (at_ ar ah:Option Addr) (cr:Nat) (ts hs:List Int) (xs:List (Option Addr×Nat)) (rs:List (List V)) (g:Nat):Prop where
 args:Kct w name at_ ar ah cr ts hs xs rs
 tab:Jel name ts rs
 ways:Je3 ts hs
 g1:1≤g
 g2:g≤64
 set:Jfl w G s d Ts sv bs
 new:¬ Ub Ts name<Ts.length
 few:Ts.length<6
 disk:Zb w F d D
 lt:∀ k,F k∨G k→k<w.heap.size
 apart:∀ k,G k→¬ F k
 sF:¬ F s
 gF:∀ g,sv.ownBlock=some g→¬ F g
 tF:∀ b o,at_=some ⟨b,o,none⟩→¬ F b
 small:D.pages.length≤200000
 wayc:∀ x∈hs,Kjk x
end Go.Proofs.YtjjdldddcegjiaaGreatDoor
namespace Go.Proofs.YtjjdldddcegjiaaGreatDoor
open Go.RowKit Go.Shelf Tryz
structure Kkv (w:World) (s d:Nat) (F:Nat→Prop) (D:DS) (Ts:List TS) (name:ByteArray) (at_ ar ah:Option Addr) (ct cr ch:Nat) (ts hs:List Int) (rs:List (List V)) (g:Nat) (T:List (List UInt8)) (q qw:Addr):Prop where
 t:Calls prog 54 #[Jvc name at_ ar ct cr ts rs] (w.alloc (Jln name at_ ar ct cr ts rs)) fun e w'=>e=.returned (.bool true)∧Below (w.alloc (Jln name at_ ar ct cr ts rs)).heap.size (w.alloc (Jln name at_ ar ct cr ts rs)) w'
 ws:∀ W,Below w.heap.size w W→Calls prog 55 #[.slice ah hs.length ch,.slice at_ ts.length ct] W fun e w'=>e=.returned (.bool true)∧w'=W
 f:∀ W,Below w.heap.size w W→Calls prog 56 #[.pointer (some ⟨s,0,none⟩),.string name] W fun e w'=>e=.returned (.int .i64 (-1))∧Below W.heap.size W w'
 p:∀ W,Below w.heap.size w W→Calls prog 57 #[.agg #[.string name,.slice at_ ts.length ct,.slice ar rs.length cr],.slice ah hs.length ch,.int .i64 (g:Int)] W fun e w'=>Below W.heap.size W w'∧∃ a cap,e=.returned (.tuple #[.slice a T.length cap,.nilIface])∧Uh w' a (T.map tv)∧∀ b o,a=some ⟨b,o,none⟩→W.heap.size≤b
 l:∀ W a cap,Below w.heap.size w W→Uh W a (T.map tv)→(∀ b o,a=some ⟨b,o,none⟩→w.heap.size≤b)→Calls prog 58 #[.pointer (some ⟨s,0,none⟩),.slice a T.length cap] W fun e w'=>Jxo W F d q qw (Jq D T) e w'
open Classical in
theorem Jqy.hid {w:World}{s d:Nat}{F G:Nat→Prop}{D:DS}{Ts:List TS}{sv:Value}{bs:List Nat}{name:ByteArray}{at_ ar ah:Option Addr}{cr:Nat}{ts hs:List Int}{xs:List (Option Addr×Nat)}{rs:List (List V)}{g:Nat}(h:Jqy w s d F G D Ts sv bs name at_ ar ah cr ts hs xs rs g)(ct ch:Nat)(a0 a1 a2:Addr)(he:Jf0 w a0 a1 a2)
  (T:List (List UInt8)) (hp:Jfg rs ts hs (cks rs.length g (ckN rs.length g))=.inl T) (q qw:Addr) (hq:w.cell? ⟨6,0,none⟩=some (.iface 443 (.pointer (some q)))) (hw:w.cell? ⟨7,0,none⟩=some (.iface 443 (.pointer (some qw)))) (hFq:¬ F 6) (hFw:¬ F 7):Kkv w s d F D Ts name at_ ar ah ct cr ch ts hs rs g T q qw:=by
 have hb0:Below w.heap.size w (w.alloc (Jln name at_ ar ct cr ts rs)):=(Oa5 _ w).alloc (Oa2 _) _
 have hA:=h.args
 have hT:=Kjj name at_ ar ct cr ts xs rs _ hA.ln hA.lt hA.lr hA.lrr (hA.types.below hb0) (hA.rows.below hb0)
 rw[decide_eq_true h.tab]at hT
 have hfv:Jhc Ts name=-1:=by unfold Jhc;rw[if_neg h.new]
 refine⟨hT,fun W hb=>Kjr ah at_ ch ct hs ts W hA.lh (hA.hows.below hb) (hA.types.below hb) true (by simpa [Je3] using h.ways),fun W hb=>by rw[←hfv];exact Jo8 name W G s d Ts sv bs (h.set.below hb),fun W hb=>?_,fun W a cap hb hc ha=>?_⟩
 ·have:=Kkk name at_ ar ah ct cr ch g ts hs xs rs W h.tab h.ways.1 h.ways.2 h.g1 h.g2 hA.cap (hA.types.below hb) (hA.hows.below hb) (hA.rows.below hb) h.wayc a0 a1 a2 (he.below hb)
  rw[hp]at this
  exact this
 obtain⟨hl1,hl2⟩:=Jte rs ts hs _ T hp
 have hck:(cks rs.length g (ckN rs.length g)).length≤200:=by
  have h2:rs.length≤200:=h.tab.2.2.1
  have h3:ckN rs.length g≤rs.length:=by
   unfold ckN
   have:=h.g1
   exact Nat.le_of_lt_succ ((Nat.div_lt_iff_lt_mul (by omega)).2 (by
    have:rs.length+1≤(rs.length+1)*g:=On4 _ (by omega)
    rw[Of5]at this ⊢
    have h5:rs.length≤rs.length*g:=On4 _ (by omega)
    omega))
  simp[cks]
  omega
 have h6:ts.length≤6:=h.tab.2.1.1.2
 have hTl:T.length≤1200:=by
  rw[hl1]
  exact Ob2 (Ol5 hck h6) (by decide)
 have htp:=Joc T fun t ht=>(hl2 t ht).1
 have hsm:=h.small
 exact Kks s d a cap T W F D (h.disk.below hb) (fun k hk=>Oc2 (h.lt k (.inl hk)) hb.size) hc (fun b o hbo hf=>by have:=h.lt b (.inl hf);have:=ha b o hbo;omega) (Ja hb h.set.field.1) h.sF q qw (Ja hb hq) (Ja hb hw) hFq hFw (by omega) (by omega) (fun t ht=>by have:=(hl2 t ht).1;omega)
end Go.Proofs.YtjjdldddcegjiaaGreatDoor
namespace Go.Proofs.YtjjdldddcegjiaaGreatDoor
open Go.RowKit Go.Shelf Tryz
def Jdl (w:World)(s d:Nat)(F G:Nat→Prop)(z:DS)(Ts:List TS)(sv:Value)(bs:List Nat)(name:ByteArray)(C:List Int)(rs:List (List V))(g:Nat)(T:List (List UInt8))(w':World):Prop:=
 Ju (fun k=>F k∨Jnr s sv k) w w'∧∃ (FD y:Nat→Prop) (sv':Value) (A:Nat),Zb w' FD d (Jq z T).1∧Jfl w' y s d (Ts++[⟨name,C,rs.length,g,(Jq z T).2.1⟩]) sv' (bs++[A])∧(∀ k,FD k→F k∨w.heap.size≤k)∧(∀ k,y k→G k∨w.heap.size≤k)∧(∀ k,FD k∨y k→k<w'.heap.size)∧(∀ k,y k→¬ FD k)∧¬ FD s∧(∀ k,sv'.ownBlock=some k→¬ FD k)∧(∀ k,sv'.ownBlock=some k→sv.ownBlock=some k∨w.heap.size≤k)
abbrev Jr (name:ByteArray)(z y:Nat)(D:List Int)(rs:List (List V))(g:Nat)(A:Option Addr)(n C:Nat):Obj:=.cells #[.string name,.slice (some ⟨z,0,none⟩) D.length y,.int .i64 (rs.length:Int),.int .i64 (g:Int),.slice A n C] 140
theorem Jgq {w:World}{s d:Nat}{F G:Nat→Prop}{H:DS}{Ts:List TS}{sv:Value}{bs:List Nat}{name:ByteArray}{bR bQ bP:Option Addr}{bS:Nat}{bx hs:List Int}{xs:List (Option Addr×Nat)}{rs:List (List V)}{g:Nat}(h:Jqy w s d F G H Ts sv bs name bR bQ bP bS bx hs xs rs g)
  {T:List (List UInt8)} {U C A D:World} {FD:Nat→Prop} {bA:Option Addr} {bB:Nat} {bN:List (Option Addr×Nat)} (Z:Below w.heap.size w U) (bh:Ju F U C) (bU:Zb C FD d (Jq H T).1) (bJ:∀ k,FD k→F k∨U.heap.size≤k) (bz:∀ k,FD k→k<C.heap.size)
  (bZ:Jaf C (fun k=>U.heap.size≤k∧k<C.heap.size∧¬ FD k) bA bN (Jq H T).2.1) (bY:(Jq H T).2.1.length≤bB) (bc:Below C.heap.size C A) {K bC:Nat} (cf:C.heap.size≤K) (ch:K<A.heap.size) (hI:Kc A (some ⟨K,0,none⟩) bx)
  {sv':Value} {bu:Obj} (bW:Jo D 0 136 sv' (bs.map Jcp++[Jcp A.heap.size])) (bf:((A.alloc (Jr name K bC bx rs g bA (Jq H T).2.1.length bB)).alloc bu).grownBy D sv.ownBlock) (bT:sv'.ownBlock=sv.ownBlock∨sv'.ownBlock=some (A.heap.size+2)) :
  Jdl w s d F G H Ts sv bs name bx rs g T (D.setCell ⟨s,1,none⟩ sv'):=by
 have cj:=Z.size
 have ci:=bh.size
 have cl:=bc.size
 have ca:=bf.size
 simp only[Oa7]at ca
 have bE:s<w.heap.size:=Jd h.set.cells
 have bi:∀ k,sv.ownBlock=some k→k<w.heap.size:=fun k y=>Qk h.set.own y
 have cc:∀ k,F k→k<w.heap.size:=fun k y=>h.lt k (.inl y)
 have bD:∀ k,G k→k<w.heap.size:=fun k y=>h.lt k (.inr y)
 have bn:∀ k,k<w.heap.size→FD k→F k:=fun k y hf=>(bJ k hf).resolve_right (by omega)
 have br:(D.setCell ⟨s,1,none⟩ sv').heap.size=D.heap.size:=by simp[World.setCell]
 -- the blocks that stand
 have bM:∀ k,k<A.heap.size+2→sv.ownBlock≠some k→k≠s→(D.setCell ⟨s,1,none⟩ sv').heap[k]?=((A.alloc (Jr name K bC bx rs g bA (Jq H T).2.1.length bB)).alloc bu).heap[k]?:=fun k y R M=>
  (Oa4 _ _ _ _ M).trans (bf.block k (by simp;omega) (Oc5 R))
 have bL:∀ k,k<A.heap.size→sv.ownBlock≠some k→k≠s→(D.setCell ⟨s,1,none⟩ sv').heap[k]?=A.heap[k]?:=fun k y R M=>
  (bM k (by omega) R M).trans ((Oa9 _ bu k (by simp;omega)).trans (Oa9 A _ k y))
 have bI:∀ k,k<C.heap.size→sv.ownBlock≠some k→k≠s→(D.setCell ⟨s,1,none⟩ sv').heap[k]?=C.heap[k]?:=fun k y R M=>
  (bL k (by omega) R M).trans (bc.block k y)
 have bK:∀ k,k<w.heap.size→¬ F k→sv.ownBlock≠some k→k≠s→(D.setCell ⟨s,1,none⟩ sv').heap[k]?=w.heap[k]?:=fun k y hF R M=>
  (bI k (by omega) R M).trans ((bh.block k (by omega) hF).trans (Z.block k y))
 have bG:sv.ownBlock≠some s:=fun e=>(h.set.gF s e).2 rfl
 have bX:D.heap[s]?=some (.cells #[.pointer (some ⟨d,0,none⟩),sv] 123 (0,0)):=by
  rw[bf.block s (by simp;omega) (Oc5 bG),Oa9 _ bu s (by simp;omega),Oa9 A _ s (by omega),bc.block s (by omega),bh.block s (by omega) h.sF,Z.block s bE]
  exact h.set.cells
 have E:∀ k,sv'.ownBlock=some k→sv.ownBlock=some k∨k=A.heap.size+2:=fun k y=>by
  rcases bT with e|e
  ·exact .inl (e▸y)
  rw[e]at y;simp at y;exact .inr y.symm
 refine⟨⟨bf.os.trans ((bc.os).trans (bh.os.trans Z.os)),bf.tape.trans ((bc.tape).trans (bh.tape.trans Z.tape)),bf.output.trans ((bc.output).trans (bh.output.trans Z.output)),by rw[br];omega,fun k y hn=>bK k y (fun hF=>hn (.inl hF)) (fun e=>hn (.inr (.inr e))) (fun e=>hn (.inr (.inl e)))⟩,
  FD,fun k=>G k∨(U.heap.size≤k∧k<C.heap.size∧¬ FD k)∨k=K∨k=A.heap.size,sv',A.heap.size,?_,?_,fun k y=>(bJ k y).imp_right fun h=>by omega,?_,?_,?_,?_,?_,?_⟩
 ·refine bU.stands fun k y O=>bI k O (fun e=>?_) (fun e=>?_)
  ·exact h.gF k e (bn k (bi k e) y)
  subst e;exact h.sF (bn k bE y)
 ·refine⟨heap_setCell_same D s 1 _ _ _ bX,?_,?_,?_,by simp[h.set.len],?_,by have:=h.few;simp;omega⟩
  ·rw[Ob8,Oe4,Oi4]
   refine Yd bW fun k y=>Oa4 _ _ _ _ fun e=>?_
   subst e
   rcases E k y with e|e
   ·exact bG e
   omega
  ·rintro(z|⟨z,_⟩|z|z)
   ·exact h.set.sF z
   ·omega
   ·omega
   omega
  ·intro k y
   refine⟨?_,fun e=>?_⟩
   ·rintro(z|⟨z,cb,_⟩|z|z)
    ·rcases E k y with e|e
     ·exact(h.set.gF k e).1 z
     have:=bD k z;omega
    ·rcases E k y with e|e
     ·have:=bi k e;omega
     omega
    ·rcases E k y with e|e
     ·have:=bi k e;omega
     omega
    rcases E k y with e|e
    ·have:=bi k e;omega
    omega
   subst e
   rcases E k y with e|e
   ·exact bG e
   omega
  intro i b bO X bj
  by_cases hi:i<bs.length
  ·rw[Ob0 hi]at X
   rw[Ob0 (by rw[←h.set.len];exact hi)]at bj
   refine((h.set.tab i b bO X bj).stands (by rw[br];omega) fun k y O=>bK k O (h.apart k y) (fun e=>(h.set.gF k e).1 y) (fun e=>h.set.sF (e▸y))).mono fun k y=>.inl y
  have bV:i=bs.length:=by
   have:=(Ob9.1 X).1
   simp at this
   omega
  subst bV
  rw[Ob6 (Oa2 _)]at X
  rw[h.set.len,Ob6 (Oa2 _)]at bj
  simp at X bj
  subst X bj
  have bH:∀ k,U.heap.size≤k→sv.ownBlock≠some k:=fun k y e=>by have:=bi k e;omega
  refine⟨some ⟨K,0,none⟩,bC,bA,bB,bN,?_,?_,?_,?_,bY,.inr (.inr (.inr rfl))⟩
  ·rw[bM _ (by omega) (bH _ (by omega)) (by omega),Oa9 _ bu _ (by simp),heap_alloc_new]
  ·refine hI.of_block (by rw[br];omega) fun b o bl O=>?_
   simp at bl
   obtain⟨rfl,rfl⟩:=bl
   exact bL _ O (bH _ (by omega)) (by omega)
  ·intro b o bl
   simp at bl
   exact .inr (.inr (.inl bl.1.symm))
  exact(bZ.stands (by rw[br];omega) fun k y O=>bI k O (bH k y.1) (by have:=y.1;omega)).mono fun k y=>.inr (.inl y)
 ·rintro k (z|⟨z,_⟩|z|z)
  ·exact .inl z
  ·exact .inr (by omega)
  ·exact .inr (by omega)
  exact .inr (by omega)
 ·rw[br]
  rintro k (z|z|⟨_,z,_⟩|z|z)
  ·have:=bz k z;omega
  ·have:=bD k z;omega
  ·omega
  ·omega
  omega
 ·rintro k (z|⟨_,_,z⟩|z|z) hf
  ·exact h.apart k z (bn k (bD k z) hf)
  ·exact z hf
  ·have:=bz k hf;omega
  have:=bz k hf;omega
 ·exact fun hf=>h.sF (bn s bE hf)
 ·intro k y hf
  rcases E k y with e|e
  ·exact h.gF k e (bn k (bi k e) hf)
  have:=bz k hf;omega
 intro k y
 rcases E k y with e|e
 ·exact .inl e
 exact .inr (by omega)
theorem Ked (s d:Nat)(F G:Nat→Prop)(bA:DS)(Ts:List TS)(sv:Value)(bs:List Nat)(name:ByteArray)(bG bM cy:Option Addr)(ct bN cB:Nat)(A hs:List Int)(xs:List (Option Addr×Nat))(rs:List (List V))(g:Nat)(w:World)(h:Jqy w s d F G bA Ts sv bs name bG bM cy bN A hs xs rs g)(dp dq dr:Addr)(fd:Jf0 w dp dq dr)
  (T:List (List UInt8)) (dG:Jfg rs A hs (cks rs.length g (ckN rs.length g))=.inl T) (q dR:Addr) (dJ:w.cell? ⟨6,0,none⟩=some (.iface 443 (.pointer (some q)))) (dM:w.cell? ⟨7,0,none⟩=some (.iface 443 (.pointer (some dR)))) (dZ:¬ F 6) (fb:¬ F 7) (dN:(Jq bA T).2.2=none) :
  Calls prog 39 #[.pointer (some ⟨s,0,none⟩),Jvc name bG bM ct bN A rs,.slice cy hs.length cB,.int .i64 (g:Int)] w fun e w'=>e=.returned .nilIface∧Jdl w s d F G bA Ts sv bs name A rs g T w':=by
 have fc:Below w.heap.size w (w.alloc (Jln name bG bM ct bN A rs)):=(Oa5 _ w).alloc (Oa2 _) _
 obtain⟨dD,hW,hF,dC,hL⟩:=h.hid ct cB dp dq dr fd T dG q dR dJ dM dZ fb
 have dm:Hid (∀ W,Below w.heap.size w W→Calls prog 55 #[.slice cy hs.length cB,.slice bG A.length ct] W fun e w'=>e=.returned (.bool true)∧w'=W):=hW
 have dh:Hid (∀ W,Below w.heap.size w W→Calls prog 56 #[.pointer (some ⟨s,0,none⟩),.string name] W fun e w'=>e=.returned (.int .i64 (-1))∧Below W.heap.size W w'):=hF
 have dj:Hid (∀ W,Below w.heap.size w W→Calls prog 57 #[.agg #[.string name,.slice bG A.length ct,.slice bM rs.length bN],.slice cy hs.length cB,.int .i64 (g:Int)] W fun e w'=>Below W.heap.size W w'∧∃ a cap,e=.returned (.tuple #[.slice a T.length cap,.nilIface])∧Uh w' a (T.map tv)∧∀ b o,a=some ⟨b,o,none⟩→W.heap.size≤b):=dC
 have di:Hid (∀ W a cap,Below w.heap.size w W→Uh W a (T.map tv)→(∀ b o,a=some ⟨b,o,none⟩→w.heap.size≤b)→Calls prog 58 #[.pointer (some ⟨s,0,none⟩),.slice a T.length cap] W fun e w'=>Ju F W w'∧∃ FD:Nat→Prop,Zb w' FD d (Jq bA T).1∧(∀ k,FD k→F k∨W.heap.size≤k)∧(∀ k,FD k→k<w'.heap.size)∧∃ E H de,e=.returned (.tuple #[.slice E (Jq bA T).2.1.length H,.nilIface])∧Jaf w' (fun k=>W.heap.size≤k∧k<w'.heap.size∧¬ FD k) E de (Jq bA T).2.1∧(Jq bA T).2.1.length≤H):=fun W a cap dW dX dY=>
  (hL W a cap dW dX dY).mono fun e w' dc=>by
   unfold Jxo at dc
   rw[dN]at dc
   exact dc
 have dO:(w.alloc (Jln name bG bM ct bN A rs)).cell? ⟨w.heap.size,0,none⟩=some (.string name):=by simp
 have dP:(w.alloc (Jln name bG bM ct bN A rs)).cell? ⟨w.heap.size,1,none⟩=some (.slice bG A.length ct):=by simp
 have dQ:(w.alloc (Jln name bG bM ct bN A rs)).cell? ⟨w.heap.size,2,none⟩=some (.slice bM rs.length bN):=by simp
 have db:¬ F w.heap.size:=fun hf=>Oe3 _ (h.lt _ (.inl hf))
 have R:Hid (Jqy w s d F G bA Ts sv bs name bG bM cy bN A hs xs rs g):=h
 obtain⟨_,c1⟩:=h.set.field
 obtain⟨a,cap,dL,_⟩:=h.set.own.cells
 rw[Oa6,h.set.len]at dL
 subst dL
 have fl:=h.few
 have fm:=h.g1
 have fo:=h.g2
 have fe:=h.sF
 have cK:A≠[]:=fun e=>by have:=h.tab.2.1.1.1;rw[e]at this;simp at this
 obtain⟨cv,cx,rfl⟩:∃ b o,bG=some ⟨b,o,none⟩:=by
  rcases h.args.types with h0|⟨b,o,cY,_⟩
  ·simp at h0;exact absurd h0 cK
  exact⟨b,o,cY⟩
 have fi:Hid (A≠[]):=cK
 have fp:rs.length≤200:=h.tab.2.2.1
 generalize hR:(Jq bA T).2.1=K at *
 have cz:Hid ((Jq bA T).2.1=K):=hR
 clear hR
 have dk:Hid (∀ W,Calls prog 59 #[.string name] W fun e w'=>e=.returned (.string name)∧Below W.heap.size W w'):=fun W=>by
  have:=Jhm name.toList W (by have:=h.tab.1.2;rw[←Jb2,Zf];omega)
  rwa [Zf]at this
 have cU:Hid (∀ W,Kc W (some ⟨cv,cx,none⟩) A→Calls prog 60 #[.slice (some ⟨cv,cx,none⟩) A.length ct] W fun e w'=>Below W.heap.size W w'∧∃ g c,e=.returned (.slice (some ⟨g,0,none⟩) A.length c)∧W.heap.size≤g∧g<w'.heap.size∧Kc w' (some ⟨g,0,none⟩) A):=fun W hI=>Jhe cv cx ct A W cK (by have:=h.tab.2.1.1.2;omega) hI
 obtain⟨cQ,cI,cN,cO,cP⟩:=info_parts Jru
 clear h dG hW hF dC hL dJ dM dN cK
 go_enter func39,ntmps39
 go_wp2_with (first|(go_at_call 54;refine dD.mono ?_;rintro e dS ⟨rfl,cC⟩;have cZ:=Jb fc cC;have ds:=Ja cC dO;have dt:=Ja cC dP;have du:=Ja cC dQ)|(go_at_call 55;refine(dm.out dS cZ).mono ?_;rintro e fj ⟨rfl,rfl⟩)|(go_at_call 56;refine(dh.out _ cZ).mono ?_;rintro e fk ⟨rfl,cD⟩;have cE:=Jb cZ cD;have dU:=Ja cE c1;have dv:=Ja cD ds;have bO:=Ja cD dt;have dw:=Ja cD du)|(go_at_call 57;refine(dj.out _ cE).mono ?_;rintro e dT ⟨cF,ff,fg,rfl,dI,dH⟩;have bi:=Jb cE cF;have dx:=Ja cF dv;have dy:=Ja cF bO;have dz:=Ja cF dw;have dA:=Ja bi c1;have fh:=cE.size)|(go_at_call 58;refine(di.out _ ff fg bi dI (fun b o cY=>Ob2 fh (dH b o cY))).mono ?_;rintro e Z ⟨bc,FD,cG,cH,cJ,E,H,de,rfl,dK,cM⟩;have dV:=bc.cell dx db;have g1:=bc.cell dy db;have g2:=bc.cell dz db;have gc:=bc.cell dA fe))
 have dB:Kc Z (some ⟨cv,cx,none⟩) A:=(R.out.args.types.below bi).of_block bc.size fun b o dE bX=>by
  simp at dE
  obtain⟨rfl,rfl⟩:=dE
  exact bc.block _ bX (R.out.tF _ _ rfl)
 have cV:Hid (Kc Z (some ⟨cv,cx,none⟩) A):=dB
 have cA:Hid (Jaf Z (fun k=>dT.heap.size≤k∧k<Z.heap.size∧¬ FD k) E de K):=dK
 clear dB dK dD dO dP dQ ds dt du dv bO dw dx dy dz dA dU c1 dI dH dm dh dj di
 refine wp_region_held_drew (S:=fun cW=>cW.cell? ⟨w.heap.size,0,none⟩=some (.string name)∧cW.cell? ⟨w.heap.size,1,none⟩=some (.slice (some ⟨cv,cx,none⟩) A.length ct)∧cW.cell? ⟨w.heap.size,2,none⟩=some (.slice bM rs.length bN)) (by kernel_rfl) ⟨dV,g1,g2⟩ (fun z=>?_)
 refine tk 0 ?_ rfl z ?_ (tk 1 ?_ rfl z ?_ (tk 2 ?_ rfl z ?_ (tk 3 ?_ rfl z ?_ (tk 5 ?_ rfl z ?_ (tk 6 ?_ rfl z ?_ (tk 8 ?_ rfl z ?_ (tk 9 ?_ rfl z ?_ (tk 11 ?_ rfl z ?_ (tk 12 ?_ rfl z ?_ (tk 13 ?_ rfl z ?_ (tk 14 ?_ rfl z ?_ (tk 15 ?_ rfl z ?_ ?_))))))))))))
 iterate 13
  rotate_left 1
  ·intro w bC;(try dsimp only at bC);go_simp;try rfl
 simp only[Act.put,List.getElem_toArray,List.getElem_cons_zero,List.getElem_cons_succ,Oa1,List.set_cons_zero,List.set_cons_succ]
 refine wpAnyH_ready (rs:=[4,7]) (by kernel_rfl) (by simp) (AllReadyH.cons rfl (fun O C=>?_) (AllReadyH.cons rfl (fun O C=>?_) AllReadyH.nil))
 ·go_simp
  refine C.out _ _ z (fun z=>?_)
  clear C O
  refine wpAnyH_ready (rs:=[7]) (by kernel_rfl) (by simp) (AllReadyH.cons rfl (fun O C=>?_) AllReadyH.nil)
  go_simp
  refine(dk.out _).mono ?_
  rintro e bP ⟨rfl,bj⟩
  have cS:=Ja bj (show Z.drew.cell? _=_ from gc)
  go_simp
  refine C.out _ _ ⟨Ja bj z.1,Ja bj z.2.1,Ja bj z.2.2⟩ (fun z=>?_)
  clear C O
  refine wpAnyH_ready (rs:=[10]) (by kernel_rfl) (by simp) (AllReadyH.cons rfl (fun O C=>?_) AllReadyH.nil)
  go_simp
  refine(cU.out _ ((cV.out.of_block (w':=bP) bj.size fun b o _ bX=>bj.block b bX))).mono ?_
  rintro e y ⟨bB,D,M,rfl,cn,cr,bQ⟩
  have cl:Hid (Kc y (some ⟨D,0,none⟩) A):=bQ
  clear bQ
  have cu:=Ja bB cS
  go_simp
  refine C.out _ _ ⟨Ja bB z.1,Ja bB z.2.1,Ja bB z.2.2⟩ (fun z=>?_)
  clear C O
  refine tk 16 ?_ rfl z ?_ ?_
  rotate_left 1
  ·intro w bC;(try dsimp only at bC);go_simp;try rfl
  simp only[Act.put,List.getElem_toArray,List.getElem_cons_zero,List.getElem_cons_succ,Oa1,List.set_cons_zero,List.set_cons_succ]
  refine wpAnyH_ready (rs:=[17]) (by kernel_rfl) (by simp) (AllReadyH.cons rfl (fun O C=>?_) AllReadyH.nil)
  go_simp
  have bl:Below y.heap.size y (y.alloc (Jr name D M A rs g E K.length H)):=(Oa5 _ _).alloc (Oa2 _) _
  have bR:=Ja bl cu
  refine C.out _ _ ⟨Ja bl z.1,Ja bl z.2.1,Ja bl z.2.2⟩ (fun z=>?_)
  clear C O
  refine wpAnyH_ready (rs:=[18]) (by kernel_rfl) (by simp) (AllReadyH.cons rfl (fun O C=>?_) AllReadyH.nil)
  go_simp
  have X:Below (y.alloc (Jr name D M A rs g E K.length H)).heap.size (y.alloc (Jr name D M A rs g E K.length H)) ((y.alloc (Jr name D M A rs g E K.length H)).alloc (.cells #[.pointer (some ⟨y.heap.size,0,none⟩)] 136)):=(Oa5 _ _).alloc (Oa2 _) _
  have cT:=Ja X bR
  refine C.out _ _ ⟨Ja X z.1,Ja X z.2.1,Ja X z.2.2⟩ (fun z=>?_)
  clear C O
  refine wpAnyH_ready (rs:=[19]) (by kernel_rfl) (by simp) (AllReadyH.cons rfl (fun O C=>?_) AllReadyH.nil)
  have ch:Z.heap.size≤bP.heap.size:=bj.size
  have bD:Below Z.heap.size Z y:=Jw (Jb bj bB)
  have bE:∀ k,k<Z.heap.size→((y.alloc (Jr name D M A rs g E K.length H)).alloc (.cells #[.pointer (some ⟨y.heap.size,0,none⟩)] 136)).heap[k]?=Z.heap[k]?:=fun k bx=>by
   have df:=bD.size
   rw[X.block k (by simp;omega),bl.block k (by omega),bD.block k bx]
  have bI:Jo ((y.alloc (Jr name D M A rs g E K.length H)).alloc (.cells #[.pointer (some ⟨y.heap.size,0,none⟩)] 136)) 0 136 (.slice a Ts.length cap) (bs.map Jcp):=Yd R.out.set.own fun k bx=>by
   have bW:=Qk R.out.set.own bx
   have cj:=bi.size
   have ci:=bc.size
   rw[bE k (by omega),bc.block k (by omega) (R.out.gF k bx),bi.block k bW]
  have cb:((y.alloc (Jr name D M A rs g E K.length H)).alloc (.cells #[.pointer (some ⟨y.heap.size,0,none⟩)] 136)).ownsRow 0 136 1 (.slice a Ts.length cap) Ts.length (bs.map Jcp):=by
   have:=bI
   unfold Jo at this
   rwa [Oa6,R.out.set.len]at this
  have bJ:((y.alloc (Jr name D M A rs g E K.length H)).alloc (.cells #[.pointer (some ⟨y.heap.size,0,none⟩)] 136)).heap[s]?=some (.cells #[.pointer (some ⟨d,0,none⟩),.slice a Ts.length cap] 123 (0,0)):=by
   have cc:=Jd R.out.set.cells
   have cj:=bi.size
   have ci:=bc.size
   rw[bE s (by omega),bc.block s (by omega) R.out.sF,bi.block s cc]
   exact R.out.set.cells
  have bV:((y.alloc (Jr name D M A rs g E K.length H)).alloc (.cells #[.pointer (some ⟨y.heap.size,0,none⟩)] 136)).heap[y.heap.size+1]?=some (.cells #[.pointer (some ⟨y.heap.size,0,none⟩)] 136 (0,0)):=by
   have:=heap_alloc_new (y.alloc (Jr name D M A rs g E K.length H)) (.cells #[.pointer (some ⟨y.heap.size,0,none⟩)] 136)
   rwa [Oa7]at this
  refine step_append_lies ((y.alloc (Jr name D M A rs g E K.length H)).alloc (.cells #[.pointer (some ⟨y.heap.size,0,none⟩)] 136)) rfl (.tmp 73) (.tmp 87) 121 rfl 0 136 cQ (.pointer none) 1 8 underlying121 cI cN cO cP rfl (by decide) (.slice a Ts.length cap) Ts.length (bs.map Jcp) rfl cb ⟨y.heap.size+1,0,none⟩ 1 1 [Jcp y.heap.size] rfl rfl (fun j u bz=>World.news_of_block bV j u (by simpa [Jcp] using bz)) (fun u bz=>by simp at bz;subst bz;rfl) (by decide) (by unfold maxLen;omega) (by omega) (Ob7 _) (y.heap.size+2) (by simp) (fun bh bf U ca bu bU da=>?_)
  have dg:=bu.size
  have bY:(Value.slice a Ts.length cap).ownBlock≠some s:=fun e=>(R.out.set.gF s e).2 rfl
  have bZ:(Value.slice a Ts.length cap).ownBlock≠some w.heap.size:=fun e=>Oe3 _ (Qk R.out.set.own e)
  have bK:U.heap[s]?=some (.cells #[.pointer (some ⟨d,0,none⟩),.slice a Ts.length cap] 123 (0,0)):=(bu.block s (Jd bJ) (Oc5 bY)).trans bJ
  have bL:U.heap[w.heap.size]?=((y.alloc (Jr name D M A rs g E K.length H)).alloc (.cells #[.pointer (some ⟨y.heap.size,0,none⟩)] 136)).heap[w.heap.size]?:=bu.block w.heap.size (Jm z.1) (Oc5 bZ)
  have br:∀ o:Nat,U.cell? ⟨w.heap.size,o,none⟩=((y.alloc (Jr name D M A rs g E K.length H)).alloc (.cells #[.pointer (some ⟨y.heap.size,0,none⟩)] 136)).cell? ⟨w.heap.size,o,none⟩:=fun o=>by simp only[World.cell?,bL]
  have dd:s≠w.heap.size:=fun e=>by have:=Jd R.out.set.cells;omega
  refine C.out _ _ ⟨(br 0).trans z.1,(br 1).trans z.2.1,(br 2).trans z.2.2⟩ (fun z=>?_)
  clear C O br bL bI bE
  have cf:U.cell? ⟨s,1,none⟩=some (.slice a Ts.length cap):=by simp[World.cell?,bK]
  have bT:U.frozen? ⟨s,1,none⟩=false:=by simp[World.frozen?,bK]
  simp only[Act.put,List.getElem_toArray,List.getElem_cons_zero,List.getElem_cons_succ,Oa1,List.set_cons_zero,List.set_cons_succ]
  refine tk 20 ?_ rfl z ?_ (tk 21 ?_ rfl z ?_ ?_)
  iterate 2
   rotate_left 1
   ·intro w bC;(try dsimp only at bC);go_simp;try rfl
  simp only[Act.put,List.getElem_toArray,List.getElem_cons_zero,List.getElem_cons_succ,Oa1,List.set_cons_zero,List.set_cons_succ]
  refine wpAnyH_ready (rs:=[22]) (by kernel_rfl) (by simp) (AllReadyH.cons rfl (fun O C=>?_) AllReadyH.nil)
  go_simp
  have bn:∀ o:Nat,(U.setCell ⟨s,1,none⟩ (.slice (some ⟨bh,0,none⟩) (Ts.length+1) bf)).cell? ⟨w.heap.size,o,none⟩=U.cell? ⟨w.heap.size,o,none⟩:=fun o=>Ob5 _ _ _ _ (by intro e;injection e with bO;exact absurd bO (by omega))
  refine C.out _ _ ⟨(bn 0).trans z.1,(bn 1).trans z.2.1,(bn 2).trans z.2.2⟩ (fun z=>?_)
  clear C O bn
  refine wpAnyH_done (by kernel_rfl) ?_ _
  clear z cf bT
  have bH:Jdl w s d F G bA Ts (.slice a Ts.length cap) bs name A rs g T (U.setCell ⟨s,1,none⟩ (.slice (some ⟨bh,0,none⟩) (Ts.length+1) bf)):=by
   obtain rfl:=cz.out
   refine Jgq R.out bi bc cG cH cJ cA.out cM bD (Ob2 ch cn) cr cl.out (sv':=.slice (some ⟨bh,0,none⟩) (Ts.length+1) bf) ?_ bu (by rcases bU with e|e;exact .inl (by rw[e];rfl);exact .inr (by rw[e];rfl))
   unfold Jo
   rw[Oa8,Oa6,R.out.set.len]
   exact ca
  have bS:Hid (Jdl w s d F G bA Ts (.slice a Ts.length cap) bs name A rs g T (U.setCell ⟨s,1,none⟩ (.slice (some ⟨bh,0,none⟩) (Ts.length+1) bf))):=bH
  clear bH
  generalize U.setCell ⟨s,1,none⟩ (.slice (some ⟨bh,0,none⟩) (Ts.length+1) bf)=cX at *
  go_wp2
  go_ret
  exact⟨rfl,bS.out⟩
 go_simp
 refine(dk.out _).mono ?_
 rintro e bP ⟨rfl,bj⟩
 have cS:=Ja bj (show Z.drew.cell? _=_ from gc)
 go_simp
 refine C.out _ _ ⟨Ja bj z.1,Ja bj z.2.1,Ja bj z.2.2⟩ (fun z=>?_)
 clear C O
 refine wpAnyH_ready (rs:=[4,10]) (by kernel_rfl) (by simp) (AllReadyH.cons rfl (fun O C=>?_) (AllReadyH.cons rfl (fun O C=>?_) AllReadyH.nil))
 ·go_simp
  refine C.out _ _ z (fun z=>?_)
  clear C O
  refine wpAnyH_ready (rs:=[10]) (by kernel_rfl) (by simp) (AllReadyH.cons rfl (fun O C=>?_) AllReadyH.nil)
  go_simp
  refine(cU.out _ ((cV.out.of_block (w':=bP) bj.size fun b o _ bX=>bj.block b bX))).mono ?_
  rintro e y ⟨bB,D,M,rfl,cn,cr,bQ⟩
  have cl:Hid (Kc y (some ⟨D,0,none⟩) A):=bQ
  clear bQ
  have cu:=Ja bB cS
  go_simp
  refine C.out _ _ ⟨Ja bB z.1,Ja bB z.2.1,Ja bB z.2.2⟩ (fun z=>?_)
  clear C O
  refine tk 16 ?_ rfl z ?_ ?_
  rotate_left 1
  ·intro w bC;(try dsimp only at bC);go_simp;try rfl
  simp only[Act.put,List.getElem_toArray,List.getElem_cons_zero,List.getElem_cons_succ,Oa1,List.set_cons_zero,List.set_cons_succ]
  refine wpAnyH_ready (rs:=[17]) (by kernel_rfl) (by simp) (AllReadyH.cons rfl (fun O C=>?_) AllReadyH.nil)
  go_simp
  have bl:Below y.heap.size y (y.alloc (Jr name D M A rs g E K.length H)):=(Oa5 _ _).alloc (Oa2 _) _
  have bR:=Ja bl cu
  refine C.out _ _ ⟨Ja bl z.1,Ja bl z.2.1,Ja bl z.2.2⟩ (fun z=>?_)
  clear C O
  refine wpAnyH_ready (rs:=[18]) (by kernel_rfl) (by simp) (AllReadyH.cons rfl (fun O C=>?_) AllReadyH.nil)
  go_simp
  have X:Below (y.alloc (Jr name D M A rs g E K.length H)).heap.size (y.alloc (Jr name D M A rs g E K.length H)) ((y.alloc (Jr name D M A rs g E K.length H)).alloc (.cells #[.pointer (some ⟨y.heap.size,0,none⟩)] 136)):=(Oa5 _ _).alloc (Oa2 _) _
  have cT:=Ja X bR
  refine C.out _ _ ⟨Ja X z.1,Ja X z.2.1,Ja X z.2.2⟩ (fun z=>?_)
  clear C O
  refine wpAnyH_ready (rs:=[19]) (by kernel_rfl) (by simp) (AllReadyH.cons rfl (fun O C=>?_) AllReadyH.nil)
  have ch:Z.heap.size≤bP.heap.size:=bj.size
  have bD:Below Z.heap.size Z y:=Jw (Jb bj bB)
  have bE:∀ k,k<Z.heap.size→((y.alloc (Jr name D M A rs g E K.length H)).alloc (.cells #[.pointer (some ⟨y.heap.size,0,none⟩)] 136)).heap[k]?=Z.heap[k]?:=fun k bx=>by
   have df:=bD.size
   rw[X.block k (by simp;omega),bl.block k (by omega),bD.block k bx]
  have bI:Jo ((y.alloc (Jr name D M A rs g E K.length H)).alloc (.cells #[.pointer (some ⟨y.heap.size,0,none⟩)] 136)) 0 136 (.slice a Ts.length cap) (bs.map Jcp):=Yd R.out.set.own fun k bx=>by
   have bW:=Qk R.out.set.own bx
   have cj:=bi.size
   have ci:=bc.size
   rw[bE k (by omega),bc.block k (by omega) (R.out.gF k bx),bi.block k bW]
  have cb:((y.alloc (Jr name D M A rs g E K.length H)).alloc (.cells #[.pointer (some ⟨y.heap.size,0,none⟩)] 136)).ownsRow 0 136 1 (.slice a Ts.length cap) Ts.length (bs.map Jcp):=by
   have:=bI
   unfold Jo at this
   rwa [Oa6,R.out.set.len]at this
  have bJ:((y.alloc (Jr name D M A rs g E K.length H)).alloc (.cells #[.pointer (some ⟨y.heap.size,0,none⟩)] 136)).heap[s]?=some (.cells #[.pointer (some ⟨d,0,none⟩),.slice a Ts.length cap] 123 (0,0)):=by
   have cc:=Jd R.out.set.cells
   have cj:=bi.size
   have ci:=bc.size
   rw[bE s (by omega),bc.block s (by omega) R.out.sF,bi.block s cc]
   exact R.out.set.cells
  have bV:((y.alloc (Jr name D M A rs g E K.length H)).alloc (.cells #[.pointer (some ⟨y.heap.size,0,none⟩)] 136)).heap[y.heap.size+1]?=some (.cells #[.pointer (some ⟨y.heap.size,0,none⟩)] 136 (0,0)):=by
   have:=heap_alloc_new (y.alloc (Jr name D M A rs g E K.length H)) (.cells #[.pointer (some ⟨y.heap.size,0,none⟩)] 136)
   rwa [Oa7]at this
  refine step_append_lies ((y.alloc (Jr name D M A rs g E K.length H)).alloc (.cells #[.pointer (some ⟨y.heap.size,0,none⟩)] 136)) rfl (.tmp 73) (.tmp 87) 121 rfl 0 136 cQ (.pointer none) 1 8 underlying121 cI cN cO cP rfl (by decide) (.slice a Ts.length cap) Ts.length (bs.map Jcp) rfl cb ⟨y.heap.size+1,0,none⟩ 1 1 [Jcp y.heap.size] rfl rfl (fun j u bz=>World.news_of_block bV j u (by simpa [Jcp] using bz)) (fun u bz=>by simp at bz;subst bz;rfl) (by decide) (by unfold maxLen;omega) (by omega) (Ob7 _) (y.heap.size+2) (by simp) (fun bh bf U ca bu bU da=>?_)
  have dg:=bu.size
  have bY:(Value.slice a Ts.length cap).ownBlock≠some s:=fun e=>(R.out.set.gF s e).2 rfl
  have bZ:(Value.slice a Ts.length cap).ownBlock≠some w.heap.size:=fun e=>Oe3 _ (Qk R.out.set.own e)
  have bK:U.heap[s]?=some (.cells #[.pointer (some ⟨d,0,none⟩),.slice a Ts.length cap] 123 (0,0)):=(bu.block s (Jd bJ) (Oc5 bY)).trans bJ
  have bL:U.heap[w.heap.size]?=((y.alloc (Jr name D M A rs g E K.length H)).alloc (.cells #[.pointer (some ⟨y.heap.size,0,none⟩)] 136)).heap[w.heap.size]?:=bu.block w.heap.size (Jm z.1) (Oc5 bZ)
  have br:∀ o:Nat,U.cell? ⟨w.heap.size,o,none⟩=((y.alloc (Jr name D M A rs g E K.length H)).alloc (.cells #[.pointer (some ⟨y.heap.size,0,none⟩)] 136)).cell? ⟨w.heap.size,o,none⟩:=fun o=>by simp only[World.cell?,bL]
  have dd:s≠w.heap.size:=fun e=>by have:=Jd R.out.set.cells;omega
  refine C.out _ _ ⟨(br 0).trans z.1,(br 1).trans z.2.1,(br 2).trans z.2.2⟩ (fun z=>?_)
  clear C O br bL bI bE
  have cf:U.cell? ⟨s,1,none⟩=some (.slice a Ts.length cap):=by simp[World.cell?,bK]
  have bT:U.frozen? ⟨s,1,none⟩=false:=by simp[World.frozen?,bK]
  simp only[Act.put,List.getElem_toArray,List.getElem_cons_zero,List.getElem_cons_succ,Oa1,List.set_cons_zero,List.set_cons_succ]
  refine tk 20 ?_ rfl z ?_ (tk 21 ?_ rfl z ?_ ?_)
  iterate 2
   rotate_left 1
   ·intro w bC;(try dsimp only at bC);go_simp;try rfl
  simp only[Act.put,List.getElem_toArray,List.getElem_cons_zero,List.getElem_cons_succ,Oa1,List.set_cons_zero,List.set_cons_succ]
  refine wpAnyH_ready (rs:=[22]) (by kernel_rfl) (by simp) (AllReadyH.cons rfl (fun O C=>?_) AllReadyH.nil)
  go_simp
  have bn:∀ o:Nat,(U.setCell ⟨s,1,none⟩ (.slice (some ⟨bh,0,none⟩) (Ts.length+1) bf)).cell? ⟨w.heap.size,o,none⟩=U.cell? ⟨w.heap.size,o,none⟩:=fun o=>Ob5 _ _ _ _ (by intro e;injection e with bO;exact absurd bO (by omega))
  refine C.out _ _ ⟨(bn 0).trans z.1,(bn 1).trans z.2.1,(bn 2).trans z.2.2⟩ (fun z=>?_)
  clear C O bn
  refine wpAnyH_done (by kernel_rfl) ?_ _
  clear z cf bT
  have bH:Jdl w s d F G bA Ts (.slice a Ts.length cap) bs name A rs g T (U.setCell ⟨s,1,none⟩ (.slice (some ⟨bh,0,none⟩) (Ts.length+1) bf)):=by
   obtain rfl:=cz.out
   refine Jgq R.out bi bc cG cH cJ cA.out cM bD (Ob2 ch cn) cr cl.out (sv':=.slice (some ⟨bh,0,none⟩) (Ts.length+1) bf) ?_ bu (by rcases bU with e|e;exact .inl (by rw[e];rfl);exact .inr (by rw[e];rfl))
   unfold Jo
   rw[Oa8,Oa6,R.out.set.len]
   exact ca
  have bS:Hid (Jdl w s d F G bA Ts (.slice a Ts.length cap) bs name A rs g T (U.setCell ⟨s,1,none⟩ (.slice (some ⟨bh,0,none⟩) (Ts.length+1) bf))):=bH
  clear bH
  generalize U.setCell ⟨s,1,none⟩ (.slice (some ⟨bh,0,none⟩) (Ts.length+1) bf)=cX at *
  go_wp2
  go_ret
  exact⟨rfl,bS.out⟩
 go_simp
 refine(cU.out _ ((cV.out.of_block (w':=bP) bj.size fun b o _ bX=>bj.block b bX))).mono ?_
 rintro e y ⟨bB,D,M,rfl,cn,cr,bQ⟩
 have cl:Hid (Kc y (some ⟨D,0,none⟩) A):=bQ
 clear bQ
 have cu:=Ja bB cS
 go_simp
 refine C.out _ _ ⟨Ja bB z.1,Ja bB z.2.1,Ja bB z.2.2⟩ (fun z=>?_)
 clear C O
 refine tk 16 ?_ rfl z ?_ ?_
 rotate_left 1
 ·intro w bC;(try dsimp only at bC);go_simp;try rfl
 simp only[Act.put,List.getElem_toArray,List.getElem_cons_zero,List.getElem_cons_succ,Oa1,List.set_cons_zero,List.set_cons_succ]
 refine wpAnyH_ready (rs:=[4,17]) (by kernel_rfl) (by simp) (AllReadyH.cons rfl (fun O C=>?_) (AllReadyH.cons rfl (fun O C=>?_) AllReadyH.nil))
 ·go_simp
  refine C.out _ _ z (fun z=>?_)
  clear C O
  refine wpAnyH_ready (rs:=[17]) (by kernel_rfl) (by simp) (AllReadyH.cons rfl (fun O C=>?_) AllReadyH.nil)
  go_simp
  have bl:Below y.heap.size y (y.alloc (Jr name D M A rs g E K.length H)):=(Oa5 _ _).alloc (Oa2 _) _
  have bR:=Ja bl cu
  refine C.out _ _ ⟨Ja bl z.1,Ja bl z.2.1,Ja bl z.2.2⟩ (fun z=>?_)
  clear C O
  refine wpAnyH_ready (rs:=[18]) (by kernel_rfl) (by simp) (AllReadyH.cons rfl (fun O C=>?_) AllReadyH.nil)
  go_simp
  have X:Below (y.alloc (Jr name D M A rs g E K.length H)).heap.size (y.alloc (Jr name D M A rs g E K.length H)) ((y.alloc (Jr name D M A rs g E K.length H)).alloc (.cells #[.pointer (some ⟨y.heap.size,0,none⟩)] 136)):=(Oa5 _ _).alloc (Oa2 _) _
  have cT:=Ja X bR
  refine C.out _ _ ⟨Ja X z.1,Ja X z.2.1,Ja X z.2.2⟩ (fun z=>?_)
  clear C O
  refine wpAnyH_ready (rs:=[19]) (by kernel_rfl) (by simp) (AllReadyH.cons rfl (fun O C=>?_) AllReadyH.nil)
  have ch:Z.heap.size≤bP.heap.size:=bj.size
  have bD:Below Z.heap.size Z y:=Jw (Jb bj bB)
  have bE:∀ k,k<Z.heap.size→((y.alloc (Jr name D M A rs g E K.length H)).alloc (.cells #[.pointer (some ⟨y.heap.size,0,none⟩)] 136)).heap[k]?=Z.heap[k]?:=fun k bx=>by
   have df:=bD.size
   rw[X.block k (by simp;omega),bl.block k (by omega),bD.block k bx]
  have bI:Jo ((y.alloc (Jr name D M A rs g E K.length H)).alloc (.cells #[.pointer (some ⟨y.heap.size,0,none⟩)] 136)) 0 136 (.slice a Ts.length cap) (bs.map Jcp):=Yd R.out.set.own fun k bx=>by
   have bW:=Qk R.out.set.own bx
   have cj:=bi.size
   have ci:=bc.size
   rw[bE k (by omega),bc.block k (by omega) (R.out.gF k bx),bi.block k bW]
  have cb:((y.alloc (Jr name D M A rs g E K.length H)).alloc (.cells #[.pointer (some ⟨y.heap.size,0,none⟩)] 136)).ownsRow 0 136 1 (.slice a Ts.length cap) Ts.length (bs.map Jcp):=by
   have:=bI
   unfold Jo at this
   rwa [Oa6,R.out.set.len]at this
  have bJ:((y.alloc (Jr name D M A rs g E K.length H)).alloc (.cells #[.pointer (some ⟨y.heap.size,0,none⟩)] 136)).heap[s]?=some (.cells #[.pointer (some ⟨d,0,none⟩),.slice a Ts.length cap] 123 (0,0)):=by
   have cc:=Jd R.out.set.cells
   have cj:=bi.size
   have ci:=bc.size
   rw[bE s (by omega),bc.block s (by omega) R.out.sF,bi.block s cc]
   exact R.out.set.cells
  have bV:((y.alloc (Jr name D M A rs g E K.length H)).alloc (.cells #[.pointer (some ⟨y.heap.size,0,none⟩)] 136)).heap[y.heap.size+1]?=some (.cells #[.pointer (some ⟨y.heap.size,0,none⟩)] 136 (0,0)):=by
   have:=heap_alloc_new (y.alloc (Jr name D M A rs g E K.length H)) (.cells #[.pointer (some ⟨y.heap.size,0,none⟩)] 136)
   rwa [Oa7]at this
  refine step_append_lies ((y.alloc (Jr name D M A rs g E K.length H)).alloc (.cells #[.pointer (some ⟨y.heap.size,0,none⟩)] 136)) rfl (.tmp 73) (.tmp 87) 121 rfl 0 136 cQ (.pointer none) 1 8 underlying121 cI cN cO cP rfl (by decide) (.slice a Ts.length cap) Ts.length (bs.map Jcp) rfl cb ⟨y.heap.size+1,0,none⟩ 1 1 [Jcp y.heap.size] rfl rfl (fun j u bz=>World.news_of_block bV j u (by simpa [Jcp] using bz)) (fun u bz=>by simp at bz;subst bz;rfl) (by decide) (by unfold maxLen;omega) (by omega) (Ob7 _) (y.heap.size+2) (by simp) (fun bh bf U ca bu bU da=>?_)
  have dg:=bu.size
  have bY:(Value.slice a Ts.length cap).ownBlock≠some s:=fun e=>(R.out.set.gF s e).2 rfl
  have bZ:(Value.slice a Ts.length cap).ownBlock≠some w.heap.size:=fun e=>Oe3 _ (Qk R.out.set.own e)
  have bK:U.heap[s]?=some (.cells #[.pointer (some ⟨d,0,none⟩),.slice a Ts.length cap] 123 (0,0)):=(bu.block s (Jd bJ) (Oc5 bY)).trans bJ
  have bL:U.heap[w.heap.size]?=((y.alloc (Jr name D M A rs g E K.length H)).alloc (.cells #[.pointer (some ⟨y.heap.size,0,none⟩)] 136)).heap[w.heap.size]?:=bu.block w.heap.size (Jm z.1) (Oc5 bZ)
  have br:∀ o:Nat,U.cell? ⟨w.heap.size,o,none⟩=((y.alloc (Jr name D M A rs g E K.length H)).alloc (.cells #[.pointer (some ⟨y.heap.size,0,none⟩)] 136)).cell? ⟨w.heap.size,o,none⟩:=fun o=>by simp only[World.cell?,bL]
  have dd:s≠w.heap.size:=fun e=>by have:=Jd R.out.set.cells;omega
  refine C.out _ _ ⟨(br 0).trans z.1,(br 1).trans z.2.1,(br 2).trans z.2.2⟩ (fun z=>?_)
  clear C O br bL bI bE
  have cf:U.cell? ⟨s,1,none⟩=some (.slice a Ts.length cap):=by simp[World.cell?,bK]
  have bT:U.frozen? ⟨s,1,none⟩=false:=by simp[World.frozen?,bK]
  simp only[Act.put,List.getElem_toArray,List.getElem_cons_zero,List.getElem_cons_succ,Oa1,List.set_cons_zero,List.set_cons_succ]
  refine tk 20 ?_ rfl z ?_ (tk 21 ?_ rfl z ?_ ?_)
  iterate 2
   rotate_left 1
   ·intro w bC;(try dsimp only at bC);go_simp;try rfl
  simp only[Act.put,List.getElem_toArray,List.getElem_cons_zero,List.getElem_cons_succ,Oa1,List.set_cons_zero,List.set_cons_succ]
  refine wpAnyH_ready (rs:=[22]) (by kernel_rfl) (by simp) (AllReadyH.cons rfl (fun O C=>?_) AllReadyH.nil)
  go_simp
  have bn:∀ o:Nat,(U.setCell ⟨s,1,none⟩ (.slice (some ⟨bh,0,none⟩) (Ts.length+1) bf)).cell? ⟨w.heap.size,o,none⟩=U.cell? ⟨w.heap.size,o,none⟩:=fun o=>Ob5 _ _ _ _ (by intro e;injection e with bO;exact absurd bO (by omega))
  refine C.out _ _ ⟨(bn 0).trans z.1,(bn 1).trans z.2.1,(bn 2).trans z.2.2⟩ (fun z=>?_)
  clear C O bn
  refine wpAnyH_done (by kernel_rfl) ?_ _
  clear z cf bT
  have bH:Jdl w s d F G bA Ts (.slice a Ts.length cap) bs name A rs g T (U.setCell ⟨s,1,none⟩ (.slice (some ⟨bh,0,none⟩) (Ts.length+1) bf)):=by
   obtain rfl:=cz.out
   refine Jgq R.out bi bc cG cH cJ cA.out cM bD (Ob2 ch cn) cr cl.out (sv':=.slice (some ⟨bh,0,none⟩) (Ts.length+1) bf) ?_ bu (by rcases bU with e|e;exact .inl (by rw[e];rfl);exact .inr (by rw[e];rfl))
   unfold Jo
   rw[Oa8,Oa6,R.out.set.len]
   exact ca
  have bS:Hid (Jdl w s d F G bA Ts (.slice a Ts.length cap) bs name A rs g T (U.setCell ⟨s,1,none⟩ (.slice (some ⟨bh,0,none⟩) (Ts.length+1) bf))):=bH
  clear bH
  generalize U.setCell ⟨s,1,none⟩ (.slice (some ⟨bh,0,none⟩) (Ts.length+1) bf)=cX at *
  go_wp2
  go_ret
  exact⟨rfl,bS.out⟩
 go_simp
 have bl:Below y.heap.size y (y.alloc (Jr name D M A rs g E K.length H)):=(Oa5 _ _).alloc (Oa2 _) _
 have bR:=Ja bl cu
 refine C.out _ _ ⟨Ja bl z.1,Ja bl z.2.1,Ja bl z.2.2⟩ (fun z=>?_)
 clear C O
 refine wpAnyH_ready (rs:=[4,18]) (by kernel_rfl) (by simp) (AllReadyH.cons rfl (fun O C=>?_) (AllReadyH.cons rfl (fun O C=>?_) AllReadyH.nil))
 focus
  go_simp
  refine C.out _ _ z (fun z=>?_)
  clear C O
  refine wpAnyH_ready (rs:=[18]) (by kernel_rfl) (by simp) (AllReadyH.cons rfl (fun O C=>?_) AllReadyH.nil)
  go_simp
  have X:Below (y.alloc (Jr name D M A rs g E K.length H)).heap.size (y.alloc (Jr name D M A rs g E K.length H)) ((y.alloc (Jr name D M A rs g E K.length H)).alloc (.cells #[.pointer (some ⟨y.heap.size,0,none⟩)] 136)):=(Oa5 _ _).alloc (Oa2 _) _
  have cT:=Ja X bR
  refine C.out _ _ ⟨Ja X z.1,Ja X z.2.1,Ja X z.2.2⟩ (fun z=>?_)
 rotate_left 1
 focus
  go_simp
  have X:Below (y.alloc (Jr name D M A rs g E K.length H)).heap.size (y.alloc (Jr name D M A rs g E K.length H)) ((y.alloc (Jr name D M A rs g E K.length H)).alloc (.cells #[.pointer (some ⟨y.heap.size,0,none⟩)] 136)):=(Oa5 _ _).alloc (Oa2 _) _
  have cT:=Ja X bR
  refine C.out _ _ ⟨Ja X z.1,Ja X z.2.1,Ja X z.2.2⟩ (fun z=>?_)
  clear C O
  refine wpAnyH_ready (rs:=[4]) (by kernel_rfl) (by simp) (AllReadyH.cons rfl (fun O C=>?_) AllReadyH.nil)
  go_simp
  refine C.out _ _ z (fun z=>?_)
 all_goals
  clear C O
  refine wpAnyH_ready (rs:=[19]) (by kernel_rfl) (by simp) (AllReadyH.cons rfl (fun O C=>?_) AllReadyH.nil)
  have ch:Z.heap.size≤bP.heap.size:=bj.size
  have bD:Below Z.heap.size Z y:=Jw (Jb bj bB)
  have bE:∀ k,k<Z.heap.size→((y.alloc (Jr name D M A rs g E K.length H)).alloc (.cells #[.pointer (some ⟨y.heap.size,0,none⟩)] 136)).heap[k]?=Z.heap[k]?:=fun k bx=>by
   have df:=bD.size
   rw[X.block k (by simp;omega),bl.block k (by omega),bD.block k bx]
  have bI:Jo ((y.alloc (Jr name D M A rs g E K.length H)).alloc (.cells #[.pointer (some ⟨y.heap.size,0,none⟩)] 136)) 0 136 (.slice a Ts.length cap) (bs.map Jcp):=Yd R.out.set.own fun k bx=>by
   have bW:=Qk R.out.set.own bx
   have cj:=bi.size
   have ci:=bc.size
   rw[bE k (by omega),bc.block k (by omega) (R.out.gF k bx),bi.block k bW]
  have cb:((y.alloc (Jr name D M A rs g E K.length H)).alloc (.cells #[.pointer (some ⟨y.heap.size,0,none⟩)] 136)).ownsRow 0 136 1 (.slice a Ts.length cap) Ts.length (bs.map Jcp):=by
   have:=bI
   unfold Jo at this
   rwa [Oa6,R.out.set.len]at this
  have bJ:((y.alloc (Jr name D M A rs g E K.length H)).alloc (.cells #[.pointer (some ⟨y.heap.size,0,none⟩)] 136)).heap[s]?=some (.cells #[.pointer (some ⟨d,0,none⟩),.slice a Ts.length cap] 123 (0,0)):=by
   have cc:=Jd R.out.set.cells
   have cj:=bi.size
   have ci:=bc.size
   rw[bE s (by omega),bc.block s (by omega) R.out.sF,bi.block s cc]
   exact R.out.set.cells
  have bV:((y.alloc (Jr name D M A rs g E K.length H)).alloc (.cells #[.pointer (some ⟨y.heap.size,0,none⟩)] 136)).heap[y.heap.size+1]?=some (.cells #[.pointer (some ⟨y.heap.size,0,none⟩)] 136 (0,0)):=by
   have:=heap_alloc_new (y.alloc (Jr name D M A rs g E K.length H)) (.cells #[.pointer (some ⟨y.heap.size,0,none⟩)] 136)
   rwa [Oa7]at this
  refine step_append_lies ((y.alloc (Jr name D M A rs g E K.length H)).alloc (.cells #[.pointer (some ⟨y.heap.size,0,none⟩)] 136)) rfl (.tmp 73) (.tmp 87) 121 rfl 0 136 cQ (.pointer none) 1 8 underlying121 cI cN cO cP rfl (by decide) (.slice a Ts.length cap) Ts.length (bs.map Jcp) rfl cb ⟨y.heap.size+1,0,none⟩ 1 1 [Jcp y.heap.size] rfl rfl (fun j u bz=>World.news_of_block bV j u (by simpa [Jcp] using bz)) (fun u bz=>by simp at bz;subst bz;rfl) (by decide) (by unfold maxLen;omega) (by omega) (Ob7 _) (y.heap.size+2) (by simp) (fun bh bf U ca bu bU da=>?_)
  have dg:=bu.size
  have bY:(Value.slice a Ts.length cap).ownBlock≠some s:=fun e=>(R.out.set.gF s e).2 rfl
  have bZ:(Value.slice a Ts.length cap).ownBlock≠some w.heap.size:=fun e=>Oe3 _ (Qk R.out.set.own e)
  have bK:U.heap[s]?=some (.cells #[.pointer (some ⟨d,0,none⟩),.slice a Ts.length cap] 123 (0,0)):=(bu.block s (Jd bJ) (Oc5 bY)).trans bJ
  have bL:U.heap[w.heap.size]?=((y.alloc (Jr name D M A rs g E K.length H)).alloc (.cells #[.pointer (some ⟨y.heap.size,0,none⟩)] 136)).heap[w.heap.size]?:=bu.block w.heap.size (Jm z.1) (Oc5 bZ)
  have br:∀ o:Nat,U.cell? ⟨w.heap.size,o,none⟩=((y.alloc (Jr name D M A rs g E K.length H)).alloc (.cells #[.pointer (some ⟨y.heap.size,0,none⟩)] 136)).cell? ⟨w.heap.size,o,none⟩:=fun o=>by simp only[World.cell?,bL]
  have dd:s≠w.heap.size:=fun e=>by have:=Jd R.out.set.cells;omega
  refine C.out _ _ ⟨(br 0).trans z.1,(br 1).trans z.2.1,(br 2).trans z.2.2⟩ (fun z=>?_)
  clear C O br bL bI bE
  have cf:U.cell? ⟨s,1,none⟩=some (.slice a Ts.length cap):=by simp[World.cell?,bK]
  have bT:U.frozen? ⟨s,1,none⟩=false:=by simp[World.frozen?,bK]
  simp only[Act.put,List.getElem_toArray,List.getElem_cons_zero,List.getElem_cons_succ,Oa1,List.set_cons_zero,List.set_cons_succ]
  refine tk 20 ?_ rfl z ?_ (tk 21 ?_ rfl z ?_ ?_)
  iterate 2
   rotate_left 1
   ·intro w bC;(try dsimp only at bC);go_simp;try rfl
  simp only[Act.put,List.getElem_toArray,List.getElem_cons_zero,List.getElem_cons_succ,Oa1,List.set_cons_zero,List.set_cons_succ]
  refine wpAnyH_ready (rs:=[22]) (by kernel_rfl) (by simp) (AllReadyH.cons rfl (fun O C=>?_) AllReadyH.nil)
  go_simp
  have bn:∀ o:Nat,(U.setCell ⟨s,1,none⟩ (.slice (some ⟨bh,0,none⟩) (Ts.length+1) bf)).cell? ⟨w.heap.size,o,none⟩=U.cell? ⟨w.heap.size,o,none⟩:=fun o=>Ob5 _ _ _ _ (by intro e;injection e with bO;exact absurd bO (by omega))
  refine C.out _ _ ⟨(bn 0).trans z.1,(bn 1).trans z.2.1,(bn 2).trans z.2.2⟩ (fun z=>?_)
  clear C O bn
  refine wpAnyH_done (by kernel_rfl) ?_ _
  clear z cf bT
  have bH:Jdl w s d F G bA Ts (.slice a Ts.length cap) bs name A rs g T (U.setCell ⟨s,1,none⟩ (.slice (some ⟨bh,0,none⟩) (Ts.length+1) bf)):=by
   obtain rfl:=cz.out
   refine Jgq R.out bi bc cG cH cJ cA.out cM bD (Ob2 ch cn) cr cl.out (sv':=.slice (some ⟨bh,0,none⟩) (Ts.length+1) bf) ?_ bu (by rcases bU with e|e;exact .inl (by rw[e];rfl);exact .inr (by rw[e];rfl))
   unfold Jo
   rw[Oa8,Oa6,R.out.set.len]
   exact ca
  have bS:Hid (Jdl w s d F G bA Ts (.slice a Ts.length cap) bs name A rs g T (U.setCell ⟨s,1,none⟩ (.slice (some ⟨bh,0,none⟩) (Ts.length+1) bf))):=bH
  clear bH
  generalize U.setCell ⟨s,1,none⟩ (.slice (some ⟨bh,0,none⟩) (Ts.length+1) bf)=cX at *
  go_wp2
  go_ret
  exact⟨rfl,bS.out⟩
def Jdu (w:World)(st d s:Nat):Prop:=w.heap[st]?=some (.cells #[.pointer (some ⟨d,0,none⟩),.pointer (some ⟨s,0,none⟩)] 83 (0,0))
theorem Jdu.field {w:World}{st d s:Nat}(h:Jdu w st d s):w.cell? ⟨st,0,none⟩=some (.pointer (some ⟨d,0,none⟩))∧w.cell? ⟨st,1,none⟩=some (.pointer (some ⟨s,0,none⟩)):=by
 unfold Jdu at h
 simp[World.cell?,h]
def Jr7 (w:World)(r:Option (List (List V)⊕Nat))(e:Ending)(w':World):Prop:=
 Below w.heap.size w w'∧match r with
  |none=>e=.returned (.tuple #[.slice none 0 0,Jbz 4 (-1) (-1)])
  |some (.inl rs)=>∃ g bs,e=.returned (.tuple #[.slice (some ⟨g,0,none⟩) rs.length rs.length,Jb6 0])∧Jcu w' w.heap.size g bs rs
  |some (.inr j)=>e=.returned (.tuple #[.slice none 0 0,Jbz 7 (-1) (j:Int)])
theorem Jhu (H v:Value)(c nd row col pg:Int)(w:World)(D:∃ ty x,v=.iface ty x)(hF:∀ W,Below w.heap.size w W→Calls prog 38 #[v] W fun e w'=>e=.returned (Ko c nd row col pg)∧Below W.heap.size W w') :
  Calls prog 28 #[H,v] w fun e w'=>e=.returned (.tuple #[.slice none 0 0,Ko c nd row col pg])∧Below w.heap.size w w':=by
 obtain⟨ty,x,rfl⟩:=D
 have y:Below w.heap.size w (w.alloc (.cells #[.int .i64 0,.int .i64 0,.int .i64 0,.int .i64 0,.int .i64 0] 40)):=(Oa5 _ _).alloc (Oa2 _) _
 have A:=hF _ y
 clear hF
 go_enter func28,ntmps28
 go_wp2_with fail
 refine A.mono ?_
 rintro e M ⟨rfl,z⟩
 obtain⟨E,K⟩:=Kx z
 have C:=Jb y z
 go_wp2
 exact bodyPost_ret (v:=.tuple #[.slice none 0 0,Ko c nd row col pg]) (by simp[results,results28,go_sem,E]) rfl ⟨rfl,Um C (Oa2 _) _ _ _ _ _⟩
theorem Jz3 (g:Nat)(X:List Value)(cs:List (List V))(n:Nat)(B:Nat)(w:World)(M:Jar w B g X cs)(bi:∀ i,i<cs.length→(cs.getD i []).length=n)(Z:1≤cs.length)(bc:cs.length≤1000)(hn:n≤10000) :
  Calls prog 28 #[.slice (some ⟨g,0,none⟩) cs.length cs.length,.nilIface] w fun e w'=>Below w.heap.size w w'∧∃ K bs,e=.returned (.tuple #[.slice (some ⟨K,0,none⟩) n n,Jb6 0])∧Jcu w' w.heap.size K bs (Qf n cs):=by
 have O:Below w.heap.size w (w.alloc (.cells #[.int .i64 0,.int .i64 0,.int .i64 0,.int .i64 0,.int .i64 0] 40)):=(Oa5 _ _).alloc (Oa2 _) _
 have bu:=run_neq_nil_nil (P:=prog)
 have z:=M.below O
 have U:=Jo4 g cs.length X cs n _ z.row z.len (fun i hi=>(z.own i hi).vals) bi Z bc hn
 clear M z
 go_enter func28,ntmps28
 go_wp2_with fail
 refine U.mono ?_
 rintro e w1 ⟨rfl,⟨D,bl⟩,R⟩
 clear U
 go_wp2_with fail
 refine(Jjq w1).mono ?_
 rintro e bz ⟨rfl,E⟩
 have bf:=Jb O R
 obtain⟨bn,bx⟩:=Kx (Jb R E)
 have bh:=Jb bf E
 have H:=bl.below E
 rw[Oa7]at H
 have bj:=H.from_
 have low:∀ C:World,Jcu C (w.heap.size+1) (w.heap.size+1) D (Qf n cs)→Jcu C w.heap.size (w.heap.size+1) D (Qf n cs):=fun C y=>⟨y.len,y.outer,y.rows,⟨by have:=y.from_.1;omega,fun b A=>⟨by have:=(y.from_.2 b A).1;omega,(y.from_.2 b A).2⟩⟩,y.nodup⟩
 go_wp2
 refine bodyPost_ret (v:=.tuple #[.slice (some ⟨w.heap.size+1,0,none⟩) n n,Jb6 0]) (by simp[results,results28,go_sem,bn]) rfl ⟨Um bh (Oa2 _) _ _ _ _ _,?_⟩
 refine⟨w.heap.size+1,D,rfl,?_⟩
 refine low _ (H.of_blocks ?_ (fun b A=>?_))
 ·rw[Oa4 _ _ _ _ (by show w.heap.size+1≠w.heap.size;omega),Oa4 _ _ _ _ (by show w.heap.size+1≠w.heap.size;omega),Oa4 _ _ _ _ (by show w.heap.size+1≠w.heap.size;omega),Oa4 _ _ _ _ (by show w.heap.size+1≠w.heap.size;omega),Oa4 _ _ _ _ (by show w.heap.size+1≠w.heap.size;omega)]
 have br:=(bj.2 b A).1
 rw[Oa4 _ _ _ _ (by show b≠w.heap.size;omega),Oa4 _ _ _ _ (by show b≠w.heap.size;omega),Oa4 _ _ _ _ (by show b≠w.heap.size;omega),Oa4 _ _ _ _ (by show b≠w.heap.size;omega),Oa4 _ _ _ _ (by show b≠w.heap.size;omega)]
theorem Kej (st:Nat)(n:ByteArray)(w:World)(F G:Nat→Prop)(s d:Nat)(z:DS)(Ts:List TS)(sv:Value)(bs:List Nat)(bG:Jdu w st d s)(h:Jfl w G s d Ts sv bs)(bB:Zb w F d z)(bx:∀ T∈Ts,Jid z T)(U X Z et q wr pg:Addr)(bu:Jf0 w U X Z)(M:Jkn w U X Z et q wr pg) :
  Calls prog 35 #[.pointer (some ⟨st,0,none⟩),.string n] w fun e w'=>Jr7 w (Jf8 z Ts n) e w':=by
 have H:Below w.heap.size w (w.alloc (.cells #[.int .i64 0,.int .i64 0,.int .i64 0,.int .i64 0,.int .i64 0] 40)):=(Oa5 _ _).alloc (Oa2 _) _
 have c1:=Ja H bG.field.2
 have hn:=Jou n _ F G s d z Ts sv bs (h.below H) (bB.below H) bx U X Z (bu.below H) et pg (M.below H).cp (M.below H).ct
 obtain⟨_,_,_,bN,_,_,bO⟩:=Jim M
 have bL:=Keq z Ts n bx
 clear h bB bx bG
 go_enter func35,ntmps35
 go_wp2_with fail
 refine hn.mono ?_
 clear hn
 rintro e w1 ⟨bc,O⟩
 have bf:=Jb H bc
 rcases bL with⟨C,D⟩|⟨j,C,D⟩|⟨cs,m,C,D,bS,bK,bQ,bz⟩
 ·rw[C]at O
  simp only at O
  subst O
  have R:Hid (Jf8 z Ts n=none):=D
  have hf:∀ W,Below w1.heap.size w1 W→Calls prog 38 #[.iface 443 (.pointer (some et))] W fun e w'=>e=.returned (Ko 4 (-1) (-1) (-1) (-1))∧Below W.heap.size W w':=fun W hW=>by
   have K:=Jb bf hW
   have:=Jj9 _ et none none W (.root et) (Kg K M.bt) U X Z et q wr pg (by simp) (bu.below K) (M.below K)
   rw[bN]at this
   exact this
  have bi:=Jhu (.slice none 0 0) _ 4 (-1) (-1) (-1) (-1) w1 ⟨_,_,rfl⟩ hf
  clear C D hf
  go_wp2_with fail
  refine bi.mono ?_
  rintro e bI ⟨rfl,A⟩
  obtain⟨bj,bH⟩:=Kx (Jb bc A)
  have bh:=Jb bf A
  go_wp2
  exact bodyPost_ret (v:=.tuple #[.slice none 0 0,Jbz 4 (-1) (-1)]) (by simp[results,results35,go_sem,bj]) rfl ⟨Um bh (Oa2 _) _ _ _ _ _,by rw[R.out]⟩
 ·rw[C]at O
  obtain⟨b,rfl,bJ,bA⟩:=O
  have R:Hid (Jf8 z Ts n=some (.inr j)):=D
  have hf:∀ W,Below w1.heap.size w1 W→Calls prog 38 #[.iface 133 (.pointer (some ⟨b,0,none⟩))] W fun e w'=>e=.returned (Ko 7 (-1) (-1) (-1) (j:Int))∧Below W.heap.size W w':=fun W hW=>by
   have K:=Jb bf hW
   have:=Jj9 _ pg (some (-1)) (some (j:Int)) W (bA.below hW) (Kg K M.bp) U X Z et q wr pg (by simp) (bu.below K) (M.below K)
   rw[bO]at this
   exact this
  have bi:=Jhu (.slice none 0 0) _ 7 (-1) (-1) (-1) (j:Int) w1 ⟨_,_,rfl⟩ hf
  clear C D hf bA
  go_wp2_with fail
  refine bi.mono ?_
  rintro e bI ⟨rfl,A⟩
  obtain⟨bj,bH⟩:=Kx (Jb bc A)
  have bh:=Jb bf A
  go_wp2
  exact bodyPost_ret (v:=.tuple #[.slice none 0 0,Jbz 7 (-1) (j:Int)]) (by simp[results,results35,go_sem,bj]) rfl ⟨Um bh (Oa2 _) _ _ _ _ _,by rw[R.out]⟩
 rw[C]at O
 obtain⟨g,bP,rfl,bD⟩:=O
 have R:Hid (Jf8 z Ts n=some (.inl (Qf m cs))):=D
 have bi:=Jz3 g bP cs m _ w1 bD bz bK (by omega) (by omega)
 clear C D bz bD
 go_wp2_with fail
 refine bi.mono ?_
 rintro e bI ⟨A,y,br,rfl,bE⟩
 obtain⟨bj,bH⟩:=Kx (Jb bc A)
 have bh:=Jb bf A
 have bC:=bE.from_
 have bM:=bc.size
 rw[Oa7]at bM
 have low:∀ bn:World,Jcu bn w1.heap.size y br (Qf m cs)→Jcu bn w.heap.size y br (Qf m cs):=fun bn E=>⟨E.len,E.outer,E.rows,⟨by have:=E.from_.1;omega,fun b bl=>⟨by have:=(E.from_.2 b bl).1;omega,(E.from_.2 b bl).2⟩⟩,E.nodup⟩
 go_wp2
 refine bodyPost_ret (v:=.tuple #[.slice (some ⟨y,0,none⟩) m m,Jb6 0]) (by simp[results,results35,go_sem,bj]) rfl ⟨Um bh (Oa2 _) _ _ _ _ _,?_⟩
 rw[R.out]
 refine⟨y,br,by rw[Uu],?_⟩
 refine low _ (bE.of_blocks ?_ (fun b bl=>?_))
 ·have bR:=bC.1
  rw[Oa4 _ _ _ _ (by show y≠w.heap.size;omega),Oa4 _ _ _ _ (by show y≠w.heap.size;omega),Oa4 _ _ _ _ (by show y≠w.heap.size;omega),Oa4 _ _ _ _ (by show y≠w.heap.size;omega),Oa4 _ _ _ _ (by show y≠w.heap.size;omega)]
 have bJ:=(bC.2 b bl).1
 rw[Oa4 _ _ _ _ (by show b≠w.heap.size;omega),Oa4 _ _ _ _ (by show b≠w.heap.size;omega),Oa4 _ _ _ _ (by show b≠w.heap.size;omega),Oa4 _ _ _ _ (by show b≠w.heap.size;omega),Oa4 _ _ _ _ (by show b≠w.heap.size;omega)]
end Go.Proofs.YtjjdldddcegjiaaGreatDoor
namespace Go.Proofs.YtjjdldddcegjiaaGreatDoor
open Go.RowKit Go.Shelf Tryz
theorem Zh (W:World)(B:Nat)(z A C D E:Value)(k:Nat)(y:k≠B):(((((W.setCell ⟨B,0,none⟩ z).setCell ⟨B,1,none⟩ A).setCell ⟨B,2,none⟩ C).setCell ⟨B,3,none⟩ D).setCell ⟨B,4,none⟩ E).heap[k]?=W.heap[k]?:=by
 rw[Oa4 _ _ _ _ y,Oa4 _ _ _ _ y,Oa4 _ _ _ _ y,Oa4 _ _ _ _ y,Oa4 _ _ _ _ y]
theorem Jg2 (W:World)(B:Nat)(y z A C D:Value):(((((W.setCell ⟨B,0,none⟩ y).setCell ⟨B,1,none⟩ z).setCell ⟨B,2,none⟩ A).setCell ⟨B,3,none⟩ C).setCell ⟨B,4,none⟩ D).heap.size=W.heap.size:=by simp[World.setCell]
end Go.Proofs.YtjjdldddcegjiaaGreatDoor
namespace Go.Proofs.YtjjdldddcegjiaaGreatDoor
open Go.RowKit Tryz
theorem Jqj (a K:Option Addr)(cap R:Nat)(xs y:List V)(w:World)(hn:xs.length≤maxLen)(bf:Jv w a xs)(bh:Jv w K y)(b:Bool)(O:b=true↔xs=y) :
  Calls prog 34 #[.slice a xs.length cap,.slice K y.length R] w fun e w'=>e=.returned (.bool b)∧Below w.heap.size w w':=by
 unfold maxLen at hn
 have D:Hid (b=true↔xs=y):=O
 clear O
 by_cases C:xs.length=y.length
 ·have H:Hid (xs.length=y.length):=C
  have U:((xs.length:Int) != (y.length:Int))=false:=by simp[C]
  clear C
  go_enter func34,ntmps34
  go_wp2
  go_loopw [5] (fun i wr=>∃ k:Nat,k≤xs.length∧i=.int .i64 k∧(∃ m,wr=w.drewN m)∧Hid (∀ j (z:j<xs.length),j<k→xs[j]=y[j]'(H.out▸z))) (fun i _=>xs.length-(intOf i).toNat)
  case atStart=>exact⟨0,Ob7 _,rfl,⟨0,rfl⟩,fun j _ z=>absurd z (Oe0 _)⟩
  case round=>
   obtain⟨k,bj,rfl,⟨m,rfl⟩,M⟩:=hrel
   by_cases X:k<xs.length
   ·have Z:k<y.length:=by have:=H.out;omega
    obtain⟨b1,bl,rfl,_,br,bu,bx⟩:=bf.at X
    obtain⟨b2,bn,rfl,_,bz,bA,bB⟩:=bh.at Z
    by_cases A:xs[k]=y[k]
    ·have bc:=Jql _ _ A
     have E:Hid (xs[k]=y[k]):=A
     clear A
     go_wp2
     go_quiet (fail)
     go_wp2
     go_roundw
     case rel=>
      refine⟨k+1,by omega,by go_num,⟨_,rfl⟩,fun j z bi=>?_⟩
      by_cases e:j=k
      ·subst e;exact E.out
      exact M.out j z (by omega)
     case measure=>simp[intOf];omega
    have bc:=Jqe _ _ A
    have E:Hid (¬ xs[k]=y[k]):=A
    clear A
    go_wp2
    go_quiet (fail)
    go_wp2
    go_ret
    refine⟨Qr ?_,Jp (Jp (Oa5 _ _) _) _⟩
    cases b
    ·rfl
    exact absurd (by rw[List.getElem_of_eq (D.out.1 rfl)]) E.out
   go_wp2
   go_ret
   exact⟨Qr (D.out.2 (Ka6 xs y H.out fun j z=>M.out j z (by omega))).symm,Jp (Oa5 _ _) _⟩
 have U:((xs.length:Int) != (y.length:Int))=true:=by simp;omega
 go_enter func34,ntmps34
 go_wp2
 go_ret
 refine⟨Qr ?_,Oa5 _ _⟩
 cases b
 ·rfl
 exact absurd (congrArg List.length (D.out.1 rfl)) C
theorem Kc2 (rs y:List (List V))(z:rs.length=y.length)(h:∀ j (C:j<rs.length),rs[j]=y[j]'(z▸C)):rs=y:=Oh4 z fun i A _=>h i A
theorem Jn2 (a O:Option Addr)(cap bf:Nat)(hs bj:List (Option Addr×Nat))(rs y:List (List V))(w:World)(hn:rs.length≤maxLen)(X:∀ r∈rs,r.length≤maxLen)(bl:Zd w a hs rs)(bn:Zd w O bj y)(b:Bool)(A:b=true↔rs=y) :
  Calls prog 16 #[.slice a rs.length cap,.slice O y.length bf] w fun e w'=>e=.returned (.bool b)∧Below w.heap.size w w':=by
 unfold maxLen at hn
 have E:Hid (b=true↔rs=y):=A
 have bc:Hid (∀ r∈rs,r.length≤maxLen):=X
 clear A X
 by_cases D:rs.length=y.length
 ·have H:Hid (rs.length=y.length):=D
  have bh:((rs.length:Int) != (y.length:Int))=false:=by simp[D]
  clear D
  go_enter func16,ntmps16
  go_wp2
  go_loopw [5] (fun i wr=>∃ k:Nat,k≤rs.length∧i=.int .i64 k∧Below w.heap.size w wr∧Hid (∀ j (z:j<rs.length),j<k→rs[j]=y[j]'(H.out▸z))) (fun i _=>rs.length-(intOf i).toNat)
  case atStart=>exact⟨0,Ob7 _,rfl,Oa5 _ _,fun j _ z=>absurd z (Oe0 _)⟩
  case round=>
   obtain⟨k,bG,rfl,C,R⟩:=hrel
   by_cases U:k<rs.length
   ·have bi:k<y.length:=by have:=H.out;omega
    obtain⟨b1,bH,br,bx,rfl,bC,bJ,bA⟩:=(bl.below C).at U
    obtain⟨b2,bI,bu,bz,rfl,bD,bK,bB⟩:=(bn.below C).at bi
    obtain⟨bb,K⟩:∃ bb:Bool,bb=true↔rs[k]=y[k]:=⟨(open Classical in decide (rs[k]=y[k])),by open Classical in exact decide_eq_true_iff⟩
    have Z:=Jqj br bu bx bz rs[k] y[k] wr.drew (bc.out _ (Ob3 U)) (bA.of_block (Oa2 _) fun _ _ _ _=>rfl) (bB.of_block (Oa2 _) fun _ _ _ _=>rfl) bb K
    have M:Hid (bb=true↔rs[k]=y[k]):=K
    clear K
    cases bb with
    |true=>
     go_wp2_with fail
     go_region_with (first|(go_at_call 34;refine Z.mono ?_;rintro e w' ⟨rfl,A⟩))
     all_goals
      go_wp2
      go_roundw
      case rel=>
       refine⟨k+1,by omega,by go_num,Jb C (Jw A),fun j z bE=>?_⟩
       by_cases e:j=k
       ·subst e;exact M.out.1 (by simp)
       exact R.out j z (by omega)
      case measure=>simp[intOf];omega
    |false=>
     go_wp2_with fail
     go_region_with (first|(go_at_call 34;refine Z.mono ?_;rintro e w' ⟨rfl,A⟩))
     all_goals
      go_wp2
      go_ret
      refine⟨Qr ?_,Jb C (Jw A)⟩
      cases b
      ·rfl
      exact absurd (M.out.2 (by rw[List.getElem_of_eq (E.out.1 rfl)])) (by simp)
   go_wp2
   go_ret
   exact⟨Qr (E.out.2 (Kc2 rs y H.out fun j z=>R.out j z (by omega))).symm,C⟩
 have bh:((rs.length:Int) != (y.length:Int))=true:=by simp;omega
 go_enter func16,ntmps16
 go_wp2
 go_ret
 refine⟨Qr ?_,Oa5 _ _⟩
 cases b
 ·rfl
 exact absurd (congrArg List.length (E.out.1 rfl)) D
theorem Jpb (n:Int):Jg (wrap64 n):=by
 unfold Jg wrap64
 omega
def tOk (t:Int):Prop:=t=1∨t=2∨t=3
theorem Jvl (a:Option Addr)(cap:Nat)(ns:List Int)(w:World)(hn:ns.length≤maxLen)(bB:Kc w a ns) :
  Calls prog 20 #[.slice a ns.length cap,.int .i64 6] w fun e w'=>∃ (y:List Int) (sv:Value),e=.returned sv∧Jo w' w.heap.size 3 sv (y.map iv)∧(1≤y.length∧y.length≤6)∧(∀ t∈y,tOk t)∧Below w.heap.size w w':=by
 unfold maxLen at hn
 go_enter func20,ntmps20
 go_wp2
 go_loopw [5,6] (fun sv i wr=>∃ (k:Nat) (y:List Int),k≤ns.length∧k≤6∧i=.int .i64 k∧Hid (y.length=k)∧Hid (∀ t∈y,tOk t)∧Jo wr w.heap.size 3 sv (y.map iv)∧Below w.heap.size w wr) (fun _ i _=>6-(intOf i).toNat)
 case atStart=>exact⟨0,[],Ob7 _,Ob7 _,rfl,rfl,by intro t C;simp at C,Jo.nil _ _ _,Oa5 _ _⟩
 case round=>
  rename_i sv i
  obtain⟨k,y,bI,bJ,rfl,M,K,z,A⟩:=hrel
  obtain⟨bD,c1,E,_⟩:=z.cells
  rw[Oa6]at E
  have bH:=A.size
  have bM:y.length≤6:=by have:=M.out;omega
  by_cases U:k<ns.length∧k<6
  ·obtain⟨Z,bE⟩:=U
   obtain⟨b1,bO,rfl,bG,bP⟩:=Kc.at (bB.below A) Z
   have bh:=fun W=>Jfw (wrap64 (ns[k]-1)) 3 W (Jpb _) (by decide) (by decide)
   have bi:Hid (∀ W,Calls prog 29 #[.int .i64 (wrap64 (ns[k]-1)),.int .i64 ((3:Nat):Int)] W fun e w'=>(∃ r:Nat,e=.returned (.int .i64 r)∧r<3)∧w'=W):=bh
   clear bh
   subst E
   go_wp2_with (first|(go_at_call 29;go_must (refine(bi.out _).mono ?_);rintro e w1 ⟨⟨r,rfl,bL⟩,bN⟩;subst w1)|(at_builtin;go_must (refine Ks (by rfl) _ _ 22 3 _ 8 Zw (by rfl) (by decide) (by kernel_rfl) (by rfl) w.heap.size _ _ (by rfl) (Jo.alloc z _) ⟨wr.heap.size,0,none⟩ 1 [iv (1+(r:Int))] (by rfl) (by exact Ua wr _ _) (by intro u H;simp at H;subst H;rfl) (by simp only[List.length_cons,List.length_nil,Oa6];omega) (by simp;omega) ?_);intro sv' bC D O bn;obtain⟨bj,bl,X,_⟩:=D.cells;subst X))
   go_roundw
   case rel=>
    refine⟨k+1,y++[1+(r:Int)],by omega,by omega,by go_num,by show _=_;rw[Oa8,M.out];rfl,?_,by simpa using D,Jy (Jc A _) O (fun g R=>(Je z R).1)⟩
    intro t C
    rcases Od2.1 C with h|h
    ·exact K.out t h
    simp at h;subst h;unfold tOk;omega
   case measure=>simp[intOf];omega
  by_cases h0:y.length=0
  ·have bA:y=[]:=Od3.1 h0
   subst bA
   have bz:=E
   subst bz
   have bu:k=0:=by have:=M.out;simp at this;omega
   subst bu
   by_cases bc:0<ns.length
   ·exact absurd ⟨bc,by omega⟩ U
   have bf:ns.length=0:=by omega
   have bx:=Od3.1 bf
   subst bx
   clear U bc bf h0
   simp at z
   go_wp2_with (first|(at_builtin;go_must (refine Ks (by rfl) _ _ 22 3 _ 8 Zw (by rfl) (by decide) (by kernel_rfl) (by rfl) w.heap.size _ [] (by rfl) (Jo.alloc (by exact z) _) ⟨wr.heap.size,0,none⟩ 1 [iv 1] (by rfl) (by exact Ua wr _ _) (by intro u H;simp at H;subst H;rfl) (by simp) (by simp;omega) ?_);intro sv' bC D O bn;obtain⟨bj,bl,X,_⟩:=D.cells;subst X))
   go_ret
   exact⟨[1],_,rfl,by simpa using D,by simp,by intro t C;simp at C;subst C;exact .inl rfl,Jy (Jc A _) O (fun g R=>(Je z R).1)⟩
  have bK:(((y.length:Nat):Int)==0)=false:=by rw[beq_eq_false_iff_ne];omega
  by_cases Z:k<ns.length
  ·have br:k=6:=by omega
   subst br
   subst E
   go_wp2
   go_ret
   exact⟨y,_,rfl,z,by omega,K.out,A⟩
  subst E
  go_wp2
  go_ret
  exact⟨y,_,rfl,z,by omega,K.out,A⟩
theorem Jpy (t h:Int)(z:tOk t)(h0:0≤h)(y:h≤3)(hn:¬ (t=3∧h=3)):way t h=true:=by
 unfold way tOk at *
 rw[decide_eq_true_eq]
 omega
structure Jfz (ts ns L:List Int) (k:Nat):Prop where
 len:L.length=k
 ok:∀ j (hj:j<L.length),way (ts.getD j 0) L[j]=true
 plain:∀ j (hj:j<L.length),ns.length≤j→L[j]=0
theorem Jfz.more {z ns L:List Int}{k:Nat}(h:Jfz z ns L k)(v:Int)(D:way (z.getD k 0) v=true)(C:ns.length≤k→v=0):Jfz z ns (L++[v]) (k+1):=by
 have A:=h.len
 refine⟨by simp[A],fun j y=>?_,fun j y hn=>?_⟩
 ·by_cases e:j<L.length
  ·rw[Oi2 e];exact h.ok j e
  have:j=L.length:=by simp at y;omega
  subst this
  rw[Ok8 (Oa2 _)]
  simpa [A] using D
 by_cases e:j<L.length
 ·rw[Oi2 e];exact h.plain j e hn
 have:j=L.length:=by simp at y;omega
 subst this
 rw[Ok8 (Oa2 _)]
 simpa using C (by omega)
theorem Jzt (bl bn:Value)(O a:Option Addr)(ct cap:Nat)(y ns:List Int)(w:World)(bS:y.length≤6)(bA:∀ t∈y,tOk t)(bx:∀ n∈ns,Jg n)(bI:Kc w O y)(bJ:Kc w a ns) :
  Calls prog 24 #[.agg #[bl,.slice O y.length ct,bn],.slice a ns.length cap] w fun e w'=>∃ (hs:List Int) (sv:Value),e=.returned sv∧Jo w' w.heap.size 3 sv (hs.map iv)∧Jfz y ns hs y.length∧Below w.heap.size w w':=by
 have bC:Hid (∀ t∈y,tOk t):=bA
 have bB:Hid (∀ n∈ns,Jg n):=bx
 clear bA bx
 have bE:Below w.heap.size w (w.alloc (.cells #[bl,.slice O y.length ct,bn] 25)):=(Oa5 _ _).alloc (Oa2 _) _
 go_enter func24,ntmps24
 go_wp2
 go_loopw [5,6] (fun sv i wr=>∃ (c:Nat) (L:List Int),c≤y.length∧i=.int .i64 c∧Hid (Jfz y ns L c)∧Jo wr (w.heap.size+1) 3 sv (L.map iv)∧Below (w.heap.size+1) (w.alloc (.cells #[bl,.slice O y.length ct,bn] 25)) wr) (fun _ i _=>y.length-(intOf i).toNat)
 case atStart=>exact⟨0,[],Ob7 _,rfl,⟨rfl,by simp,by simp⟩,Jo.nil _ _ _,Oa5 _ _⟩
 case round=>
  rename_i sv i
  obtain⟨c,L,bQ,rfl,M,C,E⟩:=hrel
  obtain⟨bL,c1,bi,_⟩:=C.cells
  rw[Oa6]at bi
  have bG:=E.size
  simp at bG
  have bN:L.length≤6:=by have:=M.out.len;omega
  have bf:Below w.heap.size w wr:=bE.trans (E.mono (Nat.le_succ _))
  have bM:wr.cell? ⟨w.heap.size,1,none⟩=some (.slice O y.length ct):=by rw[E.cell (p:=⟨w.heap.size,1,none⟩) (by simp)];simp
  by_cases bh:c<y.length
  ·obtain⟨b1,bU,rfl,bO,bK⟩:=Kc.at (bI.below bf) bh
   have U:Hid (y.getD c 0=y[c]):=by show _=_;simp[bh]
   have R:=bC.out _ (Ob3 bh)
   unfold tOk at R
   subst bi
   by_cases bu:c<ns.length
   ·obtain⟨b2,bV,rfl,bP,bW⟩:=Kc.at (bJ.below bf) bu
    have bH:=Jfw ns[c] 4 wr (bB.out _ (Ob3 bu)) (by decide) (by decide)
    go_wp2_with fail
    refine bH.mono ?_
    rintro e w1 ⟨⟨r,rfl,bR⟩,bT⟩
    subst w1
    by_cases bD:r=3
    ·subst bD
     by_cases bj:y[c]=3
     ·have bz:(y[c]==3)=true:=by rw[beq_iff_eq];exact bj
      rw[bj]at bK
      go_wp2_with (at_builtin;go_must (refine Ks (by rfl) _ _ 22 3 _ 8 Zw (by rfl) (by decide) (by kernel_rfl) (by rfl) (w.heap.size+1) _ _ (by rfl) (Jo.alloc C _) ⟨wr.heap.size,0,none⟩ 1 [iv 2] (by rfl) (by exact Ua wr _ _) (by intro u A;simp at A;subst A;rfl) (by simp only[List.length_cons,List.length_nil,Oa6];omega) (by simp;omega) ?_);intro sv' br z D bc;obtain⟨X,Z,K,_⟩:=z.cells;subst K)
      go_roundw
      case rel=>exact⟨c+1,L++[2],by omega,by go_num,M.out.more 2 (by rw[U.out];exact Jpy _ _ R (by omega) (by omega) (by omega)) (fun h=>by omega),by simpa using z,(E.alloc (by omega) _).grown D (by simp;omega) (fun g H=>(Je C H).1)⟩
      case measure=>simp[intOf];omega
     have bz:(y[c]==3)=false:=by rw[beq_eq_false_iff_ne];exact bj
     go_wp2_with (at_builtin;go_must (refine Ks (by rfl) _ _ 22 3 _ 8 Zw (by rfl) (by decide) (by kernel_rfl) (by rfl) (w.heap.size+1) _ _ (by rfl) (Jo.alloc C _) ⟨wr.heap.size,0,none⟩ 1 [iv 3] (by rfl) (by exact Ua wr _ _) (by intro u A;simp at A;subst A;rfl) (by simp only[List.length_cons,List.length_nil,Oa6];omega) (by simp;omega) ?_);intro sv' br z D bc;obtain⟨X,Z,K,_⟩:=z.cells;subst K)
     go_roundw
     case rel=>exact⟨c+1,L++[3],by omega,by go_num,M.out.more 3 (by rw[U.out];exact Jpy _ _ R (by omega) (by omega) (by omega)) (fun h=>by omega),by simpa using z,(E.alloc (by omega) _).grown D (by simp;omega) (fun g H=>(Je C H).1)⟩
     case measure=>simp[intOf];omega
    have bz:((r:Int)==3)=false:=by rw[beq_eq_false_iff_ne];omega
    go_wp2_with (at_builtin;go_must (refine Ks (by rfl) _ _ 22 3 _ 8 Zw (by rfl) (by decide) (by kernel_rfl) (by rfl) (w.heap.size+1) _ _ (by rfl) (Jo.alloc C _) ⟨wr.heap.size,0,none⟩ 1 [iv (r:Int)] (by rfl) (by exact Ua wr _ _) (by intro u A;simp at A;subst A;rfl) (by simp only[List.length_cons,List.length_nil,Oa6];omega) (by simp;omega) ?_);intro sv' br z D bc;obtain⟨X,Z,K,_⟩:=z.cells;subst K)
    go_roundw
    case rel=>exact⟨c+1,L++[(r:Int)],by omega,by go_num,M.out.more (r:Int) (by rw[U.out];exact Jpy _ _ R (by omega) (by omega) (by omega)) (fun h=>by omega),by simpa using z,(E.alloc (by omega) _).grown D (by simp;omega) (fun g H=>(Je C H).1)⟩
    case measure=>simp[intOf];omega
   go_wp2_with (at_builtin;go_must (refine Ks (by rfl) _ _ 22 3 _ 8 Zw (by rfl) (by decide) (by kernel_rfl) (by rfl) (w.heap.size+1) _ _ (by rfl) (Jo.alloc C _) ⟨wr.heap.size,0,none⟩ 1 [iv 0] (by rfl) (by exact Ua wr _ _) (by intro u A;simp at A;subst A;rfl) (by simp only[List.length_cons,List.length_nil,Oa6];omega) (by simp;omega) ?_);intro sv' br z D bc;obtain⟨X,Z,K,_⟩:=z.cells;subst K)
   go_roundw
   case rel=>exact⟨c+1,L++[0],by omega,by go_num,M.out.more 0 (by rw[U.out];exact Jpy _ _ R (by omega) (by omega) (by omega)) (fun _=>rfl),by simpa using z,(E.alloc (by omega) _).grown D (by simp;omega) (fun g H=>(Je C H).1)⟩
   case measure=>simp[intOf];omega
  obtain rfl:c=y.length:=by omega
  subst bi
  go_wp2
  go_ret
  exact⟨L,_,rfl,Jgl C (Nat.le_succ _),M.out,bf⟩
def Kgs (y:List Int)(r:List V):Prop:=r.length=y.length∧∀ j (z:j<r.length),okB (y.getD j 0) r[j].k r[j].n r[j].s=true∧Jg r[j].n
theorem Kgd (t:Int):okB t Jf.k Jf.n Jf.s=true:=by simp[okB,Jf]
theorem Kf0:Jg Jf.n:=by simp[Jg,Jf]
structure Jkr (w:World) (tb:Nat) (name:ByteArray) (tsv rv:Value) (bs:List Nat) (rs:List (List V)):Prop where
 cells:w.heap[tb]?=some (.cells #[.string name,tsv,rv] 25 (0,0))
 own:Jo w (tb+1) 59 rv (List.zipWith Jad bs rs)
 len:bs.length=rs.length
 rows:∀ (i:Nat) b r,bs[i]?=some b→rs[i]?=some r→Kv w b r []
 new:∀ b∈bs,tb<b∧rv.ownBlock≠some b
theorem Jkr.lt {w:World}{y:Nat}{name:ByteArray}{A z:Value}{bs:List Nat}{rs:List (List V)}(h:Jkr w y name A z bs rs):y<w.heap.size:=Jd h.cells
theorem Jkr.below {w w':World}{C:Nat}{name:ByteArray}{D A:Value}{bs:List Nat}{rs:List (List V)}(h:Jkr w C name D A bs rs)(y:Below w.heap.size w w'):Jkr w' C name D A bs rs:=
 ⟨(y.block _ h.lt).trans h.cells,h.own.below y,h.len,fun i b r hi z=>(h.rows i b r hi z).of_block (y.block _ (h.rows i b r hi z).lt),h.new⟩
theorem Jpz (bs:List Nat)(rs:List (List V))(h:bs.length=rs.length)(b:Nat)(r:List V):List.zipWith Jad (bs++[b]) (rs++[r])=List.zipWith Jad bs rs++[Jad b r]:=by
 rw[Oo5 h];rfl
theorem Jkr.more {w w4:World}{z:Nat}{name:ByteArray}{R y rv':Value}{bs:List Nat}{rs:List (List V)}(h:Jkr w z name R y bs rs)(C:Nat)(r:List V)(M:Kv w C r [])(bn:z<C)(X:y.ownBlock≠some C)(o:Obj)
  (bc:Jo w4 (z+1) 59 rv' (List.zipWith Jad bs rs++[Jad C r])) (bh:(w.alloc o).grownBy w4 y.ownBlock) (bf:rv'.ownBlock=y.ownBlock∨rv'.ownBlock=some (w.alloc o).heap.size) :
  Jkr (w4.setCell ⟨z,2,none⟩ rv') z name R rv' (bs++[C]) (rs++[r]):=by
 have O:∀ k,k<w.heap.size→y.ownBlock≠some k→w4.heap[k]?=w.heap[k]?:=fun k bj hn=>(bh.block k (by simp;omega) (Oc5 hn)).trans (Oa9 w o k bj)
 have br:w4.heap[z]?=some (.cells #[.string name,R,y] 25 (0,0)):=(O z h.lt fun e=>by have:=(Je h.own e).1;omega).trans h.cells
 have Z:∀ b,b<w.heap.size→y.ownBlock≠some b→rv'.ownBlock≠some b:=fun b U hn e=>by
  rcases bf with H|H
  ·exact hn (H▸e)
  rw[H]at e;simp at e;omega
 refine⟨by have:=Jk br 2 rv';simpa using this,?_,by simp[h.len],?_,?_⟩
 ·rw[Jpz bs rs h.len]
  exact Yd bc fun g bi=>Oa4 _ _ _ _ (by have:=(Je bc bi).1;simp;omega)
 ·intro i b q hi D
  rcases Kec hi with⟨K,hi⟩|⟨K,rfl⟩
  ·rw[Ob0 (by rw[←h.len];exact K)]at D
   have E:=h.rows i b q hi D
   have bl:=h.new b (Of6 hi)
   exact(E.of_block (O b E.lt bl.2)).of_block (Oa4 _ _ _ _ (by simp;omega))
  rw[K,h.len,Ob6 (Oa2 _)]at D
  simp at D
  subst D
  exact(M.of_block (O C M.lt X)).of_block (Oa4 _ _ _ _ (by simp;omega))
 intro b U
 rcases Od2.1 U with A|A
 ·obtain⟨i,hi,e⟩:=Od5 A
  have E:=h.rows i b (rs[i]'(by rw[←h.len];exact hi)) (by rw[←e];simp[hi]) (by simp[show i<rs.length by rw[←h.len];exact hi])
  exact⟨(h.new b A).1,Z b E.lt (h.new b A).2⟩
 simp at A
 subst A
 exact⟨bn,Z b M.lt X⟩
theorem Jya (bs:List Nat):∀ rs:List (List V),List.zipWith Je1 (List.zipWith (fun b (r:List V)=>((some ⟨b,0,none⟩:Option Addr),r.length)) bs rs) rs=List.zipWith Jad bs rs:=by
 induction bs with
 |nil=>intro rs;simp
 |cons b bs y=>
  intro rs
  cases rs with
  |nil=>simp
  |cons r rs=>simp[Je1,Jad,y rs]
theorem Jyi (bs:List Nat)(rs:List (List V))(h:bs.length=rs.length){i:Nat}{x:Option Addr×Nat}(y:(List.zipWith (fun b (r:List V)=>((some ⟨b,0,none⟩:Option Addr),r.length)) bs rs)[i]?=some x):∃ b,bs[i]?=some b∧x.1=some ⟨b,0,none⟩:=by
 have hi:i<bs.length:=by
  rcases Oc1 i bs.length with z|z
  ·exact z
  rw[Ob4 (by simp;omega)]at y;simp at y
 have A:i<rs.length:=by omega
 rw[Ok5,Oa3 hi,Oa3 A]at y
 simp at y
 exact⟨bs[i],by simp[hi],by rw[←y]⟩
theorem Jkr.out {w w':World}{z:Nat}{name:ByteArray}{R:Value}{a:Option Addr}{n c q:Nat}{bs:List Nat}{rs:List (List V)}(h:Jkr w z name R (.slice a n c) bs rs)(hs:w.heap.size≤w'.heap.size)(X:q≤z)(C:∀ k,k≠q→w'.heap[k]?=w.heap[k]?) :
  Zd w' a (List.zipWith (fun b (r:List V)=>((some ⟨b,0,none⟩:Option Addr),r.length)) bs rs) rs∧rs.length≤c∧(∀ b o,a=some ⟨b,o,none⟩→z<b)∧∀ b∈bs,z<b:=by
 have A:∀ b o,a=some ⟨b,o,none⟩→z<b:=fun b o y=>by have:=(Je h.own ((Jji h.own).2 b o y)).1;omega
 refine⟨⟨by simp[h.len],?_,fun i x r M K=>?_⟩,?_,A,fun b y=>(h.new b y).1⟩
 ·rw[Jya]
  exact(Jji h.own).1.of_block hs fun b o y _=>C b (by have:=A b o y;omega)
 ·obtain⟨b,y,O⟩:=Jyi bs rs h.len M
  rw[O]
  exact((h.rows i b r y K).of_block (C b (by have:=(h.new b (Of6 y)).1;omega))).vals
 have D:(List.zipWith Jad bs rs).length=rs.length:=by simp[h.len]
 rcases h.own.2 with⟨E,h0⟩|⟨g,cap,U,E,_,_,H,_⟩
 ·rw[D]at h0;omega
 simp at E
 rw[D]at H
 omega
structure Jug (w w':World) (name:ByteArray) (ts:List Int) (rs:List (List V)) (v:Value):Prop where
 val:∃ ta tc ra rc bs,v=.agg #[.string name,.slice ta ts.length tc,.slice ra rs.length rc]∧Kc w' ta ts∧Zd w' ra (List.zipWith (fun b (r:List V)=>((some ⟨b,0,none⟩:Option Addr),r.length)) bs rs) rs∧rs.length≤rc∧(∀ b o,ta=some ⟨b,o,none⟩→w.heap.size≤b)∧(∀ b o,ra=some ⟨b,o,none⟩→w.heap.size≤b)∧∀ b∈bs,w.heap.size≤b
 types:(1≤ts.length∧ts.length≤6)∧∀ t∈ts,tOk t
 rows:∀ r∈rs,Kgs ts r
theorem Jt8 (bY name:ByteArray)(bx bl:Option Addr)(ct bn bj:Nat)(ns:List Int)(xs:List (Option Addr×Nat))(C:List (List V))(w:World)(fd:bj≤200)(hn:ns.length≤maxLen)(cv:∀ r∈C,r.length≤maxLen)(cl:∀ r∈C,∀ v∈r,Jg v.k∧Jg v.n)(dB:Kc w bx ns)(dC:Zd w bl xs C) :
  Calls prog 5 #[.agg #[.string bY,.slice bx ns.length ct,.slice bl C.length bn],.string name,.int .i64 (bj:Int)] w fun e w'=>∃ y rs v,e=.returned v∧Jug w w' name y rs v∧rs.length≤bj∧Below w.heap.size w w':=by
 have cf:Below w.heap.size w ((w.alloc (.cells #[.string bY,.slice bx ns.length ct,.slice bl C.length bn] 25)).alloc (.cells #[.string ⟨#[]⟩,.slice none 0 0,.slice none 0 0] 25)):=((Oa5 _ _).alloc (Oa2 _) _).alloc (by simp) _
 have cD:=Jvl bx ct ns _ hn (dB.below cf)
 unfold maxLen at hn
 have dT:Hid (∀ r∈C,r.length≤maxLen):=cv
 have cI:Hid (∀ r∈C,∀ v∈r,Jg v.k∧Jg v.n):=cl
 clear cv cl
 go_enter func5,ntmps5
 go_wp2_with (go_at_call 20;refine cD.mono ?_;rintro e w1 ⟨y,fq,rfl,bV,dw,cB,bH⟩;obtain⟨D,E,cC,cz⟩:=bV.cells;rw[Oa6]at cC;subst cC)
 have dA:=bH.size
 simp at dA
 have ch:Below w.heap.size w w1:=cf.trans (bH.mono (by simp;omega))
 have cH:∀ (H:World),Below w1.heap.size w1 H→H.cell? ⟨w.heap.size,2,none⟩=some (.slice bl C.length bn):=fun H da=>by
  rw[da.cell (p:=⟨w.heap.size,2,none⟩) (by simp;omega),bH.cell (p:=⟨w.heap.size,2,none⟩) (by simp;omega)]
  simp
 have ca:Hid (∀ (H:World),Below w1.heap.size w1 H→H.cell? ⟨w.heap.size,2,none⟩=some (.slice bl C.length bn)):=cH
 have cA:∀ b o,D=some ⟨b,o,none⟩→w.heap.size+2≤b∧b<w1.heap.size:=fun b o M=>by
  have:=Je bV ((Jji bV).2 b o M)
  simp at this
  omega
 have bM:Hid (∀ b o,D=some ⟨b,o,none⟩→w.heap.size+2≤b∧b<w1.heap.size):=cA
 have cc:Hid (∀ t∈y,tOk t):=cB
 clear cH cA cB cD
 have ds:Jkr (w1.alloc (.cells #[.string name,.slice D y.length E,.slice none 0 0] 25)) w1.heap.size name (.slice D y.length E) (.slice none 0 0) [] []:=
  ⟨heap_alloc_new _ _,Jo.nil _ _ _,rfl,fun i b r hi=>by simp at hi,fun b M=>by simp at M⟩
 go_loopw [8] (fun i wr=>∃ (k:Nat) (bZ:Value) (bs:List Nat) (rs:List (List V)),k≤C.length∧k≤bj∧i=.int .i64 k∧rs.length≤k∧Hid (∀ r∈rs,Kgs y r)∧Jkr wr w1.heap.size name (.slice D y.length E) bZ bs rs∧Below w1.heap.size w1 wr) (fun i _=>bj-(intOf i).toNat)
 case atStart=>exact⟨0,_,[],[],Ob7 _,Ob7 _,rfl,Oa2 _,by intro r bT;simp at bT,ds,(Oa5 _ _).alloc (Oa2 _) _⟩
 case round=>
  rename_i i
  obtain⟨k,bZ,bs,rs,bI,fk,rfl,fl,cb,K,Z⟩:=hrel
  obtain⟨z,bC⟩:∃ z,z=wr:=⟨_,rfl⟩
  subst bC
  have c2:=ca.out z Z
  have cQ:z.cell? ⟨w1.heap.size,1,none⟩=some (.slice D y.length E):=by simp[World.cell?,K.cells]
  have dX:z.cell? ⟨w1.heap.size,2,none⟩=some bZ:=by simp[World.cell?,K.cells]
  have dc:=ch.trans (Z.mono (by omega))
  obtain⟨O,R,cx,_⟩:=K.own.cells
  have bW:(List.zipWith Jad bs rs).length=rs.length:=by simp[K.len]
  rw[bW]at cx
  have cO:Hid ((List.zipWith Jad bs rs).length=rs.length):=bW
  clear bW
  subst cx
  by_cases cr:k<C.length∧k<bj
  ·obtain⟨bE,cW⟩:=cr
   obtain⟨dS,dk,dm⟩:=Jtn y.length (by omega) z
   go_wp2
   clear dk
   go_loopw [10] (fun i wr=>∃ (c:Nat) (L:List V),c≤y.length∧i=.int .i64 c∧Hid (L.length=c∧∀ j (br:j<L.length),okB (y.getD j 0) L[j].k L[j].n L[j].s=true∧Jg L[j].n)∧Kv wr z.heap.size (L++List.replicate (y.length-c) Jf) []∧Below z.heap.size z wr) (fun i _=>y.length-(intOf i).toNat)
   case atStart=>exact⟨0,[],Ob7 _,rfl,⟨rfl,fun j br=>by simp at br⟩,by simpa using dm,(Oa5 _ _).alloc (Oa2 _) _⟩
   case round=>
    rename_i fm
    obtain⟨c,L,fi,rfl,bc,bB,bi⟩:=hrel
    have bR:=Z.trans (bi.mono Z.size)
    have bG:=ch.trans (bR.mono (by omega))
    have cS:=ca.out wr bR
    have cT:wr.cell? ⟨w1.heap.size,1,none⟩=some (.slice D y.length E):=by rw[bi.cell (p:=⟨w1.heap.size,1,none⟩) K.lt];exact cQ
    obtain⟨b1,bK,fp,dH,db,fe,dK,dz⟩:=dC.at bE
    subst db
    have dJ:=Ja bG dK
    by_cases bA:c<y.length
    ·obtain⟨bt,bX,du,fg,dL⟩:=Kc.at (cz.below bR) bA
     subst du
     by_cases cj:c<C[k].length
     ·obtain⟨b2,bu,dq,ff,dN,dP,dR⟩:=dz.at cj
      subst dq
      have dM:=Ja bG dN
      have dO:=Ja bG dP
      have dQ:=Ja bG dR
      have fh:=bM.out bt bX rfl
      have bC:=Z.size
      have cZ:=K.lt
      have cE:=bi.size
      have cF:=cI.out _ (Ob3 bE) _ (Ob3 cj)
      have cJ:Hid (∀ W,Calls prog 21 #[C[k][c].val,.int .i64 y[c]] W fun e w'=>(∃ u:V,e=.returned u.val∧okB y[c] u.k u.n u.s=true∧Jg u.n)∧Below W.heap.size W w'):=fun W=>Jk8 C[k][c] y[c] W (cc.out _ (Ob3 bA)) cF.1 cF.2
      have cn:(L++List.replicate (y.length-c) Jf).length=y.length:=by rw[Oa8,bc.out.1,Od6];omega
      have cK:Hid ((L++List.replicate (y.length-c) Jf).length=y.length):=cn
      clear cn
      go_wp2
      refine wp_region_held_drew (S:=fun H=>H.cell? ⟨w.heap.size,2,none⟩=some (.slice (some ⟨b1,bK,none⟩) C.length bn)∧H.cell? ⟨b1,bK+k,none⟩=some (.slice (some ⟨b2,bu,none⟩) C[k].length dH)∧H.cell? ⟨b2,bu+c*3,none⟩=some (.int .i64 C[k][c].k)∧H.cell? ⟨b2,bu+c*3+1,none⟩=some (.int .i64 C[k][c].n)∧H.cell? ⟨b2,bu+c*3+2,none⟩=some (.string C[k][c].s)∧H.cell? ⟨w1.heap.size,1,none⟩=some (.slice (some ⟨bt,bX,none⟩) y.length E)∧H.cell? ⟨bt,bX+c,none⟩=some (.int .i64 y[c])) (by kernel_rfl) ⟨cS,dJ,dM,dO,dQ,cT,dL⟩ (fun A=>?_)
      refine tk 0 ?_ rfl A ?_ (tk 1 ?_ rfl A ?_ (tk 2 ?_ rfl A ?_ (tk 3 ?_ rfl A ?_ (tk 4 ?_ rfl A ?_ (tk 5 ?_ rfl A ?_ (tk 6 ?_ rfl A ?_ (tk 7 ?_ rfl A ?_ (tk 8 ?_ rfl A ?_ (tk 9 ?_ rfl A ?_ (tk 10 ?_ rfl A ?_ (tk 11 ?_ rfl A ?_ (tk 12 ?_ rfl A ?_ (tk 13 ?_ rfl A ?_ (tk 14 ?_ rfl A ?_ ?_))))))))))))))
      iterate 15
       rotate_left 1
       ·intro w bP;(try dsimp only at bP);go_simp;try rfl
      simp only[Act.put,List.getElem_toArray,List.getElem_cons_zero,List.getElem_cons_succ,Oa1,List.set_cons_zero,List.set_cons_succ]
      refine wpAnyH_ready (rs:=[15]) (by kernel_rfl) (by simp) (AllReadyH.cons rfl (fun bN bz=>?_) AllReadyH.nil)
      go_simp
      refine(cJ.out _).mono ?_
      rintro e X ⟨⟨u,rfl,bJ,dx⟩,bQ⟩
      go_simp
      obtain⟨kk,_⟩:=Kx bQ
      refine bz.out _ _ ⟨(kk _ _ (by show w.heap.size<wr.heap.size;omega)).trans A.1,(kk _ _ (by show b1<wr.heap.size;omega)).trans A.2.1,(kk _ _ (by show b2<wr.heap.size;omega)).trans A.2.2.1,(kk _ _ (by show b2<wr.heap.size;omega)).trans A.2.2.2.1,(kk _ _ (by show b2<wr.heap.size;omega)).trans A.2.2.2.2.1,(kk _ _ (by show w1.heap.size<wr.heap.size;omega)).trans A.2.2.2.2.2.1,(kk _ _ (by show bt<wr.heap.size;omega)).trans A.2.2.2.2.2.2⟩ (fun bf=>?_)
      clear bz bN kk A
      refine tk 16 ?_ rfl bf ?_ ?_
      rotate_left 1
      ·intro w bP;(try dsimp only at bP);go_simp;try rfl
      simp only[Act.put,List.getElem_toArray,List.getElem_cons_zero,List.getElem_cons_succ,Oa1,List.set_cons_zero,List.set_cons_succ]
      have dr:Kv X z.heap.size (L++List.replicate (y.length-c) Jf) []:=bB.of_block ((Jw bQ).block _ bB.lt)
      obtain⟨fo,⟨c0,cU⟩,⟨c1,cV⟩,⟨cP,bO⟩,bU⟩:=dr.put u c (by rw[cK.out];exact bA)
      rw[Jna L c y.length u bc.out.1 bA]at bU
      have cM:Hid (Kv (((X.setCell ⟨z.heap.size,c*3,none⟩ (.int .i64 u.k)).setCell ⟨z.heap.size,c*3+1,none⟩ (.int .i64 u.n)).setCell ⟨z.heap.size,c*3+2,none⟩ (.string u.s)) z.heap.size (L++[u]++List.replicate (y.length-(c+1)) Jf) []):=bU
      clear bU
      refine wpAnyH_ready (rs:=[17]) (by kernel_rfl) (by simp) (AllReadyH.cons rfl (fun bN bz=>?_) AllReadyH.nil)
      go_simp
      have U:∀ (b o:Nat) (v:Value),b≠z.heap.size→X.cell? ⟨b,o,none⟩=some v→(((X.setCell ⟨z.heap.size,c*3,none⟩ (.int .i64 u.k)).setCell ⟨z.heap.size,c*3+1,none⟩ (.int .i64 u.n)).setCell ⟨z.heap.size,c*3+2,none⟩ (.string u.s)).cell? ⟨b,o,none⟩=some v:=fun b o v M dy=>by
       rw[Ob5 _ _ _ _ (by first|(simp;done)|(simp;omega)),Ob5 _ _ _ _ (by first|(simp;done)|(simp;omega)),Ob5 _ _ _ _ (by first|(simp;done)|(simp;omega))];exact dy
      refine bz.out _ _ ⟨U _ _ _ (by omega) bf.1,U _ _ _ (by omega) bf.2.1,U _ _ _ (by omega) bf.2.2.1,U _ _ _ (by omega) bf.2.2.2.1,U _ _ _ (by omega) bf.2.2.2.2.1,U _ _ _ (by omega) bf.2.2.2.2.2.1,U _ _ _ (by omega) bf.2.2.2.2.2.2⟩ (fun cX=>?_)
      clear bz bN U bf cX c0 cU c1 cV cP bO
      refine wpAnyH_done (by kernel_rfl) ?_ _
      have de:Below z.heap.size z (((X.setCell ⟨z.heap.size,c*3,none⟩ (.int .i64 u.k)).setCell ⟨z.heap.size,c*3+1,none⟩ (.int .i64 u.n)).setCell ⟨z.heap.size,c*3+2,none⟩ (.string u.s)):=
       (((bi.trans ((Jw bQ).mono cE)).setCell (p:=⟨z.heap.size,c*3,none⟩) (Oa2 _) _).setCell (p:=⟨z.heap.size,c*3+1,none⟩) (Oa2 _) _).setCell (p:=⟨z.heap.size,c*3+2,none⟩) (Oa2 _) _
      generalize ((X.setCell ⟨z.heap.size,c*3,none⟩ (.int .i64 u.k)).setCell ⟨z.heap.size,c*3+1,none⟩ (.int .i64 u.n)).setCell ⟨z.heap.size,c*3+2,none⟩ (.string u.s)=dI at *
      go_wp2
      go_roundw
      case rel=>
       refine⟨c+1,L++[u],by omega,by go_num,⟨by rw[Oa8,bc.out.1];rfl,fun j br=>?_⟩,cM.out,de⟩
       by_cases e:j<L.length
       ·rw[Oi2 e];exact bc.out.2 j e
       have bS:j=L.length:=by simp at br;omega
       subst bS
       rw[Ok8 (Oa2 _)]
       have dj:y.getD L.length 0=y[c]:=by rw[bc.out.1];simp[bA]
       simp only[Oe1,List.getElem_cons_zero,dj]
       exact⟨bJ,dx⟩
      case measure=>simp[intOf];omega
     have cN:Hid (L++List.replicate (y.length-c) Jf=(L++[Jf])++List.replicate (y.length-(c+1)) Jf):=by
      show _=_
      obtain⟨d,dg⟩:∃ d,y.length-c=d+1:=⟨y.length-c-1,by omega⟩
      have dh:y.length-(c+1)=d:=by omega
      rw[dg,dh,List.replicate_succ]
      simp
     go_wp2
     go_roundw
     case rel=>
      refine⟨c+1,L++[Jf],by omega,by go_num,⟨by rw[Oa8,bc.out.1];rfl,fun j br=>?_⟩,by rw[←cN.out];exact bB,bi⟩
      by_cases e:j<L.length
      ·rw[Oi2 e];exact bc.out.2 j e
      have bS:j=L.length:=by simp at br;omega
      subst bS
      rw[Ok8 (Oa2 _)]
      simp only[Oe1,List.getElem_cons_zero]
      exact⟨Kgd _,Kf0⟩
     case measure=>simp[intOf];omega
    obtain rfl:c=y.length:=by omega
    rw[Oe1,List.replicate_zero,Od7]at bB
    have bh:=K.below bi
    have cZ:=bh.lt
    have bC:=Z.size
    have cE:=bi.size
    have bO:wr.cell? ⟨w1.heap.size,2,none⟩=some (.slice O rs.length R):=by simp[World.cell?,bh.cells]
    have dp:(Value.slice O rs.length R).ownBlock≠some z.heap.size:=fun e=>by have:=(Je K.own e).2;omega
    have cY:=K.lt
    go_wp2_with (at_builtin;go_must (refine Ul (by rfl) _ _ 23 59 _ 24 Jip (by rfl) (by decide) (by kernel_rfl) (by rfl) (w1.heap.size+1) _ _ (by rfl) (Jo.alloc bh.own _) ⟨wr.heap.size,0,none⟩ 1 [.slice (some ⟨z.heap.size,0,none⟩) y.length y.length] (by rfl) (by exact Ua wr _ _) (by intro u bJ;simp at bJ;subst bJ;rfl) (by rw[cO.out];simp only[List.length_cons,List.length_nil];omega) (by simp;omega) ?_);intro sv' X cG bL dG;go_must (have cu:=bh.more z.heap.size L bB (by omega) dp _ (rv':=sv') (w4:=X) (by unfold Jad;rw[bc.out.1];exact cG) bL dG);obtain⟨dU,dV,dt,_⟩:=cG.cells;subst dt;go_must (have dY:X.cell? ⟨w1.heap.size,2,none⟩=some (.slice O rs.length R):=(by rw[bL.cell_far _ (by simp;omega) (fun e=>absurd (Je bh.own e.symm).1 (by simp))];exact(Jnf wr _ _ 2 (by omega)).trans bO));go_must (have dZ:X.frozen? ⟨w1.heap.size,2,none⟩=false:=(by rw[bL.frozen_far _ (by simp;omega) (fun e=>absurd (Je bh.own e.symm).1 (by simp))];refine(Jh9 wr _ _ 2 (by omega)).trans ?_;simp[World.frozen?,bh.cells])))
    have df:Below w1.heap.size w1 X:=((Z.trans (bi.mono bC)).alloc (by omega) _).grown bL (by simp;omega) (fun g di=>by have:=(Je bh.own di).1;omega)
    go_roundw
    case rel=>
     simp only[Oa8,Oj8,List.length_cons,List.length_nil,Od0]at cu
     refine⟨k+1,_,bs++[z.heap.size],rs++[L],by omega,by omega,by go_num,by simp;omega,?_,cu,df.setCell (p:=⟨w1.heap.size,2,none⟩) (Oa2 _) _⟩
     intro r bT
     rcases Od2.1 bT with h|h
     ·exact cb.out r h
     simp at h
     subst h
     exact bc.out
    case measure=>simp[intOf];omega
  have cY:=K.lt
  have fj:z.heap[w1.heap.size]?=some (.cells #[.string name,.slice D y.length E,.slice O rs.length R] 25 (0,0)):=K.cells
  have dW:z.cell? ⟨w1.heap.size,0,none⟩=some (.string name):=by simp[World.cell?,K.cells]
  have bD:z.heap[w.heap.size+1]?=some (.cells #[.string ⟨#[]⟩,.slice none 0 0,.slice none 0 0] 25 (0,0)):=by
   rw[Z.block _ (by omega),bH.block _ (by simp)]
   have:=heap_alloc_new (w.alloc (.cells #[.string bY,.slice bx ns.length ct,.slice bl C.length bn] 25)) (.cells #[.string ⟨#[]⟩,.slice none 0 0,.slice none 0 0] 25)
   rw[Oa7]at this
   exact this
  have fc:z.cell? ⟨w.heap.size+1,0,none⟩=some (.string ⟨#[]⟩):=by simp[World.cell?,bD]
  have g1:z.cell? ⟨w.heap.size+1,1,none⟩=some (.slice none 0 0):=by simp[World.cell?,bD]
  have g2:z.cell? ⟨w.heap.size+1,2,none⟩=some (.slice none 0 0):=by simp[World.cell?,bD]
  have fb:∀ o,z.frozen? ⟨w.heap.size+1,o,none⟩=false:=fun o=>by simp[World.frozen?,bD]
  by_cases bE:k<C.length
  focus
   have cW:¬ k<bj:=fun h=>cr ⟨bE,h⟩
  rotate_left 1
  all_goals
   go_wp2
   have U:∀ k,k≠w.heap.size+1→(((z.setCell ⟨w.heap.size+1,0,none⟩ (.string name)).setCell ⟨w.heap.size+1,1,none⟩ (.slice D y.length E)).setCell ⟨w.heap.size+1,2,none⟩ (.slice O rs.length R)).heap[k]?=z.heap[k]?:=fun k bI=>by
    rw[Oa4 _ _ _ _ bI,Oa4 _ _ _ _ bI,Oa4 _ _ _ _ bI]
   have bC:=Z.size
   have cy:z.heap.size≤(((z.setCell ⟨w.heap.size+1,0,none⟩ (.string name)).setCell ⟨w.heap.size+1,1,none⟩ (.slice D y.length E)).setCell ⟨w.heap.size+1,2,none⟩ (.slice O rs.length R)).heap.size:=by simp[World.setCell]
   have ci:=Jk (Jk (Jk bD 0 (.string name)) 1 (.slice D y.length E)) 2 (.slice O rs.length R)
   simp at ci
   obtain⟨bK,bu,dD,dE⟩:=K.out (q:=w.heap.size+1) cy (by omega) U
   have dd:Below w.heap.size w (((z.setCell ⟨w.heap.size+1,0,none⟩ (.string name)).setCell ⟨w.heap.size+1,1,none⟩ (.slice D y.length E)).setCell ⟨w.heap.size+1,2,none⟩ (.slice O rs.length R)):=
    ((dc.setCell (p:=⟨w.heap.size+1,0,none⟩) (by simp) _).setCell (p:=⟨w.heap.size+1,1,none⟩) (by simp) _).setCell (p:=⟨w.heap.size+1,2,none⟩) (by simp) _
   have dv:Kc (((z.setCell ⟨w.heap.size+1,0,none⟩ (.string name)).setCell ⟨w.heap.size+1,1,none⟩ (.slice D y.length E)).setCell ⟨w.heap.size+1,2,none⟩ (.slice O rs.length R)) D y:=(cz.below Z).of_block cy fun b o M _=>U b (by have:=(bM.out b o M).1;omega)
   generalize ((z.setCell ⟨w.heap.size+1,0,none⟩ (.string name)).setCell ⟨w.heap.size+1,1,none⟩ (.slice D y.length E)).setCell ⟨w.heap.size+1,2,none⟩ (.slice O rs.length R)=dI at *
   refine bodyPost_ret (v:=.agg #[.string name,.slice D y.length E,.slice O rs.length R]) (by simp[results,results5,go_sem,World.cell?,ci]) rfl ⟨y,rs,_,rfl,⟨⟨D,E,O,R,bs,rfl,dv,bK,bu,fun b o M=>by have:=(bM.out b o M).1;omega,fun b o M=>by have:=dD b o M;omega,fun b M=>by have:=dE b M;omega⟩,⟨dw,cc.out⟩,cb.out⟩,by omega,dd⟩
end Go.Proofs.YtjjdldddcegjiaaGreatDoor
