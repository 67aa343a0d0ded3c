/- The document's store against the program's, plainly: a Drop, a Spoil, a Scan. -/
import Derived.Test.YtcaocabmioafcaaGreatDoorQi
import Derived.Test.YtcaocabmioafcaaGreatDoorQz
import Derived.Test.YtcaocabmioafcaaGreatDoorQc
import Derived.Test.YtcaocabmioafcaaGreatDoorKe
set_option maxHeartbeats 8000000
set_option maxRecDepth 100000
namespace Go.Proofs.YtcaocabmioafcaaGreatDoor
section
open Go.RowKit Go.Shelf
theorem Ky7 {D:DS}{A:List TS}{P:List RP}{Rs:List RTb}(h:Ksb D A P Rs)(n:ByteArray):Ksg (Rs.map nmT) n=Ub A n:=by rw[h.names,Kwb]
theorem Jbc.drop {C:DS}{A B:List (TS×List (List V))}{T:TS}{rs:List (List V)}(h:Jbc C (A++(T,rs)::B)):Jbc (Jcg C T.segs) (A++B):=by
 have J:(A++(T,rs)::B).flatMap (fun x=>x.1.segs.flatten)=A.flatMap (fun x=>x.1.segs.flatten)++(T.segs.flatten++B.flatMap fun x=>x.1.segs.flatten):=by simp
 have M:=h.nodup
 rw[J,Op3,Op3]at M
 obtain⟨n1,⟨Z,ba,bb⟩,N⟩:=M
 have X:∀ x∈A++B,∀ i∈x.1.segs.flatten,i∉T.segs.flatten:=fun x I i hi L=>by
  rcases Od2.1 I with q|q
  ·exact N i (Op5.2 ⟨x,q,hi⟩) i (Od2.2 (.inl L)) rfl
  exact bb i L i (Op5.2 ⟨x,q,hi⟩) rfl
 have O:=h.tab (T,rs) (by simp)
 refine⟨fun x I=>?_,?_,fun i p H=>?_,?_,?_⟩
 ·refine(h.tab x ?_).keep fun i hi=>by rw[Jpc,if_neg (X x I i hi)]
  rcases Od2.1 I with q|q
  ·exact Od2.2 (.inl q)
  exact Od2.2 (.inr (Og1 _ q))
 ·rw[Oe8,Op3]
  exact⟨n1,ba,fun a R b U=>N a R b (Od2.2 (.inr U))⟩
 ·rw[Jpc]at H
  split at H
  ·cases H
  rename_i Y
  have:=h.all i p H
  rw[J]at this
  rw[Oe8]
  rcases Od2.1 this with q|q
  ·exact Od2.2 (.inl q)
  rcases Od2.1 q with q|q
  ·exact absurd q Y
  exact Od2.2 (.inr q)
 ·have bc:=Kw1 T.segs C Z O.inuse
  have K:=h.used
  rw[J]at K
  rw[Oe8]
  simp only[Oa8]at K ⊢
  omega
 rw[(Jdn T.segs C).2.2]
 exact h.writes
theorem Kv5 {α β:Type}(f:α→β)(l:List α)(i:Nat):(l.map f).eraseIdx i=(l.eraseIdx i).map f:=by
 rw[List.eraseIdx_eq_take_drop_succ,List.eraseIdx_eq_take_drop_succ,Ob8,List.map_take,List.map_drop]
theorem Ksb.drop {D:DS}{J:List TS}{P:List RP}{Rs:List RTb}(h:Ksb D J P Rs){i:Nat}{T:TS}(H:J[i]?=some T):∃ I,Rs[i]?=some I∧I.pages=T.segs.flatten∧Ksb (Jcg D T.segs) (J.eraseIdx i) (Kr5 P I.pages) (Rs.eraseIdx i)∧(Jcg D T.segs).quota=D.quota∧(Jcg D T.segs).fail=D.fail∧(Jcg D T.segs).writes=D.writes:=by
 have N:=Jdn T.segs D
 have Y:=h.few
 have O:=h.small
 obtain⟨C,A,hs,M,rfl,rfl,U⟩:=h.ex
 rw[Ob1]at H
 cases hL:A[i]? with
 |none=>rw[hL]at H;cases H
 |some x=>
  rw[hL]at H
  cases H
  have hi:i<A.length:=(Ob9.1 hL).1
  have L:A[i]=x:=(Ob9.1 hL).2
  refine⟨Kzp x,by rw[Ob1,hL];rfl,rfl,⟨⟨Jcg C x.1.segs,A.eraseIdx i,?_,?_,?_,?_,fun y X=>U y (List.mem_of_mem_eraseIdx X)⟩,?_,by rw[Ktx];exact O⟩,N⟩
  ·rw[Kup,Kup]
   exact hs.relD _
  ·have R:A=A.take i++x::A.drop (i+1):=by rw[←L,List.getElem_cons_drop,Ok3]
   have K:=M
   rw[R]at K
   rw[List.eraseIdx_eq_take_drop_succ]
   exact Jbc.drop (T:=x.1) (rs:=x.2) K
  ·exact Kv5 _ _ _
  ·exact Kv5 _ _ _
  have:=List.length_eraseIdx_le (A.map (·.1)) i
  omega
theorem Ksb.can {D:DS}{ba:List TS}{P:List RP}{Rs:List RTb}(h:Ksb D ba P Rs)(page at_ H:Int):(Ks0 P page at_ H=none→Kue D page at_ H=false) ∧
  ∀ R,Ks0 P page at_ H=some R→∃ (Z k n:Nat) (p:List UInt8),page=(Z:Int)∧at_=(k:Int)∧H=(n:Int)∧D.pages[Z]?=some (some p)∧k<64∧1≤n∧n≤255∧Ksb ⟨D.quota,D.fail,D.writes,D.lowest,D.pages.set Z (some (Ksf p k n))⟩ ba R Rs:=by
 have bb:=h
 obtain⟨C,bj,hs,bl,bn,bk,bA⟩:=h.ex
 have bu:=hs.len.1
 have bc:∀ i:Nat,i<P.length→∀ y,P[i]?=some y→(D.pages.getD i none).isSome=y.1:=fun i hi y A=>by
  have K:=congrArg (fun l=>l[i]?) hs.pat
  simp only[Ob1,A,Option.map_some]at K
  rw[Oa0]
  cases hd:D.pages[i]? with
  |none=>rw[hd]at K;cases K
  |some z=>rw[hd]at K;simpa using K
 refine⟨fun M=>?_,fun R A=>?_⟩
 ·unfold Kue
  unfold Ks0 at M
  by_cases L:0≤page∧page<P.length∧0≤at_∧at_<64∧1≤H∧H≤255
  ·rw[if_pos L]at M
   have I:page.toNat<P.length:=by omega
   obtain⟨y,A⟩:∃ y,P[page.toNat]?=some y:=⟨_,Oa3 I⟩
   have br:y.1=false:=by
    rw[A]at M
    rcases y with⟨_|_,l⟩
    ·rfl
    cases M
   have:=bc _ I y A
   unfold Jai
   rw[this,br]
   simp
  by_cases Y:0≤page∧page<P.length
  ·have:¬ (0≤at_∧at_<64∧1≤H∧H≤255):=fun e=>L ⟨Y.1,Y.2,e⟩
   simp[this]
  unfold Jai
  have:¬ (0≤page∧page<D.pages.length):=by rw[bu];exact Y
  simp only[this,decide_false,Bool.false_and]
 unfold Ks0 at A
 split at A
 ·rename_i hk
  obtain⟨p,rfl⟩:∃ p:Nat,page=(p:Int):=⟨page.toNat,by omega⟩
  obtain⟨i,rfl⟩:∃ i:Nat,at_=(i:Int):=⟨at_.toNat,by omega⟩
  obtain⟨n,rfl⟩:∃ n:Nat,H=(n:Int):=⟨H.toNat,by omega⟩
  rw[Int.toNat_natCast,Int.toNat_natCast,Int.toNat_natCast]at A
  split at A
  ·rename_i l X
   cases A
   have I:p<P.length:=by omega
   have N:p<D.pages.length:=by omega
   obtain⟨bh,bi,J⟩:=hs.page p _ X
   have O:=bc p I _ X
   obtain⟨z,bf⟩:∃ z,D.pages[p]?=some (some z):=by
    rw[Oa0,Oa3 N]at O
    simp only[Option.getD_some]at O
    cases hd:D.pages[p]with
    |none=>rw[hd]at O;cases O
    |some z=>exact⟨z,by rw[Oa3 N,hd]⟩
   have bz:pg D p=some z:=by unfold pg;rw[Oa0,bf];rfl
   refine⟨p,i,n,z,rfl,rfl,rfl,bf,by omega,by omega,by omega,⟨⟨C,bj,⟨hs.q,hs.f,hs.k,?_,?_,fun j y A=>?_⟩,bl,bn,bk,bA⟩,bb.few,by rw[Of8];exact bb.small⟩⟩
   ·show (D.pages.set p (some (Ksf z i n))).map Option.isSome=_
    rw[Op0,Op0,hs.pat]
    rfl
   ·rw[Op0]
    have:(P.map (·.1)).set p true=P.map (·.1):=by
     apply Oi8
     intro j
     rw[Op2]
     by_cases e:p=j
     ·subst e
      rw[if_pos rfl,Oa6,if_pos I,Ob1,X]
      rfl
     rw[if_neg e]
    rw[hs.patC]
    exact this.symm
   rw[Op2]at A
   by_cases e:p=j
   ·subst e
    rw[if_pos rfl,if_pos I]at A
    cases A
    refine⟨by simpa using bh,fun m bx=>?_,?_⟩
    ·rcases List.mem_or_eq_of_mem_set bx with a|a
     ·exact bi m a
     have bE:l.getD i 0≤255:=by
      rw[Oa0]
      cases hl:l[i]? with
      |none=>simp
      |some v=>exact bi v (Of6 hl)
     have:=Oo8 (n:=8) (show l.getD i 0<2 ^ 8 by omega) (show n<2 ^ 8 by omega)
     omega
    have U:pg (⟨D.quota,D.fail,D.writes,D.lowest,D.pages.set p (some (Ksf z i n))⟩:DS) p=some (Ksf z i n):=by
     unfold pg
     rw[Jly _ _ _ _ N,if_pos rfl]
    rw[U]
    rw[bz]at J
    cases L:pg C p with
    |none=>rw[L]at J;cases J
    |some c=>
     rw[L]at J
     simp only[Option.map_some,Oc9]at J ⊢
     rw[J]
     exact Kve (by have:l.length=64:=bh;omega)
   rw[if_neg e]at A
   obtain⟨bB,bC,bD⟩:=hs.page j y A
   refine⟨bB,bC,?_⟩
   have U:pg (⟨D.quota,D.fail,D.writes,D.lowest,D.pages.set p (some (Ksf z i n))⟩:DS) j=pg D j:=by
    unfold pg
    rw[Jly _ _ _ _ N,if_neg (Oc5 e)]
   rw[U]
   exact bD
  cases A
 cases A
theorem Kvh {α:Type}(p q:α→Bool):∀ l:List α,(∀ x∈l,p x=q x)→l.find? p=l.find? q
 |[],_=>rfl
 |x::l,h=>by
  rw[List.find?_cons,List.find?_cons,h x (by simp),Kvh p q l fun y A=>h y (by simp[A])]
theorem Ksb.scan {D:DS}{L:List TS}{P:List RP}{Rs:List RTb}(h:Ksb D L P Rs)(bl:Ksm P=true)(n:ByteArray):Jf8 D L n=Kun P Rs n∧∀ T∈L,Jid D T:=by
 have bi:=Ky7 h n
 have bk:=h.pages
 obtain⟨C,K,hs,bh,rfl,rfl,bB⟩:=h.ex
 have bb:∀ x∈K,(Jgp D x.1=match x.1.segs.flatten.find? (Kto P)with|some p=>.inr p|none=>.inl x.2)∧Jid D x.1:=fun x I=>by
  have A:=bh.tab x I
  have Y:∀ i∈x.1.segs.flatten,Ksu D i=Kto P i∧(Ksu D i=false→pg D i=pg C i):=fun i hi=>by
   obtain⟨q,H,Z⟩:=A.sealed i hi
   obtain⟨bx,y,N,bn⟩:=(bk (Kzp x) (Of0.2 ⟨x,I,rfl⟩)).2.2.2 i hi
   obtain⟨bc,br,J⟩:=hs.page i y N
   rw[Z]at J
   simp only[Option.map_some]at J
   have bz:Kry y.2≤1:=by
    have:=List.all_eq_true.1 bl y (Of6 N)
    simpa [bn] using this
   have R:Kto P i=decide (0<Kry y.2):=by
    unfold Kto
    rw[Oa0,N]
    rfl
   by_cases h0:Kry y.2=0
   ·have ba:=Ktu y.2 h0
    rw[bc]at ba
    have e:pg D i=some (Jdm q):=by
     rw[J,ba,show List.replicate 64 0=Kr4 from rfl,Kt8 (Ku6 H)]
    refine⟨?_,fun _=>by rw[e,Z]⟩
    rw[R,h0]
    unfold Ksu
    rw[e]
    simp[Jxe H]
   obtain⟨j,m,M,bA,bj,X⟩:=Kva y.2 (by omega)
   rw[bc]at M X
   have e:pg D i=some (Ksf (Jdm q) j m):=by
    rw[J,X,show List.replicate 64 0=Kr4 from rfl,Kz7 (Ku6 H) M]
   have O:Ksu D i=true:=by
    unfold Ksu
    rw[e]
    simp[Kxf H j m M (by omega) (br m bj)]
   refine⟨?_,fun U=>by rw[O]at U;cases U⟩
   rw[O,R]
   simp
   omega
  obtain⟨bf,bu⟩:=Qbr (D:=D) A fun i hi=>(Y i hi).2
  have e:=Kvh (Ksu D) (Kto P) _ fun i hi=>(Y i hi).1
  rw[e]at bf
  exact⟨bf,bu⟩
 refine⟨?_,fun T A=>?_⟩
 ·unfold Jf8 Kun
  rw[bi,Ob1,Ob1]
  cases hL:K[Ub (K.map (·.1)) n]? with
  |none=>rfl
  |some x=>
   simp only[Option.map_some]
   rw[(bb x (Of6 hL)).1]
   rfl
 obtain⟨x,I,rfl⟩:=Of0.1 A
 exact(bb x I).2
end
section
open Go.RowKit Go.Shelf Tryz
attribute [local go_sem] Oc0
theorem Kuu (a H:Option Addr)(cap N:Nat)(ts:List ByteArray)(w:World)(_X:ts.length≤1000)(J:Uh w a (ts.map .string))(K:Uh w H (ts.map .string)) :
  Calls prog 17 #[.slice a ts.length cap,.slice H ts.length N] w fun e w'=>e=.returned (.bool true)∧Below w.heap.size w w':=by
 have U:((ts.length:Int) != (ts.length:Int))=false:=by simp
 go_enter func17,ntmps17
 go_wp2
 go_loopw [5] (fun i wr=>∃ k:Nat,k≤ts.length∧i=.int .i64 k∧Below w.heap.size w wr) (fun i _=>ts.length-(intOf i).toNat)
 case atStart=>exact⟨0,Ob7 _,rfl,Oa5 _ _⟩
 case round=>
  obtain⟨k,hk,rfl,A⟩:=hrel
  by_cases I:k<ts.length
  ·obtain⟨b1,o1,O,_,L⟩:=(J.below A).at (i:=k) (by simpa using I)
   obtain⟨b2,o2,R,_,M⟩:=(K.below A).at (i:=k) (by simpa using I)
   subst O
   subst R
   rw[Od9]at L M
   clear J K
   generalize ts[k]=t at L M
   have Y:∀ w,(binOp .neq 9 (.string t) (.string t)).run prog w=.ok (.bool false) w:=fun w=>by simp[go_sem]
   go_wp2
   go_quiet (fail)
   go_wp2
   go_roundw
   case rel=>exact⟨k+1,by omega,by go_num,Jp A _⟩
   case measure=>simp[intOf];omega
  go_wp2
  go_ret
  exact⟨rfl,A⟩
theorem Kvl (a H:Option Addr)(cap X:Nat)(hs L:List (Option Addr×Nat))(rs:List (List V))(w:World)(_bk:rs.length≤1000)(K:∀ r∈rs,r.length≤maxLen)(M:Zd w a hs rs)(N:Zd w H L rs) :
  Calls prog 49 #[.slice a rs.length cap,.slice H rs.length X] w fun e w'=>e=.returned (.bool true)∧Below w.heap.size w w':=by
 have U:Hid (∀ r∈rs,r.length≤maxLen):=K
 have J:Hid (Zd w a hs rs∧Zd w H L rs):=⟨M,N⟩
 clear K M N
 have bj:((rs.length:Int) != (rs.length:Int))=false:=by simp
 go_enter func49,ntmps49
 go_wp2
 go_loopw [5] (fun i wr=>∃ k:Nat,k≤rs.length∧i=.int .i64 k∧Below w.heap.size w wr) (fun i _=>rs.length-(intOf i).toNat)
 case atStart=>exact⟨0,Ob7 _,rfl,Oa5 _ _⟩
 case round=>
  obtain⟨k,hk,rfl,A⟩:=hrel
  by_cases I:k<rs.length
  ·obtain⟨b1,o1,ba,bc,rfl,bh,bl,O⟩:=(J.out.1.below A).at I
   obtain⟨b2,o2,bb,bf,rfl,bi,bn,R⟩:=(J.out.2.below A).at I
   have Z:=Ktv ba bb bc bf rs[k] rs[k] wr.drew (U.out _ (Ob3 I)) (O.of_block (Oa2 _) fun _ _ _ _=>rfl) (R.of_block (Oa2 _) fun _ _ _ _=>rfl) true ⟨fun _=>rfl,fun _=>rfl⟩
   clear O R
   go_wp2_with fail
   go_region_with (first|(go_at_call 79;refine Z.mono ?_;rintro e w' ⟨rfl,Y⟩))
   all_goals
    go_wp2
    go_roundw
    case rel=>exact⟨k+1,by omega,by go_num,Jb A (Jw Y)⟩
    case measure=>simp[intOf];omega
  go_wp2
  go_ret
  exact⟨rfl,A⟩
attribute [local go_sem] Oc0
def wdL:Nat→Nat→List UInt8
 |0,_=>[]
 |f+1,n=>if n=0 then []else UInt8.ofNat (48+n % 10)::wdL f (n / 10)
def Ky6 (n:Int):List UInt8:=35::wdL 19 n.toNat
def Kwv (n:Int):ByteArray:=Qw (Ky6 n)
theorem Qbe {w:World}{B:Nat}{sv:Value}{l:List UInt8}(h:Jo w B 5 sv (l.map bv))(I:l≠[]):(convert 137 9 sv).run prog w=.ok (.string (Qw l)) w:=by
 obtain⟨a,c,rfl,A⟩:=h.cells
 rw[Oa6]
 rcases A with A|⟨b,o,rfl,_,A⟩
 ·exact absurd (List.map_eq_nil_iff.1 A) I
 refine Jc6 w ⟨b,o,none⟩ c l fun j u H=>?_
 have:=A j u H
 cases j with
 |zero=>exact this
 |succ j=>simpa [Addr.add] using this
theorem Kvy (n:Int)(U:n≤9223372036854775807)(w:World) :
  Calls prog 31 #[.int .i64 n] w fun e w'=>e=.returned (.string (Kwv n))∧Below w.heap.size w w':=by
 have N:Hid (n≤9223372036854775807):=U
 clear U
 go_enter func31,ntmps31
 go_upto_region 2 with fail
 go_loopw [0,3] (fun L bh wr=>∃ (m:Int) (f:Nat) (l:List UInt8),L=.int .i64 m∧Hid (Jo wr w.heap.size 5 bh (l.map bv)∧l++wdL f m.toNat=Ky6 n∧m.toNat<10 ^ f∧m≤9223372036854775807∧Below w.heap.size w wr∧l.length+f≤20∧l≠[])) (fun L _ _=>(intOf L).toNat)
 case atStart=>
  refine⟨n,19,[35],rfl,(show _∧_ from ⟨?_,rfl,by have:=N.out;omega,N.out,Jc (Oa5 _ _) _,by simp,by simp⟩)⟩
  exact⟨rfl,.inr ⟨w.heap.size,1,#[.int .u8 35],rfl,Oa2 _,heap_alloc_new _ _,Oa2 _,by unfold maxLen;omega,rfl,rfl⟩⟩
 case round=>
  obtain⟨m,f,l,rfl,A⟩:=hrel
  obtain⟨bf,c3,R⟩:=Jcz A.out.1
  rw[Oa6]at R
  subst R
  by_cases bi:m>0
  ·obtain⟨H,rfl⟩:∃ H:Nat,m=(H:Int):=⟨m.toNat,by omega⟩
   obtain⟨J,rfl⟩:∃ J,f=J+1:=by
    cases f with
    |zero=>have:=A.out.2.2.1;simp at this;omega
    |succ f=>exact⟨f,rfl⟩
   have bk:H≤9223372036854775807:=by have:=A.out.2.2.2.1;omega
   have M:Hid (0<H):=(show 0<H by omega)
   have bc:Hid (Value.int .u8 (48+(H:Int) % 10)=bv (UInt8.ofNat (48+H % 10))):=by
    show _=_
    unfold bv
    rw[UInt8.toNat_ofNat']
    congr 1
    omega
   have O:Hid (l++[UInt8.ofNat (48+H % 10)]++wdL J (((H / 10:Nat):Int)).toNat=Ky6 n∧H / 10<10 ^ J):=by
    have I:=A.out.2.1
    have K:=A.out.2.2.1
    rw[Int.toNat_natCast]at I K ⊢
    refine⟨?_,?_⟩
    ·rw[←I]
     simp only[wdL]
     rw[if_neg (by have:=M.out;omega)]
     simp
    rw[Nat.pow_succ]at K
    omega
   have Z:Hid (∀ o,Jo (wr.alloc o) w.heap.size 5 (.slice bf l.length c3) (l.map bv)):=fun o=>by
    have:=Jo.alloc A.out.1 o
    exact this
   clear bi
   go_wp2_with (at_builtin;go_must (refine Ks (by rfl) _ _ 137 5 _ 1 Jfa (by rfl) (by decide) (by kernel_rfl) (by rfl) w.heap.size _ (l.map bv) (by rfl) (Z.out _) ⟨wr.heap.size,0,none⟩ 1 [.int .u8 (48+(H:Int) % 10)] (by rfl) (by exact Ua wr _ _) (by intro u X;simp at X;subst X;rfl) (by have:=A.out.2.2.2.2.2.1;simp only[List.length_cons,List.length_nil,Oa6];omega) (by have:=A.out.2.2.2.2.1.size;simp;omega) ?_);intro sv' br Y bj bn)
   rw[bc.out]at Y
   go_roundw
   case rel=>
    refine⟨((H / 10:Nat):Int),J,l++[UInt8.ofNat (48+H % 10)],by go_num,(show _∧_ from ⟨by simpa using Y,O.out.1,by rw[Int.toNat_natCast];exact O.out.2,by omega,Jy (Jc A.out.2.2.2.2.1 _) bj (fun k hk=>(Je A.out.1 hk).1),by have:=A.out.2.2.2.2.2.1;simp;omega,by simp⟩)⟩
   case measure=>have:=M.out;simp[intOf];omega
  have bb:Hid (l=Ky6 n):=by
   have I:=A.out.2.1
   have K:m.toNat=0:=by omega
   rw[K]at I
   have h0:wdL f 0=[]:=by cases f<;>rfl
   rw[h0,Od7]at I
   exact I
  have bl:=Qbe A.out.1 A.out.2.2.2.2.2.2
  have ba:Hid (Below w.heap.size w wr):=A.out.2.2.2.2.1
  clear A
  go_wp2
  go_ret
  refine⟨?_,ba.out⟩
  unfold Kwv
  rw[←bb.out]
  rfl
attribute [local go_sem] Oc0
theorem Kxr {w:World}(t ty e:TypeId)(i:TypeInfo)(z:Value)(size K:Nat)(N:prog.underlying t=some (.slice e))(hi:prog.info? e=some i)(U:i.zero=some z)
  (I:i.size=size) (R:i.bytes=K) (bD:z.cells.size=size) (bC:0<size)
  (v:Value) (n:Nat) (xs:List Value) (bc:w.ownsRow 0 e size v n xs)
  (a:Addr) (c:Nat) (H:List Value) (bz:H.length=size) (M:∀ j u,H[j]?=some u→w.cell? (a.add j)=some u) (X:∀ u∈H,u.oneCell'=true)
  (bl:n+1≤1000000000000) (br:K≤64) :
  ∃ J w',(Builtin.append_ #[t,t] ty #[v,.slice (some a) 1 c]).run prog w=.ok J w'∧w'.ownsRow 0 e size J (n+1) (xs++H)∧w.grownBy w' v.ownBlock∧(J.ownBlock=v.ownBlock∨(J.ownBlock=some w.heap.size∧Below w.heap.size w w')):=by
 have bn:(n+1)*K≤140737488355328:=Ob2 (Ol5 bl br) (by decide)
 have bG:(n+1)*K≤281474976710656:=by omega
 obtain⟨J,w',A,bh,bi,_,bE⟩:=run_append_own_at (P:=prog) w 0 t ty e i z size K N hi U I R bD bC v n xs bc a 1 c H (by omega) M X (by unfold maxLen;omega) bn (Ob7 _)
 refine⟨J,w',A,bh,bi,?_⟩
 have Z:∀ o:Obj,Below w.heap.size w (w.drew.alloc o):=fun o=>Below.alloc (Jp (Oa5 _ _) 1) (Oa2 _) _
 obtain⟨bb,bA⟩:=bc
 rcases bA with⟨rfl,rfl⟩|⟨g,cap,O,rfl,_,ba,bj,bk,Y,bu⟩
 ·have L:=run_append_nil (P:=prog) w t ty e i z N hi U a 1 c H (by rw[I];omega) M (by omega) (by omega) (by rw[R];omega)
  rw[L]at A
  simp only[Result.ok.injEq]at A
  obtain⟨rfl,rfl⟩:=A
  exact .inr ⟨rfl,Z _⟩
 by_cases bf:n+1≤cap
 ·have bx:n*i.size+H.length≤O.size:=by
   rw[I,Y,bz]
   have:=Om8 size bf
   rw[Of5]at this
   omega
  have L:=run_append_room (P:=prog) w t ty e i N hi g n cap O ba a 1 c H (by rw[I];omega) M X bf bx
  rw[L]at A
  simp only[Result.ok.injEq]at A
  obtain⟨rfl,rfl⟩:=A
  exact .inl rfl
 have bB:∀ j u,xs[j]?=some u→w.cell? ((⟨g,0,none⟩:Addr).add j)=some u:=World.ownsRow.cells (w:=w) (base:=0) (e:=e) (size:=size) (v:=.slice (some ⟨g,0,none⟩) n cap) (n:=n) ⟨bb,.inr ⟨g,cap,O,rfl,Ob7 _,ba,bj,bk,Y,bu⟩⟩ rfl
 have L:=run_append_grow (P:=prog) w t ty e i z N hi U ⟨g,0,none⟩ n cap xs (by rw[I];exact bb) bB a 1 c H (by rw[I];omega) M (by omega) (by omega) (growslice_fits (by omega) (by rw[R];omega))
 rw[L]at A
 simp only[Result.ok.injEq]at A
 obtain⟨rfl,rfl⟩:=A
 exact .inr ⟨rfl,Z _⟩
theorem Ksy {w:World}{K:Array Oper}{rest:List Oper}{o:Oper}{a:Act}{Q:Exit→Act→World→Prop}(U:o.guard=none)(s x:Operand)(t e:TypeId)(z:Value)(size J:Nat)
  (X:(prog.info? e).map (fun i=>(i.zero,i.size,i.bytes))=some (some z,size,J)) (bl:z.cells.size=size) (bh:0<size) (R:J≤64) (bi:prog.underlying t=some (.slice e))
  (ba:o.op=.call {callee:=.builtin .append,args:=#[s,x],argTypes:=#[t,t]})
  (v:Value) (n:Nat) (xs:List Value) (hs:a.eval s=v) (bb:w.ownsRow 0 e size v n xs)
  (I:Addr) (c:Nat) (H:List Value) (bj:a.eval x=.slice (some I) 1 c) (Y:H.length=size) (Z:∀ j u,H[j]?=some u→w.cell? (I.add j)=some u) (L:∀ u∈H,u.oneCell'=true) (M:n+1≤1000000000000)
  (h:∀ A w',w'.ownsRow 0 e size A (n+1) (xs++H)→w.grownBy w' v.ownBlock→(A.ownBlock=v.ownBlock∨(A.ownBlock=some w.heap.size∧Below w.heap.size w w'))→wpList prog K Q rest (a.put o.dst A) w') :
  wpList prog K Q (o::rest) a w:=by
 obtain⟨i,hi,bk,bf,O⟩:=info_parts X
 obtain⟨A,w',bc,k1,bn,br⟩:=Kxr (w:=w) t o.type e i z size J bi hi bk bf O bl bh v n xs bb I c H Y Z L M R
 refine wpList_plain U fun bu N=>?_
 unfold Oper.wp execOp
 simp only[ba,resolve,invoke,builtin,Og8,Sem.run_pure,Result.andThen_ok,List.map_toArray,Oe4,Oi4,hs,bj,bc]
 exact N _ _ (h A w' k1 bn br)
theorem Ksi {w:World}{M:Array Oper}{A:Oper}{a:Act}{L:Act→World→Prop}{Q:Exit→Act→World→Prop}{E:Prop}(X:A.guard=none)(s x:Operand)(t e:TypeId)(z:Value)(size K:Nat)
  (Y:(prog.info? e).map (fun i=>(i.zero,i.size,i.bytes))=some (some z,size,K)) (br:z.cells.size=size) (bi:0<size) (U:K≤64) (bj:prog.underlying t=some (.slice e))
  (bb:A.op=.call {callee:=.builtin .append,args:=#[s,x],argTypes:=#[t,t]})
  (v:Value) (n:Nat) (xs:List Value) (hs:a.eval s=v) (bc:w.ownsRow 0 e size v n xs)
  (J:Addr) (c:Nat) (I:List Value) (bl:a.eval x=.slice (some J) 1 c) (Z:I.length=size) (ba:∀ j u,I[j]?=some u→w.cell? (J.add j)=some u) (N:∀ u∈I,u.oneCell'=true) (O:n+1≤1000000000000)
  (h:∀ H w',w'.ownsRow 0 e size H (n+1) (xs++I)→w.grownBy w' v.ownBlock→(H.ownBlock=v.ownBlock∨(H.ownBlock=some w.heap.size∧Below w.heap.size w w'))→L (a.put A.dst H) w') :
  if Region.wanted A (yielded M a.tmps)=true then Oper.wp prog A a w L Q else E:=by
 obtain⟨i,hi,bn,bh,R⟩:=info_parts Y
 obtain⟨H,w',bf,k1,bu,bx⟩:=Kxr (w:=w) t A.type e i z size K bj hi bn bh R br bi v n xs bc J c I Z ba N O U
 have bk:Region.wanted A (yielded M a.tmps)=true:=by
  unfold Region.wanted
  rw[X]
 rw[if_pos bk]
 unfold Oper.wp execOp
 simp only[bb,resolve,invoke,builtin,Og8,Sem.run_pure,Result.andThen_ok,List.map_toArray,Oe4,Oi4,hs,bl,bf]
 exact h H w' k1 bu bx
structure LEn where
 a:Option Addr
 len:Nat
 cap:Nat
 n:Int
def LEn.cells (e:LEn):List Value:=[.slice e.a e.len e.cap,.int .i64 e.n]
def RdC (xc:List Value)(w:World)(e:LEn):Prop:=∀ i,i<e.len→∃ b,e.a=some ⟨b,0,none⟩∧b<w.heap.size∧∀ j v,xc[j]?=some v→w.cell? ⟨b,i*xc.length+j,none⟩=some v
theorem RdC.of_block {xc:List Value}{w w':World}{e:LEn}(h:RdC xc w e)(_hs:w.heap.size≤w'.heap.size)(hk:∀ b,e.a=some ⟨b,0,none⟩→w'.heap[b]?=w.heap[b]?):RdC xc w' e:=fun i hi=>by
 obtain⟨b,A,J,H⟩:=h i hi
 exact⟨b,A,by omega,fun j v I=>(Oc3 (a:=⟨b,i*xc.length+j,none⟩) (hk b A)).trans (H j v I)⟩
def Ks5 (xc:List Value)(m:Nat):List Value:=(List.replicate m xc).flatMap id
theorem Ktw (xc:List Value)(m:Nat):(Ks5 xc m).length=m*xc.length:=by
 unfold Ks5
 rw[Kci id xc.length _ fun x A=>by rw[(List.mem_replicate.1 A).2];rfl,Od6]
theorem Kv1 (xc:List Value)(m:Nat):Ks5 xc (m+1)=Ks5 xc m++xc:=by
 unfold Ks5
 rw[List.replicate_succ',Oe8]
 simp
theorem Kwj (xc:List Value)(m i j:Nat)(hi:i<m)(A:j<xc.length):(Ks5 xc m)[i*xc.length+j]?=xc[j]?:=by
 unfold Ks5
 rw[Ks7 id xc.length _ (fun x H=>by rw[(List.mem_replicate.1 H).2];rfl) i j A,Of3,if_pos hi]
 rfl
theorem Kv3 {w:World}{B:Nat}{e:TypeId}{xc:List Value}{v:Value}{m len cap:Nat}{n:Int}(h:w.ownsRow B e xc.length v m (Ks5 xc m)){g:Nat}(A:v.ownBlock=some g)(_bb:len≤m):RdC xc w ⟨some ⟨g,0,none⟩,len,cap,n⟩:=fun i hi=>by
 obtain⟨bc,O⟩:=h
 rcases O with⟨rfl,rfl⟩|⟨K,R,U,rfl,_,H,X,Y,Z,L⟩
 ·cases A
 simp[Value.ownBlock]at A
 subst A
 refine⟨K,rfl,Jd H,fun j u I=>?_⟩
 have M:j<xc.length:=(Ob9.1 I).1
 have ba:i<len:=hi
 have J:=Kwj xc m i j (by omega) M
 have N:i*xc.length+j<m*xc.length:=by
  have:=Om8 xc.length (show i+1≤m by omega)
  rw[Of5]at this
  omega
 rw[←L,Oh3 N,Oe6,I]at J
 simp[World.cell?,H,J]
attribute [local go_sem] Oc0
def tyR (r:Nat):TypeId:=if r=4 then 91 else if r=5 then 93 else 96
def Krw (r:Nat):Prop:=r=4∨r=5∨r=6
abbrev Ksl:Type:=Nat→Value×List LEn
def upd (A:Ksl)(r:Nat)(x:Value×List LEn):Ksl:=fun s=>if s=r then x else A s
theorem Kp (A:Ksl)(r:Nat)(x:Value×List LEn):upd A r x r=x:=if_pos rfl
theorem Kr8 (A:Ksl){r s:Nat}(x:Value×List LEn)(h:s≠r):upd A r x s=A s:=if_neg h
structure Ksr (w:World) (wb pa pb:Nat) (cnt:Int) (R:Ksl):Prop where
 cells:w.heap[wb]?=some (.cells #[.pointer (some ⟨pa,0,none⟩),.pointer (some ⟨pb,0,none⟩),.int .i64 cnt,.slice none 0 0,(R 4).1,(R 5).1,(R 6).1] 51 (0,0))
 own:∀ r,Krw r→w.ownsRow 0 (tyR r) 2 (R r).1 (R r).2.length ((R r).2.flatMap LEn.cells)
 n0:∀ r,Krw r→(R r).1.ownBlock≠some wb
 n1:∀ r s,Krw r→Krw s→r≠s→∀ g,(R r).1.ownBlock=some g→(R s).1.ownBlock≠some g
def Kud (wb:Nat)(A:Ksl)(i:Nat):Prop:=i=wb∨∃ r,Krw r∧(A r).1.ownBlock=some i
section
variable {w w':World} {wb pa pb:Nat} {cnt:Int} {R:Ksl}
theorem Ksr.lt (h:Ksr w wb pa pb cnt R):∀ i,Kud wb R i→i<w.heap.size:=by
 rintro i (e|⟨r,A,e⟩)
 ·rw[e];exact Jd h.cells
 exact(Je (h.own r A) e).2
theorem Ksr.stands (h:Ksr w wb pa pb cnt R)(hk:∀ i,Kud wb R i→w'.heap[i]?=w.heap[i]?):Ksr w' wb pa pb cnt R:=
 ⟨(hk wb (.inl rfl)).trans h.cells,fun r A=>Jl (h.own r A) fun g H=>hk g (.inr ⟨r,A,H⟩),h.n0,h.n1⟩
theorem Ksr.below (h:Ksr w wb pa pb cnt R)(A:Below w.heap.size w w'):Ksr w' wb pa pb cnt R:=h.stands fun i hi=>A.block i (h.lt i hi)
theorem Ksr.count (h:Ksr w wb pa pb cnt R)(c:Int):Ksr (w.setCell ⟨wb,2,none⟩ (.int .i64 c)) wb pa pb c R:=by
 have hk:∀ i,i≠wb→(w.setCell ⟨wb,2,none⟩ (.int .i64 c)).heap[i]?=w.heap[i]?:=fun i hi=>Oa4 _ _ _ _ hi
 refine⟨?_,fun r A=>Jl (h.own r A) fun g H=>hk g fun e=>h.n0 r A (e▸H),h.n0,h.n1⟩
 rw[heap_setCell_same w wb 2 _ _ _ h.cells]
 rfl
theorem Ku0 (A:Ksl)(r:Nat):upd A r (A r)=A:=by
 funext s
 unfold upd
 split
 ·rename_i h;rw[h]
 rfl
theorem Qbz (A:Ksl)(r:Nat)(x y:Value×List LEn):upd (upd A r x) r y=upd A r y:=by
 funext s
 unfold upd
 split<;>rfl
theorem Ksr.push {r:Nat}(M:Krw r){e:LEn}{o:Obj}{x':Value}{w4:World}(h:Ksr w wb pa pb cnt R)(bb:w4.ownsRow 0 (tyR r) 2 x' ((R r).2.length+1) ((R r).2.flatMap LEn.cells++e.cells))(J:(w.alloc o).grownBy w4 (R r).1.ownBlock)(bi:x'.ownBlock=(R r).1.ownBlock∨x'.ownBlock=some (w.alloc o).heap.size) :
  Ksr (w4.setCell ⟨wb,r,none⟩ x') wb pa pb cnt (upd R r (x',(R r).2++[e]))∧Ju (fun i=>i=wb∨(R r).1.ownBlock=some i) w (w4.setCell ⟨wb,r,none⟩ x')∧∀ g,x'.ownBlock=some g→(R r).1.ownBlock=some g∨w.heap.size≤g:=by
 have bj:(w.alloc o).heap.size=w.heap.size+1:=Oa7 w o
 have O:∀ g,x'.ownBlock=some g→(R r).1.ownBlock=some g∨g=w.heap.size+1:=fun g A=>by
  rcases bi with q|q
  ·exact .inl (q▸A)
  rw[q]at A
  cases A
  exact .inr (by omega)
 have bh:wb<w.heap.size:=Jd h.cells
 have ba:∀ g,x'.ownBlock=some g→g<w4.heap.size∧g≠wb:=fun g A=>⟨(Je bb A).2,fun e=>(O g A).elim (fun q=>h.n0 r M (e▸q)) fun q=>by omega⟩
 have bk:=J.size
 have Z:∀ i,i≠wb→(w4.setCell ⟨wb,r,none⟩ x').heap[i]?=w4.heap[i]?:=fun i hi=>Oa4 _ _ _ _ hi
 have X:∀ i,i<w.heap.size→(R r).1.ownBlock≠some i→w4.heap[i]?=w.heap[i]?:=fun i hi K=>(J.block i (by omega) fun e=>K e.symm).trans (Oa9 _ _ _ hi)
 have Y:∀ i,i<w.heap.size→i≠wb→(R r).1.ownBlock≠some i→(w4.setCell ⟨wb,r,none⟩ x').heap[i]?=w.heap[i]?:=fun i hi bc bf=>(Z i bc).trans (X i hi bf)
 refine⟨⟨?_,fun s hs=>?_,fun s hs=>?_,fun s I hs N L g A e=>?_⟩,⟨J.os,J.tape,J.output,?_,fun i hi K=>Y i hi (fun e=>K (.inl e)) fun e=>K (.inr e)⟩,fun g A=>(O g A).imp id fun q=>by omega⟩
 ·rw[heap_setCell_same w4 wb r _ _ _ ((X wb bh (h.n0 r M)).trans h.cells)]
  rcases M with rfl|rfl|rfl<;>rfl
 ·by_cases e:s=r
  ·subst e
   rw[Kp,Oa8,Oe8]
   refine Jl (w:=w4) ?_ fun g A=>Z g fun e=>(ba g A).2 e
   simpa using bb
  rw[Kr8 R _ e]
  exact Jl (h.own s hs) fun g A=>Y g (Je (h.own s hs) A).2 (fun H=>h.n0 s hs (H▸A)) fun H=>h.n1 s r hs M e g A H
 ·by_cases e:s=r
  ·subst e
   rw[Kp]
   exact fun e=>(ba _ e).2 rfl
  rw[Kr8 R _ e]
  exact h.n0 s hs
 ·by_cases U:s=r
  ·subst U
   rw[Kp]at A
   rw[Kr8 R _ (Oc5 L)]at e
   rcases O g A with q|q
   ·exact h.n1 s I hs N L g q e
   have:=(Je (h.own I N) e).2;omega
  rw[Kr8 R _ U]at A
  by_cases H:I=r
  ·subst H
   rw[Kp]at e
   rcases O g e with q|q
   ·exact h.n1 s I hs N L g A q
   have:=(Je (h.own s hs) A).2;omega
  rw[Kr8 R _ H]at e
  exact h.n1 s I hs N L g A e
 have:(w4.setCell ⟨wb,r,none⟩ x').heap.size=w4.heap.size:=by simp[World.setCell]
 omega
end
theorem Ky1 {w:World}{g n:Nat}{e:TypeId}{xc:List Value}{f:Nat→Value}(h:w.rowIs g e (n*xc.length) f)(I:∀ i,i<n*xc.length→(Ks5 xc n)[i]?=some (f i))(J:n≤maxLen):w.ownsRow 0 e xc.length (.slice (some ⟨g,0,none⟩) n n) n (Ks5 xc n):=by
 obtain⟨c,H,hs,hi⟩:=h
 refine⟨Ktw xc n,.inr ⟨g,n,c,rfl,Ob7 _,H,Oa2 _,J,hs,?_⟩⟩
 apply Oi8
 intro j
 by_cases A:j<n*xc.length
 ·rw[Oh3 A,Oe6,hi j A,I j A]
 rw[List.getElem?_take_eq_none (by omega),Ob4 (by rw[Ktw];omega)]
structure TkE (xc:List Value) (w:World) (D:Nat→Prop) (sv:Value) (m:Nat) (n:Int) (es:List LEn):Prop where
 rd:∀ e∈es,RdC xc w e
 num:∀ e∈es,e.n=n
 at_:∀ e∈es,∀ b,e.a=some ⟨b,0,none⟩→D b
 pre:∀ e∈es,e.len≤m
theorem TkE.frame {xc:List Value}{w w':World}{D I:Nat→Prop}{sv:Value}{m:Nat}{n:Int}{J:List LEn}(h:TkE xc w D sv m n J)(hs:w.heap.size≤w'.heap.size)(hk:∀ b,D b→w'.heap[b]?=w.heap[b]?)(K:∀ b,D b→I b):TkE xc w' I sv m n J:=
 ⟨fun e A=>(h.rd e A).of_block hs fun b H=>hk b (h.at_ e A b H),h.num,fun e A b H=>K b (h.at_ e A b H),h.pre⟩
theorem TkE.snoc {xc:List Value}{w:World}{D:Nat→Prop}{sv:Value}{m:Nat}{n:Int}{J:List LEn}{ty:TypeId}{a:Option Addr}{c:Nat}(h:TkE xc w D sv m n J)(L:w.ownsRow 0 ty xc.length sv m (Ks5 xc m))(M:sv=.slice a m c)(N:∀ g,sv.ownBlock=some g→D g):TkE xc w D sv m n (J++[⟨a,m,c,n⟩]):=by
 refine⟨fun e H=>?_,fun e H=>?_,fun e H b K=>?_,fun e H=>?_⟩
 ·rcases Od2.1 H with A|A
  ·exact h.rd e A
  rw[Oc6]at A
  subst A
  subst M
  rcases L.2 with⟨I,R⟩|⟨g,cap,O,I,_⟩
  ·intro i hi
   have:i<m:=hi
   omega
  injection I with I _ _
  subst I
  exact Kv3 L rfl (Oa2 _)
 ·rcases Od2.1 H with A|A
  ·exact h.num e A
  rw[Oc6]at A
  rw[A]
 ·rcases Od2.1 H with A|A
  ·exact h.at_ e A b K
  rw[Oc6]at A
  subst A
  exact N b (by rw[M,show a=_ from K];rfl)
 rcases Od2.1 H with A|A
 ·exact h.pre e A
 rw[Oc6]at A
 rw[A]
 exact Oa2 _
theorem TkE.grow {xc:List Value}{w w':World}{D J:Nat→Prop}{sv sv':Value}{m:Nat}{n:Int}{K:List LEn}{ty:TypeId}(h:TkE xc w D sv m n K)(bh:w'.ownsRow 0 ty xc.length sv' (m+1) (Ks5 xc (m+1)))(N:w.grownBy w' sv.ownBlock)(bi:sv'.ownBlock=sv.ownBlock∨(sv'.ownBlock=some w.heap.size∧Below w.heap.size w w'))(ba:∀ b,D b→b<w.heap.size)(Z:∀ b,D b→J b):TkE xc w' J sv' (m+1) n K:=by
 refine⟨fun e A=>?_,h.num,fun e A b I=>Z b (h.at_ e A b I),fun e A=>?_⟩
 ·rcases bi with q|⟨q,I⟩
  ·intro i hi
   obtain⟨b,L,X,Y⟩:=h.rd e A i hi
   by_cases M:sv.ownBlock=some b
   ·have bf:=Kv3 (cap:=e.cap) (n:=e.n) bh (q.trans M) (show e.len≤m+1 by have:=h.pre e A;omega) i hi
    obtain⟨bj,H,O,R⟩:=bf
    injection H with H
    injection H with H
    subst H
    exact⟨b,L,O,R⟩
   exact⟨b,L,by have:=N.size;omega,fun j v bc=>(Oc3 (a:=⟨b,i*xc.length+j,none⟩) (N.block b X fun U=>M U.symm)).trans (Y j v bc)⟩
  exact(h.rd e A).of_block I.size fun b bb=>I.block b (ba b (h.at_ e A b bb))
 have:=h.pre e A
 omega
theorem Ktj (r:Nat):(prog.info? (tyR r)).map (fun i=>(i.zero,i.size,i.bytes))=some (some (.agg #[.slice none 0 0,.int .i64 0]),2,32):=by
 have A:(prog.info? 91).map (fun i=>(i.zero,i.size,i.bytes))=some (some (.agg #[.slice none 0 0,.int .i64 0]),2,32):=by kernel_rfl
 have H:(prog.info? 93).map (fun i=>(i.zero,i.size,i.bytes))=some (some (.agg #[.slice none 0 0,.int .i64 0]),2,32):=by kernel_rfl
 have I:(prog.info? 96).map (fun i=>(i.zero,i.size,i.bytes))=some (some (.agg #[.slice none 0 0,.int .i64 0]),2,32):=by kernel_rfl
 unfold tyR
 split
 ·exact A
 split
 ·exact H
 exact I
structure TkS (xc:List Value) (ety:TypeId) (w:World) (DD:Nat→Prop) (wb pa pb:Nat) (cnt:Int) (R:Ksl) (r:Nat) (x':Value) (es:List LEn) (D:Nat→Prop) (sv:Value) (m:Nat) (W:World):Prop where
 law:Ksr W wb pa pb cnt (upd R r (x',(R r).2++es))
 tk:TkE xc W D sv m cnt es
 own:W.ownsRow 0 ety xc.length sv m (Ks5 xc m)
 dd:∀ b,D b→(DD b∨w.heap.size≤b)∧b<W.heap.size∧¬ Kud wb (upd R r (x',(R r).2++es)) b
 svD:∀ b,sv.ownBlock=some b→D b
 keep:Ju (fun i=>i=wb∨(R r).1.ownBlock=some i∨DD i) w W
 new:∀ b,x'.ownBlock=some b→(R r).1.ownBlock=some b∨w.heap.size≤b
section
variable {xc:List Value} {ety:TypeId} {w:World} {DD:Nat→Prop} {wb pa pb:Nat} {cnt:Int} {R:Ksl} {r:Nat} {x':Value} {es:List LEn} {D:Nat→Prop} {sv:Value} {m:Nat} {W:World}
theorem TkS.push (X:Krw r){o:Obj}{y:Value}{w4:World}{a:Option Addr}{c:Nat}(h:TkS xc ety w DD wb pa pb cnt R r x' es D sv m W)(bb:sv=.slice a m c)(bh:w4.ownsRow 0 (tyR r) 2 y (((R r).2++es).length+1) (((R r).2++es).flatMap LEn.cells++LEn.cells ⟨a,m,c,cnt⟩))(bi:(W.alloc o).grownBy w4 x'.ownBlock)(bj:y.ownBlock=x'.ownBlock∨y.ownBlock=some (W.alloc o).heap.size) :
  TkS xc ety w DD wb pa pb cnt R r y (es++[⟨a,m,c,cnt⟩]) D sv m (w4.setCell ⟨wb,r,none⟩ y):=by
 have A:upd R r (x',(R r).2++es) r=(x',(R r).2++es):=Kp _ _ _
 have U:=h.law.push X (e:=⟨a,m,c,cnt⟩) (o:=o) (x':=y) (w4:=w4) (by rw[A];exact bh) (by rw[A];exact bi) (by rw[A];exact bj)
 rw[A,Qbz,Od8]at U
 obtain⟨bf,J,L⟩:=U
 simp only at J L
 have bk:=h.keep.size
 have bc:=J.size
 have N:∀ b,D b→(w4.setCell ⟨wb,r,none⟩ y).heap[b]?=W.heap[b]?:=fun b H=>by
  obtain⟨Y,Z,M⟩:=h.dd b H
  refine J.block b Z fun e=>M ?_
  rcases e with e|e
  ·exact .inl e
  exact .inr ⟨r,X,by rw[A];exact e⟩
 have O:=Jl h.own fun g ba=>N g (h.svD g ba)
 refine⟨bf,(h.tk.frame bc N fun _ q=>q).snoc O bb h.svD,O,fun b H=>?_,h.svD,?_,fun b H=>?_⟩
 ·obtain⟨Y,Z,M⟩:=h.dd b H
  refine⟨Y,by omega,fun e=>M ?_⟩
  rcases e with e|⟨s,hs,e⟩
  ·exact .inl e
  by_cases K:s=r
  ·subst K
   rw[Kp]at e
   rcases L b e with q|q
   ·exact .inr ⟨s,hs,by rw[A];exact q⟩
   omega
  rw[Kr8 R _ K]at e
  exact .inr ⟨s,hs,by rw[Kr8 R _ K];exact e⟩
 ·refine h.keep.trans' J fun i hi I=>?_
  rcases I with I|I
  ·exact .inl I
  rcases h.new i I with q|q
  ·exact .inr (.inl q)
  omega
 rcases L b H with q|q
 ·exact h.new b q
 exact .inr (by omega)
theorem TkS.grow {o:Obj}{sv':Value}{w4:World}(h:TkS xc ety w DD wb pa pb cnt R r x' es D sv m W)(I:w4.ownsRow 0 ety xc.length sv' (m+1) (Ks5 xc m++xc))(H:(W.alloc o).grownBy w4 sv.ownBlock)(M:sv'.ownBlock=sv.ownBlock∨(sv'.ownBlock=some (W.alloc o).heap.size∧Below (W.alloc o).heap.size (W.alloc o) w4)) :
  TkS xc ety w DD wb pa pb cnt R r x' es (fun b=>D b∨sv'.ownBlock=some b) sv' (m+1) w4:=by
 have bb:(W.alloc o).heap.size=W.heap.size+1:=Oa7 W o
 have bc:=h.keep.size
 have bf:=H.size
 rw[←Kv1]at I
 have L:∀ i,i<W.heap.size→sv.ownBlock≠some i→w4.heap[i]?=W.heap[i]?:=fun i hi U=>(H.block i (by omega) fun e=>U e.symm).trans (Oa9 _ _ _ hi)
 have Z:∀ b,sv'.ownBlock=some b→sv.ownBlock=some b∨b=W.heap.size+1:=fun b A=>by
  rcases M with q|⟨q,_⟩
  ·exact .inl (q▸A)
  rw[q]at A
  cases A
  exact .inr (by omega)
 have N:TkE xc (W.alloc o) D sv m cnt es:=h.tk.frame (by omega) (fun b A=>Oa9 _ _ _ (h.dd b A).2.1) fun _ q=>q
 have X:∀ i,Kud wb (upd R r (x',(R r).2++es)) i→sv.ownBlock≠some i:=fun i hi e=>(h.dd i (h.svD i e)).2.2 hi
 refine⟨h.law.stands fun i hi=>L i (h.law.lt i hi) (X i hi),N.grow I H M (fun b A=>by have:=(h.dd b A).2.1;omega) fun b A=>.inl A,I,fun b A=>?_,fun b A=>.inr A,?_,h.new⟩
 ·rcases A with A|A
  ·obtain⟨J,ba,K⟩:=h.dd b A
   exact⟨J,by omega,K⟩
  rcases Z b A with q|q
  ·obtain⟨J,ba,K⟩:=h.dd b (h.svD b q)
   exact⟨J,by omega,K⟩
  have O:=(Je I A).2
  refine⟨.inr (by omega),O,fun e=>?_⟩
  have:=h.law.lt b e
  omega
 refine h.keep.trans' (G:=fun i=>sv.ownBlock=some i) ⟨H.os,H.tape,H.output,by omega,L⟩ fun i hi Y=>?_
 rcases(h.dd i (h.svD i Y)).1 with q|q
 ·exact .inr (.inr q)
 omega
end
attribute [local go_sem] Oc0
theorem Kvb (w:World)(wb pa Y:Nat)(I:Int)(J:Ksl)(h:Ksr w wb pa Y I J)(g n:Nat)(f:Nat→Value)(ck:w.rowIs g 9 n f)(_cJ:n≤1000)(ci:¬ Kud wb J g)(_cF:0≤I)(_cG:I≤1000000000000000)(cf:(J 4).2.length≤100000000000) :
  Calls prog 18 #[.pointer (some ⟨wb,0,none⟩),.slice (some ⟨g,0,none⟩) n n] w fun e w'=>e=.returned (.tuple #[])∧∃ x' N D sv,N.length=4∧TkS [.string (Kwv (I+1))] 9 w (·=g) wb pa Y (I+1) J 4 x' N D sv (n+3) w':=by
 have c2:w.cell? ⟨wb,2,none⟩=some (.int .i64 I):=by simp[World.cell?,h.cells]
 have cE:w.frozen? ⟨wb,2,none⟩=false:=by simp[World.frozen?,h.cells]
 have bi:Hid (Ksr w wb pa Y I J∧w.rowIs g 9 n f∧¬ Kud wb J g∧(J 4).2.length≤100000000000):=⟨h,ck,ci,cf⟩
 obtain⟨x,bU⟩:∃ x,x=Kwv (I+1):=⟨_,rfl⟩
 rw[←bU]
 clear h ck ci cf
 go_enter func18,ntmps18
 go_upto_region 1 with fail
 obtain⟨W,hW⟩:∃ W,W=w.setCell ⟨wb,2,none⟩ (.int .i64 (I+1)):=⟨_,rfl⟩
 rw[←hW]
 have bA:Hid (Ksr W wb pa Y (I+1) J∧W.rowIs g 9 n f∧Ju (fun i=>i=wb) w W):=by
  rw[hW]
  have cC:g≠wb:=fun e=>bi.out.2.2.1 (.inl e)
  exact⟨bi.out.1.count _,bi.out.2.1.of_block (Oa4 _ _ _ _ cC),(Ju.refl (fun i=>i=wb) w).set (b:=wb) rfl 2 _⟩
 clear hW c2 cE
 have c2:W.cell? ⟨wb,2,none⟩=some (.int .i64 (I+1)):=by simp[World.cell?,bA.out.1.cells]
 have bT:=Kvy (I+1) (by omega) W
 rw[←bU]at bT
 clear bU
 go_upto_region 3 with(go_at_call 31;refine bT.mono ?_;rintro e bE ⟨rfl,bM⟩)
 clear bT c2
 have bB:Hid (Ksr bE wb pa Y (I+1) J∧bE.rowIs g 9 n f∧Ju (fun i=>i=wb) w bE):=⟨bA.out.1.below bM,bA.out.2.1.of_block (bM.block g bA.out.2.1.lt),bA.out.2.2.trans (Ju.of_below bM)⟩
 clear bM bA
 go_loopw [5] (fun i wr=>∃ j:Nat,j≤n∧i=.int .i64 (j:Int)∧Hid (wr.rowIs g 9 n (fun i=>if i<j then .string x else f i)∧Ju (fun i=>i=g) bE wr)) (fun i _=>n-(intOf i).toNat)
 case atStart=>exact⟨0,Ob7 _,rfl,(show _∧_ from ⟨bB.out.2.1.congr fun i _=>by simp,Ju.refl _ _⟩)⟩
 case round=>
  obtain⟨j,cI,rfl,H⟩:=hrel
  by_cases bO:j<n
  ·have cN:=H.out.1.cell bO
   have cO:=H.out.1.frozen j
   have cy:Hid ((wr.setCell ⟨g,j,none⟩ (.string x)).rowIs g 9 n (fun i=>if i<j+1 then .string x else f i)∧Ju (fun i=>i=g) bE (wr.setCell ⟨g,j,none⟩ (.string x))):=by
    refine⟨(H.out.1.set j (.string x)).congr fun i _=>?_,H.out.2.set (b:=g) rfl _ _⟩
    by_cases e:i=j
    ·subst e;simp
    by_cases bL:i<j
    ·simp[e,bL,show i<j+1 by omega]
    simp[e,bL,show ¬ i<j+1 by omega]
   have bQ:Hid (j<n):=bO
   have cM:(0:Int)≤(j:Int):=by omega
   have cv:(j:Int)<(n:Int):=by omega
   go_wp2
   go_roundw
   case rel=>exact⟨j+1,bQ.out,by have:=bQ.out;go_num,cy.out⟩
   case measure=>have:=bQ.out;simp[intOf];omega
  obtain rfl:j=n:=by omega
  have cD:¬ ((j:Int)<(j:Int)):=by omega
  have bP:Hid (TkS [.string x] 9 w (·=g) wb pa Y (I+1) J 4 (J 4).1 [] (·=g) (.slice (some ⟨g,0,none⟩) j j) j wr):=by
   have cn:=bi.out.2.2.1
   have cH:g<w.heap.size:=bi.out.2.1.lt
   have cK:=H.out.2.size
   have cL:=bB.out.2.2.size
   have R:upd J 4 ((J 4).1,(J 4).2++[])=J:=by rw[Od7];exact Ku0 J 4
   refine⟨?_,⟨by simp,by simp,by simp,by simp⟩,Ky1 (xc:=[.string x]) (f:=fun i=>if i<j then .string x else f i) (by simpa using H.out.1) (fun i hi=>?_) (by unfold maxLen;omega),fun b bC=>?_,fun b bC=>?_,?_,fun b bC=>.inl bC⟩
   ·rw[R]
    exact bB.out.1.stands fun i hi=>H.out.2.block i (bB.out.1.lt i hi) fun e=>cn (e▸hi)
   ·have cj:i<j:=by simpa using hi
    have:=Kwj [.string x] j i 0 cj (by simp)
    simp only[List.length_singleton,Nat.mul_one,Nat.add_zero]at this
    rw[this]
    simp[cj]
   ·rw[R,bC]
    exact⟨.inl rfl,by omega,cn⟩
   ·simp[Value.ownBlock]at bC
    exact bC.symm
   exact(bB.out.2.2.mono fun i _ e=>.inl e).trans (H.out.2.mono fun i _ e=>.inr (.inr e))
  clear H
  obtain⟨x',cu⟩:∃ x',x'=(J 4).1:=⟨_,rfl⟩
  rw[←cu]at bP
  clear cu
  have H:Hid (TkS [.string x] 9 w (·=g) wb pa Y (I+1) J 4 x' [] (·=g) (.slice (some ⟨g,0,none⟩) j j) j wr):=bP.out
  have bK:Hid ((J 4).2.length≤100000000000∧([]:List LEn).length≤4):=⟨bi.out.2.2.2,by simp⟩
  clear bP bB
  go_upto_region 6 with fail
  clear cD
  obtain⟨U,X,bx⟩:=Jcz (H.out.law.own 4 (by unfold Krw;omega))
  rw[Kp]at bx
  simp only at bx
  subst bx
  obtain⟨K,bn⟩:∃ K,K=((J 4).2++[]).length:=⟨_,rfl⟩
  rw[←bn]at H
  have bc:Hid (K=((J 4).2++[]).length):=bn
  clear bn
  have bJ:wr.cell? ⟨wb,4,none⟩=some (.slice U K X):=by simp[World.cell?,H.out.law.cells,upd]
  have bI:wr.cell? ⟨wb,2,none⟩=some (.int .i64 (I+1)):=by simp[World.cell?,H.out.law.cells]
  refine Kr7 15 (S:=fun L=>L.cell? ⟨wb,4,none⟩=some (.slice U K X)∧L.cell? ⟨wb,2,none⟩=some (.int .i64 (I+1))) (by kernel_rfl) ⟨Jh bJ,Jh bI⟩ (fun A=>?_)
  refine tkm 0 rfl A ?_
  refine tkm 1 rfl A ?_
  refine tkm 2 rfl A ?_
  refine tkm 3 rfl A ?_
  refine tkm 4 rfl A ?_
  refine tkm 5 rfl A ?_
  refine tkn ?_
  refine tkm 6 rfl A ?_
  refine tkm 7 rfl A ?_
  refine tkm 8 rfl A ?_
  refine tkm 9 rfl A ?_
  refine tkm 10 rfl A ?_
  refine tkn ?_
  clear bJ bI
  obtain⟨L,br⟩:∃ L,L=wr.drew:=⟨_,rfl⟩
  rw[←br]at A ⊢
  have HZ:Hid (TkS [.string x] 9 w (·=g) wb pa Y (I+1) J 4 (.slice U K X) [] (·=g) (.slice (some ⟨g,0,none⟩) j j) j L):=by
   rw[br]
   exact⟨H.out.law.stands fun _ _=>rfl,H.out.tk.frame (Oa2 _) (fun _ _=>rfl) fun _ q=>q,Jl H.out.own fun _ _=>rfl,H.out.dd,H.out.svD,H.out.keep.drewN 1,H.out.new⟩
  clear br H
  refine Krx 11 rfl (fun O M=>?_)
  go_simp
  have bu:Below L.heap.size L (L.alloc (.cells #[.slice (some ⟨g,0,none⟩) j j,.int .i64 (I+1)] 91)):=Jc (Oa5 _ _) _
  refine M.out _ _ ⟨Ja bu A.1,Ja bu A.2⟩ (fun A=>?_)
  clear M O bu A
  have bD:Hid ((L.alloc (.cells #[.slice (some ⟨g,0,none⟩) j j,.int .i64 (I+1)] 91)).ownsRow 0 91 2 (.slice U K X) K (((J 4).2++[]).flatMap LEn.cells)):=by
   have:=Jbm (HZ.out.law.own 4 (by unfold Krw;omega)) (.cells #[.slice (some ⟨g,0,none⟩) j j,.int .i64 (I+1)] 91)
   rw[Kp]at this
   simp only at this
   rw[←bc.out]at this
   exact this
  refine Krx 12 rfl (fun O M=>?_)
  refine Ksi rfl (.tmp 34) (.tmp 41) 47 91 _ 2 32 (Ktj 4) rfl (by decide) (by decide) (by kernel_rfl) rfl (.slice U K X) K (((J 4).2++[]).flatMap LEn.cells) rfl bD.out ⟨L.heap.size,0,none⟩ 1 (LEn.cells ⟨(some ⟨g,0,none⟩),j,j,(I+1)⟩) rfl rfl (fun bV bX R=>World.news_of_block (w:=L.alloc (.cells #[.slice (some ⟨g,0,none⟩) j j,.int .i64 (I+1)] 91)) (heap_alloc_new L _) bV bX (by simpa [LEn.cells] using R)) (fun u R=>by simp[LEn.cells]at R;rcases R with rfl|rfl<;>rfl) (by have bR:=bc.out;have bL:=bK.out;rw[Oa8]at bR;omega) (fun y w4 ba bb bh=>?_)
  obtain⟨bk,bl,bS⟩:=Jcz ba
  subst bS
  have bz:Hid (TkS [.string x] 9 w (·=g) wb pa Y (I+1) J 4 (.slice bk (K+1) bl) ([]++[⟨(some ⟨g,0,none⟩),j,j,(I+1)⟩]) (·=g) (.slice (some ⟨g,0,none⟩) j j) j (w4.setCell ⟨wb,4,none⟩ (.slice bk (K+1) bl))):=
   HZ.out.push (by unfold Krw;omega) rfl (by rw[←bc.out];exact ba) bb (bh.imp id fun q=>q.1)
  have bf:w4.heap[wb]?=L.heap[wb]?:=(bb.block wb (by have:=Jd HZ.out.law.cells;rw[Oa7];omega) fun e=>by have:=HZ.out.law.n0 4 (by unfold Krw;omega);rw[Kp]at this;exact this e.symm).trans (Oa9 _ _ _ (Jd HZ.out.law.cells))
  have bH:w4.cell? ⟨wb,4,none⟩=some (.slice U K X):=by simp[World.cell?,bf,HZ.out.law.cells,upd]
  have bG:w4.cell? ⟨wb,2,none⟩=some (.int .i64 (I+1)):=by simp[World.cell?,bf,HZ.out.law.cells]
  have bZ:w4.frozen? ⟨wb,4,none⟩=false:=by simp[World.frozen?,bf,HZ.out.law.cells]
  refine M.out _ _ ⟨bH,bG⟩ (fun A=>?_)
  clear M O bf ba bb bh bD HZ
  simp only[Act.put,List.getElem_toArray,List.getElem_cons_zero,List.getElem_cons_succ,Oa1,List.set_cons_zero,List.set_cons_succ]
  refine Krx 13 rfl (fun O M=>?_)
  go_simp
  refine M.out _ _ A (fun A=>?_)
  clear M O
  refine tkm 14 rfl A ?_
  refine tkn ?_
  refine Ksc rfl (fun O M=>?_)
  go_simp
  refine M.out _ _ ?_
  clear M O bH bG bZ A bc
  generalize w4.setCell ⟨wb,4,none⟩ (.slice bk (K+1) bl)=cz at bz ⊢
  go_upto_region 9 with fail
  go_loopw [6,7] (fun sv bW wr=>∃ (k:Nat) (x':Value) (N:List LEn) (D:Nat→Prop),bW=.int .i64 (k:Int)∧k≤3∧N.length=k+1∧Hid (TkS [.string x] 9 w (·=g) wb pa Y (I+1) J 4 x' N D sv (j+k) wr)) (fun _ bW _=>3-(intOf bW).toNat)
  case atStart=>exact⟨0,_,_,_,rfl,by omega,rfl,bz.out⟩
  case round=>
   clear bz bK
   obtain⟨k,x',N,D,rfl,hk,bN,H⟩:=hrel
   by_cases bO:k<3
   ·obtain⟨m,cl⟩:∃ m,m=j+k:=⟨_,rfl⟩
    rw[←cl]at H
    obtain⟨cc,c3,cA⟩:=Jcz H.out.own
    subst cA
    have bj:Hid (j+(k+1)=m+1∧k<3∧N.length=k+1∧m≤2000):=⟨by omega,bO,bN,by omega⟩
    have cv:(k:Int)<3:=by omega
    clear cl bN
    have cb:Hid (∀ o,(wr.alloc o).ownsRow 0 9 1 (.slice cc m c3) m (Ks5 [.string x] m)):=fun o=>Jbm H.out.own o
    go_upto_region 12 with(at_builtin;go_must (refine Ksy (by rfl) _ _ 70 9 _ 1 16 Kjq (by rfl) (by decide) (by decide) (by kernel_rfl) (by rfl) (.slice cc m c3) m (Ks5 [.string x] m) (by rfl) (cb.out _) ⟨wr.heap.size,0,none⟩ 1 [.string x] (by rfl) rfl (by exact Ua wr _ _) (by intro u R;simp at R;subst R;rfl) (by have:=bj.out.2.2.2;omega) ?_);intro sv' bY ba bb bh)
    clear cb cv
    obtain⟨Z,c5,cB⟩:=Jcz ba
    subst cB
    have ca:=H.out.grow ba bb bh
    clear H ba bb bh
    have H:Hid _:=ca
    have bK:Hid ((J 4).2.length≤100000000000∧N.length≤4):=⟨bi.out.2.2.2,by have:=bj.out;omega⟩
    clear ca
    obtain⟨U,X,bx⟩:=Jcz (H.out.law.own 4 (by unfold Krw;omega))
    rw[Kp]at bx
    simp only at bx
    subst bx
    obtain⟨K,bn⟩:∃ K,K=((J 4).2++N).length:=⟨_,rfl⟩
    rw[←bn]at H
    have bc:Hid (K=((J 4).2++N).length):=bn
    clear bn
    have bJ:bY.cell? ⟨wb,4,none⟩=some (.slice U K X):=by simp[World.cell?,H.out.law.cells,upd]
    have bI:bY.cell? ⟨wb,2,none⟩=some (.int .i64 (I+1)):=by simp[World.cell?,H.out.law.cells]
    refine Kr7 15 (S:=fun L=>L.cell? ⟨wb,4,none⟩=some (.slice U K X)∧L.cell? ⟨wb,2,none⟩=some (.int .i64 (I+1))) (by kernel_rfl) ⟨Jh bJ,Jh bI⟩ (fun A=>?_)
    refine tkm 0 rfl A ?_
    refine tkm 1 rfl A ?_
    refine tkm 2 rfl A ?_
    refine tkm 3 rfl A ?_
    refine tkm 4 rfl A ?_
    refine tkm 5 rfl A ?_
    refine tkn ?_
    refine tkm 6 rfl A ?_
    refine tkm 7 rfl A ?_
    refine tkm 8 rfl A ?_
    refine tkm 9 rfl A ?_
    refine tkm 10 rfl A ?_
    refine tkn ?_
    clear bJ bI
    obtain⟨L,br⟩:∃ L,L=bY.drew:=⟨_,rfl⟩
    rw[←br]at A ⊢
    have HZ:Hid (TkS [.string x] 9 w (·=g) wb pa Y (I+1) J 4 (.slice U K X) N (fun b=>D b∨(Value.slice Z (m+1) c5).ownBlock=some b) (.slice Z (m+1) c5) (m+1) L):=by
     rw[br]
     exact⟨H.out.law.stands fun _ _=>rfl,H.out.tk.frame (Oa2 _) (fun _ _=>rfl) fun _ q=>q,Jl H.out.own fun _ _=>rfl,H.out.dd,H.out.svD,H.out.keep.drewN 1,H.out.new⟩
    clear br H
    refine Krx 11 rfl (fun O M=>?_)
    go_simp
    have bu:Below L.heap.size L (L.alloc (.cells #[.slice Z (m+1) c5,.int .i64 (I+1)] 91)):=Jc (Oa5 _ _) _
    refine M.out _ _ ⟨Ja bu A.1,Ja bu A.2⟩ (fun A=>?_)
    clear M O bu A
    have bD:Hid ((L.alloc (.cells #[.slice Z (m+1) c5,.int .i64 (I+1)] 91)).ownsRow 0 91 2 (.slice U K X) K (((J 4).2++N).flatMap LEn.cells)):=by
     have:=Jbm (HZ.out.law.own 4 (by unfold Krw;omega)) (.cells #[.slice Z (m+1) c5,.int .i64 (I+1)] 91)
     rw[Kp]at this
     simp only at this
     rw[←bc.out]at this
     exact this
    refine Krx 12 rfl (fun O M=>?_)
    refine Ksi rfl (.tmp 58) (.tmp 65) 47 91 _ 2 32 (Ktj 4) rfl (by decide) (by decide) (by kernel_rfl) rfl (.slice U K X) K (((J 4).2++N).flatMap LEn.cells) rfl bD.out ⟨L.heap.size,0,none⟩ 1 (LEn.cells ⟨Z,(m+1),c5,(I+1)⟩) rfl rfl (fun bV bX R=>World.news_of_block (w:=L.alloc (.cells #[.slice Z (m+1) c5,.int .i64 (I+1)] 91)) (heap_alloc_new L _) bV bX (by simpa [LEn.cells] using R)) (fun u R=>by simp[LEn.cells]at R;rcases R with rfl|rfl<;>rfl) (by have bR:=bc.out;have bL:=bK.out;rw[Oa8]at bR;omega) (fun y w4 ba bb bh=>?_)
    obtain⟨bk,bl,bS⟩:=Jcz ba
    subst bS
    have bz:Hid (TkS [.string x] 9 w (·=g) wb pa Y (I+1) J 4 (.slice bk (K+1) bl) (N++[⟨Z,(m+1),c5,(I+1)⟩]) (fun b=>D b∨(Value.slice Z (m+1) c5).ownBlock=some b) (.slice Z (m+1) c5) (m+1) (w4.setCell ⟨wb,4,none⟩ (.slice bk (K+1) bl))):=
     HZ.out.push (by unfold Krw;omega) rfl (by rw[←bc.out];exact ba) bb (bh.imp id fun q=>q.1)
    have bf:w4.heap[wb]?=L.heap[wb]?:=(bb.block wb (by have:=Jd HZ.out.law.cells;rw[Oa7];omega) fun e=>by have:=HZ.out.law.n0 4 (by unfold Krw;omega);rw[Kp]at this;exact this e.symm).trans (Oa9 _ _ _ (Jd HZ.out.law.cells))
    have bH:w4.cell? ⟨wb,4,none⟩=some (.slice U K X):=by simp[World.cell?,bf,HZ.out.law.cells,upd]
    have bG:w4.cell? ⟨wb,2,none⟩=some (.int .i64 (I+1)):=by simp[World.cell?,bf,HZ.out.law.cells]
    have bZ:w4.frozen? ⟨wb,4,none⟩=false:=by simp[World.frozen?,bf,HZ.out.law.cells]
    refine M.out _ _ ⟨bH,bG⟩ (fun A=>?_)
    clear M O bf ba bb bh bD HZ
    simp only[Act.put,List.getElem_toArray,List.getElem_cons_zero,List.getElem_cons_succ,Oa1,List.set_cons_zero,List.set_cons_succ]
    refine Krx 13 rfl (fun O M=>?_)
    go_simp
    refine M.out _ _ A (fun A=>?_)
    clear M O
    refine tkm 14 rfl A ?_
    refine tkn ?_
    refine Ksc rfl (fun O M=>?_)
    go_simp
    refine M.out _ _ ?_
    clear M O bH bG bZ A bc
    generalize w4.setCell ⟨wb,4,none⟩ (.slice bk (K+1) bl)=cz at bz ⊢
    go_wp2
    go_roundw
    case rel=>exact⟨k+1,_,N++[⟨Z,m+1,c5,I+1⟩],_,by have:=bj.out;go_num,by have:=bj.out;omega,by rw[Oa8,bj.out.2.2.1];rfl,by rw[bj.out.1];exact bz.out⟩
    case measure=>have:=bj.out;simp[intOf];omega
   obtain rfl:k=3:=by omega
   have cx:Hid (N.length=4):=bN
   clear bN
   go_wp2
   go_end0
   exact⟨rfl,x',N,D,_,cx.out,H.out⟩
attribute [local go_sem] Oc0
def mkV (n:Int):V:=⟨-7,n,⟨#[109,97,114,107]⟩⟩
theorem TkS.low {xc:List Value}{M:TypeId}{w J:World}{H:Nat→Prop}{wb pa N:Nat}{K:Int}{I:Ksl}{r:Nat}{x':Value}{L:List LEn}{D:Nat→Prop}{sv:Value}{m:Nat}{W:World}(h:TkS xc M J H wb pa N K I r x' L D sv m W)(hk:Ju (fun i=>i=wb) w J):TkS xc M w H wb pa N K I r x' L D sv m W:=
 ⟨h.law,h.tk,h.own,fun b A=>by obtain⟨O,R⟩:=h.dd b A;exact⟨O.imp id fun a=>by have:=hk.size;omega,R⟩,h.svD,(hk.mono fun i _ e=>.inl e).trans h.keep,fun b A=>(h.new b A).imp id fun a=>by have:=hk.size;omega⟩
theorem Qa9 (v:V)(n:Nat):(List.replicate n v).flatMap V.cells=Ks5 v.cells n:=by
 induction n with
 |zero=>rfl
 |succ n A=>rw[Kv1,List.replicate_succ',Oe8,A];simp
theorem Qbv {w:World}{g n:Nat}{v:V}(h:Kv w g (List.replicate n v) [])(I:n≤maxLen):w.ownsRow 0 55 v.cells.length (.slice (some ⟨g,0,none⟩) n n) n (Ks5 v.cells n):=by
 obtain⟨C,H,A⟩:=h
 rw[Od7,Qa9]at A
 have hs:C.size=n*3:=by
  have:=congrArg List.length A
  rw[Ktw]at this
  simpa [V.cells] using this
 exact⟨Ktw _ _,.inr ⟨g,n,C,rfl,Ob7 _,H,Oa2 _,I,hs,by rw[A];exact Oc8 (by rw[Ktw];exact Oa2 _)⟩⟩
theorem Kut (w:World)(wb pa ba:Nat)(A:Int)(J:Ksl)(h:Ksr w wb pa ba A J)(g:Nat)(vs:List V)(cz:Kv w g vs [])(cS:vs.length≤1000)(cy:¬ Kud wb J g)(_da:0≤A)(_db:A≤1000000000000000)(cx:(J 5).2.length≤100000000000) :
  Calls prog 60 #[.pointer (some ⟨wb,0,none⟩),.slice (some ⟨g,0,none⟩) vs.length vs.length] w fun e w'=>e=.returned (.tuple #[])∧∃ x' O D sv,O.length=4∧TkS (mkV (A+1)).cells 55 w (·=g) wb pa ba (A+1) J 5 x' O D sv (vs.length+3) w':=by
 have c2:w.cell? ⟨wb,2,none⟩=some (.int .i64 A):=by simp[World.cell?,h.cells]
 have cI:w.frozen? ⟨wb,2,none⟩=false:=by simp[World.frozen?,h.cells]
 have bD:Hid (Ksr w wb pa ba A J∧Kv w g vs []∧¬ Kud wb J g∧(J 5).2.length≤100000000000):=⟨h,cz,cy,cx⟩
 obtain⟨n,ca⟩:∃ n,n=vs.length:=⟨_,rfl⟩
 rw[←ca]at cS ⊢
 have bV:Hid (n=vs.length):=ca
 clear h cz cy cx ca
 go_enter func60,ntmps60
 go_upto_region 1 with fail
 obtain⟨W,hW⟩:∃ W,W=w.setCell ⟨wb,2,none⟩ (.int .i64 (A+1)):=⟨_,rfl⟩
 rw[←hW]
 have bk:Hid (Ksr W wb pa ba (A+1) J∧Kv W g vs []∧Ju (fun i=>i=wb) w W):=by
  rw[hW]
  have cQ:g≠wb:=fun e=>bD.out.2.2.1 (.inl e)
  exact⟨bD.out.1.count _,bD.out.2.1.of_block (Oa4 _ _ _ _ cQ),(Ju.refl (fun i=>i=wb) w).set (b:=wb) rfl 2 _⟩
 clear hW c2 cI
 have c2:W.cell? ⟨wb,2,none⟩=some (.int .i64 (A+1)):=by simp[World.cell?,bk.out.1.cells]
 have cB:=Ksn (A+1) W
 go_upto_region 3 with(go_at_call 32;refine cB.mono ?_;rintro e bW ⟨rfl,bY⟩)
 clear cB c2
 obtain⟨N,bQ⟩:∃ N,N=bW.alloc (.cells #[.int .i64 (-7),.int .i64 (A+1),.string ⟨#[109,97,114,107]⟩] 55):=⟨_,rfl⟩
 rw[←bQ]
 have cc:N.heap[bW.heap.size]?=some (.cells #[.int .i64 (-7),.int .i64 (A+1),.string ⟨#[109,97,114,107]⟩] 55 (0,0)):=by rw[bQ];exact heap_alloc_new _ _
 have bR:Below W.heap.size W N:=by rw[bQ];exact Jc bY _
 obtain⟨X,cF⟩:∃ X,X=bW.heap.size:=⟨_,rfl⟩
 rw[←cF]at cc ⊢
 have br:Hid (Ksr N wb pa ba (A+1) J∧Kv N g vs []∧Ju (fun i=>i=wb) w N∧N.heap[X]?=some (.cells #[.int .i64 (-7),.int .i64 (A+1),.string ⟨#[109,97,114,107]⟩] 55 (0,0))∧W.heap.size≤X∧g<W.heap.size∧∀ i,Kud wb J i→i<W.heap.size):=⟨bk.out.1.below bR,bk.out.2.1.of_block (bR.block g bk.out.2.1.lt),bk.out.2.2.trans (Ju.of_below bR),cc,by have:=bY.size;omega,bk.out.2.1.lt,bk.out.1.lt⟩
 clear bY bk bQ bR cc cF
 go_loopw [5] (fun i wr=>∃ j:Nat,j≤n∧i=.int .i64 (j:Int)∧Hid (Kv wr g (List.replicate j (mkV (A+1))++vs.drop j) []∧Ju (fun i=>i=g) N wr)) (fun i _=>n-(intOf i).toNat)
 case atStart=>exact⟨0,Ob7 _,rfl,(show _∧_ from ⟨by simpa using br.out.2.1,Ju.refl _ _⟩)⟩
 case round=>
  obtain⟨j,de,rfl,I⟩:=hrel
  have bf:wr.heap[X]?=some (.cells #[.int .i64 (-7),.int .i64 (A+1),.string ⟨#[109,97,114,107]⟩] 55 (0,0)):=(I.out.2.block X (Jd br.out.2.2.2.1) (by have:=br.out;omega)).trans br.out.2.2.2.1
  have ci:wr.cell? ⟨X,0,none⟩=some (.int .i64 (-7)):=by simp[World.cell?,bf]
  have cj:wr.cell? ⟨X,1,none⟩=some (.int .i64 (A+1)):=by simp[World.cell?,bf]
  have m2:wr.cell? ⟨X,2,none⟩=some (.string ⟨#[109,97,114,107]⟩):=by simp[World.cell?,bf]
  by_cases bZ:j<n
  ·have cR:(List.replicate j (mkV (A+1))++vs.drop j).length=n:=by simp;have:=bV.out;omega
   obtain⟨⟨⟨cV,di⟩,⟨cW,dj⟩,cX,cI⟩,cD⟩:=I.out.1.at3 (mkV (A+1)) j (by omega)
   have cK:Hid (Kv (((wr.setCell ⟨g,j*3,none⟩ (.int .i64 (-7))).setCell ⟨g,j*3+1,none⟩ (.int .i64 (A+1))).setCell ⟨g,j*3+2,none⟩ (.string ⟨#[109,97,114,107]⟩)) g (List.replicate (j+1) (mkV (A+1))++vs.drop (j+1)) []∧Ju (fun i=>i=g) N (((wr.setCell ⟨g,j*3,none⟩ (.int .i64 (-7))).setCell ⟨g,j*3+1,none⟩ (.int .i64 (A+1))).setCell ⟨g,j*3+2,none⟩ (.string ⟨#[109,97,114,107]⟩))):=by
    refine⟨?_,((I.out.2.set (b:=g) rfl _ _).set (b:=g) rfl _ _).set (b:=g) rfl _ _⟩
    have e:(List.replicate j (mkV (A+1))++vs.drop j).set j (mkV (A+1))=List.replicate (j+1) (mkV (A+1))++vs.drop (j+1):=by
     rw[Ok4 _ _ (by simp),Od6,Oe1,Oi1 (show j<vs.length by have:=bV.out;omega),List.set_cons_zero,List.replicate_succ']
     simp
    rw[←e]
    exact cD
   have bU:Hid (j<n):=bZ
   have dg:(0:Int)≤(j:Int):=by omega
   have cG:(j:Int)<(n:Int):=by omega
   generalize (List.replicate j (mkV (A+1))++vs.drop j)[j]'(by omega)=dh at cV cW cX
   clear cD cR bf
   go_wp2
   go_roundw
   case rel=>exact⟨j+1,bU.out,by have:=bU.out;go_num,cK.out⟩
   case measure=>have:=bU.out;simp[intOf];omega
  obtain rfl:j=n:=by omega
  have cU:¬ ((j:Int)<(j:Int)):=by omega
  have bT:Hid (TkS (mkV (A+1)).cells 55 N (·=g) wb pa ba (A+1) J 5 (J 5).1 [] (·=g) (.slice (some ⟨g,0,none⟩) j j) j wr):=by
   have cC:=bD.out.2.2.1
   have df:=I.out.2.size
   obtain⟨w1,cH,bO,w4,cY,cZ,ck⟩:=br.out
   have dc:g<N.heap.size:=cH.lt
   have R:upd J 5 ((J 5).1,(J 5).2++[])=J:=by rw[Od7];exact Ku0 J 5
   have cT:Kv wr g (List.replicate j (mkV (A+1))) []:=by
    have:=I.out.1
    rw[Ol8 (by have:=bV.out;omega),Od7]at this
    exact this
   refine⟨?_,⟨by simp,by simp,by simp,by simp⟩,Qbv cT (by unfold maxLen;omega),fun b bG=>?_,fun b bG=>?_,?_,fun b bG=>.inl bG⟩
   ·rw[R]
    exact w1.stands fun i hi=>I.out.2.block i (w1.lt i hi) fun e=>cC (e▸hi)
   ·rw[R,bG]
    exact⟨.inl rfl,by omega,cC⟩
   ·simp[Value.ownBlock]at bG
    exact bG.symm
   exact I.out.2.mono fun i _ e=>.inr (.inr e)
  clear I bf ci cj m2
  obtain⟨x',cE⟩:∃ x',x'=(J 5).1:=⟨_,rfl⟩
  rw[←cE]at bT
  clear cE
  have I:Hid (TkS (mkV (A+1)).cells 55 N (·=g) wb pa ba (A+1) J 5 x' [] (·=g) (.slice (some ⟨g,0,none⟩) j j) j wr):=bT.out
  have bP:Hid ((J 5).2.length≤100000000000∧([]:List LEn).length≤4):=⟨bD.out.2.2.2,by simp⟩
  clear bT
  go_upto_region 6 with fail
  clear cU
  obtain⟨Y,Z,bC⟩:=Jcz (I.out.law.own 5 (by unfold Krw;omega))
  rw[Kp]at bC
  simp only at bC
  subst bC
  obtain⟨K,bz⟩:∃ K,K=((J 5).2++[]).length:=⟨_,rfl⟩
  rw[←bz]at I
  have bi:Hid (K=((J 5).2++[]).length):=bz
  clear bz
  have bM:wr.cell? ⟨wb,5,none⟩=some (.slice Y K Z):=by simp[World.cell?,I.out.law.cells,upd]
  have bL:wr.cell? ⟨wb,2,none⟩=some (.int .i64 (A+1)):=by simp[World.cell?,I.out.law.cells]
  refine Kr7 15 (S:=fun L=>L.cell? ⟨wb,5,none⟩=some (.slice Y K Z)∧L.cell? ⟨wb,2,none⟩=some (.int .i64 (A+1))) (by kernel_rfl) ⟨Jh bM,Jh bL⟩ (fun H=>?_)
  refine tkm 0 rfl H ?_
  refine tkm 1 rfl H ?_
  refine tkm 2 rfl H ?_
  refine tkm 3 rfl H ?_
  refine tkm 4 rfl H ?_
  refine tkm 5 rfl H ?_
  refine tkn ?_
  refine tkm 6 rfl H ?_
  refine tkm 7 rfl H ?_
  refine tkm 8 rfl H ?_
  refine tkm 9 rfl H ?_
  refine tkm 10 rfl H ?_
  refine tkn ?_
  clear bM bL
  obtain⟨L,bA⟩:∃ L,L=wr.drew:=⟨_,rfl⟩
  rw[←bA]at H ⊢
  have HZ:Hid (TkS (mkV (A+1)).cells 55 N (·=g) wb pa ba (A+1) J 5 (.slice Y K Z) [] (·=g) (.slice (some ⟨g,0,none⟩) j j) j L):=by
   rw[bA]
   exact⟨I.out.law.stands fun _ _=>rfl,I.out.tk.frame (Oa2 _) (fun _ _=>rfl) fun _ q=>q,Jl I.out.own fun _ _=>rfl,I.out.dd,I.out.svD,I.out.keep.drewN 1,I.out.new⟩
  clear bA I
  refine Krx 11 rfl (fun U M=>?_)
  go_simp
  have bB:Below L.heap.size L (L.alloc (.cells #[.slice (some ⟨g,0,none⟩) j j,.int .i64 (A+1)] 93)):=Jc (Oa5 _ _) _
  refine M.out _ _ ⟨Ja bB H.1,Ja bB H.2⟩ (fun H=>?_)
  clear M U bB H
  have bH:Hid ((L.alloc (.cells #[.slice (some ⟨g,0,none⟩) j j,.int .i64 (A+1)] 93)).ownsRow 0 93 2 (.slice Y K Z) K (((J 5).2++[]).flatMap LEn.cells)):=by
   have:=Jbm (HZ.out.law.own 5 (by unfold Krw;omega)) (.cells #[.slice (some ⟨g,0,none⟩) j j,.int .i64 (A+1)] 93)
   rw[Kp]at this
   simp only at this
   rw[←bi.out]at this
   exact this
  refine Krx 12 rfl (fun U M=>?_)
  refine Ksi rfl (.tmp 34) (.tmp 41) 48 93 _ 2 32 (Ktj 5) rfl (by decide) (by decide) (by kernel_rfl) rfl (.slice Y K Z) K (((J 5).2++[]).flatMap LEn.cells) rfl bH.out ⟨L.heap.size,0,none⟩ 1 (LEn.cells ⟨(some ⟨g,0,none⟩),j,j,(A+1)⟩) rfl rfl (fun bK bN R=>World.news_of_block (w:=L.alloc (.cells #[.slice (some ⟨g,0,none⟩) j j,.int .i64 (A+1)] 93)) (heap_alloc_new L _) bK bN (by simpa [LEn.cells] using R)) (fun u R=>by simp[LEn.cells]at R;rcases R with rfl|rfl<;>rfl) (by have bX:=bi.out;have cN:=bP.out;rw[Oa8]at bX;omega) (fun y w4 bc bh bl=>?_)
  obtain⟨bu,bx,cb⟩:=Jcz bc
  subst cb
  have bE:Hid (TkS (mkV (A+1)).cells 55 N (·=g) wb pa ba (A+1) J 5 (.slice bu (K+1) bx) ([]++[⟨(some ⟨g,0,none⟩),j,j,(A+1)⟩]) (·=g) (.slice (some ⟨g,0,none⟩) j j) j (w4.setCell ⟨wb,5,none⟩ (.slice bu (K+1) bx))):=
   HZ.out.push (by unfold Krw;omega) rfl (by rw[←bi.out];exact bc) bh (bl.imp id fun q=>q.1)
  have bj:w4.heap[wb]?=L.heap[wb]?:=(bh.block wb (by have:=Jd HZ.out.law.cells;rw[Oa7];omega) fun e=>by have:=HZ.out.law.n0 5 (by unfold Krw;omega);rw[Kp]at this;exact this e.symm).trans (Oa9 _ _ _ (Jd HZ.out.law.cells))
  have bJ:w4.cell? ⟨wb,5,none⟩=some (.slice Y K Z):=by simp[World.cell?,bj,HZ.out.law.cells,upd]
  have bI:w4.cell? ⟨wb,2,none⟩=some (.int .i64 (A+1)):=by simp[World.cell?,bj,HZ.out.law.cells]
  have cl:w4.frozen? ⟨wb,5,none⟩=false:=by simp[World.frozen?,bj,HZ.out.law.cells]
  refine M.out _ _ ⟨bJ,bI⟩ (fun H=>?_)
  clear M U bj bc bh bl bH HZ
  simp only[Act.put,List.getElem_toArray,List.getElem_cons_zero,List.getElem_cons_succ,Oa1,List.set_cons_zero,List.set_cons_succ]
  refine Krx 13 rfl (fun U M=>?_)
  go_simp
  refine M.out _ _ H (fun H=>?_)
  clear M U
  refine tkm 14 rfl H ?_
  refine tkn ?_
  refine Ksc rfl (fun U M=>?_)
  go_simp
  refine M.out _ _ ?_
  clear M U bJ bI cl H bi
  generalize w4.setCell ⟨wb,5,none⟩ (.slice bu (K+1) bx)=cM at bE ⊢
  have cL:Hid (∀ W,Ju (fun i=>i=wb∨(J 5).1.ownBlock=some i∨i=g) N W→W.heap[X]?=some (.cells #[.int .i64 (-7),.int .i64 (A+1),.string ⟨#[109,97,114,107]⟩] 55 (0,0))):=fun W hk=>by
   obtain⟨w1,cH,bO,w4,cY,cZ,ck⟩:=br.out
   refine(hk.block X (Jd w4) fun e=>?_).trans w4
   rcases e with e|e|e
   ·have:=ck wb (.inl rfl);omega
   ·have:=ck X (.inr ⟨5,by unfold Krw;omega,e⟩);omega
   omega
  go_upto_region 9 with fail
  go_loopw [6,7] (fun sv cf wr=>∃ (k:Nat) (x':Value) (O:List LEn) (D:Nat→Prop),cf=.int .i64 (k:Int)∧k≤3∧O.length=k+1∧Hid (TkS (mkV (A+1)).cells 55 N (·=g) wb pa ba (A+1) J 5 x' O D sv (j+k) wr)) (fun _ cf _=>3-(intOf cf).toNat)
  case atStart=>exact⟨0,_,_,_,rfl,by omega,rfl,bE.out⟩
  case round=>
   clear bE bP
   obtain⟨k,x',O,D,rfl,hk,bS,I⟩:=hrel
   by_cases bZ:k<3
   ·obtain⟨m,cA⟩:∃ m,m=j+k:=⟨_,rfl⟩
    rw[←cA]at I
    obtain⟨cv,c3,cO⟩:=Jcz I.out.own
    subst cO
    have bn:Hid (j+(k+1)=m+1∧k<3∧O.length=k+1∧m≤2000):=⟨by omega,bZ,bS,by omega⟩
    have cG:(k:Int)<3:=by omega
    clear cA bS
    have bf:=cL.out wr I.out.keep
    have ci:wr.cell? ⟨X,0,none⟩=some (.int .i64 (-7)):=by simp[World.cell?,bf]
    have cj:wr.cell? ⟨X,1,none⟩=some (.int .i64 (A+1)):=by simp[World.cell?,bf]
    have m2:wr.cell? ⟨X,2,none⟩=some (.string ⟨#[109,97,114,107]⟩):=by simp[World.cell?,bf]
    have cu:Hid (∀ o,(wr.alloc o).ownsRow 0 55 3 (.slice cv m c3) m (Ks5 (mkV (A+1)).cells m)):=fun o=>Jbm I.out.own o
    clear bf
    go_upto_region 12 with(at_builtin;go_must (refine Ksy (by rfl) _ _ 56 55 _ 3 32 Jow (by rfl) (by decide) (by decide) (by kernel_rfl) (by rfl) (.slice cv m c3) m (Ks5 (mkV (A+1)).cells m) (by rfl) (cu.out _) ⟨wr.heap.size,0,none⟩ 1 (mkV (A+1)).cells (by rfl) rfl (by exact fun bK bN R=>World.news_of_block (w:=wr.alloc _) (heap_alloc_new wr _) bK bN (by simpa [mkV,V.cells] using R)) (by intro u R;simp[mkV,V.cells]at R;rcases R with rfl|rfl|rfl<;>rfl) (by have:=bn.out.2.2.2;omega) ?_);intro sv' bO bc bh bl)
    clear cu cG ci cj m2
    obtain⟨bb,c5,cP⟩:=Jcz bc
    subst cP
    have cn:=I.out.grow bc bh bl
    clear I bc bh bl
    have I:Hid _:=cn
    have bP:Hid ((J 5).2.length≤100000000000∧O.length≤4):=⟨bD.out.2.2.2,by have:=bn.out;omega⟩
    clear cn
    obtain⟨Y,Z,bC⟩:=Jcz (I.out.law.own 5 (by unfold Krw;omega))
    rw[Kp]at bC
    simp only at bC
    subst bC
    obtain⟨K,bz⟩:∃ K,K=((J 5).2++O).length:=⟨_,rfl⟩
    rw[←bz]at I
    have bi:Hid (K=((J 5).2++O).length):=bz
    clear bz
    have bM:bO.cell? ⟨wb,5,none⟩=some (.slice Y K Z):=by simp[World.cell?,I.out.law.cells,upd]
    have bL:bO.cell? ⟨wb,2,none⟩=some (.int .i64 (A+1)):=by simp[World.cell?,I.out.law.cells]
    refine Kr7 15 (S:=fun L=>L.cell? ⟨wb,5,none⟩=some (.slice Y K Z)∧L.cell? ⟨wb,2,none⟩=some (.int .i64 (A+1))) (by kernel_rfl) ⟨Jh bM,Jh bL⟩ (fun H=>?_)
    refine tkm 0 rfl H ?_
    refine tkm 1 rfl H ?_
    refine tkm 2 rfl H ?_
    refine tkm 3 rfl H ?_
    refine tkm 4 rfl H ?_
    refine tkm 5 rfl H ?_
    refine tkn ?_
    refine tkm 6 rfl H ?_
    refine tkm 7 rfl H ?_
    refine tkm 8 rfl H ?_
    refine tkm 9 rfl H ?_
    refine tkm 10 rfl H ?_
    refine tkn ?_
    clear bM bL
    obtain⟨L,bA⟩:∃ L,L=bO.drew:=⟨_,rfl⟩
    rw[←bA]at H ⊢
    have HZ:Hid (TkS (mkV (A+1)).cells 55 N (·=g) wb pa ba (A+1) J 5 (.slice Y K Z) O (fun b=>D b∨(Value.slice bb (m+1) c5).ownBlock=some b) (.slice bb (m+1) c5) (m+1) L):=by
     rw[bA]
     exact⟨I.out.law.stands fun _ _=>rfl,I.out.tk.frame (Oa2 _) (fun _ _=>rfl) fun _ q=>q,Jl I.out.own fun _ _=>rfl,I.out.dd,I.out.svD,I.out.keep.drewN 1,I.out.new⟩
    clear bA I
    refine Krx 11 rfl (fun U M=>?_)
    go_simp
    have bB:Below L.heap.size L (L.alloc (.cells #[.slice bb (m+1) c5,.int .i64 (A+1)] 93)):=Jc (Oa5 _ _) _
    refine M.out _ _ ⟨Ja bB H.1,Ja bB H.2⟩ (fun H=>?_)
    clear M U bB H
    have bH:Hid ((L.alloc (.cells #[.slice bb (m+1) c5,.int .i64 (A+1)] 93)).ownsRow 0 93 2 (.slice Y K Z) K (((J 5).2++O).flatMap LEn.cells)):=by
     have:=Jbm (HZ.out.law.own 5 (by unfold Krw;omega)) (.cells #[.slice bb (m+1) c5,.int .i64 (A+1)] 93)
     rw[Kp]at this
     simp only at this
     rw[←bi.out]at this
     exact this
    refine Krx 12 rfl (fun U M=>?_)
    refine Ksi rfl (.tmp 58) (.tmp 65) 48 93 _ 2 32 (Ktj 5) rfl (by decide) (by decide) (by kernel_rfl) rfl (.slice Y K Z) K (((J 5).2++O).flatMap LEn.cells) rfl bH.out ⟨L.heap.size,0,none⟩ 1 (LEn.cells ⟨bb,(m+1),c5,(A+1)⟩) rfl rfl (fun bK bN R=>World.news_of_block (w:=L.alloc (.cells #[.slice bb (m+1) c5,.int .i64 (A+1)] 93)) (heap_alloc_new L _) bK bN (by simpa [LEn.cells] using R)) (fun u R=>by simp[LEn.cells]at R;rcases R with rfl|rfl<;>rfl) (by have bX:=bi.out;have cN:=bP.out;rw[Oa8]at bX;omega) (fun y w4 bc bh bl=>?_)
    obtain⟨bu,bx,cb⟩:=Jcz bc
    subst cb
    have bE:Hid (TkS (mkV (A+1)).cells 55 N (·=g) wb pa ba (A+1) J 5 (.slice bu (K+1) bx) (O++[⟨bb,(m+1),c5,(A+1)⟩]) (fun b=>D b∨(Value.slice bb (m+1) c5).ownBlock=some b) (.slice bb (m+1) c5) (m+1) (w4.setCell ⟨wb,5,none⟩ (.slice bu (K+1) bx))):=
     HZ.out.push (by unfold Krw;omega) rfl (by rw[←bi.out];exact bc) bh (bl.imp id fun q=>q.1)
    have bj:w4.heap[wb]?=L.heap[wb]?:=(bh.block wb (by have:=Jd HZ.out.law.cells;rw[Oa7];omega) fun e=>by have:=HZ.out.law.n0 5 (by unfold Krw;omega);rw[Kp]at this;exact this e.symm).trans (Oa9 _ _ _ (Jd HZ.out.law.cells))
    have bJ:w4.cell? ⟨wb,5,none⟩=some (.slice Y K Z):=by simp[World.cell?,bj,HZ.out.law.cells,upd]
    have bI:w4.cell? ⟨wb,2,none⟩=some (.int .i64 (A+1)):=by simp[World.cell?,bj,HZ.out.law.cells]
    have cl:w4.frozen? ⟨wb,5,none⟩=false:=by simp[World.frozen?,bj,HZ.out.law.cells]
    refine M.out _ _ ⟨bJ,bI⟩ (fun H=>?_)
    clear M U bj bc bh bl bH HZ
    simp only[Act.put,List.getElem_toArray,List.getElem_cons_zero,List.getElem_cons_succ,Oa1,List.set_cons_zero,List.set_cons_succ]
    refine Krx 13 rfl (fun U M=>?_)
    go_simp
    refine M.out _ _ H (fun H=>?_)
    clear M U
    refine tkm 14 rfl H ?_
    refine tkn ?_
    refine Ksc rfl (fun U M=>?_)
    go_simp
    refine M.out _ _ ?_
    clear M U bJ bI cl H bi
    generalize w4.setCell ⟨wb,5,none⟩ (.slice bu (K+1) bx)=cM at bE ⊢
    go_wp2
    go_roundw
    case rel=>exact⟨k+1,_,O++[⟨bb,m+1,c5,A+1⟩],_,by have:=bn.out;go_num,by have:=bn.out;omega,by rw[Oa8,bn.out.2.2.1];rfl,by rw[bn.out.1];exact bE.out⟩
    case measure=>have:=bn.out;simp[intOf];omega
   obtain rfl:k=3:=by omega
   have cJ:Hid (O.length=4):=bS
   clear bS
   go_wp2
   go_end0
   exact⟨rfl,x',O,D,_,cJ.out,I.out.low br.out.2.2.1⟩
attribute [local go_sem] Oc0
def RdL (r:Nat)(w:World)(e:LEn):Prop:=
 if r=4 then RdC [.string (Kwv e.n)] w e else if r=5 then RdC (mkV e.n).cells w e
 else ∃ A c,RdC [.slice (some ⟨A,0,none⟩) 1 c] w e∧VAt w A 0 (mkV e.n)
structure Kss (L:Nat→Prop) (w:World) (wb pa pb:Nat) (u:Nat) (cnt:Int) (R:Ksl) (G:Nat→Prop):Prop where
 law:Ksr w wb pa pb cnt R
 c0:0≤cnt
 c1:cnt≤(u:Int)
 few:∀ r,Krw r→(R r).2.length≤4*u
 num:∀ r,Krw r→∀ e∈(R r).2,e.n≤(u:Int)
 lens:∀ r,Krw r→∀ e∈(R r).2,e.len≤1000000000000
 rd:∀ r,Krw r→∀ e∈(R r).2,∀ X:World,w.heap.size≤X.heap.size→(∀ k,G k→X.heap[k]?=w.heap[k]?)→RdL r X e
 gb:∀ k,G k→¬ Kud wb R k
 all:∀ k,G k∨Kud wb R k→L k
 lt:∀ k,L k→k<w.heap.size
theorem Kss.stands {A:Nat→Prop}{w w':World}{wb pa K u:Nat}{I:Int}{H:Ksl}{G:Nat→Prop}(h:Kss A w wb pa K u I H G)(hs:w.heap.size≤w'.heap.size)(hk:∀ k,A k→w'.heap[k]?=w.heap[k]?):Kss A w' wb pa K u I H G:=
 ⟨h.law.stands fun i hi=>hk i (h.all i (.inr hi)),h.c0,h.c1,h.few,h.num,h.lens,fun r U e N L M O=>h.rd r U e N L (Ob2 hs M) fun k J=>(O k J).trans (hk k (h.all k (.inl J))),h.gb,h.all,fun k R=>Oc2 (h.lt k R) hs⟩
theorem Kss.below {A:Nat→Prop}{w w':World}{wb pa K u:Nat}{I:Int}{H:Ksl}{G:Nat→Prop}(h:Kss A w wb pa K u I H G)(J:Below w.heap.size w w'):Kss A w' wb pa K u I H G:=h.stands J.size fun k hk=>J.block k (h.lt k hk)
theorem Kss.take {K:Nat→Prop}{w w':World}{wb pa Z u:Nat}{X:Int}{I:Ksl}{G:Nat→Prop}(h:Kss K w wb pa Z u X I G){r:Nat}(R:Krw r){xc:List Value}{bf:TypeId}{N D E:Nat→Prop}{x' sv:Value}{M:List LEn}{m:Nat}
  (J:TkS xc bf w N wb pa Z (X+1) I r x' M D sv m w') (bk:M.length=4) (bn:∀ e∈M,e.len≤1000000000000) (bh:∀ b,N b→¬ K b∧b<w.heap.size) (Y:∀ b,E b→w.heap.size≤b∧b<w'.heap.size∧¬ Kud wb (upd I r (x',(I r).2++M)) b)
  (br:∀ e∈M,∀ L:World,w'.heap.size≤L.heap.size→(∀ b,D b∨E b→L.heap[b]?=w'.heap[b]?)→RdL r L e) :
  Ju (fun i=>K i∨N i) w w'∧∃ U bc bb,Kss U w' wb pa Z (u+1) (X+1) bc bb∧(∀ i,K i→U i)∧∀ i,U i→K i∨N i∨w.heap.size≤i:=by
 have bz:=J.keep.size
 have bl:Ju (fun i=>K i∨N i) w w':=J.keep.mono fun i _ e=>by
  rcases e with e|e|e
  ·exact .inl (h.all i (.inr (.inl e)))
  ·exact .inl (h.all i (.inr (.inr ⟨r,R,e⟩)))
  exact .inr e
 have ba:∀ k,G k→w'.heap[k]?=w.heap[k]?:=fun k hk=>J.keep.block k (h.lt k (h.all k (.inl hk))) fun e=>by
  rcases e with e|e|e
  ·exact h.gb k hk (.inl e)
  ·exact h.gb k hk (.inr ⟨r,R,e⟩)
  exact(bh k e).1 (h.all k (.inl hk))
 refine⟨bl,fun i=>K i∨D i∨E i∨x'.ownBlock=some i,upd I r (x',(I r).2++M),fun i=>G i∨D i∨E i,⟨J.law,by have:=h.c0;omega,by have:=h.c1;omega,fun s hs=>?_,fun s hs e A=>?_,fun s hs e A=>?_,fun s hs e A L bi hk=>?_,fun k hk e=>?_,fun k hk=>?_,fun k hk=>?_⟩,fun i hi=>.inl hi,fun i hi=>?_⟩
 ·by_cases e:s=r
  ·subst e
   rw[Kp,Oa8,bk]
   have:=h.few s hs
   omega
  rw[Kr8 I _ e]
  have:=h.few s hs
  omega
 ·by_cases H:s=r
  ·subst H
   rw[Kp]at A
   rcases Od2.1 A with A|A
   ·have:=h.num s hs e A;omega
   have bu:=J.tk.num e A;have bx:=h.c1;omega
  rw[Kr8 I _ H]at A
  have:=h.num s hs e A
  omega
 ·by_cases H:s=r
  ·subst H
   rw[Kp]at A
   rcases Od2.1 A with A|A
   ·exact h.lens s hs e A
   exact bn e A
  rw[Kr8 I _ H]at A
  exact h.lens s hs e A
 ·by_cases H:s=r
  ·subst H
   rw[Kp]at A
   rcases Od2.1 A with A|A
   ·exact h.rd s hs e A L (by omega) fun k O=>(hk k (.inl O)).trans (ba k O)
   exact br e A L bi fun b bj=>hk b (.inr bj)
  rw[Kr8 I _ H]at A
  exact h.rd s hs e A L (by omega) fun k O=>(hk k (.inl O)).trans (ba k O)
 ·rcases hk with hk|hk|hk
  ·rcases e with e|⟨s,hs,e⟩
   ·exact h.gb k hk (.inl e)
   by_cases H:s=r
   ·subst H
    rw[Kp]at e
    rcases J.new k e with q|q
    ·exact h.gb k hk (.inr ⟨s,hs,q⟩)
    have:=h.lt k (h.all k (.inl hk));omega
   rw[Kr8 I _ H]at e
   exact h.gb k hk (.inr ⟨s,hs,e⟩)
  ·exact(J.dd k hk).2.2 e
  exact(Y k hk).2.2 e
 ·rcases hk with(hk|hk|hk)|hk
  ·exact .inl (h.all k (.inl hk))
  ·exact .inr (.inl hk)
  ·exact .inr (.inr (.inl hk))
  rcases hk with e|⟨s,hs,e⟩
  ·exact .inl (h.all k (.inr (.inl e)))
  by_cases H:s=r
  ·subst H
   rw[Kp]at e
   exact .inr (.inr (.inr e))
  rw[Kr8 I _ H]at e
  exact .inl (h.all k (.inr (.inr ⟨s,hs,e⟩)))
 ·rcases hk with hk|hk|hk|hk
  ·have:=h.lt k hk;omega
  ·exact(J.dd k hk).2.1
  ·exact(Y k hk).2.1
  exact J.law.lt k (.inr ⟨r,R,by rw[Kp];exact hk⟩)
 rcases hi with hi|hi|hi|hi
 ·exact .inl hi
 ·rcases(J.dd i hi).1 with q|q
  ·exact .inr (.inl q)
  exact .inr (.inr q)
 ·exact .inr (.inr (Y i hi).1)
 rcases J.new i hi with q|q
 ·exact .inl (h.all i (.inr (.inr ⟨r,R,q⟩)))
 exact .inr (.inr q)
def Kxh (A:Nat→Prop)(w:World)(wb pa M u:Nat)(I:Nat→Prop)(w':World):Prop:=
 Ju (fun i=>A i∨I i) w w'∧∃ H L K J,Kss H w' wb pa M u L K J∧(∀ i,A i→H i)∧∀ i,H i→A i∨I i∨w.heap.size≤i
theorem Kvo {J:Nat→Prop}{w:World}{wb pa K u:Nat}{M:Int}{L:Ksl}{G:Nat→Prop}(h:Kss J w wb pa K u M L G)(_bl:u≤10000000000)(g n:Nat)(f:Nat→Value)(O:w.rowIs g 9 n f)(ba:n≤1000)(N:¬ J g) :
  Calls prog 18 #[.pointer (some ⟨wb,0,none⟩),.slice (some ⟨g,0,none⟩) n n] w fun e w'=>e=.returned (.tuple #[])∧Kxh J w wb pa K (u+1) (·=g) w':=by
 have bk:=h.few 4 (by unfold Krw;omega)
 have bj:=h.c1
 refine(Kvb w wb pa K M L h.law g n f O ba (fun e=>N (h.all g (.inr e))) h.c0 (by omega) (by omega)).mono fun e w' ⟨A,x',bi,D,sv,Z,I⟩=>⟨A,?_⟩
 obtain⟨k1,U,X,R,bb,bc,bf⟩:=h.take (by unfold Krw;omega) I Z (fun e A=>by have:=I.tk.pre e A;omega) (E:=fun _=>False) (fun b H=>by rw[H];exact⟨N,O.lt⟩) (fun b H=>H.elim) (fun e A bh Y hk=>by
  unfold RdL
  rw[if_pos rfl]
  have:=I.tk.rd e A
  rw[←I.tk.num e A]at this
  exact this.of_block Y fun b H=>hk b (.inl (I.tk.at_ e A b H)))
 exact⟨k1,U,_,X,R,bb,bc,bf⟩
theorem Kuz {J:Nat→Prop}{w:World}{wb pa K u:Nat}{M:Int}{L:Ksl}{G:Nat→Prop}(h:Kss J w wb pa K u M L G)(_bl:u≤10000000000)(g:Nat)(vs:List V)(O:Kv w g vs [])(ba:vs.length≤1000)(N:¬ J g) :
  Calls prog 60 #[.pointer (some ⟨wb,0,none⟩),.slice (some ⟨g,0,none⟩) vs.length vs.length] w fun e w'=>e=.returned (.tuple #[])∧Kxh J w wb pa K (u+1) (·=g) w':=by
 have bk:=h.few 5 (by unfold Krw;omega)
 have bj:=h.c1
 refine(Kut w wb pa K M L h.law g vs O ba (fun e=>N (h.all g (.inr e))) h.c0 (by omega) (by omega)).mono fun e w' ⟨A,x',bi,D,sv,Z,I⟩=>⟨A,?_⟩
 obtain⟨k1,U,X,R,bb,bc,bf⟩:=h.take (by unfold Krw;omega) I Z (fun e A=>by have:=I.tk.pre e A;omega) (E:=fun _=>False) (fun b H=>by rw[H];exact⟨N,O.lt⟩) (fun b H=>H.elim) (fun e A bh Y hk=>by
  unfold RdL
  rw[if_neg (by decide),if_pos rfl]
  have:=I.tk.rd e A
  rw[←I.tk.num e A]at this
  exact this.of_block Y fun b H=>hk b (.inl (I.tk.at_ e A b H)))
 exact⟨k1,U,_,X,R,bb,bc,bf⟩
attribute [local go_sem] Oc0
def Ktn (w:World)(a:Option Addr)(bs:List Nat)(rs:List (List V)):Prop:=
 (a=none∧rs=[]∧bs=[])∨∃ g,a=some ⟨g,0,none⟩∧Jcu w 0 g bs rs
abbrev Ksj (a:Option Addr)(n:Nat)(i:Nat):Prop:=(Value.slice a n n).ownBlock=some i
theorem Kvm {X:Nat→Prop}{w:World}{wb pa Y u:Nat}{cO:Int}{cM:Ksl}{G:Nat→Prop}(h:Kss X w wb pa Y u cO cM G)(a:Option Addr)(bs:List Nat)(rs:List (List V))(cS:Ktn w a bs rs)(dU:rs.length≤1000)(dB:∀ r∈rs,r.length≤1000)(R:u+rs.length≤9999999999)(dv:∀ i,Ksj a rs.length i∨i∈bs→¬ X i) :
  Calls prog 30 #[.pointer (some ⟨wb,0,none⟩),.slice a rs.length rs.length] w fun e w'=>e=.returned (.tuple #[])∧Kxh X w wb pa Y (u+rs.length+1) (fun i=>Ksj a rs.length i∨i∈bs) w':=by
 have Z:Hid (Kss X w wb pa Y u cO cM G∧Ktn w a bs rs∧(∀ r∈rs,r.length≤1000)∧u+rs.length≤9999999999∧∀ i,Ksj a rs.length i∨i∈bs→¬ X i):=⟨h,cS,dB,R,dv⟩
 have bH:Hid (bs.length=rs.length∧bs.Nodup∧(∀ i,Ksj a rs.length i∨i∈bs→i<w.heap.size)∧∀ i,Ksj a rs.length i→i∉bs):=by
  rcases cS with⟨rfl,rfl,rfl⟩|⟨g,rfl,bh⟩
  ·exact⟨rfl,List.nodup_nil,fun i hi=>by simp[Ksj,Value.ownBlock]at hi,fun i hi=>by simp⟩
  have bI:∀ i,Ksj (some ⟨g,0,none⟩) rs.length i→i=g:=fun i hi=>by simpa [Ksj,Value.ownBlock] using hi.symm
  refine⟨bh.len,bh.nodup,fun i hi=>?_,fun i hi bT=>?_⟩
  ·rcases hi with hi|hi
   ·rw[bI i hi];exact bh.outer.lt
   obtain⟨j,cZ,rfl⟩:=Od5 hi
   exact(bh.rows j _ _ (Oa3 cZ) (Oa3 (by rw[←bh.len];exact cZ))).lt
  exact(bh.from_.2 i bT).2 (bI i hi)
 obtain⟨n,da⟩:∃ n,n=rs.length:=⟨_,rfl⟩
 rw[←da]at dU ⊢
 have bx:Hid (n=rs.length):=da
 clear h cS dB R dv da
 go_enter func30,ntmps30
 go_upto_region 1 with fail
 go_loopw [4] (fun i wr=>∃ j:Nat,j≤n∧i=.int .i64 (j:Int)∧Hid (∃ bB cC cB cy,Kss bB wr wb pa Y (u+j) cC cB cy∧(∀ i,X i→bB i)∧(∀ i,bB i→X i∨i∈bs.take j∨w.heap.size≤i)∧Ju (fun i=>X i∨i∈bs.take j) w wr)) (fun i _=>n-(intOf i).toNat)
 case atStart=>exact⟨0,Ob7 _,rfl,(show ∃ bB cC cB cy,_ from ⟨X,cO,cM,G,Z.out.1,fun _ a=>a,fun i a=>.inl a,Ju.refl _ _⟩)⟩
 case round=>
  obtain⟨j,cZ,rfl,A⟩:=hrel
  by_cases bk:j<n
  ·have bS:j<rs.length:=by have:=bx.out;omega
   have cn:j<bs.length:=by have:=bH.out.1;omega
   obtain⟨g,cX,cY⟩:∃ g,a=some ⟨g,0,none⟩∧Jcu w 0 g bs rs:=by
    rcases Z.out.2.1 with⟨_,e,_⟩|bh
    ·rw[e]at bS;simp at bS
    exact bh
   subst cX
   obtain⟨bB,cC,cB,cy,bl,bV,bn,br⟩:=A.out
   have cG:∀ i,(i=g∨i∈bs.drop j)→wr.heap[i]?=w.heap[i]?∧¬ bB i:=fun i hi=>by
    have bC:Ksj (some ⟨g,0,none⟩) rs.length i∨i∈bs:=hi.imp (fun e=>by rw[e];rfl) Oh7
    have dA:i∉bs.take j:=fun bT=>by
     rcases hi with e|e
     ·exact bH.out.2.2.2 i (by rw[e];rfl) (Om9 bT)
     have du:=bH.out.2.1
     rw[←Ok3 j bs,Op3]at du
     exact du.2.2 i bT i e rfl
    have bk:=bH.out.2.2.1 i bC
    refine⟨br.block i bk fun e=>e.elim (Z.out.2.2.2.2 i bC) dA,fun e=>?_⟩
    rcases bn i e with q|q|q
    ·exact Z.out.2.2.2.2 i bC q
    ·exact dA q
    omega
   have dm:wr.cell? ⟨g,j,none⟩=some (.slice (some ⟨bs[j],0,none⟩) rs[j].length rs[j].length):=by
    have:=(cY.outer.of_block (cG g (.inl rfl)).1).cell (i:=j) (by omega)
    have cP:bs.getD j 0=bs[j]:=by simp[cn]
    have cQ:rs.getD j []=rs[j]:=by simp[bS]
    rw[this,cP,cQ]
    rfl
   have cW:bs[j]∈bs.drop j:=Of6 (i:=0) (by rw[Oh9,Nat.add_zero,Oa3 cn])
   have bD:=(cY.rows j _ _ (Oa3 cn) (Oa3 bS)).of_block (cG _ (.inr cW)).1
   have de:=Kuz bl (by have:=Z.out.2.2.2.1;have:=bx.out;omega) bs[j] rs[j] bD (Z.out.2.2.1 _ (Ob3 bS)) (cG _ (.inr cW)).2
   have bX:Hid (bs.take (j+1)=bs.take j++[bs[j]]):=Oc4 cn
   generalize bs[j]=b at dm de bX
   generalize rs[j]=r at dm de
   have bK:Hid (j<n):=bk
   have cf:Hid ((∀ i,X i→bB i)∧(∀ i,bB i→X i∨i∈bs.take j∨w.heap.size≤i)∧Ju (fun i=>X i∨i∈bs.take j) w wr):=⟨bV,bn,br⟩
   have dW:(0:Int)≤(j:Int):=by omega
   have dg:(j:Int)<(n:Int):=by omega
   clear cG cW bD cY bl bV bn br A bS cn
   go_wp2_with (go_at_call 60;refine de.mono ?_;rintro e cI ⟨rfl,cF,dQ,c2,dS,dM,k1,dj,dk⟩)
   go_roundw
   case rel=>
    refine⟨j+1,bK.out,by have:=bK.out;go_num,(show ∃ bB cC cB cy,_ from ⟨dQ,c2,dS,dM,k1,fun i hi=>dj i (cf.out.1 i hi),fun i hi=>?_,?_⟩)⟩
    ·have dI:=cf.out.2.2.size
     rcases dk i hi with q|q|q
     ·rcases cf.out.2.1 i q with q|q|q
      ·exact .inl q
      ·exact .inr (.inl (by rw[bX.out];exact Od2.2 (.inl q)))
      exact .inr (.inr q)
     ·exact .inr (.inl (by rw[bX.out,q];simp))
     exact .inr (.inr (by omega))
    refine(cf.out.2.2.mono fun i _ e=>e.imp id fun q=>by rw[bX.out];exact Od2.2 (.inl q)).trans' cF fun i hi dc=>?_
    rcases dc with q|q
    ·rcases cf.out.2.1 i q with q|q|q
     ·exact .inl q
     ·exact .inr (by rw[bX.out];exact Od2.2 (.inl q))
     omega
    exact .inr (by rw[bX.out,q];simp)
   case measure=>have:=bK.out;simp[intOf];omega
  obtain rfl:j=n:=by omega
  have dh:¬ ((j:Int)<(j:Int)):=by omega
  obtain⟨cA,I,K,dL,bl,bV,bn,br⟩:=A.out
  have dD:bs.take j=bs:=Oc8 (by have:=bH.out.1;have:=bx.out;omega)
  rw[dD]at bn br
  have c2:wr.cell? ⟨wb,2,none⟩=some (.int .i64 I):=by simp[World.cell?,bl.law.cells]
  have dZ:wr.frozen? ⟨wb,2,none⟩=false:=by simp[World.frozen?,bl.law.cells]
  have fa:0≤I∧I≤10000000000:=⟨bl.c0,by have ca:=bl.c1;have bO:=Z.out.2.2.2.1;have cR:=bx.out;omega⟩
  have bi:Hid (∀ i,Ksj a j i→wr.heap[i]?=w.heap[i]?∧¬ cA i∧i<w.heap.size):=fun i hi=>by
   have bC:Ksj a rs.length i:=by rw[←bx.out];exact hi
   have bk:=bH.out.2.2.1 i (.inl bC)
   refine⟨br.block i bk fun e=>e.elim (Z.out.2.2.2.2 i (.inl bC)) (bH.out.2.2.2 i bC),fun e=>?_,bk⟩
   rcases bn i e with q|q|q
   ·exact Z.out.2.2.2.2 i (.inl bC) q
   ·exact bH.out.2.2.2 i bC q
   omega
  have bG:Hid (Kss cA wr wb pa Y (u+j) I K dL∧(∀ i,X i→cA i)∧(∀ i,cA i→X i∨i∈bs∨w.heap.size≤i)∧Ju (fun i=>X i∨i∈bs) w wr):=⟨bl,bV,bn,br⟩
  clear A bl bV bn br dD
  go_upto_region 5 with fail
  clear dh
  obtain⟨W,hW⟩:∃ W,W=wr.setCell ⟨wb,2,none⟩ (.int .i64 (I+1)):=⟨_,rfl⟩
  rw[←hW]
  have ci:Hid (Ksr W wb pa Y (I+1) K∧Ju (fun i=>i=wb) wr W):=by
   rw[hW]
   exact⟨bG.out.1.law.count _,(Ju.refl (fun i=>i=wb) wr).set (b:=wb) rfl 2 _⟩
  clear hW c2 dZ
  have c2:W.cell? ⟨wb,2,none⟩=some (.int .i64 (I+1)):=by simp[World.cell?,ci.out.1.cells]
  have dy:=Ksn (I+1) W
  go_upto_region 7 with(go_at_call 32;refine dy.mono ?_;rintro e cN ⟨rfl,cU⟩)
  clear dy c2
  obtain⟨O,cD⟩:∃ O,O=cN.alloc (.cells #[.int .i64 (-7),.int .i64 (I+1),.string ⟨#[109,97,114,107]⟩] 55):=⟨_,rfl⟩
  rw[←cD]
  have cH:O.heap[cN.heap.size]?=some (.cells #[.int .i64 (-7),.int .i64 (I+1),.string ⟨#[109,97,114,107]⟩] 55 (0,0)):=by rw[cD];exact heap_alloc_new _ _
  have cV:Below W.heap.size W O:=by rw[cD];exact Jc cU _
  obtain⟨J,dG⟩:∃ J,J=cN.heap.size:=⟨_,rfl⟩
  rw[←dG]at cH ⊢
  have cL:Hid (Ksr O wb pa Y (I+1) K∧Ju (fun i=>i=wb) wr O∧O.heap[J]?=some (.cells #[.int .i64 (-7),.int .i64 (I+1),.string ⟨#[109,97,114,107]⟩] 55 (0,0))∧wr.heap.size≤J∧J<O.heap.size∧(∀ i,Kud wb K i→i<wr.heap.size)∧∀ i,Ksj a j i→O.heap[i]?=w.heap[i]?):=by
   have cF:Ju (fun i=>i=wb) wr O:=ci.out.2.trans (Ju.of_below cV)
   have dI:=bG.out.2.2.2.size
   refine⟨ci.out.1.below cV,cF,cH,by have ca:=cU.size;have bO:=ci.out.2.size;omega,Jd cH,bG.out.1.law.lt,fun i hi=>?_⟩
   obtain⟨o1,o2,o3⟩:=bi.out i hi
   exact(cF.block i (by omega) fun e=>o2 (bG.out.1.all i (.inr (.inl e)))).trans o1
  clear cU ci cD cV cH dG
  go_loopw [6] (fun i cJ=>∃ k:Nat,k≤j∧i=.int .i64 (k:Int)∧Hid ((∀ g,a=some ⟨g,0,none⟩→∃ f:Nat→Value,cJ.rowIs g 57 j (fun i=>if i<k then .slice (some ⟨J,0,none⟩) 1 1 else f i))∧Ju (fun i=>Ksj a j i) O cJ)) (fun i _=>j-(intOf i).toNat)
  case atStart=>
   refine⟨0,Ob7 _,rfl,(show _∧_ from ⟨fun g bh=>?_,Ju.refl _ _⟩)⟩
   rcases Z.out.2.1 with⟨e,_,_⟩|⟨bZ,e,bI⟩
   ·rw[e]at bh;cases bh
   rw[e]at bh
   cases bh
   have:=bI.outer.of_block (w':=O) (cL.out.2.2.2.2.2.2 g (by rw[e];rfl))
   rw[←bx.out]at this
   exact⟨fun i=>Jad (bs.getD i 0) (rs.getD i []),this.congr fun i _=>by simp⟩
  case round=>
   obtain⟨k,hk,rfl,A⟩:=hrel
   by_cases bk:k<j
   ·obtain⟨g,cX⟩:∃ g,a=some ⟨g,0,none⟩:=by
     rcases Z.out.2.1 with⟨_,e,_⟩|⟨bZ,e,bI⟩
     ·have:=bx.out;rw[e]at this;simp at this;omega
     ·exact⟨bZ,e⟩
    subst cX
    obtain⟨f,bD⟩:=A.out.1 g rfl
    have dm:=bD.cell bk
    have fe:=bD.frozen k
    have dO:Hid ((∀ bZ,some (⟨g,0,none⟩:Addr)=some ⟨bZ,0,none⟩→∃ f:Nat→Value,(wr.setCell ⟨g,k,none⟩ (.slice (some ⟨J,0,none⟩) 1 1)).rowIs bZ 57 j (fun i=>if i<k+1 then .slice (some ⟨J,0,none⟩) 1 1 else f i))∧Ju (fun i=>Ksj (some ⟨g,0,none⟩) j i) O (wr.setCell ⟨g,k,none⟩ (.slice (some ⟨J,0,none⟩) 1 1))):=by
     refine⟨fun bZ bI=>?_,A.out.2.set (b:=g) rfl _ _⟩
     cases bI
     refine⟨f,(bD.set k (.slice (some ⟨J,0,none⟩) 1 1)).congr fun i _=>?_⟩
     by_cases e:i=k
     ·subst e;simp
     by_cases bO:i<k
     ·simp[e,bO,show i<k+1 by omega]
     simp[e,bO,show ¬ i<k+1 by omega]
    have bK:Hid (k<j):=bk
    have dW:(0:Int)≤(k:Int):=by omega
    have dg:(k:Int)<(j:Int):=by omega
    clear bD
    go_wp2
    go_roundw
    case rel=>exact⟨k+1,bK.out,by have:=bK.out;go_num,dO.out⟩
    case measure=>have:=bK.out;simp[intOf];omega
   obtain rfl:k=j:=by omega
   have dh:¬ ((k:Int)<(k:Int)):=by omega
   have cK:Hid (TkS [.slice (some ⟨J,0,none⟩) 1 1] 57 O (fun i=>Ksj a k i) wb pa Y (I+1) K 6 (K 6).1 [] (fun i=>Ksj a k i) (.slice a k k) k wr):=by
    obtain⟨w1,cI,cb,w4,dJ,cc,dY⟩:=cL.out
    have dI:=A.out.2.size
    have fb:=cI.size
    have fc:=bG.out.2.2.2.size
    have R:upd K 6 ((K 6).1,(K 6).2++[])=K:=by rw[Od7];exact Ku0 K 6
    have dz:∀ i,Ksj a k i→¬ Kud wb K i:=fun i hi e=>(bi.out i hi).2.1 (bG.out.1.all i (.inr e))
    refine⟨?_,⟨by simp,by simp,by simp,by simp⟩,?_,fun b bf=>?_,fun b bf=>bf,?_,fun b bf=>.inl bf⟩
    ·rw[R]
     exact w1.stands fun i hi=>A.out.2.block i (w1.lt i hi) fun e=>dz i e hi
    ·rcases Z.out.2.1 with⟨cP,cQ,_⟩|⟨g,e,bI⟩
     ·have h0:k=0:=by rw[bx.out,cQ];rfl
      rw[cP,h0]
      exact⟨rfl,.inl ⟨rfl,rfl⟩⟩
     obtain⟨f,bD⟩:=A.out.1 g e
     rw[e]
     refine Ky1 (xc:=[.slice (some ⟨J,0,none⟩) 1 1]) (f:=fun i=>if i<k then .slice (some ⟨J,0,none⟩) 1 1 else f i) (by simpa using bD) (fun i hi=>?_) (by unfold maxLen;omega)
     have dw:i<k:=by simpa using hi
     have:=Kwj [.slice (some ⟨J,0,none⟩) 1 1] k i 0 dw (by simp)
     simp only[List.length_singleton,Nat.mul_one,Nat.add_zero]at this
     rw[this]
     simp[dw]
    ·rw[R]
     obtain⟨o1,o2,o3⟩:=bi.out b bf
     exact⟨.inl bf,by omega,dz b bf⟩
    exact A.out.2.mono fun i _ e=>.inr (.inr e)
   clear A
   obtain⟨x',dE⟩:∃ x',x'=(K 6).1:=⟨_,rfl⟩
   rw[←dE]at cK
   clear dE
   have A:Hid (TkS [.slice (some ⟨J,0,none⟩) 1 1] 57 O (fun i=>Ksj a k i) wb pa Y (I+1) K 6 x' [] (fun i=>Ksj a k i) (.slice a k k) k wr):=cK.out
   have dq:Hid ((K 6).2.length≤100000000000):=by
    have ca:=bG.out.1.few 6 (by unfold Krw;omega)
    have bO:=Z.out.2.2.2.1
    have cR:=bx.out
    show _≤_
    omega
   have cz:Hid ((K 6).2.length≤100000000000∧([]:List LEn).length≤4):=⟨dq.out,by simp⟩
   clear cK
   go_upto_region 10 with fail
   clear dh
   obtain⟨ba,bb,bU⟩:=Jcz (A.out.law.own 6 (by unfold Krw;omega))
   rw[Kp]at bU
   simp only at bU
   subst bU
   obtain⟨L,bP⟩:∃ L,L=((K 6).2++[]).length:=⟨_,rfl⟩
   rw[←bP]at A
   have bA:Hid (L=((K 6).2++[]).length):=bP
   clear bP
   have cx:wr.cell? ⟨wb,6,none⟩=some (.slice ba L bb):=by simp[World.cell?,A.out.law.cells,upd]
   have cv:wr.cell? ⟨wb,2,none⟩=some (.int .i64 (I+1)):=by simp[World.cell?,A.out.law.cells]
   refine Kr7 15 (S:=fun M=>M.cell? ⟨wb,6,none⟩=some (.slice ba L bb)∧M.cell? ⟨wb,2,none⟩=some (.int .i64 (I+1))) (by kernel_rfl) ⟨Jh cx,Jh cv⟩ (fun H=>?_)
   refine tkm 0 rfl H ?_
   refine tkm 1 rfl H ?_
   refine tkm 2 rfl H ?_
   refine tkm 3 rfl H ?_
   refine tkm 4 rfl H ?_
   refine tkm 5 rfl H ?_
   refine tkn ?_
   refine tkm 6 rfl H ?_
   refine tkm 7 rfl H ?_
   refine tkm 8 rfl H ?_
   refine tkm 9 rfl H ?_
   refine tkm 10 rfl H ?_
   refine tkn ?_
   clear cx cv
   obtain⟨M,bQ⟩:∃ M,M=wr.drew:=⟨_,rfl⟩
   rw[←bQ]at H ⊢
   have HZ:Hid (TkS [.slice (some ⟨J,0,none⟩) 1 1] 57 O (fun i=>Ksj a k i) wb pa Y (I+1) K 6 (.slice ba L bb) [] (fun i=>Ksj a k i) (.slice a k k) k M):=by
    rw[bQ]
    exact⟨A.out.law.stands fun _ _=>rfl,A.out.tk.frame (Oa2 _) (fun _ _=>rfl) fun _ q=>q,Jl A.out.own fun _ _=>rfl,A.out.dd,A.out.svD,A.out.keep.drewN 1,A.out.new⟩
   clear bQ A
   refine Krx 11 rfl (fun U N=>?_)
   go_simp
   have bR:Below M.heap.size M (M.alloc (.cells #[.slice a k k,.int .i64 (I+1)] 96)):=Jc (Oa5 _ _) _
   refine N.out _ _ ⟨Ja bR H.1,Ja bR H.2⟩ (fun H=>?_)
   clear N U bR H
   have bi:Hid ((M.alloc (.cells #[.slice a k k,.int .i64 (I+1)] 96)).ownsRow 0 96 2 (.slice ba L bb) L (((K 6).2++[]).flatMap LEn.cells)):=by
    have:=Jbm (HZ.out.law.own 6 (by unfold Krw;omega)) (.cells #[.slice a k k,.int .i64 (I+1)] 96)
    rw[Kp]at this
    simp only at this
    rw[←bA.out]at this
    exact this
   refine Krx 12 rfl (fun U N=>?_)
   refine Ksi rfl (.tmp 48) (.tmp 55) 49 96 _ 2 32 (Ktj 6) rfl (by decide) (by decide) (by kernel_rfl) rfl (.slice ba L bb) L (((K 6).2++[]).flatMap LEn.cells) rfl bi.out ⟨M.heap.size,0,none⟩ 1 (LEn.cells ⟨a,k,k,(I+1)⟩) rfl rfl (fun di dn R=>World.news_of_block (w:=M.alloc (.cells #[.slice a k k,.int .i64 (I+1)] 96)) (heap_alloc_new M _) di dn (by simpa [LEn.cells] using R)) (fun u R=>by simp[LEn.cells]at R;rcases R with rfl|rfl<;>rfl) (by have ca:=bA.out;have bO:=cz.out;rw[Oa8]at ca;omega) (fun y w4 bu bz bJ=>?_)
   obtain⟨bM,bN,db⟩:=Jcz bu
   subst db
   have bW:Hid (TkS [.slice (some ⟨J,0,none⟩) 1 1] 57 O (fun i=>Ksj a k i) wb pa Y (I+1) K 6 (.slice bM (L+1) bN) ([]++[⟨a,k,k,(I+1)⟩]) (fun i=>Ksj a k i) (.slice a k k) k (w4.setCell ⟨wb,6,none⟩ (.slice bM (L+1) bN))):=
    HZ.out.push (by unfold Krw;omega) rfl (by rw[←bA.out];exact bu) bz (bJ.imp id fun q=>q.1)
   have bE:w4.heap[wb]?=M.heap[wb]?:=(bz.block wb (by have:=Jd HZ.out.law.cells;rw[Oa7];omega) fun e=>by have:=HZ.out.law.n0 6 (by unfold Krw;omega);rw[Kp]at this;exact this e.symm).trans (Oa9 _ _ _ (Jd HZ.out.law.cells))
   have ck:w4.cell? ⟨wb,6,none⟩=some (.slice ba L bb):=by simp[World.cell?,bE,HZ.out.law.cells,upd]
   have cj:w4.cell? ⟨wb,2,none⟩=some (.int .i64 (I+1)):=by simp[World.cell?,bE,HZ.out.law.cells]
   have dp:w4.frozen? ⟨wb,6,none⟩=false:=by simp[World.frozen?,bE,HZ.out.law.cells]
   refine N.out _ _ ⟨ck,cj⟩ (fun H=>?_)
   clear N U bE bu bz bJ bi HZ
   simp only[Act.put,List.getElem_toArray,List.getElem_cons_zero,List.getElem_cons_succ,Oa1,List.set_cons_zero,List.set_cons_succ]
   refine Krx 13 rfl (fun U N=>?_)
   go_simp
   refine N.out _ _ H (fun H=>?_)
   clear N U
   refine tkm 14 rfl H ?_
   refine tkn ?_
   refine Ksc rfl (fun U N=>?_)
   go_simp
   refine N.out _ _ ?_
   clear N U ck cj dp H bA
   generalize w4.setCell ⟨wb,6,none⟩ (.slice bM (L+1) bN)=bY at bW ⊢
   go_upto_region 13 with fail
   go_loopw [7,8] (fun sv dl cJ=>∃ (p:Nat) (x':Value) (bc:List LEn) (D:Nat→Prop),dl=.int .i64 (p:Int)∧p≤3∧bc.length=p+1∧Hid (TkS [.slice (some ⟨J,0,none⟩) 1 1] 57 O (fun i=>Ksj a k i) wb pa Y (I+1) K 6 x' bc D sv (k+p) cJ)) (fun _ dl _=>3-(intOf dl).toNat)
   case atStart=>exact⟨0,_,_,_,rfl,by omega,rfl,bW.out⟩
   case round=>
    clear bW cz
    obtain⟨p,x',bc,D,rfl,hk,cE,A⟩:=hrel
    by_cases bk:p<3
    ·obtain⟨m,bT⟩:∃ m,m=k+p:=⟨_,rfl⟩
     rw[←bT]at A
     obtain⟨dt,c3,cR⟩:=Jcz A.out.own
     subst cR
     have bL:Hid (k+(p+1)=m+1∧p<3∧bc.length=p+1∧m≤2000):=⟨by omega,bk,cE,by omega⟩
     have dg:(p:Int)<3:=by omega
     clear bT cE
     have ds:Hid (∀ o,(wr.alloc o).ownsRow 0 57 1 (.slice dt m c3) m (Ks5 [.slice (some ⟨J,0,none⟩) 1 1] m)):=fun o=>Jbm A.out.own o
     go_upto_region 16 with(at_builtin;go_must (refine Ksy (by rfl) _ _ 28 57 _ 1 24 Jip (by rfl) (by decide) (by decide) (by kernel_rfl) (by rfl) (.slice dt m c3) m (Ks5 [.slice (some ⟨J,0,none⟩) 1 1] m) (by rfl) (ds.out _) ⟨wr.heap.size,0,none⟩ 1 [.slice (some ⟨J,0,none⟩) 1 1] (by rfl) rfl (by exact Ua wr _ _) (by intro u R;simp at R;subst R;rfl) (by have:=bL.out.2.2.2;omega) ?_);intro sv' cb bu bz bJ)
     clear ds dg
     obtain⟨bj,c5,dT⟩:=Jcz bu
     subst dT
     have dr:=A.out.grow bu bz bJ
     clear A bu bz bJ
     have A:Hid _:=dr
     have cz:Hid ((K 6).2.length≤100000000000∧bc.length≤4):=⟨dq.out,by have:=bL.out;omega⟩
     clear dr
     obtain⟨ba,bb,bU⟩:=Jcz (A.out.law.own 6 (by unfold Krw;omega))
     rw[Kp]at bU
     simp only at bU
     subst bU
     obtain⟨L,bP⟩:∃ L,L=((K 6).2++bc).length:=⟨_,rfl⟩
     rw[←bP]at A
     have bA:Hid (L=((K 6).2++bc).length):=bP
     clear bP
     have cx:cb.cell? ⟨wb,6,none⟩=some (.slice ba L bb):=by simp[World.cell?,A.out.law.cells,upd]
     have cv:cb.cell? ⟨wb,2,none⟩=some (.int .i64 (I+1)):=by simp[World.cell?,A.out.law.cells]
     refine Kr7 15 (S:=fun M=>M.cell? ⟨wb,6,none⟩=some (.slice ba L bb)∧M.cell? ⟨wb,2,none⟩=some (.int .i64 (I+1))) (by kernel_rfl) ⟨Jh cx,Jh cv⟩ (fun H=>?_)
     refine tkm 0 rfl H ?_
     refine tkm 1 rfl H ?_
     refine tkm 2 rfl H ?_
     refine tkm 3 rfl H ?_
     refine tkm 4 rfl H ?_
     refine tkm 5 rfl H ?_
     refine tkn ?_
     refine tkm 6 rfl H ?_
     refine tkm 7 rfl H ?_
     refine tkm 8 rfl H ?_
     refine tkm 9 rfl H ?_
     refine tkm 10 rfl H ?_
     refine tkn ?_
     clear cx cv
     obtain⟨M,bQ⟩:∃ M,M=cb.drew:=⟨_,rfl⟩
     rw[←bQ]at H ⊢
     have HZ:Hid (TkS [.slice (some ⟨J,0,none⟩) 1 1] 57 O (fun i=>Ksj a k i) wb pa Y (I+1) K 6 (.slice ba L bb) bc (fun b=>D b∨(Value.slice bj (m+1) c5).ownBlock=some b) (.slice bj (m+1) c5) (m+1) M):=by
      rw[bQ]
      exact⟨A.out.law.stands fun _ _=>rfl,A.out.tk.frame (Oa2 _) (fun _ _=>rfl) fun _ q=>q,Jl A.out.own fun _ _=>rfl,A.out.dd,A.out.svD,A.out.keep.drewN 1,A.out.new⟩
     clear bQ A
     refine Krx 11 rfl (fun U N=>?_)
     go_simp
     have bR:Below M.heap.size M (M.alloc (.cells #[.slice bj (m+1) c5,.int .i64 (I+1)] 96)):=Jc (Oa5 _ _) _
     refine N.out _ _ ⟨Ja bR H.1,Ja bR H.2⟩ (fun H=>?_)
     clear N U bR H
     have bi:Hid ((M.alloc (.cells #[.slice bj (m+1) c5,.int .i64 (I+1)] 96)).ownsRow 0 96 2 (.slice ba L bb) L (((K 6).2++bc).flatMap LEn.cells)):=by
      have:=Jbm (HZ.out.law.own 6 (by unfold Krw;omega)) (.cells #[.slice bj (m+1) c5,.int .i64 (I+1)] 96)
      rw[Kp]at this
      simp only at this
      rw[←bA.out]at this
      exact this
     refine Krx 12 rfl (fun U N=>?_)
     refine Ksi rfl (.tmp 72) (.tmp 79) 49 96 _ 2 32 (Ktj 6) rfl (by decide) (by decide) (by kernel_rfl) rfl (.slice ba L bb) L (((K 6).2++bc).flatMap LEn.cells) rfl bi.out ⟨M.heap.size,0,none⟩ 1 (LEn.cells ⟨bj,(m+1),c5,(I+1)⟩) rfl rfl (fun di dn R=>World.news_of_block (w:=M.alloc (.cells #[.slice bj (m+1) c5,.int .i64 (I+1)] 96)) (heap_alloc_new M _) di dn (by simpa [LEn.cells] using R)) (fun u R=>by simp[LEn.cells]at R;rcases R with rfl|rfl<;>rfl) (by have ca:=bA.out;have bO:=cz.out;rw[Oa8]at ca;omega) (fun y w4 bu bz bJ=>?_)
     obtain⟨bM,bN,db⟩:=Jcz bu
     subst db
     have bW:Hid (TkS [.slice (some ⟨J,0,none⟩) 1 1] 57 O (fun i=>Ksj a k i) wb pa Y (I+1) K 6 (.slice bM (L+1) bN) (bc++[⟨bj,(m+1),c5,(I+1)⟩]) (fun b=>D b∨(Value.slice bj (m+1) c5).ownBlock=some b) (.slice bj (m+1) c5) (m+1) (w4.setCell ⟨wb,6,none⟩ (.slice bM (L+1) bN))):=
      HZ.out.push (by unfold Krw;omega) rfl (by rw[←bA.out];exact bu) bz (bJ.imp id fun q=>q.1)
     have bE:w4.heap[wb]?=M.heap[wb]?:=(bz.block wb (by have:=Jd HZ.out.law.cells;rw[Oa7];omega) fun e=>by have:=HZ.out.law.n0 6 (by unfold Krw;omega);rw[Kp]at this;exact this e.symm).trans (Oa9 _ _ _ (Jd HZ.out.law.cells))
     have ck:w4.cell? ⟨wb,6,none⟩=some (.slice ba L bb):=by simp[World.cell?,bE,HZ.out.law.cells,upd]
     have cj:w4.cell? ⟨wb,2,none⟩=some (.int .i64 (I+1)):=by simp[World.cell?,bE,HZ.out.law.cells]
     have dp:w4.frozen? ⟨wb,6,none⟩=false:=by simp[World.frozen?,bE,HZ.out.law.cells]
     refine N.out _ _ ⟨ck,cj⟩ (fun H=>?_)
     clear N U bE bu bz bJ bi HZ
     simp only[Act.put,List.getElem_toArray,List.getElem_cons_zero,List.getElem_cons_succ,Oa1,List.set_cons_zero,List.set_cons_succ]
     refine Krx 13 rfl (fun U N=>?_)
     go_simp
     refine N.out _ _ H (fun H=>?_)
     clear N U
     refine tkm 14 rfl H ?_
     refine tkn ?_
     refine Ksc rfl (fun U N=>?_)
     go_simp
     refine N.out _ _ ?_
     clear N U ck cj dp H bA
     generalize w4.setCell ⟨wb,6,none⟩ (.slice bM (L+1) bN)=bY at bW ⊢
     go_wp2
     go_roundw
     case rel=>exact⟨p+1,_,bc++[⟨bj,m+1,c5,I+1⟩],_,by have:=bL.out;go_num,by have:=bL.out;omega,by rw[Oa8,bL.out.2.2.1];rfl,by rw[bL.out.1];exact bW.out⟩
     case measure=>have:=bL.out;simp[intOf];omega
    obtain rfl:p=3:=by omega
    have dN:Hid (bc.length=4):=cE
    clear cE
    go_wp2
    go_end0
    refine⟨rfl,?_⟩
    obtain⟨w1,cI,cb,w4,dJ,cc,dY⟩:=cL.out
    obtain⟨bl,bV,bn,br⟩:=bG.out
    have fd:=br.size
    have cu:=A.out.low cI
    have dV:∀ bY:World,Ju (fun i=>i=wb∨(K 6).1.ownBlock=some i∨Ksj a k i) O bY→bY.heap[J]?=some (.cells #[.int .i64 (-7),.int .i64 (I+1),.string ⟨#[109,97,114,107]⟩] 55 (0,0)):=fun bY cT=>(cT.block J dJ fun e=>by
     rcases e with e|e|e
     ·have:=cc wb (.inl rfl);omega
     ·have:=cc J (.inr ⟨6,by unfold Krw;omega,e⟩);omega
     have:=(bi.out J e).2.2;omega).trans cb
    have dH:=dV _ A.out.keep
    obtain⟨k1,dP,dR,dK,dj,dk,dX⟩:=bl.take (r:=6) (by unfold Krw;omega) cu dN.out (fun e cl=>by have:=cu.tk.pre e cl;omega) (E:=(·=J)) (fun b bf=>by obtain⟨o1,o2,o3⟩:=bi.out b bf;exact⟨o2,by omega⟩) (fun b bf=>by
     rw[bf]
     refine⟨w4,Jd dH,fun e=>?_⟩
     rcases e with e|⟨s,hs,e⟩
     ·have:=cc wb (.inl rfl);omega
     ·by_cases dC:s=6
      ·subst dC
       rw[Kp]at e
       rcases A.out.new J e with q|q
       ·have:=cc J (.inr ⟨6,by unfold Krw;omega,q⟩);omega
       omega
      rw[Kr8 K _ dC]at e
      have:=cc J (.inr ⟨s,hs,e⟩);omega) (fun e cl bY cT dx=>by
     unfold RdL
     rw[if_neg (by decide),if_neg (by decide)]
     refine⟨J,1,(cu.tk.rd e cl).of_block cT fun b bf=>dx b (.inl (cu.tk.at_ e cl b bf)),?_⟩
     rw[cu.tk.num e cl]
     have df:=(dx J (.inr rfl)).trans dH
     exact⟨by simp[World.cell?,df,mkV],by simp[World.cell?,df,mkV],by simp[World.cell?,df,mkV]⟩)
    have bS:=bx.out
    refine⟨?_,dP,_,dR,dK,dj,fun i hi=>dk i (bV i hi),fun i hi=>?_⟩
    ·refine(br.mono fun i _ e=>e.imp id .inr).trans' k1 fun i hi dc=>?_
     rcases dc with q|q
     ·rcases bn i q with q|q|q
      ·exact .inl q
      ·exact .inr (.inr q)
      omega
     exact .inr (.inl q)
    rcases dX i hi with q|q|q
    ·rcases bn i q with q|q|q
     ·exact .inl q
     ·exact .inr (.inl (.inr q))
     exact .inr (.inr q)
    ·exact .inr (.inl (.inl q))
    exact .inr (.inr (by omega))
attribute [local go_sem] Oc0
theorem Ksr.row {w:World}{wb pa Y:Nat}{K:Int}{A:Ksl}(h:Ksr w wb pa Y K A){r:Nat}(R:Krw r){i:Nat}{e:LEn}(J:(A r).2[i]?=some e):∃ g cap,(A r).1=.slice (some ⟨g,0,none⟩) (A r).2.length cap∧w.cell? ⟨g,i*2,none⟩=some (.slice e.a e.len e.cap)∧w.cell? ⟨g,i*2+1,none⟩=some (.int .i64 e.n):=by
 have hi:i<(A r).2.length:=(Ob9.1 J).1
 obtain⟨bh,L⟩:=h.own r R
 rcases L with⟨_,h0⟩|⟨g,cap,Z,U,bf,O,ba,bb,bc,M⟩
 ·omega
 have N:∀ j,j<2→((A r).2.flatMap LEn.cells)[i*2+j]?=(e.cells)[j]?:=fun j H=>by
  rw[Ks7 LEn.cells 2 _ (fun x _=>rfl) i j H,J]
  rfl
 have I:∀ j v,j<2→(e.cells)[j]?=some v→w.cell? ⟨g,i*2+j,none⟩=some v:=fun j v H X=>by
  have:=N j H
  rw[X,←M,Oh3 (by omega),Oe6]at this
  simp[World.cell?,O,this]
 exact⟨g,cap,U,I 0 _ (by omega) rfl,I 1 _ (by omega) rfl⟩
theorem Kuw (n:Int)(w:World):(binOp .neq 55 (.agg #[.int .i64 (-7),.int .i64 n,.string ⟨#[109,97,114,107]⟩]) (.agg #[.int .i64 (-7),.int .i64 n,.string ⟨#[109,97,114,107]⟩])).run prog w=.ok (.bool false) w:=by
 rw[Jph]
 simp[veq]
 rfl
theorem Kyl {cf:Nat→Prop}{w:World}{wb pa cF u:Nat}{cu:Int}{K:Ksl}{G:Nat→Prop}(h:Kss cf w wb pa cF u cu K G)(cL:u≤10000000000) :
  Calls prog 9 #[.pointer (some ⟨wb,0,none⟩)] w fun e w'=>e=.returned (.bool true)∧Below w.heap.size w w':=by
 have bH:Hid (∀ I,Below w.heap.size w I→Kss cf I wb pa cF u cu K G):=fun I O=>h.below O
 obtain⟨cj,cn,bJ⟩:=Jcz (h.law.own 4 (by unfold Krw;omega))
 obtain⟨ck,bU,bK⟩:=Jcz (h.law.own 5 (by unfold Krw;omega))
 obtain⟨ci,bT,bL⟩:=Jcz (h.law.own 6 (by unfold Krw;omega))
 obtain⟨X,bV⟩:∃ X,X=(K 4).2.length:=⟨_,rfl⟩
 obtain⟨R,bW⟩:∃ R,R=(K 5).2.length:=⟨_,rfl⟩
 obtain⟨U,bX⟩:∃ U,U=(K 6).2.length:=⟨_,rfl⟩
 rw[←bV]at bJ
 rw[←bW]at bK
 rw[←bX]at bL
 have bh:Hid (∀ I,Below w.heap.size w I→I.cell? ⟨wb,3,none⟩=some (.slice none 0 0)∧I.cell? ⟨wb,4,none⟩=some (.slice cj X cn)∧I.cell? ⟨wb,5,none⟩=some (.slice ck R bU)∧I.cell? ⟨wb,6,none⟩=some (.slice ci U bT)):=fun I O=>by
  have bE:=(bH.out I O).law.cells
  rw[bJ,bK,bL]at bE
  exact⟨by simp[World.cell?,bE],by simp[World.cell?,bE],by simp[World.cell?,bE],by simp[World.cell?,bE]⟩
 have bI:Hid (∀ I,Below w.heap.size w I→∀ r,Krw r→∀ (i:Nat) e,(K r).2[i]?=some e→(∃ g cap,(K r).1=.slice (some ⟨g,0,none⟩) (K r).2.length cap∧I.cell? ⟨g,i*2,none⟩=some (.slice e.a e.len e.cap)∧I.cell? ⟨g,i*2+1,none⟩=some (.int .i64 e.n))∧RdL r I e):=fun I O r bB i e M=>⟨(bH.out I O).law.row bB M,(bH.out I O).rd r bB e (Of6 M) I (Oa2 _) fun _ _=>rfl⟩
 have bz:Hid (X=(K 4).2.length∧R=(K 5).2.length∧U=(K 6).2.length∧(K 4).1=.slice cj X cn∧(K 5).1=.slice ck R bU∧(K 6).1=.slice ci U bT):=⟨bV,bW,bX,bJ,bK,bL⟩
 have cH:Hid (∀ r,Krw r→∀ e∈(K r).2,e.n≤9223372036854775807):=fun r bB e M=>by have:=h.num r bB e M;omega
 have bP:Hid (∀ r,Krw r→∀ e∈(K r).2,e.len≤1000000000000):=fun r bB e M=>h.lens r bB e M
 have cM:X≤40000000000:=by have:=h.few 4 (by unfold Krw;omega);omega
 have cN:R≤40000000000:=by have:=h.few 5 (by unfold Krw;omega);omega
 have cO:U≤40000000000:=by have:=h.few 6 (by unfold Krw;omega);omega
 clear h cL bJ bK bL bV bW bX bH
 obtain⟨c3,c4,c5,bi⟩:=bh.out w (Oa5 _ _)
 go_enter func9,ntmps9
 go_upto_region 2 with fail
 go_loopw [3] (fun i wr=>i=.int .i64 0∧wr=w) (fun _ _=>0)
 case atStart=>exact⟨rfl,rfl⟩
 case round=>
  obtain⟨rfl,cA⟩:=hrel
  rw[cA]
  clear cA
  go_upto_region 10 with fail
  clear c3 c4 c5 bi
  go_loopw [5] (fun i bb=>∃ j:Nat,j≤X∧i=.int .i64 (j:Int)∧Below w.heap.size w bb) (fun i _=>X-(intOf i).toNat)
  case atStart=>exact⟨0,Ob7 _,rfl,Oa5 _ _⟩
  case round=>
   obtain⟨j,cx,rfl,H⟩:=hrel
   obtain⟨_,c4,_,_⟩:=bh.out wr H
   have bk:Hid (Below w.heap.size w wr):=H
   by_cases bG:j<X
   ·obtain⟨e,M⟩:∃ e,(K 4).2[j]?=some e:=⟨_,Oa3 (by have:=bz.out.1;omega)⟩
    have bn:Hid ((K 4).2[j]?=some e):=M
    obtain⟨⟨g,cap,J,bf,bx⟩,_⟩:=bI.out wr H 4 (by unfold Krw;omega) j e M
    rw[bz.out.2.2.2.1]at J
    injection J with J _ _
    subst J
    have cz:=Kvy e.n (cH.out 4 (by unfold Krw;omega) e (Of6 M)) wr
    have Z:Hid (j<X):=bG
    have cB:(0:Int)≤(j:Int):=by omega
    have cC:(j:Int)<(X:Int):=by omega
    clear H M
    go_upto_region 14 with(go_at_call 31;refine cz.mono ?_;rintro bA cI ⟨rfl,cv⟩)
    clear cz bf bx c4
    have cG:Hid (Below w.heap.size w cI):=Jb bk.out cv
    clear cv
    go_loopw [7] (fun i bb=>∃ k:Nat,k≤e.len∧i=.int .i64 (k:Int)∧Below w.heap.size w bb) (fun i _=>e.len-(intOf i).toNat)
    case atStart=>exact⟨0,Ob7 _,rfl,cG.out⟩
    case round=>
     obtain⟨k,hk,rfl,H⟩:=hrel
     obtain⟨_,c4,_,_⟩:=bh.out wr H
     obtain⟨⟨cP,cl,J,bf,bx⟩,L⟩:=bI.out wr H 4 (by unfold Krw;omega) j e bn.out
     rw[bz.out.2.2.2.1]at J
     injection J with J _ _
     injection J with J
     injection J with J
     subst J
     have bl:Hid (Below w.heap.size w wr):=H
     have cy:e.len≤1000000000000:=bP.out 4 (by unfold Krw;omega) e (Of6 bn.out)
     by_cases br:k<e.len
     ·unfold RdL at L
      rw[if_pos rfl]at L
      obtain⟨b,O,_,bc⟩:=L k br
      have bN:=bc 0 _ rfl
      rw[List.length_singleton,Nat.mul_one,Nat.add_zero]at bN
      have ba:Hid (k<e.len):=br
      have k1:(0:Int)≤(k:Int):=by omega
      have cD:(k:Int)<(e.len:Int):=by omega
      rw[O]at bf
      clear bc L O H
      go_wp2
      go_roundw
      case rel=>exact⟨k+1,ba.out,by have:=ba.out;go_num,bl.out⟩
      case measure=>have:=ba.out;simp[intOf];omega
     obtain rfl:k=e.len:=by omega
     have cE:¬ ((e.len:Int)<(e.len:Int)):=by omega
     clear L H
     go_wp2
     go_roundw
     case rel=>exact⟨j+1,Z.out,by have:=Z.out;go_num,bl.out⟩
     case measure=>have:=Z.out;simp[intOf];omega
   obtain rfl:j=X:=by omega
   have bM:¬ ((j:Int)<(j:Int)):=by omega
   clear H
   go_upto_region 19 with fail
   clear bM c4
   have cb:Hid (Below w.heap.size w wr):=bk.out
   obtain⟨bR,bS,c5,cK⟩:=bh.out wr cb.out
   clear bR bS cK
   go_loopw [8] (fun i bb=>∃ j:Nat,j≤R∧i=.int .i64 (j:Int)∧Below w.heap.size w bb) (fun i _=>R-(intOf i).toNat)
   case atStart=>exact⟨0,Ob7 _,rfl,cb.out⟩
   case round=>
    clear c5
    obtain⟨j,cx,rfl,H⟩:=hrel
    obtain⟨_,_,c5,_⟩:=bh.out wr H
    have bk:Hid (Below w.heap.size w wr):=H
    by_cases bG:j<R
    ·obtain⟨e,M⟩:∃ e,(K 5).2[j]?=some e:=⟨_,Oa3 (by have:=bz.out.2.1;omega)⟩
     have bn:Hid ((K 5).2[j]?=some e):=M
     have Z:Hid (j<R):=bG
     have cB:(0:Int)≤(j:Int):=by omega
     have cC:(j:Int)<(R:Int):=by omega
     clear H M
     go_upto_region 22 with fail
     clear c5
     go_loopw [9] (fun i bb=>∃ k:Nat,k≤e.len∧i=.int .i64 (k:Int)∧Below w.heap.size w bb) (fun i _=>e.len-(intOf i).toNat)
     case atStart=>exact⟨0,Ob7 _,rfl,bk.out⟩
     case round=>
      obtain⟨k,hk,rfl,H⟩:=hrel
      obtain⟨_,_,c5,_⟩:=bh.out wr H
      obtain⟨⟨g,cl,J,bf,bx⟩,L⟩:=bI.out wr H 5 (by unfold Krw;omega) j e bn.out
      rw[bz.out.2.2.2.2.1]at J
      injection J with J hq1 hq2
      clear hq1 hq2
      rw[J]at c5
      have bl:Hid (Below w.heap.size w wr):=H
      have cy:e.len≤1000000000000:=bP.out 5 (by unfold Krw;omega) e (Of6 bn.out)
      by_cases br:k<e.len
      ·unfold RdL at L
       rw[if_neg (by decide),if_pos rfl]at L
       obtain⟨b,O,_,bc⟩:=L k br
       have bj:=bc 0 _ rfl
       have bu:=bc 1 _ rfl
       have m2:=bc 2 _ rfl
       rw[show (mkV e.n).cells.length=3 from rfl]at bj bu m2
       rw[Nat.add_zero]at bj
       simp only[mkV]at bj bu m2
       have ba:Hid (k<e.len):=br
       have k1:(0:Int)≤(k:Int):=by omega
       have cD:(k:Int)<(e.len:Int):=by omega
       rw[O]at bf
       clear bc L O H J
       have bC:Hid (∀ I,Calls prog 32 #[.int .i64 e.n] I fun bA w'=>bA=.returned (.agg #[.int .i64 (-7),.int .i64 e.n,.string ⟨#[109,97,114,107]⟩])∧Below I.heap.size I w'):=fun I=>Ksn e.n I
       have bY:=Kuw e.n
       go_upto_region 24 with fail
       refine wp_region_held_drew (S:=fun Y=>Y.cell? ⟨wb,5,none⟩=some (.slice (some ⟨g,0,none⟩) R bU)∧Y.cell? ⟨g,j*2,none⟩=some (.slice (some ⟨b,0,none⟩) e.len e.cap)∧Y.cell? ⟨g,j*2+1,none⟩=some (.int .i64 e.n)∧Y.cell? ⟨b,k*3,none⟩=some (.int .i64 (-7))∧Y.cell? ⟨b,k*3+1,none⟩=some (.int .i64 e.n)∧Y.cell? ⟨b,k*3+2,none⟩=some (.string ⟨#[109,97,114,107]⟩)) (by kernel_rfl) ⟨Jh c5,Jh bf,Jh bx,Jh bj,Jh bu,Jh m2⟩ (fun A=>?_)
       refine Kn 0 rfl A ?_
       refine Kn 1 rfl A ?_
       refine Kn 2 rfl A ?_
       refine Kn 3 rfl A ?_
       refine Kn 4 rfl A ?_
       refine Kn 5 rfl A ?_
       refine tkn ?_
       refine Kn 6 rfl A ?_
       refine Kn 7 rfl A ?_
       refine Kn 8 rfl A ?_
       refine Kn 9 rfl A ?_
       refine tkn ?_
       refine Kn 10 rfl A ?_
       refine Kn 11 rfl A ?_
       refine Kn 12 rfl A ?_
       refine Kn 13 rfl A ?_
       refine tkn ?_
       refine Kn 14 rfl A ?_
       refine Kn 15 rfl A ?_
       refine Kn 16 rfl A ?_
       refine tkn ?_
       refine Kn 17 rfl A ?_
       refine Kn 18 rfl A ?_
       refine tkn ?_
       refine tkr 19 rfl fun bQ bD=>?_
       go_simp
       refine(bC.out wr.drew).mono ?_
       rintro bA bZ ⟨rfl,N⟩
       have bO:Hid (Below w.heap.size w bZ):=Jb bl.out (Jb (Jj (Oa5 _ wr)) N)
       go_simp
       refine bD.out _ _ ⟨Ja N A.1,Ja N A.2.1,Ja N A.2.2.1,Ja N A.2.2.2.1,Ja N A.2.2.2.2.1,Ja N A.2.2.2.2.2⟩ (fun A=>?_)
       clear bD bQ N bC
       refine Kn 20 rfl A ?_
       refine tkn ?_
       refine wpAnyH_done (by kernel_rfl) ?_ _
       clear A c5 bf bx bj bu m2 bY
       go_wp2
       go_roundw
       case rel=>exact⟨k+1,ba.out,by have:=ba.out;go_num,bO.out⟩
       case measure=>have:=ba.out;simp[intOf];omega
      obtain rfl:k=e.len:=by omega
      have cE:¬ ((e.len:Int)<(e.len:Int)):=by omega
      clear L H J
      go_wp2
      go_roundw
      case rel=>exact⟨j+1,Z.out,by have:=Z.out;go_num,bl.out⟩
      case measure=>have:=Z.out;simp[intOf];omega
    obtain rfl:j=R:=by omega
    have bM:¬ ((j:Int)<(j:Int)):=by omega
    clear H
    go_upto_region 27 with fail
    clear bM c5
    have cc:Hid (Below w.heap.size w wr):=bk.out
    obtain⟨bR,bS,cJ,bi⟩:=bh.out wr cc.out
    clear bR bS cJ
    go_loopw [10] (fun i bb=>∃ j:Nat,j≤U∧i=.int .i64 (j:Int)∧Below w.heap.size w bb) (fun i _=>U-(intOf i).toNat)
    case atStart=>exact⟨0,Ob7 _,rfl,cc.out⟩
    case round=>
     clear bi
     obtain⟨j,cx,rfl,H⟩:=hrel
     obtain⟨_,_,_,bi⟩:=bh.out wr H
     have bk:Hid (Below w.heap.size w wr):=H
     by_cases bG:j<U
     ·obtain⟨e,M⟩:∃ e,(K 6).2[j]?=some e:=⟨_,Oa3 (by have:=bz.out.2.2.1;omega)⟩
      have bn:Hid ((K 6).2[j]?=some e):=M
      have Z:Hid (j<U):=bG
      have cB:(0:Int)≤(j:Int):=by omega
      have cC:(j:Int)<(U:Int):=by omega
      clear H M
      go_upto_region 30 with fail
      clear bi
      go_loopw [11] (fun i bb=>∃ k:Nat,k≤e.len∧i=.int .i64 (k:Int)∧Below w.heap.size w bb) (fun i _=>e.len-(intOf i).toNat)
      case atStart=>exact⟨0,Ob7 _,rfl,bk.out⟩
      case round=>
       obtain⟨k,hk,rfl,H⟩:=hrel
       obtain⟨_,_,_,bi⟩:=bh.out wr H
       obtain⟨⟨g,cl,J,bf,bx⟩,L⟩:=bI.out wr H 6 (by unfold Krw;omega) j e bn.out
       rw[bz.out.2.2.2.2.2]at J
       injection J with J hq1 hq2
       clear hq1 hq2
       rw[J]at bi
       have bl:Hid (Below w.heap.size w wr):=H
       have cy:e.len≤1000000000000:=bP.out 6 (by unfold Krw;omega) e (Of6 bn.out)
       by_cases br:k<e.len
       ·unfold RdL at L
        rw[if_neg (by decide),if_neg (by decide)]at L
        obtain⟨ca,xc,L,bj,bu,m2⟩:=L
        obtain⟨b,O,_,bc⟩:=L k br
        have bN:=bc 0 _ rfl
        rw[List.length_singleton,Nat.mul_one,Nat.add_zero]at bN
        simp only[mkV,Od0]at bj bu m2
        have ba:Hid (k<e.len):=br
        have k1:(0:Int)≤(k:Int):=by omega
        have cD:(k:Int)<(e.len:Int):=by omega
        rw[O]at bf
        clear bc L O H J
        have bC:Hid (∀ I,Calls prog 32 #[.int .i64 e.n] I fun bA w'=>bA=.returned (.agg #[.int .i64 (-7),.int .i64 e.n,.string ⟨#[109,97,114,107]⟩])∧Below I.heap.size I w'):=fun I=>Ksn e.n I
        have bY:=Kuw e.n
        go_upto_region 33 with fail
        clear bN
        refine wp_region_held_drew (S:=fun Y=>Y.cell? ⟨wb,6,none⟩=some (.slice (some ⟨g,0,none⟩) U bT)∧Y.cell? ⟨g,j*2+1,none⟩=some (.int .i64 e.n)∧Y.cell? ⟨ca,0,none⟩=some (.int .i64 (-7))∧Y.cell? ⟨ca,1,none⟩=some (.int .i64 e.n)∧Y.cell? ⟨ca,2,none⟩=some (.string ⟨#[109,97,114,107]⟩)) (by kernel_rfl) ⟨Jh bi,Jh bx,Jh bj,Jh bu,Jh m2⟩ (fun A=>?_)
        refine Kn 0 rfl A ?_
        refine Kn 1 rfl A ?_
        refine Kn 2 rfl A ?_
        refine tkn ?_
        refine Kn 3 rfl A ?_
        refine tkn ?_
        refine Kn 4 rfl A ?_
        refine Kn 5 rfl A ?_
        refine tkn ?_
        refine Kn 6 rfl A ?_
        refine Kn 7 rfl A ?_
        refine tkn ?_
        refine Kn 8 rfl A ?_
        refine Kn 9 rfl A ?_
        refine tkn ?_
        refine Kn 10 rfl A ?_
        refine Kn 11 rfl A ?_
        refine tkn ?_
        refine Kn 12 rfl A ?_
        refine Kn 13 rfl A ?_
        refine tkn ?_
        refine Kn 14 rfl A ?_
        refine tkn ?_
        refine tkr 15 rfl fun bQ bD=>?_
        go_simp
        refine(bC.out wr.drew).mono ?_
        rintro bA bZ ⟨rfl,N⟩
        have bO:Hid (Below w.heap.size w bZ):=Jb bl.out (Jb (Jj (Oa5 _ wr)) N)
        go_simp
        refine bD.out _ _ ⟨Ja N A.1,Ja N A.2.1,Ja N A.2.2.1,Ja N A.2.2.2.1,Ja N A.2.2.2.2⟩ (fun A=>?_)
        clear bD bQ N bC
        refine Kn 16 rfl A ?_
        refine tkn ?_
        refine Kn 17 rfl A ?_
        refine tkn ?_
        refine wpAnyH_done (by kernel_rfl) ?_ _
        clear A bi bf bx bj bu m2 bY
        go_wp2
        go_roundw
        case rel=>exact⟨k+1,ba.out,by have:=ba.out;go_num,bO.out⟩
        case measure=>have:=ba.out;simp[intOf];omega
       obtain rfl:k=e.len:=by omega
       have cE:¬ ((e.len:Int)<(e.len:Int)):=by omega
       clear L H J
       go_wp2
       go_roundw
       case rel=>exact⟨j+1,Z.out,by have:=Z.out;go_num,bl.out⟩
       case measure=>have:=Z.out;simp[intOf];omega
     obtain rfl:j=U:=by omega
     have bM:¬ ((j:Int)<(j:Int)):=by omega
     clear H
     go_wp2
     go_ret
     exact⟨rfl,bk.out⟩
end
end Go.Proofs.YtcaocabmioafcaaGreatDoor
