/- The document's pages, whichever are in use and turned, in memory: Used, Spoilt, Sure. -/
import Derived.Test.YtcaocabmioafcaaGreatDoorQb
import Derived.Test.YtcaocabmioafcaaGreatDoorWb
import Derived.Deep.MidRow
set_option maxHeartbeats 2000000
set_option maxRecDepth 100000
namespace Go.Proofs.YtcaocabmioafcaaGreatDoor
open Go.RowKit Go.Shelf Tryz
attribute [local go_sem] Oc0
def pgC (x:RP):List Value:=.bool x.1::x.2.map fun n:Nat=>Value.int .i64 (n:Int)
def Kvp (P:List RP):List Value:=P.flatMap pgC
def Qby (P:List RP):Prop:=∀ x∈P,x.2.length=64∧∀ n∈x.2,n≤255
theorem Kwo {x:RP}(h:x.2.length=64):(pgC x).length=65:=by simp[pgC,h]
theorem Ks7 {α:Type}(f:α→List Value)(z:Nat):∀ (P:List α),(∀ x∈P,(f x).length=z)→∀ i j,j<z→(P.flatMap f)[i*z+j]?=(P[i]?).bind fun x=>(f x)[j]?
 |[],_,i,j,_=>by simp
 |x::P,h,0,j,A=>by
  rw[Og7,Ob0 (by rw[h x (by simp)];omega)]
  simp
 |x::P,h,i+1,j,A=>by
  have H:=h x (by simp)
  have e:(i+1)*z+j=z+(i*z+j):=by rw[Of5];omega
  rw[Og7,e,Ob6 (by omega),H,Nat.add_sub_cancel_left,Ks7 f z P (fun y I=>h y (by simp[I])) i j A]
  simp
theorem Kci {α:Type}(f:α→List Value)(z:Nat):∀ (P:List α),(∀ x∈P,(f x).length=z)→(P.flatMap f).length=P.length*z
 |[],_=>by simp
 |x::P,h=>by
  rw[Og7,Oa8,h x (by simp),Kci f z P fun y A=>h y (by simp[A]),List.length_cons,Of5]
  omega
theorem Qby.lens {P:List RP}(h:Qby P):∀ x∈P,(pgC x).length=65:=fun x A=>Kwo (h x A).1
structure Krz (w:World) (sv:Value) (P:List RP):Prop where
 own:w.ownsRow 0 117 65 sv P.length (Kvp P)
 ok:Qby P
theorem Krz.of_block {w w':World}{sv:Value}{P:List RP}(h:Krz w sv P)(hk:∀ g,sv.ownBlock=some g→w'.heap[g]?=w.heap[g]?):Krz w' sv P:=⟨Jl h.own hk,h.ok⟩
theorem Krz.at {w:World}{sv:Value}{P:List RP}(h:Krz w sv P){i:Nat}{x:RP}(I:P[i]?=some x) :
  ∃ g cap A,sv=.slice (some ⟨g,0,none⟩) P.length cap∧w.heap[g]?=some (.cells A 117 (0,0))∧(i+1)*65≤A.size∧∀ j v,(pgC x)[j]?=some v→w.cell? ⟨g,i*65+j,none⟩=some v:=by
 obtain⟨bb,L⟩:=h.own
 have hi:i<P.length:=(Ob9.1 I).1
 rcases L with⟨_,h0⟩|⟨g,cap,A,R,Z,J,U,X,Y,M⟩
 ·omega
 have ba:(i+1)*65≤cap*65:=Om8 _ (by omega)
 refine⟨g,cap,A,R,J,by omega,fun j v K=>?_⟩
 have O:=h.ok.lens x (Of6 I)
 have N:j<65:=by rw[←O];exact(Ob9.1 K).1
 have H:=Ks7 pgC 65 P h.ok.lens i j N
 rw[I]at H
 simp only[Option.bind_some,K]at H
 rw[show P.flatMap pgC=Kvp P from rfl,←M,Oh3 (by omega),Oe6]at H
 simp[World.cell?,J,H]
theorem Krz.slice {w:World}{sv:Value}{P:List RP}(h:Krz w sv P):∃ a c,sv=.slice a P.length c:=Jcz h.own
theorem Ktg (x:RP):(pgC x)[0]?=some (.bool x.1):=rfl
theorem Qbd {x:RP}{j n:Nat}(h:x.2[j]?=some n):(pgC x)[j+1]?=some (.int .i64 (n:Int)):=by simp[pgC,h]
theorem Kyr {P:List RP}{j:Nat}{x:RP}(H:P[j]?=some x):Kr6 (P.take (j+1))=Kr6 (P.take j)+if x.1=true then 1 else 0:=by
 obtain⟨A,rfl⟩:=Ob9.1 H
 unfold Kr6
 rw[Oc4 A,List.countP_append]
 simp[List.countP_cons]
theorem Qa2 (st:Nat)(sv:Value)(P:List RP)(w:World)(_Y:w.cell? ⟨st,3,none⟩=some sv)(h:Krz w sv P)(_ba:P.length≤1000000) :
  Calls prog 20 #[.pointer (some ⟨st,0,none⟩)] w fun e w'=>e=.returned (.int .i64 ((Kr6 P:Nat):Int))∧w'=w:=by
 obtain⟨a,c,rfl⟩:=h.slice
 have N:Hid (Krz w (.slice a P.length c) P):=h
 clear h
 go_enter func20,ntmps20
 go_upto_region 3 with fail
 go_loopw [3,4] (fun s i wr=>∃ j:Nat,j≤P.length∧i=.int .i64 (j:Int)∧s=.int .i64 ((Kr6 (P.take j):Nat):Int)∧wr=w) (fun _ i _=>P.length-(intOf i).toNat)
 case atStart=>exact⟨0,Ob7 _,rfl,rfl,rfl⟩
 case round=>
  obtain⟨j,Z,rfl,rfl,L⟩:=hrel
  rw[L]
  clear L
  by_cases I:j<P.length
  ·have H:Hid (Kr6 (P.take (j+1))=Kr6 (P.take j)+if (P[j]).1=true then 1 else 0):=Kyr (Oa3 I)
   obtain⟨g,cap,U,J,_,_,K⟩:=N.out.at (Oa3 I)
   injection J with J _ _
   subst J
   have M:=K 0 _ (Ktg _)
   rw[Nat.add_zero]at M
   clear K
   have A:Hid (j<P.length∧Kr6 (P.take j)≤j):=⟨I,by have:=Qad (P.take j);rw[Oc7]at this;omega⟩
   have bc:(0:Int)≤(j:Int):=by omega
   have bf:(j:Int)<(P.length:Int):=by omega
   generalize P[j]=x at M H
   have bb:Kr6 (P.take j)≤1000000:=by have:=A.out;omega
   rcases x with⟨_|_,R⟩
   ·go_wp2
    go_roundw
    case rel=>exact⟨j+1,A.out.1,by have:=A.out;go_num,by rw[H.out];rfl,(by first|rfl|trivial)⟩
    case measure=>have:=A.out;simp[intOf];omega
   go_wp2
   go_roundw
   case rel=>exact⟨j+1,A.out.1,by have:=A.out;go_num,by rw[H.out];show Value.int .i64 _=Value.int .i64 ((Kr6 (List.take j P)+1:Nat):Int);have X:=A.out.1;have O:=A.out.2;generalize Kr6 (List.take j P)=u at O ⊢;go_num,(by first|rfl|trivial)⟩
   case measure=>have:=A.out;simp[intOf];omega
  obtain rfl:j=P.length:=by omega
  have bh:¬ ((P.length:Int)<(P.length:Int)):=by omega
  go_wp2
  go_ret
  exact⟨rfl,rfl⟩
theorem Kxd {l:List Nat}{j n:Nat}(H:l[j]?=some n):Kry (l.take (j+1))=Kry (l.take j)+if n≠0 then 1 else 0:=by
 obtain⟨A,rfl⟩:=Ob9.1 H
 unfold Kry
 rw[Oc4 A,List.countP_append]
 simp[List.countP_cons]
theorem Kzc (l:List Nat):Kry l≤l.length:=List.countP_le_length
theorem Kw4 (st:Nat)(sv:Value)(P:List RP)(p:Nat)(x:RP)(I:P[p]?=some x)(w:World)(_bf:w.cell? ⟨st,3,none⟩=some sv)(h:Krz w sv P)(_bi:P.length≤1000000) :
  Calls prog 56 #[.pointer (some ⟨st,0,none⟩),.int .i64 (p:Int)] w fun e w'=>e=.returned (.int .i64 ((Kry x.2:Nat):Int))∧w'=w:=by
 have ba:p<P.length:=(Ob9.1 I).1
 have M:=(h.ok x (Of6 I)).1
 obtain⟨g,cap,bb,rfl,_,_,N⟩:=h.at I
 have X:Hid (∀ j v,(pgC x)[j]?=some v→w.cell? ⟨g,p*65+j,none⟩=some v):=N
 have L:Hid (x.2.length=64):=M
 have br:(0:Int)≤(p:Int):=by omega
 have bu:(p:Int)<(P.length:Int):=by omega
 clear h N M I ba
 go_enter func56,ntmps56
 go_upto_region 3 with fail
 go_loopw [5,6] (fun s i wr=>∃ j:Nat,j≤64∧i=.int .i64 (j:Int)∧s=.int .i64 ((Kry (x.2.take j):Nat):Int)∧wr=w) (fun _ i _=>64-(intOf i).toNat)
 case atStart=>exact⟨0,Ob7 _,rfl,rfl,rfl⟩
 case round=>
  obtain⟨j,bh,rfl,rfl,R⟩:=hrel
  rw[R]
  clear R
  by_cases O:j<64
  ·have K:j<x.2.length:=by rw[L.out];exact O
   have J:Hid (Kry (x.2.take (j+1))=Kry (x.2.take j)+if x.2[j]≠0 then 1 else 0):=Kxd (Oa3 K)
   have U:=X.out (j+1) _ (Qbd (Oa3 K))
   rw[show p*65+(j+1)=p*65+1+j by omega]at U
   have A:Hid (j<64∧Kry (x.2.take j)≤j):=⟨O,by have:=Kzc (x.2.take j);rw[Oc7]at this;omega⟩
   have bk:(0:Int)≤(j:Int):=by omega
   have bl:(j:Int)<64:=by omega
   generalize x.2[j]=n at U J
   clear K
   by_cases H:n=0
   ·subst H
    go_wp2
    go_roundw
    case rel=>exact⟨j+1,A.out.1,by have:=A.out;go_num,by rw[J.out];rfl,(by first|rfl|trivial)⟩
    case measure=>have:=A.out;simp[intOf];omega
   have bn:((n:Int) != 0)=true:=by simpa using H
   have Y:Hid (n≠0):=H
   have bj:Kry (x.2.take j)≤64:=by have:=A.out;omega
   clear H
   go_wp2
   go_roundw
   case rel=>exact⟨j+1,A.out.1,by have:=A.out;go_num,by rw[J.out,if_pos Y.out];have bc:=A.out.1;have Z:=A.out.2;generalize Kry (List.take j x.2)=u at Z ⊢;go_num,(by first|rfl|trivial)⟩
   case measure=>have:=A.out;simp[intOf];omega
  obtain rfl:j=64:=by omega
  go_wp2
  go_ret
  rw[←L.out,Of2]
  exact⟨rfl,rfl⟩
def Ksm (P:List RP):Bool:=P.all fun x=>!x.1||decide (Kry x.2≤1)
theorem Kye {P:List RP}{j:Nat}{x:RP}(H:P[j]?=some x):Ksm (P.take (j+1))=(Ksm (P.take j)&&(!x.1||decide (Kry x.2≤1))):=by
 obtain⟨A,rfl⟩:=Ob9.1 H
 unfold Ksm
 rw[Oc4 A,List.all_append]
 simp
theorem Qap {P:List RP}{j:Nat}{x:RP}(H:P[j]?=some x)(A:x.1=true)(_I:¬ Kry x.2≤1):Ksm P=false:=by
 unfold Ksm
 rw[List.all_eq_false]
 exact⟨x,Of6 H,by simp[A];omega⟩
theorem Qcf (st:Nat)(sv:Value)(P:List RP)(w:World)(bc:w.cell? ⟨st,3,none⟩=some sv)(h:Krz w sv P)(bf:P.length≤1000000) :
  Calls prog 27 #[.pointer (some ⟨st,0,none⟩)] w fun e w'=>e=.returned (.bool (Ksm P))∧w'=w:=by
 have bb:Hid (∀ p x,P[p]?=some x→Calls prog 56 #[.pointer (some ⟨st,0,none⟩),.int .i64 ((p:Nat):Int)] w fun e w'=>e=.returned (.int .i64 ((Kry x.2:Nat):Int))∧w'=w):=fun p x A=>Kw4 st sv P p x A w bc h bf
 obtain⟨a,c,rfl⟩:=h.slice
 have ba:Hid (Krz w (.slice a P.length c) P):=h
 clear h
 go_enter func27,ntmps27
 go_upto_region 2 with fail
 go_loopw [3] (fun i wr=>∃ j:Nat,j≤P.length∧i=.int .i64 (j:Int)∧Hid (Ksm (P.take j)=true)∧wr=w) (fun i _=>P.length-(intOf i).toNat)
 case atStart=>exact⟨0,Ob7 _,rfl,(show Ksm _=true from rfl),rfl⟩
 case round=>
  obtain⟨j,bk,rfl,J,Y⟩:=hrel
  rw[Y]
  clear Y
  by_cases X:j<P.length
  ·have A:P[j]?=some P[j]:=Oa3 X
   have O:Hid (Ksm (P.take (j+1))=(Ksm (P.take j)&&(!(P[j]).1||decide (Kry (P[j]).2≤1)))):=Kye A
   have N:Hid ((P[j]).1=true→¬ Kry (P[j]).2≤1→Ksm P=false):=Qap A
   have L:=bb.out j _ A
   obtain⟨g,cap,bj,R,_,_,U⟩:=ba.out.at A
   injection R with R _ _
   subst R
   have Z:=U 0 _ (Ktg _)
   rw[Nat.add_zero]at Z
   clear U A
   have H:Hid (j<P.length):=X
   have bl:(0:Int)≤(j:Int):=by omega
   have bn:(j:Int)<(P.length:Int):=by omega
   generalize P[j]=x at Z O N L
   rcases x with⟨_|_,I⟩
   ·clear L N
    go_wp2
    go_roundw
    case rel=>exact⟨j+1,H.out,by have:=H.out;go_num,(show Ksm _=true by rw[O.out,J.out];rfl),(by first|rfl|trivial)⟩
    case measure=>have:=H.out;simp[intOf];omega
   by_cases K:Kry I≤1
   ·have bi:¬ ((Kry I:Int)>1):=by omega
    have M:Hid (Kry I≤1):=K
    clear K
    go_wp2_with (go_at_call 56;refine L.mono ?_;rintro e w1 ⟨rfl,bh⟩;subst w1)
    go_roundw
    case rel=>exact⟨j+1,H.out,by have:=H.out;go_num,(show Ksm _=true by rw[O.out,J.out];simp[M.out]),(by first|rfl|trivial)⟩
    case measure=>have:=H.out;simp[intOf];omega
   have bi:((Kry I:Int)>1):=by omega
   have M:Hid (¬ Kry I≤1):=K
   clear K
   go_wp2_with (go_at_call 56;refine L.mono ?_;rintro e w1 ⟨rfl,bh⟩;subst w1)
   go_ret
   rw[N.out (by first|rfl|trivial) M.out]
   exact⟨rfl,rfl⟩
  obtain rfl:j=P.length:=by omega
  have br:¬ ((P.length:Int)<(P.length:Int)):=by omega
  go_wp2
  go_ret
  rw[Of2]at J
  rw[J.out]
  exact⟨rfl,rfl⟩
end Go.Proofs.YtcaocabmioafcaaGreatDoor
