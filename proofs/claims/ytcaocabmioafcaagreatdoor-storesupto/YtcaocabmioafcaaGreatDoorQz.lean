/- What several texts on the document's store want. -/
import Derived.Test.YtcaocabmioafcaaGreatDoorSe
set_option maxHeartbeats 2000000
set_option maxRecDepth 100000
namespace Go.Proofs.YtcaocabmioafcaaGreatDoor
open Go.RowKit Go.Shelf Tryz
attribute [local go_sem] Oc0
theorem Jj {B:Nat}{a w:World}(h:Below B a w):Below B a w.drew:=⟨h.os,h.tape,h.output,h.size,h.block⟩
theorem Jh {w:World}{a:Addr}{v:Value}(h:w.cell? a=some v):w.drew.cell? a=some v:=h
theorem Jcz {w:World}{B:Nat}{e:TypeId}{z:Nat}{sv:Value}{n:Nat}{xs:List Value}(h:w.ownsRow B e z sv n xs):∃ a c,sv=.slice a n c:=by
 rcases h with⟨_,⟨A,H⟩|⟨g,cap,_,A,_⟩⟩
 ·exact⟨none,0,by rw[A,H]⟩
 exact⟨_,_,A⟩
theorem Kt6 {B:Nat}{w A:World}(h:Below B w A):Below B w A.drew:=Jj h
def TyI (w:World)(a:Option Addr):Prop:=∀ b o,a=some ⟨b,o,none⟩→∃ A,w.heap[b]?=some (.cells A 3 (0,0))
theorem TyI.below {w A:World}{a:Option Addr}(h:TyI w a)(J:Below w.heap.size w A):TyI A a:=fun b o e=>by
 obtain⟨I,H⟩:=h b o e
 exact⟨I,(J.block _ (Jd H)).trans H⟩
theorem Qb4 {w:World}{B g o n c:Nat}{xs:List Value}(h:Jo w B 3 (.slice (some ⟨g,o,none⟩) n c) xs):TyI w (some ⟨g,o,none⟩):=fun b L e=>by
 cases e
 rcases h with⟨_,⟨A,_⟩|⟨J,cap,H,A,K,I,_⟩⟩
 ·cases A
 simp only[Value.slice.injEq,Oc9,Oh2]at A
 rw[A.1.1]
 exact⟨H,I⟩
def Ku4 (w:World)(st:Nat)(Rs:List (ByteArray×List Int)):Prop:=∃ a c,w.cell? ⟨st,4,none⟩=some (.slice a Rs.length c)∧∀ (j:Nat) (A:ByteArray×List Int),Rs[j]?=some A→∃ b o H I,a=some ⟨b,o,none⟩∧w.cell? ⟨b,o+j*4,none⟩=some (.string A.1)∧w.cell? ⟨b,o+j*4+1,none⟩=some (.slice H A.2.length I)∧Kc w H A.2∧TyI w H
theorem Ku4.below {w H:World}{st:Nat}{Rs:List (ByteArray×List Int)}(h:Ku4 w st Rs)(A:Below w.heap.size w H):Ku4 H st Rs:=by
 obtain⟨a,c,J,K⟩:=h
 refine⟨a,c,Ja A J,fun j I L=>?_⟩
 obtain⟨b,o,U,X,e,M,N,O,R⟩:=K j I L
 exact⟨b,o,U,X,e,Ja A M,Ja A N,O.below A,R.below A⟩
def Ksg:List (ByteArray×List Int)→ByteArray→Nat
 |[],_=>0
 |A::Rs,n=>if A.1=n then 0 else Ksg Rs n+1
def Ksk (Rs:List (ByteArray×List Int))(n:ByteArray):Int:=if Ksg Rs n<Rs.length then (Ksg Rs n:Int)else -1
theorem Qbf (Rs:List (ByteArray×List Int))(n:ByteArray):∀ (k:Nat) (hk:k<Rs.length),(∀ j (I:j<k),(Rs[j]'(by omega)).1≠n)→Rs[k].1=n→Ksg Rs n=k:=by
 induction Rs with
 |nil=>intro k hk;simp at hk
 |cons T Rs J=>
  intro k hk H A
  cases k with
  |zero=>simp at A;simp[Ksg,A]
  |succ k=>
   have h0:=H 0 (by omega)
   simp at h0
   simp only[Ksg,if_neg h0]
   rw[J k (by simpa using hk) (fun j I=>by have:=H (j+1) (by omega);simpa using this) (by simpa using A)]
theorem Qal (Rs:List (ByteArray×List Int))(n:ByteArray)(h:∀ j (A:j<Rs.length),Rs[j].1≠n):Ksg Rs n=Rs.length:=by
 induction Rs with
 |nil=>rfl
 |cons T Rs H=>
  have h0:=h 0 (by simp)
  simp at h0
  simp only[Ksg,if_neg h0,List.length_cons]
  rw[H fun j A=>by have:=h (j+1) (by simp;omega);simpa using this]
theorem Kwb (A:List TS)(n:ByteArray):Ksg (A.map fun T=>(T.name,T.types)) n=Ub A n:=by
 induction A with
 |nil=>rfl
 |cons T A H=>simp only[Oe4,Ksg,Ub,H]
theorem Ktc (st:Nat)(Rs:List (ByteArray×List Int))(n:ByteArray)(w:World)(h:Ku4 w st Rs)(bh:Rs.length≤1000) :
  Calls prog 41 #[.pointer (some ⟨st,0,none⟩),.string n] w fun e w'=>e=.returned (.int .i64 (Ksk Rs n))∧w'=w:=by
 obtain⟨a,c,bc,O⟩:=h
 obtain⟨I,M⟩:∃ I,Ksk Rs n=I:=⟨_,rfl⟩
 rw[M]
 have N:Hid (Ksk Rs n=I):=M
 have X:Hid _:=O
 clear O M
 go_enter func41,ntmps41
 go_upto_region 2 with fail
 go_loopw [5] (fun i wr=>∃ j:Nat,j≤Rs.length∧i=.int .i64 (j:Int)∧wr=w∧∀ x (A:x<Rs.length),x<j→Rs[x].1≠n) (fun i _=>Rs.length-(intOf i).toNat)
 case atStart=>exact⟨0,Ob7 _,rfl,rfl,fun x _ h=>by omega⟩
 case round=>
  obtain⟨j,bf,rfl,U,R⟩:=hrel
  rw[U]
  have L:Hid (∀ x (A:x<Rs.length),x<j→Rs[x].1≠n):=R
  clear R U
  by_cases K:j<Rs.length
  ·obtain⟨b,o,br,bu,rfl,bb,-,-,-⟩:=X.out j _ (Oa3 K)
   have H:Hid (j<Rs.length∧(Rs[j].1=n→I=(j:Int))∧(Rs[j].1≠n→∀ x (A:x<Rs.length),x<j+1→Rs[x].1≠n)):=⟨K,fun e=>by
    have Z:=Qbf Rs n j K (fun x A=>L.out x (by omega) A) e
    rw[←N.out]
    unfold Ksk
    rw[Z,if_pos K],fun e x A bj=>by
    by_cases q:x=j
    ·subst q;exact e
    exact L.out x A (by omega)⟩
   generalize Rs[j].1=nm at bb H
   have bk:(0:Int)≤(j:Int):=by omega
   have bl:(j:Int)<(Rs.length:Int):=by omega
   by_cases J:nm=n
   ·subst J
    obtain rfl:I=(j:Int):=H.out.2.1 rfl
    go_wp2
    go_ret
    exact⟨rfl,rfl⟩
   have Y:Hid _:=H.out.2.2 J
   have bi:(nm.toList==n.toList)=false:=by
    rw[beq_eq_false_iff_ne]
    exact fun ba=>J (by rw[←Zf nm,ba,Zf])
   clear J
   go_wp2
   go_roundw
   case rel=>exact⟨j+1,H.out.1,by have:=H.out.1;go_num,(by first|rfl|trivial),Y.out⟩
   case measure=>have:=H.out.1;simp[intOf];omega
  obtain rfl:I=-1:=by
   rw[←N.out]
   unfold Ksk
   rw[if_neg (by rw[Qal Rs n fun x A=>L.out x A (by omega)];omega)]
  have bn:¬ ((j:Int)<(Rs.length:Int)):=by omega
  go_wp2
  go_ret
  exact⟨rfl,rfl⟩
theorem Ktp (H:World)(A i:Nat)(v:Value):Ju (fun k=>k=A) H (H.setCell ⟨A,i,none⟩ v):=(Ju.refl (fun k=>k=A) H).set (b:=A) rfl i v
theorem Ksa (H:World)(A:Nat)(I J K L M:Value):Ju (fun k=>k=A) H (((((H.setCell ⟨A,0,none⟩ I).setCell ⟨A,1,none⟩ J).setCell ⟨A,2,none⟩ K).setCell ⟨A,3,none⟩ L).setCell ⟨A,4,none⟩ M):=
 ((((Ktp H A 0 I).trans (Ktp _ A 1 J)).trans (Ktp _ A 2 K)).trans (Ktp _ A 3 L)).trans (Ktp _ A 4 M)
theorem Ks6 {H:Nat→Prop}{A I V:World}{J:Nat}(h:Ju H A I)(k:Ju (fun k=>k=J) I V)(L:A.heap.size≤J):Ju H A V:=
 ⟨k.os.trans h.os,k.tape.trans h.tape,k.output.trans h.output,Ob2 h.size k.size,fun i hi K=>(k.block i (Oc2 hi h.size) (by omega)).trans (h.block i hi K)⟩
end Go.Proofs.YtcaocabmioafcaaGreatDoor
