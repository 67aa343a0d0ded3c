/- A step of the law's script: in both stores of one pair. -/
import Derived.Test.YtcaocabmioafcaaGreatDoorQg
namespace Go.Proofs.YtcaocabmioafcaaGreatDoor
open Go.RowKit Go.Shelf
attribute [local go_sem] Oc0
theorem Kst.before {w K w':World}{wb pa L p M N u:Nat}{I J H:Nat→Prop}{k0:Int}(A:Below w.heap.size w K)(hs:Kst K wb pa L p M N I J H u k0 w'):Kst w wb pa L p M N I J H u k0 w':=by
 obtain⟨hk,R,U,D,Y,P,Rs,O,c,X,G,Z,ba,bb,bc,bf,bh⟩:=hs
 have bk:=A.size
 refine⟨⟨hk.os.trans A.os,hk.tape.trans A.tape,hk.output.trans A.output,by have:=hk.size;omega,fun k bi bj=>by rw[hk.block k (by omega) bj,A.block k bi]⟩,R,U,D,Y,P,Rs,O,c,X,G,Z,ba,fun k hk=>?_,fun k hk=>?_,bf,bh⟩
 ·rcases bb k hk with a|a|a
  ·exact .inl a
  ·exact .inr (.inl a)
  exact .inr (.inr (by omega))
 rcases bc k hk with a|a
 ·exact .inl a
 exact .inr (by omega)
def Kt4 (o:Opx)(A:World)(wb pa O p R U u:Nat)(H I K:Nat→Prop)(D:DS)(M:List TS)(P:List RP)(Rs:List RTb)(N:Int)(L:Ksl)(G:Nat→Prop)(J:World):Prop:=
 Kso J p R U H I D M P Rs∧Kss K J wb pa O u N L G∧(∀ k,H k∨I k∨k=p→¬ K k)∧u≤9999990000∧D.writes≤100000000000000000∧Below A.heap.size A J∧(∀ k,H k∨I k∨k=p→A.heap.size≤k)∧Kte A o.d∧(∀ r∈o.d.rs,∀ v∈r,Jg v.n)
theorem Kxq {w:World}{g n:Nat}{ts:List ByteArray}{t:TypeId}{f:Nat→Value}(h:w.rowIs g t n f)(_I:n=ts.length)(H:∀ i (hi:i<ts.length),f i=.string ts[i]):Uh w (some ⟨g,0,none⟩) (ts.map .string):=by
 refine .inr ⟨g,0,rfl,h.lt,fun i v A=>?_⟩
 have hi:i<ts.length:=by simpa using (Ob9.1 A).1
 rw[Ob1,Oa3 hi]at A
 cases A
 rw[Od0,←H i hi]
 exact h.cell (by omega)
end Go.Proofs.YtcaocabmioafcaaGreatDoor
