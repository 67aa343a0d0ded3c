/- A list of Spoils, as it is handed to a law. -/
import Derived.Test.YtnlnlamdilifcaaGreatDoorUa
import Derived.Test.YtnlnlamdilifcaaGreatDoorLr
namespace Go.Proofs.YtnlnlamdilifcaaGreatDoor
open Go.RowKit Go.Deep Go.ChangeShapes Go.WideShapes
theorem Ky8:Tryz.prog.cellsOf 45=3:=zK
theorem Kyk {H}{enc:TypeId×Value->H}{W Y Z bx held fuel cs}{x:DataW H×List MemPlace}{a}(bi:W.cells? Z a 3=some cs)(h:DataW.trod enc Tryz.prog W Y bx held fuel 45 cs=some x):a.spot=none/\∃ p:Int×Int×Int,W.cell? (Ar a.block a.off)=some (Iq p.1)/\W.cell? (Ar a.block (a.off+1))=some (Iq p.2.1)/\W.cell? (Ar a.block (a.off+2))=some (Iq p.2.2):=by
 obtain⟨bB,bC,bD,bz,_,_,h0,bf,bh⟩:=trod_struct3 Tryz.underlying45 h;obtain⟨_,bj,y⟩:=World.cells?_some bi;obtain⟨c0,c1,c2,rfl⟩:=Kgy bj;obtain⟨k,I,_,_⟩:=Og3 Tryz.underlying3 h0;obtain⟨l,K,_,_⟩:=Og3 Tryz.underlying3 bf;obtain⟨m,M,_,_⟩:=Og3 Tryz.underlying3 bh;have U:=y 0 zo;have bk:=y 1 zo;have br:=y 2 zo;have O:a.spot=none:=by simpa [Addr.add] using Oo3 U
 simp[Jf5]at I K M;subst I K M;obtain⟨b,o,bA⟩:=a;simp only at O;subst O;refine⟨rfl,(k,l,m),?_,?_,?_⟩
 ·simpa [Addr.add] using U
 ·simpa [Addr.add] using bk
 simpa [Addr.add] using br
theorem openSpoils {I}{enc:TypeId×Value->I}{W Y bx held fuel cs}{x:DataW I×List MemPlace}(h:DataW.trod enc Tryz.prog W Y bx held fuel 26 cs=some x):
  ∃ a cap,∃ ps:List (Int×Int×Int),cs=[.slice a ps.length cap]/\Kw1 W a ps/\ps.length<=maxLen:=by
 rcases open_slice Tryz.underlying26 h with⟨H,bk⟩|⟨a,len,cap,m,n,D,bz,H,hb,hl,bC,bh,bk,Z⟩
 ·exact⟨none,0,[],H,.inl rfl,Ob7 _⟩
 have bB:len<=m:=by rw[bh];split<;>omega
 have key:∀ i,i<len->(Addr.add a (i*3)).spot=none/\∃ p:Int×Int×Int,W.cell? (Ar ((Addr.add a (i*3)).block) ((Addr.add a (i*3)).off))=some (Iq p.1)/\W.cell? (Ar ((Addr.add a (i*3)).block) ((Addr.add a (i*3)).off+1))=some (Iq p.2.1)/\W.cell? (Ar ((Addr.add a (i*3)).block) ((Addr.add a (i*3)).off+2))=some (Iq p.2.2):=by
  intro i hi;obtain⟨bA,K,bj⟩:=Z i zo;rw[Ky8]at K;exact Kyk K bj
 rcases Oj2 len with h0|O
 ·subst h0;exact⟨some a,cap,[],H,.inl rfl,Ob7 _⟩
 have U:=(key 0 O).1;obtain⟨b,o,bD⟩:=a;simp[Addr.add]at U;subst U;have br:∀ i,i<len->∃ p:Int×Int×Int,W.cell? (Ar b (o+i*3))=some (Iq p.1)/\W.cell? (Ar b (o+i*3+1))=some (Iq p.2.1)/\W.cell? (Ar b (o+i*3+2))=some (Iq p.2.2):=by
  intro i hi;obtain⟨v,hv⟩:=(key i hi).2;refine⟨v,?_⟩;rcases Oj2 i with h0|h0
  ·subst h0;simpa [Addr.add] using hv
  have bi:¬ i*3=0:=zo;simpa [Addr.add,bi] using hv
 obtain⟨f,M⟩:=choose_lt br;have bf:b<W.heap.size:=Jm (M 0 O).1;refine⟨some (Ar b o),cap,(List.range len).map f,by rw[H];simp,.inr ⟨b,o,rfl,bf,?_⟩,by simp;omega⟩;intro i v hi;rw[Ob1]at hi;rcases Oc1 i len with y|y
 ·rw[Oh6 y]at hi;simp at hi;subst hi;exact M i y
 rw[Ob4 (by simpa using y)]at hi;simp at hi
