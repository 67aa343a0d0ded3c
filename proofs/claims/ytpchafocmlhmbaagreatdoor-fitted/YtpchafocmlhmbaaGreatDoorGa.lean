/- Tallies: what is counted of a column in a group, plainly and in memory. -/
import Derived.Test.YtpchafocmlhmbaaGreatDoorXc
import Derived.Shelf.Spec.BitsCarry
namespace Go.Proofs.YtpchafocmlhmbaaGreatDoor
open Go.RowKit Go.Shelf
structure Tly where
 rows:Nat
 held:Nat
 sum:Int
 least:V
 most:V
def Klg:Tly:=⟨0,0,0,Jf,Jf⟩
def Tly.add (t:Tly)(v:V):Tly:=if v.k=0 then ⟨t.rows+1,t.held,t.sum,t.least,t.most⟩else ⟨t.rows+1,t.held+1,t.sum+v.n,if t.held=0∨Jxt v t.least<0 then v else t.least,if t.held=0∨0<Jxt v t.most then v else t.most⟩
theorem Klb {w:World}{b o i:Nat}{y cs D:List Value}{ty:TypeId}{v:Value}(h:w.heap[b]?=some (.cells (y++cs++D).toArray ty (0,0)))(E:y.length=o)(hi:cs[i]?=some v):w.cell? ⟨b,o+i,none⟩=some v:=by
 obtain⟨hl,e⟩:=Ob9.1 hi;simp only[World.cell?,h];simp only[List.getElem?_toArray];rw[Od8,Ob6 (by omega),Ob0 (by omega),show o+i-y.length=i by omega,hi];rfl
theorem Km8 {w:World}{b:Nat}{cs:Array Value}{ty:TypeId}(h:w.heap[b]?=some (.cells cs ty (0,0)))(o:Nat):w.frozen? ⟨b,o,none⟩=false:=by simp[World.frozen?,h]
theorem Kli {w:World}{b o i:Nat}{y cs D:List Value}{ty:TypeId}(v:Value)(h:w.heap[b]?=some (.cells (y++cs++D).toArray ty (0,0)))(E:y.length=o)(hi:i<cs.length) :
  (w.setCell ⟨b,o+i,none⟩ v).heap[b]?=some (.cells (y++cs.set i v++D).toArray ty (0,0)):=by
 rw[Jk h (o+i) v];simp only[Oa1];rw[Od8,List.set_append,if_neg (by omega),List.set_append,if_pos (by omega),show o+i-y.length=i by omega,Od8]
end Go.Proofs.YtpchafocmlhmbaaGreatDoor
