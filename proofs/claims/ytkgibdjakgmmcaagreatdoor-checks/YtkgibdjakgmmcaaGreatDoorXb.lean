/- What the parts of an expression are worth: the program's small functions on two values. -/
import Derived.Test.YtkgibdjakgmmcaaGreatDoorTl
import Derived.Test.YtkgibdjakgmmcaaGreatDoorYa
import Derived.Shelf.Bits.Mul64
import Derived.Lib.Bytealg
namespace Go.Proofs.YtkgibdjakgmmcaaGreatDoor
open Go.RowKit Go.Shelf
attribute [local go_sem] Oper.semAt_some
theorem below_drew1 {B:Nat}{a w:World}(h:Below B a w):Below B a w.drew:=⟨h.os,h.tape,h.output,h.size,h.block⟩
attribute [local go_sem] Oper.semAt_some
theorem cell_alloc {w:World}{a:Addr}{v:Value}{o:Obj}(h:w.cell? a=some v):(w.alloc o).cell? a=some v:=(World.cell?_alloc_some w a o (by rw[h];rfl)).trans h
theorem cell_drew {w:World}{a:Addr}{v:Value}(h:w.cell? a=some v):w.drew.cell? a=some v:=h
end Go.Proofs.YtkgibdjakgmmcaaGreatDoor
