/- A Join: what a row's key is found by. -/
import Derived.Test.YtnlnlamdilifcaaGreatDoorGf
namespace Go.Proofs.YtnlnlamdilifcaaGreatDoor
open Go.RowKit Go.Shelf
def hC (x:Int×Bool):List Value:=[.int .u64 x.1,.bool x.2]
def Qdy (lc rc:List (List V))(row other:Nat)(k:Krv):Bool:=((lc.getD k.c []).getD row Jf).beq ((rc.getD k.o.toNat []).getD other Jf)
def Qd6 (ks:List Krv)(lc rc:List (List V))(row other:Nat):Bool:=ks.all (Qdy lc rc row other)
