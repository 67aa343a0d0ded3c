/- A Join, plainly: which rows fit. -/
import Derived.Test.YtnlnlamdilifcaaGreatDoorJn
namespace Go.Proofs.YtnlnlamdilifcaaGreatDoor
open Go.RowKit Go.Shelf Go.Maps
def Qdz (cols:List (List V))(ns:List Nat)(r:Nat):Bool:=ns.any fun c=>decide (((cols.getD c []).getD r Jf).k=0)
def jnF (ks:List Krv)(lc rc:List (List V))(nr r:Nat):List Nat:=if Qdz lc (ks.map fun k=>k.c) r=true then []else (List.range nr).filter (Qd6 ks lc rc r)
def jnL (k:Nat)(ks:List Krv)(lc rc:List (List V))(y nr:Nat):List Int:=(List.range y).flatMap fun r=>tkL k r (jnF ks lc rc nr r)
def jnR (k:Nat)(ks:List Krv)(lc rc:List (List V))(y nr:Nat):List Int:=(List.range y).flatMap fun r=>tkR k (jnF ks lc rc nr r)
def Qdi (k:Nat)(ks:List Krv)(lc rc:List (List V))(y nr:Nat):List (List V):=if k<2 then lc.map (Yq (jnL k ks lc rc y nr))++rc.map (Yq (jnR k ks lc rc y nr))else lc.map (Yq (jnL k ks lc rc y nr))
attribute [local go_sem] Oc0
