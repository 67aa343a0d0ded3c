/- Rows in new memory: a list of rows, each in a block of its own. -/
import Derived.Test.YtjjdldddcegjiaaGreatDoorTf
namespace Go.Proofs.YtjjdldddcegjiaaGreatDoor
open Go.RowKit Tryz
def Jad (b:Nat)(r:List V):Value:=.slice (some ⟨b,0,none⟩) r.length r.length
structure Jcu (w:World) (B g:Nat) (bs:List Nat) (rs:List (List V)):Prop where
 len:bs.length=rs.length
 outer:w.rowIs g 59 rs.length (fun j=>Jad (bs.getD j 0) (rs.getD j []))
 rows:∀ (i:Nat) b r,bs[i]?=some b→rs[i]?=some r→Kv w b r []
 from_:B≤g∧∀ b∈bs,B≤b∧b≠g
 nodup:bs.Nodup
theorem Jcu.below {w w':World}{B g:Nat}{bs:List Nat}{rs:List (List V)}(h:Jcu w B g bs rs)(y:Below w.heap.size w w'):Jcu w' B g bs rs:=
 ⟨h.len,h.outer.of_block (y.block g h.outer.lt),fun i b r hi z=>(h.rows i b r hi z).of_block (y.block b (h.rows i b r hi z).lt),h.from_,h.nodup⟩
theorem Jcu.rowsAt {w:World}{B g:Nat}{bs:List Nat}{rs:List (List V)}(h:Jcu w B g bs rs):Zd w (some ⟨g,0,none⟩) (List.zipWith (fun b (r:List V)=>((some ⟨b,0,none⟩:Option Addr),r.length)) bs rs) rs:=by
 refine⟨by simp[h.len],.inr ⟨g,0,rfl,h.outer.lt,fun i v A=>?_⟩,fun i x r D C=>?_⟩
 ·have hi:i<rs.length:=by
   rcases Oc1 i rs.length with y|y
   ·exact y
   ·rw[Ob4 (by simp;omega)]at A;simp at A
  have z:i<bs.length:=by rw[h.len];exact hi
  rw[Od0,h.outer.cell hi]
  rw[Ok5,Ok5,Oa3 hi,Oa3 z]at A
  simp[Je1]at A
  simp[Jad,hi,z,←A]
 have hi:i<rs.length:=by
  rcases Oc1 i rs.length with y|y
  ·exact y
  ·rw[Ob4 y]at C;simp at C
 have z:i<bs.length:=by rw[h.len];exact hi
 rw[Ok5]at D
 simp[hi,z]at D C
 subst D C
 exact(h.rows i bs[i] rs[i] (by simp[z]) (by simp[hi])).vals
theorem Jip:(prog.info? 59).map (fun i=>(i.zero,i.size,i.bytes))=some (some (.slice none 0 0),1,24):=by kernel_rfl
theorem Jtn (n:Nat)(hn:n≤1000)(W:World):∃ y,(Instr.makeSlice 59 (.int .i64 (n:Int)) (.int .i64 (n:Int))).run prog W=.ok (.slice (some ⟨W.heap.size,0,none⟩) n n) (W.alloc (.cells y 49))∧Kv (W.alloc (.cells y 49)) W.heap.size (List.replicate n Jf) []:=by
 obtain⟨i,hi,D,C,A⟩:=info_parts Jow
 have z:=run_make (P:=prog) W 59 49 i _ (by kernel_rfl) hi D .i64 .i64 (n:Int) (n:Int) (by omega) (Int.le_refl _) (by rw[A];omega) (by omega)
 rw[Int.toNat_natCast,C]at z
 exact⟨_,z,_,(Oh1 W _).1,by rw[Od7];exact Jt9 n⟩
end Go.Proofs.YtjjdldddcegjiaaGreatDoor
