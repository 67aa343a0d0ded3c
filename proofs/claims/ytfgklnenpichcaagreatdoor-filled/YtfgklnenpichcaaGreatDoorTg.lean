/- Rows in new memory: a list of rows, each in a block of its own. -/
import Derived.Test.YtfgklnenpichcaaGreatDoorTf
namespace Go.Proofs.YtfgklnenpichcaaGreatDoor
open Go.RowKit

def gridV (b : Nat) (r : List V) : Value := .slice (some ⟨b, 0, none⟩) r.length r.length
structure Grid (w : World) (B g : Nat) (bs : List Nat) (rs : List (List V)) : Prop where
  len : bs.length = rs.length
  outer : w.rowIs g 38 rs.length (fun j => gridV (bs.getD j 0) (rs.getD j []))
  rows : ∀ (i : Nat) b r, bs[i]? = some b → rs[i]? = some r → RowT w b r []
  from_ : B ≤ g ∧ ∀ b ∈ bs, B ≤ b ∧ b ≠ g
  nodup : bs.Nodup
theorem Grid.below {w w' : World} {B g : Nat} {bs : List Nat} {rs : List (List V)} (h : Grid w B g bs rs) (hb : Below w.heap.size w w') : Grid w' B g bs rs :=
  ⟨h.len, h.outer.of_block (hb.block g h.outer.lt), fun i b r hi hr => (h.rows i b r hi hr).of_block (hb.block b (h.rows i b r hi hr).lt), h.from_, h.nodup⟩
theorem Grid.rowsAt {w : World} {B g : Nat} {bs : List Nat} {rs : List (List V)} (h : Grid w B g bs rs) : RowsAt w (some ⟨g, 0, none⟩) (List.zipWith (fun b (r : List V) => ((some ⟨b, 0, none⟩ : Option Addr), r.length)) bs rs) rs := by
  refine ⟨by simp [h.len], .inr ⟨g, 0, rfl, h.outer.lt, fun i v hv => ?_⟩, fun i x r hx hr => ?_⟩
  · have hi : i < rs.length := by
      rcases Nat.lt_or_ge i rs.length with h' | h'
      · exact h'
      · rw [List.getElem?_eq_none (by simp; omega)] at hv; simp at hv
    have hi2 : i < bs.length := by rw [h.len]; exact hi
    rw [Nat.zero_add, h.outer.cell hi]
    rw [List.getElem?_zipWith, List.getElem?_zipWith, List.getElem?_eq_getElem hi, List.getElem?_eq_getElem hi2] at hv
    simp [rowV] at hv
    simp [gridV, hi, hi2, ← hv]
  · have hi : i < rs.length := by
      rcases Nat.lt_or_ge i rs.length with h' | h'
      · exact h'
      · rw [List.getElem?_eq_none h'] at hr; simp at hr
    have hi2 : i < bs.length := by rw [h.len]; exact hi
    rw [List.getElem?_zipWith] at hx
    simp [hi, hi2] at hx hr
    subst hx hr
    exact (h.rows i bs[i] rs[i] (by simp [hi2]) (by simp [hi])).vals

theorem info_Row : (Tryz.prog.info? 38).map (fun i => (i.zero, i.size, i.bytes)) = some (some (.slice none 0 0), 1, 24) := by kernel_rfl
theorem make_Row (n : Nat) (hn : n ≤ 1000) (W : World) : ∃ C, (Instr.makeSlice 38 (.int .i64 (n : Int)) (.int .i64 (n : Int))).run Tryz.prog W = .ok (.slice (some ⟨W.heap.size, 0, none⟩) n n) (W.alloc (.cells C 36)) ∧ RowT (W.alloc (.cells C 36)) W.heap.size (List.replicate n zeroV) [] := by
  obtain ⟨i, hi, hz, hs3, hby⟩ := info_parts infoV
  have hr := run_make (P := Tryz.prog) W 38 36 i _ (by kernel_rfl) hi hz .i64 .i64 (n : Int) (n : Int) (by omega) (Int.le_refl _) (by rw [hby]; omega) (by omega)
  rw [Int.toNat_natCast, hs3] at hr
  exact ⟨_, hr, _, (MapKept.heap_alloc W _).1, by rw [List.append_nil]; exact made_V n⟩
end Go.Proofs.YtfgklnenpichcaaGreatDoor
