/- The law's own functions: values are handed over with two of the caller's behind them, and looked at behind the call. -/
import Derived.Test.YthplnjgijmilnaaDoorWalkV
namespace Go.Proofs.YthplnjgijmilnaaDoor
open Go.RowKit

set_option maxRecDepth 100000 in
set_option maxHeartbeats 1000000 in
theorem handed_any (a : Option Addr) (cap : Nat) (xs : List V) (w : World) (hn : xs.length ≤ 4398046511103) (hx : Vals w a xs) :
    Calls Tryd.prog 14 #[.slice a xs.length cap] w fun e w' => e = .returned (.slice (some ⟨w.heap.size, 0, none⟩) xs.length (xs.length + 2)) ∧ RowT w' w.heap.size (xs ++ [markV] ++ [markV]) [] ∧ Below w.heap.size w w' := by
  obtain ⟨i, hi, hz, hs3, hby⟩ := info_parts infoV
  have hmk : ∀ W, (Instr.makeSlice 22 (.int .i64 ((xs.length : Int) + 2)) (.int .i64 ((xs.length : Int) + 2))).run Tryd.prog W = .ok (.slice (some ⟨W.heap.size, 0, none⟩) (xs.length + 2) (xs.length + 2)) (W.alloc (.cells (madeCells #[.int .i64 0, .int .i64 0, .string ⟨#[]⟩] ((xs.length + 2) * 3)) 25)) := by
    intro W
    have hr := run_make (P := Tryd.prog) W 22 25 i _ (by kernel_rfl) hi hz .i64 .i64 ((xs.length : Int) + 2) ((xs.length : Int) + 2) (by omega) (Int.le_refl _) (by rw [hby]; omega) (by omega)
    have e : ((xs.length : Int) + 2).toNat = xs.length + 2 := by omega
    rw [e, hs3] at hr
    exact hr
  obtain ⟨Z, hZ⟩ : ∃ Z, Z = madeCells #[.int .i64 0, .int .i64 0, .string ⟨#[]⟩] ((xs.length + 2) * 3) := ⟨_, rfl⟩
  have hZs : Z.size = (xs.length + 2) * 3 := by rw [hZ, size_madeCells]
  rw [← hZ] at hmk
  clear hZ hi hz hs3 hby
  have hb0 : Below w.heap.size w (w.alloc (.cells Z 25)) := (Below.refl _ _).alloc (Nat.le_refl _) _
  have hcp := run_copy_V (w.alloc (.cells Z 25)) 3 w.heap.size (xs.length + 2) (xs.length + 2) a cap xs (hx.below hb0) Z (heap_alloc_new w _) (by omega) (by omega)
  obtain ⟨T, hT⟩ : ∃ T, T = (w.alloc (.cells Z 25)).setRow w.heap.size (xs.flatMap V.cells ++ Z.toList.drop (xs.length * 3)).toArray := ⟨_, rfl⟩
  have hrow : RowT T w.heap.size xs (Z.toList.drop (xs.length * 3)) := ⟨_, by rw [hT]; exact setRow_heap _ _ Z _ _ _ (heap_alloc_new w _), rfl⟩
  have hbT : Below w.heap.size w T := by
    refine hb0.trans ⟨by rw [hT]; rfl, by rw [hT]; rfl, by rw [hT]; rfl, by rw [hT]; simp [World.setRow], fun k hk => ?_⟩
    rw [hT]
    exact setRow_other _ _ _ _ (by omega)
  obtain ⟨x0, x1, x2, x3, x4, x5, htl⟩ : ∃ x0 x1 x2 x3 x4 x5, Z.toList.drop (xs.length * 3) = [x0, x1, x2, x3, x4, x5] := by
    have hl : (Z.toList.drop (xs.length * 3)).length = 6 := by rw [List.length_drop, Array.length_toList, hZs]; omega
    match Z.toList.drop (xs.length * 3), hl with
    | [x0, x1, x2, x3, x4, x5], _ => exact ⟨_, _, _, _, _, _, rfl⟩
  rw [htl] at hrow
  rw [← hT] at hcp
  clear hT htl hb0
  go_enter Tryd.func14, Tryd.ntmps14
  go_wp2_with fail
  clear hcp hmk
  refine (mark_any 0 T).mono ?_
  rintro e w2 ⟨rfl, hb2⟩
  have hrow2 := hrow.of_block (hb2.block _ hrow.lt)
  have c0 := hrow2.cell (j := 0) rfl
  have c1 := hrow2.cell (j := 1) rfl
  have c2 := hrow2.cell (j := 2) rfl
  rw [Nat.add_zero] at c0
  obtain ⟨c0, d0⟩ := c0
  obtain ⟨c1, d1⟩ := c1
  obtain ⟨c2, d2⟩ := c2
  have hrow3 := hrow2.set3 markV xs.length rfl
  have hb3 : Below w.heap.size w (((w2.setCell ⟨w.heap.size, xs.length * 3, none⟩ (.int .i64 (-7))).setCell ⟨w.heap.size, xs.length * 3 + 1, none⟩ (.int .i64 0)).setCell ⟨w.heap.size, xs.length * 3 + 2, none⟩ (.string ⟨#[109, 97, 114, 107]⟩)) :=
    (((below_then hbT hb2).setCell (p := ⟨w.heap.size, xs.length * 3, none⟩) (Nat.le_refl _) _).setCell (p := ⟨w.heap.size, xs.length * 3 + 1, none⟩) (Nat.le_refl _) _).setCell (p := ⟨w.heap.size, xs.length * 3 + 2, none⟩) (Nat.le_refl _) _
  go_wp2_with fail
  generalize hW3 : (((w2.setCell ⟨w.heap.size, xs.length * 3, none⟩ (.int .i64 (-7))).setCell ⟨w.heap.size, xs.length * 3 + 1, none⟩ (.int .i64 0)).setCell ⟨w.heap.size, xs.length * 3 + 2, none⟩ (.string ⟨#[109, 97, 114, 107]⟩)) = w3 at *
  have hrow3' : RowT w3 w.heap.size (xs ++ [markV]) [x3, x4, x5] := by rw [← hW3]; exact hrow3
  clear hrow3 hW3 c0 c1 c2 d0 d1 d2 hrow2 hrow
  refine (mark_any 0 w3).mono ?_
  rintro e w4 ⟨rfl, hb4⟩
  have hrow4 := hrow3'.of_block (hb4.block _ hrow3'.lt)
  have hl1 : (xs ++ [markV]).length = xs.length + 1 := by simp
  have c0 := hrow4.cell (j := 0) rfl
  have c1 := hrow4.cell (j := 1) rfl
  have c2 := hrow4.cell (j := 2) rfl
  rw [hl1] at c0 c1 c2
  rw [Nat.add_zero] at c0
  obtain ⟨c0, d0⟩ := c0
  obtain ⟨c1, d1⟩ := c1
  obtain ⟨c2, d2⟩ := c2
  have hrow5 := hrow4.set3 markV (xs.length + 1) hl1.symm
  have HR5 : Hid _ := hrow5
  have hb5 := below_then hb3 hb4
  clear hl1 hrow5 hrow4 hrow3'
  go_wp2
  go_ret
  refine ⟨rfl, HR5.out, ((hb5.setCell (p := ⟨w.heap.size, (xs.length + 1) * 3, none⟩) (Nat.le_refl _) _).setCell (p := ⟨w.heap.size, (xs.length + 1) * 3 + 1, none⟩) (Nat.le_refl _) _).setCell (p := ⟨w.heap.size, (xs.length + 1) * 3 + 2, none⟩) (Nat.le_refl _) _⟩
end Go.Proofs.YthplnjgijmilnaaDoor
