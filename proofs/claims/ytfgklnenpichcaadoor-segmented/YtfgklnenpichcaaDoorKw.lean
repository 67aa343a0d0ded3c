/- What 'written' asks of a text. -/
import Derived.Test.YtfgklnenpichcaaDoorKm
import Derived.Test.YtfgklnenpichcaaDoorKp
/-! The law Segmented: a text is no segment, or just what Pack writes of what is read. -/
namespace Go.Proofs.YtfgklnenpichcaaDoor
open Go.RowKit

set_option maxRecDepth 100000 in
set_option maxHeartbeats 2000000 in
theorem written_any (bs : List UInt8) (w : World) (hl : bs.length ≤ maxLen) (a0 a1 a2 : Addr) (he : Errs w a0 a1 a2) :
    Calls Tryd.prog 11 #[.string (str bs)] w fun e w' => e = .returned (.bool true) ∧ Below w.heap.size w w' := by
  have hu := Unpack_any bs w hl a0 a1 a2 he
  have hq0 := run_neq_F 0
  have hq1 := run_eql_F 0
  go_enter Tryd.func11, Tryd.ntmps11
  go_wp2_with fail
  refine hu.mono ?_
  clear hu
  rintro e w1 ⟨hb1, ⟨hr, rfl⟩ | ⟨t, how, vs, b, hr, rfl, hb, hrow⟩⟩
  · clear hr
    go_wp2
    go_ret
    exact ⟨rfl, below_alloc hb1 _⟩
  · obtain ⟨h3, hhow, hpo, hvl⟩ := pRead_how hr
    clear hr
    have hsz := str_size bs
    have h3' : ¬ ((bs.length : Int) < 3) := by omega
    have hh : ((bs.getD 1 0).toNat : Int) = (how : Int) := by rw [hhow]
    have hlt : (how : Int) < 256 := by have := (bs.getD 1 0).toNat_lt; omega
    have hge : (0 : Int) ≤ (how : Int) := by omega
    have hidx := run_index_nat bs 1 (by omega)
    rw [hh] at hidx
    simp only [Int.natCast_one] at hidx
    have hb1s := hb1.size
    have hbl := hrow.lt
    have hba : Below w1.heap.size w1 (w1.alloc (.cells #[.int .i64 0, .int .i64 (-1), .int .i64 (-1), .int .i64 (-1), .int .i64 (-1)] 30)) := (Below.refl _ _).alloc (Nat.le_refl _) _
    have HPO : Hid (pOut t how vs = (bs, 0)) := hpo
    clear hhow hpo hh
    go_wp2_with fail
    generalize hW : w1.alloc (.cells #[.int .i64 0, .int .i64 (-1), .int .i64 (-1), .int .i64 (-1), .int .i64 (-1)] 30) = W at *
    have r0 : W.cell? ⟨w1.heap.size, 0, none⟩ = some (.int .i64 0) := by rw [← hW]; simp
    have r1 : W.cell? ⟨w1.heap.size, 1, none⟩ = some (.int .i64 (-1)) := by rw [← hW]; simp
    have r2 : W.cell? ⟨w1.heap.size, 2, none⟩ = some (.int .i64 (-1)) := by rw [← hW]; simp
    have r3 : W.cell? ⟨w1.heap.size, 3, none⟩ = some (.int .i64 (-1)) := by rw [← hW]; simp
    have r4 : W.cell? ⟨w1.heap.size, 4, none⟩ = some (.int .i64 (-1)) := by rw [← hW]; simp
    have hg1 : w1.heap.size < W.heap.size := by rw [← hW]; simp
    clear hW
    go_region_held3 (fun X => X.cell? ⟨w1.heap.size, 0, none⟩ = some (.int .i64 0) ∧ X.cell? ⟨w1.heap.size, 1, none⟩ = some (.int .i64 (-1)) ∧ X.cell? ⟨w1.heap.size, 2, none⟩ = some (.int .i64 (-1)) ∧ X.cell? ⟨w1.heap.size, 3, none⟩ = some (.int .i64 (-1)) ∧ X.cell? ⟨w1.heap.size, 4, none⟩ = some (.int .i64 (-1)))
      (first | go_keep | (go_split_ands; refine ⟨?_, ?_, ?_, ?_, ?_⟩ <;> (rw [(below_keep hbm).1 _ _ (by first | exact hg1 | assumption)]; assumption)))
      (first | (go_at_call 10; refine (none_any _).mono ?_; rintro e wm ⟨rfl, hbm⟩; have hbw : Below w1.heap.size w1 wm := (by first | exact below_then hba (below_undrew hbm) | exact below_then hba hbm)))
    clear r0 r1 r2 r3 r4 hbm hba
    have hrow2 : RowT wm b vs [] := hrow.of_block (hbw.block _ hbl)
    have hbw2 := below_then hb1 hbw
    have hv2 := hrow2.vals
    go_wp2_with fail
    refine (Pack_any (t : Int) (how : Int) _ _ vs wm (by unfold maxLen; omega) hv2 a0 a1 a2 (he.below hbw2)).mono ?_
    rintro e w3 ⟨rfl, hb3⟩
    rw [HPO.out]
    clear hv2 hrow2 hrow
    have hba3 : Below w3.heap.size w3 (w3.alloc (.cells #[.int .i64 0, .int .i64 (-1), .int .i64 (-1), .int .i64 (-1), .int .i64 (-1)] 30)) := (Below.refl _ _).alloc (Nat.le_refl _) _
    go_wp2_with fail
    generalize hW : w3.alloc (.cells #[.int .i64 0, .int .i64 (-1), .int .i64 (-1), .int .i64 (-1), .int .i64 (-1)] 30) = W3 at *
    have r0 : W3.cell? ⟨w3.heap.size, 0, none⟩ = some (.int .i64 0) := by rw [← hW]; simp
    have r1 : W3.cell? ⟨w3.heap.size, 1, none⟩ = some (.int .i64 (-1)) := by rw [← hW]; simp
    have r2 : W3.cell? ⟨w3.heap.size, 2, none⟩ = some (.int .i64 (-1)) := by rw [← hW]; simp
    have r3 : W3.cell? ⟨w3.heap.size, 3, none⟩ = some (.int .i64 (-1)) := by rw [← hW]; simp
    have r4 : W3.cell? ⟨w3.heap.size, 4, none⟩ = some (.int .i64 (-1)) := by rw [← hW]; simp
    have hg3 : w3.heap.size < W3.heap.size := by rw [← hW]; simp
    clear hW
    have hb13 := below_then hbw2 hb3
    go_region_held3 (fun X => X.cell? ⟨w3.heap.size, 0, none⟩ = some (.int .i64 0) ∧ X.cell? ⟨w3.heap.size, 1, none⟩ = some (.int .i64 (-1)) ∧ X.cell? ⟨w3.heap.size, 2, none⟩ = some (.int .i64 (-1)) ∧ X.cell? ⟨w3.heap.size, 3, none⟩ = some (.int .i64 (-1)) ∧ X.cell? ⟨w3.heap.size, 4, none⟩ = some (.int .i64 (-1)))
      (first | go_keep | (go_split_ands; refine ⟨?_, ?_, ?_, ?_, ?_⟩ <;> (rw [(below_keep hbm).1 _ _ (by first | exact hg3 | assumption)]; assumption)))
      (first | (go_at_call 10; refine (none_any _).mono ?_; rintro e wn ⟨rfl, hbm⟩; have hbn : Below w3.heap.size w3 wn := (by first | exact below_then hba3 (below_undrew hbm) | exact below_then hba3 hbm)))
    go_wp2
    go_ret
    exact ⟨rfl, below_then hb13 hbn⟩
end Go.Proofs.YtfgklnenpichcaaDoor
