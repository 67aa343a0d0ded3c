/- What the program's Unpack answers, for every text. -/
import Derived.Test.YthplnjgijmilnaaDoorRdK
namespace Go.Proofs.YthplnjgijmilnaaDoor
open Go.RowKit

set_option maxHeartbeats 400000 in
theorem codeOf_form (a0 a1 a2 : Addr) (w : World) (h : Errs w a0 a1 a2) : Calls Tryd.prog 40 #[.iface 126 (.pointer (some a2))] w fun e w' => e = .returned (.int .i64 3) ∧ w' = w := by
  have hn := run_eql_held_nil (P := Tryd.prog) w 43 126 (.pointer (some a2)) (by kernel_rfl)
  have c1 := h.c1
  have c2 := h.c2
  obtain ⟨x1, y1, z1⟩ := h.b1
  obtain ⟨x2, y2, z2⟩ := h.b2
  go_enter Tryd.func40, Tryd.ntmps40
  go_wp2_with fail
  refine (is_other a2 a1 x2 x1 y2 y1 _ (Ne.symm h.n12) z2 z1).mono ?_
  rintro e w' ⟨rfl, hw'⟩
  subst w'
  go_wp2_with fail
  refine (is_same a2 _).mono ?_
  rintro e w' ⟨rfl, rfl⟩
  go_wp2_with fail
  go_ret
  exact ⟨rfl, rfl⟩

set_option maxHeartbeats 1000000 in
theorem Unpack_any (bs : List UInt8) (w : World) (hl : bs.length ≤ maxLen) (a0 a1 a2 : Addr) (he : Errs w a0 a1 a2) :
    Calls Tryd.prog 11 #[.string (str bs)] w fun e w' => Below w.heap.size w w' ∧ ((pRead bs = none ∧ e = .returned (.tuple #[.int .i64 0, .slice none 0 0, fault 3])) ∨
      ∃ t how vs b, pRead bs = some (t, how, vs) ∧ e = .returned (.tuple #[.int .i64 (t : Nat), .slice (some ⟨b, 0, none⟩) vs.length vs.length, fault 0]) ∧ w.heap.size ≤ b ∧ RowT w' b vs []) := by
  have hb0 : Below w.heap.size w (w.alloc (.cells #[.int .i64 0, .int .i64 0, .int .i64 0, .int .i64 0, .int .i64 0] 31)) := (Below.refl _ _).alloc (Nat.le_refl _) _
  have hu := sUnpack_any bs _ hl a0 a1 a2 (he.below hb0)
  go_enter Tryd.func11, Tryd.ntmps11
  go_wp2_with fail
  refine hu.mono ?_
  clear hu
  rintro e w1 ⟨hb1, ⟨hr, rfl⟩ | ⟨t, how, vs, b, hr, rfl, hb, hrow⟩⟩
  · have HR : Hid _ := hr
    clear hr
    go_wp2_with fail
    have hb2 := below_then hb0 hb1
    refine (faultOf_of _ 3 w1 fun W hW => codeOf_form a0 a1 a2 W (he.below (below_then hb2 hW))).mono ?_
    rintro e w2 ⟨rfl, hb3⟩
    obtain ⟨k1, k2⟩ := below_keep (below_then hb1 hb3)
    have hb4 := below_then hb2 hb3
    go_wp2
    exact bodyPost_ret (v := .tuple #[.int .i64 0, .slice none 0 0, fault 3]) (by simp [results, Tryd.results11, go_sem, k1]) rfl ⟨below_set5 hb4 (Nat.le_refl _) _ _ _ _ _, .inl ⟨HR.out, rfl⟩⟩
  · have HR : Hid _ := hr
    clear hr
    simp at hb
    go_wp2_with fail
    have hb2 := below_then hb0 hb1
    refine (faultOf_of _ 0 w1 fun W _ => codeOf_nil W).mono ?_
    rintro e w2 ⟨rfl, hb3⟩
    obtain ⟨k1, k2⟩ := below_keep (below_then hb1 hb3)
    have hb4 := below_then hb2 hb3
    have hrow2 := hrow.of_block (hb3.block _ hrow.lt)
    go_wp2
    refine bodyPost_ret (v := .tuple #[.int .i64 (t : Int), .slice (some ⟨b, 0, none⟩) vs.length vs.length, fault 0]) (by simp [results, Tryd.results11, go_sem, k1]) rfl ⟨below_set5 hb4 (Nat.le_refl _) _ _ _ _ _, .inr ⟨t, how, vs, b, HR.out, rfl, by omega, ?_⟩⟩
    refine hrow2.of_block ?_
    rw [Below.heap_setCell _ _ _ _ (by show b ≠ w.heap.size; omega), Below.heap_setCell _ _ _ _ (by show b ≠ w.heap.size; omega), Below.heap_setCell _ _ _ _ (by show b ≠ w.heap.size; omega), Below.heap_setCell _ _ _ _ (by show b ≠ w.heap.size; omega), Below.heap_setCell _ _ _ _ (by show b ≠ w.heap.size; omega)]
end Go.Proofs.YthplnjgijmilnaaDoor
