/- The law Packs, walked: it answers true, for every type, way and list of at most 2^42 values, and turns nothing that was there. -/
import Derived.Test.YtiicoehcjoocbaaDoorKf
import Derived.Test.YtiicoehcjoocbaaDoorKg
import Derived.Test.YtiicoehcjoocbaaDoorKp
import Derived.Test.YtiicoehcjoocbaaDoorKq
namespace Go.Proofs.YtiicoehcjoocbaaDoor
open Go.RowKit

set_option maxHeartbeats 1000000 in
theorem packedLaw_any (t how : Int) (a : Option Addr) (cap : Nat) (xs : List V) (w : World) (hn : xs.length ≤ 4398046511103) (hx : Vals w a xs) (a0 a1 a2 : Addr) (he : Errs w a0 a1 a2) :
    Calls Tryd.prog 5 #[.int .i64 t, .int .i64 how, .slice a xs.length cap] w fun e w' => e = .returned (.bool true) ∧ Below w.heap.size w w' := by
  have hn63 : xs.length ≤ maxLen := by unfold maxLen; omega
  have hq := run_eql_F (pOut t how xs).2
  go_enter Tryd.func5, Tryd.ntmps5
  go_wp2_with fail
  refine (handed_any a cap xs w hn hx).mono ?_
  rintro e w1 ⟨rfl, hr1, hb1⟩
  have hv1 : Vals w1 (some ⟨w.heap.size, 0, none⟩) xs := by
    rcases hr1.vals with hv | ⟨b, o, e, hb, hv⟩
    · simp at hv
    · refine .inr ⟨b, o, e, hb, fun i v hi => hv i v ?_⟩
      have hin : i < xs.length := by
        rcases Nat.lt_or_ge i xs.length with h' | h'
        · exact h'
        · rw [List.getElem?_eq_none h'] at hi; simp at hi
      rw [List.append_assoc, List.getElem?_append_left hin]; exact hi
  have hg1 := hr1.lt
  go_wp2_with fail
  refine (Pack_any t how _ _ xs w1 hn63 hv1 a0 a1 a2 (he.below hb1)).mono ?_
  rintro e w2 ⟨rfl, hb2⟩
  generalize hpo : pOut t how xs = po at *
  have HPO : Hid (pOut t how xs = po) := hpo
  clear hpo
  have hba : Below w2.heap.size w2 (w2.alloc (.cells #[.int .i64 po.2, .int .i64 (-1), .int .i64 (-1), .int .i64 (-1), .int .i64 (-1)] 30)) := (Below.refl _ _).alloc (Nat.le_refl _) _
  have hs1 := hb1.size
  have hs2 := hb2.size
  have hb3 := below_then hb2 hba
  have hr3 := hr1.of_block (hb3.block _ hg1)
  have hb13 := below_then hb1 hb3
  go_wp2_with fail
  refine (still_any w.heap.size a cap xs _ hn hr3 (hx.below hb13)).mono ?_
  rintro e w4 ⟨rfl, hg4⟩
  have hs4 := hg4.size
  have hw4 : ∀ o, w4.cell? ⟨w2.heap.size, o, none⟩ = (w2.alloc (.cells #[.int .i64 po.2, .int .i64 (-1), .int .i64 (-1), .int .i64 (-1), .int .i64 (-1)] 30)).cell? ⟨w2.heap.size, o, none⟩ := fun o =>
    World.cell?_of_block (hg4.block w2.heap.size (by simp) (by intro e; simp at e; omega))
  have r0 : w4.cell? ⟨w2.heap.size, 0, none⟩ = some (.int .i64 po.2) := by rw [hw4]; simp
  have r1 : w4.cell? ⟨w2.heap.size, 1, none⟩ = some (.int .i64 (-1)) := by rw [hw4]; simp
  have r2 : w4.cell? ⟨w2.heap.size, 2, none⟩ = some (.int .i64 (-1)) := by rw [hw4]; simp
  have r3 : w4.cell? ⟨w2.heap.size, 3, none⟩ = some (.int .i64 (-1)) := by rw [hw4]; simp
  have r4 : w4.cell? ⟨w2.heap.size, 4, none⟩ = some (.int .i64 (-1)) := by rw [hw4]; simp
  have hlt4 : w2.heap.size < w4.heap.size := by simp at hs4; omega
  have hb4 : Below w.heap.size w w4 := hb13.grown hg4 (by have := hb13.size; omega) (by intro k hk; simp at hk; omega)
  clear hw4
  go_wp2_with fail
  refine (rPack_any t how a cap xs w4 (hx.below hb4)).mono ?_
  rintro e w5 ⟨rfl, hb5⟩
  rw [HPO.out]
  obtain ⟨k1, k2⟩ := below_keep hb5
  have s0 : w5.cell? ⟨w2.heap.size, 0, none⟩ = some (.int .i64 po.2) := by rw [k1 _ _ hlt4]; exact r0
  have s1 : w5.cell? ⟨w2.heap.size, 1, none⟩ = some (.int .i64 (-1)) := by rw [k1 _ _ hlt4]; exact r1
  have s2 : w5.cell? ⟨w2.heap.size, 2, none⟩ = some (.int .i64 (-1)) := by rw [k1 _ _ hlt4]; exact r2
  have s3 : w5.cell? ⟨w2.heap.size, 3, none⟩ = some (.int .i64 (-1)) := by rw [k1 _ _ hlt4]; exact r3
  have s4 : w5.cell? ⟨w2.heap.size, 4, none⟩ = some (.int .i64 (-1)) := by rw [k1 _ _ hlt4]; exact r4
  have hlt5 : w2.heap.size < w5.heap.size := by have := hb5.size; omega
  clear k1 k2 r0 r1 r2 r3 r4
  go_wp2
  go_ret
  exact ⟨rfl, below_alloc (below_then hb4 hb5) _⟩

set_option maxHeartbeats 1000000 in
theorem packsLaw_any (t how : Int) (a : Option Addr) (cap : Nat) (xs : List V) (w : World) (hn : xs.length ≤ 4398046511103) (hx : Vals w a xs) (a0 a1 a2 : Addr) (he : Errs w a0 a1 a2) :
    Calls Tryd.prog 3 #[.int .i64 t, .int .i64 how, .slice a xs.length cap] w fun e w' => e = .returned (.bool true) ∧ Below w.heap.size w w' := by
  go_enter Tryd.func3, Tryd.ntmps3
  go_wp2_with fail
  have hb0 : Below w.heap.size w (w.alloc (.cells #[.int .i64 0, .int .i64 0, .string ⟨#[]⟩, .int .i64 1, .int .i64 5, .string ⟨#[]⟩, .int .i64 1, .int .i64 (-1), .string ⟨#[]⟩] 25)) := (Below.refl _ _).alloc (Nat.le_refl _) _
  have hv0 : Vals (w.alloc (.cells #[.int .i64 0, .int .i64 0, .string ⟨#[]⟩, .int .i64 1, .int .i64 5, .string ⟨#[]⟩, .int .i64 1, .int .i64 (-1), .string ⟨#[]⟩] 25)) (some ⟨w.heap.size, 0, none⟩) [⟨0, 0, ⟨#[]⟩⟩, ⟨1, 5, ⟨#[]⟩⟩, ⟨1, -1, ⟨#[]⟩⟩] := by
    refine .inr ⟨w.heap.size, 0, rfl, by simp, fun i v hi => ?_⟩
    match i, hi with
    | 0, hi => simp at hi; subst hi; exact ⟨by simp, by simp, by simp⟩
    | 1, hi => simp at hi; subst hi; exact ⟨by simp, by simp, by simp⟩
    | 2, hi => simp at hi; subst hi; exact ⟨by simp, by simp, by simp⟩
    | i + 3, hi => simp at hi
  refine (packedLaw_any 1 0 (some ⟨w.heap.size, 0, none⟩) 3 [⟨0, 0, ⟨#[]⟩⟩, ⟨1, 5, ⟨#[]⟩⟩, ⟨1, -1, ⟨#[]⟩⟩] _ (by simp) hv0 a0 a1 a2 (he.below hb0)).mono ?_
  rintro e w1 ⟨rfl, hb1⟩
  have hb01 := below_then hb0 hb1
  go_wp2_with fail
  refine (packedLaw_any t how a cap xs w1 hn (hx.below hb01) a0 a1 a2 (he.below hb01)).mono ?_
  rintro e w2 ⟨rfl, hb2⟩
  go_wp2
  go_ret
  exact ⟨rfl, below_then hb01 hb2⟩
end Go.Proofs.YtiicoehcjoocbaaDoor
