/- The law Packs, walked: it answers true, for every type, way and list of at most 2^42 values, and turns nothing that was there. -/
import Derived.Test.YtfgklnenpichcaaDoorKf
import Derived.Test.YtfgklnenpichcaaDoorKg
import Derived.Test.YtfgklnenpichcaaDoorKp
import Derived.Test.YtfgklnenpichcaaDoorKq
namespace Go.Proofs.YtfgklnenpichcaaDoor
open Go.RowKit

set_option maxRecDepth 100000 in
set_option maxHeartbeats 1000000 in
theorem handed_any (a : Option Addr) (cap : Nat) (xs : List V) (w : World) (hn : xs.length ≤ 4398046511103) (hx : Vals w a xs) :
    Calls Tryd.prog 12 #[.slice a xs.length cap] w fun e w' => e = .returned (.slice (some ⟨w.heap.size, 0, none⟩) xs.length (xs.length + 2)) ∧ RowT w' w.heap.size (xs ++ [markV] ++ [markV]) [] ∧ Below w.heap.size w w' := by
  obtain ⟨i, hi, hz, hs3, hby⟩ := info_parts infoV
  have hmk : ∀ W, (Instr.makeSlice 22 (.int .i64 ((xs.length : Int) + 2)) (.int .i64 ((xs.length : Int) + 2))).run Tryd.prog W = .ok (.slice (some ⟨W.heap.size, 0, none⟩) (xs.length + 2) (xs.length + 2)) (W.alloc (.cells (madeCells #[.int .i64 0, .int .i64 0, .string ⟨#[]⟩] ((xs.length + 2) * 3)) 25)) := by
    intro W
    have hr := run_make (P := Tryd.prog) W 22 25 i _ (by kernel_rfl) hi hz .i64 .i64 ((xs.length : Int) + 2) ((xs.length : Int) + 2) (by omega) (Int.le_refl _) (by rw [hby]; omega) (by omega)
    have e : ((xs.length : Int) + 2).toNat = xs.length + 2 := by omega
    rw [e, hs3] at hr
    exact hr
  obtain ⟨Z, hZ⟩ : ∃ Z, Z = madeCells #[.int .i64 0, .int .i64 0, .string ⟨#[]⟩] ((xs.length + 2) * 3) := ⟨_, rfl⟩
  have hZs : Z.size = (xs.length + 2) * 3 := by rw [hZ, size_madeCells]
  rw [← hZ] at hmk
  clear hZ hi hz hs3 hby
  have hb0 : Below w.heap.size w (w.alloc (.cells Z 25)) := (Below.refl _ _).alloc (Nat.le_refl _) _
  have hcp := run_copy_V (w.alloc (.cells Z 25)) 3 w.heap.size (xs.length + 2) (xs.length + 2) a cap xs (hx.below hb0) Z (heap_alloc_new w _) (by omega) (by omega)
  obtain ⟨T, hT⟩ : ∃ T, T = (w.alloc (.cells Z 25)).setRow w.heap.size (xs.flatMap V.cells ++ Z.toList.drop (xs.length * 3)).toArray := ⟨_, rfl⟩
  have hrow : RowT T w.heap.size xs (Z.toList.drop (xs.length * 3)) := ⟨_, by rw [hT]; exact setRow_heap _ _ Z _ _ _ (heap_alloc_new w _), rfl⟩
  have hbT : Below w.heap.size w T := by
    refine hb0.trans ⟨by rw [hT]; rfl, by rw [hT]; rfl, by rw [hT]; rfl, by rw [hT]; simp [World.setRow], fun k hk => ?_⟩
    rw [hT]
    exact setRow_other _ _ _ _ (by omega)
  obtain ⟨x0, x1, x2, x3, x4, x5, htl⟩ : ∃ x0 x1 x2 x3 x4 x5, Z.toList.drop (xs.length * 3) = [x0, x1, x2, x3, x4, x5] := by
    have hl : (Z.toList.drop (xs.length * 3)).length = 6 := by rw [List.length_drop, Array.length_toList, hZs]; omega
    match Z.toList.drop (xs.length * 3), hl with
    | [x0, x1, x2, x3, x4, x5], _ => exact ⟨_, _, _, _, _, _, rfl⟩
  rw [htl] at hrow
  rw [← hT] at hcp
  clear hT htl hb0
  go_enter Tryd.func12, Tryd.ntmps12
  go_wp2_with fail
  clear hcp hmk
  refine (mark_any 0 T).mono ?_
  rintro e w2 ⟨rfl, hb2⟩
  have hrow2 := hrow.of_block (hb2.block _ hrow.lt)
  have c0 := hrow2.cell (j := 0) rfl
  have c1 := hrow2.cell (j := 1) rfl
  have c2 := hrow2.cell (j := 2) rfl
  rw [Nat.add_zero] at c0
  obtain ⟨c0, d0⟩ := c0
  obtain ⟨c1, d1⟩ := c1
  obtain ⟨c2, d2⟩ := c2
  have hrow3 := hrow2.set3 markV xs.length rfl
  have hb3 : Below w.heap.size w (((w2.setCell ⟨w.heap.size, xs.length * 3, none⟩ (.int .i64 (-7))).setCell ⟨w.heap.size, xs.length * 3 + 1, none⟩ (.int .i64 0)).setCell ⟨w.heap.size, xs.length * 3 + 2, none⟩ (.string ⟨#[109, 97, 114, 107]⟩)) :=
    (((below_then hbT hb2).setCell (p := ⟨w.heap.size, xs.length * 3, none⟩) (Nat.le_refl _) _).setCell (p := ⟨w.heap.size, xs.length * 3 + 1, none⟩) (Nat.le_refl _) _).setCell (p := ⟨w.heap.size, xs.length * 3 + 2, none⟩) (Nat.le_refl _) _
  go_wp2_with fail
  generalize hW3 : (((w2.setCell ⟨w.heap.size, xs.length * 3, none⟩ (.int .i64 (-7))).setCell ⟨w.heap.size, xs.length * 3 + 1, none⟩ (.int .i64 0)).setCell ⟨w.heap.size, xs.length * 3 + 2, none⟩ (.string ⟨#[109, 97, 114, 107]⟩)) = w3 at *
  have hrow3' : RowT w3 w.heap.size (xs ++ [markV]) [x3, x4, x5] := by rw [← hW3]; exact hrow3
  clear hrow3 hW3 c0 c1 c2 d0 d1 d2 hrow2 hrow
  refine (mark_any 0 w3).mono ?_
  rintro e w4 ⟨rfl, hb4⟩
  have hrow4 := hrow3'.of_block (hb4.block _ hrow3'.lt)
  have hl1 : (xs ++ [markV]).length = xs.length + 1 := by simp
  have c0 := hrow4.cell (j := 0) rfl
  have c1 := hrow4.cell (j := 1) rfl
  have c2 := hrow4.cell (j := 2) rfl
  rw [hl1] at c0 c1 c2
  rw [Nat.add_zero] at c0
  obtain ⟨c0, d0⟩ := c0
  obtain ⟨c1, d1⟩ := c1
  obtain ⟨c2, d2⟩ := c2
  have hrow5 := hrow4.set3 markV (xs.length + 1) hl1.symm
  have HR5 : Hid _ := hrow5
  have hb5 := below_then hb3 hb4
  clear hl1 hrow5 hrow4 hrow3'
  go_wp2
  go_ret
  refine ⟨rfl, HR5.out, ((hb5.setCell (p := ⟨w.heap.size, (xs.length + 1) * 3, none⟩) (Nat.le_refl _) _).setCell (p := ⟨w.heap.size, (xs.length + 1) * 3 + 1, none⟩) (Nat.le_refl _) _).setCell (p := ⟨w.heap.size, (xs.length + 1) * 3 + 2, none⟩) (Nat.le_refl _) _⟩

set_option maxRecDepth 100000 in
set_option maxHeartbeats 2000000 in
theorem still_any (g : Nat) (a : Option Addr) (cap : Nat) (xs : List V) (w : World) (hn : xs.length ≤ 4398046511103) (hr : RowT w g (xs ++ [markV] ++ [markV]) []) (hx : Vals w a xs) :
    Calls Tryd.prog 13 #[.slice (some ⟨g, 0, none⟩) xs.length (xs.length + 2), .slice a xs.length cap] w fun e w' => e = .returned (.bool true) ∧ w.grownBy w' (some g) := by
  have hg := hr.lt
  have hv := hr.vals
  have hvx : Vals w (some ⟨g, 0, none⟩) xs := by
    rcases hv with hv | ⟨b, o, e, hb, hv⟩
    · simp at hv
    · refine .inr ⟨b, o, e, hb, fun i v hi => hv i v ?_⟩
      have hin : i < xs.length := by
        rcases Nat.lt_or_ge i xs.length with h' | h'
        · exact h'
        · rw [List.getElem?_eq_none h'] at hi; simp at hi
      rw [List.append_assoc, List.getElem?_append_left hin]; exact hi
  obtain ⟨b1, o1, e1, _, m1, m2, m3⟩ := hv.at (i := xs.length) (by simp)
  obtain ⟨b2, o2, e2, _, p1, p2, p3⟩ := hv.at (i := xs.length + 1) (by simp)
  simp at e1 e2
  obtain ⟨rfl, rfl⟩ := e1
  obtain ⟨rfl, rfl⟩ := e2
  have hm1 : (xs ++ [markV] ++ [markV])[xs.length]'(by simp) = markV := by simp
  have hm2 : (xs ++ [markV] ++ [markV])[xs.length + 1]'(by simp) = markV := by simp
  rw [hm1] at m1 m2 m3
  rw [hm2] at p1 p2 p3
  simp only [markV, Nat.zero_add] at m1 m2 m3 p1 p2 p3
  clear hm1 hm2 hv
  have hq : ∀ W, (binOp .eql 25 (.agg #[.int .i64 (-7), .int .i64 0, .string ⟨#[109, 97, 114, 107]⟩]) (.agg #[.int .i64 (-7), .int .i64 0, .string ⟨#[109, 97, 114, 107]⟩])).run Tryd.prog W = .ok (.bool true) W := run_eql_same markV markV rfl
  have hn63 : xs.length ≤ maxLen := by unfold maxLen; omega
  go_enter Tryd.func13, Tryd.ntmps13
  go_wp2_with fail
  refine (sameValues_any (some ⟨g, 0, none⟩) a _ _ xs xs w hn63 hvx hx true ⟨fun _ => rfl, fun _ => rfl⟩).mono ?_
  rintro e w1 ⟨rfl, hb1⟩
  obtain ⟨k1, k2⟩ := below_keep hb1
  have hg1 : g < w1.heap.size := by have := hb1.size; omega
  rw [← k1 _ _ hg] at m1 m2 m3 p1 p2 p3
  clear k1 k2
  go_wp2_with fail
  have j0 : (0 : Int) ≤ (xs.length : Int) := by omega
  have j1 : (xs.length : Int) < (xs.length : Int) + 2 := by omega
  have j2 : (0 : Int) ≤ (xs.length : Int) + 1 := by omega
  have j3 : (xs.length : Int) + 1 < (xs.length : Int) + 2 := by omega
  have j4 : IntKind.i64.wrap ((xs.length : Int) + 1) = (xs.length : Int) + 1 := by rw [IntKind.wrap_i64]; omega
  have j5 : ((xs.length : Int) + 1).toNat = xs.length + 1 := by omega
  go_region_held3 (fun W => W.cell? ⟨g, xs.length * 3, none⟩ = some (.int .i64 (-7)) ∧ W.cell? ⟨g, xs.length * 3 + 1, none⟩ = some (.int .i64 0) ∧ W.cell? ⟨g, xs.length * 3 + 2, none⟩ = some (.string ⟨#[109, 97, 114, 107]⟩) ∧ W.cell? ⟨g, (xs.length + 1) * 3, none⟩ = some (.int .i64 (-7)) ∧ W.cell? ⟨g, (xs.length + 1) * 3 + 1, none⟩ = some (.int .i64 0) ∧ W.cell? ⟨g, (xs.length + 1) * 3 + 2, none⟩ = some (.string ⟨#[109, 97, 114, 107]⟩))
    (first | go_keep | (go_split_ands; refine ⟨?_, ?_, ?_, ?_, ?_, ?_⟩ <;> (rw [(below_keep hbm).1 _ _ (by first | exact hg1 | assumption)]; assumption)))
    (first | (go_at_call 18; refine (mark_any _ _).mono ?_; rintro e wm ⟨rfl, hbm⟩; have hgm : g < wm.heap.size := Nat.lt_of_lt_of_le (by first | exact hg1 | assumption) hbm.size; have hbw : Below w.heap.size w wm := (by first | exact below_then hb1 (below_undrew hbm) | exact below_then hbw hbm)))
  clear hbm m1 m2 m3 p1 p2 p3 j0 j1 j2 j3 j4 j5 hq
  have hrm : RowT wm g (xs ++ [markV] ++ [markV]) [] := hr.of_block (hbw.block _ hg)
  have hbg : w.grownBy wm (some g) := grown_below hbw
  go_wp2
  go_loopw [8] (fun i wr => ∃ (k : Nat) (ys : List V), k ≤ xs.length ∧ i = .int .i64 k ∧ ys.length = xs.length + 2 ∧ RowT wr g ys [] ∧ w.grownBy wr (some g)) (fun i _ => xs.length - (intOf i).toNat)
  case atStart => exact ⟨0, _, by omega, rfl, by simp, hrm, hbg⟩
  case round =>
    obtain ⟨k, ys, hk, rfl, hyl, hry, hbk⟩ := hrel
    by_cases hlt : k < xs.length
    · go_wp2_with fail
      refine (mark_any 0 _).mono ?_
      rintro e w5 ⟨rfl, hb5⟩
      have hry5 := hry.of_block (hb5.block _ hry.lt)
      have hky : k < ys.length := by omega
      have HYL : Hid (ys.length = xs.length + 2) := hyl
      clear hyl
      obtain ⟨⟨⟨c0, d0⟩, ⟨c1, d1⟩, ⟨c2, d2⟩⟩, hset⟩ := hry5.at3 markV k hky
      have HSET : Hid _ := hset
      clear hset
      go_wp2
      go_roundw
      case rel =>
        refine ⟨k + 1, ys.set k markV, by omega, by go_num, by rw [List.length_set]; exact HYL.out, HSET.out, ?_⟩
        exact grown_set (grown_set (grown_set (grown_trans hbk (grown_below hb5)) _ _) _ _) _ _
      case measure => simp [intOf]; omega
    · go_wp2
      go_ret
      exact ⟨rfl, hbk⟩


set_option maxHeartbeats 1000000 in
theorem packedLaw_any (t how : Int) (a : Option Addr) (cap : Nat) (xs : List V) (w : World) (hn : xs.length ≤ 4398046511103) (hx : Vals w a xs) (a0 a1 a2 : Addr) (he : Errs w a0 a1 a2) :
    Calls Tryd.prog 5 #[.int .i64 t, .int .i64 how, .slice a xs.length cap] w fun e w' => e = .returned (.bool true) ∧ Below w.heap.size w w' := by
  have hn63 : xs.length ≤ maxLen := by unfold maxLen; omega
  have hq := run_eql_F (pOut t how xs).2
  go_enter Tryd.func5, Tryd.ntmps5
  go_wp2_with fail
  refine (handed_any a cap xs w hn hx).mono ?_
  rintro e w1 ⟨rfl, hr1, hb1⟩
  have hv1 : Vals w1 (some ⟨w.heap.size, 0, none⟩) xs := by
    rcases hr1.vals with hv | ⟨b, o, e, hb, hv⟩
    · simp at hv
    · refine .inr ⟨b, o, e, hb, fun i v hi => hv i v ?_⟩
      have hin : i < xs.length := by
        rcases Nat.lt_or_ge i xs.length with h' | h'
        · exact h'
        · rw [List.getElem?_eq_none h'] at hi; simp at hi
      rw [List.append_assoc, List.getElem?_append_left hin]; exact hi
  have hg1 := hr1.lt
  go_wp2_with fail
  refine (Pack_any t how _ _ xs w1 hn63 hv1 a0 a1 a2 (he.below hb1)).mono ?_
  rintro e w2 ⟨rfl, hb2⟩
  generalize hpo : pOut t how xs = po at *
  have HPO : Hid (pOut t how xs = po) := hpo
  clear hpo
  have hba : Below w2.heap.size w2 (w2.alloc (.cells #[.int .i64 po.2, .int .i64 (-1), .int .i64 (-1), .int .i64 (-1), .int .i64 (-1)] 30)) := (Below.refl _ _).alloc (Nat.le_refl _) _
  have hs1 := hb1.size
  have hs2 := hb2.size
  have hb3 := below_then hb2 hba
  have hr3 := hr1.of_block (hb3.block _ hg1)
  have hb13 := below_then hb1 hb3
  go_wp2_with fail
  refine (still_any w.heap.size a cap xs _ hn hr3 (hx.below hb13)).mono ?_
  rintro e w4 ⟨rfl, hg4⟩
  have hs4 := hg4.size
  have hw4 : ∀ o, w4.cell? ⟨w2.heap.size, o, none⟩ = (w2.alloc (.cells #[.int .i64 po.2, .int .i64 (-1), .int .i64 (-1), .int .i64 (-1), .int .i64 (-1)] 30)).cell? ⟨w2.heap.size, o, none⟩ := fun o =>
    World.cell?_of_block (hg4.block w2.heap.size (by simp) (by intro e; simp at e; omega))
  have r0 : w4.cell? ⟨w2.heap.size, 0, none⟩ = some (.int .i64 po.2) := by rw [hw4]; simp
  have r1 : w4.cell? ⟨w2.heap.size, 1, none⟩ = some (.int .i64 (-1)) := by rw [hw4]; simp
  have r2 : w4.cell? ⟨w2.heap.size, 2, none⟩ = some (.int .i64 (-1)) := by rw [hw4]; simp
  have r3 : w4.cell? ⟨w2.heap.size, 3, none⟩ = some (.int .i64 (-1)) := by rw [hw4]; simp
  have r4 : w4.cell? ⟨w2.heap.size, 4, none⟩ = some (.int .i64 (-1)) := by rw [hw4]; simp
  have hlt4 : w2.heap.size < w4.heap.size := by simp at hs4; omega
  have hb4 : Below w.heap.size w w4 := hb13.grown hg4 (by have := hb13.size; omega) (by intro k hk; simp at hk; omega)
  clear hw4
  go_wp2_with fail
  refine (rPack_any t how a cap xs w4 (hx.below hb4)).mono ?_
  rintro e w5 ⟨rfl, hb5⟩
  rw [HPO.out]
  obtain ⟨k1, k2⟩ := below_keep hb5
  have s0 : w5.cell? ⟨w2.heap.size, 0, none⟩ = some (.int .i64 po.2) := by rw [k1 _ _ hlt4]; exact r0
  have s1 : w5.cell? ⟨w2.heap.size, 1, none⟩ = some (.int .i64 (-1)) := by rw [k1 _ _ hlt4]; exact r1
  have s2 : w5.cell? ⟨w2.heap.size, 2, none⟩ = some (.int .i64 (-1)) := by rw [k1 _ _ hlt4]; exact r2
  have s3 : w5.cell? ⟨w2.heap.size, 3, none⟩ = some (.int .i64 (-1)) := by rw [k1 _ _ hlt4]; exact r3
  have s4 : w5.cell? ⟨w2.heap.size, 4, none⟩ = some (.int .i64 (-1)) := by rw [k1 _ _ hlt4]; exact r4
  have hlt5 : w2.heap.size < w5.heap.size := by have := hb5.size; omega
  clear k1 k2 r0 r1 r2 r3 r4
  go_wp2
  go_ret
  exact ⟨rfl, below_alloc (below_then hb4 hb5) _⟩

set_option maxHeartbeats 1000000 in
theorem packsLaw_any (t how : Int) (a : Option Addr) (cap : Nat) (xs : List V) (w : World) (hn : xs.length ≤ 4398046511103) (hx : Vals w a xs) (a0 a1 a2 : Addr) (he : Errs w a0 a1 a2) :
    Calls Tryd.prog 3 #[.int .i64 t, .int .i64 how, .slice a xs.length cap] w fun e w' => e = .returned (.bool true) ∧ Below w.heap.size w w' := by
  go_enter Tryd.func3, Tryd.ntmps3
  go_wp2_with fail
  have hb0 : Below w.heap.size w (w.alloc (.cells #[.int .i64 0, .int .i64 0, .string ⟨#[]⟩, .int .i64 1, .int .i64 5, .string ⟨#[]⟩, .int .i64 1, .int .i64 (-1), .string ⟨#[]⟩] 25)) := (Below.refl _ _).alloc (Nat.le_refl _) _
  have hv0 : Vals (w.alloc (.cells #[.int .i64 0, .int .i64 0, .string ⟨#[]⟩, .int .i64 1, .int .i64 5, .string ⟨#[]⟩, .int .i64 1, .int .i64 (-1), .string ⟨#[]⟩] 25)) (some ⟨w.heap.size, 0, none⟩) [⟨0, 0, ⟨#[]⟩⟩, ⟨1, 5, ⟨#[]⟩⟩, ⟨1, -1, ⟨#[]⟩⟩] := by
    refine .inr ⟨w.heap.size, 0, rfl, by simp, fun i v hi => ?_⟩
    match i, hi with
    | 0, hi => simp at hi; subst hi; exact ⟨by simp, by simp, by simp⟩
    | 1, hi => simp at hi; subst hi; exact ⟨by simp, by simp, by simp⟩
    | 2, hi => simp at hi; subst hi; exact ⟨by simp, by simp, by simp⟩
    | i + 3, hi => simp at hi
  refine (packedLaw_any 1 0 (some ⟨w.heap.size, 0, none⟩) 3 [⟨0, 0, ⟨#[]⟩⟩, ⟨1, 5, ⟨#[]⟩⟩, ⟨1, -1, ⟨#[]⟩⟩] _ (by simp) hv0 a0 a1 a2 (he.below hb0)).mono ?_
  rintro e w1 ⟨rfl, hb1⟩
  have hb01 := below_then hb0 hb1
  go_wp2_with fail
  refine (packedLaw_any t how a cap xs w1 hn (hx.below hb01) a0 a1 a2 (he.below hb01)).mono ?_
  rintro e w2 ⟨rfl, hb2⟩
  go_wp2
  go_ret
  exact ⟨rfl, below_then hb01 hb2⟩
end Go.Proofs.YtfgklnenpichcaaDoor
