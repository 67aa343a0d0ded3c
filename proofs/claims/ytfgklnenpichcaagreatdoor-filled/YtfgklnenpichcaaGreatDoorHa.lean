/- The statements' own helpers: are two rows, two lists of rows the same; types, ways out of raw numbers. -/
import Derived.Test.YtfgklnenpichcaaGreatDoorTg
import Derived.Test.YtfgklnenpichcaaGreatDoorKm
import Derived.Test.YtfgklnenpichcaaGreatDoorDg
namespace Go.Proofs.YtfgklnenpichcaaGreatDoor
open Go.RowKit

set_option maxHeartbeats 400000 in
theorem ksameRow_any (a a2 : Option Addr) (cap cap2 : Nat) (xs ys : List V) (w : World) (hn : xs.length ≤ maxLen) (hx : Vals w a xs) (hy : Vals w a2 ys) (b : Bool) (hb : b = true ↔ xs = ys) :
    Calls Tryz.prog 35 #[.slice a xs.length cap, .slice a2 ys.length cap2] w fun e w' => e = .returned (.bool b) ∧ Below w.heap.size w w' := by
  unfold maxLen at hn
  have HB : Hid (b = true ↔ xs = ys) := hb
  clear hb
  by_cases hl : xs.length = ys.length
  · have HL : Hid (xs.length = ys.length) := hl
    have hl2 : ((xs.length : Int) != (ys.length : Int)) = false := by simp [hl]
    clear hl
    go_enter Tryz.func35, Tryz.ntmps35
    go_wp2
    go_loopw [5] (fun i wr => ∃ k : Nat, k ≤ xs.length ∧ i = .int .i64 k ∧ (∃ m, wr = w.drewN m) ∧ Hid (∀ j (hj : j < xs.length), j < k → xs[j] = ys[j]'(HL.out ▸ hj))) (fun i _ => xs.length - (intOf i).toNat)
    case atStart => exact ⟨0, Nat.zero_le _, rfl, ⟨0, rfl⟩, fun j _ hj => absurd hj (Nat.not_lt_zero _)⟩
    case round =>
      obtain ⟨k, hk, rfl, ⟨m, rfl⟩, hall⟩ := hrel
      by_cases hlt : k < xs.length
      · have hlt2 : k < ys.length := by have := HL.out; omega
        obtain ⟨b1, o1, rfl, _, x1, x2, x3⟩ := hx.at hlt
        obtain ⟨b2, o2, rfl, _, y1, y2, y3⟩ := hy.at hlt2
        by_cases he : xs[k] = ys[k]
        · have hq := run_neq_same _ _ he
          have HE : Hid (xs[k] = ys[k]) := he
          clear he
          go_wp2
          go_quiet (fail)
          go_wp2
          go_roundw
          case rel =>
            refine ⟨k + 1, by omega, by go_num, ⟨_, rfl⟩, fun j hj hjk => ?_⟩
            by_cases e : j = k
            · subst e; exact HE.out
            · exact hall.out j hj (by omega)
          case measure => simp [intOf]; omega
        · have hq := run_neq_diff _ _ he
          have HE : Hid (¬ xs[k] = ys[k]) := he
          clear he
          go_wp2
          go_quiet (fail)
          go_wp2
          go_ret
          refine ⟨ret_bool ?_, below_drewN (below_drewN (Below.refl _ _) _) _⟩
          cases b
          · rfl
          · exact absurd (by rw [List.getElem_of_eq (HB.out.1 rfl)]) HE.out
      · go_wp2
        go_ret
        exact ⟨ret_bool (HB.out.2 (eq_of_all xs ys HL.out fun j hj => hall.out j hj (by omega))).symm, below_drewN (Below.refl _ _) _⟩
  · have hl2 : ((xs.length : Int) != (ys.length : Int)) = true := by simp; omega
    go_enter Tryz.func35, Tryz.ntmps35
    go_wp2
    go_ret
    refine ⟨ret_bool ?_, Below.refl _ _⟩
    cases b
    · rfl
    · exact absurd (congrArg List.length (HB.out.1 rfl)) hl

theorem rows_ext (rs qs : List (List V)) (hl : rs.length = qs.length) (h : ∀ j (hj : j < rs.length), rs[j] = qs[j]'(hl ▸ hj)) : rs = qs := List.ext_getElem hl fun i h1 _ => h i h1

set_option maxHeartbeats 1000000 in
theorem ksameRows_any (a a2 : Option Addr) (cap cap2 : Nat) (hs hs2 : List (Option Addr × Nat)) (rs qs : List (List V)) (w : World) (hn : rs.length ≤ maxLen) (hrr : ∀ r ∈ rs, r.length ≤ maxLen) (hx : RowsAt w a hs rs) (hy : RowsAt w a2 hs2 qs) (b : Bool) (hb : b = true ↔ rs = qs) :
    Calls Tryz.prog 18 #[.slice a rs.length cap, .slice a2 qs.length cap2] w fun e w' => e = .returned (.bool b) ∧ Below w.heap.size w w' := by
  unfold maxLen at hn
  have HB : Hid (b = true ↔ rs = qs) := hb
  have HR : Hid (∀ r ∈ rs, r.length ≤ maxLen) := hrr
  clear hb hrr
  by_cases hl : rs.length = qs.length
  · have HL : Hid (rs.length = qs.length) := hl
    have hl2 : ((rs.length : Int) != (qs.length : Int)) = false := by simp [hl]
    clear hl
    go_enter Tryz.func18, Tryz.ntmps18
    go_wp2
    go_loopw [5] (fun i wr => ∃ k : Nat, k ≤ rs.length ∧ i = .int .i64 k ∧ Below w.heap.size w wr ∧ Hid (∀ j (hj : j < rs.length), j < k → rs[j] = qs[j]'(HL.out ▸ hj))) (fun i _ => rs.length - (intOf i).toNat)
    case atStart => exact ⟨0, Nat.zero_le _, rfl, Below.refl _ _, fun j _ hj => absurd hj (Nat.not_lt_zero _)⟩
    case round =>
      obtain ⟨k, hk, rfl, hbw, hall⟩ := hrel
      by_cases hlt : k < rs.length
      · have hlt2 : k < qs.length := by have := HL.out; omega
        obtain ⟨b1, o1, ra1, rc1, rfl, hb1, x1, v1⟩ := (hx.below hbw).at hlt
        obtain ⟨b2, o2, ra2, rc2, rfl, hb2, y1, v2⟩ := (hy.below hbw).at hlt2
        obtain ⟨bb, hbb⟩ : ∃ bb : Bool, bb = true ↔ rs[k] = qs[k] := ⟨(open Classical in decide (rs[k] = qs[k])), by open Classical in exact decide_eq_true_iff⟩
        have hsr := ksameRow_any ra1 ra2 rc1 rc2 rs[k] qs[k] wr.drew (HR.out _ (List.getElem_mem hlt)) (v1.of_block (Nat.le_refl _) fun _ _ _ _ => rfl) (v2.of_block (Nat.le_refl _) fun _ _ _ _ => rfl) bb hbb
        have HBB : Hid (bb = true ↔ rs[k] = qs[k]) := hbb
        clear hbb
        cases bb with
        | true =>
          go_wp2_with fail
          go_region_with (first | (go_at_call 35; refine hsr.mono ?_; rintro e w' ⟨rfl, hb⟩))
          all_goals
            go_wp2
            go_roundw
            case rel =>
              refine ⟨k + 1, by omega, by go_num, below_then hbw (below_undrew hb), fun j hj hjk => ?_⟩
              by_cases e : j = k
              · subst e; exact HBB.out.1 (by simp)
              · exact hall.out j hj (by omega)
            case measure => simp [intOf]; omega
        | false =>
          go_wp2_with fail
          go_region_with (first | (go_at_call 35; refine hsr.mono ?_; rintro e w' ⟨rfl, hb⟩))
          all_goals
            go_wp2
            go_ret
            refine ⟨ret_bool ?_, below_then hbw (below_undrew hb)⟩
            cases b
            · rfl
            · exact absurd (HBB.out.2 (by rw [List.getElem_of_eq (HB.out.1 rfl)])) (by simp)
      · go_wp2
        go_ret
        exact ⟨ret_bool (HB.out.2 (rows_ext rs qs HL.out fun j hj => hall.out j hj (by omega))).symm, hbw⟩
  · have hl2 : ((rs.length : Int) != (qs.length : Int)) = true := by simp; omega
    go_enter Tryz.func18, Tryz.ntmps18
    go_wp2
    go_ret
    refine ⟨ret_bool ?_, Below.refl _ _⟩
    cases b
    · rfl
    · exact absurd (congrArg List.length (HB.out.1 rfl)) hl
end Go.Proofs.YtfgklnenpichcaaGreatDoor
