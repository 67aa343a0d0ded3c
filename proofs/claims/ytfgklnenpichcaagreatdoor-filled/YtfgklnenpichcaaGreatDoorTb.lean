/- What a table is: the program's own check. -/
import Derived.Test.YtfgklnenpichcaaGreatDoorTa
namespace Go.Proofs.YtfgklnenpichcaaGreatDoor
open Go.RowKit

/-- Is it a table? -/
def isTab (name : ByteArray) (ts : List Int) (rs : List (List V)) : Prop :=
  (1 ≤ name.size ∧ name.size ≤ 20) ∧ ((1 ≤ ts.length ∧ ts.length ≤ 6) ∧ ∀ j (hj : j < ts.length), typeOk ts[j] = true) ∧ rs.length ≤ 200 ∧ ∀ i (hi : i < rs.length), rs[i].length = ts.length ∧ ∀ j (hj : j < rs[i].length), okB (ts.getD j 0) rs[i][j].k rs[i][j].n rs[i][j].s = true
open Classical in
set_option maxHeartbeats 2000000 in
theorem isTable_any (name : ByteArray) (at_ ar : Option Addr) (ct cr : Nat) (ts : List Int) (hs : List (Option Addr × Nat)) (rs : List (List V)) (w : World) (hnn : name.size ≤ maxLen) (hn : ts.length ≤ maxLen) (hr : rs.length ≤ maxLen) (hrr : ∀ r ∈ rs, r.length ≤ maxLen) (hx : Ints w at_ ts) (hy : RowsAt w ar hs rs) :
    Calls Tryz.prog 53 #[.agg #[.string name, .slice at_ ts.length ct, .slice ar rs.length cr]] w fun e w' => e = .returned (.bool (decide (isTab name ts rs))) ∧ Below w.heap.size w w' := by
  have hx0 := hx.below (w' := w.alloc (.cells #[.string name, .slice at_ ts.length ct, .slice ar rs.length cr] 26)) ((Below.refl _ _).alloc (Nat.le_refl _) _)
  obtain ⟨bt, hbt⟩ : ∃ bt : Bool, bt = true ↔ (1 ≤ ts.length ∧ ts.length ≤ 6) ∧ ∀ j (hj : j < ts.length), typeOk ts[j] = true := ⟨decide _, decide_eq_true_iff⟩
  have hat := areTypes_any at_ ct ts _ hn hx0 bt hbt
  have HT : Hid (bt = true ↔ (1 ≤ ts.length ∧ ts.length ≤ 6) ∧ ∀ j (hj : j < ts.length), typeOk ts[j] = true) := hbt
  clear hbt
  unfold maxLen at hnn hn hr
  obtain ⟨b, HB⟩ : ∃ b : Bool, Hid (b = decide (isTab name ts rs)) := ⟨_, rfl⟩
  rw [← HB.out]
  have HBI : Hid (b = true ↔ isTab name ts rs) := by show _ ↔ _; rw [HB.out]; exact decide_eq_true_iff
  clear HB hx0
  have hB0 : Below w.heap.size w (w.alloc (.cells #[.string name, .slice at_ ts.length ct, .slice ar rs.length cr] 26)) := (Below.refl _ _).alloc (Nat.le_refl _) _
  have no : ¬ isTab name ts rs → Hid (b = false) := fun h => by
    show b = false
    cases hb : b with
    | false => rfl
    | true => exact absurd (HBI.out.1 hb) h
  have NO : Hid (¬ isTab name ts rs → Hid (b = false)) := no
  clear no
  by_cases h1 : name.size < 1
  · have H0 : Hid (b = false) := NO.out fun h => by have := h.1; omega
    go_enter Tryz.func53, Tryz.ntmps53
    go_wp2_with (go_at_call 79; refine hat.mono ?_; rintro e w' ⟨rfl, hw'⟩; subst w')
    go_ret
    exact ⟨ret_bool H0.out.symm, hB0⟩
  by_cases h2 : 20 < name.size
  · have H0 : Hid (b = false) := NO.out fun h => by have := h.1; omega
    go_enter Tryz.func53, Tryz.ntmps53
    go_wp2_with (go_at_call 79; refine hat.mono ?_; rintro e w' ⟨rfl, hw'⟩; subst w')
    go_ret
    exact ⟨ret_bool H0.out.symm, hB0⟩
  cases hbt : bt with
  | false =>
    subst hbt
    have H0 : Hid (b = false) := NO.out fun h => by have := HT.out.2 h.2.1; simp at this
    go_enter Tryz.func53, Tryz.ntmps53
    go_wp2_with (go_at_call 79; refine hat.mono ?_; rintro e w' ⟨rfl, hw'⟩; subst w')
    go_ret
    exact ⟨ret_bool H0.out.symm, hB0⟩
  | true =>
    subst hbt
    by_cases h3 : 200 < rs.length
    · have H0 : Hid (b = false) := NO.out fun h => by have := h.2.2.1; omega
      go_enter Tryz.func53, Tryz.ntmps53
      go_wp2_with (go_at_call 79; refine hat.mono ?_; rintro e w' ⟨rfl, hw'⟩; subst w')
      go_ret
      exact ⟨ret_bool H0.out.symm, hB0⟩
    · have HRR : Hid (∀ r ∈ rs, r.length ≤ maxLen) := hrr
      clear hrr
      go_enter Tryz.func53, Tryz.ntmps53
      go_wp2_with (go_at_call 79; refine hat.mono ?_; rintro e w' ⟨rfl, hw'⟩; subst w')
      go_loopw [30] (fun i wr => ∃ k : Nat, k ≤ rs.length ∧ i = .int .i64 k ∧ Below (w.alloc (.cells #[.string name, .slice at_ ts.length ct, .slice ar rs.length cr] 26)).heap.size (w.alloc (.cells #[.string name, .slice at_ ts.length ct, .slice ar rs.length cr] 26)) wr ∧ Hid (∀ i (hi : i < rs.length), i < k → rs[i].length = ts.length ∧ ∀ j (hj : j < rs[i].length), okB (ts.getD j 0) rs[i][j].k rs[i][j].n rs[i][j].s = true)) (fun i _ => rs.length - (intOf i).toNat)
      case atStart => exact ⟨0, Nat.zero_le _, rfl, Below.refl _ _, fun j _ hj => absurd hj (Nat.not_lt_zero _)⟩
      case round =>
        obtain ⟨k, hk, rfl, hbw, hall⟩ := hrel
        have hbw0 := below_behind hbw
        have c1 : wr.cell? ⟨w.heap.size, 1, none⟩ = some (.slice at_ ts.length ct) := by rw [(below_keep hbw).1 w.heap.size 1 (by simp)]; simp
        by_cases hlt : k < rs.length
        · obtain ⟨b1, o1, ra, rc, rfl, hb1, x1, hv⟩ := (hy.below hbw0).at hlt
          obtain ⟨br, hbr⟩ : ∃ br : Bool, br = true ↔ rs[k].length = ts.length ∧ ∀ j (hj : j < rs[k].length), okB (ts.getD j 0) rs[k][j].k rs[k][j].n rs[k][j].s = true := ⟨decide _, decide_eq_true_iff⟩
          have hir := isRow_any ra at_ rc ct rs[k] ts wr (HRR.out _ (List.getElem_mem hlt)) hv (hx.below hbw0) br hbr
          have HR : Hid (br = true ↔ rs[k].length = ts.length ∧ ∀ j (hj : j < rs[k].length), okB (ts.getD j 0) rs[k][j].k rs[k][j].n rs[k][j].s = true) := hbr
          clear hbr hat
          cases hb : br with
          | false =>
            subst hb
            have H0 : Hid (b = false) := NO.out fun h => by have := HR.out.2 (h.2.2.2 k hlt); simp at this
            go_wp2_with (go_at_call 80; refine hir.mono ?_; rintro e w' ⟨rfl, hb⟩)
            go_ret
            exact ⟨ret_bool H0.out.symm, below_then hbw0 hb⟩
          | true =>
            subst hb
            go_wp2_with (go_at_call 80; refine hir.mono ?_; rintro e w' ⟨rfl, hb⟩)
            go_roundw
            case rel =>
              refine ⟨k + 1, by omega, by go_num, below_then hbw hb, fun i hi hik => ?_⟩
              by_cases e : i = k
              · subst e; exact HR.out.1 (by simp)
              · exact hall.out i hi (by omega)
            case measure => simp [intOf]; omega
        · go_wp2
          go_ret
          exact ⟨ret_bool (HBI.out.2 ⟨⟨by omega, by omega⟩, HT.out.1 (by simp), by omega, fun i hi => hall.out i hi (by omega)⟩).symm, hbw0⟩
end Go.Proofs.YtfgklnenpichcaaGreatDoor
