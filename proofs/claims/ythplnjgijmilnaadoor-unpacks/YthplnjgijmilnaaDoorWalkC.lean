/- What the functions that gather values into a new list come to: without NULLs; each different one once. For every list of at most 64 values, wherever it lies. -/
import Derived.Test.YthplnjgijmilnaaDoorWalkB
import Derived.Test.YthplnjgijmilnaaDoorLaws
namespace Go.Proofs.YthplnjgijmilnaaDoor
open Go.RowKit

def heldOf (xs : List V) : List V := xs.filter fun v => v.k != 0

theorem heldOf_le (xs : List V) : (heldOf xs).length ≤ xs.length := List.length_filter_le _ _
theorem heldOf_snoc (xs : List V) (v : V) : heldOf (xs ++ [v]) = if v.k = 0 then heldOf xs else heldOf xs ++ [v] := by
  unfold heldOf
  rw [List.filter_append]
  by_cases h : v.k = 0 <;> simp [h]
theorem take_snoc (xs : List V) (k : Nat) (h : k < xs.length) : xs.take (k + 1) = xs.take k ++ [xs[k]] := List.take_succ_eq_append_getElem h

set_option maxHeartbeats 400000 in
theorem withoutNulls_any (a : Option Addr) (cap : Nat) (xs : List V) (w : World) (hn : xs.length ≤ 64) (hx : Vals w a xs) :
    Calls Tryd.prog 36 #[.slice a xs.length cap] w fun e w' => ∃ sv, e = .returned sv ∧ OwnV w' w.heap.size sv (heldOf xs) ∧ Below w.heap.size w w' := by
  go_enter Tryd.func36, Tryd.ntmps36
  go_wp2
  go_loopw [3, 8] (fun sv i wr => ∃ k : Nat, k ≤ xs.length ∧ i = .int .i64 k ∧ OwnV wr w.heap.size sv (heldOf (xs.take k)) ∧ Below w.heap.size w wr) (fun _ i _ => xs.length - (intOf i).toNat)
  case atStart => exact ⟨0, Nat.zero_le _, rfl, OwnV.nil _ _, Below.refl _ _⟩
  case round =>
    rename_i sv i
    obtain ⟨k, hk, rfl, hown, hbw⟩ := hrel
    by_cases hlt : k < xs.length
    · obtain ⟨b1, o1, rfl, hb1, x1, x2, x3⟩ := (hx.below hbw).at hlt
      have hts := heldOf_snoc (xs.take k) xs[k]
      rw [← take_snoc xs k hlt] at hts
      have hle := heldOf_le (xs.take k)
      have hle2 : (xs.take k).length ≤ k := List.length_take_le _ _
      by_cases h0 : xs[k].k = 0
      · rw [if_pos h0] at hts
        have HT : Hid _ := hts
        clear hts
        have h0' : (xs[k].k != 0) = false := by simp [h0]
        have H0 : Hid (xs[k].k = 0) := h0
        clear h0
        go_wp2
        go_roundw
        case rel => exact ⟨k + 1, by omega, by go_num, by rw [HT.out]; exact hown.alloc _, below_alloc hbw _⟩
        case measure => simp [intOf]; omega
      · rw [if_neg h0] at hts
        have HT : Hid _ := hts
        clear hts
        have h0' : (xs[k].k != 0) = true := by simp [h0]
        have H0 : Hid (¬ xs[k].k = 0) := h0
        clear h0
        go_wp2_with (at_builtin; refine wpList_append_V (by rfl) _ _ (by rfl) w.heap.size _ _ (by rfl) ((hown.alloc _).alloc _) _ _ xs[k] (by rfl) (by refine ⟨?_, ?_, ?_⟩ <;> simp) (by omega) (by simp; have := hbw.size; omega) ?_; intro sv' w1 h1 h2 h3)
        go_roundw
        case rel =>
          refine ⟨k + 1, by omega, by go_num, by rw [HT.out]; exact h1, ?_⟩
          exact below_grown (below_alloc (below_alloc hbw _) _) h2 fun k hk => (owns_block hown hk).1
        case measure => simp [intOf]; omega
    · go_wp2
      go_ret
      have e : xs.take k = xs := List.take_of_length_le (by omega)
      rw [e] at hown
      exact ⟨_, rfl, hown, hbw⟩

/-- Each value once, in the order in which they first come. -/
def uniq : List V → List V → List V
  | d, [] => d
  | d, v :: l => uniq (if place d v < d.length then d else d ++ [v]) l

theorem uniq_snoc (l : List V) (v : V) : ∀ d, uniq d (l ++ [v]) = if place (uniq d l) v < (uniq d l).length then uniq d l else uniq d l ++ [v] := by
  induction l with
  | nil => intro d; rfl
  | cons u l ih => intro d; simp only [List.cons_append, uniq]; exact ih _
theorem uniq_le (l : List V) : ∀ d, (uniq d l).length ≤ d.length + l.length := by
  induction l with
  | nil => intro d; simp [uniq]
  | cons u l ih =>
    intro d
    simp only [uniq]
    refine Nat.le_trans (ih _) ?_
    split <;> simp <;> omega

set_option maxHeartbeats 400000 in
theorem different_any (a : Option Addr) (cap : Nat) (xs : List V) (w : World) (hn : xs.length ≤ 64) (hx : Vals w a xs) :
    Calls Tryd.prog 37 #[.slice a xs.length cap] w fun e w' => ∃ sv, e = .returned sv ∧ OwnV w' w.heap.size sv (uniq [] xs) ∧ Below w.heap.size w w' := by
  go_enter Tryd.func37, Tryd.ntmps37
  go_wp2
  go_loopw [3, 8] (fun sv i wr => ∃ k : Nat, k ≤ xs.length ∧ i = .int .i64 k ∧ OwnV wr w.heap.size sv (uniq [] (xs.take k)) ∧ Below w.heap.size w wr) (fun _ i _ => xs.length - (intOf i).toNat)
  case atStart => exact ⟨0, Nat.zero_le _, rfl, OwnV.nil _ _, Below.refl _ _⟩
  case round =>
    rename_i sv i
    obtain ⟨k, hk, rfl, hown, hbw⟩ := hrel
    by_cases hlt : k < xs.length
    · obtain ⟨b1, o1, rfl, hb1, x1, x2, x3⟩ := (hx.below hbw).at hlt
      have hts := uniq_snoc (xs.take k) xs[k] []
      rw [← take_snoc xs k hlt] at hts
      have hle := uniq_le (xs.take k) []
      have hle2 : (xs.take k).length ≤ k := List.length_take_le _ _
      generalize uniq [] (xs.take k) = d at *
      have hd : d.length ≤ 64 := by simp at hle; omega
      have hd' : d.length ≤ maxLen := by unfold maxLen; omega
      obtain ⟨a2, cap2, rfl, hv2⟩ := hown.vals
      by_cases h0 : place d xs[k] < d.length
      · rw [if_pos h0] at hts
        have HT : Hid _ := hts
        have H0 : Hid (true = decide (place d xs[k] < d.length)) := by simp [Hid, h0]
        clear hts h0 hle hle2
        go_wp2_with (go_at_call 52; refine (contains_any _ _ _ xs[k] _ hd' (hv2.below ((Below.refl _ _).alloc (Nat.le_refl _) _)) true H0.out).mono ?_; rintro e w' ⟨rfl, hb⟩)
        go_roundw
        case rel =>
          refine ⟨k + 1, by omega, by go_num, ?_, below_then hbw (below_behind hb)⟩
          rw [HT.out]; exact hown.below (below_behind hb)
        case measure => simp [intOf]; omega
      · rw [if_neg h0] at hts
        have HT : Hid _ := hts
        have H0 : Hid (false = decide (place d xs[k] < d.length)) := by simp [Hid]; omega
        clear hts h0 hle hle2
        go_wp2_with (first
          | (go_at_call 52; refine (contains_any _ _ _ xs[k] _ hd' (hv2.below ((Below.refl _ _).alloc (Nat.le_refl _) _)) false H0.out).mono ?_; rintro e w' ⟨rfl, hb⟩; obtain ⟨hc, hf⟩ := below_keep hb)
          | (at_builtin; refine wpList_append_V (by rfl) _ _ (by rfl) w.heap.size _ _ (by rfl) ((hown.below (below_behind hb)).alloc _) _ _ xs[k] (by rfl) (by refine ⟨?_, ?_, ?_⟩ <;> simp) (by omega) (by simp; have := hbw.size; have := (below_behind hb).size; omega) ?_; intro sv' w1 h1 h2 h3))
        go_roundw
        case rel =>
          refine ⟨k + 1, by omega, by go_num, by rw [HT.out]; exact h1, ?_⟩
          exact below_grown (below_alloc (below_then hbw (below_behind hb)) _) h2 fun k hk => (owns_block hown hk).1
        case measure => simp [intOf]; omega
    · go_wp2
      go_ret
      have e : xs.take k = xs := List.take_of_length_le (by omega)
      rw [e] at hown
      exact ⟨_, rfl, hown, hbw⟩

set_option maxHeartbeats 400000 in
theorem rDifferent_any (a : Option Addr) (cap : Nat) (xs : List V) (w : World) (hn : xs.length ≤ 64) (hx : Vals w a xs) :
    Calls Tryd.prog 26 #[.slice a xs.length cap] w fun e w' => ∃ sv, e = .returned sv ∧ OwnV w' w.heap.size sv (uniq [] xs) ∧ Below w.heap.size w w' := by
  go_enter Tryd.func26, Tryd.ntmps26
  go_wp2
  go_loopw [3, 4] (fun sv i wr => ∃ k : Nat, k ≤ xs.length ∧ i = .int .i64 k ∧ OwnV wr w.heap.size sv (uniq [] (xs.take k)) ∧ Below w.heap.size w wr) (fun _ i _ => xs.length - (intOf i).toNat)
  case atStart => exact ⟨0, Nat.zero_le _, rfl, OwnV.nil _ _, Below.refl _ _⟩
  case round =>
    rename_i sv i
    obtain ⟨k, hk, rfl, hown, hbw⟩ := hrel
    by_cases hlt : k < xs.length
    · obtain ⟨b1, o1, rfl, hb1, x1, x2, x3⟩ := (hx.below hbw).at hlt
      have hts := uniq_snoc (xs.take k) xs[k] []
      rw [← take_snoc xs k hlt] at hts
      have hle := uniq_le (xs.take k) []
      have hle2 : (xs.take k).length ≤ k := List.length_take_le _ _
      generalize uniq [] (xs.take k) = d at *
      have hd : d.length ≤ 64 := by simp at hle; omega
      have hd' : d.length ≤ maxLen := by unfold maxLen; omega
      obtain ⟨a2, cap2, rfl, hv2⟩ := hown.vals
      have hpl := place_le d xs[k]
      by_cases h0 : place d xs[k] < d.length
      · rw [if_pos h0] at hts
        have HT : Hid _ := hts
        have h0' : ((place d xs[k] : Int) == (d.length : Int)) = false := by simp; omega
        clear hts hle hle2
        go_wp2_with (go_at_call 44; refine (rPlace_any _ _ _ xs[k] _ hd' hv2).mono ?_; rintro e w' ⟨rfl, hb⟩)
        go_roundw
        case rel =>
          refine ⟨k + 1, by omega, by go_num, ?_, below_then hbw hb⟩
          rw [HT.out]; exact hown.below hb
        case measure => simp [intOf]; omega
      · rw [if_neg h0] at hts
        have HT : Hid _ := hts
        have h0' : ((place d xs[k] : Int) == (d.length : Int)) = true := by simp; omega
        clear hts h0 hle hle2
        go_wp2_with (first
          | (go_at_call 44; refine (rPlace_any _ _ _ xs[k] _ hd' hv2).mono ?_; rintro e w' ⟨rfl, hb⟩; obtain ⟨hc, hf⟩ := below_keep hb)
          | (at_builtin; refine wpList_append_V (by rfl) _ _ (by rfl) w.heap.size _ _ (by rfl) ((hown.below hb).alloc _) _ _ xs[k] (by rfl) (by refine ⟨?_, ?_, ?_⟩ <;> simp) (by omega) (by simp; have := hbw.size; have := hb.size; omega) ?_; intro sv' w1 h1 h2 h3))
        go_roundw
        case rel =>
          refine ⟨k + 1, by omega, by go_num, by rw [HT.out]; exact h1, ?_⟩
          exact below_grown (below_alloc (below_then hbw hb) _) h2 fun k hk => (owns_block hown hk).1
        case measure => simp [intOf]; omega
    · go_wp2
      go_ret
      have e : xs.take k = xs := List.take_of_length_le (by omega)
      rw [e] at hown
      exact ⟨_, rfl, hown, hbw⟩
end Go.Proofs.YthplnjgijmilnaaDoor
