/- What the document's own answer makes of packed values. -/
import Derived.Test.YthplnjgijmilnaaDoorWalkD
import Derived.Test.YthplnjgijmilnaaDoorWalkJ
namespace Go.Proofs.YthplnjgijmilnaaDoor
open Go.RowKit

theorem bits_bool (xs : List V) (h : ∀ v ∈ xs, v.n = 0 ∨ v.n = 1) : bitsOf 1 (difs xs 0) = xs.map fun v => v.n == 1 := by
  have hd : ∀ v ∈ xs, dif v.n 0 = (if v.n = 1 then 1 else 0) := by
    intro v hv
    unfold dif u64
    rcases h v hv with e | e <;> rw [e] <;> rfl
  rw [bitsOf_one _ (by
    intro n hn
    obtain ⟨v, hv, rfl⟩ := List.mem_map.1 hn
    rw [hd v hv]; split <;> omega)]
  unfold difs
  rw [List.map_map]
  apply List.map_congr_left
  intro v hv
  simp only [Function.comp]
  rw [hd v hv]
  by_cases e : v.n = 1 <;> simp [e]

theorem bitLen_mono (a b : Nat) (h : a ≤ b) : bitLen a ≤ bitLen b := by
  by_cases h0 : a = 0
  · subst h0; simp [bitLen]
  · have h1 := (bitLen_spec a).2 h0
    have h2 := (bitLen_spec b).1
    have h3 : 2 ^ (bitLen a - 1) < 2 ^ bitLen b := by omega
    have h4 := (Nat.pow_lt_pow_iff_right (by decide)).1 h3
    omega
theorem maxOf_bitLen (l : List Nat) : ∀ m, bitLen (maxOf m l) = maxOf (bitLen m) (l.map bitLen) := by
  induction l with
  | nil => intro m; rfl
  | cons n l ih =>
    intro m
    simp only [maxOf, List.map_cons]
    rw [ih]
    congr 1
    by_cases h : m < n
    · have := bitLen_mono m n (by omega)
      rw [if_pos h]
      split
      · rfl
      · omega
    · have := bitLen_mono n m (by omega)
      rw [if_neg h, if_neg (by omega)]
theorem bitLen_step (D w : Nat) (h : 0 < D / 2 ^ w) : w + 1 ≤ bitLen D := by
  have h1 := bitLen_shift D w (by omega)
  have h2 : 1 ≤ bitLen (D / 2 ^ w) := by unfold bitLen; split <;> omega
  omega
theorem bitLen_end (D w : Nat) (hw : w ≤ bitLen D) (h : D / 2 ^ w = 0) : w = bitLen D := by
  have h0 : D < 2 ^ w := (Nat.div_eq_zero_iff_lt (Nat.two_pow_pos w)).1 h
  by_cases hD : D = 0
  · subst hD; simp [bitLen] at hw ⊢; exact hw
  · have h1 := (bitLen_spec D).2 hD
    have h3 : 2 ^ (bitLen D - 1) < 2 ^ w := by omega
    have h4 := (Nat.pow_lt_pow_iff_right (by decide)).1 h3
    omega

set_option maxHeartbeats 1000000 in
theorem rPacked_two (t : Int) (a : Option Addr) (cap : Nat) (xs : List V) (w : World) (hn : xs.length ≤ 64) (ht : t = 2) (hx : Vals w a xs) :
    Calls Tryd.prog 46 #[.int .i64 t, .slice a xs.length cap] w fun e w' => e = .returned (.string (str (packBits (xs.map fun v => v.n == 1)))) ∧ Below w.heap.size w w' := by
  have ht1 : (t == 2) = true := by simp [ht]
  clear ht
  go_enter Tryd.func46, Tryd.ntmps46
  go_wp2
  go_loopw [5, 6] (fun sv i wr => ∃ k : Nat, k ≤ xs.length ∧ i = .int .i64 k ∧ OwnC wr w.heap.size 4 sv (((xs.take k).map fun v => v.n == 1).map Value.bool) ∧ Below w.heap.size w wr) (fun _ i _ => xs.length - (intOf i).toNat)
  case atStart => exact ⟨0, by omega, rfl, OwnC.nil _ _ _, Below.refl _ _⟩
  case round =>
    obtain ⟨k, hk, rfl, hown, hbw⟩ := hrel
    by_cases hlt : k < xs.length
    · obtain ⟨b1, o1, rfl, hb1, x1, x2, x3⟩ := (hx.below hbw).at hlt
      have hsn : ((xs.take (k + 1)).map fun v => v.n == 1).map Value.bool = ((xs.take k).map fun v => v.n == 1).map Value.bool ++ [.bool (xs[k].n == 1)] := by
        rw [List.take_succ_eq_append_getElem hlt, List.map_append, List.map_append]; rfl
      have hbl : (((xs.take k).map fun v => v.n == 1).map Value.bool).length ≤ 64 := by rw [List.length_map, List.length_map, List.length_take]; omega
      have HSN : Hid _ := hsn
      clear hsn
      generalize ((xs.take k).map fun v => v.n == 1).map Value.bool = BL at *
      have hsw := hbw.size
      go_wp2_with (at_builtin; go_must (refine wpList_append_C (by rfl) _ _ 51 4 _ 1 info_bool (by rfl) (by decide) (by kernel_rfl) (by rfl) w.heap.size _ _ (by rfl) (hown.alloc _) ⟨wr.heap.size, 0, none⟩ 1 [.bool (xs[k].n == 1)] (by rfl) (by exact news_one _ _ _) (by intro u hu; simp at hu; subst hu; rfl) (by simp only [List.length_cons, List.length_nil]; omega) (by simp; omega) ?_); intro sv' w5 h1 h2 h3)
      go_roundw
      case rel =>
        refine ⟨k + 1, by omega, by go_num, ?_, below_grown (below_alloc hbw _) h2 fun k hk => (owns_block hown hk).1⟩
        rw [HSN.out]; exact h1
      case measure => simp [intOf]; omega
    · have e : xs.take k = xs := List.take_of_length_le (by omega)
      rw [e] at hown
      obtain ⟨a5, cap5, rfl, hc5⟩ := hown.cells
      have hbl : (xs.map fun v => v.n == 1).length ≤ 64 := by simpa using hn
      rw [List.length_map]
      generalize hBL : (xs.map fun v => v.n == 1) = BL at *
      have HBL : Hid _ := hBL
      clear hBL
      go_wp2_with fail
      refine (rBitsText_any a5 cap5 BL _ (by omega) hc5).mono ?_
      rintro e w6 ⟨rfl, hb6⟩
      go_wp2
      go_ret
      exact ⟨by rw [HBL.out]; rfl, below_then hbw hb6⟩

set_option maxHeartbeats 1000000 in
theorem rPacked_nil (t : Int) (a : Option Addr) (cap : Nat) (xs : List V) (w : World) (hn : xs.length ≤ 64) (ht : ¬ t = 2 ∧ xs = [])  :
    Calls Tryd.prog 46 #[.int .i64 t, .slice a xs.length cap] w fun e w' => e = .returned (.string (str (packBits (xs.map fun v => v.n == 1)))) ∧ Below w.heap.size w w' := by
  have ht1 : (t == 2) = false := by simp [ht.1]
  have h0 : xs.length = 0 := by rw [ht.2]; rfl
  have h01 : ((xs.length : Int) == 0) = true := by simp [h0]
  clear ht
  go_enter Tryd.func46, Tryd.ntmps46
  go_wp2
  go_loopw [5, 6] (fun sv i wr => ∃ k : Nat, k ≤ xs.length ∧ i = .int .i64 k ∧ OwnC wr w.heap.size 4 sv (((xs.take k).map fun v => v.n == 1).map Value.bool) ∧ Below w.heap.size w wr) (fun _ i _ => xs.length - (intOf i).toNat)
  case atStart => exact ⟨0, by omega, rfl, OwnC.nil _ _ _, Below.refl _ _⟩
  case round =>
    obtain ⟨k, hk, rfl, hown, hbw⟩ := hrel
    by_cases hlt : k < xs.length
    · exfalso; omega
    · have e : xs.take k = xs := List.take_of_length_le (by omega)
      rw [e] at hown
      obtain ⟨a5, cap5, rfl, hc5⟩ := hown.cells
      have hbl : (xs.map fun v => v.n == 1).length ≤ 64 := by simpa using hn
      rw [List.length_map]
      generalize hBL : (xs.map fun v => v.n == 1) = BL at *
      have HBL : Hid _ := hBL
      clear hBL
      go_wp2_with fail
      refine (rBitsText_any a5 cap5 BL _ (by omega) hc5).mono ?_
      rintro e w6 ⟨rfl, hb6⟩
      go_wp2
      go_ret
      exact ⟨by rw [HBL.out]; rfl, below_then hbw hb6⟩
end Go.Proofs.YthplnjgijmilnaaDoor
