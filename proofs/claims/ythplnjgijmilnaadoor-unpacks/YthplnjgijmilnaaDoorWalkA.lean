/- What the small functions come to: which types, ways and values there are (for every number and text), and the faults and marks, which lie in new memory. -/
import Derived.Test.YthplnjgijmilnaaDoorBase
namespace Go.Proofs.YthplnjgijmilnaaDoor
open Go.RowKit
attribute [local go_sem] run_equal_V

def way (typ how : Int) : Bool := decide (1 ≤ typ ∧ typ ≤ 3 ∧ 0 ≤ how ∧ how ≤ 3 ∧ ¬ (typ = 3 ∧ how = 3))
def okK (k n : Int) (s : ByteArray) : Bool :=
  decide ((k = 1 ∧ s.toList.isEmpty = true) ∨ (k = 2 ∧ (n = 0 ∨ n = 1) ∧ s.toList.isEmpty = true) ∨ (k = 3 ∧ n = 0 ∧ s.size ≤ 40))
/-- Is it a value, and of the type? -/
def okB (typ k n : Int) (s : ByteArray) : Bool := decide ((k = 0 ∧ n = 0 ∧ s.toList.isEmpty = true) ∨ (k = typ ∧ okK k n s = true))

set_option maxHeartbeats 400000 in
theorem isType_any (t : Int) (w : World) :
    Calls Tryd.prog 50 #[.int .i64 t] w fun e w' => e = .returned (.bool (decide (1 ≤ t ∧ t ≤ 3))) ∧ w' = w := by
  go_enter Tryd.func50, Tryd.ntmps50
  go_wp2
  all_goals
    go_ret
    exact ⟨ret_bool (by rw [Bool.eq_iff_iff]; simp at *; omega), rfl⟩

set_option maxHeartbeats 400000 in
theorem canBe_any (t h : Int) (w : World) :
    Calls Tryd.prog 34 #[.int .i64 t, .int .i64 h] w fun e w' => e = .returned (.bool (way t h)) ∧ w' = w := by
  unfold way
  go_enter Tryd.func34, Tryd.ntmps34
  go_wp2_with (go_at_call 50; refine (isType_any _ _).mono ?_; rintro e w' ⟨rfl, rfl⟩)
  all_goals
    go_ret
    exact ⟨ret_bool (by rw [Bool.eq_iff_iff]; simp at *; omega), rfl⟩

set_option maxHeartbeats 400000 in
theorem rWay_any (t h : Int) (w : World) :
    Calls Tryd.prog 23 #[.int .i64 t, .int .i64 h] w fun e w' => e = .returned (.bool (way t h)) ∧ w' = w := by
  unfold way
  go_enter Tryd.func23, Tryd.ntmps23
  go_wp2
  all_goals
    go_ret
    exact ⟨ret_bool (by rw [Bool.eq_iff_iff]; simp at *; omega), rfl⟩

set_option maxHeartbeats 400000 in
theorem bytesFor_any (n : Int) (w : World) (h0 : 0 ≤ n) (h1 : n ≤ 100000) :
    Calls Tryd.prog 68 #[.int .i64 n] w fun e w' => e = .returned (.int .i64 ((n + 7) / 8)) ∧ w' = w := by
  go_enter Tryd.func68, Tryd.ntmps68
  go_wp2
  go_ret
  exact ⟨rfl, rfl⟩

set_option maxHeartbeats 400000 in
theorem isValue_any (k n : Int) (s : ByteArray) (w : World) :
    Calls Tryd.prog 66 #[.agg #[.int .i64 k, .int .i64 n, .string s]] w fun e w' => e = .returned (.bool (okK k n s)) ∧ Below w.heap.size w w' := by
  go_enter Tryd.func66, Tryd.ntmps66
  go_wp2
  all_goals
    go_ret
    refine ⟨ret_bool ?_, (Below.refl _ _).alloc (Nat.le_refl _) _⟩
    go_light
    unfold okK
    generalize s.toList.isEmpty = e at *
    generalize s.size = m at *
    rw [Bool.eq_iff_iff]
    cases e <;> (try simp at *) <;> (try omega)

theorem veq_zero (k n : Int) (s : ByteArray) : veq k n s 0 0 (ByteArray.mk #[]) = decide (k = 0 ∧ n = 0 ∧ s.toList.isEmpty = true) := by
  rw [Bool.eq_iff_iff]
  unfold veq
  rw [Bool.and_eq_true, Bool.and_eq_true, beq_iff_eq, beq_iff_eq, beq_toListBytes, decide_eq_true_eq]
  have : (ByteArray.mk #[]).toList = [] := by rw [ByteArray.toList_eq]
  rw [this]
  cases s.toList <;> simp

set_option maxHeartbeats 400000 in
theorem isOf_any (k n : Int) (s : ByteArray) (t : Int) (w : World) :
    Calls Tryd.prog 51 #[.agg #[.int .i64 k, .int .i64 n, .string s], .int .i64 t] w fun e w' => e = .returned (.bool (okB t k n s)) ∧ Below w.heap.size w w' := by
  by_cases h0 : k = 0
  · go_enter Tryd.func51, Tryd.ntmps51
    go_wp2
    all_goals
      go_ret
      refine ⟨ret_bool ?_, (Below.refl _ _).alloc (Nat.le_refl _) _⟩
      go_light
      unfold okB okK
      generalize s.size = m at *
      rw [Bool.eq_iff_iff]
      cases hs : s.toList <;> (try simp [hs] at *) <;> (try omega)
  · by_cases h1 : k = t
    · subst h1
      go_enter Tryd.func51, Tryd.ntmps51
      go_wp2_with (go_at_call 66; refine (isValue_any _ _ _ _).mono ?_; rintro e w' ⟨rfl, hb⟩)
      all_goals
        go_ret
        refine ⟨ret_bool ?_, below_behind hb⟩
        go_light
        unfold okB
        cases okK k n s <;> (try simp at *) <;> (try omega)
    · have h2 : (k == t) = false := by simp [h1]
      go_enter Tryd.func51, Tryd.ntmps51
      go_wp2
      all_goals
        go_ret
        refine ⟨ret_bool ?_, (Below.refl _ _).alloc (Nat.le_refl _) _⟩
        go_light
        unfold okB okK
        generalize s.toList.isEmpty = e at *
        generalize s.size = m at *
        rw [Bool.eq_iff_iff]
        cases e <;> (try simp at *) <;> (try omega)

set_option maxHeartbeats 400000 in
theorem mark_any (n : Int) (w : World) :
    Calls Tryd.prog 19 #[.int .i64 n] w fun e w' => e = .returned (.agg #[.int .i64 (-7), .int .i64 n, .string ⟨#[109, 97, 114, 107]⟩]) ∧ Below w.heap.size w w' := by
  go_enter Tryd.func19, Tryd.ntmps19
  go_wp2
  exact bodyPost_ret (v := .agg #[.int .i64 (-7), .int .i64 n, .string ⟨#[109, 97, 114, 107]⟩]) (by simp [results, Tryd.results19, go_sem]) rfl ⟨rfl, (Below.refl _ _).alloc (Nat.le_refl _) _⟩

abbrev fault (c : Int) : Value := .agg #[.int .i64 c, .int .i64 (-1), .int .i64 (-1), .int .i64 (-1), .int .i64 (-1)]

set_option maxHeartbeats 400000 in
theorem rBad_any (n : Int) (w : World) :
    Calls Tryd.prog 24 #[.int .i64 n] w fun e w' => e = .returned (fault n) ∧ Below w.heap.size w w' := by
  go_enter Tryd.func24, Tryd.ntmps24
  go_wp2
  exact bodyPost_ret (v := fault n) (by simp [results, Tryd.results24, go_sem]) rfl ⟨rfl, (Below.refl _ _).alloc (Nat.le_refl _) _⟩

set_option maxHeartbeats 400000 in
theorem rGood_any (w : World) :
    Calls Tryd.prog 30 #[] w fun e w' => e = .returned (fault 0) ∧ Below w.heap.size w w' := by
  go_enter Tryd.func30, Tryd.ntmps30
  go_wp2_with (go_at_call 24; refine (rBad_any _ _).mono ?_; rintro e w' ⟨rfl, hb⟩; obtain ⟨hc, hf⟩ := below_keep hb)
  exact bodyPost_ret (v := fault 0) (by simp [results, Tryd.results30, go_sem, hc]) rfl ⟨rfl, below_set5 (below_behind hb) (Nat.le_refl _) _ _ _ _ _⟩

set_option maxHeartbeats 400000 in
theorem rIs_any (k n : Int) (s : ByteArray) (t : Int) (w : World) :
    Calls Tryd.prog 25 #[.agg #[.int .i64 k, .int .i64 n, .string s], .int .i64 t] w fun e w' => e = .returned (.bool (okB t k n s)) ∧ Below w.heap.size w w' := by
  go_enter Tryd.func25, Tryd.ntmps25
  go_wp2
  all_goals
    go_ret
    refine ⟨ret_bool ?_, (Below.refl _ _).alloc (Nat.le_refl _) _⟩
    go_light
    unfold okB okK
    generalize s.size = m at *
    rw [Bool.eq_iff_iff]
    cases hs : s.toList <;> (try simp [hs] at *) <;> (try omega)
end Go.Proofs.YthplnjgijmilnaaDoor
