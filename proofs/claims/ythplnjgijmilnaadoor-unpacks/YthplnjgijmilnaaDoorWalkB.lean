/- What the functions that only look through a list of values come to: are two lists the same, where does a value stand. For every list of at most 2^63 - 1 values, wherever it lies. -/
import Derived.Test.YthplnjgijmilnaaDoorWalkA
namespace Go.Proofs.YthplnjgijmilnaaDoor
open Go.RowKit

/-- Where a value stands among some; their number, if it does not. -/
def place : List V → V → Nat
  | [], _ => 0
  | u :: l, v => if u.beq v then 0 else place l v + 1

theorem place_le (l : List V) (v : V) : place l v ≤ l.length := by
  induction l with
  | nil => simp [place]
  | cons u l ih => unfold place; split <;> simp; omega

theorem place_eq (l : List V) (v : V) : ∀ (k : Nat) (hk : k < l.length), (∀ j (hj : j < k), l[j]'(by omega) ≠ v) → l[k] = v → place l v = k := by
  induction l with
  | nil => intro k hk; simp at hk
  | cons u l ih =>
    intro k hk hn he
    cases k with
    | zero => simp at he; simp [place, (V.beq_iff u v).2 he]
    | succ k =>
      have h0 := hn 0 (by omega)
      simp at h0
      simp only [place, (V.beq_false u v).2 h0, Bool.false_eq_true, if_false]
      simp at he
      rw [ih k (by simpa using hk) (fun j hj => by have := hn (j + 1) (by omega); simpa using this) he]

theorem place_none (l : List V) (v : V) (h : ∀ j (hj : j < l.length), l[j] ≠ v) : place l v = l.length := by
  induction l with
  | nil => rfl
  | cons u l ih =>
    have h0 := h 0 (by simp)
    simp at h0
    simp only [place, (V.beq_false u v).2 h0, Bool.false_eq_true, if_false]
    rw [ih fun j hj => by have := h (j + 1) (by simpa using hj); simpa using this]
    rfl

theorem getElem_place (l : List V) (v : V) (h : place l v < l.length) : l[place l v] = v := by
  induction l with
  | nil => simp at h
  | cons u l ih =>
    by_cases e : u.beq v = true
    · have : place (u :: l) v = 0 := by simp [place, e]
      simp [this]; exact (V.beq_iff u v).1 e
    · have hp : place (u :: l) v = place l v + 1 := by simp [place, e]
      simp only [hp] at h ⊢
      simp at h ⊢
      exact ih h

theorem run_eql_same (v u : V) (h : v = u) : ∀ w, (binOp .eql 25 v.val u.val).run Tryd.prog w = .ok (.bool true) w := fun w => by
  rw [run_eql_V]; exact congrArg (fun b => Result.ok (Value.bool b) w) ((V.beq_iff v u).2 h)
theorem run_eql_diff (v u : V) (h : v ≠ u) : ∀ w, (binOp .eql 25 v.val u.val).run Tryd.prog w = .ok (.bool false) w := fun w => by
  rw [run_eql_V]; exact congrArg (fun b => Result.ok (Value.bool b) w) ((V.beq_false v u).2 h)
theorem run_neq_same (v u : V) (h : v = u) : ∀ w, (binOp .neq 25 v.val u.val).run Tryd.prog w = .ok (.bool false) w := fun w => by
  rw [run_neq_V]; exact congrArg (fun b => Result.ok (Value.bool (!b)) w) ((V.beq_iff v u).2 h)
theorem run_neq_diff (v u : V) (h : v ≠ u) : ∀ w, (binOp .neq 25 v.val u.val).run Tryd.prog w = .ok (.bool true) w := fun w => by
  rw [run_neq_V]; exact congrArg (fun b => Result.ok (Value.bool (!b)) w) ((V.beq_false v u).2 h)

theorem eq_of_all (xs ys : List V) (hl : xs.length = ys.length) (h : ∀ j (hj : j < xs.length), xs[j] = ys[j]'(hl ▸ hj)) : xs = ys :=
  List.ext_getElem hl fun i h1 _ => h i h1

set_option maxHeartbeats 400000 in
theorem sameValues_any (a a2 : Option Addr) (cap cap2 : Nat) (xs ys : List V) (w : World) (hn : xs.length ≤ maxLen) (hx : Vals w a xs) (hy : Vals w a2 ys) (b : Bool) (hb : b = true ↔ xs = ys) :
    Calls Tryd.prog 18 #[.slice a xs.length cap, .slice a2 ys.length cap2] w fun e w' => e = .returned (.bool b) ∧ Below w.heap.size w w' := by
  unfold maxLen at hn
  have HB : Hid (b = true ↔ xs = ys) := hb
  clear hb
  by_cases hl : xs.length = ys.length
  · have HL : Hid (xs.length = ys.length) := hl
    have hl2 : ((xs.length : Int) != (ys.length : Int)) = false := by simp [hl]
    clear hl
    go_enter Tryd.func18, Tryd.ntmps18
    go_wp2
    go_loopw [5] (fun i wr => ∃ k : Nat, k ≤ xs.length ∧ i = .int .i64 k ∧ (∃ m, wr = w.drewN m) ∧ Hid (∀ j (hj : j < xs.length), j < k → xs[j] = ys[j]'(HL.out ▸ hj))) (fun i _ => xs.length - (intOf i).toNat)
    case atStart => exact ⟨0, Nat.zero_le _, rfl, ⟨0, rfl⟩, fun j _ hj => absurd hj (Nat.not_lt_zero _)⟩
    case round =>
      obtain ⟨k, hk, rfl, ⟨m, rfl⟩, hall⟩ := hrel
      by_cases hlt : k < xs.length
      · have hlt2 : k < ys.length := by have := HL.out; omega
        obtain ⟨b1, o1, rfl, _, x1, x2, x3⟩ := hx.at hlt
        obtain ⟨b2, o2, rfl, _, y1, y2, y3⟩ := hy.at hlt2
        by_cases he : xs[k] = ys[k]
        · have hq := run_neq_same _ _ he
          have HE : Hid (xs[k] = ys[k]) := he
          clear he
          go_wp2
          go_quiet (fail)
          go_wp2
          go_roundw
          case rel =>
            refine ⟨k + 1, by omega, by go_num, ⟨_, rfl⟩, fun j hj hjk => ?_⟩
            by_cases e : j = k
            · subst e; exact HE.out
            · exact hall.out j hj (by omega)
          case measure => simp [intOf]; omega
        · have hq := run_neq_diff _ _ he
          have HE : Hid (¬ xs[k] = ys[k]) := he
          clear he
          go_wp2
          go_quiet (fail)
          go_wp2
          go_ret
          refine ⟨ret_bool ?_, ?_⟩
          · cases b
            · rfl
            · exact absurd (by rw [List.getElem_of_eq (HB.out.1 rfl)]) HE.out
          · exact below_drewN (below_drewN (Below.refl _ _) _) _
      · go_wp2
        go_ret
        refine ⟨ret_bool (HB.out.2 (eq_of_all xs ys HL.out fun j hj => hall.out j hj (by omega))).symm, ?_⟩
        exact below_drewN (Below.refl _ _) _
  · have hl2 : ((xs.length : Int) != (ys.length : Int)) = true := by simp; omega
    go_enter Tryd.func18, Tryd.ntmps18
    go_wp2
    go_ret
    refine ⟨ret_bool ?_, Below.refl _ _⟩
    cases b
    · rfl
    · exact absurd (congrArg List.length (HB.out.1 rfl)) hl

set_option maxHeartbeats 400000 in
theorem rPlace_any (a : Option Addr) (cap : Nat) (xs : List V) (v : V) (w : World) (hn : xs.length ≤ maxLen) (hx : Vals w a xs) :
    Calls Tryd.prog 44 #[.slice a xs.length cap, v.val] w fun e w' => e = .returned (.int .i64 (place xs v)) ∧ Below w.heap.size w w' := by
  unfold maxLen at hn
  go_enter Tryd.func44, Tryd.ntmps44
  go_wp2
  have h1 : (w.alloc (.cells #[.int .i64 v.k, .int .i64 v.n, .string v.s] 25)).cell? ⟨w.heap.size, 0, none⟩ = some (.int .i64 v.k) := by simp
  go_loopw [5] (fun i wr => ∃ k : Nat, k ≤ xs.length ∧ i = .int .i64 k ∧ (∃ m, wr = (w.alloc (.cells #[.int .i64 v.k, .int .i64 v.n, .string v.s] 25)).drewN m) ∧ Hid (∀ j (hj : j < xs.length), j < k → xs[j] ≠ v)) (fun i _ => xs.length - (intOf i).toNat)
  case atStart => exact ⟨0, Nat.zero_le _, rfl, ⟨0, rfl⟩, fun j _ hj => absurd hj (Nat.not_lt_zero _)⟩
  case round =>
    obtain ⟨k, hk, rfl, ⟨m, rfl⟩, hall⟩ := hrel
    by_cases hlt : k < xs.length
    · obtain ⟨b1, o1, rfl, hb1, x1, x2, x3⟩ := hx.at hlt
      by_cases he : xs[k] = v
      · have hq := run_eql_same _ _ he
        have HE : Hid (xs[k] = v) := he
        clear he
        go_wp2
        go_quiet (fail)
        go_wp2
        go_ret
        refine ⟨ret_int ?_, ?_⟩
        · rw [place_eq xs v k hlt (fun j hj => hall.out j (by omega) hj) HE.out]
        · exact below_drewN (below_drewN ((Below.refl _ _).alloc (Nat.le_refl _) _) _) _
      · have hq := run_eql_diff _ _ he
        have HE : Hid (¬ xs[k] = v) := he
        clear he
        go_wp2
        go_quiet (fail)
        go_wp2
        go_roundw
        case rel =>
          refine ⟨k + 1, by omega, by go_num, ⟨_, rfl⟩, fun j hj hjk => ?_⟩
          by_cases e : j = k
          · subst e; exact HE.out
          · exact hall.out j hj (by omega)
        case measure => simp [intOf]; omega
    · go_wp2
      go_ret
      refine ⟨ret_int ?_, below_drewN ((Below.refl _ _).alloc (Nat.le_refl _) _) _⟩
      rw [place_none xs v fun j hj => hall.out j hj (by omega)]

/-- What slices.Index answers. -/
def idx (xs : List V) (v : V) : Int := if place xs v < xs.length then place xs v else -1

set_option maxHeartbeats 400000 in
theorem index_any (a : Option Addr) (cap : Nat) (xs : List V) (v : V) (w : World) (hn : xs.length ≤ maxLen) (hx : Vals w a xs) :
    Calls Tryd.prog 67 #[.slice a xs.length cap, v.val] w fun e w' => e = .returned (.int .i64 (idx xs v)) ∧ Below w.heap.size w w' := by
  unfold maxLen at hn
  go_enter Tryd.func67, Tryd.ntmps67
  go_wp2
  go_loopw [8] (fun i wr => ∃ k : Nat, k ≤ xs.length ∧ i = .int .i64 k ∧ (∃ m, wr = (w.alloc (.cells #[.int .i64 v.k, .int .i64 v.n, .string v.s] 25)).drewN m) ∧ Hid (∀ j (hj : j < xs.length), j < k → xs[j] ≠ v)) (fun i _ => xs.length - (intOf i).toNat)
  case atStart => exact ⟨0, Nat.zero_le _, rfl, ⟨0, rfl⟩, fun j _ hj => absurd hj (Nat.not_lt_zero _)⟩
  case round =>
    obtain ⟨k, hk, rfl, ⟨m, rfl⟩, hall⟩ := hrel
    by_cases hlt : k < xs.length
    · obtain ⟨b1, o1, rfl, hb1, x1, x2, x3⟩ := hx.at hlt
      by_cases he : v = xs[k]
      · have hq := run_eql_same _ _ he
        have HE : Hid (v = xs[k]) := he
        clear he
        go_wp2
        go_quiet (fail)
        go_wp2
        go_ret
        refine ⟨ret_int ?_, ?_⟩
        · have hp := place_eq xs v k hlt (fun j hj => hall.out j (by omega) hj) HE.out.symm
          unfold idx; rw [hp, if_pos hlt]
        · exact below_drewN (below_drewN ((Below.refl _ _).alloc (Nat.le_refl _) _) _) _
      · have hq := run_eql_diff _ _ he
        have HE : Hid (¬ v = xs[k]) := he
        clear he
        go_wp2
        go_quiet (fail)
        go_wp2
        go_roundw
        case rel =>
          refine ⟨k + 1, by omega, by go_num, ⟨_, rfl⟩, fun j hj hjk => ?_⟩
          by_cases e : j = k
          · subst e; exact fun h => HE.out h.symm
          · exact hall.out j hj (by omega)
        case measure => simp [intOf]; omega
    · go_wp2
      go_ret
      refine ⟨ret_int ?_, below_drewN ((Below.refl _ _).alloc (Nat.le_refl _) _) _⟩
      unfold idx; rw [place_none xs v fun j hj => hall.out j hj (by omega), if_neg (Nat.lt_irrefl _)]

theorem idx_nonneg (xs : List V) (v : V) : decide (0 ≤ idx xs v) = decide (place xs v < xs.length) := by
  unfold idx; split <;> simp [*] <;> omega

set_option maxHeartbeats 400000 in
theorem contains_any (a : Option Addr) (cap : Nat) (xs : List V) (v : V) (w : World) (hn : xs.length ≤ maxLen) (hx : Vals w a xs) (b : Bool) (hb : b = decide (place xs v < xs.length)) :
    Calls Tryd.prog 52 #[.slice a xs.length cap, v.val] w fun e w' => e = .returned (.bool b) ∧ Below w.heap.size w w' := by
  have HB : Hid (b = decide (0 ≤ idx xs v)) := by rw [idx_nonneg]; exact hb
  clear hb
  go_enter Tryd.func52, Tryd.ntmps52
  go_wp2_with (go_at_call 67; refine (index_any _ _ _ _ _ hn (hx.below ((Below.refl _ _).alloc (Nat.le_refl _) _))).mono ?_; rintro e w' ⟨rfl, hb⟩)
  go_ret
  exact ⟨ret_bool (by rw [HB.out]), below_behind hb⟩

set_option maxHeartbeats 400000 in
theorem areValues_any (t : Int) (a : Option Addr) (cap : Nat) (xs : List V) (w : World) (hn : xs.length ≤ maxLen) (hx : Vals w a xs) (b : Bool) (hb : b = true ↔ xs.length ≤ 64 ∧ ∀ j (hj : j < xs.length), okB t xs[j].k xs[j].n xs[j].s = true) :
    Calls Tryd.prog 35 #[.int .i64 t, .slice a xs.length cap] w fun e w' => e = .returned (.bool b) ∧ Below w.heap.size w w' := by
  unfold maxLen at hn
  have HB := hb
  replace HB : Hid _ := HB
  clear hb
  by_cases hl : xs.length ≤ 64
  · go_enter Tryd.func35, Tryd.ntmps35
    go_wp2
    go_loopw [12] (fun i wr => ∃ k : Nat, k ≤ xs.length ∧ i = .int .i64 k ∧ Below w.heap.size w wr ∧ Hid (∀ j (hj : j < xs.length), j < k → okB t xs[j].k xs[j].n xs[j].s = true)) (fun i _ => xs.length - (intOf i).toNat)
    case atStart => exact ⟨0, Nat.zero_le _, rfl, Below.refl _ _, fun j _ hj => absurd hj (Nat.not_lt_zero _)⟩
    case round =>
      obtain ⟨k, hk, rfl, hbw, hall⟩ := hrel
      by_cases hlt : k < xs.length
      · obtain ⟨b1, o1, rfl, hb1, x1, x2, x3⟩ := (hx.below hbw).at hlt
        cases ho : okB t xs[k].k xs[k].n xs[k].s
        · have HO : Hid (okB t xs[k].k xs[k].n xs[k].s = false) := ho
          go_wp2_with (go_at_call 51; refine (isOf_any _ _ _ _ _).mono ?_; rintro e w' ⟨rfl, hb⟩)
          go_ret
          refine ⟨ret_bool ?_, below_then hbw (below_behind hb)⟩
          cases b
          · rfl
          · have := (HB.out.1 rfl).2 k hlt
            rw [HO.out] at this
            exact absurd this (by decide)
        · have HO : Hid (okB t xs[k].k xs[k].n xs[k].s = true) := ho
          go_wp2_with (go_at_call 51; refine (isOf_any _ _ _ _ _).mono ?_; rintro e w' ⟨rfl, hb⟩)
          go_roundw
          case rel =>
            refine ⟨k + 1, by omega, by go_num, below_then hbw (below_behind hb), fun j hj hjk => ?_⟩
            by_cases e : j = k
            · subst e; exact HO.out
            · exact hall.out j hj (by omega)
          case measure => simp [intOf]; omega
      · go_wp2
        go_ret
        refine ⟨ret_bool (HB.out.2 ⟨hl, fun j hj => hall.out j hj (by omega)⟩).symm, hbw⟩
  · go_enter Tryd.func35, Tryd.ntmps35
    go_wp2
    go_ret
    refine ⟨ret_bool ?_, Below.refl _ _⟩
    cases b
    · rfl
    · exact absurd (HB.out.1 rfl).1 hl
end Go.Proofs.YthplnjgijmilnaaDoor
