/- What the program's small functions over lists come to: the length of a first run, the least number, the differences to it, the greatest, how many bits it needs. -/
import Derived.Test.YthplnjgijmilnaaDoorWalkC
import Derived.Deep.OwnRows
namespace Go.Proofs.YthplnjgijmilnaaDoor
open Go.RowKit

/-- How many values from the first on are the same as v. -/
def runLen (v : V) : List V → Nat
  | [] => 0
  | u :: l => if u.beq v then runLen v l + 1 else 0
theorem runLen_le (v : V) (l : List V) : runLen v l ≤ l.length := by
  induction l with
  | nil => simp [runLen]
  | cons u l ih => unfold runLen; split <;> simp; omega
theorem runLen_eq (v : V) (l : List V) : ∀ (k : Nat) (_ : k ≤ l.length), (∀ j (hj : j < k), l[j]'(by omega) = v) → (∀ h : k < l.length, l[k] ≠ v) → runLen v l = k := by
  induction l with
  | nil => intro k hk _ _; simp at hk; simp [runLen, hk]
  | cons u l ih =>
    intro k hk hs hd
    cases k with
    | zero => have := hd (by simp); simp at this; simp [runLen, (V.beq_false u v).2 this]
    | succ k =>
      have h0 := hs 0 (by omega)
      simp at h0
      simp only [runLen, (V.beq_iff u v).2 h0, if_true]
      rw [ih k (by simpa using hk) (fun j hj => by have := hs (j + 1) (by omega); simpa using this) (fun h => by have := hd (by simpa using h); simpa using this)]

set_option maxHeartbeats 400000 in
theorem runLength_any (a : Option Addr) (cap : Nat) (v : V) (l : List V) (w : World) (hn : (v :: l).length ≤ 64) (hx : Vals w a (v :: l)) :
    Calls Tryd.prog 70 #[.slice a (v :: l).length cap] w fun e w' => e = .returned (.int .i64 (runLen v (v :: l))) ∧ Below w.heap.size w w' := by
  generalize hxs : v :: l = xs at *
  have h0 : 0 < xs.length := by rw [← hxs]; simp
  have hv : xs[0] = v := by subst hxs; rfl
  have HV : Hid (xs[0] = v) := hv
  clear hv hxs
  obtain ⟨b1, o1, rfl, hb1, z1, z2, z3⟩ := hx.at h0
  rw [Nat.zero_mul, Nat.add_zero] at z1 z2 z3
  go_enter Tryd.func70, Tryd.ntmps70
  go_wp2
  go_loopw [3] (fun i wr => ∃ k : Nat, 1 ≤ k ∧ k ≤ xs.length ∧ i = .int .i64 k ∧ (∃ m, wr = w.drewN m) ∧ Hid (∀ j (hj : j < xs.length), j < k → xs[j] = v)) (fun i _ => xs.length - (intOf i).toNat)
  case atStart =>
    refine ⟨1, by omega, by omega, rfl, ⟨0, rfl⟩, fun j hj h1 => ?_⟩
    have : j = 0 := by omega
    subst this; exact HV.out
  case round =>
    obtain ⟨k, hk1, hk, rfl, ⟨m, rfl⟩, hall⟩ := hrel
    by_cases hlt : k < xs.length
    · obtain ⟨b2, o2, hbo, _, x1, x2, x3⟩ := hx.at hlt
      simp at hbo
      obtain ⟨rfl, rfl⟩ := hbo
      by_cases he : xs[k] = xs[0]
      · have hq := run_eql_same _ _ he
        have HE : Hid (xs[k] = xs[0]) := he
        clear he
        go_wp2
        go_quiet (fail)
        go_wp2
        go_roundw
        case rel =>
          refine ⟨k + 1, by omega, by omega, by go_num, ⟨_, rfl⟩, fun j hj hjk => ?_⟩
          by_cases e : j = k
          · subst e; exact HE.out.trans HV.out
          · exact hall.out j hj (by omega)
        case measure => simp [intOf]; omega
      · have hq := run_eql_diff _ _ he
        have HE : Hid (¬ xs[k] = xs[0]) := he
        clear he
        go_wp2
        go_quiet (fail)
        go_wp2
        go_ret
        refine ⟨ret_int ?_, below_drewN (below_drewN (Below.refl _ _) _) _⟩
        rw [runLen_eq v xs k (by omega) (fun j hj => hall.out j (by omega) hj) (fun _ h => HE.out (h.trans HV.out.symm))]
    · have hd : decide ((k : Int) < (xs.length : Int)) = false := by simp; omega
      go_wp2
      go_quiet (fail)
      go_wp2
      go_ret
      refine ⟨ret_int ?_, below_drewN (below_drewN (Below.refl _ _) _) _⟩
      rw [runLen_eq v xs k (by omega) (fun j hj => hall.out j (by omega) hj) (fun h => absurd h hlt)]

/-- The least number of some values, from a first one on. -/
def leastFrom : Int → List V → Int
  | m, [] => m
  | m, v :: l => leastFrom (if v.n < m then v.n else m) l
theorem leastFrom_snoc (l : List V) (v : V) : ∀ m, leastFrom m (l ++ [v]) = if v.n < leastFrom m l then v.n else leastFrom m l := by
  induction l with
  | nil => intro m; rfl
  | cons u l ih => intro m; simp only [List.cons_append, leastFrom]; exact ih _

set_option maxHeartbeats 400000 in
theorem leastNumber_any (a : Option Addr) (cap : Nat) (v : V) (l : List V) (w : World) (hn : (v :: l).length ≤ 64) (hx : Vals w a (v :: l)) :
    Calls Tryd.prog 72 #[.slice a (v :: l).length cap] w fun e w' => e = .returned (.int .i64 (leastFrom v.n (v :: l))) ∧ Below w.heap.size w w' := by
  generalize hxs : v :: l = xs at *
  have h0 : 0 < xs.length := by rw [← hxs]; simp
  have hv : xs[0].n = v.n := by subst hxs; rfl
  obtain ⟨b1, o1, rfl, hb1, z1, z2, z3⟩ := hx.at h0
  rw [Nat.zero_mul, Nat.add_zero] at z1 z2 z3
  rw [hv] at z2
  clear hv hxs z1 z3
  generalize v.n = M at *
  go_enter Tryd.func72, Tryd.ntmps72
  go_wp2
  go_loopw [3, 12] (fun q i wr => ∃ k : Nat, k ≤ xs.length ∧ i = .int .i64 k ∧ q = .int .i64 (leastFrom M (xs.take k)) ∧ Below w.heap.size w wr) (fun _ i _ => xs.length - (intOf i).toNat)
  case atStart => exact ⟨0, by omega, rfl, rfl, Below.refl _ _⟩
  case round =>
    obtain ⟨k, hk, rfl, rfl, hbw⟩ := hrel
    by_cases hlt : k < xs.length
    · obtain ⟨b2, o2, hbo, _, x1, x2, x3⟩ := (hx.below hbw).at hlt
      simp at hbo
      obtain ⟨rfl, rfl⟩ := hbo
      have hts := leastFrom_snoc (xs.take k) xs[k] M
      rw [← take_snoc xs k hlt] at hts
      have HT : Hid _ := hts
      clear hts
      generalize leastFrom M (xs.take k) = q at *
      go_wp2
      go_roundw
      case rel => exact ⟨k + 1, by omega, by go_num, by rw [HT.out], below_alloc hbw _⟩
      case measure => simp [intOf]; omega
    · go_wp2
      go_ret
      have e : xs.take k = xs := List.take_of_length_le (by omega)
      rw [e]
      exact ⟨rfl, hbw⟩

/-- A row that is known cell by cell, as a slice of the call's own. -/
theorem own_of_row {w : World} {b : Nat} {t : TypeId} {n : Nat} {f : Nat → Value} (h : w.rowIs b t n f) {B : Nat} (hB : B ≤ b) (hn : n ≤ maxLen) (xs : List Value) (hl : xs.length = n) (hx : ∀ i (hi : i < xs.length), xs[i] = f i) :
    OwnC w B t (.slice (some ⟨b, 0, none⟩) n n) xs := by
  obtain ⟨c, hb, hs, hc⟩ := h
  refine ⟨by omega, .inr ⟨b, n, c, by rw [hl], hB, hb, by omega, hn, by omega, ?_⟩⟩
  apply List.ext_getElem
  · simp; omega
  · intro i h1 h2
    rw [hx i h2]
    have := hc i (by omega)
    simp only [List.getElem_take, Array.getElem_toList]
    rw [Array.getElem?_eq_some_iff] at this
    exact this.2

/-- A number without a sign in a cell. -/
def uv (n : Nat) : Value := .int .u64 (n : Int)
def dif (n least : Int) : Nat := u64 (n - least)
def difs (xs : List V) (least : Int) : List Nat := xs.map fun v => dif v.n least

theorem wrap_dif (n q : Int) : IntKind.u64.wrap (IntKind.u64.wrap n - IntKind.u64.wrap q) = (dif n q : Int) := by
  unfold dif u64
  simp only [IntKind.wrap_u64]
  omega

set_option maxHeartbeats 400000 in
theorem differences_any (a : Option Addr) (cap : Nat) (xs : List V) (q : Int) (w : World) (hn : xs.length ≤ 64) (hx : Vals w a xs) :
    Calls Tryd.prog 71 #[.slice a xs.length cap, .int .i64 q] w fun e w' => ∃ sv, e = .returned sv ∧ OwnC w' w.heap.size 85 sv ((difs xs q).map uv) ∧ Below w.heap.size w w' := by
  have hmk : ∀ W, (Instr.makeSlice 84 (.int .i64 (xs.length : Int)) (.int .i64 (xs.length : Int))).run Tryd.prog W = .ok (.slice (some ⟨W.heap.size, 0, none⟩) xs.length xs.length) (W.alloc (.cells (madeCells #[.int .u64 0] xs.length) 85)) :=
    fun W => run_make_row' 84 85 (.int .u64 0) 8 (by kernel_rfl) info_u64 rfl .i64 .i64 xs.length (by omega) (by omega) W
  go_enter Tryd.func71, Tryd.ntmps71
  go_wp2
  clear hmk
  go_loopw [13] (fun i wr => ∃ k : Nat, k ≤ xs.length ∧ i = .int .i64 k ∧ wr.rowIs w.heap.size 85 xs.length (fun j => uv (if j < k then (difs xs q)[j]?.getD 0 else 0)) ∧ Below w.heap.size w wr) (fun i _ => xs.length - (intOf i).toNat)
  case atStart => exact ⟨0, by omega, rfl, World.rowIs_made _ _ _ _, (Below.refl _ _).alloc (Nat.le_refl _) _⟩
  case round =>
    obtain ⟨k, hk, rfl, hrow, hbw⟩ := hrel
    by_cases hlt : k < xs.length
    · obtain ⟨b1, o1, rfl, hb1, x1, x2, x3⟩ := (hx.below hbw).at hlt
      have c1 := hrow.cell hlt
      have c2 := hrow.frozen k
      have c3 := hrow.lt
      have hd := wrap_dif xs[k].n q
      have HD : Hid _ := hd
      clear hd
      go_wp2
      go_roundw
      case rel =>
        refine ⟨k + 1, by omega, by go_num, ((hrow.set k _).alloc _).congr fun j hj => ?_, below_alloc (hbw.setCell (p := ⟨w.heap.size, k, none⟩) (Nat.le_refl _) _) _⟩
        by_cases e : j = k
        · subst e
          simp [difs, hlt, HD.out, uv]
        · have h1 : (j < k + 1) = (j < k) := by rw [eq_iff_iff]; omega
          simp [e, h1]
      case measure => simp [intOf]; omega
    · go_wp2
      go_ret
      refine ⟨_, rfl, own_of_row hrow (Nat.le_refl _) (by unfold maxLen; omega) _ (by simp [difs]) ?_, hbw⟩
      intro i hi
      have hi' : i < xs.length := by simpa [difs] using hi
      have hik : i < k := by omega
      simp [hik, difs, hi']

/-- The greatest of some numbers. -/
def maxOf : Nat → List Nat → Nat
  | m, [] => m
  | m, n :: l => maxOf (if m < n then n else m) l
theorem maxOf_snoc (l : List Nat) (n : Nat) : ∀ m, maxOf m (l ++ [n]) = if maxOf m l < n then n else maxOf m l := by
  induction l with
  | nil => intro m; rfl
  | cons u l ih => intro m; simp only [List.cons_append, maxOf]; exact ih _
theorem maxOf_lt (b : Nat) (l : List Nat) : ∀ m, m < b → (∀ n ∈ l, n < b) → maxOf m l < b := by
  induction l with
  | nil => intro m hm _; exact hm
  | cons u l ih =>
    intro m hm h
    simp only [maxOf]
    refine ih _ ?_ fun n hn => h n (List.mem_cons_of_mem _ hn)
    have := h u (List.mem_cons_self)
    split <;> omega

set_option maxHeartbeats 400000 in
theorem max_any (a : Option Addr) (cap : Nat) (d : Nat) (l : List Nat) (w : World) (hn : (d :: l).length ≤ 64) (hx : Cells w a ((d :: l).map uv)) :
    Calls Tryd.prog 74 #[.slice a (d :: l).length cap] w fun e w' => e = .returned (uv (maxOf d l)) ∧ Below w.heap.size w w' := by
  have hl : (d :: l).length = l.length + 1 := by simp
  obtain ⟨b1, o1, rfl, hb1, z1⟩ := hx.at (i := 0) (by simp)
  have hxs : ∀ k (hk : k < l.length), w.cell? ⟨b1, o1 + (k + 1), none⟩ = some (.int .u64 (l[k] : Nat)) := by
    intro k hk
    obtain ⟨b2, o2, hbo, _, y⟩ := hx.at (i := k + 1) (by simpa using hk)
    simp at hbo
    obtain ⟨rfl, rfl⟩ := hbo
    simpa [uv] using y
  rw [hl]
  rw [hl] at hn
  simp [uv] at z1
  clear hx hl
  go_enter Tryd.func74, Tryd.ntmps74
  go_wp2
  go_loopw [3, 4] (fun q i wr => ∃ k : Nat, k ≤ l.length ∧ i = .int .i64 ((k + 1 : Nat) : Int) ∧ q = .int .u64 (maxOf d (l.take k) : Nat) ∧ (∃ m, wr = w.drewN m)) (fun _ i _ => l.length + 1 - (intOf i).toNat)
  case atStart => exact ⟨0, by omega, rfl, rfl, ⟨0, rfl⟩⟩
  case round =>
    obtain ⟨k, hk, rfl, rfl, ⟨m, rfl⟩⟩ := hrel
    by_cases hlt : k < l.length
    · have y := hxs k hlt
      have hts := maxOf_snoc (l.take k) l[k] d
      rw [← List.take_succ_eq_append_getElem hlt] at hts
      have HT : Hid _ := hts
      clear hts hxs
      generalize maxOf d (l.take k) = q at *
      go_wp2
      go_roundw
      case rel => exact ⟨k + 1, by omega, by go_num, by rw [HT.out]; split <;> rfl, ⟨m, rfl⟩⟩
      case measure => simp [intOf]; omega
    · go_wp2
      go_ret
      have e : l.take k = l := List.take_of_length_le (by omega)
      rw [e]
      exact ⟨rfl, below_drewN (Below.refl _ _) _⟩

end Go.Proofs.YthplnjgijmilnaaDoor
