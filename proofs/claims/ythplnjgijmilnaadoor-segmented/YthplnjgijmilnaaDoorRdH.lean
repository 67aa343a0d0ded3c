/- The reader's head, its table of ways, and all values of a segment. -/
import Derived.Test.YthplnjgijmilnaaDoorRdG
namespace Go.Proofs.YthplnjgijmilnaaDoor
open Go.RowKit

set_option maxHeartbeats 400000 in
theorem rWays_any (g : Nat) (w : World) :
    Calls Tryd.prog 64 #[.pointer (some ⟨g, 0, none⟩)] w fun e w' => e = .returned (.agg #[.func (.func 79) #[.pointer (some ⟨g, 0, none⟩)] #[], .func (.func 80) #[.pointer (some ⟨g, 0, none⟩)] #[], .func (.func 81) #[.pointer (some ⟨g, 0, none⟩)] #[], .func (.func 82) #[.pointer (some ⟨g, 0, none⟩)] #[]]) ∧ Below w.heap.size w w' := by
  have hone : ∀ (W : World) (a : Addr) f x c, (store a (.func f x c)).run Tryd.prog W = match W.cell? a with
      | some _ => if W.frozen? a then .halt (.unsupported (.unsafePointer "a write to bytes that a string shares")) W else .ok () (W.setCell a (.func f x c))
      | none => match W.farStore Tryd.prog a (.func f x c) (Mode.plain == .atomic) with
        | .ok (w', _) => .ok () w'
        | .error h => .halt h W := fun W a f x c => run_store Tryd.prog W a (.func f x c) .plain rfl
  go_enter Tryd.func64, Tryd.ntmps64
  go_wp2
  exact bodyPost_ret (v := .agg #[.func (.func 79) #[.pointer (some ⟨g, 0, none⟩)] #[], .func (.func 80) #[.pointer (some ⟨g, 0, none⟩)] #[], .func (.func 81) #[.pointer (some ⟨g, 0, none⟩)] #[], .func (.func 82) #[.pointer (some ⟨g, 0, none⟩)] #[]]) (by simp [results, Tryd.results64, go_sem]) rfl ⟨rfl, (Below.refl _ _).alloc (Nat.le_refl _) _⟩

theorem size_rwayfn : (Tryd.prog.info? 91).map (fun i => i.size) = some 1 := by kernel_rfl
theorem run_index_rways (x0 x1 x2 x3 : Value) (w : World) :
    (Instr.index 92 (.agg #[x0, x1, x2, x3]) (.int .i64 0)).run Tryd.prog w = .ok x0 w ∧
    (Instr.index 92 (.agg #[x0, x1, x2, x3]) (.int .i64 1)).run Tryd.prog w = .ok x1 w ∧
    (Instr.index 92 (.agg #[x0, x1, x2, x3]) (.int .i64 2)).run Tryd.prog w = .ok x2 w ∧
    (Instr.index 92 (.agg #[x0, x1, x2, x3]) (.int .i64 3)).run Tryd.prog w = .ok x3 w := by
  obtain ⟨i, hi, hs⟩ := Option.map_eq_some_iff.1 size_rwayfn
  refine ⟨?_, ?_, ?_, ?_⟩ <;> simp [Instr.index, run_underlying Tryd.underlying92, run_underlying Tryd.underlying91, asIntOf, part, isAgg, sizeOf, typeInfo, hi, hs]

/-- The type, the way and how many. -/
def rdHead : List UInt8 → Option ((Nat × Nat × Nat) × List UInt8)
  | b0 :: b1 :: b2 :: r => if way (b0.toNat : Int) (b1.toNat : Int) = true ∧ b2.toNat ≤ 64 then some ((b0.toNat, b1.toNat, b2.toNat), r) else none
  | _ => none

set_option maxRecDepth 100000 in
set_option maxHeartbeats 1000000 in
theorem head_any (g : Nat) (t0 : Int) (bs : List UInt8) (a2 : Addr) (w : World) (h : RAt w g t0 bs a2) :
    Calls Tryd.prog 42 #[.pointer (some ⟨g, 0, none⟩)] w fun e w' => RKeep w w' g ∧ ((rdHead bs = none ∧ e = gaveUp a2) ∨ ∃ t how n rest, rdHead bs = some ((t, how, n), rest) ∧ e = .returned (.tuple #[.int .i64 (how : Nat), .int .i64 (n : Nat)]) ∧ RAt w' g (t : Nat) rest a2) := by
  have hs1 := small_any g t0 bs a2 w h
  go_enter Tryd.func42, Tryd.ntmps42
  go_wp2_with fail
  refine hs1.mono ?_
  rintro e w1 ⟨hk1, ⟨hr1, rfl⟩ | ⟨n0, r1, v, hr1, rfl, rfl, hA1⟩⟩
  · go_wp2_with fail
    refine ⟨rfl, hk1, .inl ⟨?_, rfl⟩⟩
    cases bs with
    | nil => rfl
    | cons b r => simp [rdByte] at hr1
  · cases bs with
    | nil => simp [rdByte] at hr1
    | cons b0 r0 =>
      simp [rdByte] at hr1
      obtain ⟨rfl, rfl⟩ := hr1
      clear hs1
      have c0 := hA1.typ
      have c1 := hA1.thaw 0
      have hA1' := hA1.setTyp (t' := (b0.toNat : Int))
      have hk1' := hk1.trans (RKeep.set w1 g 0 (.int .i64 (b0.toNat : Int)))
      have hb0 := b0.toNat_lt
      have hs2 := small_any g _ r0 a2 _ hA1'
      go_wp2_with fail
      refine hs2.mono ?_
      rintro e w2 ⟨hk2, ⟨hr2, rfl⟩ | ⟨n1, r1, v, hr2, rfl, rfl, hA2⟩⟩
      · go_wp2_with fail
        refine ⟨rfl, hk1'.trans hk2, .inl ⟨?_, rfl⟩⟩
        cases r0 with
        | nil => rfl
        | cons b r => simp [rdByte] at hr2
      · cases r0 with
        | nil => simp [rdByte] at hr2
        | cons b1 r0 =>
          simp [rdByte] at hr2
          obtain ⟨rfl, rfl⟩ := hr2
          clear hs2
          have hk12 := hk1'.trans hk2
          clear hk1 hk1' hA1 hA1' c0 c1 hk2
          have hb1 := b1.toNat_lt
          have hs3 := small_any g _ r0 a2 _ hA2
          go_wp2_with fail
          refine hs3.mono ?_
          rintro e w3 ⟨hk3, ⟨hr3, rfl⟩ | ⟨n2, r2, v, hr3, rfl, rfl, hA3⟩⟩
          · go_wp2_with fail
            refine ⟨rfl, hk12.trans hk3, .inl ⟨?_, rfl⟩⟩
            cases r0 with
            | nil => rfl
            | cons b r => simp [rdByte] at hr3
          · cases r0 with
            | nil => simp [rdByte] at hr3
            | cons b2 r0 =>
              simp [rdByte] at hr3
              obtain ⟨rfl, rfl⟩ := hr3
              clear hs3
              have hk := hk12.trans hk3
              clear hk12 hk3 hA2
              have c0 := hA3.typ
              have HS : Hid (rdHead (b0 :: b1 :: b2 :: r0) = if way (b0.toNat : Int) (b1.toNat : Int) = true ∧ b2.toNat ≤ 64 then some ((b0.toNat, b1.toNat, b2.toNat), r0) else none) := rfl
              have hb2 := b2.toNat_lt
              generalize b0.toNat = t at *
              generalize b1.toNat = how at *
              generalize b2.toNat = n at *
              go_wp2_with fail
              refine (canBe_any _ _ _).mono ?_
              rintro e w' ⟨rfl, hw'⟩
              subst w'
              cases hway : way (t : Int) (how : Int) with
              | false =>
                go_wp2_with fail
                refine (need_false a2 _ hA3.form).mono ?_
                rintro e w' ⟨rfl, rfl⟩
                go_wp2_with fail
                refine ⟨rfl, hk, .inl ⟨?_, rfl⟩⟩
                rw [HS.out, hway]; simp
              | true =>
                by_cases hn : n ≤ 64
                · have hnI : ((n : Int) ≤ 64) := by omega
                  go_wp2_with fail
                  refine (need_true _).mono ?_
                  rintro e w' ⟨rfl, rfl⟩
                  go_wp2_with fail
                  go_ret2
                  refine ⟨hk, .inr ⟨t, how, n, r0, ?_, rfl, hA3⟩⟩
                  rw [HS.out, hway, if_pos ⟨rfl, hn⟩]
                · go_wp2_with fail
                  rw [show decide ((n : Int) ≤ 64) = false from decide_eq_false (by omega)]
                  refine (need_false a2 _ hA3.form).mono ?_
                  rintro e w' ⟨rfl, rfl⟩
                  go_wp2_with fail
                  refine ⟨rfl, hk, .inl ⟨?_, rfl⟩⟩
                  rw [HS.out, if_neg (fun hh => hn hh.2)]

/-- So many values in one of the ways. -/
def rdBody (t how : Int) (m : Nat) (bs : List UInt8) : Option (List V × List UInt8) :=
  if how = 0 then rdMany t m bs else if how = 1 then rdDict t m bs else if how = 2 then rdRuns t m bs else rdPacked t m bs
/-- All values of a segment. -/
def rdVals (t how : Int) (n : Nat) (bs : List UInt8) : Option (List V × List UInt8) :=
  match rdFields 1 n bs with
  | none => none
  | some (hs, r) => (rdBody t how (ones hs) r).map fun x => (among hs x.1, x.2)

theorem rdRuns_length (t : Int) : ∀ (N m : Nat) (bs rest : List UInt8) (vs : List V), m ≤ N → rdRuns t m bs = some (vs, rest) → vs.length = m := by
  intro N
  induction N with
  | zero =>
    intro m bs rest vs hm h
    have : m = 0 := by omega
    subst this
    rw [rdRuns_zero] at h
    simp at h
    simp [h.1.symm]
  | succ N ih =>
    intro m bs rest vs hm h
    cases m with
    | zero => rw [rdRuns_zero] at h; simp at h; simp [h.1.symm]
    | succ m =>
      rw [rdRuns_succ] at h
      cases hb : rdByte bs with
      | none => rw [hb] at h; simp at h
      | some x =>
        obtain ⟨n, r⟩ := x
        rw [hb] at h
        simp only at h
        split at h
        · rename_i hn
          cases hv : rdValue t r with
          | none => rw [hv] at h; simp at h
          | some y =>
            obtain ⟨v, r2⟩ := y
            rw [hv] at h
            obtain ⟨z, hz, e⟩ := Option.map_eq_some_iff.1 h
            simp only [Prod.mk.injEq] at e
            have := ih (m + 1 - n) r2 z.2 z.1 (by omega) hz
            rw [← e.1, List.length_append, List.length_replicate, this]
            omega
        · simp at h
theorem rdBody_length {t how : Int} {m : Nat} {bs rest : List UInt8} {vs : List V} (h : rdBody t how m bs = some (vs, rest)) : vs.length = m := by
  unfold rdBody at h
  split at h
  · exact rdMany_length t m bs rest vs h
  · split at h
    · unfold rdDict at h
      split at h
      · simp at h
      · split at h
        · simp at h
        · split at h
          · simp at h
          · rename_i ks r3 hf
            split at h
            · simp at h
              rw [← h.1, List.length_map]
              exact rdFields_length hf
            · simp at h
    · split at h
      · exact rdRuns_length t m m bs rest vs (Nat.le_refl _) h
      · unfold rdPacked at h
        split at h
        · obtain ⟨z, hz, e⟩ := Option.map_eq_some_iff.1 h
          simp only [Prod.mk.injEq] at e
          rw [← e.1, List.length_map]
          exact rdFields_length hz
        · split at h
          · rename_i h0
            simp at h
            rw [h.1, h0]
            rfl
          · split at h
            · simp at h
            · split at h
              · simp at h
              · split at h
                · obtain ⟨z, hz, e⟩ := Option.map_eq_some_iff.1 h
                  simp only [Prod.mk.injEq] at e
                  rw [← e.1, List.length_map]
                  exact rdFields_length hz
                · simp at h

theorem ones_le (l : List Nat) : ones l ≤ l.length := by
  induction l with
  | nil => simp [ones]
  | cons x l ih => simp only [ones, List.length_cons]; split <;> omega

end Go.Proofs.YthplnjgijmilnaaDoor
