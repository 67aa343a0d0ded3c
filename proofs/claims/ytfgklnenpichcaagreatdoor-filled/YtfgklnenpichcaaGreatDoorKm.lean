/- The law Segmented's own small functions. -/
import Derived.Test.YtfgklnenpichcaaGreatDoorKl
import Derived.Test.YtfgklnenpichcaaGreatDoorKk
import Derived.Test.YtfgklnenpichcaaGreatDoorKq
import Derived.Deep.RegionHeld3
namespace Go.Proofs.YtfgklnenpichcaaGreatDoor
open Go.RowKit

set_option maxHeartbeats 400000 in
theorem pick_any (c : Int) (n : Nat) (w : World) (hc : inI64 c) (hn : 0 < n) (hn2 : n ≤ 4611686018427387904) :
    Calls Tryz.prog 15 #[.int .i64 c, .int .i64 n] w fun e w' => (∃ r : Nat, e = .returned (.int .i64 r) ∧ r < n) ∧ w' = w := by
  unfold inI64 at hc
  have hn0 : ¬ ((n : Int) = 0) := by omega
  by_cases h0 : c < 0
  · go_enter Tryz.func15, Tryz.ntmps15
    go_wp2
    go_ret
    have hm := Int.emod_nonneg (-(c + 1)) hn0
    have hl := Int.emod_lt_of_pos (-(c + 1)) (show (0 : Int) < n by omega)
    have e : -((c + 1).tmod n) = (((-(c + 1)) % (n : Int)).toNat : Int) := by
      rw [← Int.neg_tmod, Int.tmod_eq_emod_of_nonneg (by omega)]
      omega
    refine ⟨⟨((-(c + 1)) % (n : Int)).toNat, ?_, by omega⟩, rfl⟩
    rw [← e]
    rfl
  · go_enter Tryz.func15, Tryz.ntmps15
    go_wp2
    go_ret
    have hm := Int.emod_nonneg c hn0
    have hl := Int.emod_lt_of_pos c (show (0 : Int) < n by omega)
    have e : c % (n : Int) = ((c % (n : Int)).toNat : Int) := by omega
    refine ⟨⟨(c % (n : Int)).toNat, ?_, by omega⟩, rfl⟩
    rw [← e]
    rfl

set_option maxHeartbeats 400000 in
theorem none_any (w : World) : Calls Tryz.prog 20 #[] w fun e w' => e = .returned (fault 0) ∧ Below w.heap.size w w' := by
  go_enter Tryz.func20, Tryz.ntmps20
  go_wp2
  exact bodyPost_ret (v := fault 0) (by simp [results, Tryz.results20, go_sem]) rfl ⟨rfl, (Below.refl _ _).alloc (Nat.le_refl _) _⟩

theorem i64_and1 (n : Int) : bits .and .i64 n 1 = n % 2 := by
  have h1 : (BitVec.ofInt 64 1).toNat = 2 ^ 1 - 1 := by decide
  have key : (BitVec.ofInt 64 n &&& BitVec.ofInt 64 1).toNat = (n % ((2 ^ 64 : Nat) : Int)).toNat % 2 ^ 1 := by
    rw [BitVec.toNat_and, BitVec.toNat_ofInt, h1, Nat.and_two_pow_sub_one_eq_mod]
  show IntKind.i64.wrap ((BitVec.ofInt 64 n &&& BitVec.ofInt 64 1).toNat : Nat) = n % 2
  rw [key, IntKind.wrap_i64]
  omega
theorem ok_bool (n : Int) : okB 2 2 (n % 2) ⟨#[]⟩ = true := by
  have : n % 2 = 0 ∨ n % 2 = 1 := by omega
  rcases this with e | e <;> simp [okB, okK, e]
theorem in_mod2 (n : Int) : inI64 (n % 2) := by unfold inI64; omega

set_option maxRecDepth 100000 in
set_option maxHeartbeats 1000000 in
theorem kvalue_any (v : V) (t : Int) (w : World) (ht : t = 1 ∨ t = 2 ∨ t = 3) (hk : inI64 v.k) (hn : inI64 v.n) :
    Calls Tryz.prog 28 #[v.val, .int .i64 t] w fun e w' => (∃ u : V, e = .returned u.val ∧ okB t u.k u.n u.s = true ∧ inI64 u.n) ∧ Below w.heap.size w w' := by
  have hz : okB t 0 0 (str []) = true := by simp [okB, str]
  have hi0 : inI64 0 := by unfold inI64; omega
  have hb0 : Below w.heap.size w ((w.alloc (.cells #[.int .i64 v.k, .int .i64 v.n, .string v.s] 36)).alloc (.cells #[.int .i64 0, .int .i64 0, .string ⟨#[]⟩] 36)) := ((Below.refl _ _).alloc (Nat.le_refl _) _).alloc (by simp) _
  obtain ⟨k, n, s⟩ := v
  simp only at hk hn hb0
  by_cases h0 : k = 0
  · subst h0
    go_enter Tryz.func28, Tryz.ntmps28
    go_wp2_with fail
    refine bodyPost_ret (v := .agg #[.int .i64 0, .int .i64 0, .string ⟨#[]⟩]) (by simp [results, Tryz.results28, go_sem]) rfl ⟨⟨⟨0, 0, ⟨#[]⟩⟩, rfl, hz, hi0⟩, ((Below.refl _ _).alloc (Nat.le_refl _) _).alloc (by simp) _⟩
  · have h0' : (k == 0) = false := by simpa using h0
    have hand := i64_and1 n
    go_enter Tryz.func28, Tryz.ntmps28
    go_wp2_with fail
    refine (pick_any k 7 _ hk (by decide) (by decide)).mono ?_
    rintro e w1 ⟨⟨r, rfl, hr⟩, rfl⟩
    by_cases h6 : r = 6
    · subst h6
      go_wp2_with fail
      refine bodyPost_ret (v := .agg #[.int .i64 0, .int .i64 0, .string ⟨#[]⟩]) (by simp [results, Tryz.results28, go_sem]) rfl ⟨⟨⟨0, 0, ⟨#[]⟩⟩, rfl, hz, hi0⟩, ((Below.refl _ _).alloc (Nat.le_refl _) _).alloc (by simp) _⟩
    · have h6' : ((r : Int) == 6) = false := by rw [beq_eq_false_iff_ne]; omega
      by_cases h40 : s.size ≤ 40
      · have h40' : ¬ ((40 : Int) < (s.size : Int)) := by omega
        rcases ht with rfl | rfl | rfl
        · go_wp2_with fail
          refine bodyPost_ret (v := .agg #[.int .i64 1, .int .i64 n, .string ⟨#[]⟩]) (by simp [results, Tryz.results28, go_sem]) rfl ⟨⟨⟨1, n, ⟨#[]⟩⟩, rfl, by simp [okB, okK], hn⟩, ((Below.refl _ _).alloc (Nat.le_refl _) _).alloc (by simp) _⟩
        · go_wp2_with fail
          refine bodyPost_ret (v := .agg #[.int .i64 2, .int .i64 (n % 2), .string ⟨#[]⟩]) (by simp [results, Tryz.results28, go_sem]) rfl ⟨⟨⟨2, n % 2, ⟨#[]⟩⟩, rfl, ok_bool n, in_mod2 n⟩, ((Below.refl _ _).alloc (Nat.le_refl _) _).alloc (by simp) _⟩
        · go_wp2_with fail
          refine bodyPost_ret (v := .agg #[.int .i64 3, .int .i64 0, .string s]) (by simp [results, Tryz.results28, go_sem]) rfl ⟨⟨⟨3, 0, s⟩, rfl, by simp [okB, okK, h40], hi0⟩, ((Below.refl _ _).alloc (Nat.le_refl _) _).alloc (by simp) _⟩
      · have h40' : ((40 : Int) < (s.size : Int)) := by omega
        have hsl : ¬ ((s.size : Int) < 40) := by omega
        rcases ht with rfl | rfl | rfl
        · go_wp2_with fail
          refine bodyPost_ret (v := .agg #[.int .i64 1, .int .i64 n, .string ⟨#[]⟩]) (by simp [results, Tryz.results28, go_sem]) rfl ⟨⟨⟨1, n, ⟨#[]⟩⟩, rfl, by simp [okB, okK], hn⟩, ((Below.refl _ _).alloc (Nat.le_refl _) _).alloc (by simp) _⟩
        · go_wp2_with fail
          refine bodyPost_ret (v := .agg #[.int .i64 2, .int .i64 (n % 2), .string ⟨#[]⟩]) (by simp [results, Tryz.results28, go_sem]) rfl ⟨⟨⟨2, n % 2, ⟨#[]⟩⟩, rfl, ok_bool n, in_mod2 n⟩, ((Below.refl _ _).alloc (Nat.le_refl _) _).alloc (by simp) _⟩
        · go_wp2_with fail
          refine bodyPost_ret (v := .agg #[.int .i64 3, .int .i64 0, .string (s.extract 0 40)]) (by simp [results, Tryz.results28, go_sem]) rfl ⟨⟨⟨3, 0, s.extract 0 40⟩, rfl, by simp [okB, okK]; omega, hi0⟩, ((Below.refl _ _).alloc (Nat.le_refl _) _).alloc (by simp) _⟩

theorem pRead_how {bs : List UInt8} {t how : Nat} {vs : List V} (h : pRead bs = some (t, how, vs)) : 3 ≤ bs.length ∧ (bs.getD 1 0).toNat = how ∧ pOut t how vs = (bs, 0) ∧ vs.length ≤ 64 := by
  unfold pRead at h
  cases hh : rdHead bs with
  | none => rw [hh] at h; simp at h
  | some x =>
    obtain ⟨⟨t', how', n⟩, r⟩ := x
    rw [hh] at h
    simp only at h
    cases hv : rdVals (t' : Int) (how' : Int) n r with
    | none => rw [hv] at h; simp at h
    | some y =>
      obtain ⟨us, r2⟩ := y
      rw [hv] at h
      simp only at h
      split at h
      · rename_i hp
        simp only [Option.some.injEq, Prod.mk.injEq] at h
        obtain ⟨rfl, rfl, rfl⟩ := h
        have hl := rdVals_length hv
        have hn := (rdHead_way hh).2
        refine ⟨?_, ?_, hp, by omega⟩
        · match bs, hh with
          | b0 :: b1 :: b2 :: rest, _ => simp
        · match bs, hh with
          | b0 :: b1 :: b2 :: rest, hh =>
            simp only [rdHead] at hh
            split at hh
            · simp at hh
              simpa using hh.1.2.1
            · simp at hh
      · simp at h
end Go.Proofs.YtfgklnenpichcaaGreatDoor
