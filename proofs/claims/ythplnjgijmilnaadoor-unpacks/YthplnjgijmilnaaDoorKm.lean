/- The law Segmented's own small functions. -/
import Derived.Test.YthplnjgijmilnaaDoorKl
import Derived.Test.YthplnjgijmilnaaDoorKk
import Derived.Test.YthplnjgijmilnaaDoorLawP
import Derived.Deep.RegionHeld3
namespace Go.Proofs.YthplnjgijmilnaaDoor
open Go.RowKit

set_option maxHeartbeats 400000 in
theorem pick_any (c : Int) (n : Nat) (w : World) (hc : inI64 c) (hn : 0 < n) (hn2 : n ≤ 4611686018427387904) :
    Calls Tryd.prog 8 #[.int .i64 c, .int .i64 n] w fun e w' => (∃ r : Nat, e = .returned (.int .i64 r) ∧ r < n) ∧ w' = w := by
  unfold inI64 at hc
  have hn0 : ¬ ((n : Int) = 0) := by omega
  by_cases h0 : c < 0
  · go_enter Tryd.func8, Tryd.ntmps8
    go_wp2
    go_ret
    have hm := Int.emod_nonneg (-(c + 1)) hn0
    have hl := Int.emod_lt_of_pos (-(c + 1)) (show (0 : Int) < n by omega)
    have e : -((c + 1).tmod n) = (((-(c + 1)) % (n : Int)).toNat : Int) := by
      rw [← Int.neg_tmod, Int.tmod_eq_emod_of_nonneg (by omega)]
      omega
    refine ⟨⟨((-(c + 1)) % (n : Int)).toNat, ?_, by omega⟩, rfl⟩
    rw [← e]
    rfl
  · go_enter Tryd.func8, Tryd.ntmps8
    go_wp2
    go_ret
    have hm := Int.emod_nonneg c hn0
    have hl := Int.emod_lt_of_pos c (show (0 : Int) < n by omega)
    have e : c % (n : Int) = ((c % (n : Int)).toNat : Int) := by omega
    refine ⟨⟨(c % (n : Int)).toNat, ?_, by omega⟩, rfl⟩
    rw [← e]
    rfl

set_option maxHeartbeats 400000 in
theorem none_any (w : World) : Calls Tryd.prog 12 #[] w fun e w' => e = .returned (fault 0) ∧ Below w.heap.size w w' := by
  go_enter Tryd.func12, Tryd.ntmps12
  go_wp2
  exact bodyPost_ret (v := fault 0) (by simp [results, Tryd.results12, go_sem]) rfl ⟨rfl, (Below.refl _ _).alloc (Nat.le_refl _) _⟩

theorem i64_and1 (n : Int) : bits .and .i64 n 1 = n % 2 := by
  have h1 : (BitVec.ofInt 64 1).toNat = 2 ^ 1 - 1 := by decide
  have key : (BitVec.ofInt 64 n &&& BitVec.ofInt 64 1).toNat = (n % ((2 ^ 64 : Nat) : Int)).toNat % 2 ^ 1 := by
    rw [BitVec.toNat_and, BitVec.toNat_ofInt, h1, Nat.and_two_pow_sub_one_eq_mod]
  show IntKind.i64.wrap ((BitVec.ofInt 64 n &&& BitVec.ofInt 64 1).toNat : Nat) = n % 2
  rw [key, IntKind.wrap_i64]
  omega
theorem ok_bool (n : Int) : okB 2 2 (n % 2) ⟨#[]⟩ = true := by
  have : n % 2 = 0 ∨ n % 2 = 1 := by omega
  rcases this with e | e <;> simp [okB, okK, e]
theorem in_mod2 (n : Int) : inI64 (n % 2) := by unfold inI64; omega

set_option maxRecDepth 100000 in
set_option maxHeartbeats 1000000 in
theorem kvalue_any (v : V) (t : Int) (w : World) (ht : t = 1 ∨ t = 2 ∨ t = 3) (hk : inI64 v.k) (hn : inI64 v.n) :
    Calls Tryd.prog 9 #[v.val, .int .i64 t] w fun e w' => (∃ u : V, e = .returned u.val ∧ okB t u.k u.n u.s = true ∧ inI64 u.n) ∧ Below w.heap.size w w' := by
  have hz : okB t 0 0 (str []) = true := by simp [okB, str]
  have hi0 : inI64 0 := by unfold inI64; omega
  have hb0 : Below w.heap.size w ((w.alloc (.cells #[.int .i64 v.k, .int .i64 v.n, .string v.s] 25)).alloc (.cells #[.int .i64 0, .int .i64 0, .string ⟨#[]⟩] 25)) := ((Below.refl _ _).alloc (Nat.le_refl _) _).alloc (by simp) _
  obtain ⟨k, n, s⟩ := v
  simp only at hk hn hb0
  by_cases h0 : k = 0
  · subst h0
    go_enter Tryd.func9, Tryd.ntmps9
    go_wp2_with fail
    refine bodyPost_ret (v := .agg #[.int .i64 0, .int .i64 0, .string ⟨#[]⟩]) (by simp [results, Tryd.results9, go_sem]) rfl ⟨⟨⟨0, 0, ⟨#[]⟩⟩, rfl, hz, hi0⟩, ((Below.refl _ _).alloc (Nat.le_refl _) _).alloc (by simp) _⟩
  · have h0' : (k == 0) = false := by simpa using h0
    have hand := i64_and1 n
    go_enter Tryd.func9, Tryd.ntmps9
    go_wp2_with fail
    refine (pick_any k 7 _ hk (by decide) (by decide)).mono ?_
    rintro e w1 ⟨⟨r, rfl, hr⟩, rfl⟩
    by_cases h6 : r = 6
    · subst h6
      go_wp2_with fail
      refine bodyPost_ret (v := .agg #[.int .i64 0, .int .i64 0, .string ⟨#[]⟩]) (by simp [results, Tryd.results9, go_sem]) rfl ⟨⟨⟨0, 0, ⟨#[]⟩⟩, rfl, hz, hi0⟩, ((Below.refl _ _).alloc (Nat.le_refl _) _).alloc (by simp) _⟩
    · have h6' : ((r : Int) == 6) = false := by rw [beq_eq_false_iff_ne]; omega
      by_cases h40 : s.size ≤ 40
      · have h40' : ¬ ((40 : Int) < (s.size : Int)) := by omega
        rcases ht with rfl | rfl | rfl
        · go_wp2_with fail
          refine bodyPost_ret (v := .agg #[.int .i64 1, .int .i64 n, .string ⟨#[]⟩]) (by simp [results, Tryd.results9, go_sem]) rfl ⟨⟨⟨1, n, ⟨#[]⟩⟩, rfl, by simp [okB, okK], hn⟩, ((Below.refl _ _).alloc (Nat.le_refl _) _).alloc (by simp) _⟩
        · go_wp2_with fail
          refine bodyPost_ret (v := .agg #[.int .i64 2, .int .i64 (n % 2), .string ⟨#[]⟩]) (by simp [results, Tryd.results9, go_sem]) rfl ⟨⟨⟨2, n % 2, ⟨#[]⟩⟩, rfl, ok_bool n, in_mod2 n⟩, ((Below.refl _ _).alloc (Nat.le_refl _) _).alloc (by simp) _⟩
        · go_wp2_with fail
          refine bodyPost_ret (v := .agg #[.int .i64 3, .int .i64 0, .string s]) (by simp [results, Tryd.results9, go_sem]) rfl ⟨⟨⟨3, 0, s⟩, rfl, by simp [okB, okK, h40], hi0⟩, ((Below.refl _ _).alloc (Nat.le_refl _) _).alloc (by simp) _⟩
      · have h40' : ((40 : Int) < (s.size : Int)) := by omega
        have hsl : ¬ ((s.size : Int) < 40) := by omega
        rcases ht with rfl | rfl | rfl
        · go_wp2_with fail
          refine bodyPost_ret (v := .agg #[.int .i64 1, .int .i64 n, .string ⟨#[]⟩]) (by simp [results, Tryd.results9, go_sem]) rfl ⟨⟨⟨1, n, ⟨#[]⟩⟩, rfl, by simp [okB, okK], hn⟩, ((Below.refl _ _).alloc (Nat.le_refl _) _).alloc (by simp) _⟩
        · go_wp2_with fail
          refine bodyPost_ret (v := .agg #[.int .i64 2, .int .i64 (n % 2), .string ⟨#[]⟩]) (by simp [results, Tryd.results9, go_sem]) rfl ⟨⟨⟨2, n % 2, ⟨#[]⟩⟩, rfl, ok_bool n, in_mod2 n⟩, ((Below.refl _ _).alloc (Nat.le_refl _) _).alloc (by simp) _⟩
        · go_wp2_with fail
          refine bodyPost_ret (v := .agg #[.int .i64 3, .int .i64 0, .string (s.extract 0 40)]) (by simp [results, Tryd.results9, go_sem]) rfl ⟨⟨⟨3, 0, s.extract 0 40⟩, rfl, by simp [okB, okK]; omega, hi0⟩, ((Below.refl _ _).alloc (Nat.le_refl _) _).alloc (by simp) _⟩
end Go.Proofs.YthplnjgijmilnaaDoor

/-! The law Segmented: a text is no segment, or just what Pack writes of what is read. -/
namespace Go.Proofs.YthplnjgijmilnaaDoor
open Go.RowKit

theorem pRead_how {bs : List UInt8} {t how : Nat} {vs : List V} (h : pRead bs = some (t, how, vs)) : 3 ≤ bs.length ∧ (bs.getD 1 0).toNat = how ∧ pOut t how vs = (bs, 0) ∧ vs.length ≤ 64 := by
  unfold pRead at h
  cases hh : rdHead bs with
  | none => rw [hh] at h; simp at h
  | some x =>
    obtain ⟨⟨t', how', n⟩, r⟩ := x
    rw [hh] at h
    simp only at h
    cases hv : rdVals (t' : Int) (how' : Int) n r with
    | none => rw [hv] at h; simp at h
    | some y =>
      obtain ⟨us, r2⟩ := y
      rw [hv] at h
      simp only at h
      split at h
      · rename_i hp
        simp only [Option.some.injEq, Prod.mk.injEq] at h
        obtain ⟨rfl, rfl, rfl⟩ := h
        have hl := rdVals_length hv
        have hn := (rdHead_way hh).2
        refine ⟨?_, ?_, hp, by omega⟩
        · match bs, hh with
          | b0 :: b1 :: b2 :: rest, _ => simp
        · match bs, hh with
          | b0 :: b1 :: b2 :: rest, hh =>
            simp only [rdHead] at hh
            split at hh
            · simp at hh
              simpa using hh.1.2.1
            · simp at hh
      · simp at h

theorem run_neq_F (c : Int) (w : World) : (binOp .neq 31 (fault c) (fault c)).run Tryd.prog w = .ok (.bool false) w := by
  simp [binOp, run_equal_F]

set_option maxRecDepth 100000 in
set_option maxHeartbeats 2000000 in
theorem written_any (bs : List UInt8) (w : World) (hl : bs.length ≤ maxLen) (a0 a1 a2 : Addr) (he : Errs w a0 a1 a2) :
    Calls Tryd.prog 13 #[.string (str bs)] w fun e w' => e = .returned (.bool true) ∧ Below w.heap.size w w' := by
  have hu := Unpack_any bs w hl a0 a1 a2 he
  have hq0 := run_neq_F 0
  have hq1 := run_eql_F 0
  go_enter Tryd.func13, Tryd.ntmps13
  go_wp2_with fail
  refine hu.mono ?_
  clear hu
  rintro e w1 ⟨hb1, ⟨hr, rfl⟩ | ⟨t, how, vs, b, hr, rfl, hb, hrow⟩⟩
  · clear hr
    go_wp2
    go_ret
    exact ⟨rfl, below_alloc hb1 _⟩
  · obtain ⟨h3, hhow, hpo, hvl⟩ := pRead_how hr
    clear hr
    have hsz := str_size bs
    have h3' : ¬ ((bs.length : Int) < 3) := by omega
    have hh : ((bs.getD 1 0).toNat : Int) = (how : Int) := by rw [hhow]
    have hlt : (how : Int) < 256 := by have := (bs.getD 1 0).toNat_lt; omega
    have hge : (0 : Int) ≤ (how : Int) := by omega
    have hidx := run_index_nat bs 1 (by omega)
    rw [hh] at hidx
    simp only [Int.natCast_one] at hidx
    have hb1s := hb1.size
    have hbl := hrow.lt
    have hba : Below w1.heap.size w1 (w1.alloc (.cells #[.int .i64 0, .int .i64 (-1), .int .i64 (-1), .int .i64 (-1), .int .i64 (-1)] 31)) := (Below.refl _ _).alloc (Nat.le_refl _) _
    have HPO : Hid (pOut t how vs = (bs, 0)) := hpo
    clear hhow hpo hh
    go_wp2_with fail
    generalize hW : w1.alloc (.cells #[.int .i64 0, .int .i64 (-1), .int .i64 (-1), .int .i64 (-1), .int .i64 (-1)] 31) = W at *
    have r0 : W.cell? ⟨w1.heap.size, 0, none⟩ = some (.int .i64 0) := by rw [← hW]; simp
    have r1 : W.cell? ⟨w1.heap.size, 1, none⟩ = some (.int .i64 (-1)) := by rw [← hW]; simp
    have r2 : W.cell? ⟨w1.heap.size, 2, none⟩ = some (.int .i64 (-1)) := by rw [← hW]; simp
    have r3 : W.cell? ⟨w1.heap.size, 3, none⟩ = some (.int .i64 (-1)) := by rw [← hW]; simp
    have r4 : W.cell? ⟨w1.heap.size, 4, none⟩ = some (.int .i64 (-1)) := by rw [← hW]; simp
    have hg1 : w1.heap.size < W.heap.size := by rw [← hW]; simp
    clear hW
    go_region_held3 (fun X => X.cell? ⟨w1.heap.size, 0, none⟩ = some (.int .i64 0) ∧ X.cell? ⟨w1.heap.size, 1, none⟩ = some (.int .i64 (-1)) ∧ X.cell? ⟨w1.heap.size, 2, none⟩ = some (.int .i64 (-1)) ∧ X.cell? ⟨w1.heap.size, 3, none⟩ = some (.int .i64 (-1)) ∧ X.cell? ⟨w1.heap.size, 4, none⟩ = some (.int .i64 (-1)))
      (first | go_keep | (go_split_ands; refine ⟨?_, ?_, ?_, ?_, ?_⟩ <;> (rw [(below_keep hbm).1 _ _ (by first | exact hg1 | assumption)]; assumption)))
      (first | (go_at_call 12; refine (none_any _).mono ?_; rintro e wm ⟨rfl, hbm⟩; have hbw : Below w1.heap.size w1 wm := (by first | exact below_then hba (below_undrew hbm) | exact below_then hba hbm)))
    clear r0 r1 r2 r3 r4 hbm hba
    have hrow2 : RowT wm b vs [] := hrow.of_block (hbw.block _ hbl)
    have hbw2 := below_then hb1 hbw
    have hv2 := hrow2.vals
    go_wp2_with fail
    refine (Pack_any (t : Int) (how : Int) _ _ vs wm (by unfold maxLen; omega) hv2 a0 a1 a2 (he.below hbw2)).mono ?_
    rintro e w3 ⟨rfl, hb3⟩
    rw [HPO.out]
    clear hv2 hrow2 hrow
    have hba3 : Below w3.heap.size w3 (w3.alloc (.cells #[.int .i64 0, .int .i64 (-1), .int .i64 (-1), .int .i64 (-1), .int .i64 (-1)] 31)) := (Below.refl _ _).alloc (Nat.le_refl _) _
    go_wp2_with fail
    generalize hW : w3.alloc (.cells #[.int .i64 0, .int .i64 (-1), .int .i64 (-1), .int .i64 (-1), .int .i64 (-1)] 31) = W3 at *
    have r0 : W3.cell? ⟨w3.heap.size, 0, none⟩ = some (.int .i64 0) := by rw [← hW]; simp
    have r1 : W3.cell? ⟨w3.heap.size, 1, none⟩ = some (.int .i64 (-1)) := by rw [← hW]; simp
    have r2 : W3.cell? ⟨w3.heap.size, 2, none⟩ = some (.int .i64 (-1)) := by rw [← hW]; simp
    have r3 : W3.cell? ⟨w3.heap.size, 3, none⟩ = some (.int .i64 (-1)) := by rw [← hW]; simp
    have r4 : W3.cell? ⟨w3.heap.size, 4, none⟩ = some (.int .i64 (-1)) := by rw [← hW]; simp
    have hg3 : w3.heap.size < W3.heap.size := by rw [← hW]; simp
    clear hW
    have hb13 := below_then hbw2 hb3
    go_region_held3 (fun X => X.cell? ⟨w3.heap.size, 0, none⟩ = some (.int .i64 0) ∧ X.cell? ⟨w3.heap.size, 1, none⟩ = some (.int .i64 (-1)) ∧ X.cell? ⟨w3.heap.size, 2, none⟩ = some (.int .i64 (-1)) ∧ X.cell? ⟨w3.heap.size, 3, none⟩ = some (.int .i64 (-1)) ∧ X.cell? ⟨w3.heap.size, 4, none⟩ = some (.int .i64 (-1)))
      (first | go_keep | (go_split_ands; refine ⟨?_, ?_, ?_, ?_, ?_⟩ <;> (rw [(below_keep hbm).1 _ _ (by first | exact hg3 | assumption)]; assumption)))
      (first | (go_at_call 12; refine (none_any _).mono ?_; rintro e wn ⟨rfl, hbm⟩; have hbn : Below w3.heap.size w3 wn := (by first | exact below_then hba3 (below_undrew hbm) | exact below_then hba3 hbm)))
    go_wp2
    go_ret
    exact ⟨rfl, below_then hb13 hbn⟩
end Go.Proofs.YthplnjgijmilnaaDoor
