/- What the document's own answer makes of numbers and truth values: one byte, eight bytes, bits as bytes. -/
import Derived.Test.YthplnjgijmilnaaDoorWalkC
import Derived.Deep.RegionWith
namespace Go.Proofs.YthplnjgijmilnaaDoor
open Go.RowKit




theorem run_conv_one (m : Int) (h0 : 0 ≤ m) (h1 : m < 256) (W : World) (g c : Nat) (hc : W.cell? ⟨g, 0, none⟩ = some (.int .u8 m)) :
    (convert 37 9 (.slice (some ⟨g, 0, none⟩) 1 c)).run Tryd.prog W = .ok (.string (str [UInt8.ofNat m.toNat])) W := by
  refine run_conv_bytes W ⟨g, 0, none⟩ c [UInt8.ofNat m.toNat] ?_
  intro j u hj
  match j, hj with
  | 0, hj =>
    simp [bv] at hj
    subst hj
    have : m.toNat % 256 = m.toNat := by omega
    simp only [Addr.add, if_pos]
    rw [hc]
    congr 2
    omega
  | j + 1, hj => simp at hj

set_option maxRecDepth 20000 in
set_option maxHeartbeats 400000 in
theorem byteOf_any (n : Int) (w : World) :
    Calls Tryd.prog 27 #[.int .i64 n] w fun e w' => e = .returned (.string (str [low n])) ∧ Below w.heap.size w w' := by
  have ha := i64_and255 n
  have hm : n % 256 % 256 = n % 256 := by omega
  have hq := run_conv_one (n % 256) (by omega) (by omega) (w.alloc (.cells #[.int .u8 (n % 256)] 5)) w.heap.size 1 (by simp)
  go_enter Tryd.func27, Tryd.ntmps27
  go_wp2
  go_ret
  exact ⟨rfl, (Below.refl _ _).alloc (Nat.le_refl _) _⟩

theorem str1_size (b : UInt8) : (str [b]).size = 1 := by rw [str_size]; rfl

theorem str_cons (b : UInt8) (s : ByteArray) : str (b :: s.toList) = str [b] ++ s := by
  rw [← str_toList s, str_append, str_toList]; rfl

theorem le8_step (u k : Nat) : (List.range (k + 1)).map (fun i => UInt8.ofNat (u / 256 ^ i % 256)) = (List.range k).map (fun i => UInt8.ofNat (u / 256 ^ i % 256)) ++ [low ((u / 256 ^ k : Nat) % 256)] := by
  rw [List.range_succ, List.map_append]
  simp only [List.map_cons, List.map_nil, low]
  congr 3
  omega

set_option maxHeartbeats 400000 in
theorem rLong_any (n : Int) (w : World) :
    Calls Tryd.prog 65 #[.int .i64 n] w fun e w' => e = .returned (.string (str (le8 (u64 n)))) ∧ Below w.heap.size w w' := by
  have hu : IntKind.u64.wrap n = (u64 n : Int) := by rw [IntKind.wrap_u64]; unfold u64; omega
  have hul := u64_lt n
  generalize u64 n = U at *
  have HU : Hid (IntKind.u64.wrap n = (U : Int)) := hu
  clear hu
  go_enter Tryd.func65, Tryd.ntmps65
  go_wp2
  go_loopw [3, 4, 5] (fun s u i wr => ∃ k : Nat, k ≤ 8 ∧ i = .int .i64 k ∧ (∃ z : Nat, z < 2^64 ∧ u = .int .u64 z ∧ Hid (z = U / 256 ^ k)) ∧ s = .string (str ((List.range k).map fun i => UInt8.ofNat (U / 256 ^ i % 256))) ∧ Below w.heap.size w wr) (fun _ _ i _ => 8 - (intOf i).toNat)
  case atStart => exact ⟨0, by omega, rfl, ⟨U, by omega, by rw [HU.out], by simp [Hid]⟩, rfl, Below.refl _ _⟩
  case round =>
    obtain ⟨k, hk, rfl, ⟨z, hz, rfl, hzk⟩, rfl, hbw⟩ := hrel
    by_cases hlt : k < 8
    · have hst := le8_step U k
      have HS : Hid _ := hst
      clear hst
      have hs1 : (str ((List.range k).map (fun i => UInt8.ofNat (U / 256 ^ i % 256)))).size ≤ 8 := by rw [str_size]; simp; omega
      have hs2 := str1_size
      generalize (List.range k).map (fun i => UInt8.ofNat (U / 256 ^ i % 256)) = l at *
      go_wp2_with (go_at_call 27; refine (byteOf_any _ _).mono ?_; rintro e w' ⟨rfl, hb⟩)
      go_roundw
      case rel =>
        refine ⟨k + 1, by omega, by go_num, ⟨z / 256, by omega, by go_num, ?_⟩, ?_, below_then hbw hb⟩
        · show z / 256 = U / 256 ^ (k + 1)
          rw [hzk.out, Nat.pow_succ, Nat.div_div_eq_div_mul]
        · rw [HS.out, ← str_append, ← hzk.out]
      case measure => simp [intOf]; omega
    · have hk8 : k = 8 := by omega
      subst hk8
      go_wp2
      go_ret
      exact ⟨rfl, hbw⟩

set_option maxHeartbeats 400000 in
theorem rBitsText_any (a : Option Addr) (cap : Nat) (l : List Bool) (w : World) (hn : l.length ≤ 100000) (hx : Cells w a (l.map Value.bool)) :
    Calls Tryd.prog 28 #[.slice a l.length cap] w fun e w' => e = .returned (.string (str (packBits l))) ∧ Below w.heap.size w w' := by
  go_enter Tryd.func28, Tryd.ntmps28
  go_wp2
  go_loopw [3, 4] (fun s i wr => ∃ j : Nat, j ≤ (l.length + 7) / 8 ∧ i = .int .i64 (8 * j : Nat) ∧ s = .string (str ((List.range j).map fun j => UInt8.ofNat (byteAt l j))) ∧ Below w.heap.size w wr) (fun _ i _ => l.length + 8 - (intOf i).toNat)
  case atStart => exact ⟨0, by omega, rfl, rfl, Below.refl _ _⟩
  case round =>
    obtain ⟨j, hj, rfl, rfl, hbw⟩ := hrel
    by_cases hlt : 8 * j < l.length
    · go_wp2
      go_loop [5, 6] (fun b k => ∃ t : Nat, t ≤ 8 ∧ k = .int .i64 ((t : Int) - 1) ∧ b = .int .i64 (hi l (8 * j) (8 - t))) (fun _ k => (intOf k + 1).toNat)
      case atStart => exact ⟨8, by omega, rfl, rfl⟩
      case round =>
        obtain ⟨t, ht, rfl, rfl⟩ := hrel
        have hb := hi_lt l (8 * j) (8 - t)
        cases t with
        | succ q =>
          have e1 : ((q + 1 : Nat) : Int) - 1 = (q : Int) := by omega
          have e2 : 8 - (q + 1) = 7 - q := by omega
          have hp : 2 ^ (7 - q) ≤ 128 := by
            have : 2 ^ (7 - q) ≤ 2 ^ 7 := Nat.pow_le_pow_right (by decide) (by omega)
            omega
          have hst : hi l (8 * j) (8 - q) = 2 * hi l (8 * j) (7 - q) + (if l.getD (8 * j + q) false then 1 else 0) := by
            have e3 : 8 - q = (7 - q) + 1 := by omega
            have e4 : 7 - (7 - q) = q := by omega
            rw [e3, hi, e4]
          rw [e2] at hb
          rw [e1, e2]
          generalize hi l (8 * j) (7 - q) = H at *
          by_cases hin : 8 * j + q < l.length
          · obtain ⟨b1, o1, rfl, hb1, x1⟩ := (hx.below hbw).at (i := 8 * j + q) (by simpa using hin)
            rw [List.getElem_map] at x1
            have hg : l.getD (8 * j + q) false = l[8 * j + q] := by simp [hin]
            cases hbit : l[8 * j + q]
            · rw [hbit] at x1 hg
              rw [hg] at hst
              have HS : Hid _ := hst
              clear hst hg hbit
              go_wp2
              go_round
              case rel => exact ⟨q, by omega, by go_num, by rw [HS.out]; go_num⟩
              case measure => simp [intOf]; omega
            · rw [hbit] at x1 hg
              rw [hg] at hst
              have HS : Hid _ := hst
              clear hst hg hbit
              go_wp2
              go_round
              case rel => exact ⟨q, by omega, by go_num, by rw [HS.out]; go_num⟩
              case measure => simp [intOf]; omega
          · have hg : l.getD (8 * j + q) false = false := by rw [List.getD_eq_getElem?_getD, List.getElem?_eq_none (by omega)]; rfl
            rw [hg] at hst
            have HS : Hid _ := hst
            clear hst hg
            go_wp2
            go_round
            case rel => exact ⟨q, by omega, by go_num, by rw [HS.out]; go_num⟩
            case measure => simp [intOf]; omega
        | zero =>
          have hst : (List.range (j + 1)).map (fun j => UInt8.ofNat (byteAt l j)) = (List.range j).map (fun j => UInt8.ofNat (byteAt l j)) ++ [low (hi l (8 * j) 8 : Nat)] := by
            rw [List.range_succ, List.map_append]
            have := byteAt_lt l j
            unfold byteAt at this
            have e : (((hi l (8 * j) 8 : Nat) : Int) % 256).toNat = hi l (8 * j) 8 := by omega
            simp only [List.map_cons, List.map_nil, low, e]
            rfl
          have HS : Hid _ := hst
          clear hst
          have hs1 : (str ((List.range j).map (fun j => UInt8.ofNat (byteAt l j)))).size ≤ 100000 := by rw [str_size]; simp; omega
          have hs2 := str1_size
          generalize (List.range j).map (fun j => UInt8.ofNat (byteAt l j)) = L at *
          simp only [Nat.sub_zero] at *
          generalize hi l (8 * j) 8 = H at *
          go_wp2_with (go_at_call 27; refine (byteOf_any _ _).mono ?_; rintro e w' ⟨rfl, hb2⟩)
          go_roundw
          case rel => exact ⟨j + 1, by omega, by go_num, by rw [HS.out, ← str_append], below_then hbw hb2⟩
          case measure => simp [intOf]; omega
    · have hj8 : j = (l.length + 7) / 8 := by omega
      subst hj8
      go_wp2
      go_ret
      exact ⟨rfl, hbw⟩

set_option maxHeartbeats 400000 in
theorem rSpelled_int (n : Int) (s : ByteArray) (w : World) :
    Calls Tryd.prog 45 #[.agg #[.int .i64 1, .int .i64 n, .string s]] w fun e w' => e = .returned (.string (str (le8 (u64 n)))) ∧ Below w.heap.size w w' := by
  go_enter Tryd.func45, Tryd.ntmps45
  go_wp2_with (go_at_call 65; refine (rLong_any _ _).mono ?_; rintro e w' ⟨rfl, hb⟩)
  go_ret
  exact ⟨rfl, below_behind hb⟩

set_option maxHeartbeats 400000 in
theorem rSpelled_bool (n : Int) (s : ByteArray) (w : World) :
    Calls Tryd.prog 45 #[.agg #[.int .i64 2, .int .i64 n, .string s]] w fun e w' => e = .returned (.string (str [low n])) ∧ Below w.heap.size w w' := by
  go_enter Tryd.func45, Tryd.ntmps45
  go_wp2_with (go_at_call 27; refine (byteOf_any _ _).mono ?_; rintro e w' ⟨rfl, hb⟩)
  go_ret
  exact ⟨rfl, below_behind hb⟩

set_option maxHeartbeats 400000 in
theorem rSpelled_text (n : Int) (s : ByteArray) (w : World) (hs : s.size ≤ 40) :
    Calls Tryd.prog 45 #[.agg #[.int .i64 3, .int .i64 n, .string s]] w fun e w' => e = .returned (.string (str (low s.size :: s.toList))) ∧ Below w.heap.size w w' := by
  go_enter Tryd.func45, Tryd.ntmps45
  have hs2 := str1_size
  go_wp2
  go_region_with (first | (go_at_call 27; refine (byteOf_any _ _).mono ?_; rintro e w' ⟨rfl, hb⟩; obtain ⟨hc, hf⟩ := below_keep hb))
  all_goals go_wp2
  all_goals
    go_ret
    refine ⟨?_, below_behind (below_undrew hb)⟩
    rw [str_cons]; rfl
end Go.Proofs.YthplnjgijmilnaaDoor
