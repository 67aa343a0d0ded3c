/- How many bits a number below 2^64 needs: math/bits.Len64, by Go's own text. -/
import Derived.Test.YthplnjgijmilnaaDoorWalkC
namespace Go.Proofs.YthplnjgijmilnaaDoor
open Go.RowKit

theorem len_fin (n m x : Nat) (hx : x < 256) (hm : m ≤ 56) (h : bitLen n = m + bitLen x) : wrap64 ((m : Int) + wrap64 ((bitLen (x % 256) : Nat) : Int)) = ((bitLen n : Nat) : Int) := by
  rw [Nat.mod_eq_of_lt hx, h]
  have := bitLen_le8 x hx
  generalize bitLen x = b at *
  unfold wrap64
  omega
theorem len_fin0 (n : Nat) (hx : n < 256) : wrap64 (wrap64 ((bitLen (n % 256) : Nat) : Int)) = ((bitLen n : Nat) : Int) := by
  rw [Nat.mod_eq_of_lt hx]
  have := bitLen_le8 n hx
  generalize bitLen n = b at *
  unfold wrap64
  omega
theorem bl8 (x : Nat) (h : 256 ≤ x) : bitLen x = 8 + bitLen (x / 256) := bitLen_shift x 8 (by omega)
theorem bl16 (x : Nat) (h : 65536 ≤ x) : bitLen x = 16 + bitLen (x / 65536) := bitLen_shift x 16 (by omega)
theorem bl32 (x : Nat) (h : 4294967296 ≤ x) : bitLen x = 32 + bitLen (x / 4294967296) := bitLen_shift x 32 (by omega)

set_option maxRecDepth 100000 in
set_option maxHeartbeats 2000000 in
theorem len64_any (n : Nat) (w : World) (hn : n < 18446744073709551616) :
    Calls Tryd.prog 73 #[.int .u64 n] w fun e w' => e = .returned (.int .i64 (bitLen n : Nat)) ∧ w' = w := by
  have hn' : Hid (n < 18446744073709551616) := hn
  clear hn
  go_enter Tryd.func73, Tryd.ntmps73
  generalize hT : ByteArray.mk _ = T
  have hsz : T.size = 256 := by rw [← hT]; decide +kernel
  have all : ∀ j : Fin 256, (T[j.val]?).map UInt8.toNat = some (bitLen j.val) := by rw [← hT]; decide +kernel
  have hget : ∀ (i : Nat) (h : i < T.size), T[i].toNat = bitLen i := by
    intro i h
    have := all ⟨i, by rw [hsz] at h; exact h⟩
    simpa [h] using this
  clear hT all
  by_cases c1 : 4294967296 ≤ n
  · have h1 : decide ((4294967296 : Int) ≤ (n : Int)) = true := by simp; omega
    have b1 := bl32 n c1
    have C1 : Hid (bitLen n = 32 + bitLen (n / 4294967296)) := b1
    clear b1
    by_cases c2 : 65536 ≤ n / 4294967296
    · have h2 : decide ((65536 : Int) ≤ (n : Int) / 4294967296) = true := by simp; omega
      have C2 : Hid (bitLen (n / 4294967296) = 16 + bitLen (n / 4294967296 / 65536)) := bl16 _ c2
      by_cases c3 : 256 ≤ n / 4294967296 / 65536
      · have h3 : decide ((256 : Int) ≤ (n : Int) / 4294967296 / 65536) = true := by simp; omega
        have C3 : Hid (bitLen (n / 4294967296 / 65536) = 8 + bitLen (n / 4294967296 / 65536 / 256)) := bl8 _ c3
        clear c1 c2 c3
        go_wp
        trace_state
        go_ret
        exact ⟨ret_int (len_fin n 56 _ (by have := hn'.out; omega) (by omega) (by rw [C1.out, C2.out, C3.out]; omega)), rfl⟩
      · have h3 : decide ((256 : Int) ≤ (n : Int) / 4294967296 / 65536) = false := by simp; omega
        have C3 : Hid (n / 4294967296 / 65536 < 256) := by show _ < _; omega
        clear c1 c2 c3
        go_wp
        go_ret
        exact ⟨ret_int (len_fin n 48 _ C3.out (by omega) (by rw [C1.out, C2.out]; omega)), rfl⟩
    · have h2 : decide ((65536 : Int) ≤ (n : Int) / 4294967296) = false := by simp; omega
      by_cases c3 : 256 ≤ n / 4294967296
      · have h3 : decide ((256 : Int) ≤ (n : Int) / 4294967296) = true := by simp; omega
        have C3 : Hid (bitLen (n / 4294967296) = 8 + bitLen (n / 4294967296 / 256)) := bl8 _ c3
        have C4 : Hid (n / 4294967296 / 256 < 256) := by show _ < _; omega
        clear c1 c2 c3
        go_wp
        go_ret
        exact ⟨ret_int (len_fin n 40 _ C4.out (by omega) (by rw [C1.out, C3.out]; omega)), rfl⟩
      · have h3 : decide ((256 : Int) ≤ (n : Int) / 4294967296) = false := by simp; omega
        have C3 : Hid (n / 4294967296 < 256) := by show _ < _; omega
        clear c1 c2 c3
        go_wp
        go_ret
        exact ⟨ret_int (len_fin n 32 _ C3.out (by omega) C1.out), rfl⟩
  · have h1 : decide ((4294967296 : Int) ≤ (n : Int)) = false := by simp; omega
    by_cases c2 : 65536 ≤ n
    · have h2 : decide ((65536 : Int) ≤ (n : Int)) = true := by simp; omega
      have C2 : Hid (bitLen n = 16 + bitLen (n / 65536)) := bl16 _ c2
      by_cases c3 : 256 ≤ n / 65536
      · have h3 : decide ((256 : Int) ≤ (n : Int) / 65536) = true := by simp; omega
        have C3 : Hid (bitLen (n / 65536) = 8 + bitLen (n / 65536 / 256)) := bl8 _ c3
        have C4 : Hid (n / 65536 / 256 < 256) := by show _ < _; omega
        clear c1 c2 c3
        go_wp
        go_ret
        exact ⟨ret_int (len_fin n 24 _ C4.out (by omega) (by rw [C2.out, C3.out]; omega)), rfl⟩
      · have h3 : decide ((256 : Int) ≤ (n : Int) / 65536) = false := by simp; omega
        have C3 : Hid (n / 65536 < 256) := by show _ < _; omega
        clear c1 c2 c3
        go_wp
        go_ret
        exact ⟨ret_int (len_fin n 16 _ C3.out (by omega) C2.out), rfl⟩
    · have h2 : decide ((65536 : Int) ≤ (n : Int)) = false := by simp; omega
      by_cases c3 : 256 ≤ n
      · have h3 : decide ((256 : Int) ≤ (n : Int)) = true := by simp; omega
        have C3 : Hid (bitLen n = 8 + bitLen (n / 256)) := bl8 _ c3
        have C4 : Hid (n / 256 < 256) := by show _ < _; omega
        clear c1 c2 c3
        go_wp
        go_ret
        exact ⟨ret_int (len_fin n 8 _ C4.out (by omega) C3.out), rfl⟩
      · have h3 : decide ((256 : Int) ≤ (n : Int)) = false := by simp; omega
        have C3 : Hid (n < 256) := by show _ < _; omega
        clear c1 c2 c3
        go_wp
        go_ret
        exact ⟨ret_int (len_fin0 n C3.out), rfl⟩
end Go.Proofs.YthplnjgijmilnaaDoor
