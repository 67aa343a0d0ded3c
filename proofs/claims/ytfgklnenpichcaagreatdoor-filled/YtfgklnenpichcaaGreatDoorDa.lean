/- Plain facts on a stored page: its sum, what it holds, that one byte turned is noticed. Nothing is said of the program. -/
import Derived.Test.YtfgklnenpichcaaGreatDoorKa
namespace Go.Proofs.YtfgklnenpichcaaGreatDoor
def fstep (s : Nat) (b : UInt8) : Nat := ((s ^^^ b.toNat) * 1099511628211) % 18446744073709551616
def fsum (l : List UInt8) : Nat := l.foldl fstep 14695981039346656037
/-- A number's seven lowest bytes, the lowest first. -/
def le7 (u : Nat) : List UInt8 := (List.range 7).map fun i => UInt8.ofNat (u / 256 ^ i % 256)
def sumB (l : List UInt8) : List UInt8 := le7 (fsum l)
/-- A page as it is stored. -/
def body (piece : List UInt8) : List UInt8 := piece ++ List.replicate (56 - piece.length) 0 ++ [UInt8.ofNat piece.length]
def sealP (piece : List UInt8) : List UInt8 := body piece ++ sumB (body piece)
/-- What a stored page holds. -/
def openP (p : List UInt8) : Option (List UInt8) :=
  if 56 < (p.getD 56 0).toNat ∨ p.drop 57 ≠ sumB (p.take 57) then none else some (p.take (p.getD 56 0).toNat)

theorem body_length {piece : List UInt8} (h : piece.length ≤ 56) : (body piece).length = 57 := by
  simp [body]; omega
theorem le7_length (u : Nat) : (le7 u).length = 7 := by simp [le7]
theorem sumB_length (l : List UInt8) : (sumB l).length = 7 := le7_length _
theorem sealP_length {piece : List UInt8} (h : piece.length ≤ 56) : (sealP piece).length = 64 := by
  simp [sealP, body_length h, sumB_length]
theorem sealP_take {piece : List UInt8} (h : piece.length ≤ 56) : (sealP piece).take 57 = body piece := by
  rw [sealP, List.take_append_of_le_length (by rw [body_length h]; exact Nat.le_refl _), List.take_of_length_le (by rw [body_length h]; exact Nat.le_refl _)]
theorem sealP_drop {piece : List UInt8} (h : piece.length ≤ 56) : (sealP piece).drop 57 = sumB (body piece) := by
  rw [sealP, List.drop_append, body_length h]
  simp [List.drop_of_length_le, body_length h]
theorem sealP_len {piece : List UInt8} (h : piece.length ≤ 56) : ((sealP piece).getD 56 0).toNat = piece.length := by
  have e : (sealP piece).getD 56 0 = UInt8.ofNat piece.length := by
    rw [sealP, List.getD_eq_getElem?_getD, List.getElem?_append_left (by rw [body_length h]; omega), body, List.getElem?_append_right (by simp; omega)]
    have : 56 - (piece ++ List.replicate (56 - piece.length) (0 : UInt8)).length = 0 := by simp; omega
    rw [this]; rfl
  rw [e]
  simp
  omega
theorem openP_seal {piece : List UInt8} (h : piece.length ≤ 56) : openP (sealP piece) = some piece := by
  unfold openP
  rw [sealP_len h, sealP_take h, sealP_drop h, if_neg (by simp; omega)]
  congr 1
  rw [sealP, body, List.append_assoc, List.append_assoc, List.take_left]

theorem low_step (s : Nat) (b : UInt8) : fstep s b % 72057594037927936 = (((s % 72057594037927936) ^^^ b.toNat) * 1099511628211) % 72057594037927936 := by
  have hb : b.toNat < 256 := b.toNat_lt
  unfold fstep
  rw [Nat.mod_mod_of_dvd _ (by decide : (72057594037927936 : Nat) ∣ 18446744073709551616), Nat.mul_mod]
  have h1 := @Nat.xor_mod_two_pow s b.toNat 56
  have e56 : (2 ^ 56 : Nat) = 72057594037927936 := by decide
  rw [e56, Nat.mod_eq_of_lt (a := b.toNat) (by omega)] at h1
  rw [h1]
theorem odd_inj {x y : Nat} (h : x * 1099511628211 % 72057594037927936 = y * 1099511628211 % 72057594037927936) : x % 72057594037927936 = y % 72057594037927936 := by
  have key : ∀ z : Nat, z % 72057594037927936 = (z * 1099511628211 % 72057594037927936) * 42309584051148155 % 72057594037927936 := by
    intro z
    rw [Nat.mod_mul_mod, Nat.mul_assoc, Nat.mul_mod]
    have : (1099511628211 * 42309584051148155) % 72057594037927936 = 1 := by decide
    rw [this]; simp
  rw [key x, key y, h]
theorem xor_lt56 {s : Nat} (hs : s < 72057594037927936) (b : UInt8) : s ^^^ b.toNat < 72057594037927936 := by
  have hb : b.toNat < 256 := b.toNat_lt
  exact Nat.xor_lt_two_pow (n := 56) hs (by omega)
theorem xor_inj {a b c : Nat} (h : a ^^^ c = b ^^^ c) : a = b := by
  have := congrArg (· ^^^ c) h
  simpa [Nat.xor_assoc] using this
theorem step_state {s t : Nat} (b : UInt8) (h : fstep s b % 72057594037927936 = fstep t b % 72057594037927936) : s % 72057594037927936 = t % 72057594037927936 := by
  rw [low_step, low_step] at h
  have := odd_inj h
  rw [Nat.mod_eq_of_lt (xor_lt56 (Nat.mod_lt _ (by decide)) b), Nat.mod_eq_of_lt (xor_lt56 (Nat.mod_lt _ (by decide)) b)] at this
  exact xor_inj this
theorem step_byte {s : Nat} {a b : UInt8} (h : fstep s a % 72057594037927936 = fstep s b % 72057594037927936) : a = b := by
  rw [low_step, low_step] at h
  have := odd_inj h
  rw [Nat.mod_eq_of_lt (xor_lt56 (Nat.mod_lt _ (by decide)) a), Nat.mod_eq_of_lt (xor_lt56 (Nat.mod_lt _ (by decide)) b)] at this
  rw [Nat.xor_comm, Nat.xor_comm _ b.toNat] at this
  exact UInt8.toNat_inj.1 (xor_inj this)
theorem fold_state : ∀ (l : List UInt8) {s t : Nat}, l.foldl fstep s % 72057594037927936 = l.foldl fstep t % 72057594037927936 → s % 72057594037927936 = t % 72057594037927936
  | [], _, _, h => h
  | b :: l, _, _, h => step_state b (fold_state l h)
/-- One byte of the list another one: another sum, in the lowest 56 bits. -/
theorem fsum_other (l : List UInt8) (i : Nat) (hi : i < l.length) (b : UInt8) (hb : b ≠ l[i]) : fsum (l.set i b) % 72057594037927936 ≠ fsum l % 72057594037927936 := by
  intro h
  have e1 : l.set i b = l.take i ++ b :: l.drop (i + 1) := by rw [List.set_eq_take_append_cons_drop, if_pos hi]
  have e2 : l = l.take i ++ l[i] :: l.drop (i + 1) := by simp
  unfold fsum at h
  rw [e1] at h
  conv at h => rhs; rw [e2]
  rw [List.foldl_append, List.foldl_append, List.foldl_cons, List.foldl_cons] at h
  exact hb (step_byte (fold_state _ h))
theorem le7_inj {x y : Nat} (h : le7 x = le7 y) : x % 72057594037927936 = y % 72057594037927936 := by
  have g : ∀ i, i < 7 → x / 256 ^ i % 256 = y / 256 ^ i % 256 := by
    intro i hi
    have := congrArg (fun l => (l.getD i 0).toNat) h
    simp [le7, List.getD_eq_getElem?_getD, hi] at this
    omega
  have g0 := g 0 (by omega)
  have g1 := g 1 (by omega)
  have g2 := g 2 (by omega)
  have g3 := g 3 (by omega)
  have g4 := g 4 (by omega)
  have g5 := g 5 (by omega)
  have g6 := g 6 (by omega)
  simp at g0 g1 g2 g3 g4 g5 g6
  omega
/-- A page of which some one byte is another than was written is not read. -/
theorem openP_turned {piece : List UInt8} (h : piece.length ≤ 56) (i : Nat) (hi : i < 64) (b : UInt8) (hb : b ≠ (sealP piece).getD i 0) : openP ((sealP piece).set i b) = none := by
  have hl := sealP_length h
  have hb' : b ≠ (sealP piece)[i] := by simpa [List.getD_eq_getElem?_getD, hl, hi] using hb
  unfold openP
  rw [if_pos]
  right
  intro he
  rcases Nat.lt_or_ge i 57 with h' | h'
  · rw [List.drop_set_of_lt h', List.take_set, sealP_drop h, sealP_take h] at he
    have hb2 : b ≠ (body piece)[i]'(by rw [body_length h]; omega) := by
      have : (sealP piece)[i] = (body piece)[i]'(by rw [body_length h]; omega) := by simp [sealP, List.getElem_append_left, body_length h, h']
      rw [← this]; exact hb'
    exact fsum_other _ i (by rw [body_length h]; omega) b hb2 (le7_inj he.symm)
  · rw [List.take_set_of_le h', sealP_take h, List.drop_set, if_neg (by omega), sealP_drop h] at he
    have hl7 := sumB_length (body piece)
    have : (sealP piece)[i] = (sumB (body piece))[i - 57]'(by omega) := by simp [sealP, List.getElem_append_right, body_length h, h']
    rw [this] at hb'
    apply hb'
    have h2 := congrArg (fun l => l.getD (i - 57) 0) he
    simp [List.getD_eq_getElem?_getD, hl7, show i - 57 < 7 by omega] at h2
    exact h2
end Go.Proofs.YtfgklnenpichcaaGreatDoor
