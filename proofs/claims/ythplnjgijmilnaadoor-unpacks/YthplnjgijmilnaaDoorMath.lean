/- Plain facts on bits and bytes: a list of truth values as bytes, a number's eight bytes, how many bits a number needs. Nothing is said of the program. -/
import Derived.WalkKit
namespace Go.Proofs.YthplnjgijmilnaaDoor

/-- A text of these bytes. -/
def str (l : List UInt8) : ByteArray := ⟨l.toArray⟩
theorem str_append (a b : List UInt8) : str a ++ str b = str (a ++ b) := by
  unfold str
  rw [ByteArray.ext_iff]
  simp
theorem str_nil : ByteArray.mk #[] = str [] := rfl
theorem str_inj {a b : List UInt8} (h : str a = str b) : a = b := by
  unfold str at h
  have := congrArg (fun x : ByteArray => x.data.toList) h
  simpa using this
theorem str_toList (s : ByteArray) : str s.toList = s := by
  rw [ByteArray.toList_eq]; rfl
theorem str_size (l : List UInt8) : (str l).size = l.length := by simp [str, ByteArray.size]

/-- The number whose m bits are the truth values from place i + 8 - m on, the first the lowest. -/
def hi (l : List Bool) (i : Nat) : Nat → Nat
  | 0 => 0
  | m + 1 => 2 * hi l i m + (if l.getD (i + (7 - m)) false then 1 else 0)

theorem hi_lt (l : List Bool) (i : Nat) : ∀ m, hi l i m < 2 ^ m := by
  intro m
  induction m with
  | zero => simp [hi]
  | succ m ih => simp only [hi]; rw [Nat.pow_succ]; split <;> omega

theorem hi_testBit (l : List Bool) (i : Nat) : ∀ m, m ≤ 8 → ∀ t, (hi l i m).testBit t = (decide (t < m) && l.getD (i + (8 - m) + t) false) := by
  intro m
  induction m with
  | zero => intro _ t; simp [hi]
  | succ m ih =>
    intro hm t
    simp only [hi]
    cases t with
    | zero =>
      rw [Nat.testBit_zero]
      have e : i + (8 - (m + 1)) + 0 = i + (7 - m) := by omega
      rw [e]
      cases h : l.getD (i + (7 - m)) false
      · simp
      · simp
    | succ t =>
      rw [Nat.testBit_succ]
      have e : (2 * hi l i m + (if l.getD (i + (7 - m)) false = true then 1 else 0)) / 2 = hi l i m := by split <;> omega
      rw [e, ih (by omega) t]
      have e2 : i + (8 - (m + 1)) + (t + 1) = i + (8 - m) + t := by omega
      rw [e2]
      simp

/-- Byte number j of the truth values. -/
def byteAt (l : List Bool) (j : Nat) : Nat := hi l (8 * j) 8
theorem byteAt_lt (l : List Bool) (j : Nat) : byteAt l j < 256 := hi_lt l (8 * j) 8
theorem byteAt_testBit (l : List Bool) (j t : Nat) : (byteAt l j).testBit t = (decide (t < 8) && l.getD (8 * j + t) false) := by
  unfold byteAt; rw [hi_testBit l (8 * j) 8 (Nat.le_refl _) t]; simp
theorem byteAt_nil (j : Nat) : byteAt [] j = 0 := by
  apply Nat.eq_of_testBit_eq
  intro t
  rw [byteAt_testBit]; simp

/-- One truth value more: the bit is set in the byte in which it lies, and no other byte turns. -/
theorem byteAt_take (l : List Bool) (n j : Nat) (hn : n < l.length) :
    byteAt (l.take (n + 1)) j = if j = n / 8 then byteAt (l.take n) j ||| ((if l[n] then 1 else 0) <<< (n % 8)) else byteAt (l.take n) j := by
  have get : ∀ m x, (l.take m).getD x false = (decide (x < m) && l.getD x false) := by
    intro m x
    simp only [List.getD_eq_getElem?_getD, List.getElem?_take]
    by_cases h : x < m <;> simp [h]
  have gn : l.getD n false = l[n] := by simp [hn]
  apply Nat.eq_of_testBit_eq
  intro t
  by_cases hj : j = n / 8
  · subst hj
    rw [if_pos rfl, Nat.testBit_or, byteAt_testBit, byteAt_testBit, get, get, Nat.testBit_shiftLeft]
    by_cases ht : t < 8
    · by_cases he : 8 * (n / 8) + t = n
      · have h1 : t = n % 8 := by omega
        have h2 : n % 8 ≤ t := by omega
        have h3 : t - n % 8 = 0 := by omega
        rw [he, gn, h3]
        cases l[n] <;> simp [h2] <;> omega
      · by_cases hlt : 8 * (n / 8) + t < n
        · have h2 : ¬ n % 8 ≤ t := by omega
          simp [ht, hlt, h2]; intro; omega
        · have h2 : ¬ (t - n % 8 = 0) := by omega
          have h4 : ((if l[n] = true then 1 else 0 : Nat)).testBit (t - n % 8) = false := by
            cases l[n]
            · simp
            · obtain ⟨q, hq⟩ := Nat.exists_eq_succ_of_ne_zero h2
              rw [hq]
              simp [Nat.testBit_succ]
          rw [h4]
          have h5 : ¬ (8 * (n / 8) + t < n + 1) := by omega
          simp [hlt, h5]
    · have h2 : ¬ (t - n % 8 = 0) := by omega
      have h4 : ((if l[n] = true then 1 else 0 : Nat)).testBit (t - n % 8) = false := by
        cases l[n]
        · simp
        · obtain ⟨q, hq⟩ := Nat.exists_eq_succ_of_ne_zero h2
          rw [hq]
          simp [Nat.testBit_succ]
      rw [h4]
      simp [ht]
  · rw [if_neg hj, byteAt_testBit, byteAt_testBit, get, get]
    by_cases ht : t < 8
    · have : decide (8 * j + t < n + 1) = decide (8 * j + t < n) := by
        rw [decide_eq_decide]; omega
      rw [this]
    · simp [ht]

/-- The truth values as bytes, the first in the lowest bit of the first byte; what is left over is 0. -/
def packBits (l : List Bool) : List UInt8 := (List.range ((l.length + 7) / 8)).map fun j => UInt8.ofNat (byteAt l j)
theorem packBits_length (l : List Bool) : (packBits l).length = (l.length + 7) / 8 := by simp [packBits]

/-- The lowest byte of a number. -/
def low (n : Int) : UInt8 := UInt8.ofNat (n % 256).toNat

/-- The eight bytes of a number below 2^64, the lowest first. -/
def le8 (u : Nat) : List UInt8 := (List.range 8).map fun i => UInt8.ofNat (u / 256 ^ i % 256)
theorem le8_length (u : Nat) : (le8 u).length = 8 := by simp [le8]

/-- A number of 64 bits without a sign. -/
def u64 (n : Int) : Nat := (n % 18446744073709551616).toNat
theorem u64_lt (n : Int) : u64 n < 18446744073709551616 := by unfold u64; omega

/-- The bits of some numbers, so many of each, the lowest first. -/
def bitsOf (width : Nat) (ns : List Nat) : List Bool := ns.flatMap fun n => (List.range width).map fun b => n.testBit b
theorem bitsOf_length (width : Nat) (ns : List Nat) : (bitsOf width ns).length = width * ns.length := by
  induction ns with
  | nil => simp [bitsOf]
  | cons n ns ih =>
    unfold bitsOf at *
    rw [List.flatMap_cons, List.length_append, ih]
    simp [Nat.mul_add]; omega
theorem bitsOf_snoc (width : Nat) (ns : List Nat) (n : Nat) : bitsOf width (ns ++ [n]) = bitsOf width ns ++ (List.range width).map fun b => n.testBit b := by
  simp [bitsOf]
theorem bitsOf_get (width : Nat) : ∀ (ns : List Nat) (i b : Nat) (hi : i < ns.length), b < width → (bitsOf width ns)[width * i + b]? = some (ns[i].testBit b) := by
  intro ns
  induction ns with
  | nil => intro i b hi; simp at hi
  | cons n ns ih =>
    intro i b hi hb
    have e : bitsOf width (n :: ns) = ((List.range width).map fun b => n.testBit b) ++ bitsOf width ns := by simp [bitsOf]
    rw [e]
    cases i with
    | zero =>
      simp only [Nat.mul_zero, Nat.zero_add]
      rw [List.getElem?_append_left (by simpa using hb)]
      simp [hb]
    | succ i =>
      rw [List.getElem?_append_right (by simp [Nat.mul_add]; omega)]
      have : width * (i + 1) + b - ((List.range width).map fun b => n.testBit b).length = width * i + b := by simp [Nat.mul_add]; omega
      rw [this]
      simpa using ih i b (by simpa using hi) hb
end Go.Proofs.YthplnjgijmilnaaDoor
