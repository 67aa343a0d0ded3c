/- What is written is read: each piece of a segment, and the whole. Nothing is run. -/
import Derived.Test.YtfgklnenpichcaaGreatDoorKk
namespace Go.Proofs.YtfgklnenpichcaaGreatDoor
open Go.RowKit

theorem rdTake_app (x rest : List UInt8) : rdTake x.length (x ++ rest) = some (x, rest) := by
  unfold rdTake
  rw [if_pos (by simp)]
  simp

/-- A number that 64 bits hold. -/
def inI64 (n : Int) : Prop := -9223372036854775808 ≤ n ∧ n ≤ 9223372036854775807

theorem leNat_map (u : Nat) : ∀ k, leNat ((List.range k).map fun i => UInt8.ofNat (u / 256 ^ i % 256)) = u % 256 ^ k := by
  intro k
  induction k with
  | zero => simp [leNat, Nat.mod_one]
  | succ k ih =>
    rw [List.range_succ, List.map_append, List.map_cons, List.map_nil, leNat_snoc, ih]
    have hm : u / 256 ^ k % 256 < 256 := Nat.mod_lt _ (by decide)
    have e : (UInt8.ofNat (u / 256 ^ k % 256)).toNat = u / 256 ^ k % 256 := by
      simp
    rw [e, List.length_map, List.length_range, Nat.mod_pow_succ, Nat.mul_comm]
theorem leNat_le8 (u : Nat) (h : u < 18446744073709551616) : leNat (le8 u) = u := by
  unfold le8
  rw [leNat_map]
  exact Nat.mod_eq_of_lt (by have : 256 ^ 8 = 18446744073709551616 := by decide
                             omega)
theorem wrap_u64_of (n : Int) (h : inI64 n) : wrap64 ((u64 n : Nat) : Int) = n := by
  unfold inI64 at h
  unfold wrap64 u64
  omega
theorem rdNumber_app (n : Int) (rest : List UInt8) (h : inI64 n) : rdNumber (le8 (u64 n) ++ rest) = some (n, rest) := by
  have e := rdTake_app (le8 (u64 n)) rest
  rw [le8_length] at e
  unfold rdNumber
  rw [e]
  simp only
  rw [leNat_le8 _ (u64_lt n), wrap_u64_of n h]
theorem low_toNat (n : Nat) (h : n < 256) : (low (n : Int)).toNat = n := by
  unfold low
  have e : ((n : Int) % 256).toNat = n := by omega
  rw [e]
  simp
  omega
theorem rdByte_app (n : Nat) (rest : List UInt8) (h : n < 256) : rdByte (low (n : Int) :: rest) = some (n, rest) := by
  simp [rdByte, low_toNat n h]

/-- A value that is one of the type t, not NULL. -/
def okT (t : Int) (v : V) : Prop := v.k = t ∧ okK v.k v.n v.s = true ∧ inI64 v.n

theorem empty_of (s : ByteArray) (h : s.toList.isEmpty = true) : s = str [] := by
  rw [List.isEmpty_iff] at h
  rw [← str_toList s, h]

theorem rdValue_app (t : Int) (v : V) (rest : List UInt8) (h : okT t v) : rdValue t (enc v.k v.n v.s ++ rest) = some (v, rest) := by
  obtain ⟨hk, hok, hr⟩ := h
  obtain ⟨k, n, s⟩ := v
  simp only at hk hok hr
  subst hk
  unfold okK at hok
  simp only [decide_eq_true_eq] at hok
  rcases hok with ⟨rfl, hs⟩ | ⟨rfl, hn, hs⟩ | ⟨rfl, rfl, hs⟩
  · have := empty_of s hs
    subst this
    have e : enc 1 n (str []) = le8 (u64 n) := rfl
    unfold rdValue
    rw [if_pos rfl]
    simp only [e, rdNumber_app n rest hr]
    rfl
  · have := empty_of s hs
    subst this
    have e : enc 2 n (str []) = [low n] := rfl
    unfold rdValue
    rw [if_neg (by decide), if_pos rfl]
    simp only [e]
    rcases hn with rfl | rfl
    · rfl
    · rfl
  · have e : enc 3 0 s = low (s.size : Nat) :: s.toList := rfl
    have hl : s.toList.length = s.size := by rw [ByteArray.toList_eq, Array.length_toList]; rfl
    unfold rdValue
    rw [if_neg (by decide), if_neg (by decide)]
    simp only [e]
    have e2 := rdTake_app s.toList rest
    rw [hl] at e2
    unfold rdText
    rw [List.cons_append, rdByte_app _ _ (by omega)]
    simp only [e2, Option.map_some, str_toList]

theorem rdMany_app (t : Int) : ∀ (vs : List V) (rest : List UInt8), (∀ v ∈ vs, okT t v) → rdMany t vs.length (encAll vs ++ rest) = some (vs, rest) := by
  intro vs
  have key : ∀ (n : Nat) (vs : List V) (rest : List UInt8), vs.length = n → (∀ v ∈ vs, okT t v) → rdMany t n (encAll vs ++ rest) = some (vs, rest) := by
    intro n
    induction n with
    | zero => intro vs rest hn _; rw [List.length_eq_zero_iff] at hn; subst hn; rfl
    | succ n ih =>
      intro vs rest hn hok
      obtain ⟨us, v, rfl⟩ : ∃ us v, vs = us ++ [v] := ⟨vs.dropLast, vs.getLast (by intro e; simp [e] at hn), (List.dropLast_concat_getLast _).symm⟩
      have hul : us.length = n := by simpa using hn
      have h1 := ih us (enc v.k v.n v.s ++ rest) hul fun u hu => hok u (by simp [hu])
      have e : encAll (us ++ [v]) ++ rest = encAll us ++ (enc v.k v.n v.s ++ rest) := by rw [encAll_snoc, List.append_assoc]
      rw [e, rdMany, h1]
      simp only
      rw [rdValue_app t v rest (hok v (by simp))]
      rfl
  intro rest hok
  exact key vs.length vs rest rfl hok

/-! Fields of bits. -/
theorem bitAt_pack (L : List Bool) (j : Nat) (hj : j < L.length) : bitAt (packBits L) j = L.getD j false := by
  have hlt : j / 8 < (L.length + 7) / 8 := by omega
  have e : ((packBits L).getD (j / 8) 0).toNat = byteAt L (j / 8) := by
    have hb := byteAt_lt L (j / 8)
    simp [packBits, hlt]
    omega
  unfold bitAt
  rw [e, byteAt_testBit]
  have e2 : 8 * (j / 8) + j % 8 = j := by omega
  rw [e2]
  have : j % 8 < 8 := Nat.mod_lt _ (by decide)
  simp [this]
theorem bitsTo_of (x : List UInt8) (i n : Nat) : ∀ b, (∀ k, k < b → bitAt x (i + k) = n.testBit k) → bitsTo x i b = n % 2 ^ b := by
  intro b
  induction b with
  | zero => intro _; simp [bitsTo, Nat.mod_one]
  | succ b ih =>
    intro h
    rw [bitsTo, ih fun k hk => h k (by omega), h b (by omega), Nat.mod_pow_succ, Nat.testBit_eq_decide_div_mod_eq]
    have hm : n / 2 ^ b % 2 < 2 := Nat.mod_lt _ (by decide)
    generalize n / 2 ^ b % 2 = m at *
    have : m = 0 ∨ m = 1 := by omega
    rcases this with rfl | rfl <;> simp
theorem rdFields_app (width : Nat) (ns : List Nat) (rest : List UInt8) (h : ∀ n ∈ ns, n < 2 ^ width) : rdFields width ns.length (packBits (bitsOf width ns) ++ rest) = some (ns, rest) := by
  have e := rdTake_app (packBits (bitsOf width ns)) rest
  rw [packBits_length, bitsOf_length] at e
  unfold rdFields
  rw [e]
  simp only [Option.some.injEq, Prod.mk.injEq, and_true]
  apply List.ext_getElem
  · simp
  · intro i h1 h2
    have hi : i < ns.length := h2
    rw [List.getElem_map, List.getElem_range]
    have hb : bitsTo (packBits (bitsOf width ns)) (width * i) width = ns[i] % 2 ^ width := by
      apply bitsTo_of
      intro k hk
      have hg := bitsOf_get width ns i k hi hk
      have hlt : width * i + k < (bitsOf width ns).length := by
        rcases Nat.lt_or_ge (width * i + k) (bitsOf width ns).length with h' | h'
        · exact h'
        · rw [List.getElem?_eq_none h'] at hg; simp at hg
      rw [bitAt_pack _ _ hlt, List.getD_eq_getElem?_getD, hg]
      rfl
    rw [hb, Nat.mod_eq_of_lt (h _ (List.getElem_mem hi))]

/-! A dictionary. -/
theorem getD_place (d : List V) (v : V) (h : v ∈ d) : d.getD (place d v) zeroV = v := by
  induction d with
  | nil => simp at h
  | cons u d ih =>
    by_cases e : u.beq v = true
    · have := (V.beq_iff u v).1 e
      subst this
      simp only [place, e, if_true]
      rfl
    · have hne : u ≠ v := (V.beq_false u v).1 (by simpa using e)
      have : v ∈ d := by rcases List.mem_cons.1 h with rfl | h; exact absurd rfl hne; exact h
      simp only [place, e, Bool.false_eq_true, if_false]
      rw [List.getD_cons_succ]
      exact ih this
theorem rdDict_app (t : Int) (xs : List V) (rest : List UInt8) (hok : ∀ v ∈ xs, okT t v) (hd : (uniq [] xs).length ≤ 16) : rdDict t xs.length (dictEnc xs ++ rest) = some (xs, rest) := by
  have hmem : ∀ v ∈ uniq [] xs, v ∈ xs := fun v hv => by
    rcases uniq_mem xs [] v hv with h | h
    · simp at h
    · exact h
  have hin : ∀ v ∈ xs, v ∈ uniq [] xs := fun v hv => mem_uniq xs [] v hv
  unfold dictEnc rdDict
  generalize uniq [] xs = d at *
  rw [List.cons_append, List.cons_append, rdByte_app _ _ (by omega)]
  simp only
  rw [List.append_assoc, rdMany_app t d _ fun v hv => hok v (hmem v hv)]
  simp only
  have hp : ∀ n ∈ xs.map (place d), n < d.length := by
    intro n hn
    obtain ⟨v, hv, rfl⟩ := List.mem_map.1 hn
    exact place_lt_of_mem d v (hin v hv)
  have hf := rdFields_app 4 (xs.map (place d)) rest fun n hn => by have := hp n hn; omega
  rw [List.length_map] at hf
  rw [hf]
  simp only
  rw [if_pos hp, List.map_map]
  simp only [Option.some.injEq, Prod.mk.injEq, and_true]
  conv => rhs; rw [← List.map_id xs]
  apply List.map_congr_left
  intro v hv
  exact getD_place d v (hin v hv)

/-! Runs. -/
theorem runLen_take (v : V) (l : List V) : l = List.replicate (runLen v l) v ++ l.drop (runLen v l) := by
  induction l with
  | nil => simp [runLen]
  | cons u l ih =>
    by_cases e : u.beq v = true
    · have := (V.beq_iff u v).1 e
      subst this
      simp only [runLen, e, if_true, List.replicate_succ, List.cons_append, List.drop_succ_cons]
      rw [← ih]
    · simp [runLen, e]
theorem rdRuns_app (t : Int) : ∀ (N : Nat) (xs : List V) (rest : List UInt8), xs.length ≤ N → xs.length ≤ 64 → (∀ v ∈ xs, okT t v) → rdRuns t xs.length (runsEnc xs ++ rest) = some (xs, rest) := by
  intro N
  induction N with
  | zero =>
    intro xs rest hN _ _
    have : xs = [] := List.length_eq_zero_iff.1 (by omega)
    subst this
    rw [runsEnc_nil]
    simp [rdRuns_zero]
  | succ N ih =>
    intro xs rest hN h64 hok
    cases xs with
    | nil => rw [runsEnc_nil]; simp [rdRuns_zero]
    | cons v l =>
      have hp := runLen_pos v l
      have hle := runLen_le v (v :: l)
      have htk := runLen_take v (v :: l)
      rw [runsEnc_cons]
      generalize runLen v (v :: l) = n at *
      rw [List.length_cons, rdRuns_succ, List.cons_append, List.cons_append, rdByte_app _ _ (by omega)]
      simp only [List.length_cons] at hle
      simp only [hp, hle, and_self, dite_true]
      rw [List.append_assoc, rdValue_app t v _ (hok v (by simp))]
      simp only
      have hdl : ((v :: l).drop n).length = l.length + 1 - n := by rw [List.length_drop, List.length_cons]
      simp only [List.length_cons] at hN h64
      have h2 := ih ((v :: l).drop n) rest (by omega) (by omega) fun u hu => hok u (List.mem_of_mem_drop hu)
      rw [hdl] at h2
      rw [h2]
      simp only [Option.map_some]
      rw [← htk]

/-! Packed numbers. -/
theorem aboveV_dif (t least n : Int) (h : inI64 n) : aboveV t least (dif n least) = ⟨t, n, ⟨#[]⟩⟩ := by
  unfold inI64 at h
  unfold aboveV dif u64
  rw [IntKind.wrap_u64, IntKind.wrap_u64]
  have e : wrap64 ((least % 18446744073709551616 + (((n - least) % 18446744073709551616).toNat : Int)) % 18446744073709551616) = n := by
    unfold wrap64
    omega
  rw [e]
theorem maxOf_ge (l : List Nat) : ∀ m, m ≤ maxOf m l ∧ ∀ n ∈ l, n ≤ maxOf m l := by
  induction l with
  | nil => intro m; simp [maxOf]
  | cons x l ih =>
    intro m
    unfold maxOf
    by_cases hx : m < x
    · rw [if_pos hx]
      have := ih x
      refine ⟨by omega, fun n hn => ?_⟩
      rcases List.mem_cons.1 hn with rfl | hn
      · exact this.1
      · exact this.2 n hn
    · rw [if_neg hx]
      have := ih m
      refine ⟨this.1, fun n hn => ?_⟩
      rcases List.mem_cons.1 hn with rfl | hn
      · omega
      · exact this.2 n hn
theorem lt_bitLen (n : Nat) : n < 2 ^ bitLen n := by
  unfold bitLen
  split
  · rename_i h
    rw [h]
    decide
  · exact Nat.lt_log2_self
theorem leastFrom_in (l : List V) : ∀ m, inI64 m → (∀ v ∈ l, inI64 v.n) → inI64 (leastFrom m l) := by
  induction l with
  | nil => intro m hm _; exact hm
  | cons v l ih =>
    intro m hm h
    unfold leastFrom
    split
    · exact ih _ (h v (by simp)) fun u hu => h u (by simp [hu])
    · exact ih _ hm fun u hu => h u (by simp [hu])
theorem okT_eq (t : Int) (v : V) (h : okT t v) (ht : t = 1 ∨ t = 2) : v = ⟨t, v.n, ⟨#[]⟩⟩ := by
  obtain ⟨hk, hok, hr⟩ := h
  obtain ⟨k, n, s⟩ := v
  simp only at hk hok hr
  subst hk
  unfold okK at hok
  simp only [decide_eq_true_eq] at hok
  have hs : s.toList.isEmpty = true := by
    rcases hok with ⟨_, hs⟩ | ⟨_, _, hs⟩ | ⟨e, _, _⟩
    · exact hs
    · exact hs
    · omega
  rw [empty_of s hs]
  rfl
theorem map_above (t least : Int) (xs : List V) (h : ∀ v ∈ xs, okT t v) (ht : t = 1 ∨ t = 2) : (difs xs least).map (aboveV t least) = xs := by
  unfold difs
  rw [List.map_map]
  conv => rhs; rw [← List.map_id xs]
  apply List.map_congr_left
  intro v hv
  have hv' := h v hv
  simp only [Function.comp, id]
  rw [aboveV_dif t least v.n hv'.2.2]
  exact (okT_eq t v hv' ht).symm
theorem rdPacked_app (t : Int) (xs : List V) (rest : List UInt8) (h : ∀ v ∈ xs, okT t v) (ht : t = 1 ∨ t = 2) : rdPacked t xs.length (packedEnc t xs ++ rest) = some (xs, rest) := by
  rcases ht with rfl | rfl
  · cases xs with
    | nil => rfl
    | cons v l =>
      have hn : ∀ u ∈ (v :: l), inI64 u.n := fun u hu => (h u hu).2.2
      have hle : inI64 (leastFrom v.n (v :: l)) := leastFrom_in _ _ (hn v (by simp)) hn
      have he : packedEnc 1 (v :: l) = le8 (u64 (leastFrom v.n (v :: l))) ++ [low (bitLen (maxOf (dif v.n (leastFrom v.n (v :: l))) (difs l (leastFrom v.n (v :: l)))) : Nat)] ++ packBits (bitsOf (bitLen (maxOf (dif v.n (leastFrom v.n (v :: l))) (difs l (leastFrom v.n (v :: l))))) (difs (v :: l) (leastFrom v.n (v :: l)))) := rfl
      rw [he]
      clear he
      generalize leastFrom v.n (v :: l) = least at *
      have hmx := maxOf_ge (difs l least) (dif v.n least)
      have hml : maxOf (dif v.n least) (difs l least) < 18446744073709551616 := maxOf_lt _ _ _ (u64_lt _) (difs_lt l least)
      have hw := bitLen_le64 _ hml
      have hlt := lt_bitLen (maxOf (dif v.n least) (difs l least))
      generalize maxOf (dif v.n least) (difs l least) = mx at *
      generalize bitLen mx = wd at *
      unfold rdPacked
      rw [if_neg (by decide), if_neg (by simp), List.append_assoc, List.append_assoc, rdNumber_app least _ hle]
      simp only
      rw [List.cons_append, List.nil_append, rdByte_app wd _ (by omega)]
      simp only [hw, if_true]
      have hf := rdFields_app wd (difs (v :: l) least) rest (by
        intro n hn
        have : n ≤ mx := by
          unfold difs at hn
          rw [List.map_cons] at hn
          rcases List.mem_cons.1 hn with rfl | hn
          · exact hmx.1
          · exact hmx.2 n hn
        omega)
      have hdl : (difs (v :: l) least).length = (v :: l).length := by unfold difs; simp
      rw [hdl] at hf
      rw [hf, Option.map_some, map_above 1 least _ h (.inl rfl)]
  · unfold packedEnc rdPacked
    rw [if_pos rfl, if_pos rfl]
    have hf := rdFields_app 1 (difs xs 0) rest (by
      intro n hn
      obtain ⟨v, hv, rfl⟩ := List.mem_map.1 hn
      obtain ⟨hk, hok, _⟩ := h v hv
      unfold okK at hok
      simp only [decide_eq_true_eq] at hok
      have : v.n = 0 ∨ v.n = 1 := by
        rcases hok with ⟨e, _⟩ | ⟨_, hn, _⟩ | ⟨e, _, _⟩
        · omega
        · exact hn
        · omega
      unfold dif u64
      omega)
    have hdl : (difs xs 0).length = xs.length := by unfold difs; simp
    rw [hdl] at hf
    rw [hf, Option.map_some, map_above 2 0 _ h (.inr rfl)]

/-! The whole. -/
theorem among_held (xs : List V) (h : ∀ v ∈ xs, v.k = 0 → v = zeroV) : among (xs.map heldBit) (heldOf xs) = xs := by
  induction xs with
  | nil => rfl
  | cons v xs ih =>
    have ih' := ih fun u hu => h u (List.mem_cons_of_mem _ hu)
    by_cases hk : v.k = 0
    · have e1 : heldBit v = 0 := by simp [heldBit, hk]
      have e2 : heldOf (v :: xs) = heldOf xs := by simp [heldOf, hk]
      rw [List.map_cons, e1, e2, among, if_neg (by decide), ih', h v (by simp) hk]
    · have e1 : heldBit v = 1 := by simp [heldBit, hk]
      have e2 : heldOf (v :: xs) = v :: heldOf xs := by simp [heldOf, hk]
      rw [List.map_cons, e1, e2, among, if_pos rfl]
      simp only [List.headD_cons, List.tail_cons, ih']
theorem ones_held (xs : List V) : ones (xs.map heldBit) = (heldOf xs).length := by
  induction xs with
  | nil => rfl
  | cons v xs ih =>
    by_cases hk : v.k = 0
    · have e1 : heldBit v = 0 := by simp [heldBit, hk]
      have e2 : heldOf (v :: xs) = heldOf xs := by simp [heldOf, hk]
      rw [List.map_cons, e1, e2, ones, if_neg (by decide), ih]
      omega
    · have e1 : heldBit v = 1 := by simp [heldBit, hk]
      have e2 : heldOf (v :: xs) = v :: heldOf xs := by simp [heldOf, hk]
      rw [List.map_cons, e1, e2, ones, if_pos rfl, ih, List.length_cons]
      omega
theorem okAll_null {t : Int} {xs : List V} (h : okAll t xs) (ht : 1 ≤ t) : ∀ v ∈ xs, v.k = 0 → v = zeroV := by
  intro v hv hk
  obtain ⟨j, hj, rfl⟩ := List.getElem_of_mem hv
  have := h.2 j hj
  unfold okB at this
  simp only [decide_eq_true_eq] at this
  generalize xs[j] = v at *
  rcases this with ⟨_, hn, hs⟩ | ⟨e, _⟩
  · exact V.ext' hk hn (empty_of _ hs)
  · omega
theorem okAll_held {t : Int} {xs : List V} (h : okAll t xs) (hr : ∀ v ∈ xs, inI64 v.n) : ∀ v ∈ heldOf xs, okT t v := by
  intro v hv
  unfold heldOf at hv
  rw [List.mem_filter] at hv
  obtain ⟨hv, hk⟩ := hv
  have hrv := hr v hv
  obtain ⟨j, hj, rfl⟩ := List.getElem_of_mem hv
  have := h.2 j hj
  unfold okB at this
  simp only [decide_eq_true_eq] at this
  rcases this with ⟨e, _, _⟩ | ⟨e, hok⟩
  · rw [e] at hk; simp at hk
  · exact ⟨e, hok, hrv⟩

/-- What Pack writes, Unpack reads. -/
theorem pRead_of (t how : Int) (xs : List V) (bs : List UInt8) (h : pOut t how xs = (bs, 0)) (hr : ∀ v ∈ xs, inI64 v.n) : pRead bs = some (t.toNat, how.toNat, xs) := by
  have h' := h
  unfold pOut at h'
  by_cases hb : (way t how && okAllB t xs) = true
  · rw [if_pos hb] at h'
    by_cases hd : how = 1 ∧ 16 < (uniq [] (heldOf xs)).length
    · rw [if_pos hd] at h'; simp at h'
    · rw [if_neg hd] at h'
      simp only [Prod.mk.injEq, and_true] at h'
      rw [Bool.and_eq_true] at hb
      obtain ⟨hway, hok⟩ := hb
      rw [okAllB_iff] at hok
      have hw2 := hway
      unfold way at hw2
      simp only [decide_eq_true_eq] at hw2
      obtain ⟨ht1, ht3, hh0, hh3, hne⟩ := hw2
      have h64 := hok.1
      have hTn : ((t.toNat : Nat) : Int) = t := by omega
      have hHn : ((how.toNat : Nat) : Int) = how := by omega
      have hheld := okAll_held hok hr
      have hnull := okAll_null hok (by omega)
      have hhl := heldOf_le xs
      -- the head
      have hbody : rdBody t how (heldOf xs).length (bodyEnc t how (heldOf xs) ++ []) = some (heldOf xs, []) := by
        have hcase : how = 0 ∨ how = 1 ∨ how = 2 ∨ how = 3 := by omega
        rcases hcase with rfl | rfl | rfl | rfl
        · exact rdMany_app t _ [] hheld
        · exact rdDict_app t _ [] hheld (by omega)
        · exact rdRuns_app t _ _ [] (Nat.le_refl _) (by omega) hheld
        · exact rdPacked_app t _ [] hheld (by omega)
      rw [List.append_nil] at hbody
      have hf := rdFields_app 1 (xs.map heldBit) (bodyEnc t how (heldOf xs)) (by
        intro n hn
        obtain ⟨v, _, rfl⟩ := List.mem_map.1 hn
        unfold heldBit
        split <;> decide)
      rw [heldBits, List.length_map] at hf
      have hvals : rdVals t how xs.length (packBits (xs.map fun v => v.k != 0) ++ bodyEnc t how (heldOf xs)) = some (xs, []) := by
        unfold rdVals
        rw [hf]
        simp only
        rw [ones_held, hbody, Option.map_some, among_held xs hnull]
      have hhead : rdHead bs = some ((t.toNat, how.toNat, xs.length), packBits (xs.map fun v => v.k != 0) ++ bodyEnc t how (heldOf xs)) := by
        rw [← h']
        have e : segEnc t how xs = low t :: low how :: low (xs.length : Nat) :: (packBits (xs.map fun v => v.k != 0) ++ bodyEnc t how (heldOf xs)) := rfl
        rw [e]
        have l1 : (low t).toNat = t.toNat := by rw [← hTn, low_toNat _ (by omega)]; omega
        have l2 : (low how).toNat = how.toNat := by rw [← hHn, low_toNat _ (by omega)]; omega
        have l3 : (low (xs.length : Nat)).toNat = xs.length := low_toNat _ (by omega)
        simp only [rdHead]
        rw [l1, l2, l3, hTn, hHn, if_pos ⟨hway, h64⟩]
      unfold pRead
      rw [hhead]
      simp only
      rw [hTn, hHn, hvals]
      simp only
      rw [if_pos h]
  · rw [if_neg hb] at h'; simp at h'
end Go.Proofs.YtfgklnenpichcaaGreatDoor
